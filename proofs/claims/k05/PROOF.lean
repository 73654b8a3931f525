import PyProof.Rows.All
import HandS.TupSets
import HandS.Strs
import HandS.Dict
import HandS.Codes
import PyProof.MeetsSeq2
import HandS.ForMost
import HandS.Style
import HandS.IsInst
import HandS.Zip
import HandS.TupAny
import HandS.Defaults
import PySem.Challenge.RW_farenough_k05_trees_that_are_refused
import HandS.StrMore
import PyProof.Rows.StrJoinRep
import KE.GoesEnum
import HandS.Deep
import HandS.ExcOwn
import HandS.Property
import Wide.All
import OpenK.AllK
import Wide.FinOn
import HandS.ForExc
import HandS.ExcInit
import HandS.ExcField
import HandS.ExcIs
import HandS.ExcValue
import PyProof.ExcBaseAll.IndexError
import PyProof.ExcBaseAll.LookupError
import KE.KExcInit
import KE.KExcIs
import HandS.MakeKw
import HandS.Words
import HandS.TryMany
import HandS.Star
import HandS.RevRange
import HandS.Conv
import HandS.More
import KE.KStateDown
import HandS.Head0
import HandS.Head1
import HandS.Head2
import HandS.HeadEnd
import HandS.HeadHook2
set_option Elab.async false
set_option linter.all false
set_option maxRecDepth 100000
/-! the table of a set with at most four tuples of texts -/
namespace S4
open PySem PySem.Spec PyProof.Rows L2

abbrev Tx (P : Program) (w : World) (h : Heap) (k : List Str) (a : Addr) : Prop := IsTupleKey (PySem.strKind P w) h k a
abbrev hx (P : Program) (w : World) (k : List Str) : Int := tupleKeyHash (PySem.strKind P w) k

/-- the c-th state of the way of a hash -/
def N (t : SetTable) (g : Int) (c : Nat) : SetTable.Probe := nth t.mask (runAt t.mask (SetTable.bits g % (t.mask + 1)) (SetTable.bits g)) c
theorem N_add (t : SetTable) (g : Int) (c q : Nat) : nth t.mask (N t g c) q = N t g (c + q) := (nth_add t.mask c _ q).symm
theorem N_j (t : SetTable) (g : Int) (c : Nat) : (N t g c).j = way t.mask g c := rfl
theorem N_none (t : SetTable) (g : Int) : ∀ c, (N t g c).dummy = none
  | 0 => rfl
  | c + 1 => by
    have e : N t g (c + 1) = adv t.mask (N t g c) := nth_succ _ _ _
    have ih := N_none t g c
    rw [e]
    unfold adv
    split <;> exact ih

structure Tab (P : Program) (w : World) (h : Heap) (a : Addr) (L : List (Addr × List Str)) (es : Array (Int × Value)) (ep : Nat) (t : SetTable) : Prop where
  obj : ∃ o, h.get? a = some o ∧ o.ExactSet ∧ o.data = .set es ep t
  ents : es.toList = L.map fun q => (hx P w q.2, Value.ref q.1)
  ok : TabOk t (L.map fun q => hx P w q.2)
  diff : (L.map (·.2)).Nodup
  mem : ∀ q ∈ L, Tx P w h q.2 q.1
  m7 : t.mask = 7
  four : L.length ≤ 4

section
variable {P : Program} {w : World} {A : Around} {E : Value → Shared → Prop} {s : Shared}
variable {a : Addr} {L : List (Addr × List Str)} {es : Array (Int × Value)} {ep : Nat} {t : SetTable}

theorem Tab.size {h : Heap} (R : Tab P w h a L es ep t) : es.size = L.length := by
  rw [← Array.length_toList, R.ents, List.length_map]
theorem Tab.place {h : Heap} (R : Tab P w h a L es ep t) : t.place.size = L.length := by
  rw [R.ok.sz, List.length_map]
theorem Tab.fits {h : Heap} (R : Tab P w h a L es ep t) : t.fits es.size = true := by
  have h1 := R.place
  have h2 := R.size
  have h3 := R.four
  have h4 := R.m7
  unfold SetTable.fits SetTable.fill
  rw [R.ok.dm, Bool.and_eq_true, beq_iff_eq, decide_eq_true_eq]
  refine ⟨h1.trans h2.symm, ?_⟩
  show t.place.size + 0 ≤ t.mask
  omega
theorem Tab.ent {h : Heap} (R : Tab P w h a L es ep t) {i : Nat} {q : Addr × List Str} (e : L[i]? = some q) : es[i]? = some (hx P w q.2, Value.ref q.1) := by
  rw [← Array.getElem?_toList, R.ents, List.getElem?_map, e]
  rfl
theorem Tab.at {h : Heap} (R : Tab P w h a L es ep t) {i j : Nat} (e : t.place.toList[i]? = some j) : ∃ q, L[i]? = some q := by
  have h1 : i < t.place.toList.length := (List.getElem?_eq_some_iff.mp e).1
  rw [Array.length_toList, R.place] at h1
  exact ⟨_, List.getElem?_eq_getElem h1⟩

/-- what a probe from the c-th state meets -/
theorem Tab.meets {h : Heap} (R : Tab P w h a L es ep t) (k : List Str) {K : Nat} (kf : K < 10 * SetTable.turns t.mask)
    (ke : way t.mask (hx P w k) K ∉ t.place.toList) (kb : ∀ c, c < K → way t.mask (hx P w k) c ∈ t.place.toList) {c : Nat} (hc : c ≤ K) :
    (∃ (d i : Nat) (q : Addr × List Str), c ≤ d ∧ d < K ∧ t.place.toList[i]? = some (way t.mask (hx P w k) d) ∧ L[i]? = some q ∧
      (∀ (d' i' : Nat) (q' : Addr × List Str), c ≤ d' → d' < d → t.place.toList[i']? = some (way t.mask (hx P w k) d') → L[i']? = some q' → q'.2 ≠ k) ∧
      t.probe (fun i : Nat => (es[i]?.map (·.1)).getD 0) (hx P w k) (N t (hx P w k) c) = some (.candidate (way t.mask (hx P w k) d) i (N t (hx P w k) (d + 1)))) ∨
    ((∀ (d' i' : Nat) (q' : Addr × List Str), c ≤ d' → d' < K → t.place.toList[i']? = some (way t.mask (hx P w k) d') → L[i']? = some q' → q'.2 ≠ k) ∧
      t.probe (fun i : Nat => (es[i]?.map (·.1)).getD 0) (hx P w k) (N t (hx P w k) c) = some (.empty (way t.mask (hx P w k) K) none)) := by
  have wj : ∀ q, (nth t.mask (N t (hx P w k) c) q).j = way t.mask (hx P w k) (c + q) := fun q => congrArg SetTable.Probe.j (N_add t (hx P w k) c q)
  have hat : ∀ (i : Nat) (q : Addr × List Str), L[i]? = some q → (fun i : Nat => (es[i]?.map (·.1)).getD 0) i = hx P w q.2 := fun i q e => by
    show (es[i]?.map (·.1)).getD 0 = _
    rw [R.ent e]
    rfl
  have ck : c + (K - c) = K := by omega
  have apart : ∀ (d i' : Nat) (q' : Addr × List Str), (∀ k' i', k' < d → t.place.toList[i']? = some (nth t.mask (N t (hx P w k) c) k').j → (fun i : Nat => (es[i]?.map (·.1)).getD 0) i' ≠ hx P w k) →
      ∀ d', c ≤ d' → d' < c + d → t.place.toList[i']? = some (way t.mask (hx P w k) d') → L[i']? = some q' → q'.2 ≠ k := fun d i' q' hno d' h1 h2 h3 h4 e => by
    refine hno (d' - c) i' (by omega) ?_ ?_
    · rw [wj, show c + (d' - c) = d' by omega]
      exact h3
    · rw [hat i' q' h4, e]
  rcases go_spec t R.ok.ris R.ok.dm (fun i : Nat => (es[i]?.map (·.1)).getD 0) (hx P w k) (10 * SetTable.turns t.mask) (K - c) (N t (hx P w k) c) (N_none _ _ _) (by omega)
    (fun q hq => by rw [wj]; exact kb _ (by omega)) (by rw [wj, ck]; exact ke) with ⟨q, i, h1, h2, h3, h4, h5⟩ | ⟨h1, h2⟩
  · refine .inl ?_
    obtain ⟨z, hz⟩ := R.at h2
    refine ⟨c + q, i, z, Nat.le_add_right _ _, by omega, by rw [← wj]; exact h2, hz, fun d' i' q' => (fun a b c d => apart q i' q' h4 d' a b c d), ?_⟩
    rw [← wj]
    have e : N t (hx P w k) (c + q + 1) = nth t.mask (N t (hx P w k) c) (q + 1) := (N_add t (hx P w k) c (q + 1)).symm
    rw [e]
    exact h5
  · refine .inr ⟨fun d' i' q' a b => apart (K - c) i' q' h1 d' a (by omega), ?_⟩
    have e : way t.mask (hx P w k) K = (nth t.mask (N t (hx P w k) c) (K - c)).j := by rw [wj, ck]
    rw [e]
    exact h2

/-! questions asked of tuples of texts -/
theorem all_str {k : List Str} {vs : List Value} (h : ItemsAre (PySem.strKind P w) k vs) : ∀ v ∈ vs, ∃ x y, v = Value.str x y := by
  induction h with
  | nil => exact fun v hv => absurd hv (by simp)
  | @cons k0 v' ks vs h1 _ ih =>
    intro v hv
    rcases List.mem_cons.mp hv with e | hv
    · obtain ⟨y, e2⟩ := Value.isStrOf_shape h1
      exact ⟨k0, y, e.trans e2⟩
    · exact ih v hv
theorem stm_str (n : Nat) (x : Str) (y : Tok) : ofAClassStatement n (.str x y) = pure false := by
  cases n <;> rfl
theorem hbv_str (n : Nat) (x : Str) (y : Tok) : hashByValue n (.str x y) = pure false := by
  cases n <;> rfl
theorem stm_tx {k : List Str} {b : Addr} {Q : Bool → Shared → Prop} (hk : Tx P w s.heap k b) (h : Q false s) : wpAny (model P w) A (ofAClassStatement 8 (.ref b)) Q E s := by
  have hT := hk.typeIs
  obtain ⟨o, items, n, ho, _, hd, hi⟩ := hk
  unfold ofAClassStatement
  refine wpAny_bind (wpAny_typeOf hT ?_)
  dsimp only
  have e : (("tuple" : String) == "tuple") = true := by decide
  simp only [e, if_true, Bool.not_true, Bool.false_eq_true, if_false]
  try refine wpAny_bind (wpAny_pure ?_)
  try simp only [Bool.not_true, Bool.false_eq_true, if_false]
  show wpAny _ _ (seqItems? (.ref b) >>= _) _ _ s
  refine wpAny_bind (wpAny_seqItems ho hd ?_)
  dsimp only
  refine wpAny_bind ?_
  show wpAny _ _ (forIn items _ _) _ _ s
  rw [← Array.forIn_toList]
  refine wpAny_forIn_list _ (fun rest r s' => r.1 = none ∧ s' = s ∧ ∀ v ∈ rest, ∃ x y, v = Value.str x y) _ (fun v rest r s' z => ?_) (fun r s' z => ?_) _ _ ⟨rfl, rfl, all_str hi⟩
  · obtain ⟨z1, rfl, z3⟩ := z
    obtain ⟨x, y, rfl⟩ := z3 v List.mem_cons_self
    rw [stm_str]
    refine wpAny_bind (wpAny_pure ?_)
    simp only [Bool.false_eq_true, if_false]
    exact wpAny_pure ⟨rfl, rfl, fun u hu => z3 u (List.mem_cons_of_mem _ hu)⟩
  · obtain ⟨r1, r2⟩ := r
    obtain ⟨z1, rfl, _⟩ := z
    simp only at z1
    subst z1
    exact wpAny_pure h
theorem hbv_tx {k : List Str} {b : Addr} {Q : Bool → Shared → Prop} (hk : Tx P w s.heap k b) (h : ∀ v, Q v s) : wpAny (model P w) A (hashByValue 8 (.ref b)) Q E s := by
  have hT := hk.typeIs
  obtain ⟨o, items, n, ho, _, hd, hi⟩ := hk
  unfold hashByValue
  refine wpAny_bind (wpAny_specialOf hT F.slot_tuple_hash.lookup ?_)
  show wpAny _ _ (seqItems? (.ref b) >>= _) _ _ s
  refine wpAny_bind (wpAny_seqItems ho hd ?_)
  refine wpAny_bind ?_
  show wpAny _ _ (forIn items _ _) _ _ s
  rw [← Array.forIn_toList]
  refine wpAny_forIn_list _ (fun rest r s' => r.1 = none ∧ s' = s ∧ ∀ v ∈ rest, ∃ x y, v = Value.str x y) _ (fun v rest r s' z => ?_) (fun r s' z => ?_) _ _ ⟨rfl, rfl, all_str hi⟩
  · obtain ⟨z1, rfl, z3⟩ := z
    obtain ⟨x, y, rfl⟩ := z3 v List.mem_cons_self
    rw [hbv_str]
    refine wpAny_bind (wpAny_pure ?_)
    simp only [Bool.not_false, if_true]
    exact wpAny_pure (wpAny_pure (h false))
  · obtain ⟨r1, r2⟩ := r
    obtain ⟨z1, rfl, _⟩ := z
    simp only at z1
    subst z1
    exact wpAny_pure (h true)
theorem unseen {k : List Str} {b : Addr} {Q : Bool → Shared → Prop} (hk : Tx P w s.heap k b) {ys : List Value} (hy : ∀ y ∈ ys, ∃ q : Addr × List Str, y = Value.ref q.1 ∧ Tx P w s.heap q.2 q.1) (h : Q false s) :
    wpAny (model P w) A (searchCouldBeSeen (.ref b) ys) Q E s := by
  unfold searchCouldBeSeen
  refine wpAny_bind (wpAny_forIn_list _ (fun rest r s' => r.1 = none ∧ s' = s ∧ ∀ y ∈ rest, ∃ q : Addr × List Str, y = Value.ref q.1 ∧ Tx P w s.heap q.2 q.1) _ (fun v rest r s' z => ?_) (fun r s' z => ?_) _ _ ⟨rfl, rfl, hy⟩)
  · obtain ⟨z1, rfl, z3⟩ := z
    obtain ⟨q, rfl, hc⟩ := z3 v List.mem_cons_self
    have more : ∀ y ∈ rest, ∃ q : Addr × List Str, y = Value.ref q.1 ∧ Tx P w s'.heap q.2 q.1 := fun u hu => z3 u (List.mem_cons_of_mem _ hu)
    dsimp only
    by_cases hv : (b == q.1 || (carriedByValue (.ref b) && carriedByValue (.ref q.1))) = true
    · exact wp_if_pos hv (wpAny_pure ⟨rfl, rfl, more⟩)
    · refine wp_if_neg hv ?_
      refine wpAny_bind (wpAny_eqIsQuiet_tuple hk ?_)
      simp only [Bool.not_true, Bool.false_eq_true, if_false]
      refine wpAny_bind (wpAny_eqIsQuiet_tuple hc ?_)
      simp only [Bool.not_true, Bool.false_eq_true, if_false]
      refine wpAny_bind (stm_tx hk ?_)
      simp only [Bool.false_eq_true, if_false]
      refine wpAny_bind (stm_tx hc ?_)
      simp only [Bool.false_eq_true, if_false]
      exact wpAny_pure ⟨rfl, rfl, more⟩
  · obtain ⟨r1, r2⟩ := r
    obtain ⟨z1, rfl, _⟩ := z
    simp only at z1
    subst z1
    exact wpAny_pure h

/-- the search, from the c-th state on -/
theorem Tab.look (R : Tab P w s.heap a L es ep t) {x : Addr} {k : List Str} (hk : Tx P w s.heap k x) (hu : A.units < cLine) {K : Nat} (kf : K < 10 * SetTable.turns t.mask)
    (ke : way t.mask (hx P w k) K ∉ t.place.toList) (kb : ∀ c, c < K → way t.mask (hx P w k) c ∈ t.place.toList) {Q : SetFound → Shared → Prop}
    (yes : k ∈ L.map (·.2) → Q (.there none) s) (no : k ∉ L.map (·.2) → Q (.free (way t.mask (hx P w k) K) false) s) :
    ∀ (f c : Nat) (stand : Option SetTable.Probe), stand.getD (t.probeStart (hx P w k)) = N t (hx P w k) c → c ≤ K → K - c < f →
      (∀ (i : Nat) (q : Addr × List Str), L[i]? = some q → q.2 = k → ∃ c', c ≤ c' ∧ c' < K ∧ t.place.toList[i]? = some (way t.mask (hx P w k) c')) →
      wpAny (model P w) A (setSearchFrom a (.ref x) (hx P w k) true f stand) Q E s
  | 0, c, stand, _, _, hf, _ => absurd hf (Nat.not_lt_zero _)
  | f + 1, c, stand, hst, hc, hf, hre => by
    obtain ⟨o, ho, hex, hd⟩ := R.obj
    have live : ∀ {i j : Nat}, t.place.toList[i]? = some j → t.slot j = .live i := fun e => slot_live R.ok.ris e
    have gw : ¬ t.gaveWay = true := by
      unfold SetTable.gaveWay
      rw [R.m7]
      decide
    rw [setSearchFrom_succ]
    refine wpAny_bind (wpAny_setState_of ho hd R.fits ?_)
    dsimp only
    refine wp_if_neg gw ?_
    try refine wpAny_bind (wpAny_pure ?_)
    rw [hst]
    rcases R.meets k kf ke kb hc with ⟨d, i, q, d1, d2, d3, d4, d5, d6⟩ | ⟨d5, d6⟩
    · rw [d6]
      dsimp only
      have hq := R.mem q (List.mem_of_getElem? d4)
      have tail : wpAny (model P w) A (searchRest a (.ref x) (hx P w k) true f es t (way t.mask (hx P w k) d) i (N t (hx P w k) (d + 1))) Q E s := by
        unfold searchRest
        rw [R.ent d4]
        dsimp only
        refine wpAny_bind (wpAny_holding (wpAny_eqBool_tuple hu hq hk ?_))
        refine wpAny_bind (wpAny_setState_of ho hd R.fits ?_)
        dsimp only
        by_cases e : q.2 = k
        · exact wp_if_pos (by simp [e]) (wpAny_pure (yes (List.mem_map.mpr ⟨q, List.mem_of_getElem? d4, e⟩)))
        · refine wp_if_neg (by simp [e]) ?_
          try refine wpAny_bind (wpAny_pure ?_)
          rw [sameMem]
          dsimp only
          simp only [if_true, live d3, R.ent d4]
          refine wpAny_bind (wpAny_isSame_ref_self (wpAny_bind (wpAny_pure ?_)))
          simp only [if_true]
          refine wp_if_neg (by simp [e]) ?_
          refine Tab.look R hk hu kf ke kb yes no f (d + 1) _ rfl (by omega) (by omega) fun i0 q0 h0 e0 => ?_
          obtain ⟨c', a1, a2, a3⟩ := hre i0 q0 h0 e0
          refine ⟨c', ?_, a2, a3⟩
          rcases Nat.lt_trichotomy c' d with z | z | z
          · exact absurd e0 (d5 c' i0 q0 a1 z a3 h0)
          · rw [z] at a3
            have s0 := (live a3).symm.trans (live d3)
            injection s0 with s0
            rw [s0, d4] at h0
            exact absurd ((congrArg Prod.snd (Option.some.inj h0)).trans e0) e
          · exact z
      by_cases hl : t.led = true
      · refine wp_if_neg (by simp [hl]) ?_
        try refine wpAny_bind (wpAny_pure ?_)
        exact tail
      · refine wp_if_pos (by simp [hl]) ?_
        refine wpAny_bind (unseen hk (fun y hy => ?_) ?_)
        · obtain ⟨e, he, ee⟩ := List.mem_map.mp hy
          have he1 : e ∈ es.toList := by
            have z : e ∈ es ∧ e.1 = hx P w k := by simpa using he
            simpa using z.1
          rw [R.ents] at he1
          obtain ⟨q2, hq2, e2⟩ := List.mem_map.mp he1
          exact ⟨q2, by rw [← ee, ← e2], R.mem q2 hq2⟩
        · refine wp_if_neg (by decide) ?_
          try refine wpAny_bind (wpAny_pure ?_)
          exact tail
    · rw [d6]
      dsimp only
      refine wpAny_pure (no fun hm => ?_)
      obtain ⟨q0, h0, e0⟩ := List.mem_map.mp hm
      obtain ⟨i0, l0, g0⟩ := List.getElem_of_mem h0
      have h00 : L[i0]? = some q0 := by rw [List.getElem?_eq_getElem l0, g0]
      obtain ⟨c', a1, a2, a3⟩ := hre i0 q0 h00 e0
      exact d5 c' i0 q0 a1 a2 a3 h00 e0
end
end S4

set_option Elab.async false
set_option linter.all false
set_option maxRecDepth 100000
/-! at most four put in -/
namespace S4
open PySem PySem.Spec PyProof.Rows L2
section
variable {P : Program} {w : World} {A : Around} {E : Value → Shared → Prop} {s : Shared}
variable {a : Addr} {L : List (Addr × List Str)} {es : Array (Int × Value)} {ep : Nat} {t : SetTable}

theorem Tx.old {h h' : Heap} {k : List Str} {b : Addr} (x : Tx P w h k b) (hk : ∀ o, h.get? b = some o → h'.get? b = some o) : Tx P w h' k b := by
  obtain ⟨o, items, n, ho, r⟩ := x
  exact ⟨o, items, n, hk o ho, r⟩
theorem Tx.but {h h' : Heap} {k : List Str} {a b : Addr} {o : Obj} {es : Array (Int × Value)} {ep : Nat} {t : SetTable} (x : Tx P w h k b) (ho : h.get? a = some o) (hd : o.data = .set es ep t) (hs : Heap.SameBut a h h') : Tx P w h' k b := by
  refine x.old fun o' e => (hs.2 b fun z => ?_).trans e
  obtain ⟨o2, items, n, h2, _, d2, _⟩ := x
  rw [z, ho] at h2
  rw [← Option.some.inj h2, hd] at d2
  exact nomatch d2

/-- SetState after a search for adding -/
theorem Tab.seek (R : Tab P w s.heap a L es ep t) {x : Addr} {k : List Str} (hk : Tx P w s.heap k x) (hu : A.units < cLine) {Q : SetFound → Shared → Prop}
    (yes : k ∈ L.map (·.2) → Q (.there none) s)
    (no : ∀ K, k ∉ L.map (·.2) → way t.mask (hx P w k) K ∉ t.place.toList → (∀ c, c < K → way t.mask (hx P w k) c ∈ t.place.toList) → Q (.free (way t.mask (hx P w k) K) false) s) :
    wpAny (model P w) A (setSearch a (.ref x) (hx P w k) true) Q E s := by
  have h4 := R.four
  have h7 := R.m7
  obtain ⟨K, kf, ke, kb⟩ := R.ok.first (by rw [List.length_map]; omega) (hx P w k)
  have hK : K < 100000 := by
    have : 10 * SetTable.turns t.mask ≤ 1000 := by
      unfold SetTable.turns
      omega
    omega
  unfold setSearch
  refine R.look hk hu kf ke kb yes (fun z => no K z ke kb) 100000 0 none rfl (Nat.zero_le _) (by omega) fun i q e0 e1 => ?_
  have hi : (L.map fun q => hx P w q.2)[i]? = some (hx P w k) := by rw [List.getElem?_map, e0, ← e1] <;> rfl
  have hl : i < t.place.toList.length := by
    have h1 : i < L.length := (List.getElem?_eq_some_iff.mp e0).1
    rw [Array.length_toList, R.place]
    exact h1
  have hj := List.getElem?_eq_getElem hl
  obtain ⟨c, hc, e⟩ := R.ok.before ke hi hj
  exact ⟨c, Nat.zero_le _, hc, by rw [hj, e]⟩

/-- one more, while there is room for four -/
theorem Tab.add (R : Tab P w s.heap a L es ep t) {x : Addr} {k : List Str} (hk : Tx P w s.heap k x) (hu : A.units < cLine) (few : L.length < 4) {Q : Bool → Shared → Prop}
    (hQ : ∀ b h' L' es' ep' t', Heap.SameBut a s.heap h' → Tab P w h' a L' es' ep' t' → (k ∈ L.map (·.2) → L' = L) → (k ∉ L.map (·.2) → L'.Perm ((x, k) :: L)) → Q b { s with heap := h' }) :
    wpAny (model P w) A (setAddHashed a (.ref x) (hx P w k)) Q E s := by
  obtain ⟨o, ho, hex, hd⟩ := R.obj
  have h7 := R.m7
  unfold setAddHashed
  refine wpAny_holding ?_
  rw [show (100000 : Nat) = 99999 + 1 from rfl, setAddHashedIn_succ]
  refine wpAny_bind (wpAny_setState_of ho hd R.fits ?_)
  dsimp only
  refine wp_if_neg (by simp [byScan, Value.scannable]) ?_
  try refine wpAny_bind (wpAny_pure ?_)
  refine wpAny_bind (R.seek hk hu (fun hm => ?_) fun K hm ke kb => ?_)
  · dsimp only
    exact wpAny_pure (hQ false s.heap L es ep t (Heap.SameBut.refl a s.heap) R (fun _ => rfl) fun z => absurd hm z)
  dsimp only
  refine wpAny_bind (wpAny_setState_of ho hd R.fits ?_)
  dsimp only
  obtain ⟨q1, q2, q3, q4, q5, q6, q7, q8, q9⟩ := R.ok.put ke kb
  generalize hpt : t.put (way t.mask (hx P w k) K) = pt at q1 q3 q4 q5 q6 q7 q8 q9 ⊢
  obtain ⟨t1, p⟩ := pt
  dsimp only at q1 q3 q4 q5 q6 q7 q8 q9 ⊢
  subst q1
  generalize hpp : SetTable.below t.place (way t.mask (hx P w k) K) = p at q2 q3 ⊢
  rw [List.length_map] at q2 q9
  have pm : (L.take p ++ (x, k) :: L.drop p).Perm ((x, k) :: L) := put_perm L p (x, k)
  have hlen : (L.take p ++ (x, k) :: L.drop p).length = L.length + 1 := pm.length_eq
  have hents : (SetTable.insertAt es p (hx P w k, Value.ref x)).toList = (L.take p ++ (x, k) :: L.drop p).map fun q => (hx P w q.2, Value.ref q.1) := by
    rw [SetTable.toList_insertAt, R.ents, List.map_append, List.map_cons, List.map_take, List.map_drop]
  have hhs : (L.take p ++ (x, k) :: L.drop p).map (fun q => hx P w q.2) = (L.map fun q => hx P w q.2).take p ++ hx P w k :: (L.map fun q => hx P w q.2).drop p := by
    rw [List.map_append, List.map_cons, List.map_take, List.map_drop]
  rw [← hhs] at q3
  have nd1 : ((L.take p ++ (x, k) :: L.drop p).map (·.2)).Nodup := by
    refine (pm.map (·.2)).nodup_iff.mpr ?_
    rw [List.map_cons]
    exact List.nodup_cons.mpr ⟨hm, R.diff⟩
  have hes : (SetTable.insertAt es p (hx P w k, Value.ref x)).size = L.length + 1 := by
    rw [← Array.length_toList, hents, List.length_map, hlen]
  generalize SetTable.insertAt es p (hx P w k, Value.ref x) = es1 at hents hes ⊢
  generalize L.take p ++ (x, k) :: L.drop p = L1 at pm hlen q3 nd1 hents
  have fin : ∀ t2 : SetTable, t2.place = t1.place → t2.dummies = t1.dummies → t2.mask = t1.mask →
      wpAny (model P w) A (do
        storeSet a es1 t2
        if (!false && t2.tooFull) = true then setRelay a (SetTable.grown (es.size + 1))
        return true) Q E s := fun t2 e1 e2 e3 => by
    refine wpAny_bind (wpAny_storeSet_of ho hd ?_ (by rw [hes, sizeLine_eq]; omega))
    have sb : Heap.SameBut a s.heap (s.heap.update a (Obj.putSet es1 t2)) := Heap.SameBut.update ..
    have ho1 := store_at (es' := es1) (t' := t2) ho hd
    generalize s.heap.update a (Obj.putSet es1 t2) = h1 at sb ho1 ⊢
    have full : ¬ t2.tooFull = true := by
      unfold SetTable.tooFull
      rw [decide_eq_true_eq]
      have e4 : t2.fill = t1.fill := by
        unfold SetTable.fill
        rw [e1, e2]
      rw [e4, q9, e3, q4, h7]
      omega
    have okT : TabOk t2 (L1.map fun q => hx P w q.2) := by
      obtain ⟨b1, b2, b3, b4, b5, b6⟩ := q3
      exact ⟨by rw [e1]; exact b1, by rw [e2]; exact b2, by rw [e1]; exact b3, by rw [e3]; exact b4, by rw [e1, e3]; exact b5, by rw [e1, e3]; exact b6⟩
    have T1 : Tab P w h1 a L1 es1 (ep + 1) t2 := by
      refine ⟨⟨_, ho1, ⟨hex.1, hex.2.1, hex.2.2⟩, rfl⟩, hents, okT, nd1, fun q hq => ?_, by rw [e3, q4]; exact h7, by rw [hlen]; omega⟩
      rcases List.mem_cons.mp (pm.mem_iff.mp hq) with e | hq
      · rw [e]; exact hk.but ho hd sb
      · exact (R.mem q hq).but ho hd sb
    first
      | refine wp_if_neg (by simp [full]) ?_
      | (refine wpAny_bind ?_; refine wp_if_neg (by simp [full]) ?_; refine wpAny_pure ?_)
    exact wpAny_pure (hQ true h1 L1 es1 (ep + 1) t2 sb T1 (fun z => absurd z hm) fun _ => pm)
  by_cases hp : t1.plain = true
  · first
      | (refine wpAny_bind ?_; refine wp_if_pos hp ?_; refine hbv_tx hk fun v => ?_)
      | refine wp_if_pos hp (wpAny_bind (hbv_tx hk fun v => ?_))
    cases v with
    | true => exact fin t1 rfl rfl rfl
    | false => exact fin { t1 with plain := false } rfl rfl rfl
  · first
      | (refine wpAny_bind ?_; refine wp_if_neg hp ?_; refine wpAny_pure ?_)
      | refine wp_if_neg hp (wpAny_bind (wpAny_pure ?_))
    exact fin t1 rfl rfl rfl
end
end S4

set_option Elab.async false
set_option linter.all false
set_option maxRecDepth 100000
/-! set(t) and len(set(t)), t a tuple of at most four tuples of texts -/
namespace S4
open PySem PySem.Spec PyProof.Rows L2

/-- what is in the set of the first i rows -/
structure Has (ks : List (Addr × List Str)) (i : Nat) (L : List (Addr × List Str)) : Prop where
  sub : ∀ q ∈ L, q ∈ ks.take i
  all : ∀ q ∈ ks.take i, q.2 ∈ L.map (·.2)
  len : L.length ≤ i
  cnt : L.length = i ↔ ((ks.take i).map (·.2)).Nodup
theorem Has.none (ks : List (Addr × List Str)) : Has ks 0 [] :=
  ⟨fun q h => absurd h (by simp), fun q h => absurd h (by simp), Nat.le_refl _, ⟨fun _ => by simp, fun _ => rfl⟩⟩
theorem nodup_snoc {α : Type} {l : List α} {x : α} : (l ++ [x]).Nodup ↔ l.Nodup ∧ x ∉ l := by
  rw [List.nodup_append]
  constructor
  · intro ⟨h1, _, h3⟩
    exact ⟨h1, fun hx => h3 x hx x (List.mem_singleton.mpr rfl) rfl⟩
  · intro ⟨h1, h2⟩
    refine ⟨h1, by simp, fun a ha b hb e => ?_⟩
    rw [List.mem_singleton.mp hb] at e
    rw [e] at ha
    exact h2 ha
theorem Has.skip {ks L : List (Addr × List Str)} {i : Nat} {x : Addr × List Str} (g : Has ks i L) (h : ks[i]? = some x) (hm : x.2 ∈ L.map (·.2)) : Has ks (i + 1) L := by
  have e : ks.take (i + 1) = ks.take i ++ [x] := L2.take_next h
  refine ⟨fun q hq => by rw [e]; exact List.mem_append_left _ (g.sub q hq), fun q hq => ?_, Nat.le_succ_of_le g.len, ⟨fun z => ?_, fun z => ?_⟩⟩
  · rw [e] at hq
    rcases List.mem_append.mp hq with y | y
    · exact g.all q y
    · rw [List.mem_singleton.mp y]; exact hm
  · have := g.len
    omega
  · rw [e, List.map_append] at z
    obtain ⟨q, hq, eq⟩ := List.mem_map.mp hm
    exact absurd (List.mem_map.mpr ⟨q, g.sub q hq, eq⟩) (nodup_snoc.mp z).2
theorem Has.more {ks L L' : List (Addr × List Str)} {i : Nat} {x : Addr × List Str} (g : Has ks i L) (h : ks[i]? = some x) (hm : x.2 ∉ L.map (·.2)) (pm : L'.Perm (x :: L)) : Has ks (i + 1) L' := by
  have e : ks.take (i + 1) = ks.take i ++ [x] := L2.take_next h
  have el : L'.length = L.length + 1 := pm.length_eq
  refine ⟨fun q hq => ?_, fun q hq => ?_, by have := g.len; omega, ?_⟩
  · rw [e]
    rcases List.mem_cons.mp (pm.mem_iff.mp hq) with y | y
    · rw [y]; exact List.mem_append_right _ (List.mem_singleton.mpr rfl)
    · exact List.mem_append_left _ (g.sub q y)
  · rw [(pm.map (·.2)).mem_iff, List.map_cons]
    rw [e] at hq
    rcases List.mem_append.mp hq with y | y
    · exact List.mem_cons_of_mem _ (g.all q y)
    · rw [List.mem_singleton.mp y]; exact List.mem_cons_self
  · have hn : x.2 ∉ (ks.take i).map (·.2) := fun z => by
      obtain ⟨q, hq, eq⟩ := List.mem_map.mp z
      exact hm (eq ▸ g.all q hq)
    rw [e, List.map_append, el]
    show L.length + 1 = i + 1 ↔ (_ ++ [x.2]).Nodup
    rw [nodup_snoc, ← g.cnt]
    constructor
    · intro z
      exact ⟨by omega, hn⟩
    · intro z
      rw [z.1]

section
variable {P : Program} {w : World} {A : Around} {E : Value → Shared → Prop} {s : Shared}
theorem Tab.old {h h' : Heap} {a : Addr} {L : List (Addr × List Str)} {es : Array (Int × Value)} {ep : Nat} {t : SetTable} (R : Tab P w h a L es ep t) (ha : ∀ o, h.get? a = some o → h'.get? a = some o) (hm : ∀ q ∈ L, Tx P w h' q.2 q.1) : Tab P w h' a L es ep t := by
  obtain ⟨o, ho, r⟩ := R.obj
  exact ⟨⟨o, ha o ho, r⟩, R.ents, R.ok, R.diff, hm, R.m7, R.four⟩
theorem Tab.fresh {h : Heap} {a : Addr} (led : Bool) (ho : h.get? a = some { cls := .type "set", dict := none, data := .set #[] 0 (.fresh 0 0 led) }) : Tab P w h a [] #[] 0 (.fresh 0 0 led) :=
  ⟨⟨_, ho, ⟨rfl, rfl, rfl⟩, rfl⟩, rfl, ⟨List.Pairwise.nil, rfl, rfl, .inl rfl, fun x hx => absurd hx (by intro z; cases z), fun i h j hi => absurd hi (by simp)⟩, List.nodup_nil, fun q hq => absurd hq (by simp), rfl, Nat.zero_le _⟩

/-- the loop that fills it -/
theorem fill {I : Addr} {fp wr : List Addr} {G : Array GenState → Array GenState → Prop} {n : Nat} {Pv : Nat → Value → Prop} {St : Nat → Shared → Prop} {R : Result → Shared → Prop}
    (W : WalksS P w A.in1 I fp wr G n Pv St) (S : Addr) (hSf : S ∉ fp) (ks : List (Addr × List Str)) (hn : n = ks.length) (few : ks.length ≤ 4) (hval : ∀ i v, Pv i v → ∃ q, ks[i]? = some q ∧ v = .ref q.1)
    (h0 : Heap) (hk : ∀ q ∈ ks, Tx P w h0 q.2 q.1) (hS0 : h0.get? S = none) (hw0 : ∀ b ∈ wr, h0.get? b = none) (hu : A.in1.units < cLine) :
    ∀ (m i : Nat) (s : Shared), n - i = m → i ≤ n → St i s → (∀ b o, h0.get? b = some o → s.heap.get? b = some o) → (∃ L es ep t, Tab P w s.heap S L es ep t ∧ Has ks i L) →
      (∀ s' L es ep t, Moved (S :: wr) G s s' → Tab P w s'.heap S L es ep t → Has ks n L → (∀ b o, h0.get? b = some o → s'.heap.get? b = some o) → R (.ok (.ret .none)) s') →
      codeAny (model P w) A (.builtin "set.update.loop" ⟨[.ref S, .ref I], []⟩) R s := by
  have hSw : S ∉ wr := fun h => hSf (W.sub _ h)
  have wide : ∀ b ∈ wr, b ∈ S :: wr := fun b hb => List.mem_cons_of_mem _ hb
  have stay : ∀ {s s' : Shared}, Moved wr G s s' → (∀ b o, h0.get? b = some o → s.heap.get? b = some o) → ∀ b o, h0.get? b = some o → s'.heap.get? b = some o := fun hm z b o e =>
    hm.heap b o (fun hb => by rw [hw0 b hb] at e; cases e) (z b o e)
  intro m
  induction m with
  | zero =>
    intro i s hk' hi hst hkp ⟨L, es, ep, t, T, g⟩ hR
    obtain rfl : i = n := by omega
    refine codeAny_builtin F.entry_set_update_loop ?_
    rw [Around.under_plainId F.plain_set_update_loop _]
    show wpAny _ A.in1 (pyNext (.ref I) >>= _) _ _ s
    refine wpAny_bind (W.done s _ _ hst fun s' hm => ?_)
    show wpAny _ A.in1 (ret Value.none) _ _ s'
    have z := stay hm hkp
    exact wpAny_pure (hR s' L es ep t (hm.mono wide) (T.old (fun o e => hm.heap S o hSw e) fun q hq => (hk q (List.mem_of_mem_take (g.sub q hq))).old (z _)) g z)
  | succ m ih =>
    intro i s hk' hi hst hkp ⟨L, es, ep, t, T, g⟩ hR
    have hlt : i < n := by omega
    refine codeAny_builtin F.entry_set_update_loop ?_
    rw [Around.under_plainId F.plain_set_update_loop _]
    show wpAny _ A.in1 (pyNext (.ref I) >>= _) _ _ s
    refine wpAny_bind (W.item i s _ _ hlt hst fun v s' hP hst' hm => ?_)
    obtain ⟨q, hq, rfl⟩ := hval i v hP
    have z := stay hm hkp
    have T' : Tab P w s'.heap S L es ep t := T.old (fun o e => hm.heap S o hSw e) fun q hq => (hk q (List.mem_of_mem_take (g.sub q hq))).old (z _)
    have hx' : Tx P w s'.heap q.2 q.1 := (hk q (List.mem_of_getElem? hq)).old (z _)
    show wpAny _ A.in1 (holding [Value.ref q.1] (setAdd S (.ref q.1)) >>= _) _ _ s'
    refine wpAny_bind (wpAny_holding ?_)
    unfold setAdd
    refine wpAny_holding ?_
    refine wpAny_bind (wpAny_pyHash_tuple hu hx' ?_)
    refine Tab.add (s := { s' with toks := s'.toks + (q.2.length + 1) }) T' hx' hu (by have := g.len; omega) fun b h' L' es' ep' t' sb T2 c1 c2 => ?_
    have g' : Has ks (i + 1) L' := by
      by_cases c : q.2 ∈ L.map (·.2)
      · rw [c1 c]; exact g.skip hq c
      · exact g.more hq c (c2 c)
    have z2 : ∀ b o, h0.get? b = some o → h'.get? b = some o := fun b o e => (sb.2 b (fun y => by rw [y, hS0] at e; cases e)).trans (z b o e)
    refine wpAny_pure ⟨plainId_quiet F.plain_set_update_loop _, ih (i + 1) _ (by omega) hlt (W.frame _ s' _ _ hst' (Nat.le_add_right _ _) fun b hb o e => ?_) z2 ⟨L', es', ep', t', T2, g'⟩ fun s2 L2 es2 ep2 t2 hm2 T3 g3 z3 => ?_⟩
    · rw [sb.2 b (fun h : b = S => hSf (by rw [← h]; exact hb))]; exact e
    · refine hR s2 L2 es2 ep2 t2 (Moved.trans W.gtrans ((hm.mono wide).then_heap (Nat.le_add_right _ _) fun b o hb e => ?_) hm2) T3 g3 z3
      rw [sb.2 b (fun h : b = S => hb (by rw [h]; exact List.mem_cons_self))]; exact e

abbrev newSet (led : Bool) : Obj := { cls := .type "set", dict := none, data := .set #[] 0 (.fresh 0 0 led) }
set_option maxHeartbeats 3200000 in
theorem call_set {l : Addr} {items : Array Value} (ks : List (Addr × List Str)) {Q : Value → Shared → Prop} (hh : A.handled = none) (hl : s.heap.IsTuple l items) (hit : items.toList = ks.map fun q => Value.ref q.1)
    (hk : ∀ q ∈ ks, Tx P w s.heap q.2 q.1) (few : ks.length ≤ 4) (hu : A.units + 3 < cLine)
    (h : ∀ (h' : Heap) (tk : Nat) L es ep t, Tab P w h' s.heap.objs.size L es ep t → Has ks ks.length L → (∀ b o, s.heap.get? b = some o → h'.get? b = some o) → Q (.ref s.heap.objs.size) { s with heap := h', toks := tk }) :
    wpAny (model P w) A (call (.type "set") [.ref l]) Q E s := by
  have hsz : items.size = ks.length := by rw [← Array.length_toList, hit, List.length_map]
  obtain ⟨c, tl, hmro⟩ := F.called_set.mro
  have hmade := F.called_set.made
  have hsub := F.called_set.sub
  refine wpAny_call (codeAny_of_tree ?_)
  show wpAny _ _ (callAny (.type "set") _) _ _ _
  refine wpAny_pure ⟨Code.quiet_builtin _ (by decide +kernel), codeAny_builtin F.entry_type_call ?_⟩
  rw [Around.under_plain (weight_type_call_type "set" [.ref l] []) rfl]
  have h1 := F.called_set.notType
  have h2 := F.called_set.canCreate
  have hct := F.typeCall_set_1 (.ref l)
  repeat (any_goals (first | assumption | wp_step))
  refine codeAny_mono (code_set_new_1 (.ref l) (E := E) (Q₁ := fun obj s₁ => ∃ led : Bool, obj = .ref s.heap.objs.size ∧ s₁ = { s with heap := s.heap.push (newSet led) }) fun led => ⟨led, rfl, rfl⟩) fun r s₁ hr => ?_
  rcases r with e | fl
  · exact hr
  cases fl with
  | ret obj =>
    obtain ⟨led, rfl, rfl⟩ := hr
    have hS : (s.heap.push (newSet led)).get? s.heap.objs.size = some (newSet led) := Heap.get?_push_size _ rfl
    have hT : Shared.TypeIs { s with heap := s.heap.push (newSet led) } (.ref s.heap.objs.size) "set" := ⟨_, hS, rfl⟩
    have hli := F.called_set.init.lookup
    have hbi := F.called_set.init.bind (.ref s.heap.objs.size)
    repeat (any_goals (first | assumption | wp_step))
    refine codeAny_mono (codeAny_call_builtin (R := wants (fun r s₂ => r = .none ∧ ∃ h' tk L es ep t, s₂ = { s with heap := h', toks := tk } ∧ Tab P w h' s.heap.objs.size L es ep t ∧ Has ks ks.length L ∧
        (∀ b o, s.heap.get? b = some o → h'.get? b = some o)) E) F.called_set.init.plain F.entry_set_init (check_set_init_1 hT ?_)) fun r₂ s₂ hr₂ => ?_
    · obtain ⟨ol, hol, hcl, nl, hdl⟩ := hl
      obtain ⟨ocls, odict, odata, oslots⟩ := ol
      simp only at hcl hdl
      subst hcl; subst hdl
      have hol' : (s.heap.push (newSet led)).get? l = some { cls := .type "tuple", dict := odict, data := .seq items nl, slots := oslots } := Heap.get?_push_of_some _ hol
      have hsls := F.sub_tuple_set
      have hslf := F.sub_tuple_frozenset
      have hne : (Value.type "tuple" == Value.type "dict") = false := by decide
      have hl1 : (s.heap.push (newSet led)).IsTuple l items := ⟨_, hol', rfl, nl, rfl⟩
      unfold Builtin.«set.__init__» noKeywords Builtin.Frozenset.updateFrom
      generalize hPI : pyIter = PI
      wp_walk
      subst hPI
      refine wpAny_pyIter_tuple hl1 ?_
      refine wpAny_bind (wpAny_runValue ?_)
      have hlS : l < s.heap.objs.size := Heap.lt_size hol
      have hh3 : A.in1.in1.in1.handled = none := by simp [hh]
      have hsize : (s.heap.push (newSet led)).objs.size = s.heap.objs.size + 1 := Heap.size_push ..
      have hneI : l ≠ (s.heap.push (newSet led)).objs.size := by rw [hsize]; exact Nat.ne_of_lt (Nat.lt_succ_of_lt hlS)
      have hSf : s.heap.objs.size ∉ [(s.heap.push (newSet led)).objs.size, l] := by
        rw [hsize]
        simp only [List.mem_cons, List.not_mem_nil, or_false, not_or]
        exact ⟨Nat.ne_of_lt (Nat.lt_succ_self _), Nat.ne_of_gt hlS⟩
      have hval : ∀ (i : Nat) (v : Value), items[i]? = some v → ∃ q, ks[i]? = some q ∧ v = .ref q.1 := fun i v hv => by
        rw [← Array.getElem?_toList, hit, List.getElem?_map] at hv
        obtain ⟨q, e1, e2⟩ := Option.map_eq_some_iff.mp hv
        exact ⟨q, e1, e2.symm⟩
      have off : ∀ b, s.heap.objs.size ≤ b → s.heap.get? b = none := fun b hb => by
        cases z : s.heap.get? b with
        | none => rfl
        | some o => exact absurd (Nat.lt_of_lt_of_le (Heap.lt_size z) hb) (Nat.lt_irrefl _)
      refine fill ((Walks.tuple hh3 _ l hneI items).toS) s.heap.objs.size hSf ks hsz few hval s.heap hk (off _ (Nat.le_refl _)) (fun b hb => off b (by rw [List.mem_singleton.mp hb, hsize]; exact Nat.le_succ _)) hu (items.size - 0) 0 _ (by omega) (Nat.zero_le _)
        ⟨⟨_, Heap.get?_push_size _ rfl, rfl, rfl⟩, (hl1.push _)⟩ (fun b o e => Heap.get?_push_of_some _ (Heap.get?_push_of_some _ e)) ⟨[], #[], 0, _, Tab.fresh led (Heap.get?_push_of_some _ hS), Has.none ks⟩ fun s' L es ep t hm T g z => ?_
      obtain ⟨h', g2, d', tk', os'⟩ := s'
      obtain rfl : g2 = s.gens := hm.gens
      obtain rfl : d' = s.drawn := hm.drawn
      obtain rfl : os' = s.os := hm.os
      show wpAny _ _ _ _ _ _
      refine wpAny_pure ?_
      show wpAny _ _ (ret Value.none) _ _ _
      rw [hsz] at g
      exact wpAny_pure ⟨rfl, h', tk', L, es, ep, t, rfl, T, g, z⟩
    · rcases r₂ with e | fl₂
      · exact hr₂
      cases fl₂ with
      | ret r =>
        obtain ⟨rfl, h', tk, L, es, ep, t, rfl, T, g, z⟩ := hr₂
        repeat (any_goals (first | assumption | wp_step))
        exact h _ _ _ _ _ _ T g z
      | _ => exact hr₂.elim
  | _ => exact hr.elim
end

/-- a row of tuples of texts, as values and as texts -/
inductive TxRow (K : PySem.W.Frag) (H : Hp) : List V → List (List Str) → Prop
  | nil : TxRow K H [] []
  | cons {t : Addr} {k : List Str} {vs : List V} {ks : List (List Str)} : SqT K H t (k.map V.str) → TxRow K H vs ks → TxRow K H (.ref t :: vs) (k :: ks)
theorem items_of {P : Program} {w : World} : ∀ {ys : List Str} {us : List Value}, StrsAre us ys → ItemsAre (PySem.strKind P w) ys us
  | _, _, .nil => .nil
  | _, _, .cons y t r => .cons (strKind_is _ _ _ _) (items_of r)
section
variable {X : Cx} {pins : List (Addr × Obj)} {σ : L2.St} {H : Hp} {s : Shared}
theorem tx_of (I : Inv X pins σ H s) {t : Addr} {k : List Str} (h : SqT X.K H t (k.map V.str)) : Tx X.prog X.w s.heap k t := by
  obtain ⟨its, rv, ⟨o, ho, hc, n, hd⟩, _⟩ := I.tuple h
  exact ⟨o, its.toArray, n, ho, hc, hd, items_of (by simpa using strsAre_of rv)⟩
theorem rows_of (I : Inv X pins σ H s) : ∀ {vs : List V} {ks : List (List Str)} {us : List Value}, TxRow X.K H vs ks → Vals vs us →
    ∃ L : List (Addr × List Str), us = (L.map fun q => Value.ref q.1) ∧ L.map (·.2) = ks ∧ ∀ q ∈ L, Tx X.prog X.w s.heap q.2 q.1
  | _, _, _, .nil, .nil => ⟨[], rfl, rfl, fun q hq => absurd hq (by simp)⟩
  | _, _, _, .cons (t := t) (k := k) h r, .cons rv rvs => by
    obtain ⟨L, e1, e2, e3⟩ := rows_of I r rvs
    cases rv
    refine ⟨(t, k) :: L, by rw [e1] <;> rfl, by rw [← e2] <;> rfl, fun q hq => ?_⟩
    rcases List.mem_cons.mp hq with e | hq
    · rw [e]; exact tx_of I h
    · exact e3 q hq
end
section
variable {X : Cx}
/-- len(set(t)): as many as there are, exactly if all differ -/
def tLenSetT (K : PySem.W.Frag) (ta : TE) : TE := fun σ H Q => ta σ H fun x H1 => ∃ (l : Addr) (vs : List V) (ks : List (List Str)), x = V.ref l ∧ SqT K H1 l vs ∧ TxRow K H1 vs ks ∧ ks.length ≤ 4 ∧
  ∀ m : Nat, m ≤ ks.length → (m = ks.length ↔ ks.Nodup) → Q (.int m) H1
theorem pe_lenSetT {a : Expr} {ta : TE} {p p2 q pos : Pos} (hu : X.A.units + 64 < cLine) (hc : X.calm = true) (hg : Gl X "len") (hm : X.mg "len" = none) (hg2 : Gl X "set") (hm2 : X.mg "set" = none) (ha : PE X a ta)
    (na : starEach [a] X.env = (false, eval a X.env) :: starEach [] X.env := by rfl) : PE X (.Call (.Name "len" p) [.Call (.Name "set" p2) [a] [] q] [] pos) (tLenSetT X.K ta) := by
  refine ⟨fun pins s σ H Q I h => ?_⟩
  refine Call_ (ld_blt I hg hm PySem.boot_len ?_)
  refine PyProof.Rows.callWith_builtin1 (PyProof.Rows.args_cons ?_ rfl) rfl rfl
  refine Call_ (ld_blt I hg2 hm2 PyProof.Rows.boot_set ?_)
  refine PyProof.Rows.callWith_type1 (PyProof.Rows.args_cons (thn (ha.run pins s σ H _ I h) fun v s1 ⟨x, H1, I1, r1, q1⟩ => PyProof.Rows.args_nil ?_) na) na rfl
  obtain ⟨l, vs, ks, rfl, hq, hr, h4, q1⟩ := q1
  cases r1
  obtain ⟨its, rv, hT, hz⟩ := I1.tuple hq
  obtain ⟨L, e1, e2, e3⟩ := rows_of I1 hr rv
  have hL : L.length = ks.length := by rw [← e2, List.length_map]
  refine call_set L (I1.ok.hd hc) hT (by simpa using e1) e3 (by omega) (by omega) fun h' tk L2 es ep t T g z => ?_
  refine PyProof.Rows.args_nil ?_
  have I2 : Inv X pins σ H1 { s1 with heap := h', toks := tk } := I1.kept z
  obtain ⟨o, ho, hex, hd⟩ := T.obj
  have hn := T.size
  refine call_len_set ho hex hd T.fits (by rw [hn]; have := T.four; omega) ⟨.int L2.length, H1, I2.tok _, ⟨_, by rw [hn]⟩, q1 L2.length (by rw [← hL]; exact g.len) ?_⟩
  rw [← hL, g.cnt, List.take_length, e2]
end
end S4

set_option Elab.async false
set_option linter.all false
set_option maxRecDepth 100000
set_option maxHeartbeats 4000000
/-! z.translate({n: None}): a line of plain signs, without those of one number -/
namespace TD
open PySem PySem.Spec PyProof.Rows L2 PySem.Builtin PySem.Builtin.Str
/-- what becomes of a sign -/
def left1 (n c : Nat) : Option Nat := if c = n then none else some c
/-- a line without the signs of a number -/
def gone (n : Nat) (l : List Nat) : List Nat := l.filter fun c => decide (c ≠ n)
theorem goneLen (n : Nat) (l : List Nat) : (gone n l).length = l.length ↔ l.all (fun c => decide (c ≠ n)) = true := by
  unfold gone
  rw [List.length_filter_eq_length_iff, List.all_eq_true]
/-- the dict, as the machine knows it -/
structure Drops (P : Program) (w : World) (h : Heap) (d : Addr) (n : Nat) : Prop where
  low : (d == sysModules) = false
  has : ∃ f : Key → Option Value, h.MapOf (mixKind P w) d f ∧ f (Sum.inl (n : Int)) = some .none ∧ ∀ c : Nat, c ≠ n → f (Sum.inl (c : Int)) = none
theorem Drops.on {P : Program} {w : World} {h h' : Heap} {d : Addr} {n : Nat} (D : Drops P w h d n) (k : ∀ b o, h.get? b = some o → h'.get? b = some o) : Drops P w h' d n := by
  obtain ⟨lo, f, ⟨o, es, ep, ho, r⟩, q⟩ := D
  exact ⟨lo, f, ⟨o, es, ep, k _ _ ho, r⟩, q⟩
theorem keyLookup : isSubtype (.type "KeyError") (.type "LookupError") = pure true := by first | rfl | kernel_rfl
section
variable {P : Program} {w : World} {A : Around} {E : Value → Shared → Prop} {s : Shared} {d : Addr} {n c : Nat}
/-- one sign looked up -/
theorem oneSign {Q : Mapped → Shared → Prop} (hh : A.handled = none) (D : Drops P w s.heap d n)
    (y1 : c = n → ∀ h' k, (∀ b o, s.heap.get? b = some o → h'.get? b = some o) → Q .drop { s with heap := h', toks := k })
    (y2 : c ≠ n → ∀ h' k, (∀ b o, s.heap.get? b = some o → h'.get? b = some o) → Q .keep { s with heap := h', toks := k }) : wpAny (model P w) A (tableLookup (.ref d) c) Q E s := by
  obtain ⟨lo, f, M, f1, f2⟩ := D
  unfold tableLookup
  refine wpAny_bind (wpAny_attempt (wpAny_bind (wpAny_mkInt ?_)))
  by_cases e : c = n
  · refine wpAny_getItem_of (knd := mixKind P w) (k := Sum.inl (c : Int)) (kV_is ⟨_, rfl⟩) M (by rw [e]; exact f1) ?_
    exact wpAny_pure (y1 e s.heap _ fun _ _ z => z)
  · refine wpAny_getItem_missing_of (knd := mixKind P w) (k := Sum.inl (c : Int)) (kV_is ⟨_, rfl⟩) lo hh M (f2 c e) fun h' x hx => ?_
    obtain ⟨ob, t, ho, hc, _⟩ := hx.there
    refine wpAny_bind (wpAny_isInstance (T := "KeyError") (b := true) ⟨ob, ho, hc⟩ keyLookup ?_)
    simp only [if_true]
    exact wpAny_bind (wpAny_rule (wpAny_pure (y2 e h' _ hx.keeps)))
/-- the walk over the signs: where it stands -/
def At (n : Nat) (x : List Nat) (s : Shared) (rest : List Nat) (st : List Str × Nat × Bool × List (Nat × Option Nat) × Bool) (s2 : Shared) : Prop :=
  ∃ (past : List Nat) (ps : List Str) (tot : Nat) (kn : List (Nat × Option Nat)) (h' : Heap) (k : Nat), x = past ++ rest ∧ st = (ps, tot, true, kn, false) ∧ ps.reverse = (gone n past).map (fun c => (⟨#[c]⟩ : Str)) ∧
    tot ≤ past.length ∧ (∀ c a, List.lookup c kn = some a → a = left1 n c) ∧ s2 = { s with heap := h', toks := k } ∧ ∀ b o, s.heap.get? b = some o → h'.get? b = some o
theorem At.stay {x : List Nat} {rest past : List Nat} {ps : List Str} {tot : Nat} {kn : List (Nat × Option Nat)} {h' : Heap} {k : Nat} (h1 : x = past ++ c :: rest) (hc : c ≠ n) (h3 : ps.reverse = (gone n past).map (fun c => (⟨#[c]⟩ : Str)))
    (h5 : tot ≤ past.length) (h4 : ∀ c a, List.lookup c kn = some a → a = left1 n c) (h6 : ∀ b o, s.heap.get? b = some o → h'.get? b = some o) : At n x s rest (⟨#[c]⟩ :: ps, tot + 1, true, kn, false) { s with heap := h', toks := k } := by
  refine ⟨past ++ [c], ⟨#[c]⟩ :: ps, tot + 1, kn, h', k, by rw [h1]; simp, rfl, ?_, by simp; omega, h4, rfl, h6⟩
  unfold gone at h3 ⊢
  rw [List.reverse_cons, h3, List.filter_append, List.map_append, List.filter_cons, if_pos (decide_eq_true hc)]
  rfl
theorem At.skip {x : List Nat} {rest past : List Nat} {ps : List Str} {tot : Nat} {kn : List (Nat × Option Nat)} {h' : Heap} {k : Nat} (h1 : x = past ++ c :: rest) (hc : c = n) (h3 : ps.reverse = (gone n past).map (fun c => (⟨#[c]⟩ : Str)))
    (h5 : tot ≤ past.length) (h4 : ∀ c a, List.lookup c kn = some a → a = left1 n c) (h6 : ∀ b o, s.heap.get? b = some o → h'.get? b = some o) : At n x s rest (ps, tot, true, kn, false) { s with heap := h', toks := k } := by
  refine ⟨past ++ [c], ps, tot, kn, h', k, by rw [h1]; simp, rfl, ?_, by simp; omega, h4, rfl, h6⟩
  unfold gone at h3 ⊢
  rw [h3, List.filter_append, List.filter_cons, if_neg (by simp [hc])]
  simp
theorem glued : ∀ (l : List Nat) (a : Array Nat), (l.map fun c => (⟨#[c]⟩ : Str)).foldl (fun b p => b ++ p.cps) a = a ++ l.toArray
  | [], a => by simp
  | c :: l, a => by
    rw [List.map_cons, List.foldl_cons, glued l]
    apply Array.toList_inj.mp
    simp
theorem known2 {x y : Nat} {a b : Option Nat} {kn : List (Nat × Option Nat)} (h : List.lookup y ((x, a) :: kn) = some b) : (y = x ∧ b = a) ∨ List.lookup y kn = some b := by
  rw [List.lookup_cons] at h
  by_cases e : y = x
  · subst e
    rw [beq_self_eq_true] at h
    exact .inl ⟨rfl, (Option.some.inj h).symm⟩
  · rw [beq_eq_false_iff_ne.mpr e] at h
    exact .inr h
theorem meets (z : Str) (t : Tok) (hz : z.length ≤ 16000000) (ha : z.cps.all (fun c => decide (c < 128)) = true) : MeetsIn P w («str.translate» ⟨[.str z t, .ref d], []⟩) (fun A R s =>
    A.handled = none ∧ Drops P w s.heap d n ∧ ∀ (v : Value) (h' : Heap) (k : Nat), (∀ b o, s.heap.get? b = some o → h'.get? b = some o) → (∃ u, v = .str ⟨(gone n z.cps.toList).toArray⟩ u) → R (.ok (.ret v)) { s with heap := h', toks := k }) := by
  refine .of_wp fun A R s h => ?_
  obtain ⟨hh, D, h⟩ := h
  have hh1 : A.in1.handled = none := hh
  show wpAny _ _ (if (z.length == 0) = true then (do rule "str.translate.empty"; ret (.str z t)) else (do
    let st ← forIn z.cps (([], 0, z.cps.all fun c => decide (c < 128), [], false) : List Str × Nat × Bool × List (Nat × Option Nat) × Bool) _
    _)) _ _ s
  rw [ha]
  have hL : z.cps.toList.length = z.length := rfl
  cases h0 : (z.length == 0) with
  | true =>
    rw [if_pos rfl]
    have hx : z.cps.toList = [] := List.eq_nil_of_length_eq_zero (by rw [hL]; exact beq_iff_eq.mp h0)
    refine wpAny_bind (wpAny_rule (wpAny_pure ⟨_, rfl, h _ s.heap s.toks (fun _ _ e => e) ⟨t, ?_⟩⟩))
    have : z = ⟨(gone n z.cps.toList).toArray⟩ := by
      rw [hx]
      cases z with
      | mk a =>
        have : a.toList = [] := hx
        rw [show a = #[] from Array.toList_inj.mp this]
        rfl
    rw [← this]
  | false =>
    rw [if_neg Bool.false_ne_true]
    refine wpAny_bind (MeetsSeq2.wpAny_forIn_array _ (At n z.cps.toList s) _ (fun c rest st s2 hI => ?turn) (fun st s2 hI => ?fin) z.cps ([], 0, true, [], false) ?start)
    case start => exact ⟨[], [], 0, [], s.heap, s.toks, rfl, rfl, rfl, Nat.le_refl _, (fun c a y => by cases y), rfl, fun _ _ e => e⟩
    case turn =>
      obtain ⟨past, ps, tot, kn, h', k, e1, rfl, e3, e4, e5, rfl, e7⟩ := hI
      have hp : tot ≤ 16777216 := by
        have q := congrArg List.length e1
        rw [List.length_append, hL] at q
        omega
      show wpAny _ _ (if tooLong tot = true then _ else (if true = true then _ else _)) _ _ _
      rw [short24 hp, if_neg Bool.false_ne_true, if_pos rfl]
      have D' : Drops P w ({ s with heap := h', toks := k } : Shared).heap d n := D.on e7
      cases hl : List.lookup c kn with
      | some a =>
        have q := e5 c a hl
        subst q
        refine wpAny_bind (wpAny_pure ?_)
        by_cases ec : c = n
        · rw [show left1 n c = none from if_pos ec]
          exact wpAny_pure (At.skip e1 ec e3 e4 e5 e7)
        · rw [show left1 n c = some c from if_neg ec]
          exact wpAny_pure (At.stay e1 ec e3 e4 e5 e7)
      | none =>
        have more : ∀ b, b = left1 n c → ∀ y a, List.lookup y ((c, b) :: kn) = some a → a = left1 n y := fun b hb y a q => by
          rcases known2 q with ⟨q1, q2⟩ | q
          · rw [q2, hb, q1]
          · exact e5 y a q
        refine wpAny_bind (oneSign hh1 D' (fun ec h2 k2 k3 => ?_) (fun ec h2 k2 k3 => ?_))
        · refine wpAny_bind (wpAny_pure (wpAny_pure ?_))
          exact At.skip e1 ec e3 e4 (more none (if_pos ec).symm) (fun b o y => k3 b o (e7 b o y))
        · refine wpAny_bind (wpAny_pure (wpAny_pure ?_))
          exact At.stay e1 ec e3 e4 (more (some c) (if_neg ec).symm) (fun b o y => k3 b o (e7 b o y))
    case fin =>
      obtain ⟨past, ps, tot, kn, h', k, e1, rfl, e3, e4, e5, rfl, e7⟩ := hI
      rw [List.append_nil] at e1
      subst e1
      show wpAny _ _ (if tooLong tot = true then _ else retStr ⟨ps.reverse.foldl (fun b (p : Str) => b ++ p.cps) #[]⟩) _ _ _
      rw [short24 (by rw [hL] at e4; omega), if_neg Bool.false_ne_true, e3, glued, Array.empty_append]
      have le : (gone n z.cps.toList).length ≤ z.length := by
        unfold gone
        exact hL ▸ List.length_filter_le _ _
      exact wpAny_bind (wpAny_mkStr (wpAny_pure ⟨_, rfl, h _ h' _ e7 ⟨_, rfl⟩⟩) (by show (gone n z.cps.toList).toArray.size ≤ _; rw [List.size_toArray, sizeLine_eq]; omega))
end
section
variable {X : Cx}
/-- z.translate(d), where d is {n: None} -/
theorem mt_drop {n : Nat} (hc : X.calm = true) : MtR X "str.translate" (fun x xs H Q => ∃ (z : Str) (d : Addr), x = .str z ∧ xs = [.ref d] ∧ H d = some (.dK [(Sum.inl (n : Int), .non)]) ∧ z.cps.all (fun c => decide (c < 128)) = true ∧ z.length ≤ 16000000 ∧
    Q (.str ⟨(gone n z.cps.toList).toArray⟩) H) := by
  intro pins s σ H x xs v us Q I rx rs h
  obtain ⟨z, d, rfl, rfl, hd, ha, hz, h⟩ := h
  obtain ⟨t, rfl⟩ := rx
  cases rs with
  | cons r1 rs =>
    cases rs
    cases r1
    obtain ⟨_, lo, vs, rel, dd⟩ := dk_of I.hok hd
    have D : Drops X.prog X.w s.heap d n := by
      refine ⟨lo, _, dd.mapOf, ?_, fun c hcn => ?_⟩
      · have := rel.val (Sum.inl (n : Int))
        rw [show valV [((Sum.inl (n : Int) : Key), V.non)] (Sum.inl (n : Int)) = some .non from valV_pos rfl] at this
        obtain ⟨u, hu, ru⟩ := RelO.some_of this
        rw [hu]
        cases ru
        rfl
      · have := rel.val (Sum.inl (c : Int))
        rw [show valV [((Sum.inl (n : Int) : Key), V.non)] (Sum.inl (c : Int)) = none from by
          rw [valV_neg (fun e => by have := Sum.inl.inj e; omega)]
          rfl] at this
        revert this
        cases valueAt vs (Sum.inl (c : Int)) with
        | none => exact fun _ => rfl
        | some _ => exact fun e => e.elim
    refine call_meetsIn F.slot_str_translate (typeIs_str _ _ _) F.entry_str_translate (F.args_str_translate_2 _ _) (meets (n := n) z t hz ha) ⟨I.ok.hd hc, D, fun v h' k hk y => ?_⟩
    obtain ⟨u, rfl⟩ := y
    exact ⟨.str _, H, I.kept (t' := k) hk, ⟨u, rfl⟩, h⟩
end
end TD

set_option Elab.async false
set_option linter.all false
set_option maxRecDepth 100000
set_option maxHeartbeats 4000000
namespace KS
open PySem PySem.Spec PyProof.Rows L2
def top (i : Nat) : Stmt := PySem.Challenge.pw_farenough_k05_trees_that_are_refused.main.body.getD i (.Pass ⟨0, 0, 0, 0⟩)
abbrev FnP (K : PySem.W.Frag) (x : Str) (st : Stmt) (f : Addr) (fd : FuncData) : Prop := FunD K x x (defArgs st) (defBody st) (defScope st) [] [] f fd

abbrev sInteger : Stmt := top 8
abbrev sIsText : Stmt := top 9
abbrev sIsName : Stmt := top 10
abbrev sIsKey : Stmt := top 11
abbrev sAreKeys : Stmt := top 12
abbrev sAreAnswers : Stmt := top 13
abbrev lFeed : Stmt := top 26
abbrev lDraw : Stmt := top 27
abbrev lPick : Stmt := top 29
abbrev lCalls : Stmt := top 31
abbrev lText : Stmt := top 32
abbrev lAnswer : Stmt := top 33
abbrev lSame : Stmt := top 36
abbrev sCheck : Stmt := top 18
abbrev sInner : Stmt := top 19
abbrev sIsNode : Stmt := top 20
abbrev sParts : Stmt := top 21
abbrev sPair : Stmt := top 22
abbrev sCases : Stmt := top 23
abbrev sCase : Stmt := top 24
end KS

set_option Elab.async false
set_option linter.all false
set_option maxRecDepth 100000
set_option maxHeartbeats 4000000
namespace KS
open PySem PySem.Spec PyProof.Rows L2
theorem sameUpd {H : Hp} {p : Addr} {o : HO} (h : H p = none) : Same H (upd H p o) := fun b u e => by
  rw [upd_ne (ne_of_none e h)]
  exact e
theorem sameTup {K : PySem.W.Frag} {H H' : Hp} {a : Addr} {xs : List V} (e : Same H H') (h : SqT K H a xs) : SqT K H' a xs := by
  rcases h with (h | ⟨o, h⟩) | h
  · exact .inl (.inl (e _ _ h))
  · exact .inl (.inr ⟨o, e _ _ h⟩)
  · exact .inr h
mutual
theorem dpSame {K : PySem.W.Frag} {H H' : Hp} (e : Same H H') : ∀ (d : PyData) (v : V), Dp K H v d → Dp K H' v d
  | .none, _, h => by cases h; exact .non
  | .bool b, _, h => by cases h; exact .bl b
  | .int i, _, h => by cases h; exact .int i
  | .str x, _, h => by cases h; exact .str x
  | .list ds, _, h => by
    cases h with
    | lst ha hd => exact .lst (e.seq ha) (dpAllSame e ds _ hd)
  | .tuple ds, _, h => by
    cases h with
    | tup ha hd => exact .tup (sameTup e ha) (dpAllSame e ds _ hd)
  | .dict _, _, h => nomatch h
theorem dpAllSame {K : PySem.W.Frag} {H H' : Hp} (e : Same H H') : ∀ (ds : List PyData) (vs : List V), DpAll K H vs ds → DpAll K H' vs ds
  | [], _, h => by cases h; exact .nil
  | d :: ds, _, h => by
    cases h with
    | cons h1 h2 => exact .cons (dpSame e d _ h1) (dpAllSame e ds _ h2)
end
theorem dpLen {K : PySem.W.Frag} {H : Hp} : ∀ {vs : List V} {ds : List PyData}, DpAll K H vs ds → vs.length = ds.length
  | _, _, .nil => rfl
  | _, _, .cons _ r => by rw [List.length_cons, List.length_cons, dpLen r]
theorem dpAt {K : PySem.W.Frag} {H : Hp} : ∀ {vs : List V} {ds : List PyData}, DpAll K H vs ds → ∀ {i : Nat} {d : PyData}, ds[i]? = some d → ∃ v, vs[i]? = some v ∧ Dp K H v d
  | _, _, .nil, _, _, h => by simp at h
  | _, _, .cons h1 r, 0, _, h => by
    cases h
    exact ⟨_, rfl, h1⟩
  | _, _, .cons h1 r, i + 1, _, h => dpAt r (by simpa using h)
def SOk (z : Str) : Prop := z.cps.all (· < 0x110000) = true
/-- data down to the depth n: texts not too long, tuples not too wide, no lists -/
inductive Od : Nat → PyData → Prop
  | non (n : Nat) : Od n .none
  | bl (n : Nat) (b : Bool) : Od n (.bool b)
  | int (n : Nat) (i : Int) : Od n (.int i)
  | str (n : Nat) {z : Str} (h : SOk z) (h2 : z.length ≤ 2000) : Od n (.str z)
  | tup {n : Nat} {ds : List PyData} (h : ds.length ≤ 100) (h2 : ∀ d ∈ ds, Od n d) : Od (n + 1) (.tuple ds)
theorem Od.up {n : Nat} {d : PyData} (h : Od n d) : ∀ {m : Nat}, n ≤ m → Od m d := by
  induction h with
  | non n => exact fun _ => .non _
  | bl n b => exact fun _ => .bl _ b
  | int n i => exact fun _ => .int _ i
  | str n h h2 => exact fun _ => .str _ h h2
  | @tup n ds h h2 ih =>
    intro m hm
    obtain ⟨k, rfl⟩ : ∃ k, m = k + 1 := ⟨m - 1, by omega⟩
    exact .tup h fun d hd => ih d hd (by omega)
theorem allLay : ∀ {ds : List PyData} {n : Nat}, (∀ d ∈ ds, d.canLay0 = true ∧ d.depth ≤ n) → PyData.canLayAll0 ds = true ∧ PyData.depthAll ds ≤ n
  | [], n, _ => ⟨rfl, Nat.zero_le _⟩
  | d :: ds, n, h => by
    obtain ⟨h1, h2⟩ := h d List.mem_cons_self
    obtain ⟨h3, h4⟩ := allLay (n := n) fun x hx => h x (List.mem_cons_of_mem _ hx)
    constructor
    · simp only [PyData.canLayAll0, h1, h3, Bool.and_self]
    · simp only [PyData.depthAll]
      exact Nat.max_le.mpr ⟨h2, h4⟩
theorem Od.lay {n : Nat} {d : PyData} (h : Od n d) : d.canLay0 = true ∧ d.depth ≤ n := by
  induction h with
  | non n => exact ⟨rfl, Nat.zero_le _⟩
  | bl n b => exact ⟨rfl, Nat.zero_le _⟩
  | int n i => exact ⟨rfl, Nat.zero_le _⟩
  | str n h h2 => exact ⟨h, Nat.zero_le _⟩
  | @tup n ds h h2 ih =>
    obtain ⟨a, b⟩ := allLay (n := n) ih
    refine ⟨a, ?_⟩
    simp only [PyData.depth]
    omega
theorem Od.shaped {n : Nat} {d : PyData} (h : Od n d) (hn : n ≤ 64) : SeqAt.shaped d = true := by
  obtain ⟨a, b⟩ := h.lay
  unfold SeqAt.shaped
  rw [a, Bool.true_and]
  exact decide_eq_true (by omega)
/-! kinds -/
def tyD : PyData → String
  | .none => "NoneType" | .bool _ => "bool" | .int _ => "int" | .str _ => "str" | .list _ => "list" | .tuple _ => "tuple" | .dict _ => "dict"
def isT (t c : String) : Bool := t == c || (t == "bool" && c == "int")
def isD (d : PyData) (c : String) : Bool := isT (tyD d) c
theorem kitAll : ∀ t ∈ ["NoneType", "bool", "int", "str", "list", "tuple"], ∀ c ∈ ["tuple", "str", "int", "bool", "list"], kitB t c = some (isT t c) := by decide +kernel
theorem dpTy {K : PySem.W.Frag} {H : Hp} {v : V} {d : PyData} (h : Dp K H v d) : TyX K H v (.type (tyD d)) := by
  cases h with
  | non => exact .base .non
  | bl b => exact .base (.bl b)
  | int i => exact .base (.int i)
  | str x => exact .base (.str x)
  | lst h _ =>
    rcases h with (h | ⟨o, h⟩) | ⟨o, its, n, h, c, _⟩
    · exact .base (.lst h)
    · exact .base (.frz h)
    · exact .kList h c
  | tup h _ =>
    rcases h with (h | ⟨o, h⟩) | ⟨o, its, n, h, c, _⟩
    · exact .base (.tup h)
    · exact .fTuple h
    · exact .kTuple h c
theorem dpKit {K : PySem.W.Frag} {H : Hp} {v : V} {d : PyData} (h : Dp K H v d) {c : String} (hc : c = "tuple" ∨ c = "str" ∨ c = "int" ∨ c = "bool" ∨ c = "list") : PySem.W.kitOne K (.type (tyD d)) (.type c) = some (isD d c) := by
  have hc' : c ∈ ["tuple", "str", "int", "bool", "list"] := by rcases hc with rfl | rfl | rfl | rfl | rfl <;> simp
  refine kit_ty (kitAll _ ?_ _ hc')
  cases h <;> simp [tyD]
theorem isi {K : PySem.W.Frag} {H : Hp} {v : V} {d : PyData} (h : Dp K H v d) {c : String} (hc : c = "tuple" ∨ c = "str" ∨ c = "int" ∨ c = "bool" ∨ c = "list") {Q : VK} (q : Q (.bl (isD d c)) H) : rIsi K [v, .ty c] H Q :=
  ⟨v, .ty c, _, _, _, rfl, .ty c, dpTy h, dpKit h hc, q⟩
/-- the built-in names that are read -/
structure Bn (mg : Str → Option Value) : Prop where
  isi : mg "isinstance" = none
  len : mg "len" = none
  zip : mg "zip" = none
  all : mg "all" = none
  list : mg "list" = none
  tuple : mg "tuple" = none
  bool : mg "bool" = none
  int : mg "int" = none
  str : mg "str" = none
  range : mg "range" = none
  ord : mg "ord" = none
  set : mg "set" = none
  max : mg "max" = none
  min : mg "min" = none
/-! comprehensions with one name -/
theorem lcJ {J : It} {n : Nat} {g : TG} {tt : TT} {te : TE} {vs : List Nat} {σ : L2.St} {H1 : Hp} {D : Addr} {Qd : Hp → Prop} (Pv : Nat → Hp → Prop) (h0 : Pv 0 (upd H1 D (.lst [])))
    (hgo : ∀ i H, i < n → Pv i H → J.go i H) (hst : ∀ H, Pv n H → J.stop n H)
    (hs : ∀ i H x H', i < n → Pv i H → J.yld i H x H' → g x (wipe σ vs) H' fun σ2 H2 => wipe σ2 vs = wipe σ vs ∧ tt σ2 H2 fun b H3 =>
      if b = true then te σ2 H3 fun y H4 => ∃ acc, H4 D = some (.lst acc) ∧ acc.length < sizeLine ∧ Pv (i + 1) (upd H4 D (.lst (acc ++ [y]))) else Pv (i + 1) H3)
    (hd : ∀ H, Pv n H → Qd H) :
    ∃ W : Nat → Nat → Hp → Prop, (∃ m, W 0 m (upd H1 D (.lst []))) ∧ ∀ i m H, W i m H →
      (J.stop i H ∧ Qd H) ∨ (J.go i H ∧ ∃ Nx : Hp → Prop, (∀ H', Nx H' → ∃ m', m' < m ∧ W (i + 1) m' H') ∧ ∀ x H', J.yld i H x H' → g x (wipe σ vs) H' fun σ2 H2 => wipe σ2 vs = wipe σ vs ∧ tt σ2 H2 fun b H3 =>
        if b = true then te σ2 H3 fun y H4 => ∃ acc, H4 D = some (.lst acc) ∧ acc.length < sizeLine ∧ Nx (upd H4 D (.lst (acc ++ [y]))) else Nx H3) := by
  refine ⟨fun i m H => m = n - i ∧ i ≤ n ∧ Pv i H, ⟨n, by simp, Nat.zero_le _, h0⟩, fun i m H hW => ?_⟩
  obtain ⟨rfl, hi, p⟩ := hW
  by_cases lt : i < n
  · refine .inr ⟨hgo i H lt p, Pv (i + 1), fun H' p' => ⟨n - (i + 1), by omega, rfl, lt, p'⟩, fun x H' y => ?_⟩
    exact hs i H x H' lt p y
  · have e : i = n := by omega
    subst e
    exact .inl ⟨hst H p, hd H p⟩
/-- the list at D, all else as it was -/
def At (H1 : Hp) (D : Addr) (xs : List V) (H : Hp) : Prop := Same H1 H ∧ H D = some (.lst xs)
theorem At.put {H1 H H' : Hp} {D : Addr} {xs ys : List V} (hD : H1 D = none) (h : At H1 D xs H) (s : Same H H') : H' D = some (.lst xs) ∧ At H1 D ys (upd H' D (.lst ys)) := by
  obtain ⟨a, b⟩ := h
  refine ⟨s _ _ b, fun c o e => ?_, upd_same⟩
  rw [upd_ne (ne_of_none e hD)]
  exact s _ _ (a _ _ e)
theorem dpSnoc {K : PySem.W.Frag} {H : Hp} {y : V} {e : PyData} (hy : Dp K H y e) : ∀ {xs : List V} {ds : List PyData}, DpAll K H xs ds → DpAll K H (xs ++ [y]) (ds ++ [e])
  | _, _, .nil => .cons hy .nil
  | _, _, .cons h r => .cons h (dpSnoc hy r)
/-- every item answers a Bool -/
theorem lcAll {J : It} {n j : Nat} {te : TE} {σ : L2.St} {H1 : Hp} {D : Addr} {Qd : Hp → Prop} (b : Nat → Bool) (hD : H1 D = none) (hn : n ≤ 1000000) (hw : ∀ v, wipe ((wipe σ [j]).set j (some v)) [j] = wipe σ [j])
    (hgo : ∀ i H, i < n → Same H1 H → J.go i H) (hst : ∀ H, Same H1 H → J.stop n H)
    (hs : ∀ i H x H', i < n → Same H1 H → J.yld i H x H' → Same H H' ∧ ∀ (R : VK), (∀ H2, Same H' H2 → R (.bl (b i)) H2) → te ((wipe σ [j]).set j (some x)) H' R)
    (hd : ∀ H, Same H1 H → H D = some (.lst (((List.range n).map b).map V.bl)) → Qd H) :
    ∃ W : Nat → Nat → Hp → Prop, (∃ m, W 0 m (upd H1 D (.lst []))) ∧ ∀ i m H, W i m H →
      (J.stop i H ∧ Qd H) ∨ (J.go i H ∧ ∃ Nx : Hp → Prop, (∀ H', Nx H' → ∃ m', m' < m ∧ W (i + 1) m' H') ∧ ∀ x H', J.yld i H x H' → gName j x (wipe σ [j]) H' fun σ2 H2 => wipe σ2 [j] = wipe σ [j] ∧ tYes σ2 H2 fun b H3 =>
        if b = true then te σ2 H3 fun y H4 => ∃ acc, H4 D = some (.lst acc) ∧ acc.length < sizeLine ∧ Nx (upd H4 D (.lst (acc ++ [y]))) else Nx H3) := by
  refine lcJ (n := n) (fun i H => At H1 D (((List.range i).map b).map V.bl) H) ⟨sameUpd hD, upd_same⟩ (fun i H lt h => hgo i H lt h.1) (fun H h => hst H h.1) (fun i H x H' lt h y => ?_) (fun H h => hd H h.1 h.2)
  obtain ⟨s1, s2⟩ := hs i H x H' lt h.1 y
  refine ⟨hw x, ?_⟩
  unfold tYes
  dsimp only
  rw [if_pos rfl]
  refine s2 _ fun H2 s3 => ?_
  obtain ⟨e1, e2⟩ := h.put (ys := ((List.range (i + 1)).map b).map V.bl) hD (s1.trans s3)
  refine ⟨_, e1, ?_, ?_⟩
  · rw [List.length_map, List.length_map, List.length_range, sizeLine_eq]
    omega
  · have e3 : ((List.range (i + 1)).map b).map V.bl = ((List.range i).map b).map V.bl ++ [V.bl (b i)] := by
      rw [List.range_succ, List.map_append, List.map_append]
      rfl
    rw [← e3]
    exact e2
/-- the ones that answer true are kept -/
theorem lcSome {K : PySem.W.Frag} {J : It} {n j : Nat} {tt : TT} {te : TE} {σ : L2.St} {H1 : Hp} {D : Addr} {Qd : Hp → Prop} (b : Nat → Bool) (hD : H1 D = none) (hn : n ≤ 1000000) (hw : ∀ v, wipe ((wipe σ [j]).set j (some v)) [j] = wipe σ [j])
    (hgo : ∀ i H, i < n → Same H1 H → J.go i H) (hst : ∀ H, Same H1 H → J.stop n H)
    (hs : ∀ i H x H', i < n → Same H1 H → J.yld i H x H' → Same H H' ∧ (∀ (F : Bool → Hp → Prop), (∀ H2, Same H' H2 → F (b i) H2) → tt ((wipe σ [j]).set j (some x)) H' F) ∧ ∃ y d, (∀ H, Dp K H y d) ∧ Od 0 d ∧ ∀ (R : VK) H2, R y H2 → te ((wipe σ [j]).set j (some x)) H2 R)
    (hd : ∀ H xs, Same H1 H → H D = some (.lst xs) → (xs = [] ↔ ∀ i, i < n → b i = false) → (∃ ds, (∀ H, DpAll K H xs ds) ∧ (∀ d ∈ ds, Od 0 d) ∧ ds.length ≤ n) → Qd H) :
    ∃ W : Nat → Nat → Hp → Prop, (∃ m, W 0 m (upd H1 D (.lst []))) ∧ ∀ i m H, W i m H →
      (J.stop i H ∧ Qd H) ∨ (J.go i H ∧ ∃ Nx : Hp → Prop, (∀ H', Nx H' → ∃ m', m' < m ∧ W (i + 1) m' H') ∧ ∀ x H', J.yld i H x H' → gName j x (wipe σ [j]) H' fun σ2 H2 => wipe σ2 [j] = wipe σ [j] ∧ tt σ2 H2 fun b H3 =>
        if b = true then te σ2 H3 fun y H4 => ∃ acc, H4 D = some (.lst acc) ∧ acc.length < sizeLine ∧ Nx (upd H4 D (.lst (acc ++ [y]))) else Nx H3) := by
  refine lcJ (n := n) (fun i H => ∃ xs, At H1 D xs H ∧ (xs = [] ↔ ∀ k, k < i → b k = false) ∧ xs.length ≤ i ∧ ∃ ds, (∀ H, DpAll K H xs ds) ∧ ∀ d ∈ ds, Od 0 d) ⟨[], ⟨sameUpd hD, upd_same⟩, ⟨fun _ k hk => absurd hk (Nat.not_lt_zero _), fun _ => rfl⟩, Nat.le_refl _, [], fun _ => .nil, fun d hd => absurd hd (by simp)⟩ (fun i H lt h => hgo i H lt h.choose_spec.1.1) (fun H h => hst H h.choose_spec.1.1) (fun i H x H' lt h y => ?_)
    (fun H h => by obtain ⟨xs, h1, h2, h3, h4⟩ := h; obtain ⟨ds, g1, g2⟩ := h4; exact hd H xs h1.1 h1.2 h2 ⟨ds, g1, g2, by have := dpLen (g1 H); omega⟩)
  obtain ⟨xs, h, e0, hl, ds, hda, hod⟩ := h
  obtain ⟨s1, s2, z, zd, z1, z2, s4⟩ := hs i H x H' lt h.1 y
  refine ⟨hw x, s2 _ fun H2 s3 => ?_⟩
  cases hb : b i with
  | true =>
    refine iteT (s4 _ _ ?_)
    obtain ⟨e1, e2⟩ := h.put (ys := xs ++ [z]) hD (s1.trans s3)
    refine ⟨_, e1, by rw [sizeLine_eq]; omega, _, e2, ⟨fun q => absurd q (by simp), fun q => ?_⟩, by rw [List.length_append]; exact Nat.succ_le_succ hl, ds ++ [zd], fun H => dpSnoc (z1 H) (hda H), fun d hd => ?_⟩
    · rw [q i (Nat.lt_succ_self _)] at hb
      cases hb
    · rcases List.mem_append.mp hd with y | y
      · exact hod d y
      · rw [List.mem_singleton.mp y]
        exact z2
  | false =>
    refine iteF ⟨xs, ⟨(h.1.trans s1).trans s3, s3 _ _ (s1 _ _ h.2)⟩, ⟨fun q k hk => ?_, fun q => e0.mpr fun k hk => q k (by omega)⟩, by omega, ds, hda, hod⟩
    rcases Nat.lt_succ_iff_lt_or_eq.mp hk with c | c
    · exact e0.mp q k c
    · rw [c]
      exact hb
/-- all(..) over a tuple -/
theorem lcAllT {K : PySem.W.Frag} {a : Addr} {xs : List V} {ds : List PyData} {j : Nat} {te : TE} {σ : L2.St} {H1 : Hp} {D : Addr} {Qd : Hp → Prop} (p : PyData → Bool) (ha : SqT K H1 a xs) (hx : DpAll K H1 xs ds) (hn : ds.length ≤ 1000) (hD : H1 D = none) (hw : ∀ v, wipe ((wipe σ [j]).set j (some v)) [j] = wipe σ [j])
    (hs : ∀ v d H, d ∈ ds → Same H1 H → Dp K H v d → ∀ (R : VK), (∀ H2, Same H H2 → R (.bl (p d)) H2) → te ((wipe σ [j]).set j (some v)) H R)
    (hd : ∀ H, Same H1 H → H D = some (.lst ((ds.map p).map V.bl)) → Qd H) :
    ∃ W : Nat → Nat → Hp → Prop, (∃ m, W 0 m (upd H1 D (.lst []))) ∧ ∀ i m H, W i m H →
      ((Itt K a).stop i H ∧ Qd H) ∨ ((Itt K a).go i H ∧ ∃ Nx : Hp → Prop, (∀ H', Nx H' → ∃ m', m' < m ∧ W (i + 1) m' H') ∧ ∀ x H', (Itt K a).yld i H x H' → gName j x (wipe σ [j]) H' fun σ2 H2 => wipe σ2 [j] = wipe σ [j] ∧ tYes σ2 H2 fun b H3 =>
        if b = true then te σ2 H3 fun y H4 => ∃ acc, H4 D = some (.lst acc) ∧ acc.length < sizeLine ∧ Nx (upd H4 D (.lst (acc ++ [y]))) else Nx H3) := by
  have hl := dpLen hx
  refine lcAll (n := ds.length) (fun i => p (ds.getD i .none)) hD (by omega) hw (fun i H lt s => ?_) (fun H s => ⟨xs, sameTup s ha, by omega⟩) (fun i H x H' lt s y => ?_) (fun H s e => hd H s ?_)
  · exact ⟨xs, xs[i], sameTup s ha, List.getElem?_eq_getElem (by omega)⟩
  · obtain ⟨rfl, y⟩ := y
    refine ⟨Same.refl _, fun R hR => ?_⟩
    have e := y xs (sameTup s ha)
    have e2 : ds[i]? = some ds[i] := List.getElem?_eq_getElem lt
    obtain ⟨v, h1, h2⟩ := dpAt hx e2
    obtain rfl : v = x := Option.some.inj (h1.symm.trans e)
    rw [List.getD_eq_getElem?_getD, e2] at hR
    exact hs v ds[i] _ (List.getElem_mem lt) s (dpSame s _ _ h2) R hR
  · rw [e]
    have : (List.range ds.length).map (fun i => p (ds.getD i .none)) = ds.map p := by
      refine List.ext_getElem (by simp) fun i h1 h2 => ?_
      simp only [List.getElem_map, List.getElem_range]
      rw [List.getD_eq_getElem?_getD, List.getElem?_eq_getElem (by simpa using h1)]
      rfl
    rw [this]
/-- the kept ones of a tuple -/
theorem lcSomeT {K : PySem.W.Frag} {a : Addr} {xs : List V} {ds : List PyData} {j : Nat} {tt : TT} {te : TE} {σ : L2.St} {H1 : Hp} {D : Addr} {Qd : Hp → Prop} (p : PyData → Bool) (ha : SqT K H1 a xs) (hx : DpAll K H1 xs ds) (hn : ds.length ≤ 1000) (hD : H1 D = none) (hw : ∀ v, wipe ((wipe σ [j]).set j (some v)) [j] = wipe σ [j])
    (hs : ∀ v d H, d ∈ ds → Same H1 H → Dp K H v d → (∀ (F : Bool → Hp → Prop), (∀ H2, Same H H2 → F (p d) H2) → tt ((wipe σ [j]).set j (some v)) H F) ∧ ∃ y d, (∀ H, Dp K H y d) ∧ Od 0 d ∧ ∀ (R : VK) H2, R y H2 → te ((wipe σ [j]).set j (some v)) H2 R)
    (hd : ∀ H zs, Same H1 H → H D = some (.lst zs) → (zs = [] ↔ ∀ d ∈ ds, p d = false) → (∃ es, (∀ H, DpAll K H zs es) ∧ (∀ d ∈ es, Od 0 d) ∧ es.length ≤ ds.length) → Qd H) :
    ∃ W : Nat → Nat → Hp → Prop, (∃ m, W 0 m (upd H1 D (.lst []))) ∧ ∀ i m H, W i m H →
      ((Itt K a).stop i H ∧ Qd H) ∨ ((Itt K a).go i H ∧ ∃ Nx : Hp → Prop, (∀ H', Nx H' → ∃ m', m' < m ∧ W (i + 1) m' H') ∧ ∀ x H', (Itt K a).yld i H x H' → gName j x (wipe σ [j]) H' fun σ2 H2 => wipe σ2 [j] = wipe σ [j] ∧ tt σ2 H2 fun b H3 =>
        if b = true then te σ2 H3 fun y H4 => ∃ acc, H4 D = some (.lst acc) ∧ acc.length < sizeLine ∧ Nx (upd H4 D (.lst (acc ++ [y]))) else Nx H3) := by
  have hl := dpLen hx
  refine lcSome (K := K) (n := ds.length) (fun i => p (ds.getD i .none)) hD (by omega) hw (fun i H lt s => ?_) (fun H s => ⟨xs, sameTup s ha, by omega⟩) (fun i H x H' lt s y => ?_) (fun H zs s e e0 es => hd H zs s e (e0.trans ?_) es)
  · exact ⟨xs, xs[i], sameTup s ha, List.getElem?_eq_getElem (by omega)⟩
  · obtain ⟨rfl, y⟩ := y
    have e := y xs (sameTup s ha)
    have e2 : ds[i]? = some ds[i] := List.getElem?_eq_getElem lt
    obtain ⟨v, h1, h2⟩ := dpAt hx e2
    obtain rfl : v = x := Option.some.inj (h1.symm.trans e)
    rw [List.getD_eq_getElem?_getD, e2]
    exact ⟨Same.refl _, hs v ds[i] _ (List.getElem_mem lt) s (dpSame s _ _ h2)⟩
  · constructor
    · intro h d hd
      obtain ⟨i, hi, e⟩ := List.getElem_of_mem hd
      have := h i hi
      rw [List.getD_eq_getElem?_getD, List.getElem?_eq_getElem hi] at this
      rw [← e]
      exact this
    · intro h i hi
      rw [List.getD_eq_getElem?_getD, List.getElem?_eq_getElem hi]
      exact h _ (List.getElem_mem hi)
/-- a kept list against [] -/
theorem eqNil {K : PySem.W.Frag} {H : Hp} {D e : Addr} {zs : List V} {Q : VK} {n : Nat} (hD : H D = some (.lst zs)) (he : H e = some (.lst [])) (es : ∃ es, (∀ H, DpAll K H zs es) ∧ (∀ d ∈ es, Od 0 d) ∧ es.length ≤ n) (h : Q (.bl (decide (zs = []))) H) : rEqD K (.ref D) (.ref e) H Q := by
  obtain ⟨ds, h1, h2, _⟩ := es
  refine ⟨.list ds, .list [], .lst (.inl (.inl hD)) (h1 H), .lst (.inl (.inl he)) .nil, ?_, rfl, ?_⟩
  · obtain ⟨a, b⟩ := allLay (ds := ds) (n := 0) fun d hd => (h2 d hd).lay
    have e1 : (PyData.list ds).canLay0 = true := a
    unfold SeqAt.shaped
    rw [e1, Bool.true_and]
    refine decide_eq_true ?_
    simp only [PyData.depth]
    omega
  · have hl := dpLen (h1 H)
    cases ds with
    | nil =>
      have : zs = [] := List.eq_nil_of_length_eq_zero hl
      subst this
      exact h
    | cons d ds =>
      have : ¬ zs = [] := fun z => by rw [z] at hl; cases hl
      rw [decide_eq_false this] at h
      exact h
theorem neNil {K : PySem.W.Frag} {H : Hp} {D e : Addr} {zs : List V} {Q : VK} {n : Nat} (hD : H D = some (.lst zs)) (he : H e = some (.lst [])) (es : ∃ es, (∀ H, DpAll K H zs es) ∧ (∀ d ∈ es, Od 0 d) ∧ es.length ≤ n) (h : Q (.bl (!decide (zs = []))) H) : rNeD K (.ref D) (.ref e) H Q := by
  obtain ⟨d, e, h1, h2, h3, h4, h5⟩ := eqNil (Q := fun x H => Q (match x with | .bl b => .bl (!b) | _ => x) H) hD he es h
  exact ⟨d, e, h1, h2, h3, h4, h5⟩
end KS

set_option Elab.async false
set_option linter.all false
set_option maxRecDepth 100000
set_option maxHeartbeats 4000000
namespace KS
open PySem PySem.Spec PyProof.Rows L2
/-! ### what the words mean -/
def signOk (c : Nat) : Bool := decide (32 ≤ c) && (decide (c ≤ 126) && decide (c ≠ 37))
def okT (z : Str) : Bool := decide (z.length ≤ 400) && z.cps.toList.all signOk
def letter (c : Nat) : Bool := decide (97 ≤ c) && decide (c ≤ 122)
def nameSign (c : Nat) : Bool := letter c || (decide (48 ≤ c) && decide (c ≤ 57))
def okN (z : Str) : Bool := decide (1 ≤ z.length) && (decide (z.length ≤ 8) && (letter (z.cps.getD 0 0) && z.cps.toList.all nameSign))
def isTx : PyData → Bool
  | .str z => okT z
  | _ => false
def isNm : PyData → Bool
  | .str z => okN z
  | _ => false
def isKy : PyData → Bool
  | .tuple [a, b] => isNm a && isNm b
  | _ => false
/-- a promise: the answer to a question about one value -/
def spIs (K : PySem.W.Frag) (n : Nat) (p : PyData → Bool) : Sp := fun vs H Q _ => ∃ v d, vs = [v] ∧ Dp K H v d ∧ Od n d ∧ ∀ H', Same H H' → Q (.bl (p d)) H'
/-- a def's bundle -/
structure Has (P : Program) (w : World) (K : PySem.W.Frag) (mg : Str → Option Value) (base : Heap) (k : Nat) (x : Str) (ps : List Str) (sp : Sp) : Prop where
  ex : ∃ (f : Addr) (fd : FuncData), mg x = some (.ref f) ∧ PySem.W.keepIn K (.ref f) = true ∧ Binds K fd ps [] ∧ FnOk P w K mg base CX0 k f fd ps sp
abbrev IntG (mg : Str → Option Value) (x : Str) (i : Int) : Prop := ∃ t, mg x = some (.int i t)
theorem IntG.gc {mg : Str → Option Value} {x : Str} {i : Int} (h : IntG mg x i) : ∃ u, mg x = some u ∧ RelV (.int i) u := let ⟨t, e⟩ := h; ⟨_, e, t, rfl⟩
section
variable {P : Program} {w : World} {K : PySem.W.Frag} {mg : Str → Option Value} {base : Heap} {f : Addr} {fd : FuncData}
theorem leOne (a c : Nat) : (!decide ([c] < [a])) = decide (a ≤ c) := by
  have e : ([c] < [a]) ↔ c < a := by
    rw [List.cons_lt_cons_iff]
    constructor
    · rintro (h | ⟨_, h⟩)
      · exact h
      · exact absurd h (by simp)
    · exact fun h => .inl h
  by_cases h : a ≤ c
  · rw [decide_eq_true h, decide_eq_false (fun z => absurd (e.mp z) (by omega))]
    rfl
  · rw [decide_eq_false h, decide_eq_true (e.mpr (by omega))]
    rfl
theorem scText : FnScope ["value"] ["value"] (defScope sIsText) := ⟨rfl, rfl, rfl, by decide +kernel, rfl, by decide +kernel, by decide +kernel⟩
theorem allRange (l : List Nat) (p : Nat → Bool) : (((List.range l.length).map fun i => p (l.getD i 0)).all id) = l.all p := by
  rw [Bool.eq_iff_iff, List.all_eq_true, List.all_eq_true]
  constructor
  · intro h x hx
    obtain ⟨i, hi, e⟩ := List.getElem_of_mem hx
    have := h (p (l.getD i 0)) (List.mem_map.mpr ⟨i, List.mem_range.mpr hi, rfl⟩)
    rw [List.getD_eq_getElem?_getD, List.getElem?_eq_getElem hi] at this
    rw [← e]
    exact this
  · intro h b hb
    obtain ⟨i, hi, e⟩ := List.mem_map.mp hb
    rw [← e]
    have hi' := List.mem_range.mp hi
    rw [List.getD_eq_getElem?_getD, List.getElem?_eq_getElem hi']
    exact h _ (List.getElem_mem hi')
theorem plainTil : (List.range 128).all (fun c => decide (c ≠ 37) && Unicode.isPrintable c == signOk c || decide (c = 37)) = true := by decide +kernel
theorem plainSign {c : Nat} (h : c < 128) (h2 : c ≠ 37) : Unicode.isPrintable c = signOk c := by
  have := List.all_eq_true.mp plainTil c (List.mem_range.mpr h)
  rw [decide_eq_true h2, decide_eq_false h2, Bool.true_and, Bool.or_false] at this
  exact eq_of_beq this
theorem signAscii {c : Nat} (h : signOk c = true) : c < 128 ∧ c ≠ 37 := by
  unfold signOk at h
  rw [Bool.and_eq_true, Bool.and_eq_true, decide_eq_true_eq, decide_eq_true_eq, decide_eq_true_eq] at h
  omega
theorem okT_as (z : Str) : z.cps.toList.all signOk = (Txt.isascii z && (Txt.isprintable z && decide ((TD.gone 37 z.cps.toList).length = z.cps.toList.length))) := by
  have e1 : Txt.isascii z = z.cps.toList.all (fun c => decide (c < 128)) := by
    show z.cps.all _ = _
    rw [Array.all_toList]
  have e2 : Txt.isprintable z = z.cps.toList.all Unicode.isPrintable := by
    show z.cps.all _ = _
    rw [Array.all_toList]
  rw [e1, e2, Bool.eq_iff_iff, Bool.and_eq_true, Bool.and_eq_true, decide_eq_true_eq, TD.goneLen]
  simp only [List.all_eq_true, decide_eq_true_eq]
  constructor
  · intro h
    refine ⟨fun c hc => (signAscii (h c hc)).1, fun c hc => ?_, fun c hc => (signAscii (h c hc)).2⟩
    rw [plainSign (signAscii (h c hc)).1 (signAscii (h c hc)).2]
    exact h c hc
  · intro ⟨h1, h2, h3⟩ c hc
    rw [← plainSign (h1 c hc) (h3 c hc)]
    exact h2 c hc
theorem okText {k n : Nat} (F : FnP K "is_text" sIsText f fd) (B : Bn mg) (g1 : IntG mg "LONGEST_TEXT" 400) : FnOk P w K mg base CX0 (k + 1) f fd ["value"] (spIs K n isTx) := by
  refine F.ok scText (fun vs H Q E h => ?_) (fun cdv A outer s H vs Q E hr h => ?_)
  · obtain ⟨v, d, rfl, _⟩ := h
    rfl
  · obtain ⟨v, d, rfl, hd, od, q⟩ := h
    refine ⟨_, PSs.nox (pss_cons (ps_if (PW.pt (pw_or (pt_not (pt_val (pe_callB call_isi (by rfl) B.isi (by decide +kernel) (pa_cons (pv 0) (pa_cons (pe_bltn (v := .ty "str") (by rfl) B.str (by decide +kernel) rfl) pa_nil)))))
        (pw_or (pt_cmpR op_gt (pe_callB call_len_str (by rfl) B.len PySem.boot_len (pa_cons (pv 0) pa_nil)) (C8.pe_gc (by rfl) g1.gc) (nomark _))
        (pw_or (pt_not (pt_val (pe_bm0 PySem.F.plainAttrs_str PySem.F.slot_str_isascii PySem.F.type_str_isascii mt_isascii (pv 0))))
        (pw_or1 (pt_not (pt_val (pe_bm0 PySem.F.plainAttrs_str PySem.F.slot_str_isprintable PySem.F.type_str_isprintable mt_isprintable (pv 0))))))))) (pss_one (ps_ret pe_bl)) pss_nil) (pss_one (ps_ret (pe_cmpR op_eq (pe_callB call_len_str (by rfl) B.len PySem.boot_len (pa_cons (pe_bm PySem.F.plainAttrs_str PySem.F.slot_str_translate PySem.F.type_str_translate (TD.mt_drop (n := 37) rfl) (pv 0)
          (pa_cons (pe_disp (pps_cons pe_int pe_non pps_nil) (by rfl) (by rfl) (fun z => by cases z) (by decide)) pa_nil)) pa_nil))
        (pe_callB call_len_str (by rfl) B.len PySem.boot_len (pa_cons (pv 0) pa_nil)) (nomark _))))), ?_⟩
    refine ⟨v, rfl, v, .ty "str", _, _, _, rfl, .ty _, dpTy hd, dpKit hd (.inr (.inl rfl)), _, rfl, ?_⟩
    cases od with
    | @str _ z sok len =>
      cases hd
      have hq : ∀ H', Same H H' → ∀ b, okT z = b → Q (.bl b) H' := fun H' s' b e => e ▸ q H' s'
      refine iteF ⟨.str z, rfl, z, rfl, by rw [sizeLine_eq]; omega, _, _, rfl, rfl, _, rfl, ite2 (fun e => ?_) (fun e => ?_)⟩
      · have e1 : (400 : Int) < (z.length : Int) := of_decide_eq_true e
        exact hq H (Same.refl H) _ (by unfold okT; rw [decide_eq_false (by omega), Bool.false_and])
      · have e1 : ¬ (400 : Int) < (z.length : Int) := fun y => e (decide_eq_true y)
        have e2 : okT z = (Txt.isascii z && (Txt.isprintable z && decide ((TD.gone 37 z.cps.toList).length = z.cps.toList.length))) := by
          rw [← okT_as]
          unfold okT
          rw [decide_eq_true (by omega), Bool.true_and]
        refine ⟨.str z, rfl, rfl, z, rfl, rfl, trivial, _, rfl, ?_⟩
        cases ha : Txt.isascii z with
        | false => exact iteT (hq H (Same.refl H) _ (by rw [e2, ha, Bool.false_and]))
        | true =>
          refine iteF ⟨.str z, rfl, rfl, z, rfl, rfl, trivial, _, rfl, ?_⟩
          cases hp : Txt.isprintable z with
          | false => exact iteT (hq H (Same.refl H) _ (by rw [e2, hp, Bool.false_and, Bool.and_false]))
          | true =>
            rw [ha, hp, Bool.true_and, Bool.true_and] at e2
            refine iteF ⟨.str z, rfl, rfl, fun D hD => ⟨upd_same .., [(Sum.inl 37, V.non)], rfl, by decide, z, D, rfl, rfl, upd_same .., ha, by omega, _, rfl, ?_, .str z, rfl, z, rfl, by rw [sizeLine_eq]; omega, ?_⟩⟩
            · have := List.length_filter_le (fun c => decide (c ≠ 37)) z.cps.toList
              have e3 : z.cps.toList.length = z.length := rfl
              show (TD.gone 37 z.cps.toList).toArray.size ≤ _
              rw [List.size_toArray, sizeLine_eq]
              unfold TD.gone
              omega
            · refine ⟨rfl, ?_⟩
              have e3 : decide (V.int (((⟨(TD.gone 37 z.cps.toList).toArray⟩ : Str).length : Nat) : Int) = V.int (z.length : Int)) = decide ((TD.gone 37 z.cps.toList).length = z.cps.toList.length) := by
                rw [decide_eq_decide]
                have e4 : (⟨(TD.gone 37 z.cps.toList).toArray⟩ : Str).length = (TD.gone 37 z.cps.toList).length := List.size_toArray
                have e5 : z.cps.toList.length = z.length := rfl
                rw [e4, e5]
                constructor
                · intro y
                  have : ((TD.gone 37 z.cps.toList).length : Int) = (z.length : Int) := by injection y
                  omega
                · intro y
                  rw [y]
              rw [e3]
              exact hq _ (fun b o hb => by
                have ne : b ≠ D := fun e => by rw [e, hD] at hb; cases hb
                rw [upd_ne ne, upd_ne ne]
                exact hb) _ e2
    | non => exact iteT (q H (Same.refl H))
    | bl => exact iteT (q H (Same.refl H))
    | int => exact iteT (q H (Same.refl H))
    | tup => exact iteT (q H (Same.refl H))
end
end KS

set_option Elab.async false
set_option linter.all false
set_option maxRecDepth 100000
set_option maxHeartbeats 4000000
namespace KS
open PySem PySem.Spec PyProof.Rows L2
section
variable {P : Program} {w : World} {K : PySem.W.Frag} {mg : Str → Option Value} {base : Heap} {f : Addr} {fd : FuncData}
theorem nameTil : (List.range 128).all (fun c => (Unicode.isAlnum c && !(Unicode.isUpper c || Unicode.isTitle c)) == nameSign c) = true := by decide +kernel
theorem lowTil : (List.range 128).all (fun c => !letter c || Unicode.isLower c) = true := by decide +kernel
theorem nameIs {c : Nat} (h : c < 128) : (Unicode.isAlnum c && !(Unicode.isUpper c || Unicode.isTitle c)) = nameSign c :=
  eq_of_beq (List.all_eq_true.mp nameTil c (List.mem_range.mpr h))
theorem nameLow {c : Nat} (h : nameSign c = true) : c < 128 := by
  unfold nameSign letter at h
  simp only [Bool.or_eq_true, Bool.and_eq_true, decide_eq_true_eq] at h
  omega
theorem lowIs {c : Nat} (h : letter c = true) : Unicode.isLower c = true := by
  have hc : c < 128 := nameLow (by unfold nameSign; rw [h, Bool.true_or])
  have := List.all_eq_true.mp lowTil c (List.mem_range.mpr hc)
  rw [h] at this
  exact this
theorem okN_as (z : Str) {c0 : Nat} (h0 : z.cps[0]? = some c0) (hl : letter c0 = true) : z.cps.toList.all nameSign = (Txt.isascii z && (Txt.isalnum z && Txt.islower z)) := by
  have m0 : c0 ∈ z.cps.toList := List.mem_of_getElem? (i := 0) (by rw [Array.getElem?_toList]; exact h0)
  have e1 : Txt.isascii z = z.cps.toList.all (fun c => decide (c < 128)) := by
    show z.cps.all _ = _
    rw [Array.all_toList]
  have e2 : Txt.isalnum z = z.cps.toList.all Unicode.isAlnum := by
    show (decide (z.length > 0) && z.cps.all _) = _
    rw [Array.all_toList, decide_eq_true (by show z.cps.toList.length > 0; exact List.length_pos_of_mem m0), Bool.true_and]
  have e3 : Txt.islower z = !z.cps.toList.any (fun c => Unicode.isUpper c || Unicode.isTitle c) := by
    show (z.cps.any _ && !z.cps.any _) = _
    rw [← Array.any_toList, ← Array.any_toList, List.any_eq_true.mpr ⟨c0, m0, lowIs hl⟩, Bool.true_and]
  rw [e1, e2, e3, Bool.eq_iff_iff, Bool.and_eq_true, Bool.and_eq_true, Bool.not_eq_true', List.any_eq_false]
  simp only [List.all_eq_true, decide_eq_true_eq]
  constructor
  · intro h
    refine ⟨fun c hc => nameLow (h c hc), fun c hc => ?_, fun c hc => ?_⟩
    · have := h c hc
      rw [← nameIs (nameLow this), Bool.and_eq_true] at this
      exact this.1
    · have := h c hc
      rw [← nameIs (nameLow this), Bool.and_eq_true, Bool.not_eq_true'] at this
      rw [this.2]
      exact Bool.false_ne_true
  · intro ⟨h1, h2, h3⟩ c hc
    rw [← nameIs (h1 c hc), h2 c hc, Bool.eq_false_iff.mpr (h3 c hc)]
    rfl
theorem scName : FnScope ["value"] ["value"] (defScope sIsName) := ⟨rfl, rfl, rfl, by decide +kernel, rfl, by decide +kernel, by decide +kernel⟩
theorem okName {k n : Nat} (F : FnP K "is_name" sIsName f fd) (B : Bn mg) (g1 : IntG mg "LONGEST_NAME" 8) : FnOk P w K mg base CX0 (k + 1) f fd ["value"] (spIs K n isNm) := by
  refine F.ok scName (fun vs H Q E h => ?_) (fun cdv A outer s H vs Q E hr h => ?_)
  · obtain ⟨v, d, rfl, _⟩ := h
    rfl
  · obtain ⟨v, d, rfl, hd, od, q⟩ := h
    refine ⟨_, PSs.nox (pss_cons (ps_if (PW.pt (pw_or (pt_not (pt_val (pe_callB call_isi (by rfl) B.isi (by decide +kernel) (pa_cons (pv 0) (pa_cons (pe_bltn (v := .ty "str") (by rfl) B.str (by decide +kernel) rfl) pa_nil)))))
        (pw_or1 (pt_not (pt_chain op_le op_le pe_int (pe_callB call_len_str (by rfl) B.len PySem.boot_len (pa_cons (pv 0) pa_nil)) (C8.pe_gc (by rfl) g1.gc)))))) (pss_one (ps_ret pe_bl)) pss_nil) (pss_one (ps_ret (pe_and (pe_chain op_le_str op_le_str pe_str (pe_ix ix_str (pv 0) pe_int (fun _ _ => rfl)) pe_str)
        (pe_and (pe_bm0 PySem.F.plainAttrs_str PySem.F.slot_str_isascii PySem.F.type_str_isascii mt_isascii (pv 0))
        (pe_and (pe_bm0 PySem.F.plainAttrs_str PySem.F.slot_str_isalnum PySem.F.type_str_isalnum mt_isalnum (pv 0))
        (pe_one (pe_bm0 PySem.F.plainAttrs_str PySem.F.slot_str_islower PySem.F.type_str_islower mt_islower (pv 0))))))))), ?_⟩
    refine ⟨v, rfl, v, .ty "str", _, _, _, rfl, .ty _, dpTy hd, dpKit hd (.inr (.inl rfl)), _, rfl, ?_⟩
    cases od with
    | @str _ z sok len =>
      cases hd
      have hq : ∀ H', Same H H' → ∀ b, okN z = b → Q (.bl b) H' := fun H' s' b e => e ▸ q H' s'
      refine iteF ⟨.str z, rfl, z, rfl, by rw [sizeLine_eq]; omega, _, _, rfl, rfl, _, rfl, ?_⟩
      by_cases h1 : 1 ≤ z.length
      · rw [if_pos (decide_eq_true (by omega : (1 : Int) ≤ (z.length : Int)))]
        refine ⟨_, _, rfl, rfl, _, rfl, ?_⟩
        by_cases h2 : z.length ≤ 8
        · rw [decide_eq_true (by omega : (z.length : Int) ≤ 8)]
          refine iteF ?_
          have hz : ∃ c, z.cps[0]? = some c := ⟨z.cps[0]'h1, Array.getElem?_eq_getElem h1⟩
          obtain ⟨c, hc⟩ := hz
          have e1 : okN z = (letter c && z.cps.toList.all nameSign) := by
            unfold okN
            rw [decide_eq_true h1, decide_eq_true h2, Bool.true_and, Bool.true_and, Array.getD_eq_getD_getElem?, hc]
            rfl
          have k1 : (!decide ((⟨#[c]⟩ : Str).cps.toList < ("a" : Str).cps.toList)) = decide (97 ≤ c) := leOne 97 c
          have k2 : (!decide (("z" : Str).cps.toList < (⟨#[c]⟩ : Str).cps.toList)) = decide (c ≤ 122) := leOne c 122
          refine ⟨.str z, rfl, z, 0, c, rfl, rfl, by rw [sizeLine_eq]; omega, atI_nat (j := 0) (by rw [Array.getElem?_toList]; exact hc), _, _, rfl, rfl, _, rfl, ?_⟩
          rw [k1]
          by_cases h3 : 97 ≤ c
          · rw [if_pos (decide_eq_true h3)]
            refine ⟨_, _, rfl, rfl, _, rfl, ?_⟩
            rw [k2]
            by_cases h4 : c ≤ 122
            · have hl : letter c = true := by unfold letter; rw [decide_eq_true h3, decide_eq_true h4]; rfl
              have e2 : okN z = (Txt.isascii z && (Txt.isalnum z && Txt.islower z)) := by rw [e1, hl, Bool.true_and, okN_as z hc hl]
              rw [if_pos (decide_eq_true h4)]
              refine ⟨.str z, rfl, rfl, z, rfl, rfl, trivial, _, rfl, ?_⟩
              cases ha : Txt.isascii z with
              | false => exact hq H (Same.refl H) _ (by rw [e2, ha, Bool.false_and])
              | true =>
                refine iteT ⟨.str z, rfl, rfl, z, rfl, rfl, trivial, _, rfl, ?_⟩
                cases hp : Txt.isalnum z with
                | false => exact hq H (Same.refl H) _ (by rw [e2, hp, Bool.false_and, Bool.and_false])
                | true => exact iteT ⟨.str z, rfl, rfl, z, rfl, rfl, trivial, hq H (Same.refl H) _ (by rw [e2, ha, hp, Bool.true_and, Bool.true_and])⟩
            · rw [if_neg (by simp [h4])]
              have : decide (c ≤ 122) = false := decide_eq_false h4
              exact hq H (Same.refl H) _ (by rw [e1]; unfold letter; rw [this, Bool.and_false, Bool.false_and])
          · rw [if_neg (by simp [h3])]
            have : decide (97 ≤ c) = false := decide_eq_false h3
            exact ⟨_, rfl, hq H (Same.refl H) _ (by rw [e1]; unfold letter; rw [this, Bool.false_and, Bool.false_and])⟩
        · rw [decide_eq_false (by omega : ¬ (z.length : Int) ≤ 8)]
          exact iteT (hq H (Same.refl H) _ (by unfold okN; rw [decide_eq_false h2, Bool.false_and, Bool.and_false]))
      · rw [if_neg (by rw [decide_eq_true_eq]; omega)]
        exact ⟨_, rfl, iteT (hq H (Same.refl H) _ (by unfold okN; rw [decide_eq_false h1, Bool.false_and]))⟩
    | non => exact iteT (q H (Same.refl H))
    | bl => exact iteT (q H (Same.refl H))
    | int => exact iteT (q H (Same.refl H))
    | tup => exact iteT (q H (Same.refl H))
theorem scKey : FnScope ["value"] ["value"] (defScope sIsKey) := ⟨rfl, rfl, rfl, by decide +kernel, rfl, by decide +kernel, by decide +kernel⟩
theorem dInt {i j : Int} : decide (V.int i = V.int j) = decide (i = j) := by
  rw [decide_eq_decide]
  exact ⟨fun h => by injection h, fun h => by rw [h]⟩
theorem okKey {k n : Nat} (F : FnP K "is_key" sIsKey f fd) (B : Bn mg) (Nm : Has P w K mg base (k + 2) "is_name" ["value"] (spIs K n isNm)) : FnOk P w K mg base CX0 (k + 3) f fd ["value"] (spIs K n isKy) := by
  obtain ⟨fN, fdN, gN, kN, bN, GN⟩ := Nm.ex
  refine F.ok scKey (fun vs H Q E h => ?_) (fun cdv A outer s H vs Q E hr h => ?_)
  · obtain ⟨v, d, rfl, _⟩ := h
    rfl
  · obtain ⟨v, d, rfl, hd, od, q⟩ := h
    refine ⟨_, PSs.nox (pss_one (ps_ret (pe_and (pe_callB call_isi (by rfl) B.isi (by decide +kernel) (pa_cons (pv 0) (pa_cons (pe_bltn (v := .ty "tuple") (by rfl) B.tuple (by decide +kernel) rfl) pa_nil)))
      (pe_and (pe_cmpR op_eq (pe_callB call_len_seq (by rfl) B.len PySem.boot_len (pa_cons (pv 0) pa_nil)) pe_int (nomark _))
      (pe_and (pe_call GN hr (by rfl) gN kN bN .nil pass0 (pa_cons (pe_ix ix_tup (pv 0) pe_int (fun _ _ => rfl)) pa_nil)) (pe_one (pe_call GN hr (by rfl) gN kN bN .nil pass0 (pa_cons (pe_ix ix_tup (pv 0) pe_int (fun _ _ => rfl)) pa_nil)))))))), ?_⟩
    refine ⟨v, rfl, v, .ty "tuple", _, _, _, rfl, .ty _, dpTy hd, dpKit hd (.inl rfl), _, rfl, ?_⟩
    cases od with
    | @tup n ds hl hod =>
      cases hd with
      | @tup a xs _ hx hds =>
        have el := dpLen hds
        refine iteT ⟨.ref a, rfl, a, xs, rfl, .inr hx, rfl, _, rfl, ?_⟩
        rw [dInt]
        refine ite2 (fun e => ?_) (fun e => ?_)
        · have e2 : xs.length = 2 := by have := of_decide_eq_true e; omega
          match xs, ds, hds, el, e2 with
          | [x0, x1], [d0, d1], .cons h0 (.cons h1 .nil), _, _ =>
            have o0 := (hod d0 (by simp)).up (m := n + 1) (by omega)
            have o1 := (hod d1 (by simp)).up (m := n + 1) (by omega)
            refine ⟨.ref a, rfl, a, _, 0, x0, rfl, rfl, hx, atI_nat (j := 0) rfl, x0, d0, rfl, h0, o0, fun H1 s1 => ⟨_, rfl, ite2 (fun e => ?_) (fun e => ?_)⟩⟩
            · refine ⟨.ref a, rfl, a, _, 1, x1, rfl, rfl, sameTup s1 hx, atI_nat (j := 1) rfl, x1, d1, rfl, dpSame s1 _ _ h1, o1, fun H2 s2 => ?_⟩
              have := q H2 (s1.trans s2)
              rw [show isKy (.tuple [d0, d1]) = (isNm d0 && isNm d1) from rfl, e, Bool.true_and] at this
              exact this
            · have := q H1 s1
              rw [show isKy (.tuple [d0, d1]) = (isNm d0 && isNm d1) from rfl, Bool.eq_false_iff.mpr e, Bool.false_and] at this
              exact this
        · have e2 : xs.length ≠ 2 := fun z => e (by rw [z]; rfl)
          have e3 : isKy (.tuple ds) = false := by
            match ds, el with
            | [], _ => rfl
            | [_], _ => rfl
            | [_, _], el => exact absurd el e2
            | _ :: _ :: _ :: _, _ => rfl
          rw [e3] at q
          exact q H (Same.refl H)
    | non => exact iteF (q H (Same.refl H))
    | bl => exact iteF (q H (Same.refl H))
    | int => exact iteF (q H (Same.refl H))
    | str => exact iteF (q H (Same.refl H))
end
end KS

set_option Elab.async false
set_option linter.all false
set_option maxRecDepth 100000
set_option maxHeartbeats 4000000
namespace KS
open PySem PySem.Spec PyProof.Rows L2
def namesOf : PyData → List Str
  | .tuple [.str a, .str b] => [a, b]
  | _ => []
def areKy : PyData → Bool
  | .tuple ds => decide (1 ≤ ds.length) && (decide (ds.length ≤ 4) && (ds.all isKy && decide ((ds.map namesOf).Nodup)))
  | _ => false
def orNone : PyData → Bool
  | .none => true
  | d => isTx d
def areAn : PyData → Bool
  | .tuple ds => decide (1 ≤ ds.length) && (decide (ds.length ≤ 4) && ds.all orNone)
  | _ => false
def areAr : PyData → Bool
  | .tuple ds => decide (ds.length ≤ 4) && ds.all isTx
  | _ => false
def isIn : PyData → Bool
  | .int _ => true
  | _ => false
def isWord (z : Str) (d : PyData) : Bool := PyData.eqv d (.str z)
def isSt : PyData → Bool
  | .tuple [a, b] => isWord "read" a && areKy b
  | .tuple [a, b, c] => isWord "write" a && (isNm b && isTx c)
  | .tuple ds => PyData.eqv (.tuple ds) (.tuple [.str "stop"])
  | _ => false
def rowsOk : PyData → Bool
  | .tuple ds => ds.all areAn
  | _ => false
def posI : PyData → Bool
  | .int i => decide (0 ≤ i)
  | _ => false
def isPl : PyData → Bool
  | .tuple [r, a, s, c] => isTx r && (areAr a && (rowsOk s && posI c))
  | _ => false
theorem kyShape {d : PyData} (h : isKy d = true) : ∃ a b : Str, d = .tuple [.str a, .str b] := by
  unfold isKy at h
  split at h
  · rename_i a b
    rw [Bool.and_eq_true] at h
    cases a <;> simp [isNm] at h
    cases b <;> simp [isNm] at h
    exact ⟨_, _, rfl⟩
  · cases h
theorem txRow {K : PySem.W.Frag} {H : Hp} : ∀ {ds : List PyData} {xs : List V}, DpAll K H xs ds → ds.all isKy = true → S4.TxRow K H xs (ds.map namesOf)
  | _, _, .nil, _ => .nil
  | _, _, .cons h r, e => by
    rw [List.all_cons, Bool.and_eq_true] at e
    obtain ⟨a, b, rfl⟩ := kyShape e.1
    cases h with
    | tup hx hd =>
      cases hd with
      | cons h1 r1 =>
        cases r1 with
        | cons h2 r2 =>
          cases r2
          cases h1
          cases h2
          exact .cons (k := [a, b]) hx (txRow r e.2)
section
variable {P : Program} {w : World} {K : PySem.W.Frag} {mg : Str → Option Value} {base : Heap} {f : Addr} {fd : FuncData}
theorem scKeys : FnScope ["value", "key"] ["value"] (defScope sAreKeys) := ⟨rfl, rfl, rfl, by decide +kernel, rfl, by decide +kernel, by decide +kernel⟩
theorem okKeys {k n : Nat} (F : FnP K "are_keys" sAreKeys f fd) (B : Bn mg) (g1 : IntG mg "MOST_KEYS" 4) (Ky : Has P w K mg base (k + 3) "is_key" ["value"] (spIs K n isKy)) : FnOk P w K mg base CX0 (k + 4) f fd ["value"] (spIs K n areKy) := by
  obtain ⟨fN, fdN, gN, kN, bN, GN⟩ := Ky.ex
  refine F.ok scKeys (fun vs H Q E h => ?_) (fun cdv A outer s H vs Q E hr h => ?_)
  · obtain ⟨v, d, rfl, _⟩ := h
    rfl
  · obtain ⟨v, d, rfl, hd, od, q⟩ := h
    refine ⟨_, PSs.nox (pss_cons (ps_if (PW.pt (pw_or (pt_not (pt_val (pe_callB call_isi (by rfl) B.isi (by decide +kernel) (pa_cons (pv 0) (pa_cons (pe_bltn (v := .ty "tuple") (by rfl) B.tuple (by decide +kernel) rfl) pa_nil)))))
        (pw_or1 (pt_not (pt_chain op_le op_le pe_int (pe_callB call_len_seq (by rfl) B.len PySem.boot_len (pa_cons (pv 0) pa_nil)) (C8.pe_gc (by rfl) g1.gc)))))) (pss_one (ps_ret pe_bl)) pss_nil) (pss_one (ps_ret (pe_and (pe_callB (cr_all rfl) (by rfl) B.all (by decide +kernel) (pa_cons (pe_lc (own := [("key", 1)]) (g := gName 1) rfl scKeys.nd (pi_tup (pv 0)) (blkOk_by (N := ["value", "key"]) (sc := defScope sAreKeys) (by decide +kernel))
        (fun _ _ _ _ _ => pg_name (i := 1) scKeys.nd rfl (.inl rfl) (hf := .inr rfl)) (fun _ _ _ _ _ => pts_nil)
        (fun _ _ _ _ _ => pe_call GN hr (by rfl) gN kN bN .nil pass0 (pa_cons (pv 1) pa_nil))) pa_nil))
        (pe_one (pe_cmpR op_eq (S4.pe_lenSetT hr.units rfl (by rfl) B.len (by rfl) B.set (pv 0)) (pe_callB call_len_seq (by rfl) B.len PySem.boot_len (pa_cons (pv 0) pa_nil)) (nomark _))))))), ?_⟩
    refine ⟨v, rfl, v, .ty "tuple", _, _, _, rfl, .ty _, dpTy hd, dpKit hd (.inl rfl), _, rfl, ?_⟩
    cases od with
    | @tup n ds hl hod =>
      cases hd with
      | @tup a xs _ hx hds =>
        have el := dpLen hds
        have hq : ∀ H', Same H H' → ∀ b, areKy (.tuple ds) = b → Q (.bl b) H' := fun H' s' b e => e ▸ q H' s'
        refine iteF ⟨.ref a, rfl, a, xs, rfl, .inr hx, _, _, rfl, rfl, _, rfl, ?_⟩
        by_cases h1 : 1 ≤ ds.length
        · rw [if_pos (decide_eq_true (by omega : (1 : Int) ≤ (xs.length : Int)))]
          refine ⟨_, _, rfl, rfl, _, rfl, ?_⟩
          by_cases h2 : ds.length ≤ 4
          · rw [decide_eq_true (by omega : (xs.length : Int) ≤ 4)]
            refine iteF ?_
            have e1 : areKy (.tuple ds) = (ds.all isKy && decide ((ds.map namesOf).Nodup)) := by
              show (decide (1 ≤ ds.length) && (decide (ds.length ≤ 4) && (ds.all isKy && decide ((ds.map namesOf).Nodup)))) = _
              rw [decide_eq_true h1, decide_eq_true h2, Bool.true_and, Bool.true_and]
            refine ⟨.ref a, rfl, a, rfl, ⟨xs, hx⟩, fun D hD => ?_⟩
            refine lcAllT isKy hx hds (by omega) hD (fun v => rfl) (fun v d H1 hm s1 hd R hR => ?_) (fun H1 s1 e3 => ?_)
            · exact ⟨v, rfl, v, d, rfl, hd, (hod d hm).up (by omega), fun H2 s2 => hR H2 s2⟩
            · refine ⟨D, ds.map isKy, rfl, .inl (.inl e3), _, rfl, ?_⟩
              rw [show (ds.map isKy).all id = ds.all isKy by rw [List.all_map]; rfl]
              refine ite2 (fun e => ?_) (fun e => ?_)
              · refine ⟨.ref a, rfl, a, xs, _, rfl, sameTup s1 hx, txRow (dpAllSame s1 _ _ hds) e, by rw [List.length_map]; exact h2, fun m m1 m2 => ?_⟩
                refine ⟨.ref a, rfl, a, xs, rfl, .inr (sameTup s1 hx), rfl, ?_⟩
                rw [dInt]
                refine hq H1 s1 _ ?_
                rw [e1, e, Bool.true_and, decide_eq_decide, ← m2, List.length_map]
                omega
              · exact hq H1 s1 _ (by rw [e1, Bool.eq_false_iff.mpr e, Bool.false_and])
          · rw [decide_eq_false (by omega : ¬ (xs.length : Int) ≤ 4)]
            exact iteT (hq H (Same.refl H) _ (by show (decide (1 ≤ ds.length) && (decide (ds.length ≤ 4) && _)) = _; rw [decide_eq_false h2, Bool.false_and, Bool.and_false]))
        · rw [if_neg (by rw [decide_eq_true_eq]; omega)]
          exact ⟨_, rfl, iteT (hq H (Same.refl H) _ (by show (decide (1 ≤ ds.length) && _) = _; rw [decide_eq_false h1, Bool.false_and]))⟩
    | non => exact iteT (q H (Same.refl H))
    | bl => exact iteT (q H (Same.refl H))
    | int => exact iteT (q H (Same.refl H))
    | str => exact iteT (q H (Same.refl H))
theorem scAns : FnScope ["value", "answer"] ["value"] (defScope sAreAnswers) := ⟨rfl, rfl, rfl, by decide +kernel, rfl, by decide +kernel, by decide +kernel⟩
theorem okAns {k n : Nat} (F : FnP K "are_answers" sAreAnswers f fd) (B : Bn mg) (g1 : IntG mg "MOST_KEYS" 4) (Tx : Has P w K mg base (k + 1) "is_text" ["value"] (spIs K n isTx)) : FnOk P w K mg base CX0 (k + 2) f fd ["value"] (spIs K n areAn) := by
  obtain ⟨fN, fdN, gN, kN, bN, GN⟩ := Tx.ex
  refine F.ok scAns (fun vs H Q E h => ?_) (fun cdv A outer s H vs Q E hr h => ?_)
  · obtain ⟨v, d, rfl, _⟩ := h
    rfl
  · obtain ⟨v, d, rfl, hd, od, q⟩ := h
    refine ⟨_, PSs.nox (pss_cons (ps_if (PW.pt (pw_or (pt_not (pt_val (pe_callB call_isi (by rfl) B.isi (by decide +kernel) (pa_cons (pv 0) (pa_cons (pe_bltn (v := .ty "tuple") (by rfl) B.tuple (by decide +kernel) rfl) pa_nil)))))
        (pw_or1 (pt_not (pt_chain op_le op_le pe_int (pe_callB call_len_seq (by rfl) B.len PySem.boot_len (pa_cons (pv 0) pa_nil)) (C8.pe_gc (by rfl) g1.gc)))))) (pss_one (ps_ret pe_bl)) pss_nil) (pss_one (ps_ret (pe_callB (cr_all rfl) (by rfl) B.all (by decide +kernel) (pa_cons (pe_lc (own := [("answer", 1)]) (g := gName 1) rfl scAns.nd (pi_tup (pv 0)) (blkOk_by (N := ["value", "answer"]) (sc := defScope sAreAnswers) (by decide +kernel))
        (fun _ _ _ _ _ => pg_name (i := 1) scAns.nd rfl (.inl rfl) (hf := .inr rfl)) (fun _ _ _ _ _ => pts_nil)
        (fun _ _ _ _ _ => pe_or (pe_cmpR op_isN (pv 1) pe_non (nomark _)) (pe_one (pe_call GN hr (by rfl) gN kN bN .nil pass0 (pa_cons (pv 1) pa_nil))))) pa_nil))))), ?_⟩
    refine ⟨v, rfl, v, .ty "tuple", _, _, _, rfl, .ty _, dpTy hd, dpKit hd (.inl rfl), _, rfl, ?_⟩
    cases od with
    | @tup n ds hl hod =>
      cases hd with
      | @tup a xs _ hx hds =>
        have el := dpLen hds
        have hq : ∀ H', Same H H' → ∀ b, areAn (.tuple ds) = b → Q (.bl b) H' := fun H' s' b e => e ▸ q H' s'
        refine iteF ⟨.ref a, rfl, a, xs, rfl, .inr hx, _, _, rfl, rfl, _, rfl, ?_⟩
        by_cases h1 : 1 ≤ ds.length
        · rw [if_pos (decide_eq_true (by omega : (1 : Int) ≤ (xs.length : Int)))]
          refine ⟨_, _, rfl, rfl, _, rfl, ?_⟩
          by_cases h2 : ds.length ≤ 4
          · rw [decide_eq_true (by omega : (xs.length : Int) ≤ 4)]
            refine iteF ?_
            refine ⟨.ref a, rfl, a, rfl, ⟨xs, hx⟩, fun D hD => ?_⟩
            refine lcAllT orNone hx hds (by omega) hD (fun v => rfl) (fun v d H1 hm s1 hd R hR => ?_) (fun H1 s1 e3 => ?_)
            · refine ⟨v, rfl, rfl, _, rfl, ?_⟩
              have od2 : Od (n + 1) d := (hod d hm).up (by omega)
              by_cases hn : v = .non
              · subst hn
                cases hd
                exact iteT (hR H1 (Same.refl _))
              · rw [decide_eq_false hn]
                refine iteF ⟨v, rfl, v, d, rfl, hd, od2, fun H2 s2 => ?_⟩
                have := hR H2 s2
                cases hd with
                | non => exact absurd rfl hn
                | _ => exact this
            · refine ⟨D, ds.map orNone, rfl, .inl (.inl e3), ?_⟩
              rw [show (ds.map orNone).all id = ds.all orNone by rw [List.all_map]; rfl]
              refine hq H1 s1 _ ?_
              show (decide (1 ≤ ds.length) && (decide (ds.length ≤ 4) && ds.all orNone)) = _
              rw [decide_eq_true h1, decide_eq_true h2, Bool.true_and, Bool.true_and]
          · rw [decide_eq_false (by omega : ¬ (xs.length : Int) ≤ 4)]
            exact iteT (hq H (Same.refl H) _ (by show (decide (1 ≤ ds.length) && (decide (ds.length ≤ 4) && _)) = _; rw [decide_eq_false h2, Bool.false_and, Bool.and_false]))
        · rw [if_neg (by rw [decide_eq_true_eq]; omega)]
          exact ⟨_, rfl, iteT (hq H (Same.refl H) _ (by show (decide (1 ≤ ds.length) && _) = _; rw [decide_eq_false h1, Bool.false_and]))⟩
    | non => exact iteT (q H (Same.refl H))
    | bl => exact iteT (q H (Same.refl H))
    | int => exact iteT (q H (Same.refl H))
    | str => exact iteT (q H (Same.refl H))
theorem scInt : FnScope ["value"] ["value"] (defScope sInteger) := ⟨rfl, rfl, rfl, by decide +kernel, rfl, by decide +kernel, by decide +kernel⟩
theorem okInt {k n : Nat} (F : FnP K "is_integer" sInteger f fd) (B : Bn mg) : FnOk P w K mg base CX0 (k + 1) f fd ["value"] (spIs K n isIn) := by
  refine F.ok scInt (fun vs H Q E h => ?_) (fun cdv A outer s H vs Q E hr h => ?_)
  · obtain ⟨v, d, rfl, _⟩ := h
    rfl
  · obtain ⟨v, d, rfl, hd, od, q⟩ := h
    refine ⟨_, PSs.nox (pss_one (ps_ret (pe_and (pe_callB call_isi (by rfl) B.isi (by decide +kernel) (pa_cons (pv 0) (pa_cons (pe_bltn (v := .ty "int") (by rfl) B.int (by decide +kernel) rfl) pa_nil)))
      (pe_one (pe_not (pe_callB call_isi (by rfl) B.isi (by decide +kernel) (pa_cons (pv 0) (pa_cons (pe_bltn (v := .ty "bool") (by rfl) B.bool (by decide +kernel) rfl) pa_nil)))))))), ?_⟩
    refine ⟨v, rfl, v, .ty "int", _, _, _, rfl, .ty _, dpTy hd, dpKit hd (.inr (.inr (.inl rfl))), _, rfl, ?_⟩
    have k2 := @dpKit K H v d hd "bool" (.inr (.inr (.inr (.inl rfl))))
    have t2 := dpTy hd
    cases od with
    | int => exact iteT ⟨v, rfl, v, .ty "bool", _, _, _, rfl, .ty _, t2, k2, _, rfl, q H (Same.refl H)⟩
    | bl => exact iteT ⟨v, rfl, v, .ty "bool", _, _, _, rfl, .ty _, t2, k2, _, rfl, q H (Same.refl H)⟩
    | non => exact iteF (q H (Same.refl H))
    | str => exact iteF (q H (Same.refl H))
    | tup => exact iteF (q H (Same.refl H))
end
end KS

set_option Elab.async false
set_option linter.all false
set_option maxRecDepth 100000
set_option maxHeartbeats 4000000
namespace KS.La
open PySem PySem.Spec PyProof.Rows L2
/-! ### the feed -/
/-- all but the list at f stands -/
def Kp (f : Addr) (H H' : Hp) : Prop := ∀ b o, b ≠ f → H b = some o → H' b = some o
def Fd (H : Hp) (f : Addr) : Prop := ∃ x y : Int, H f = some (.lst [.int x, .int y]) ∧ 0 ≤ x ∧ 0 ≤ y
theorem Kp.refl (f : Addr) (H : Hp) : Kp f H H := fun _ _ _ h => h
theorem Kp.trans {f : Addr} {H H1 H2 : Hp} (a : Kp f H H1) (b : Kp f H1 H2) : Kp f H H2 := fun c o n h => b c o n (a c o n h)
theorem Kp.put {f : Addr} {H : Hp} {o : HO} : Kp f H (upd H f o) := fun b u n h => by
  rw [upd_ne n]
  exact h
theorem Kp.new {f p : Addr} {H : Hp} {o : HO} (h : H p = none) : Kp f H (upd H p o) := fun b u _ e => by
  rw [upd_ne (ne_of_none e h)]
  exact e
theorem Kp.same {f : Addr} {H H' : Hp} (s : Same H H') : Kp f H H' := fun b o _ h => s b o h
theorem Fd.same {f : Addr} {H H' : Hp} (s : Same H H') : Fd H f → Fd H' f := fun ⟨x, y, h, a, b⟩ => ⟨x, y, s _ _ h, a, b⟩
theorem Fd.new {f p : Addr} {H : Hp} {o : HO} (h : H p = none) (e : Fd H f) : Fd (upd H p o) f := e.same (sameUpd h)
theorem Fd.put {f : Addr} {H : Hp} {x y : Int} (hx : 0 ≤ x) (hy : 0 ≤ y) : Fd (upd H f (.lst [.int x, .int y])) f := ⟨x, y, upd_same, hx, hy⟩
/-! ### promises -/
def spFeed (K : PySem.W.Frag) : Sp := fun vs H Q _ => ∃ (a : Addr) (ns : List Int) (k : Int), vs = [.ref a, .int k] ∧ SqL K H a (ns.map V.int) ∧ ns.length ≤ 63 ∧ 0 ≤ k ∧ k < 1000 ∧ ∀ p H', Same H H' → H p = none → Fd H' p → Q (.ref p) H'
def spDraw : Sp := fun vs H Q _ => ∃ (f : Addr) (n : Int), vs = [.ref f, .int n] ∧ Fd H f ∧ 0 < n ∧ n < 1000000 ∧ ∀ (r : Int) H', 0 ≤ r → r < n → Kp f H H' → Fd H' f → Q (.int r) H'
def spPick (K : PySem.W.Frag) : Sp := fun vs H Q _ => ∃ (f l : Addr) (xs : List V), vs = [.ref f, .ref l] ∧ Fd H f ∧ SqL K H l xs ∧ l ≠ f ∧ 0 < xs.length ∧ xs.length < 1000 ∧ ∀ (i : Nat) (v : V) H', xs[i]? = some v → Kp f H H' → Fd H' f → Q v H'
def spCalls : Sp := fun vs H Q _ => vs = [] ∧ ∀ p, H p = none → Q (.ref p) (upd H p (.lst [.str "make", .str "", .str "r 2", .str "Mend!", .str "m"]))
/-- what the law calls a line -/
def lineOk (z : Str) : Bool := decide (z.length ≤ 400) && !decide (10 ∈ z.cps.toList)
/-- drawn texts: a line exactly if a text -/
def TOk (z : Str) : Prop := SOk z ∧ z.length ≤ 1000 ∧ lineOk z = okT z
instance (z : Str) : Decidable (TOk z) := by unfold TOk SOk; infer_instance
theorem lineOfT {z : Str} (h : okT z = true) : lineOk z = true := by
  unfold okT at h
  unfold lineOk
  rw [Bool.and_eq_true] at h ⊢
  refine ⟨h.1, ?_⟩
  rw [Bool.not_eq_true', decide_eq_false_iff_not]
  intro hm
  have := List.all_eq_true.mp h.2 10 hm
  exact absurd this (by decide)
theorem sokFold : ∀ (l : List (Array Nat)) (a : Array Nat), a.all (· < 0x110000) = true → (∀ b ∈ l, b.all (· < 0x110000) = true) → (l.foldl (· ++ ·) a).all (· < 0x110000) = true
  | [], _, h, _ => h
  | b :: l, a, h, k => sokFold l (a ++ b) (by rw [Array.all_append, h, k b (List.mem_cons_self ..)]; rfl) fun c hc => k c (List.mem_cons_of_mem _ hc)
theorem sokMul {z : Str} {n : Int} (h : SOk z) : SOk (Txt.mul z n) := by
  unfold Txt.mul
  split
  · (show Str.empty.cps.all (· < 0x110000) = true; decide +kernel)
  · split
    · exact h
    · exact sokFold _ #[] (by simp) fun b hb => by rw [List.eq_of_mem_replicate hb]; exact h
theorem allFold (p : Nat → Bool) : ∀ (l : List (Array Nat)) (a : Array Nat), a.all p = true → (∀ b ∈ l, b.all p = true) → (l.foldl (· ++ ·) a).all p = true
  | [], _, h, _ => h
  | b :: l, a, h, k => allFold p l (a ++ b) (by rw [Array.all_append, h, k b (List.mem_cons_self ..)]; rfl) fun c hc => k c (List.mem_cons_of_mem _ hc)
theorem allMul (p : Nat → Bool) {z : Str} {n : Int} (h : z.cps.all p = true) : (Txt.mul z n).cps.all p = true := by
  unfold Txt.mul
  split
  · show (#[] : Array Nat).all p = true
    simp
  · split
    · exact h
    · exact allFold p _ #[] (by simp) fun b hb => by rw [List.eq_of_mem_replicate hb]; exact h
theorem tokMul {z : Str} {n : Int} {c : Nat} (h : SOk z) (e : z = ⟨#[c]⟩) (m : n ≤ 400) (hc : signOk c = true) : TOk (Txt.mul z n) := by
  have hl := len_mul_one (N := 400) e m
  have ht : okT (Txt.mul z n) = true := by
    unfold okT
    rw [Bool.and_eq_true]
    refine ⟨decide_eq_true hl, ?_⟩
    have := allMul signOk (z := z) (n := n) (by rw [e]; simpa using hc)
    rw [← Array.all_toList] at this
    exact this
  exact ⟨sokMul h, by omega, by rw [ht, lineOfT ht]⟩
def spText : Sp := fun vs H Q _ => ∃ f : Addr, vs = [.ref f] ∧ Fd H f ∧ ∀ (z : Str) H', TOk z → Kp f H H' → Fd H' f → Q (.str z) H'
section
variable {P : Program} {w : World} {K : PySem.W.Frag} {mg : Str → Option Value} {base : Heap} {f : Addr} {fd : FuncData}
theorem scFeed : FnScope ["_law_script", "_law_k", "_law_cell", "_law_great"] ["_law_script", "_law_k"] (defScope lFeed) := ⟨rfl, rfl, rfl, by decide +kernel, rfl, by decide +kernel, by decide +kernel⟩
theorem seqNat {ns : List Int} {k : Int} (h0 : 0 ≤ k) (h : k < (ns.length : Int)) : ∃ n : Int, atI (ns.map V.int) k = some (.int n) := by
  obtain ⟨j, rfl⟩ : ∃ j : Nat, k = (j : Int) := ⟨k.toNat, by omega⟩
  have hj : j < ns.length := by omega
  refine ⟨ns[j], atI_nat ?_⟩
  rw [List.getElem?_map, List.getElem?_eq_getElem hj]
  rfl
theorem okFeed {k : Nat} (F : FnP K "_law_feed_of" lFeed f fd) (ml : mg "len" = none) : FnOk P w K mg base CX0 (k + 1) f fd ["_law_script", "_law_k"] (spFeed K) := by
  refine F.ok scFeed (fun vs H Q E h => ?_) (fun cdv A outer s H vs Q E hr h => ?_)
  · obtain ⟨a, ns, k, rfl, _⟩ := h
    rfl
  · obtain ⟨a, ns, n, rfl, hS, hlen, hn0, hn1, q⟩ := h
    refine ⟨_, PSs.nox (pss_cons (ps_set (i := 2) scFeed.nd rfl (.inl rfl) (pe_op op_add (pe_op op_mul pe_int (pv 1)) pe_int))
      (C8.pss_cut (ps_if (pt_cmpR op_lt (pv 1) (pe_callB call_len_seq (by rfl) ml PySem.boot_len (pa_cons (pv 0) pa_nil)) (nomark _)) (pss_one (ps_set (i := 2) scFeed.nd rfl (.inl rfl) (pe_ix ix_list (pv 0) (pv 1) (fun _ _ => rfl)))) pss_nil)
      (C8.pss_cut (ps_if (pt_cmpR op_lt (pv 2) pe_int (nomark _)) (pss_one (ps_set (i := 2) scFeed.nd rfl (.inl rfl) (pe_op op_sub pe_int (pe_op op_mul pe_int (pv 2))))) pss_nil)
      (C8.pss_cut (ps_set (i := 3) scFeed.nd rfl (.inl rfl) (pe_ifExp (pt_cmpR op_ge (pv 2) (pe_op op_pow pe_int pe_int) (nomark _)) (pv 2) pe_int))
      (pss_one (ps_ret (pe_lst (pa_cons (pv 3) (pa_cons (pe_op op_add (pe_op op_add (pe_op op_mod (pv 2) pe_int) (pe_op op_mul pe_int (pv 1))) pe_int) pa_nil))))))))), ?_⟩
    refine ⟨.int n, rfl, 9029, n, rfl, rfl, .inl ⟨by decide, by decide⟩, 9029 * n, 31, rfl, rfl, ?_⟩
    refine ⟨fun σ' H' => H' = H ∧ ∃ c : Int, σ' = [some (.ref a), some (.int n), some (.int c), none], ?_, ?_⟩
    · refine ⟨.int n, rfl, .ref a, rfl, a, _, rfl, .inl hS, n, _, rfl, rfl, _, rfl, ite2 (fun e => ?_) (fun _ => ?_)⟩
      · have e1 : n < ((ns.map V.int).length : Int) := of_decide_eq_true e
        rw [List.length_map] at e1
        obtain ⟨c, hc⟩ := seqNat hn0 e1
        exact ⟨.ref a, rfl, .int n, rfl, a, _, n, _, rfl, rfl, hS, hc, rfl, c, rfl⟩
      · exact ⟨rfl, _, rfl⟩
    rintro σ' H' ⟨rfl, c, rfl⟩
    refine ⟨fun σ' H2 => H2 = H' ∧ ∃ c : Int, 0 ≤ c ∧ σ' = [some (.ref a), some (.int n), some (.int c), none], ?_, ?_⟩
    · refine ⟨.int c, rfl, c, 0, rfl, rfl, _, rfl, ite2 (fun e => ?_) (fun e => ?_)⟩
      · have e1 : c < 0 := of_decide_eq_true e
        exact ⟨.int c, rfl, 7, c, rfl, rfl, .inl ⟨by decide, by decide⟩, 5, 7 * c, rfl, rfl, rfl, 5 - 7 * c, by omega, rfl⟩
      · have e1 : ¬ c < 0 := fun z => e (decide_eq_true z)
        exact ⟨rfl, c, by omega, rfl⟩
    rintro σ' H2 ⟨rfl, d, hd, rfl⟩
    refine ⟨fun σ' H3 => H3 = H2 ∧ ∃ g : Int, 0 ≤ g ∧ σ' = [some (.ref a), some (.int n), some (.int d), some (.int g)], ?_, ?_⟩
    · refine ⟨.int d, rfl, 10, 18, rfl, rfl, ⟨by decide, by decide, by decide⟩, d, _, rfl, rfl, _, rfl, ite2 (fun _ => ?_) (fun _ => ?_)⟩
      · exact ⟨.int d, rfl, rfl, d, hd, rfl⟩
      · exact ⟨rfl, 0, by decide, rfl⟩
    rintro σ' H3 ⟨rfl, g, hg, rfl⟩
    refine ⟨.int g, rfl, .int d, rfl, d, 1000003, rfl, rfl, (by show (0 : Int) < 1000003; decide), .int n, rfl, 11, n, rfl, rfl, .inl ⟨by decide, by decide⟩, _, _, rfl, rfl, _, _, rfl, rfl, (by show 2 ≤ sizeLine; decide), fun p hp => ?_⟩
    refine q p _ (sameUpd hp) hp ⟨_, _, upd_same, hg, ?_⟩
    have := Int.emod_nonneg d (show (1000003 : Int) ≠ 0 by decide)
    omega
theorem scDraw : FnScope ["_law_feed", "_law_many", "_law_digit"] ["_law_feed", "_law_many"] (defScope lDraw) := ⟨rfl, rfl, rfl, by decide +kernel, rfl, by decide +kernel, by decide +kernel⟩
theorem okDraw {k : Nat} (F : FnP K "_law_draw" lDraw f fd) : FnOk P w K mg base CX0 (k + 1) f fd ["_law_feed", "_law_many"] spDraw := by
  refine F.ok scDraw (fun vs H Q E h => ?_) (fun cdv A outer s H vs Q E hr h => ?_)
  · obtain ⟨a, n, rfl, _⟩ := h
    rfl
  · obtain ⟨a, n, rfl, ⟨x, y, hf, hx, hy⟩, hn0, hn1, q⟩ := h
    have hS : ∀ {x y : Int} {H : Hp}, H a = some (.lst [.int x, .int y]) → SqL K H a [.int x, .int y] := fun h => .inl (.inl h)
    refine ⟨_, PSs.nox (pss_cons (ps_if (pt_cmpR op_gt (pe_ix ix_list (pv 0) pe_int (fun _ _ => rfl)) pe_int (nomark _))
        (pss_cons (ps_set (i := 2) scDraw.nd rfl (.inl rfl) (pe_op op_modN (pe_ix ix_list (pv 0) pe_int (fun _ _ => rfl)) (pv 1)))
        (pss_cons (ps_asg (pe_op op_fdivN (pe_ix ix_list (pv 0) pe_int (fun _ _ => rfl)) (pv 1)) (pg_sub (pv 0) pe_int set_list))
        (pss_one (ps_ret (pv 2))))) pss_nil)
      (pss_cons (ps_asg (pe_op op_mod (pe_op op_add (pe_op op_mul (pe_ix ix_list (pv 0) pe_int (fun _ _ => rfl)) pe_int) pe_int) pe_int) (pg_sub (pv 0) pe_int set_list))
      (pss_one (ps_ret (pe_op op_modN (pe_op op_fdiv (pe_ix ix_list (pv 0) pe_int (fun _ _ => rfl)) pe_int) (pv 1)))))), ?_⟩
    refine ⟨.ref a, rfl, a, _, 0, .int x, rfl, rfl, hS hf, atI_nat (j := 0) rfl, x, 0, rfl, rfl, _, rfl, ite2 (fun e => ?_) (fun e => ?_)⟩
    · refine ⟨.ref a, rfl, a, _, 0, .int x, rfl, rfl, hS hf, atI_nat (j := 0) rfl, .int n, rfl, x, n, rfl, rfl, (by show n ≠ 0; omega), ?_⟩
      refine ⟨.ref a, rfl, a, _, 0, .int x, rfl, rfl, hS hf, atI_nat (j := 0) rfl, .int n, rfl, x, n, rfl, rfl, ⟨(by omega), (by omega)⟩, ?_⟩
      refine ⟨.ref a, rfl, a, _, _, 0, rfl, rfl, hf, rfl, ?_⟩
      refine ⟨_, rfl, ?_⟩
      show Q (.int (x.fmod n)) (upd H a (.lst [.int (x.fdiv n), .int y]))
      rw [Int.fmod_eq_emod_of_nonneg x (by omega), Int.fdiv_eq_ediv_of_nonneg x (by omega)]
      exact q (x % n) _ (Int.emod_nonneg x (by omega)) (Int.emod_lt_of_pos x hn0) Kp.put (Fd.put (Int.ediv_nonneg hx (by omega)) hy)
    · refine ⟨.ref a, rfl, a, _, 1, .int y, rfl, rfl, hS hf, atI_nat (j := 1) rfl, y, 48271, rfl, rfl, .inr ⟨by decide, by decide⟩, _, 11, rfl, rfl, _, 2147483647, rfl, rfl, (by show (0 : Int) < 2147483647; decide), ?_⟩
      refine ⟨.ref a, rfl, a, _, _, 1, rfl, rfl, hf, rfl, ?_⟩
      have hm := Int.emod_nonneg (y * 48271 + 11) (show (2147483647 : Int) ≠ 0 by decide)
      refine ⟨.ref a, rfl, a, [.int x, .int ((y * 48271 + 11) % 2147483647)], 1, .int ((y * 48271 + 11) % 2147483647), rfl, rfl, hS upd_same, atI_nat (j := 1) rfl, (y * 48271 + 11) % 2147483647, 127, rfl, rfl, ⟨by decide, by decide⟩, ?_⟩
      refine ⟨.int n, rfl, _, n, rfl, rfl, (by show n ≠ 0; omega), ?_⟩
      show Q (.int (((y * 48271 + 11) % 2147483647 / 127).fmod n)) (upd H a (.lst [.int x, .int ((y * 48271 + 11) % 2147483647)]))
      rw [Int.fmod_eq_emod_of_nonneg _ (by omega)]
      exact q _ _ (Int.emod_nonneg _ (by omega)) (Int.emod_lt_of_pos _ hn0) Kp.put (Fd.put hx hm)
theorem scPick : FnScope ["_law_feed", "_law_items"] ["_law_feed", "_law_items"] (defScope lPick) := ⟨rfl, rfl, rfl, by decide +kernel, rfl, by decide +kernel, by decide +kernel⟩
theorem okPick {k : Nat} (F : FnP K "_law_pick" lPick f fd) (ml : mg "len" = none) (D : Has P w K mg base (k + 1) "_law_draw" ["_law_feed", "_law_many"] spDraw) : FnOk P w K mg base CX0 (k + 2) f fd ["_law_feed", "_law_items"] (spPick K) := by
  obtain ⟨fD, fdD, gD, kD, bD, GD⟩ := D.ex
  refine F.ok scPick (fun vs H Q E h => ?_) (fun cdv A outer s H vs Q E hr h => ?_)
  · obtain ⟨a, l, xs, rfl, _⟩ := h
    rfl
  · obtain ⟨a, l, xs, rfl, hF, hL, ne, h0, h1, q⟩ := h
    refine ⟨_, PSs.nox (pss_one (ps_ret (pe_ix ix_list (pv 1) (pe_call GD hr (by rfl) gD kD bD .nil pass0 (pa_cons (pv 0) (pa_cons (pe_callB call_len_seq (by rfl) ml PySem.boot_len (pa_cons (pv 1) pa_nil)) pa_nil))) (fun _ _ => rfl)))), ?_⟩
    refine ⟨.ref l, rfl, .ref a, rfl, .ref l, rfl, l, xs, rfl, .inl hL, ?_⟩
    refine ⟨a, (xs.length : Int), rfl, hF, by omega, by omega, fun r H' r0 r1 kp fd' => ?_⟩
    obtain ⟨j, rfl⟩ : ∃ j : Nat, r = (j : Int) := ⟨r.toNat, by omega⟩
    have hj : j < xs.length := by omega
    have hv : xs[j]? = some xs[j] := List.getElem?_eq_getElem hj
    have hL' : SqL K H' l xs := by
      rcases hL with (h | ⟨o, h⟩) | h
      · exact .inl (.inl (kp _ _ ne h))
      · exact .inl (.inr ⟨o, kp _ _ ne h⟩)
      · exact .inr h
    exact ⟨l, xs, _, _, rfl, rfl, hL', atI_nat hv, q j _ H' hv kp fd'⟩
theorem scCalls : FnScope [] [] (defScope lCalls) := ⟨rfl, rfl, rfl, by decide +kernel, rfl, by decide +kernel, by decide +kernel⟩
theorem okCalls {k : Nat} (F : FnP K "_law_calls" lCalls f fd) : FnOk P w K mg base CX0 (k + 1) f fd [] spCalls := by
  refine F.ok scCalls (fun vs H Q E h => ?_) (fun cdv A outer s H vs Q E hr h => ?_)
  · obtain ⟨rfl, _⟩ := h
    rfl
  · obtain ⟨rfl, q⟩ := h
    refine ⟨_, PSs.nox (pss_one (ps_ret (pe_lst (pa_cons pe_str (pa_cons pe_str (pa_cons pe_str (pa_cons pe_str (pa_cons pe_str pa_nil)))))))), ?_⟩
    exact ⟨(by show 5 ≤ sizeLine; decide), fun p hp => q p hp⟩
/-- z * n, z one sign -/
def rRepX : R2 := fun x y H Q => ∃ (z : Str) (n : Int), x = .str z ∧ y = .int n ∧ z.length = 1 ∧ 0 ≤ n ∧ n ≤ 1000 ∧ Q (.str (Txt.mul z n)) H
theorem opRepX {X : Cx} : OpR X (binaryOp .Mult) rRepX := by
  intro pins s σ H x y v u Q I rx ry h
  obtain ⟨z, n, rfl, rfl, hz, h0, h1, q⟩ := h
  obtain ⟨t, rfl⟩ := rx
  obtain ⟨t', rfl⟩ := ry
  refine SB.mul ⟨?_, fun g _ => ?_, fun _ _ => ?_⟩ fun t2 k => ⟨.str (Txt.mul z n), H, I.tok k, ⟨t2, rfl⟩, q⟩
  · simp
    omega
  · rw [hz]
    have hn : 0 < n := by omega
    have hle : (1 : Int) ≤ (2 ^ 63 - 1) / n := by
      rw [Int.le_ediv_iff_mul_le hn]
      omega
    show ¬ ((1 : Nat) : Int) > (2 ^ 63 - 1) / n
    omega
  · rw [hz]
    unfold Builtin.Str.tooLong
    rw [decide_eq_false_iff_not, sizeLine_eq]
    omega
theorem scTxt : FnScope ["_law_feed", "_law_form", "_law_many"] ["_law_feed"] (defScope lText) := ⟨rfl, rfl, rfl, by decide +kernel, rfl, by decide +kernel, by decide +kernel⟩
theorem okTxt {k : Nat} (F : FnP K "_law_some_text" lText f fd) (D : Has P w K mg base (k + 1) "_law_draw" ["_law_feed", "_law_many"] spDraw) (Pk : Has P w K mg base (k + 2) "_law_pick" ["_law_feed", "_law_items"] (spPick K))
    (Ca : Has P w K mg base (k + 1) "_law_calls" [] spCalls) : FnOk P w K mg base CX0 (k + 3) f fd ["_law_feed"] spText := by
  obtain ⟨fD, fdD, gD, kD, bD, GD⟩ := D.ex
  obtain ⟨fP, fdP, gP, kP, bP, GP⟩ := Pk.ex
  obtain ⟨fC, fdC, gC, kC, bC, GC⟩ := Ca.ex
  refine F.ok scTxt (fun vs H Q E h => ?_) (fun cdv A outer s H vs Q E hr h => ?_)
  · obtain ⟨a, rfl, _⟩ := h
    rfl
  · obtain ⟨a, rfl, hF, q⟩ := h
    have hr1 : Room (k + 1) _ := hr.mono (by omega)
    refine ⟨_, PSs.nox (pss_cons (ps_set (i := 1) scTxt.nd rfl (.inl rfl) (pe_call GD hr1 (by rfl) gD kD bD .nil pass0 (pa_cons (pv 0) (pa_cons (pe_int) pa_nil)))) (pss_cons (ps_if (pt_cmpR op_eq (pv 1) pe_int (nomark _)) (pss_one (ps_ret (pe_call GP hr (by rfl) gP kP bP .nil pass0 (pa_cons (pv 0) (pa_cons (pe_call0 GC hr1 (by rfl) gC kC bC .nil pass0) pa_nil))))) pss_nil) (pss_cons (ps_if (pt_cmpR op_eq (pv 1) pe_int (nomark _))
        (pss_cons (ps_set (i := 2) scTxt.nd rfl (.inl rfl) (pe_ix ix_list (pe_lst (pa_cons (pe_op op_add pe_int (pe_call GD hr1 (by rfl) gD kD bD .nil pass0 (pa_cons (pv 0) (pa_cons (pe_int) pa_nil)))) (pa_cons (pe_int) pa_nil)))
          (pe_op op_fdiv (pe_call GD hr1 (by rfl) gD kD bD .nil pass0 (pa_cons (pv 0) (pa_cons (pe_int) pa_nil))) pe_int) (fun _ _ => rfl))) (pss_one (ps_ret (pe_call GP hr (by rfl) gP kP bP .nil pass0 (pa_cons (pv 0) (pa_cons (pe_lst (pa_cons (pe_str) (pa_cons (pe_str) (pa_cons (pe_str) (pa_cons (pe_str) (pa_cons (pe_str) (pa_cons (pe_op opRepX pe_str (pv 2)) (pa_cons (pe_str) (pa_cons (pe_str) (pa_cons (pe_str) (pa_cons (pe_str) pa_nil))))))))))) pa_nil)))))) pss_nil) (pss_one (ps_ret (pe_ix ix_list (pe_lst (pa_cons (pe_str) (pa_cons (pe_str) (pa_cons (pe_str) (pa_cons (pe_str) (pa_cons (pe_str) (pa_cons (pe_str) pa_nil))))))) (pv 1) (fun _ _ => rfl))))))), ?_⟩
    have neF : ∀ {H : Hp} {p : Addr}, Fd H a → H p = none → p ≠ a := fun ⟨x, y, e, _⟩ hp z => by
      rw [z, e] at hp
      cases hp
    refine ⟨.ref a, rfl, a, 8, rfl, hF, by decide, by decide, fun r H1 r0 r1 k1 F1 => ?_⟩
    refine ⟨.int r, rfl, rfl, _, rfl, ite2 (fun e => ?_) (fun e7 => ?_)⟩
    · -- the names of calls
      refine ⟨.ref a, rfl, rfl, fun p hp => ?_⟩
      refine ⟨a, p, _, rfl, F1.new hp, .inl (.inl upd_same), neF F1 hp, by decide, by decide, fun i v H2 hv k2 F2 => ?_⟩
      have kk : Kp a H H2 := (k1.trans (Kp.new hp)).trans k2
      match i, hv with
      | 0, hv => cases hv; exact q _ H2 (by decide +kernel) kk F2
      | 1, hv => cases hv; exact q _ H2 (by decide +kernel) kk F2
      | 2, hv => cases hv; exact q _ H2 (by decide +kernel) kk F2
      | 3, hv => cases hv; exact q _ H2 (by decide +kernel) kk F2
      | 4, hv => cases hv; exact q _ H2 (by decide +kernel) kk F2
    refine ⟨.int r, rfl, rfl, _, rfl, ite2 (fun e => ?_) (fun e6 => ?_)⟩
    · -- one of ten
      refine ⟨.ref a, rfl, a, 90, rfl, F1, by decide, by decide, fun r2 H2 r20 r21 k2 F2 => ⟨1, r2, rfl, rfl, ?_⟩⟩
      refine ⟨(by show 2 ≤ sizeLine; decide), fun p hp => ?_⟩
      refine ⟨.ref a, rfl, a, 7, rfl, F2.new hp, by decide, by decide, fun r3 H3 r30 r31 k3 F3 => ⟨r3, 6, rfl, rfl, ⟨by decide, by decide⟩, ?_⟩⟩
      have hp3 : H3 p = some (.lst [.int (1 + r2), .int 400]) := k3 _ _ (neF F2 hp) upd_same
      obtain ⟨m, hm, m0, m1⟩ : ∃ m : Int, atI [V.int (1 + r2), .int 400] (r3 / 6) = some (.int m) ∧ 0 ≤ m ∧ m ≤ 400 := by
        by_cases hz : r3 < 6
        · have e0 : r3 / 6 = 0 := by omega
          rw [e0]
          exact ⟨1 + r2, rfl, by omega, by omega⟩
        · have e0 : r3 / 6 = 1 := by omega
          rw [e0]
          exact ⟨400, rfl, by decide, by decide⟩
      refine ⟨p, _, _, .int m, rfl, rfl, .inl (.inl hp3), hm, ?_⟩
      refine ⟨.ref a, rfl, .int m, rfl, _, m, rfl, rfl, rfl, m0, (by omega), (by show 10 ≤ sizeLine; decide), fun p2 hp2 => ?_⟩
      refine ⟨a, p2, _, rfl, F3.new hp2, .inl (.inl upd_same), neF F3 hp2, (by show 0 < 10; decide), (by show 10 < 1000; decide), fun i v H4 hv k4 F4 => ?_⟩
      have kk : Kp a H H4 := ((((k1.trans k2).trans (Kp.new hp)).trans k3).trans (Kp.new hp2)).trans k4
      match i, hv with
      | 0, hv => cases hv; exact q _ H4 (by decide +kernel) kk F4
      | 1, hv => cases hv; exact q _ H4 (by decide +kernel) kk F4
      | 2, hv => cases hv; exact q _ H4 (by decide +kernel) kk F4
      | 3, hv => cases hv; exact q _ H4 (by decide +kernel) kk F4
      | 4, hv => cases hv; exact q _ H4 (by decide +kernel) kk F4
      | 5, hv => cases hv; exact q _ H4 (tokMul (c := 120) (by unfold SOk; decide +kernel) (by decide +kernel) m1 (by decide +kernel)) kk F4
      | 6, hv => cases hv; exact q _ H4 (by decide +kernel) kk F4
      | 7, hv => cases hv; exact q _ H4 (by decide +kernel) kk F4
      | 8, hv => cases hv; exact q _ H4 (by decide +kernel) kk F4
      | 9, hv => cases hv; exact q _ H4 (by decide +kernel) kk F4
    · have n7 : r ≠ 7 := fun z => e7 (by rw [z]; rfl)
      have n6 : r ≠ 6 := fun z => e6 (by rw [z]; rfl)
      refine ⟨(by show 6 ≤ sizeLine; decide), fun p hp => ?_⟩
      obtain ⟨z, sz, hz⟩ : ∃ z : Str, TOk z ∧ atI [V.str "0", .str "1", .str "0", .str "1", .str "", .str "10"] r = some (.str z) := by
        have hc : r = 0 ∨ r = 1 ∨ r = 2 ∨ r = 3 ∨ r = 4 ∨ r = 5 := by omega
        rcases hc with h | h | h | h | h | h <;> (rw [h]; first | exact ⟨"0", by decide +kernel, rfl⟩ | exact ⟨"1", by decide +kernel, rfl⟩ | exact ⟨"", by decide +kernel, rfl⟩ | exact ⟨"10", by decide +kernel, rfl⟩)
      exact ⟨.int r, rfl, p, _, _, .str z, rfl, rfl, .inl (.inl upd_same), hz, q z _ sz (k1.trans (Kp.new hp)) (F1.new hp)⟩
end
/-! ### values that are alike -/
inductive Fl : V → String → Prop
  | non : Fl .non "NoneType"
  | bl (b : Bool) : Fl (.bl b) "bool"
  | int (i : Int) : Fl (.int i) "int"
  | str (z : Str) : Fl (.str z) "str"
section
variable {K : PySem.W.Frag} {H : Hp}
theorem Fl.tyX {v : V} {t : String} (h : Fl v t) : TyX K H v (.type t) := by
  cases h
  · exact .base .non
  · exact .base (.bl _)
  · exact .base (.int _)
  · exact .base (.str _)
theorem Fl.noSeq {v : V} {t : String} (h : Fl v t) : PySem.W.kitAny K (.type t) [.type "list", .type "tuple"] = some false := by
  cases h <;> exact kitAny_cons (b := false) (kit_ty (by decide +kernel)) (fun _ => kitAny_cons (b := false) (kit_ty (by decide +kernel)) (fun _ => kitAny_nil) (fun z => z)) (fun z => z)
theorem Fl.kit {v : V} {t : String} (h : Fl v t) (c : String) (hc : c = "bool" ∨ c = "int" ∨ c = "str") : ∃ b, PySem.W.kitOne K (.type t) (.type c) = some b := by
  rcases hc with rfl | rfl | rfl <;> cases h <;> first | exact ⟨true, kit_ty (by decide +kernel)⟩ | exact ⟨false, kit_ty (by decide +kernel)⟩
theorem Fl.scal {v : V} {t : String} (h : Fl v t) : L2.scal v v = true := by
  cases h <;> rfl
theorem kitSeqL : PySem.W.kitAny K (.type "list") [.type "list", .type "tuple"] = some true := kitAny_cons (b := true) (kit_ty (by decide +kernel)) (fun z => by cases z) (fun _ => rfl)
theorem kitSeqT : PySem.W.kitAny K (.type "tuple") [.type "list", .type "tuple"] = some true := kitAny_cons (b := false) (kit_ty (by decide +kernel)) (fun _ => kitAny_cons (b := true) (kit_ty (by decide +kernel)) (fun z => by cases z) (fun _ => rfl)) (fun _ => rfl)
theorem SqL.tyX {a : Addr} {xs : List V} (h : SqL K H a xs) : TyX K H (.ref a) (.type "list") := by
  rcases h with (h | ⟨o, h⟩) | ⟨o, its, n, h, c, _⟩
  · exact .base (.lst h)
  · exact .base (.frz h)
  · exact .kList h c
theorem SqT.tyX {a : Addr} {xs : List V} (h : SqT K H a xs) : TyX K H (.ref a) (.type "tuple") := by
  rcases h with (h | ⟨o, h⟩) | ⟨o, its, n, h, c, _⟩
  · exact .base (.tup h)
  · exact .fTuple h
  · exact .kTuple h c
end
/-- alike down to the depth n -/
inductive Sv (K : PySem.W.Frag) (H : Hp) : Nat → V → V → Prop
  | flat {n : Nat} {v : V} {t : String} (h : Fl v t) : Sv K H n v v
  | lst {n : Nat} {a b : Addr} {xs ys : List V} (ha : SqL K H a xs) (hb : SqL K H b ys) (hl : xs.length = ys.length) (hz : xs.length ≤ 1000) (h : ∀ (i : Nat) v w, xs[i]? = some v → ys[i]? = some w → Sv K H n v w) : Sv K H (n + 1) (.ref a) (.ref b)
  | tup {n : Nat} {a b : Addr} {xs ys : List V} (ha : SqT K H a xs) (hb : SqT K H b ys) (hl : xs.length = ys.length) (hz : xs.length ≤ 1000) (h : ∀ (i : Nat) v w, xs[i]? = some v → ys[i]? = some w → Sv K H n v w) : Sv K H (n + 1) (.ref a) (.ref b)
theorem Sv.same {K : PySem.W.Frag} {H H' : Hp} (e : Same H H') {n : Nat} {v w : V} (h : Sv K H n v w) : Sv K H' n v w := by
  induction h with
  | flat h => exact .flat h
  | lst ha hb hl hz _ ih => exact .lst (e.seq ha) (e.seq hb) hl hz ih
  | tup ha hb hl hz _ ih => exact .tup (sameTup e ha) (sameTup e hb) hl hz ih
def spSame (K : PySem.W.Frag) (n : Nat) : Sp := fun vs H Q _ => ∃ v w : V, vs = [v, w] ∧ Sv K H n v w ∧ ∀ H', Same H H' → Q (.bl true) H'
section
variable {P : Program} {w : World} {K : PySem.W.Frag} {mg : Str → Option Value} {base : Heap} {f : Addr} {fd : FuncData}
theorem scSame : FnScope ["_law_found", "_law_due", "_law_a", "_law_b"] ["_law_found", "_law_due"] (defScope lSame) := ⟨rfl, rfl, rfl, by decide +kernel, rfl, by decide +kernel, by decide +kernel⟩
theorem okSame (F : FnP K "_law_same" lSame f fd) (gS : mg "_law_same" = some (.ref f)) (B : Bn mg) : ∀ (n k : Nat), FnOk P w K mg base CX0 (k + n + 1) f fd ["_law_found", "_law_due"] (spSame K n) := by
  have bS : Binds K fd ["_law_found", "_law_due"] [] := F.bindsN fun _ _ _ _ _ _ us hl => match us, hl with | [_, _], _ => rfl
  intro n
  induction n with
  | zero =>
    intro k
    refine F.ok scSame (fun vs H Q E h => ?_) (fun cdv A outer s H vs Q E hr h => ?_)
    · obtain ⟨v, w, rfl, _⟩ := h
      rfl
    · obtain ⟨v, w', rfl, hv, q⟩ := h
      obtain ⟨t, hf, rfl⟩ : ∃ t, Fl v t ∧ v = w' := by
        cases hv with
        | flat h => exact ⟨_, h, rfl⟩
      refine ⟨_, PSs.nox (pss_cons (ps_if (pt_val (pe_callB call_isiT (by rfl) B.isi (by decide +kernel) (pa_cons (pv 1) (pa_cons (pe_tup (pa_cons (pe_bltn (v := .ty "list") (by rfl) B.list (by decide +kernel) rfl) (pa_cons (pe_bltn (v := .ty "tuple") (by rfl) B.tuple (by decide +kernel) rfl) pa_nil))) pa_nil))))
        (pss_cons (ps_never) (pss_one (ps_never))) pss_nil) (pss_cons (ps_if (PW.pt (pw_or (pt_cmpR op_ne (pe_callB call_isi (by rfl) B.isi (by decide +kernel) (pa_cons (pv 0) (pa_cons (pe_bltn (v := .ty "bool") (by rfl) B.bool (by decide +kernel) rfl) pa_nil))) (pe_callB call_isi (by rfl) B.isi (by decide +kernel) (pa_cons (pv 1) (pa_cons (pe_bltn (v := .ty "bool") (by rfl) B.bool (by decide +kernel) rfl) pa_nil))) (nomark _))
            (pw_or1 (pt_cmpR op_ne (pe_callB call_isi (by rfl) B.isi (by decide +kernel) (pa_cons (pv 0) (pa_cons (pe_bltn (v := .ty "int") (by rfl) B.int (by decide +kernel) rfl) pa_nil))) (pe_callB call_isi (by rfl) B.isi (by decide +kernel) (pa_cons (pv 1) (pa_cons (pe_bltn (v := .ty "int") (by rfl) B.int (by decide +kernel) rfl) pa_nil))) (nomark _)))))
          (pss_one (ps_ret pe_bl)) pss_nil) (pss_one (ps_ret (pe_and (pe_cmpR op_eq (pe_callB call_isi (by rfl) B.isi (by decide +kernel) (pa_cons (pv 0) (pa_cons (pe_bltn (v := .ty "str") (by rfl) B.str (by decide +kernel) rfl) pa_nil))) (pe_callB call_isi (by rfl) B.isi (by decide +kernel) (pa_cons (pv 1) (pa_cons (pe_bltn (v := .ty "str") (by rfl) B.str (by decide +kernel) rfl) pa_nil))) (nomark _))
          (pe_one (pe_cmpR op_eq (pv 0) (pv 1) (nomark _)))))))), ?_⟩
      obtain ⟨b1, e1⟩ := hf.kit (K := K) "bool" (.inl rfl)
      obtain ⟨b2, e2⟩ := hf.kit (K := K) "int" (.inr (.inl rfl))
      obtain ⟨b3, e3⟩ := hf.kit (K := K) "str" (.inr (.inr rfl))
      refine ⟨v, rfl, (by show 2 ≤ sizeLine; decide), fun p hp => ⟨v, p, [.ty "list", .ty "tuple"], .type t, [.type "list", .type "tuple"], false, rfl, upd_same, .cons (.ty _) (.cons (.ty _) .nil), hf.tyX, hf.noSeq, false, rfl, iteF ?_⟩⟩
      refine ⟨v, rfl, v, .ty "bool", .type t, .type "bool", b1, rfl, .ty _, hf.tyX, e1, v, rfl, v, .ty "bool", .type t, .type "bool", b1, rfl, .ty _, hf.tyX, e1, rfl, _, rfl, iteNS rfl ?_⟩
      refine ⟨v, rfl, v, .ty "int", .type t, .type "int", b2, rfl, .ty _, hf.tyX, e2, v, rfl, v, .ty "int", .type t, .type "int", b2, rfl, .ty _, hf.tyX, e2, rfl, _, rfl, iteNS rfl ?_⟩
      refine ⟨v, rfl, v, .ty "str", .type t, .type "str", b3, rfl, .ty _, hf.tyX, e3, v, rfl, v, .ty "str", .type t, .type "str", b3, rfl, .ty _, hf.tyX, e3, rfl, _, rfl, ?_⟩
      rw [if_pos (decide_eq_true rfl)]
      refine ⟨v, rfl, v, rfl, hf.scal, ?_⟩
      rw [decide_eq_true (rfl : v = v)]
      exact q _ (sameUpd hp)
  | succ n ih =>
    intro k
    have G := ih k
    refine F.ok scSame (fun vs H Q E h => ?_) (fun cdv A outer s H vs Q E hr h => ?_)
    · obtain ⟨v, w, rfl, _⟩ := h
      rfl
    · have hr1 : Room (k + n + 1) _ := hr.mono (by omega)
      refine ⟨_, PSs.nox (pss_cons (ps_if (pt_val (pe_callB call_isiT (by rfl) B.isi (by decide +kernel) (pa_cons (pv 1) (pa_cons (pe_tup (pa_cons (pe_bltn (v := .ty "list") (by rfl) B.list (by decide +kernel) rfl) (pa_cons (pe_bltn (v := .ty "tuple") (by rfl) B.tuple (by decide +kernel) rfl) pa_nil))) pa_nil))))
        (pss_cons (ps_if (PW.pt (pw_or (pt_cmpR op_ne (pe_callB call_isi (by rfl) B.isi (by decide +kernel) (pa_cons (pv 0) (pa_cons (pe_bltn (v := .ty "list") (by rfl) B.list (by decide +kernel) rfl) pa_nil))) (pe_callB call_isi (by rfl) B.isi (by decide +kernel) (pa_cons (pv 1) (pa_cons (pe_bltn (v := .ty "list") (by rfl) B.list (by decide +kernel) rfl) pa_nil))) (nomark _))
            (pw_or1 (pt_not (pt_val (pe_callB call_isiT (by rfl) B.isi (by decide +kernel) (pa_cons (pv 0) (pa_cons (pe_tup (pa_cons (pe_bltn (v := .ty "list") (by rfl) B.list (by decide +kernel) rfl) (pa_cons (pe_bltn (v := .ty "tuple") (by rfl) B.tuple (by decide +kernel) rfl) pa_nil))) pa_nil))))))))
            (pss_one (ps_ret pe_bl)) pss_nil) (pss_one (ps_ret (pe_and (pe_cmpR op_eq (pe_callB call_len_seq (by rfl) B.len PySem.boot_len (pa_cons (pv 0) pa_nil)) (pe_callB call_len_seq (by rfl) B.len PySem.boot_len (pa_cons (pv 1) pa_nil)) (nomark _))
            (pe_one (pe_callB (cr_all rfl) (by rfl) B.all (by decide +kernel) (pa_cons (pe_lc (own := [("_law_a", 2), ("_law_b", 3)]) (g := gTup K 2 (gCons (gName 2) (gCons (gName 3) gNil))) rfl scSame.nd (RZ.pi_zipA (by rfl) B.zip (pa_cons (pv 0) (pa_cons (pv 1) pa_nil))) (blkOk_by (N := ["_law_found", "_law_due", "_law_a", "_law_b"]) (sc := defScope lSame) (by decide +kernel))
              (fun _ _ _ _ _ => pg_tup rfl (pgs_cons (pg_name (i := 2) scSame.nd rfl (.inl rfl) (hf := .inr rfl)) (pgs_cons (pg_name (i := 3) scSame.nd rfl (.inl rfl) (hf := .inr rfl)) pgs_nil))) (fun _ _ _ _ _ => pts_nil)
              (fun _ _ _ _ _ => pe_call G hr1 (by rfl) gS F.kp bS .nil pass0 (pa_cons (pv 2) (pa_cons (pv 3) pa_nil)))) pa_nil))))))) pss_nil) (pss_cons (ps_if (PW.pt (pw_or (pt_cmpR op_ne (pe_callB call_isi (by rfl) B.isi (by decide +kernel) (pa_cons (pv 0) (pa_cons (pe_bltn (v := .ty "bool") (by rfl) B.bool (by decide +kernel) rfl) pa_nil))) (pe_callB call_isi (by rfl) B.isi (by decide +kernel) (pa_cons (pv 1) (pa_cons (pe_bltn (v := .ty "bool") (by rfl) B.bool (by decide +kernel) rfl) pa_nil))) (nomark _))
            (pw_or1 (pt_cmpR op_ne (pe_callB call_isi (by rfl) B.isi (by decide +kernel) (pa_cons (pv 0) (pa_cons (pe_bltn (v := .ty "int") (by rfl) B.int (by decide +kernel) rfl) pa_nil))) (pe_callB call_isi (by rfl) B.isi (by decide +kernel) (pa_cons (pv 1) (pa_cons (pe_bltn (v := .ty "int") (by rfl) B.int (by decide +kernel) rfl) pa_nil))) (nomark _)))))
          (pss_one (ps_ret pe_bl)) pss_nil) (pss_one (ps_ret (pe_and (pe_cmpR op_eq (pe_callB call_isi (by rfl) B.isi (by decide +kernel) (pa_cons (pv 0) (pa_cons (pe_bltn (v := .ty "str") (by rfl) B.str (by decide +kernel) rfl) pa_nil))) (pe_callB call_isi (by rfl) B.isi (by decide +kernel) (pa_cons (pv 1) (pa_cons (pe_bltn (v := .ty "str") (by rfl) B.str (by decide +kernel) rfl) pa_nil))) (nomark _))
          (pe_one (pe_cmpR op_eq (pv 0) (pv 1) (nomark _)))))))), ?_⟩
      obtain ⟨v, w, rfl, hv, q⟩ := h
      cases hv with
      | @flat _ _ t hf =>
        obtain ⟨b1, e1⟩ := hf.kit (K := K) "bool" (.inl rfl)
        obtain ⟨b2, e2⟩ := hf.kit (K := K) "int" (.inr (.inl rfl))
        obtain ⟨b3, e3⟩ := hf.kit (K := K) "str" (.inr (.inr rfl))
        refine ⟨v, rfl, (by show 2 ≤ sizeLine; decide), fun p hp => ⟨v, p, [.ty "list", .ty "tuple"], .type t, [.type "list", .type "tuple"], false, rfl, upd_same, .cons (.ty _) (.cons (.ty _) .nil), hf.tyX, hf.noSeq, false, rfl, iteF ?_⟩⟩
        refine ⟨v, rfl, v, .ty "bool", .type t, .type "bool", b1, rfl, .ty _, hf.tyX, e1, v, rfl, v, .ty "bool", .type t, .type "bool", b1, rfl, .ty _, hf.tyX, e1, rfl, _, rfl, iteNS rfl ?_⟩
        refine ⟨v, rfl, v, .ty "int", .type t, .type "int", b2, rfl, .ty _, hf.tyX, e2, v, rfl, v, .ty "int", .type t, .type "int", b2, rfl, .ty _, hf.tyX, e2, rfl, _, rfl, iteNS rfl ?_⟩
        refine ⟨v, rfl, v, .ty "str", .type t, .type "str", b3, rfl, .ty _, hf.tyX, e3, v, rfl, v, .ty "str", .type t, .type "str", b3, rfl, .ty _, hf.tyX, e3, rfl, _, rfl, ?_⟩
        rw [if_pos (decide_eq_true rfl)]
        refine ⟨v, rfl, v, rfl, hf.scal, ?_⟩
        rw [decide_eq_true (rfl : v = v)]
        exact q _ (sameUpd hp)
      | @lst _ a b xs ys ha hb hl hz hh =>
        refine ⟨.ref b, rfl, (by show 2 ≤ sizeLine; decide), fun p hp => ?_⟩
        have s1 : Same H (upd H p (.tup [.ty "list", .ty "tuple"])) := sameUpd hp
        have ha1 := (s1).seq ha
        have hb1 := (s1).seq hb
        refine ⟨.ref b, p, [.ty "list", .ty "tuple"], .type "list", [.type "list", .type "tuple"], true, rfl, upd_same, .cons (.ty _) (.cons (.ty _) .nil), SqL.tyX hb1, kitSeqL, true, rfl, iteT ?_⟩
        refine ⟨.ref a, rfl, .ref a, .ty "list", .type "list", .type "list", true, rfl, .ty _, SqL.tyX ha1, kit_ty (by decide +kernel), .ref b, rfl, .ref b, .ty "list", .type "list", .type "list", true, rfl, .ty _, SqL.tyX hb1, kit_ty (by decide +kernel), rfl, _, rfl, iteNS rfl ?_⟩
        refine ⟨.ref a, rfl, (by show 2 ≤ sizeLine; decide), fun p2 hp2 => ?_⟩
        have s2 : Same _ (upd (upd H p (.tup [.ty "list", .ty "tuple"])) p2 (.tup [.ty "list", .ty "tuple"])) := s1.trans (sameUpd hp2)
        have ha2 := (s2).seq ha
        have hb2 := (s2).seq hb
        refine ⟨.ref a, p2, [.ty "list", .ty "tuple"], .type "list", [.type "list", .type "tuple"], true, rfl, upd_same, .cons (.ty _) (.cons (.ty _) .nil), SqL.tyX ha2, kitSeqL, true, rfl, iteF ?_⟩
        refine ⟨.ref a, rfl, a, xs, rfl, .inl ha2, .ref b, rfl, b, ys, rfl, .inl hb2, rfl, _, rfl, ?_⟩
        rw [if_pos (decide_eq_true (by rw [hl]))]
        refine ⟨.ref a, rfl, .ref b, rfl, a, b, xs, ys, rfl, .inl ⟨ha2, hb2, fun D hD => ?_⟩⟩
        generalize upd (upd H p (.tup [.ty "list", .ty "tuple"])) p2 (.tup [.ty "list", .ty "tuple"]) = H2 at *
        refine lcJ (n := xs.length) (fun i H3 => Same H2 H3 ∧ H3 D = some (.lst ((List.replicate i true).map V.bl)) ∧ i ≤ xs.length) ⟨sameUpd hD, upd_same, Nat.zero_le _⟩ (fun i H3 lt h3 => ?_) (fun H3 h3 => ?_) (fun i H3 x H4 lt h3 y => ?_) (fun H3 h3 => ?_)
        · exact ⟨xs, ys, xs[i], ys[i], (h3.1).seq ha2, (h3.1).seq hb2, List.getElem?_eq_getElem lt, List.getElem?_eq_getElem (by omega)⟩
        · exact ⟨xs, ys, (h3.1).seq ha2, (h3.1).seq hb2, .inl (Nat.le_refl _)⟩
        · obtain ⟨s3, eD, _⟩ := h3
          obtain ⟨T, x1, y1, rfl, nT, rfl, fx, fy⟩ := y
          have e1 := fx _ ((s3).seq ha2)
          have e2 := fy _ ((s3).seq hb2)
          refine ⟨T, [x1, y1], rfl, .inl (.inl upd_same), rfl, x1, [y1], rfl, y1, [], rfl, rfl, rfl, ?_⟩
          refine ⟨x1, rfl, y1, rfl, x1, y1, rfl, (hh i _ _ e1 e2).same (s2.trans (s3.trans (sameUpd nT))), fun H5 s5 => ?_⟩
          have s4 : Same H2 H5 := s3.trans ((sameUpd nT).trans s5)
          have eD5 : H5 D = some (.lst ((List.replicate i true).map V.bl)) := s5 _ _ (sameUpd nT _ _ eD)
          refine ⟨_, eD5, ?_, fun b o hb => ?_, ?_, lt⟩
          · rw [List.length_map, List.length_replicate]
            exact small1000 (by omega)
          · rw [upd_ne (ne_of_none hb hD)]
            exact s4 _ _ hb
          · rw [upd_same, List.replicate_succ', List.map_append]
            rfl
        · obtain ⟨s3, eD, _⟩ := h3
          refine ⟨D, List.replicate xs.length true, rfl, .inl (.inl eD), ?_⟩
          rw [show (List.replicate xs.length true).all id = true by simp]
          exact q _ (s2.trans s3)
      | @tup _ a b xs ys ha hb hl hz hh =>
        refine ⟨.ref b, rfl, (by show 2 ≤ sizeLine; decide), fun p hp => ?_⟩
        have s1 : Same H (upd H p (.tup [.ty "list", .ty "tuple"])) := sameUpd hp
        have ha1 := sameTup (s1) ha
        have hb1 := sameTup (s1) hb
        refine ⟨.ref b, p, [.ty "list", .ty "tuple"], .type "tuple", [.type "list", .type "tuple"], true, rfl, upd_same, .cons (.ty _) (.cons (.ty _) .nil), SqT.tyX hb1, kitSeqT, true, rfl, iteT ?_⟩
        refine ⟨.ref a, rfl, .ref a, .ty "list", .type "tuple", .type "list", false, rfl, .ty _, SqT.tyX ha1, kit_ty (by decide +kernel), .ref b, rfl, .ref b, .ty "list", .type "tuple", .type "list", false, rfl, .ty _, SqT.tyX hb1, kit_ty (by decide +kernel), rfl, _, rfl, iteNS rfl ?_⟩
        refine ⟨.ref a, rfl, (by show 2 ≤ sizeLine; decide), fun p2 hp2 => ?_⟩
        have s2 : Same _ (upd (upd H p (.tup [.ty "list", .ty "tuple"])) p2 (.tup [.ty "list", .ty "tuple"])) := s1.trans (sameUpd hp2)
        have ha2 := sameTup (s2) ha
        have hb2 := sameTup (s2) hb
        refine ⟨.ref a, p2, [.ty "list", .ty "tuple"], .type "tuple", [.type "list", .type "tuple"], true, rfl, upd_same, .cons (.ty _) (.cons (.ty _) .nil), SqT.tyX ha2, kitSeqT, true, rfl, iteF ?_⟩
        refine ⟨.ref a, rfl, a, xs, rfl, .inr ha2, .ref b, rfl, b, ys, rfl, .inr hb2, rfl, _, rfl, ?_⟩
        rw [if_pos (decide_eq_true (by rw [hl]))]
        refine ⟨.ref a, rfl, .ref b, rfl, a, b, xs, ys, rfl, .inr ⟨ha2, hb2, fun D hD => ?_⟩⟩
        generalize upd (upd H p (.tup [.ty "list", .ty "tuple"])) p2 (.tup [.ty "list", .ty "tuple"]) = H2 at *
        refine lcJ (n := xs.length) (fun i H3 => Same H2 H3 ∧ H3 D = some (.lst ((List.replicate i true).map V.bl)) ∧ i ≤ xs.length) ⟨sameUpd hD, upd_same, Nat.zero_le _⟩ (fun i H3 lt h3 => ?_) (fun H3 h3 => ?_) (fun i H3 x H4 lt h3 y => ?_) (fun H3 h3 => ?_)
        · exact ⟨xs, ys, xs[i], ys[i], sameTup (h3.1) ha2, sameTup (h3.1) hb2, List.getElem?_eq_getElem lt, List.getElem?_eq_getElem (by omega)⟩
        · exact ⟨xs, ys, sameTup (h3.1) ha2, sameTup (h3.1) hb2, .inl (Nat.le_refl _)⟩
        · obtain ⟨s3, eD, _⟩ := h3
          obtain ⟨T, x1, y1, rfl, nT, rfl, fx, fy⟩ := y
          have e1 := fx _ (sameTup (s3) ha2)
          have e2 := fy _ (sameTup (s3) hb2)
          refine ⟨T, [x1, y1], rfl, .inl (.inl upd_same), rfl, x1, [y1], rfl, y1, [], rfl, rfl, rfl, ?_⟩
          refine ⟨x1, rfl, y1, rfl, x1, y1, rfl, (hh i _ _ e1 e2).same (s2.trans (s3.trans (sameUpd nT))), fun H5 s5 => ?_⟩
          have s4 : Same H2 H5 := s3.trans ((sameUpd nT).trans s5)
          have eD5 : H5 D = some (.lst ((List.replicate i true).map V.bl)) := s5 _ _ (sameUpd nT _ _ eD)
          refine ⟨_, eD5, ?_, fun b o hb => ?_, ?_, lt⟩
          · rw [List.length_map, List.length_replicate]
            exact small1000 (by omega)
          · rw [upd_ne (ne_of_none hb hD)]
            exact s4 _ _ hb
          · rw [upd_same, List.replicate_succ', List.map_append]
            rfl
        · obtain ⟨s3, eD, _⟩ := h3
          refine ⟨D, List.replicate xs.length true, rfl, .inl (.inl eD), ?_⟩
          rw [show (List.replicate xs.length true).all id = true by simp]
          exact q _ (s2.trans s3)
end
end KS.La

set_option Elab.async false
set_option linter.all false
set_option maxRecDepth 100000
set_option maxHeartbeats 4000000
namespace KS.La
open PySem PySem.Spec PyProof.Rows L2
/-- all but lists stand -/
def KT (H H' : Hp) : Prop := ∀ a o, H a = some o → (∀ xs, o ≠ .lst xs) → H' a = some o
theorem KT.refl (H : Hp) : KT H H := fun _ _ e _ => e
theorem KT.trans {H H1 H2 : Hp} (a : KT H H1) (b : KT H1 H2) : KT H H2 := fun c o e n => b c o (a c o e n) n
theorem KT.same {H H' : Hp} (s : Same H H') : KT H H' := fun a o e _ => s a o e
theorem KT.kp {f : Addr} {H H' : Hp} (hf : Fd H f) (k : Kp f H H') : KT H H' := fun a o e n => by
  refine k a o (fun z => ?_) e
  obtain ⟨x, y, h, _⟩ := hf
  rw [z, h] at e
  exact n _ (Option.some.inj e).symm
theorem KT.put {H : Hp} {D : Addr} {xs ys : List V} (h : H D = some (.lst xs)) : KT H (upd H D (.lst ys)) := fun a o e n => by
  rw [upd_ne fun z => ?_]
  · exact e
  · rw [z, h] at e
    exact n _ (Option.some.inj e).symm
theorem KT.tup {K : PySem.W.Frag} {H H' : Hp} (k : KT H H') {a : Addr} {xs : List V} (h : SqT K H a xs) : SqT K H' a xs := by
  rcases h with (h | ⟨o, h⟩) | h
  · exact .inl (.inl (k _ _ h fun xs z => nomatch z))
  · exact .inl (.inr ⟨o, k _ _ h fun xs z => nomatch z⟩)
  · exact .inr h
/-- data to the depth n, tuples of at most w items -/
inductive Ow (w : Nat) : Nat → PyData → Prop
  | non (n : Nat) : Ow w n .none
  | bl (n : Nat) (b : Bool) : Ow w n (.bool b)
  | int (n : Nat) (i : Int) : Ow w n (.int i)
  | str (n : Nat) {z : Str} (h : TOk z) : Ow w n (.str z)
  | tup {n : Nat} {ds : List PyData} (h : ds.length ≤ w) (h2 : ∀ d ∈ ds, Ow w n d) : Ow w (n + 1) (.tuple ds)
theorem Ow.od {w n : Nat} {d : PyData} (hw : w ≤ 100) (h : Ow w n d) : Od n d := by
  induction h with
  | non n => exact .non _
  | bl n b => exact .bl _ b
  | int n i => exact .int _ i
  | str n h => exact .str _ h.1 (by have := h.2.1; omega)
  | tup h h2 ih => exact .tup (by omega) ih
theorem Ow.up {w n : Nat} {d : PyData} (h : Ow w n d) : ∀ {w' m : Nat}, w ≤ w' → n ≤ m → Ow w' m d := by
  induction h with
  | non n => exact fun _ _ => .non _
  | bl n b => exact fun _ _ => .bl _ b
  | int n i => exact fun _ _ => .int _ i
  | str n h => exact fun _ _ => .str _ h
  | @tup n ds h h2 ih =>
    intro w' m hw hm
    obtain ⟨k, rfl⟩ : ∃ k, m = k + 1 := ⟨m - 1, by omega⟩
    exact .tup (by omega) fun d hd => ih d hd hw (by omega)
theorem allKT {K : PySem.W.Frag} {H H' : Hp} : ∀ {ds : List PyData} {xs : List V}, (∀ d ∈ ds, ∀ v, Dp K H v d → Dp K H' v d) → DpAll K H xs ds → DpAll K H' xs ds
  | _, _, _, .nil => .nil
  | _, _, k, .cons h r => .cons (k _ List.mem_cons_self _ h) (allKT (fun d hd => k d (List.mem_cons_of_mem _ hd)) r)
theorem dpKT {K : PySem.W.Frag} {H H' : Hp} (k : KT H H') {w n : Nat} {d : PyData} (o : Ow w n d) : ∀ v, Dp K H v d → Dp K H' v d := by
  induction o with
  | non n => exact fun v h => by cases h; exact .non
  | bl n b => exact fun v h => by cases h; exact .bl _
  | int n i => exact fun v h => by cases h; exact .int _
  | str n h => exact fun v h => by cases h; exact .str _
  | tup h h2 ih =>
    intro v hv
    cases hv with
    | tup hx hd => exact .tup (k.tup hx) (allKT ih hd)
/-- v is such data -/
def Vw (K : PySem.W.Frag) (w n : Nat) (H : Hp) (v : V) : Prop := ∃ d, Dp K H v d ∧ Ow w n d
theorem Vw.kt {K : PySem.W.Frag} {w n : Nat} {H H' : Hp} {v : V} (k : KT H H') (h : Vw K w n H v) : Vw K w n H' v := let ⟨d, a, b⟩ := h; ⟨d, dpKT k b _ a, b⟩
theorem Vw.up {K : PySem.W.Frag} {w n w' n' : Nat} {H : Hp} {v : V} (h : Vw K w n H v) (a : w ≤ w') (b : n ≤ n') : Vw K w' n' H v := let ⟨d, x, y⟩ := h; ⟨d, x, y.up a b⟩
theorem vwAll {K : PySem.W.Frag} {w n : Nat} {H : Hp} : ∀ {xs : List V}, (∀ v ∈ xs, Vw K w n H v) → ∃ ds, DpAll K H xs ds ∧ ∀ d ∈ ds, Ow w n d
  | [], _ => ⟨[], .nil, fun d hd => absurd hd (by simp)⟩
  | x :: xs, h => by
    obtain ⟨d, a, b⟩ := h x List.mem_cons_self
    obtain ⟨ds, c, e⟩ := vwAll fun v hv => h v (List.mem_cons_of_mem _ hv)
    refine ⟨d :: ds, .cons a c, fun y hy => ?_⟩
    rcases List.mem_cons.mp hy with z | z
    · rw [z]; exact b
    · exact e y z
theorem Vw.tup {K : PySem.W.Frag} {w n : Nat} {H : Hp} {a : Addr} {xs : List V} (ha : SqT K H a xs) (hl : xs.length ≤ w) (h : ∀ v ∈ xs, Vw K w n H v) : Vw K w (n + 1) H (.ref a) := by
  obtain ⟨ds, c, e⟩ := vwAll h
  exact ⟨.tuple ds, .tup ha c, .tup (by have := dpLen c; omega) e⟩
theorem Vw.str {K : PySem.W.Frag} {w n : Nat} {H : Hp} {z : Str} (h : TOk z) : Vw K w n H (.str z) := ⟨.str z, .str z, .str _ h⟩
theorem Vw.int {K : PySem.W.Frag} {w n : Nat} {H : Hp} {i : Int} : Vw K w n H (.int i) := ⟨.int i, .int i, .int _ i⟩
theorem Vw.non {K : PySem.W.Frag} {w n : Nat} {H : Hp} : Vw K w n H .non := ⟨.none, .non, .non _⟩
theorem Vw.bl {K : PySem.W.Frag} {w n : Nat} {H : Hp} {b : Bool} : Vw K w n H (.bl b) := ⟨.bool b, .bl b, .bl _ b⟩
theorem forJ {J : It} {n : Nat} {g : TG} {tb : TS} {D : Ends} {σ : L2.St} {H : Hp} (Pv : Nat → L2.St → Hp → Prop) (h0 : Pv 0 σ H) (hgo : ∀ i σ H, i < n → Pv i σ H → J.go i H) (hst : ∀ σ H, Pv n σ H → J.stop n H)
    (hs : ∀ i σ H x H', i < n → Pv i σ H → J.yld i H x H' → g x σ H' fun σ2 H2 => tb { D with nx := Pv (i + 1), ct := Pv (i + 1), bk := D.nx } σ2 H2) (hd : ∀ σ H, Pv n σ H → D.nx σ H) :
    ∃ W : Nat → Nat → L2.St → Hp → Prop, (∃ m, W 0 m σ H) ∧ ∀ i m σ H, W i m σ H →
      (J.stop i H ∧ D.nx σ H) ∨ (J.go i H ∧ ∃ N : L2.St → Hp → Prop, (∀ σ' H', N σ' H' → ∃ m', m' < m ∧ W (i + 1) m' σ' H') ∧ ∀ x H', J.yld i H x H' → g x σ H' fun σ2 H2 => tb { D with nx := N, ct := N, bk := D.nx } σ2 H2) := by
  refine ⟨fun i m σ H => m = n - i ∧ i ≤ n ∧ Pv i σ H, ⟨n, by simp, Nat.zero_le _, h0⟩, fun i m σ H hW => ?_⟩
  obtain ⟨rfl, hi, p⟩ := hW
  by_cases lt : i < n
  · exact .inr ⟨hgo i σ H lt p, Pv (i + 1), fun σ' H' p' => ⟨n - (i + 1), by omega, rfl, lt, p'⟩, fun x H' y => hs i σ H x H' lt p y⟩
  · have e : i = n := by omega
    subst e
    exact .inl ⟨hst σ H p, hd σ H p⟩
def spAns : Sp := fun vs H Q _ => ∃ f : Addr, vs = [.ref f] ∧ Fd H f ∧ ∀ (v : V) H', (v = .non ∨ ∃ z, v = .str z ∧ TOk z) → Kp f H H' → Fd H' f → Q v H'
def spPickS : Sp := fun vs H Q _ => ∃ (f : Addr) (z : Str), vs = [.ref f, .str z] ∧ Fd H f ∧ 0 < z.length ∧ z.length < 1000 ∧ ∀ (c : Nat) H', c ∈ z.cps.toList → Kp f H H' → Fd H' f → Q (.str ⟨#[c]⟩) H'
/-- a text as words are -/
def spWord : Sp := fun vs H Q _ => ∃ f : Addr, vs = [.ref f] ∧ Fd H f ∧ ∀ (z : Str) H', TOk z → Kp f H H' → Fd H' f → Q (.str z) H'
theorem sokCut {z : Str} (h : SOk z) (lo hi : Option Int) : SOk (cutS z lo hi) := by
  unfold SOk cutS
  rw [List.all_toArray, List.all_eq_true]
  intro x hx
  have h1 := List.mem_of_mem_drop (List.mem_of_mem_take hx)
  exact Array.all_eq_true'.mp h x (by simpa using h1)
theorem lenCut (z : Str) (lo hi : Option Int) : (cutS z lo hi).length ≤ z.length := by
  show ((z.cps.toList.drop _).take _).toArray.size ≤ z.cps.size
  rw [List.size_toArray, List.length_take, List.length_drop, Array.length_toList]
  omega
theorem sokCat {a b : Str} (h : SOk a) (k : SOk b) : SOk (a ++ b) := by
  show (a.cps ++ b.cps).all _ = true
  rw [Array.all_append, Bool.and_eq_true]
  exact ⟨h, k⟩
theorem lenCat (a b : Str) : (a ++ b).length = a.length + b.length := by
  show (a.cps ++ b.cps).size = _
  rw [Array.size_append]
  rfl
theorem sokMem {z : Str} (h : SOk z) {c : Nat} (hc : c ∈ z.cps.toList) : SOk ⟨#[c]⟩ := by
  have h1 := Array.all_eq_true'.mp h c (by simpa using hc)
  unfold SOk
  simpa using h1
section
variable {P : Program} {w : World} {K : PySem.W.Frag} {mg : Str → Option Value} {base : Heap} {f : Addr} {fd : FuncData}
theorem scAns : FnScope ["_law_feed"] ["_law_feed"] (defScope lAnswer) := ⟨rfl, rfl, rfl, by decide +kernel, rfl, by decide +kernel, by decide +kernel⟩
theorem okAns {k : Nat} (F : FnP K "_law_some_answer" lAnswer f fd) (D : Has P w K mg base (k + 1) "_law_draw" ["_law_feed", "_law_many"] spDraw) (T : Has P w K mg base (k + 3) "_law_some_text" ["_law_feed"] spText) : FnOk P w K mg base CX0 (k + 4) f fd ["_law_feed"] spAns := by
  obtain ⟨fD, fdD, gD, kD, bD, GD⟩ := D.ex
  obtain ⟨fT, fdT, gT, kT, bT, GT⟩ := T.ex
  refine F.ok scAns (fun vs H Q E h => ?_) (fun cdv A outer s H vs Q E hr h => ?_)
  · obtain ⟨a, rfl, _⟩ := h
    rfl
  · obtain ⟨a, rfl, hF, q⟩ := h
    have hr1 : Room (k + 1) _ := hr.mono (by omega)
    refine ⟨_, PSs.nox (pss_one (ps_ret (pe_ifExp (pt_cmpR op_eq (pe_call GD hr1 (by rfl) gD kD bD .nil pass0 (pa_cons (pv 0) (pa_cons (pe_int) pa_nil))) pe_int (nomark _)) pe_non (pe_call GT hr (by rfl) gT kT bT .nil pass0 (pa_cons (pv 0) pa_nil))))), ?_⟩
    refine ⟨.ref a, rfl, a, 5, rfl, hF, by decide, by decide, fun r H1 r0 r1 k1 F1 => ⟨rfl, _, rfl, ite2 (fun e => ?_) (fun e => ?_)⟩⟩
    · exact q .non H1 (.inl rfl) k1 F1
    · exact ⟨.ref a, rfl, a, rfl, F1, fun z H2 tz k2 F2 => q _ H2 (.inr ⟨z, rfl, tz⟩) (k1.trans k2) F2⟩
theorem okPickS {k : Nat} (F : FnP K "_law_pick" lPick f fd) (ml : mg "len" = none) (D : Has P w K mg base (k + 1) "_law_draw" ["_law_feed", "_law_many"] spDraw) : FnOk P w K mg base CX0 (k + 2) f fd ["_law_feed", "_law_items"] spPickS := by
  obtain ⟨fD, fdD, gD, kD, bD, GD⟩ := D.ex
  refine F.ok scPick (fun vs H Q E h => ?_) (fun cdv A outer s H vs Q E hr h => ?_)
  · obtain ⟨a, z, rfl, _⟩ := h
    rfl
  · obtain ⟨a, z, rfl, hF, h0, h1, q⟩ := h
    refine ⟨_, PSs.nox (pss_one (ps_ret (pe_ix ix_str (pv 1) (pe_call GD hr (by rfl) gD kD bD .nil pass0 (pa_cons (pv 0) (pa_cons (pe_callB call_len_str (by rfl) ml PySem.boot_len (pa_cons (pv 1) pa_nil)) pa_nil))) (fun _ _ => rfl)))), ?_⟩
    refine ⟨.str z, rfl, .ref a, rfl, .str z, rfl, z, rfl, by rw [sizeLine_eq]; omega, ?_⟩
    refine ⟨a, (z.length : Int), rfl, hF, by omega, by omega, fun r H' r0 r1 kp fd' => ?_⟩
    obtain ⟨j, rfl⟩ : ∃ j : Nat, r = (j : Int) := ⟨r.toNat, by omega⟩
    have hj : j < z.cps.toList.length := by show j < z.length; omega
    exact ⟨z, _, _, rfl, rfl, by rw [sizeLine_eq]; omega, atI_nat (List.getElem?_eq_getElem hj), q _ H' (List.getElem_mem hj) kp fd'⟩
end
end KS.La

set_option Elab.async false
set_option linter.all false
set_option maxRecDepth 100000
set_option maxHeartbeats 4000000
namespace KS
open PySem PySem.Spec PyProof.Rows L2
def isPr : PyData → Bool
  | .tuple [a, b] => isIn a && isIn b
  | _ => false
def isPt (d : PyData) : Bool := isTx d || isPr d
def arePt : PyData → Bool
  | .tuple ds => ds.all isPt
  | _ => false
/-- a case: answers of the number, whatever stands for the node -/
def isCs (m : Int) : PyData → Bool
  | .tuple [a, _] => areAn a && (match a with
    | .tuple ds => decide ((ds.length : Int) = m)
    | _ => false)
  | _ => false
def areCs (m : Int) : PyData → Bool
  | .tuple ds => ds.all (isCs m)
  | _ => false
def spIs2 (K : PySem.W.Frag) (n : Nat) (p : Int → PyData → Bool) : Sp := fun vs H Q _ => ∃ v d m, vs = [v, .int m] ∧ Dp K H v d ∧ Od n d ∧ ∀ H', Same H H' → Q (.bl (p m d)) H'
section
variable {P : Program} {w : World} {K : PySem.W.Frag} {mg : Str → Option Value} {base : Heap} {f : Addr} {fd : FuncData}
theorem scPair : FnScope ["value"] ["value"] (defScope sPair) := ⟨rfl, rfl, rfl, by decide +kernel, rfl, by decide +kernel, by decide +kernel⟩
theorem okPair {k n : Nat} (F : FnP K "_is_pair_of_integers" sPair f fd) (B : Bn mg) (In : ∀ n, Has P w K mg base (k + 1) "is_integer" ["value"] (spIs K n isIn)) : FnOk P w K mg base CX0 (k + 2) f fd ["value"] (spIs K n isPr) := by
  refine F.ok scPair (fun vs H Q E h => ?_) (fun cdv A outer s H vs Q E hr h => ?_)
  · obtain ⟨v, d, rfl, _⟩ := h
    rfl
  · obtain ⟨v, d, rfl, hd, od, q⟩ := h
    obtain ⟨fN, fdN, gN, kN, bN, GN⟩ := (In n).ex
    refine ⟨_, PSs.nox (pss_one (ps_ret (pe_and (pe_callB call_isi (by rfl) B.isi (by decide +kernel) (pa_cons (pv 0) (pa_cons (pe_bltn (v := .ty "tuple") (by rfl) B.tuple (by decide +kernel) rfl) pa_nil)))
      (pe_and (pe_cmpR op_eq (pe_callB call_len_seq (by rfl) B.len PySem.boot_len (pa_cons (pv 0) pa_nil)) pe_int (nomark _))
      (pe_and (pe_call GN hr (by rfl) gN kN bN .nil pass0 (pa_cons (pe_ix ix_tup (pv 0) pe_int (fun _ _ => rfl)) pa_nil)) (pe_one (pe_call GN hr (by rfl) gN kN bN .nil pass0 (pa_cons (pe_ix ix_tup (pv 0) pe_int (fun _ _ => rfl)) pa_nil)))))))), ?_⟩
    refine ⟨v, rfl, v, .ty "tuple", _, _, _, rfl, .ty _, dpTy hd, dpKit hd (.inl rfl), _, rfl, ?_⟩
    cases od with
    | @tup n ds hl hod =>
      cases hd with
      | @tup a xs _ hx hds =>
        have el := dpLen hds
        refine iteT ⟨.ref a, rfl, a, xs, rfl, .inr hx, rfl, _, rfl, ?_⟩
        rw [dInt]
        refine ite2 (fun e => ?_) (fun e => ?_)
        · have e2 : xs.length = 2 := by have := of_decide_eq_true e; omega
          match xs, ds, hds, el, e2 with
          | [x0, x1], [d0, d1], .cons h0 (.cons h1 .nil), _, _ =>
            have o0 := (hod d0 (by simp)).up (m := n + 1) (by omega)
            have o1 := (hod d1 (by simp)).up (m := n + 1) (by omega)
            refine ⟨.ref a, rfl, a, _, 0, x0, rfl, rfl, hx, atI_nat (j := 0) rfl, x0, d0, rfl, h0, o0, fun H1 s1 => ⟨_, rfl, ite2 (fun e => ?_) (fun e => ?_)⟩⟩
            · refine ⟨.ref a, rfl, a, _, 1, x1, rfl, rfl, sameTup s1 hx, atI_nat (j := 1) rfl, x1, d1, rfl, dpSame s1 _ _ h1, o1, fun H2 s2 => ?_⟩
              have := q H2 (s1.trans s2)
              rw [show isPr (.tuple [d0, d1]) = (isIn d0 && isIn d1) from rfl, e, Bool.true_and] at this
              exact this
            · have := q H1 s1
              rw [show isPr (.tuple [d0, d1]) = (isIn d0 && isIn d1) from rfl, Bool.eq_false_iff.mpr e, Bool.false_and] at this
              exact this
        · have e2 : xs.length ≠ 2 := fun z => e (by rw [z]; rfl)
          have e3 : isPr (.tuple ds) = false := by
            match ds, el with
            | [], _ => rfl
            | [_], _ => rfl
            | [_, _], el => exact absurd el e2
            | _ :: _ :: _ :: _, _ => rfl
          rw [e3] at q
          exact q H (Same.refl H)
    | non => exact iteF (q H (Same.refl H))
    | bl => exact iteF (q H (Same.refl H))
    | int => exact iteF (q H (Same.refl H))
    | str => exact iteF (q H (Same.refl H))
theorem scParts : FnScope ["value", "part"] ["value"] (defScope sParts) := ⟨rfl, rfl, rfl, by decide +kernel, rfl, by decide +kernel, by decide +kernel⟩
theorem okParts {k n : Nat} (F : FnP K "_are_parts" sParts f fd) (B : Bn mg) (Tx : ∀ n, Has P w K mg base (k + 2) "is_text" ["value"] (spIs K n isTx)) (Pr : ∀ n, Has P w K mg base (k + 2) "_is_pair_of_integers" ["value"] (spIs K n isPr)) : FnOk P w K mg base CX0 (k + 3) f fd ["value"] (spIs K n arePt) := by
  refine F.ok scParts (fun vs H Q E h => ?_) (fun cdv A outer s H vs Q E hr h => ?_)
  · obtain ⟨v, d, rfl, _⟩ := h
    rfl
  · obtain ⟨v, d, rfl, hd, od, q⟩ := h
    obtain ⟨fT, fdT, gT, kT, bT, GT⟩ := (Tx n).ex
    obtain ⟨fP, fdP, gP, kP, bP, GP⟩ := (Pr n).ex
    refine ⟨_, PSs.nox (pss_one (ps_ret (pe_and (pe_callB call_isi (by rfl) B.isi (by decide +kernel) (pa_cons (pv 0) (pa_cons (pe_bltn (v := .ty "tuple") (by rfl) B.tuple (by decide +kernel) rfl) pa_nil)))
      (pe_one (pe_callB (cr_all rfl) (by rfl) B.all (by decide +kernel) (pa_cons (pe_lc (own := [("part", 1)]) (g := gName 1) rfl scParts.nd (pi_tup (pv 0)) (blkOk_by (N := ["value", "part"]) (sc := defScope sParts) (by decide +kernel))
        (fun _ _ _ _ _ => pg_name (i := 1) scParts.nd rfl (.inl rfl) (hf := .inr rfl)) (fun _ _ _ _ _ => pts_nil)
        (fun _ _ _ _ _ => pe_or (pe_call GT hr (by rfl) gT kT bT .nil pass0 (pa_cons (pv 1) pa_nil)) (pe_one (pe_call GP hr (by rfl) gP kP bP .nil pass0 (pa_cons (pv 1) pa_nil))))) pa_nil)))))), ?_⟩
    refine ⟨v, rfl, v, .ty "tuple", _, _, _, rfl, .ty _, dpTy hd, dpKit hd (.inl rfl), _, rfl, ?_⟩
    cases od with
    | @tup n ds hl hod =>
      cases hd with
      | @tup a xs _ hx hds =>
        have hq : ∀ H', Same H H' → ∀ b, arePt (.tuple ds) = b → Q (.bl b) H' := fun H' s' b e => e ▸ q H' s'
        refine iteT ⟨.ref a, rfl, a, rfl, ⟨xs, hx⟩, fun D hD => ?_⟩
        refine lcAllT isPt hx hds (by omega) hD (fun v => rfl) (fun v d H1 hm s1 hd R hR => ?_) (fun H1 s1 e3 => ?_)
        · have od2 : Od (n + 1) d := (hod d hm).up (by omega)
          refine ⟨v, rfl, v, d, rfl, hd, od2, fun H2 s2 => ⟨_, rfl, ite2 (fun e => ?_) (fun e => ?_)⟩⟩
          · have := hR H2 s2
            unfold isPt at this
            rw [e, Bool.true_or] at this
            exact this
          · refine ⟨v, rfl, v, d, rfl, dpSame s2 _ _ hd, od2, fun H3 s3 => ?_⟩
            have := hR H3 (s2.trans s3)
            unfold isPt at this
            rw [Bool.eq_false_iff.mpr e, Bool.false_or] at this
            exact this
        · refine ⟨D, ds.map isPt, rfl, .inl (.inl e3), ?_⟩
          rw [show (ds.map isPt).all id = ds.all isPt by rw [List.all_map]; rfl]
          exact hq H1 s1 _ rfl
    | non => exact iteF (q H (Same.refl H))
    | bl => exact iteF (q H (Same.refl H))
    | int => exact iteF (q H (Same.refl H))
    | str => exact iteF (q H (Same.refl H))
theorem scCase : FnScope ["value", "many"] ["value", "many"] (defScope sCase) := ⟨rfl, rfl, rfl, by decide +kernel, rfl, by decide +kernel, by decide +kernel⟩
theorem okCase {k n : Nat} (F : FnP K "_is_case" sCase f fd) (B : Bn mg) (An : ∀ n, Has P w K mg base (k + 2) "are_answers" ["value"] (spIs K n areAn)) : FnOk P w K mg base CX0 (k + 3) f fd ["value", "many"] (spIs2 K n isCs) := by
  refine F.ok scCase (fun vs H Q E h => ?_) (fun cdv A outer s H vs Q E hr h => ?_)
  · obtain ⟨v, d, m, rfl, _⟩ := h
    rfl
  · obtain ⟨v, d, m, rfl, hd, od, q⟩ := h
    obtain ⟨fA, fdA, gA, kA, bA, GA⟩ := (An n).ex
    refine ⟨_, PSs.nox (pss_cons (ps_if (PW.pt (pw_or (pt_not (pt_val (pe_callB call_isi (by rfl) B.isi (by decide +kernel) (pa_cons (pv 0) (pa_cons (pe_bltn (v := .ty "tuple") (by rfl) B.tuple (by decide +kernel) rfl) pa_nil)))))
        (pw_or1 (pt_cmpR op_ne (pe_callB call_len_seq (by rfl) B.len PySem.boot_len (pa_cons (pv 0) pa_nil)) pe_int (nomark _))))) (pss_one (ps_ret pe_bl)) pss_nil) (pss_one (ps_ret (pe_and (pe_call GA hr (by rfl) gA kA bA .nil pass0 (pa_cons (pe_ix ix_tup (pv 0) pe_int (fun _ _ => rfl)) pa_nil)) (pe_one (pe_cmpR op_eq (pe_callB call_len_seq (by rfl) B.len PySem.boot_len (pa_cons (pe_ix ix_tup (pv 0) pe_int (fun _ _ => rfl)) pa_nil)) (pv 1) (nomark _))))))), ?_⟩
    refine ⟨v, rfl, v, .ty "tuple", _, _, _, rfl, .ty _, dpTy hd, dpKit hd (.inl rfl), _, rfl, ?_⟩
    cases od with
    | @tup n ds hl hod =>
      cases hd with
      | @tup a xs _ hx hds =>
        have el := dpLen hds
        have hq : ∀ H', Same H H' → ∀ b, isCs m (.tuple ds) = b → Q (.bl b) H' := fun H' s' b e => e ▸ q H' s'
        refine iteF ⟨.ref a, rfl, a, xs, rfl, .inr hx, rfl, _, rfl, ?_⟩
        rw [dInt]
        by_cases e2 : xs.length = 2
        · rw [decide_eq_true (by omega : (xs.length : Int) = 2)]
          refine iteF ?_
          match xs, ds, hds, el, e2 with
          | [x0, x1], [d0, d1], .cons h0 (.cons h1 .nil), _, _ =>
            have o0 := (hod d0 (by simp)).up (m := n + 1) (by omega)
            refine ⟨.ref a, rfl, a, _, 0, x0, rfl, rfl, hx, atI_nat (j := 0) rfl, x0, d0, rfl, h0, o0, fun H1 s1 => ⟨_, rfl, ite2 (fun e => ?_) (fun e => ?_)⟩⟩
            · have h01 := dpSame s1 _ _ h0
              cases d0 with
              | tuple es =>
                cases h01 with
                | @tup b ys _ hy hes =>
                  have ele := dpLen hes
                  refine ⟨.ref a, rfl, a, _, 0, .ref b, rfl, rfl, sameTup s1 hx, atI_nat (j := 0) rfl, b, ys, rfl, .inr hy, .int m, rfl, rfl, ?_⟩
                  rw [dInt]
                  refine hq H1 s1 _ ?_
                  show (areAn (.tuple es) && decide ((es.length : Int) = m)) = _
                  rw [e, Bool.true_and, ele]
              | _ => exact absurd e (by simp [areAn])
            · refine hq H1 s1 _ ?_
              show (areAn d0 && _) = false
              rw [Bool.eq_false_iff.mpr e, Bool.false_and]
        · rw [decide_eq_false (by omega : ¬ (xs.length : Int) = 2)]
          refine iteT (hq H (Same.refl H) _ ?_)
          match ds, el with
          | [], _ => rfl
          | [_], _ => rfl
          | [_, _], el => exact absurd el e2
          | _ :: _ :: _ :: _, _ => rfl
    | non => exact iteT (q H (Same.refl H))
    | bl => exact iteT (q H (Same.refl H))
    | int => exact iteT (q H (Same.refl H))
    | str => exact iteT (q H (Same.refl H))
theorem scCases : FnScope ["value", "many", "case"] ["value", "many"] (defScope sCases) := ⟨rfl, rfl, rfl, by decide +kernel, rfl, by decide +kernel, by decide +kernel⟩
theorem okCases {k n : Nat} (F : FnP K "_are_cases" sCases f fd) (B : Bn mg) (Cs : ∀ n, Has P w K mg base (k + 3) "_is_case" ["value", "many"] (spIs2 K n isCs)) : FnOk P w K mg base CX0 (k + 4) f fd ["value", "many"] (spIs2 K n areCs) := by
  refine F.ok scCases (fun vs H Q E h => ?_) (fun cdv A outer s H vs Q E hr h => ?_)
  · obtain ⟨v, d, m, rfl, _⟩ := h
    rfl
  · obtain ⟨v, d, m, rfl, hd, od, q⟩ := h
    obtain ⟨fC, fdC, gC, kC, bC, GC⟩ := (Cs n).ex
    refine ⟨_, PSs.nox (pss_one (ps_ret (pe_and (pe_callB call_isi (by rfl) B.isi (by decide +kernel) (pa_cons (pv 0) (pa_cons (pe_bltn (v := .ty "tuple") (by rfl) B.tuple (by decide +kernel) rfl) pa_nil)))
      (pe_one (pe_callB (cr_all rfl) (by rfl) B.all (by decide +kernel) (pa_cons (pe_lc (own := [("case", 2)]) (g := gName 2) rfl scCases.nd (pi_tup (pv 0)) (blkOk_by (N := ["value", "many", "case"]) (sc := defScope sCases) (by decide +kernel))
        (fun _ _ _ _ _ => pg_name (i := 2) scCases.nd rfl (.inl rfl) (hf := .inr rfl)) (fun _ _ _ _ _ => pts_nil)
        (fun _ _ _ _ _ => pe_call GC hr (by rfl) gC kC bC .nil pass0 (pa_cons (pv 2) (pa_cons (pv 1) pa_nil)))) pa_nil)))))), ?_⟩
    refine ⟨v, rfl, v, .ty "tuple", _, _, _, rfl, .ty _, dpTy hd, dpKit hd (.inl rfl), _, rfl, ?_⟩
    cases od with
    | @tup n ds hl hod =>
      cases hd with
      | @tup a xs _ hx hds =>
        refine iteT ⟨.ref a, rfl, a, rfl, ⟨xs, hx⟩, fun D hD => ?_⟩
        refine lcAllT (isCs m) hx hds (by omega) hD (fun v => rfl) (fun v d H1 hm s1 hd R hR => ?_) (fun H1 s1 e3 => ?_)
        · exact ⟨v, rfl, .int m, rfl, v, d, m, rfl, hd, (hod d hm).up (by omega), fun H2 s2 => hR H2 s2⟩
        · refine ⟨D, ds.map (isCs m), rfl, .inl (.inl e3), ?_⟩
          rw [show (ds.map (isCs m)).all id = ds.all (isCs m) by rw [List.all_map]; rfl]
          exact q H1 s1
    | non => exact iteF (q H (Same.refl H))
    | bl => exact iteF (q H (Same.refl H))
    | int => exact iteF (q H (Same.refl H))
    | str => exact iteF (q H (Same.refl H))
end
end KS

set_option Elab.async false
set_option linter.all false
set_option maxRecDepth 100000
set_option maxHeartbeats 4000000
namespace KS
open PySem PySem.Spec PyProof.Rows L2
section
variable {X : Cx}
def rNotInTD (K : PySem.W.Frag) : R2 := fun x y H Q => ∃ d ds, Dp K H x d ∧ Dp K H y (.tuple ds) ∧ SeqAt.shaped d = true ∧ SeqAt.shaped (.tuple ds) = true ∧ Q (.bl (!ds.any fun z => PyData.eqv z d)) H
theorem op_notInTD (hu : X.A.units + 65 < cLine) : OpR X (compareOp .NotIn) (rNotInTD X.K) := by
  intro pins s σ H x y v u Q I rx ry h
  obtain ⟨d, ds, hd, he, sd, se, q⟩ := h
  obtain ⟨as, r1⟩ := Dp.reads I d x v hd rx
  obtain ⟨bs, r2⟩ := Dp.reads I (.tuple ds) y u he ry
  refine SeqAt.notIn_tuple_reads r2 r1 (SeqAt.canLay_of_shaped se) (SeqAt.canLay_of_shaped sd) ?_ ⟨.bl _, H, I, rfl, q⟩
  have h1 := SeqAt.depth_of_shaped sd
  have h2 : min (PyData.depthAll ds) d.depth ≤ d.depth := Nat.min_le_right _ _
  omega
end
def lenD : PyData → Int
  | .tuple ds => ds.length
  | _ => 0
/-- a node behind the outputs ws, whatever stands for the nodes in it -/
def isNd (ws : List PyData) : PyData → Bool
  | .tuple [k, a, b, _] => if isWord "write" k then isNm a && (!(ws.any fun z => PyData.eqv z a) && arePt b) else isWord "read" k && (areKy a && areCs (lenD a) b)
  | d => PyData.eqv d (.tuple [.str "stop"])
/-- what can be compared: the whole, or the first of four -/
def NodeOk (d : PyData) : Prop := SeqAt.shaped d = true ∨ ∃ k a b e, d = .tuple [k, a, b, e] ∧ SeqAt.shaped k = true
def spNode (K : PySem.W.Frag) (n : Nat) : Sp := fun vs H Q _ => ∃ v wv d ws, vs = [v, wv] ∧ Dp K H v d ∧ Od n d ∧ NodeOk d ∧ Dp K H wv (.tuple ws) ∧ SeqAt.shaped (.tuple ws) = true ∧ ∀ H', Same H H' → Q (.bl (isNd ws d)) H'
theorem strSh2 {n : Nat} {z : Str} (h : Od n (.str z)) : SeqAt.shaped (.str z) = true := by
  cases h with
  | str n h _ =>
    unfold SeqAt.shaped
    have e : (PyData.str z).canLay0 = true := h
    rw [e]
    rfl
section
variable {P : Program} {w : World} {K : PySem.W.Frag} {mg : Str → Option Value} {base : Heap} {f : Addr} {fd : FuncData}
abbrev nNode : List Str := ["value", "written", "kind", "first", "second", "_"]
theorem scNode : FnScope nNode ["value", "written"] (defScope sIsNode) := ⟨rfl, rfl, rfl, by decide +kernel, rfl, by decide +kernel, by decide +kernel⟩
theorem okNode {k n : Nat} {S : Addr} (F : FnP K "_is_node" sIsNode f fd) (B : Bn mg) (gS : mg "STOP" = some (.ref S)) (hS : ∀ H, SqT K H S [.str "stop"]) (Nm : ∀ n, Has P w K mg base (k + 4) "is_name" ["value"] (spIs K n isNm)) (Pt : ∀ n, Has P w K mg base (k + 4) "_are_parts" ["value"] (spIs K n arePt))
    (Ky : ∀ n, Has P w K mg base (k + 4) "are_keys" ["value"] (spIs K n areKy)) (Cs : ∀ n, Has P w K mg base (k + 4) "_are_cases" ["value", "many"] (spIs2 K n areCs)) : FnOk P w K mg base CX0 (k + 5) f fd ["value", "written"] (spNode K n) := by
  refine F.ok scNode (fun vs H Q E h => ?_) (fun cdv A outer s H vs Q E hr h => ?_)
  · obtain ⟨v, wv, d, ws, rfl, _⟩ := h
    rfl
  · obtain ⟨v, wv, d, ws, rfl, hd, od, nok, hw, hws, q⟩ := h
    obtain ⟨fN, fdN, gN, kN, bN, GN⟩ := (Nm n).ex
    obtain ⟨fP, fdP, gP, kP, bP, GP⟩ := (Pt n).ex
    obtain ⟨fK, fdK, gK, kK, bK, GK⟩ := (Ky n).ex
    obtain ⟨fC, fdC, gC, kC, bC, GC⟩ := (Cs n).ex
    have hu65 : (A.deeper (envOfC "_is_node" (defScope sIsNode) s.heap.objs.size f cdv)).units + 65 < cLine := by
      have := hr.un
      omega
    refine ⟨_, PSs.nox (pss_cons (ps_if (PW.pt (pw_or (pt_not (pt_val (pe_callB call_isi (by rfl) B.isi (by decide +kernel) (pa_cons (pv 0) (pa_cons (pe_bltn (v := .ty "tuple") (by rfl) B.tuple (by decide +kernel) rfl) pa_nil)))))
        (pw_or1 (pt_cmpR op_ne (pe_callB call_len_seq (by rfl) B.len PySem.boot_len (pa_cons (pv 0) pa_nil)) pe_int (nomark _))))) (pss_one (ps_ret (pe_cmpR (op_eqD hr.units) (pv 0) (pe_glob (v := .ref S) (by rfl) gS rfl) (nomark _)))) pss_nil) (pss_cons (ps_asg (pv 0) (pg_tup rfl (pgs_cons (pg_name (i := 2) scNode.nd rfl (.inl rfl)) (pgs_cons (pg_name (i := 3) scNode.nd rfl (.inl rfl)) (pgs_cons (pg_name (i := 4) scNode.nd rfl (.inl rfl)) (pgs_cons (pg_name (i := 5) scNode.nd rfl (.inl rfl)) pgs_nil)))))) (pss_cons (ps_if (pt_cmpR (op_eqD hr.units) (pv 2) pe_str (nomark _)) (pss_one (ps_ret (pe_and (pe_call GN hr (by rfl) gN kN bN .nil pass0 (pa_cons (pv 3) pa_nil)) (pe_and (pe_cmpR (op_notInTD hu65) (pv 3) (pv 1) (by rfl)) (pe_one (pe_call GP hr (by rfl) gP kP bP .nil pass0 (pa_cons (pv 4) pa_nil))))))) pss_nil) (pss_one (ps_ret (pe_and (pe_cmpR (op_eqD hr.units) (pv 2) pe_str (nomark _)) (pe_and (pe_call GK hr (by rfl) gK kK bK .nil pass0 (pa_cons (pv 3) pa_nil)) (pe_one (pe_call GC hr (by rfl) gC kC bC .nil pass0 (pa_cons (pv 4) (pa_cons (pe_callB call_len_seq (by rfl) B.len PySem.boot_len (pa_cons (pv 3) pa_nil)) pa_nil))))))))))), ?_⟩
    refine ⟨v, rfl, v, .ty "tuple", _, _, _, rfl, .ty _, dpTy hd, dpKit hd (.inl rfl), _, rfl, ?_⟩
    have flat : SeqAt.shaped d = true → isNd ws d = PyData.eqv d (.tuple [.str "stop"]) → rEqD K v (.ref S) H Q := fun hs he =>
      ⟨d, .tuple [.str "stop"], hd, .tup (hS H) (.cons (.str _) .nil), hs, by decide +kernel, by rw [← he]; exact q H (Same.refl H)⟩
    cases od with
    | @tup n ds hl hod =>
      have hq : ∀ H', Same H H' → ∀ b, isNd ws (.tuple ds) = b → Q (.bl b) H' := fun H' s' b e => e ▸ q H' s'
      by_cases e4 : ds.length = 4
      · cases hd with
        | @tup a xs _ hx hds =>
          have el := dpLen hds
          refine iteF ⟨.ref a, rfl, a, xs, rfl, .inr hx, rfl, _, rfl, ?_⟩
          rw [dInt, decide_eq_true (by omega : (xs.length : Int) = 4)]
          refine iteF ?_
          have e5 : xs.length = 4 := by omega
          match xs, ds, hds, el, e5 with
          | [x0, x1, x2, x3], [d0, d1, d2, d3], .cons h0 (.cons h1 (.cons h2 (.cons h3 .nil))), _, _ =>
            have o1 := (hod d1 (by simp)).up (m := n + 1) (by omega)
            have o2 := (hod d2 (by simp)).up (m := n + 1) (by omega)
            have sh0 : SeqAt.shaped d0 = true := by
              rcases nok with z | ⟨k', a', b', e', z, z2⟩
              · have c1 := SeqAt.canLay_of_shaped z
                have c2 := SeqAt.depth_of_shaped z
                simp only [PyData.canLay0, PyData.canLayAll0, Bool.and_eq_true] at c1
                simp only [PyData.depth, PyData.depthAll] at c2
                unfold SeqAt.shaped
                rw [c1.1, Bool.true_and]
                exact decide_eq_true (by omega)
              · injection z with z
                injection z with z
                rw [z]
                exact z2
            have hs : isNd ws (.tuple [d0, d1, d2, d3]) = if isWord "write" d0 then isNm d1 && (!(ws.any fun z => PyData.eqv z d1) && arePt d2) else isWord "read" d0 && (areKy d1 && areCs (lenD d1) d2) := rfl
            refine ⟨.ref a, rfl, a, _, rfl, hx, rfl, x0, _, rfl, x1, _, rfl, x2, _, rfl, x3, _, rfl, rfl, ?_⟩
            refine ⟨x0, rfl, d0, .str "write", h0, .str _, sh0, by decide +kernel, _, rfl, ite2 (fun e => ?_) (fun e => ?_)⟩
            · have ew : isWord "write" d0 = true := e
              rw [ew, if_pos rfl] at hs
              refine ⟨x1, rfl, x1, d1, rfl, h1, o1, fun H1 s1 => ⟨_, rfl, ite2 (fun c => ?_) (fun c => ?_)⟩⟩
              · cases d1 with
                | str z =>
                  refine ⟨x1, rfl, wv, rfl, .str z, ws, dpSame s1 _ _ h1, dpSame s1 _ _ hw, strSh2 o1, hws, _, rfl, ite2 (fun c2 => ?_) (fun c2 => ?_)⟩
                  · exact ⟨x2, rfl, x2, d2, rfl, dpSame s1 _ _ h2, o2, fun H2 s2 => hq H2 (s1.trans s2) _ (by rw [hs, c, c2, Bool.true_and, Bool.true_and])⟩
                  · exact hq H1 s1 _ (by rw [hs, c, Bool.eq_false_iff.mpr c2]; rfl)
                | _ => exact absurd c (by simp [isNm])
              · exact hq H1 s1 _ (by rw [hs, Bool.eq_false_iff.mpr c, Bool.false_and])
            · have ew : isWord "write" d0 = false := Bool.eq_false_iff.mpr e
              rw [ew, if_neg Bool.false_ne_true] at hs
              refine ⟨x0, rfl, d0, .str "read", h0, .str _, sh0, by decide +kernel, _, rfl, ite2 (fun c => ?_) (fun c => ?_)⟩
              · have er : isWord "read" d0 = true := c
                refine ⟨x1, rfl, x1, d1, rfl, h1, o1, fun H1 s1 => ⟨_, rfl, ite2 (fun c2 => ?_) (fun c2 => ?_)⟩⟩
                · have h11 := dpSame s1 _ _ h1
                  cases d1 with
                  | tuple es =>
                    cases h11 with
                    | @tup b ys _ hy hes =>
                      refine ⟨x2, rfl, .ref b, rfl, b, ys, rfl, .inr hy, x2, d2, (ys.length : Int), rfl, dpSame s1 _ _ h2, o2, fun H2 s2 => hq H2 (s1.trans s2) _ ?_⟩
                      rw [hs, er, c2, Bool.true_and, Bool.true_and]
                      show areCs (es.length : Int) d2 = _
                      rw [dpLen hes]
                  | _ => exact absurd c2 (by simp [areKy])
                · exact hq H1 s1 _ (by rw [hs, er, Bool.eq_false_iff.mpr c2]; rfl)
              · have er : isWord "read" d0 = false := Bool.eq_false_iff.mpr c
                exact hq H (Same.refl H) _ (by rw [hs, er, Bool.false_and])
      · have he : isNd ws (.tuple ds) = PyData.eqv (.tuple ds) (.tuple [.str "stop"]) := by
          match ds, e4 with
          | [], _ => rfl
          | [_], _ => rfl
          | [_, _], _ => rfl
          | [_, _, _], _ => rfl
          | _ :: _ :: _ :: _ :: _ :: _, _ => rfl
        have hsh : SeqAt.shaped (.tuple ds) = true := by
          rcases nok with z | ⟨k', a', b', e', z, _⟩
          · exact z
          · injection z with z
            rw [z] at e4
            exact absurd rfl e4
        have hf := flat hsh he
        cases hd with
        | @tup a xs _ hx hds =>
          have el := dpLen hds
          refine iteF ⟨.ref a, rfl, a, xs, rfl, .inr hx, rfl, _, rfl, ?_⟩
          rw [dInt, decide_eq_false (by omega : ¬ (xs.length : Int) = 4)]
          exact iteT ⟨.ref a, rfl, hf⟩
    | non => exact iteT ⟨v, rfl, flat rfl rfl⟩
    | bl => exact iteT ⟨v, rfl, flat rfl rfl⟩
    | int => exact iteT ⟨v, rfl, flat rfl rfl⟩
    | @str n z h1 h2 => exact iteT ⟨v, rfl, flat (strSh2 (.str n h1 h2)) rfl⟩
end
end KS

set_option Elab.async false
set_option linter.all false
set_option maxRecDepth 100000
set_option maxHeartbeats 4000000
namespace KS.La
open PySem PySem.Spec PyProof.Rows L2
abbrev lIsWord : Stmt := top 37
abbrev lIsLine : Stmt := top 38
abbrev lIsNumber : Stmt := top 39
abbrev lIsPart : Stmt := top 40
abbrev lIsCase : Stmt := top 42
/-- each text in it is a line exactly if it is a text -/
inductive Td : PyData → Prop
  | non : Td .none
  | bl (b : Bool) : Td (.bool b)
  | int (i : Int) : Td (.int i)
  | str {z : Str} (h : lineOk z = okT z) : Td (.str z)
  | tup {ds : List PyData} (h : ∀ d ∈ ds, Td d) : Td (.tuple ds)
def spIt (K : PySem.W.Frag) (n : Nat) (p : PyData → Bool) : Sp := fun vs H Q _ => ∃ v d, vs = [v] ∧ Dp K H v d ∧ Od n d ∧ Td d ∧ ∀ H', Same H H' → Q (.bl (p d)) H'
def spIt2 (K : PySem.W.Frag) (n : Nat) (p : Int → PyData → Bool) : Sp := fun vs H Q _ => ∃ v d m, vs = [v, .int m] ∧ Dp K H v d ∧ Od n d ∧ Td d ∧ ∀ H', Same H H' → Q (.bl (p m d)) H'
section
variable {P : Program} {w : World} {K : PySem.W.Frag} {mg : Str → Option Value} {base : Heap} {f : Addr} {fd : FuncData}
theorem sokAt {z : Str} (h : SOk z) {i c : Nat} (e : z.cps[i]? = some c) : SOk ⟨#[c]⟩ := by
  have h1 := Array.all_eq_true'.mp h c (Array.mem_of_getElem? e)
  unfold SOk
  simpa using h1
theorem allIff (l : List Nat) (p : Nat → Bool) : (∀ i, i < l.length → (!p (l.getD i 0)) = false) ↔ l.all p = true := by
  rw [List.all_eq_true]
  constructor
  · intro h x hx
    obtain ⟨i, hi, e⟩ := List.getElem_of_mem hx
    have := h i hi
    rw [List.getD_eq_getElem?_getD, List.getElem?_eq_getElem hi] at this
    rw [← e]
    simpa using this
  · intro h i hi
    rw [List.getD_eq_getElem?_getD, List.getElem?_eq_getElem hi]
    simpa using h _ (List.getElem_mem hi)
def letters : Str := "abcdefghijklmnopqrstuvwxyz"
def digits : Str := "0123456789"
theorem letSmall : (letters.cps.toList.all fun c => decide (c < 127)) = true := by decide +kernel
theorem letBelow : ((List.range 127).all fun c => decide (c ∈ letters.cps.toList) == letter c) = true := by decide +kernel
theorem letAre (c : Nat) : decide (c ∈ letters.cps.toList) = letter c := by
  by_cases h : c < 127
  · exact beq_iff_eq.mp (List.all_eq_true.mp letBelow c (List.mem_range.mpr h))
  · have h1 : c ∉ letters.cps.toList := fun hm => h (of_decide_eq_true (List.all_eq_true.mp letSmall c hm))
    rw [decide_eq_false h1]
    unfold letter
    rw [decide_eq_false (by omega : ¬ c ≤ 122), Bool.and_false]
theorem namSmall : ((letters ++ digits).cps.toList.all fun c => decide (c < 127)) = true := by decide +kernel
theorem namBelow : ((List.range 127).all fun c => decide (c ∈ (letters ++ digits).cps.toList) == nameSign c) = true := by decide +kernel
theorem namAre (c : Nat) : decide (c ∈ (letters ++ digits).cps.toList) = nameSign c := by
  by_cases h : c < 127
  · exact beq_iff_eq.mp (List.all_eq_true.mp namBelow c (List.mem_range.mpr h))
  · have h1 : c ∉ (letters ++ digits).cps.toList := fun hm => h (of_decide_eq_true (List.all_eq_true.mp namSmall c hm))
    rw [decide_eq_false h1]
    unfold nameSign letter
    rw [decide_eq_false (by omega : ¬ c ≤ 122), decide_eq_false (by omega : ¬ c ≤ 57), Bool.and_false, Bool.and_false]
    rfl
theorem scWord : FnScope ["_law_value", "_law_letters", "_law_sign"] ["_law_value"] (defScope lIsWord) := ⟨rfl, rfl, rfl, by decide +kernel, rfl, by decide +kernel, by decide +kernel⟩
theorem okWord {k n : Nat} (F : FnP K "_law_is_word" lIsWord f fd) (B : Bn mg) : FnOk P w K mg base CX0 (k + 1) f fd ["_law_value"] (spIs K n isNm) := by
  refine F.ok scWord (fun vs H Q E h => ?_) (fun cdv A outer s H vs Q E hr h => ?_)
  · obtain ⟨v, d, rfl, _⟩ := h
    rfl
  · obtain ⟨v, d, rfl, hd, od, q⟩ := h
    refine ⟨_, PSs.nox (pss_cons (ps_set (i := 1) scWord.nd rfl (.inr rfl) pe_str) (pss_cons (ps_if (PW.pt (pw_or (pt_not (pt_val (pe_callB call_isi (by rfl) B.isi (by decide +kernel) (pa_cons (pv 0) (pa_cons (pe_bltn (v := .ty "str") (by rfl) B.str (by decide +kernel) rfl) pa_nil)))))
        (pw_or (pt_cmpR op_eq (pv 0) pe_str (nomark _)) (pw_or (pt_cmpR op_gt (pe_callB call_len_str (by rfl) B.len PySem.boot_len (pa_cons (pv 0) pa_nil)) pe_int (nomark _))
        (pw_or1 (pt_cmpR op_notIn_sign (pe_ix ix_str (pv 0) pe_int (fun _ _ => rfl)) (pv 1) (by rfl))))))) (pss_one (ps_ret pe_bl)) pss_nil) (pss_one (ps_ret (pe_cmpR (op_eqD hr.units) (pe_lc (own := [("_law_sign", 2)]) (g := gName 2) rfl scWord.nd (pi_str (pv 0)) (blkOk_by (N := ["_law_value", "_law_letters", "_law_sign"]) (sc := defScope lIsWord) (by decide +kernel))
        (fun _ _ _ _ _ => pg_name (i := 2) scWord.nd rfl (.inl rfl) (hf := .inr rfl)) (fun _ _ _ _ _ => pts_one (pt_cmpR op_notIn_sign (pv 2) (pe_op op_add_str (pv 1) pe_str) (by rfl)))
        (fun _ _ _ _ _ => pv 2)) (pe_lst pa_nil) (nomark _)))))), ?_⟩
    refine ⟨v, rfl, v, .ty "str", _, _, _, rfl, .ty _, dpTy hd, dpKit hd (.inr (.inl rfl)), _, rfl, ?_⟩
    cases od with
    | @str _ z sok len =>
      cases hd
      have hq : ∀ H', Same H H' → ∀ b, okN z = b → Q (.bl b) H' := fun H' s' b e => e ▸ q H' s'
      refine iteF ⟨.str z, rfl, rfl, _, rfl, ite2 (fun e => ?_) (fun e => ?_)⟩
      · have ez : z = "" := by
          have := of_decide_eq_true e
          injection this
        subst ez
        exact hq H (Same.refl H) _ (by decide +kernel)
      · have nz : 1 ≤ z.length := by
          refine Nat.one_le_iff_ne_zero.mpr fun h0 => e (decide_eq_true ?_)
          have : z = "" := by
            obtain ⟨cs⟩ := z
            have : cs = #[] := Array.eq_empty_of_size_eq_zero h0
            rw [this]
            rfl
          rw [this]
        refine ⟨.str z, rfl, z, rfl, by rw [sizeLine_eq]; omega, _, _, rfl, rfl, _, rfl, ite2 (fun e => ?_) (fun e => ?_)⟩
        · have e1 : (8 : Int) < (z.length : Int) := of_decide_eq_true e
          exact hq H (Same.refl H) _ (by unfold okN; rw [decide_eq_false (by omega : ¬ z.length ≤ 8), Bool.false_and, Bool.and_false])
        · have e1 : ¬ (8 : Int) < (z.length : Int) := fun y => e (decide_eq_true y)
          have hz : ∃ c, z.cps[0]? = some c := ⟨z.cps[0]'nz, Array.getElem?_eq_getElem nz⟩
          obtain ⟨c, hc⟩ := hz
          have e2 : okN z = (letter c && z.cps.toList.all nameSign) := by
            unfold okN
            rw [decide_eq_true nz, decide_eq_true (by omega : z.length ≤ 8), Bool.true_and, Bool.true_and, Array.getD_eq_getD_getElem?, hc]
            rfl
          refine ⟨.str z, rfl, z, 0, c, rfl, rfl, by rw [sizeLine_eq]; omega, atI_nat (j := 0) (by rw [Array.getElem?_toList]; exact hc), _, rfl, c, letters, rfl, rfl, _, rfl, ?_⟩
          rw [letAre]
          cases hl : letter c with
          | false => exact iteT (hq H (Same.refl H) _ (by rw [e2, hl, Bool.false_and]))
          | true =>
            refine iteF ⟨.str z, rfl, z, rfl, fun D hD => ?_⟩
            refine lcSome (K := K) (n := z.cps.toList.length) (fun i => !nameSign (z.cps.toList.getD i 0)) hD (by have : z.cps.toList.length = z.length := rfl; omega) (fun v => rfl) (fun i H' lt _ => by simpa [Its] using lt) (fun H' _ => by simp [Its]) (fun i H' x H2 lt _ y => ?_) (fun H' zs s1 e3 e4 es => ?_)
            · obtain ⟨rfl, c, hc, rfl⟩ := y
              have hc2 : z.cps.toList.getD i 0 = c := by
                rw [List.getD_eq_getElem?_getD, Array.getElem?_toList, hc]
                rfl
              rw [hc2]
              refine ⟨Same.refl _, fun F hF => ?_, .str ⟨#[c]⟩, .str ⟨#[c]⟩, fun _ => .str _, .str _ (sokAt sok hc) (by show 1 ≤ 2000; omega), fun R H3 hR => ⟨_, rfl, hR⟩⟩
              refine ⟨_, rfl, _, rfl, _, _, rfl, rfl, by decide +kernel, c, letters ++ digits, rfl, rfl, _, rfl, ?_⟩
              rw [namAre]
              exact hF _ (Same.refl _)
            · refine ⟨(by show 0 ≤ sizeLine; exact Nat.zero_le _), fun p hp => ?_⟩
              refine eqNil ((sameUpd hp) _ _ e3) upd_same es (hq _ (s1.trans (sameUpd hp)) _ ?_)
              rw [e2, hl, Bool.true_and, Bool.eq_iff_iff, decide_eq_true_eq, e4]
              exact (allIff _ _).symm
    | non => exact iteT (q H (Same.refl H))
    | bl => exact iteT (q H (Same.refl H))
    | int => exact iteT (q H (Same.refl H))
    | tup => exact iteT (q H (Same.refl H))
theorem scLine : FnScope ["_law_value"] ["_law_value"] (defScope lIsLine) := ⟨rfl, rfl, rfl, by decide +kernel, rfl, by decide +kernel, by decide +kernel⟩
theorem okLine {k n : Nat} (F : FnP K "_law_is_line" lIsLine f fd) (B : Bn mg) : FnOk P w K mg base CX0 (k + 1) f fd ["_law_value"] (spIt K n isTx) := by
  refine F.ok scLine (fun vs H Q E h => ?_) (fun cdv A outer s H vs Q E hr h => ?_)
  · obtain ⟨v, d, rfl, _⟩ := h
    rfl
  · obtain ⟨v, d, rfl, hd, od, td, q⟩ := h
    refine ⟨_, PSs.nox (pss_one (ps_ret (pe_and (pe_callB call_isi (by rfl) B.isi (by decide +kernel) (pa_cons (pv 0) (pa_cons (pe_bltn (v := .ty "str") (by rfl) B.str (by decide +kernel) rfl) pa_nil)))
      (pe_and (pe_cmpR op_le (pe_callB call_len_str (by rfl) B.len PySem.boot_len (pa_cons (pv 0) pa_nil)) pe_int (nomark _)) (pe_one (pe_cmpR op_notIn_sign pe_str (pv 0) (by rfl))))))), ?_⟩
    refine ⟨v, rfl, v, .ty "str", _, _, _, rfl, .ty _, dpTy hd, dpKit hd (.inr (.inl rfl)), _, rfl, ?_⟩
    cases od with
    | @str _ z sok len =>
      cases hd
      have tz : lineOk z = okT z := by
        cases td with
        | str h => exact h
      have hq : ∀ b, lineOk z = b → Q (.bl b) H := fun b e => by
        have := q H (Same.refl H)
        rw [show isTx (.str z) = okT z from rfl, ← tz, e] at this
        exact this
      refine iteT ⟨.str z, rfl, z, rfl, by rw [sizeLine_eq]; omega, _, _, rfl, rfl, _, rfl, ite2 (fun e => ?_) (fun e => ?_)⟩
      · have e1 : (z.length : Int) ≤ 400 := of_decide_eq_true e
        refine ⟨.str z, rfl, 10, z, rfl, rfl, hq _ ?_⟩
        unfold lineOk
        rw [decide_eq_true (by omega : z.length ≤ 400), Bool.true_and]
      · have e1 : ¬ (z.length : Int) ≤ 400 := fun y => e (decide_eq_true y)
        exact hq _ (by unfold lineOk; rw [decide_eq_false (by omega : ¬ z.length ≤ 400), Bool.false_and])
    | non => exact iteF (q H (Same.refl H))
    | bl => exact iteF (q H (Same.refl H))
    | int => exact iteF (q H (Same.refl H))
    | tup => exact iteF (q H (Same.refl H))
theorem scNumber : FnScope ["_law_value"] ["_law_value"] (defScope lIsNumber) := ⟨rfl, rfl, rfl, by decide +kernel, rfl, by decide +kernel, by decide +kernel⟩
theorem okNumber {k n : Nat} (F : FnP K "_law_is_number" lIsNumber f fd) (B : Bn mg) : FnOk P w K mg base CX0 (k + 1) f fd ["_law_value"] (spIs K n isIn) := by
  refine F.ok scNumber (fun vs H Q E h => ?_) (fun cdv A outer s H vs Q E hr h => ?_)
  · obtain ⟨v, d, rfl, _⟩ := h
    rfl
  · obtain ⟨v, d, rfl, hd, od, q⟩ := h
    refine ⟨_, PSs.nox (pss_one (ps_ret (pe_and (pe_callB call_isi (by rfl) B.isi (by decide +kernel) (pa_cons (pv 0) (pa_cons (pe_bltn (v := .ty "int") (by rfl) B.int (by decide +kernel) rfl) pa_nil)))
      (pe_one (pe_not (pe_callB call_isi (by rfl) B.isi (by decide +kernel) (pa_cons (pv 0) (pa_cons (pe_bltn (v := .ty "bool") (by rfl) B.bool (by decide +kernel) rfl) pa_nil)))))))), ?_⟩
    refine ⟨v, rfl, v, .ty "int", _, _, _, rfl, .ty _, dpTy hd, dpKit hd (.inr (.inr (.inl rfl))), _, rfl, ?_⟩
    have k2 := @dpKit K H v d hd "bool" (.inr (.inr (.inr (.inl rfl))))
    have t2 := dpTy hd
    cases od with
    | int => exact iteT ⟨v, rfl, v, .ty "bool", _, _, _, rfl, .ty _, t2, k2, _, rfl, q H (Same.refl H)⟩
    | bl => exact iteT ⟨v, rfl, v, .ty "bool", _, _, _, rfl, .ty _, t2, k2, _, rfl, q H (Same.refl H)⟩
    | non => exact iteF (q H (Same.refl H))
    | str => exact iteF (q H (Same.refl H))
    | tup => exact iteF (q H (Same.refl H))
theorem scPart : FnScope ["_law_value"] ["_law_value"] (defScope lIsPart) := ⟨rfl, rfl, rfl, by decide +kernel, rfl, by decide +kernel, by decide +kernel⟩
theorem okPart {k n : Nat} (F : FnP K "_law_is_part" lIsPart f fd) (B : Bn mg) (Ln : ∀ n, Has P w K mg base (k + 1) "_law_is_line" ["_law_value"] (spIt K n isTx)) (Nb : ∀ n, Has P w K mg base (k + 1) "_law_is_number" ["_law_value"] (spIs K n isIn)) : FnOk P w K mg base CX0 (k + 2) f fd ["_law_value"] (spIt K n isPt) := by
  refine F.ok scPart (fun vs H Q E h => ?_) (fun cdv A outer s H vs Q E hr h => ?_)
  · obtain ⟨v, d, rfl, _⟩ := h
    rfl
  · obtain ⟨v, d, rfl, hd, od, td, q⟩ := h
    obtain ⟨fL, fdL, gL, kL, bL, GL⟩ := (Ln n).ex
    obtain ⟨fN, fdN, gN, kN, bN, GN⟩ := (Nb n).ex
    refine ⟨_, PSs.nox (pss_cons (ps_if (pt_val (pe_callB call_isi (by rfl) B.isi (by decide +kernel) (pa_cons (pv 0) (pa_cons (pe_bltn (v := .ty "tuple") (by rfl) B.tuple (by decide +kernel) rfl) pa_nil))))
        (pss_one (ps_ret (pe_and (pe_cmpR op_eq (pe_callB call_len_seq (by rfl) B.len PySem.boot_len (pa_cons (pv 0) pa_nil)) pe_int (nomark _))
          (pe_and (pe_call GN hr (by rfl) gN kN bN .nil pass0 (pa_cons (pe_ix ix_tup (pv 0) pe_int (fun _ _ => rfl)) pa_nil)) (pe_one (pe_call GN hr (by rfl) gN kN bN .nil pass0 (pa_cons (pe_ix ix_tup (pv 0) pe_int (fun _ _ => rfl)) pa_nil))))))) pss_nil) (pss_one (ps_ret (pe_call GL hr (by rfl) gL kL bL .nil pass0 (pa_cons (pv 0) pa_nil))))), ?_⟩
    refine ⟨v, rfl, v, .ty "tuple", _, _, _, rfl, .ty _, dpTy hd, dpKit hd (.inl rfl), _, rfl, ?_⟩
    have rest : ∀ {F : V → Hp → Prop}, isPr d = false → (∀ H', Same H H' → F (.bl (isPt d)) H') → ∀ H', Same H H' → F (.bl (isTx d)) H' := fun hp hf H' s' => by
      have := hf H' s'
      unfold isPt at this
      rw [hp, Bool.or_false] at this
      exact this
    cases od with
    | @tup n ds hl hod =>
      cases hd with
      | @tup a xs _ hx hds =>
        have el := dpLen hds
        have hq : ∀ H', Same H H' → ∀ b, isPr (.tuple ds) = b → Q (.bl b) H' := fun H' s' b e => e ▸ q H' s'
        refine iteT ⟨.ref a, rfl, a, xs, rfl, .inr hx, rfl, _, rfl, ?_⟩
        rw [dInt]
        refine ite2 (fun e => ?_) (fun e => ?_)
        · have e2 : xs.length = 2 := by have := of_decide_eq_true e; omega
          match xs, ds, hds, el, e2 with
          | [x0, x1], [d0, d1], .cons h0 (.cons h1 .nil), _, _ =>
            have o0 := (hod d0 (by simp)).up (m := n + 1) (by omega)
            have o1 := (hod d1 (by simp)).up (m := n + 1) (by omega)
            refine ⟨.ref a, rfl, a, _, 0, x0, rfl, rfl, hx, atI_nat (j := 0) rfl, x0, d0, rfl, h0, o0, fun H1 s1 => ⟨_, rfl, ite2 (fun e => ?_) (fun e => ?_)⟩⟩
            · refine ⟨.ref a, rfl, a, _, 1, x1, rfl, rfl, sameTup s1 hx, atI_nat (j := 1) rfl, x1, d1, rfl, dpSame s1 _ _ h1, o1, fun H2 s2 => hq H2 (s1.trans s2) _ ?_⟩
              show (isIn d0 && isIn d1) = _
              rw [e, Bool.true_and]
            · refine hq H1 s1 _ ?_
              show (isIn d0 && isIn d1) = _
              rw [Bool.eq_false_iff.mpr e, Bool.false_and]
        · have e2 : xs.length ≠ 2 := fun z => e (by rw [z]; rfl)
          refine hq H (Same.refl H) _ ?_
          match ds, el with
          | [], _ => rfl
          | [_], _ => rfl
          | [_, _], el => exact absurd el e2
          | _ :: _ :: _ :: _, _ => rfl
    | non => exact iteF ⟨v, rfl, v, _, rfl, hd, .non _, td, rest rfl q⟩
    | bl => exact iteF ⟨v, rfl, v, _, rfl, hd, .bl _ _, td, rest rfl q⟩
    | int => exact iteF ⟨v, rfl, v, _, rfl, hd, .int _ _, td, rest rfl q⟩
    | str n h1 h2 => exact iteF ⟨v, rfl, v, _, rfl, hd, .str _ h1 h2, td, rest rfl q⟩
end
end KS.La

set_option Elab.async false
set_option linter.all false
set_option maxRecDepth 100000
set_option maxHeartbeats 4000000
namespace KS.La
open PySem PySem.Spec PyProof.Rows L2
def spCase (K : PySem.W.Frag) (n : Nat) : Sp := fun vs H Q _ => ∃ v d m, vs = [v, .int m] ∧ 1 ≤ m ∧ m ≤ 4 ∧ Dp K H v d ∧ Od n d ∧ Td d ∧ ∀ H', Same H H' → Q (.bl (isCs m d)) H'
section
variable {P : Program} {w : World} {K : PySem.W.Frag} {mg : Str → Option Value} {base : Heap} {f : Addr} {fd : FuncData}
theorem scCase : FnScope ["_law_value", "_law_many", "_law_one"] ["_law_value", "_law_many"] (defScope lIsCase) := ⟨rfl, rfl, rfl, by decide +kernel, rfl, by decide +kernel, by decide +kernel⟩
theorem okCase {k n : Nat} (F : FnP K "_law_is_case" lIsCase f fd) (B : Bn mg) (Ln : ∀ n, Has P w K mg base (k + 1) "_law_is_line" ["_law_value"] (spIt K n isTx)) : FnOk P w K mg base CX0 (k + 2) f fd ["_law_value", "_law_many"] (spCase K n) := by
  refine F.ok scCase (fun vs H Q E h => ?_) (fun cdv A outer s H vs Q E hr h => ?_)
  · obtain ⟨v, d, m, rfl, _⟩ := h
    rfl
  · obtain ⟨v, d, m, rfl, m1, m4, hd, od, td, q⟩ := h
    obtain ⟨fL, fdL, gL, kL, bL, GL⟩ := (Ln n).ex
    refine ⟨_, PSs.nox (pss_cons (ps_if (PW.pt (pw_or (pt_not (pt_val (pe_callB call_isi (by rfl) B.isi (by decide +kernel) (pa_cons (pv 0) (pa_cons (pe_bltn (v := .ty "tuple") (by rfl) B.tuple (by decide +kernel) rfl) pa_nil)))))
        (pw_or (pt_cmpR op_ne (pe_callB call_len_seq (by rfl) B.len PySem.boot_len (pa_cons (pv 0) pa_nil)) pe_int (nomark _))
        (pw_or (pt_not (pt_val (pe_callB call_isi (by rfl) B.isi (by decide +kernel) (pa_cons (pe_ix ix_tup (pv 0) pe_int (fun _ _ => rfl)) (pa_cons (pe_bltn (v := .ty "tuple") (by rfl) B.tuple (by decide +kernel) rfl) pa_nil)))))
        (pw_or1 (pt_cmpR op_ne (pe_callB call_len_seq (by rfl) B.len PySem.boot_len (pa_cons (pe_ix ix_tup (pv 0) pe_int (fun _ _ => rfl)) pa_nil)) (pv 1) (nomark _))))))) (pss_one (ps_ret pe_bl)) pss_nil) (pss_one (ps_ret (pe_cmpR (op_eqD hr.units) (pe_lc (own := [("_law_one", 2)]) (g := gName 2) rfl scCase.nd (pi_tup (pe_ix ix_tup (pv 0) pe_int (fun _ _ => rfl))) (blkOk_by (N := ["_law_value", "_law_many", "_law_one"]) (sc := defScope lIsCase) (by decide +kernel))
        (fun _ _ _ _ _ => pg_name (i := 2) scCase.nd rfl (.inl rfl) (hf := .inr rfl)) (fun _ _ _ _ _ => pts_one (PW.pt (pw_and (pt_cmpR op_notN (pv 2) pe_non (nomark _)) (pw_and1 (pt_not (pt_val (pe_call GL hr (by rfl) gL kL bL .nil pass0 (pa_cons (pv 2) pa_nil))))))))
        (fun _ _ _ _ _ => pe_int)) (pe_lst pa_nil) (nomark _))))), ?_⟩
    refine ⟨v, rfl, v, .ty "tuple", _, _, _, rfl, .ty _, dpTy hd, dpKit hd (.inl rfl), _, rfl, ?_⟩
    cases od with
    | @tup n ds hl hod =>
      cases hd with
      | @tup a xs _ hx hds =>
        have el := dpLen hds
        have htd : ∀ d ∈ ds, Td d := by
          cases td with
          | tup h => exact h
        have hq : ∀ H', Same H H' → ∀ b, isCs m (.tuple ds) = b → Q (.bl b) H' := fun H' s' b e => e ▸ q H' s'
        refine iteF ⟨.ref a, rfl, a, xs, rfl, .inr hx, rfl, _, rfl, ?_⟩
        rw [dInt]
        by_cases e2 : xs.length = 2
        · rw [decide_eq_true (by omega : (xs.length : Int) = 2)]
          refine iteF ?_
          match xs, ds, hds, el, e2 with
          | [x0, x1], [d0, d1], .cons h0 (.cons h1 .nil), _, _ =>
            have o0 := hod d0 (by simp)
            have t0 := htd d0 (by simp)
            refine ⟨.ref a, rfl, a, _, 0, x0, rfl, rfl, hx, atI_nat (j := 0) rfl, x0, .ty "tuple", _, _, _, rfl, .ty _, dpTy h0, dpKit h0 (.inl rfl), _, rfl, ?_⟩
            cases o0 with
            | @tup n es hle hoe =>
              cases h0 with
              | @tup b ys _ hy hes =>
                have ele := dpLen hes
                have hte : ∀ d ∈ es, Td d := by
                  cases t0 with
                  | tup h => exact h
                have hs : isCs m (.tuple [.tuple es, d1]) = ((decide (1 ≤ es.length) && (decide (es.length ≤ 4) && es.all orNone)) && decide ((es.length : Int) = m)) := rfl
                refine iteF ⟨.ref a, rfl, a, _, 0, .ref b, rfl, rfl, hx, atI_nat (j := 0) rfl, b, ys, rfl, .inr hy, .int m, rfl, rfl, _, rfl, ?_⟩
                rw [dInt]
                by_cases em : (ys.length : Int) = m
                · rw [decide_eq_true em]
                  refine iteF ⟨.ref a, rfl, a, _, 0, .ref b, rfl, rfl, hx, atI_nat (j := 0) rfl, b, rfl, ⟨ys, hy⟩, fun D hD => ?_⟩
                  refine lcSomeT (fun d => !orNone d) hy hes (by omega) hD (fun v => rfl) (fun v d H1 hm s1 hd => ⟨fun F hF => ?_, .int 1, .int 1, fun _ => .int _, .int _ _, fun R H2 hR => hR⟩) (fun H1 zs s1 e3 e4 es4 => ?_)
                  · refine ⟨v, rfl, rfl, _, rfl, ?_⟩
                    have od2 := (hoe d hm).up (m := n + 1 + 1) (by omega)
                    by_cases hn : v = .non
                    · subst hn
                      cases hd
                      exact iteF (hF H1 (Same.refl _))
                    · rw [decide_eq_false hn]
                      refine iteT ⟨v, rfl, v, d, rfl, hd, od2, hte d hm, fun H2 s2 => ⟨_, rfl, ?_⟩⟩
                      have := hF H2 s2
                      cases hd with
                      | non => exact absurd rfl hn
                      | _ => exact this
                  · refine ⟨(by show 0 ≤ sizeLine; exact Nat.zero_le _), fun p hp => ?_⟩
                    refine eqNil ((sameUpd hp) _ _ e3) upd_same es4 (hq _ (s1.trans (sameUpd hp)) _ ?_)
                    rw [hs, decide_eq_true (by omega : 1 ≤ es.length), decide_eq_true (by omega : es.length ≤ 4), decide_eq_true (by omega : (es.length : Int) = m), Bool.true_and, Bool.true_and, Bool.and_true, Bool.eq_iff_iff, decide_eq_true_eq, e4, List.all_eq_true]
                    simp
                · rw [decide_eq_false em]
                  exact iteT (hq H (Same.refl H) _ (by rw [hs, decide_eq_false (by omega : ¬ (es.length : Int) = m), Bool.and_false]))
            | non => exact iteT (hq H (Same.refl H) _ rfl)
            | bl => exact iteT (hq H (Same.refl H) _ rfl)
            | int => exact iteT (hq H (Same.refl H) _ rfl)
            | str => exact iteT (hq H (Same.refl H) _ rfl)
        · rw [decide_eq_false (by omega : ¬ (xs.length : Int) = 2)]
          refine iteT (hq H (Same.refl H) _ ?_)
          match ds, el with
          | [], _ => rfl
          | [_], _ => rfl
          | [_, _], el => exact absurd el e2
          | _ :: _ :: _ :: _, _ => rfl
    | non => exact iteT (q H (Same.refl H))
    | bl => exact iteT (q H (Same.refl H))
    | int => exact iteT (q H (Same.refl H))
    | str => exact iteT (q H (Same.refl H))
end
end KS.La

set_option Elab.async false
set_option linter.all false
set_option maxRecDepth 100000
set_option maxHeartbeats 4000000
/-! enumerate(t), t a tuple -/
namespace EN
open PySem PySem.Spec PyProof.Rows L2
open Sem (wp)
theorem meets_new {v : Value} {o : Obj} {H : Heap → Prop} (B : Begins v o H) :
    Meets (Builtin.«enumerate.__new__» ⟨[.type "enumerate", v], []⟩) (fun _ R s => H s.heap ∧
      R (.ok (.ret (.ref (s.heap.push o).objs.size))) { s with heap := (s.heap.push o).push { cls := .type "enumerate", data := .fields #[.none, .bool false, .ref s.heap.objs.size, rawInt 0, .none, .none] } }) :=
  .of_wp fun prog w A R s h => by
    obtain ⟨hp, g, d, tk, os⟩ := s; obtain ⟨h1, h⟩ := h
    have hsub := sub_enumerate
    have q1 : ∀ {A' : Around} {E : Value → Shared → Prop} {Q : Value → Shared → Prop}, Q (.ref hp.objs.size) ⟨hp.push o, g, d, tk, os⟩ → wpAny (model prog w) A' (pyIter v) Q E ⟨hp, g, d, tk, os⟩ :=
      fun q => B.iter prog w _ _ ⟨hp, g, d, tk, os⟩ _ h1 q
    wp_walk using q1
    refine wpAny_stack_any fun st => wpAny_pure ?_
    split
    · rename_i c _ _ _ _ _
      cases (c == Value.type "enumerate")
      · wp_walk using q1
        exact ⟨_, rfl, h⟩
      · wp_walk using q1
        exact ⟨_, rfl, h⟩
    · wp_walk using q1
      exact ⟨_, rfl, h⟩
theorem call_tuple {prog : Program} {w : World} {A : Around} {E : Value → Shared → Prop} {s : Shared} {l : Addr} {items : Array Value} {Q : Value → Shared → Prop} (hL : s.heap.IsTuple l items)
    (h : ∀ h', IsEnum h' (s.heap.objs.size + 1) s.heap.objs.size 0 .none → h'.IsTupleIter s.heap.objs.size l 0 → h'.objs.size = s.heap.objs.size + 2 →
      (∀ b o, s.heap.get? b = some o → h'.get? b = some o) → Q (.ref (s.heap.objs.size + 1)) { s with heap := h' }) :
    wpAny (model prog w) A (call (.type "enumerate") [.ref l]) Q E s := by
  refine callType_new F.called_enumerate (by decide) (F.typeCall_enumerate_1 _) (F.newCall_enumerate_1 _) (fun obj => F.args_object_init_2 obj _) F.entry_enumerate_new
    (meets_new (begins_tuple l items)) ⟨hL, ?_⟩
  have hz : (s.heap.push { cls := .type "tuple_iterator", data := .fields #[.ref l, .int 0 0] }).objs.size = s.heap.objs.size + 1 := Heap.size_push ..
  show _ ∧ _
  rw [hz]
  have he : IsEnum ((s.heap.push { cls := .type "tuple_iterator", data := .fields #[.ref l, .int 0 0] }).push
      { cls := .type "enumerate", data := .fields #[.none, .bool false, .ref s.heap.objs.size, rawInt 0, .none, .none] }) (s.heap.objs.size + 1) s.heap.objs.size 0 .none := by
    have := Heap.get?_push_size (s.heap.push { cls := .type "tuple_iterator", data := .fields #[.ref l, .int 0 0] })
      (o := { cls := .type "enumerate", data := .fields #[.none, .bool false, .ref s.heap.objs.size, rawInt 0, .none, .none] }) rfl
    rw [hz] at this; exact this
  refine ⟨⟨_, he, rfl⟩, h _ he ⟨_, Heap.get?_push_of_some _ (Heap.get?_push_size _ rfl), rfl, rfl⟩ (by rw [Heap.size_push, hz]) fun b o x => Heap.get?_push_of_some _ (Heap.get?_push_of_some _ x)⟩
/-- the tuple at a, each item in a new pair -/
def IteT (K : PySem.W.Frag) (a : Addr) : It :=
  ⟨fun i H => ∃ (xs : List V) (x : V), SqT K H a xs ∧ xs[i]? = some x, fun i H v H' => ∃ T x, v = .ref T ∧ H T = none ∧ H' = upd H T (.tup [.int (i : Nat), x]) ∧ ∀ xs, SqT K H a xs → xs[i]? = some x, fun i H => ∃ xs : List V, SqT K H a xs ∧ xs.length ≤ i⟩
theorem turn_enumT {P : Program} {w : World} {K : PySem.W.Frag} {elts : List Expr} {kk : Nat} {tpos : Pos} (a e it : Addr) :
    Turn P w K (.Tuple elts kk tpos) (IteT K a) [e, it] e (fun i h => (∃ old, IsEnum h e it ((i : Nat) : Int) old) ∧ h.IsTupleIter it a i ∧ e ≠ it ∧ it ≠ a ∧ e ≠ a) where
  mem := by simp
  obj := fun i h st b hb => by
    obtain ⟨⟨old, he⟩, ⟨o, ho, hc, hd⟩, _⟩ := st
    have e' : b = e ∨ b = it := by simpa using hb
    rcases e' with z | z
    · rw [z]; exact ⟨_, he, fun v q => nomatch q⟩
    · rw [z]; exact ⟨o, ho, fun v q => by rw [hd] at q; cases q⟩
  keep := fun i h h' st k => let ⟨⟨old, he⟩, hi, hne⟩ := st; ⟨⟨old, k e (by simp) _ he⟩, hi.at fun o q => k it (by simp) o q, hne⟩
  item := by
    intro X hP hw hK hc i pins s σ H E I hf st hg
    subst hP hw hK
    obtain ⟨⟨old, he⟩, hit, hne, hia, hea⟩ := st
    obtain ⟨xs, x, hq, hx⟩ := hg
    obtain ⟨its, rv, p, hz⟩ := I.tuple hq
    obtain ⟨u, hu, ru⟩ := rv.get hx
    have hel : e < s.heap.objs.size := Heap.lt_size he
    have hil : it < s.heap.objs.size := by obtain ⟨_, q, _⟩ := hit; exact Heap.lt_size q
    have hlt : i < its.toArray.size := by
      have := rv.length
      have h1 : i < xs.length := by
        rcases Nat.lt_or_ge i xs.length with q | q
        · exact q
        · rw [List.getElem?_eq_none q] at hx; cases hx
      simp; omega
    have hdr := Draws.tuple (prog := X.prog) (w := X.w) (A := X.A.in1) (I.ok.hd hc) it a (fun z => hia z.symm) its.toArray
    refine wpAny_pyNext_enum_itemC hdr he ⟨hit, show s.heap.IsTuple a its.toArray from p⟩ hlt hne (by simp [hne, hea]) fun x' h' tk hx' ho hst hT hsz hk => ?_
    obtain rfl : x' = u := by
      have : its.toArray[i]? = some u := by simpa using hu
      exact Option.some.inj (hx'.symm.trans this)
    refine ⟨_, rfl, wpAny_letOwnedTupleGo_enum (s := { s with heap := h', toks := tk + 1 }) ho fun h'' he' sb => ?_⟩
    have hT2 : h''.get? s.heap.objs.size = some { cls := .type "tuple", data := .seq #[.int i tk, x'] } := (sb.2 _ (Nat.ne_of_gt hel)).trans hT
    have new : ObjOk X.prog X.w (upd H s.heap.objs.size (.tup [.int (i : Nat), x])) h'' s.heap.objs.size (.tup [.int (i : Nat), x]) :=
      ⟨by show 2 ≤ sizeLine; decide, [.int i tk, x'], .cons ⟨_, rfl⟩ (.cons ru .nil), ⟨_, hT2, rfl, _, rfl⟩⟩
    have I1 : Inv X pins σ (upd H s.heap.objs.size (.tup [.int (i : Nat), x])) { s with heap := h'', toks := tk + 1 } :=
      I.turnedNew (ch := [e, it]) (fun b ob hb q => (sb.2 b (fun z => hb (by simp [z]))).trans (hk b ob (fun z => hb (by simp [z])) (fun z => hb (by simp [z])) q)) hf (Nat.le_refl _) new
    refine ⟨.ref s.heap.objs.size, _, I1, rfl, ⟨_, x, rfl, I.hok.fresh (Nat.le_refl _), rfl, fun ys hy => by rw [I.tuple_inj hy hq]; exact hx⟩, ⟨⟨x', ?_⟩, hst.1.at fun o q => (sb.2 it (Ne.symm hne)).trans q, hne, hia, hea⟩, fun b hb => ?_⟩
    · have e1 : ((i + 1 : Nat) : Int) = (i : Int) + 1 := by omega
      rw [e1]; exact he'
    · have hb' : b < s.heap.objs.size := by
        have e' : b = e ∨ b = it := by simpa using hb
        rcases e' with z | z
        · rw [z]; exact hel
        · rw [z]; exact hil
      rw [upd_ne (Nat.ne_of_lt hb')]
      exact (hf b hb).1
  done := by
    intro X hP hw hK hc i pins s σ H E I hf st hg
    subst hP hw hK
    obtain ⟨⟨old, he⟩, hit, hne, hia, hea⟩ := st
    obtain ⟨xs, hq, hx⟩ := hg
    obtain ⟨its, rv, p, hz⟩ := I.tuple hq
    obtain ⟨f0, f1, f2, f3, f4, f5⟩ := hf it (by simp)
    have hl := rv.length
    have hT : s.TypeIs (.ref e) "enumerate" := ⟨_, he, rfl⟩
    unfold pyNext
    refine wpAny_bind (wpAny_attempt (wpAny_callSpecial?_slot (name := Str.ofString "__next__") hT F.slot_enumerate_next
      (wpAny_call_entry F.slot_enumerate_next hT F.entry_enumerate_next ?_ (F.args_enumerate_next_1 _))))
    show wpAny _ _ (field (.ref e) 2 >>= _) _ _ _
    refine wpAny_bind (wpAny_field he rfl (x := .ref it) rfl ?_)
    refine wpAny_bind (wpAny_nextOf_tuple_end (A := X.A.in1) (I.ok.hd hc) hit (show s.heap.IsTuple a its.toArray from p) (by simp; omega) fun h' x he' hx' => ?_)
    obtain ⟨o, ho, hco⟩ := hx'
    refine wpAny_bind (wpAny_isInstance (T := "StopIteration") (b := true) ⟨o, ho, hco⟩ isSubtype_stop ?_)
    exact wpAny_pure ⟨rfl, I.turned (t' := s.toks) (fun b o hb q => he' b o hb q) f0 f1 f3 f4 f5⟩
  self := fun A i s Q E st h => let ⟨⟨_, he⟩, _⟩ := st; wpAny_pyIter_enum he h
def iEnumT (K : PySem.W.Frag) (ta : TA) : TI := fun σ H R => ta σ H fun vs H1 => ∃ a xs, vs = [.ref a] ∧ SqT K H1 a xs ∧ R (IteT K a) H1
theorem pi_enumT {X : Cx} {e : Expr} {ta : TA} {p pos tpos : Pos} {elts : List Expr} {kk : Nat} (hg : Gl X "enumerate") (hm : X.mg "enumerate" = none) (ha : PA X [e] ta) (hs : starEach [e] X.env = [(false, eval e X.env)] := by rfl) :
    PI X (.Tuple elts kk tpos) (.Call (.Name "enumerate" p) [e] [] pos) (iEnumT X.K ta) := by
  refine ⟨fun pins s σ H R I h => ?_⟩
  refine Call_ (ld_blt I hg hm boot_enumerate (PyProof.Rows.callWith_type1 (thn (ha.run pos pins s σ H _ I h) fun us s1 ⟨vs, H1, I1, r1, q1⟩ => ?_) hs rfl))
  obtain ⟨a, xs, ex, hq, q⟩ := q1
  subst ex
  cases r1 with
  | cons r rr =>
    cases rr
    cases r
    obtain ⟨its, rv, p', hz⟩ := I1.tuple hq
    have hal : a < s1.heap.objs.size := by obtain ⟨o, ho, _⟩ := (show s1.heap.IsTuple a its.toArray from p'); exact Heap.lt_size ho
    refine call_tuple (show s1.heap.IsTuple a its.toArray from p') fun h' he hit hsz hk => wpAny_pyIter_enum he ?_
    have I2 : Inv X pins σ H1 { s1 with heap := h' } := I1.kept (t' := s1.toks) hk
    refine ⟨s1.heap.objs.size + 1, [s1.heap.objs.size + 1, s1.heap.objs.size], _, _, H1, rfl, I2, turn_enumT a (s1.heap.objs.size + 1) s1.heap.objs.size, ⟨⟨.none, he⟩, hit, Nat.succ_ne_self _, Nat.ne_of_gt hal, Nat.ne_of_gt (Nat.lt_succ_of_lt hal)⟩, fun b hb => ?_, q⟩
    have e' : b = s1.heap.objs.size + 1 ∨ b = s1.heap.objs.size := by simpa using hb
    have hle : s1.heap.objs.size ≤ b := by
      rcases e' with z | z
      · rw [z]; exact Nat.le_add_right _ _
      · rw [z]; exact Nat.le_refl _
    exact I1.fpOk hle (I1.hok.fresh hle)
end EN

set_option Elab.async false
set_option linter.all false
set_option maxRecDepth 100000
set_option maxHeartbeats 4000000
namespace KS.La
open PySem PySem.Spec PyProof.Rows L2
abbrev lAreKeys : Stmt := top 41
abbrev lIsNode : Stmt := top 43
section
variable {X : Cx}
def rInTD (K : PySem.W.Frag) : R2 := fun x y H Q => ∃ d ds, Dp K H x d ∧ Dp K H y (.tuple ds) ∧ SeqAt.shaped d = true ∧ SeqAt.shaped (.tuple ds) = true ∧ Q (.bl (ds.any fun z => PyData.eqv z d)) H
theorem op_inTD (hu : X.A.units + 65 < cLine) : OpR X (compareOp .In) (rInTD X.K) := by
  intro pins s σ H x y v u Q I rx ry h
  obtain ⟨d, ds, hd, he, sd, se, q⟩ := h
  obtain ⟨as, r1⟩ := Dp.reads I d x v hd rx
  obtain ⟨bs, r2⟩ := Dp.reads I (.tuple ds) y u he ry
  refine SeqAt.in_tuple_reads r2 r1 (SeqAt.canLay_of_shaped se) (SeqAt.canLay_of_shaped sd) ?_ ⟨.bl _, H, I, rfl, q⟩
  have h1 := SeqAt.depth_of_shaped sd
  have h2 : min (PyData.depthAll ds) d.depth ≤ d.depth := Nat.min_le_right _ _
  omega
end
theorem dpTake {K : PySem.W.Frag} {H : Hp} : ∀ {xs : List V} {ds : List PyData}, DpAll K H xs ds → ∀ k, DpAll K H (xs.take k) (ds.take k)
  | _, _, .nil, k => by rw [List.take_nil, List.take_nil]; exact .nil
  | _, _, .cons h r, 0 => .nil
  | _, _, .cons h r, k + 1 => .cons h (dpTake r k)
theorem dpCat {K : PySem.W.Frag} {H : Hp} {ys : List V} {es : List PyData} (hy : DpAll K H ys es) : ∀ {xs : List V} {ds : List PyData}, DpAll K H xs ds → DpAll K H (xs ++ ys) (ds ++ es)
  | _, _, .nil => hy
  | _, _, .cons h r => .cons h (dpCat hy r)
theorem eqvStr (d : PyData) (z : Str) : PyData.eqv d (.str z) = true ↔ d = .str z := by
  cases d <;> simp [PyData.eqv]
theorem eqvKy {x y : PyData} (hx : isKy x = true) (hy : isKy y = true) : PyData.eqv x y = true ↔ namesOf x = namesOf y := by
  obtain ⟨a, b, rfl⟩ := kyShape hx
  obtain ⟨c, d, rfl⟩ := kyShape hy
  simp [PyData.eqv, PyData.eqvAll, namesOf]
/-- each is new, or none is there twice -/
theorem newAll (ds : List PyData) (hk : ds.all isKy = true) : (∀ i, i < ds.length → ((ds.take i).any fun z => PyData.eqv z (ds.getD i .none)) = false) ↔ (ds.map namesOf).Nodup := by
  have key : ∀ {i : Nat} (h : i < ds.length), isKy ds[i] = true := fun h => List.all_eq_true.mp hk _ (List.getElem_mem h)
  rw [List.nodup_iff_pairwise_ne, List.pairwise_iff_getElem]
  simp only [List.length_map, List.getElem_map]
  constructor
  · intro h i j hi hj hij e
    have h1 := h j hj
    rw [List.any_eq_false] at h1
    refine h1 ds[i] ?_ ?_
    · rw [List.mem_take_iff_getElem]
      exact ⟨i, by omega, rfl⟩
    · rw [List.getD_eq_getElem?_getD, List.getElem?_eq_getElem hj]
      exact (eqvKy (key hi) (key hj)).mpr e
  · intro h j hj
    rw [List.any_eq_false]
    intro z hz e
    obtain ⟨i, hi, rfl⟩ := List.mem_take_iff_getElem.mp hz
    rw [List.getD_eq_getElem?_getD, List.getElem?_eq_getElem hj] at e
    have hi' : i < j := by omega
    exact h i j (by omega) hj hi' ((eqvKy (key (by omega)) (key hj)).mp e)
def keyOk (ds : List PyData) (i : Nat) : Bool := isKy (ds.getD i .none) && !((ds.take i).any fun z => PyData.eqv z (ds.getD i .none))
theorem areKyIff {ds : List PyData} (h1 : 1 ≤ ds.length) (h2 : ds.length ≤ 4) : areKy (.tuple ds) = true ↔ ∀ i, i < ds.length → keyOk ds i = true := by
  have ha : areKy (.tuple ds) = (decide (1 ≤ ds.length) && (decide (ds.length ≤ 4) && (ds.all isKy && decide ((ds.map namesOf).Nodup)))) := rfl
  rw [ha, decide_eq_true h1, decide_eq_true h2, Bool.true_and, Bool.true_and, Bool.and_eq_true, decide_eq_true_eq]
  constructor
  · rintro ⟨hk, hn⟩ i hi
    unfold keyOk
    rw [(newAll ds hk).mpr hn i hi]
    rw [List.getD_eq_getElem?_getD, List.getElem?_eq_getElem hi]
    rw [show isKy ((some ds[i]).getD .none) = isKy ds[i] from rfl, List.all_eq_true.mp hk _ (List.getElem_mem hi)]
    rfl
  · intro h
    have hk : ds.all isKy = true := by
      rw [List.all_eq_true]
      intro x hx
      obtain ⟨i, hi, rfl⟩ := List.getElem_of_mem hx
      have := h i hi
      unfold keyOk at this
      rw [Bool.and_eq_true, List.getD_eq_getElem?_getD, List.getElem?_eq_getElem hi] at this
      exact this.1
    refine ⟨hk, (newAll ds hk).mp fun i hi => ?_⟩
    have := h i hi
    unfold keyOk at this
    rw [Bool.and_eq_true, Bool.not_eq_true'] at this
    exact this.2
section
variable {P : Program} {w : World} {K : PySem.W.Frag} {mg : Str → Option Value} {base : Heap} {f : Addr} {fd : FuncData}
theorem scAre : FnScope ["_law_value", "_law_k", "_law_key"] ["_law_value"] (defScope lAreKeys) := ⟨rfl, rfl, rfl, by decide +kernel, rfl, by decide +kernel, by decide +kernel⟩
theorem okAreKeys {k n : Nat} (hn : n ≤ 60) (F : FnP K "_law_are_keys" lAreKeys f fd) (B : Bn mg) (me : mg "enumerate" = none) (Wd : ∀ n, Has P w K mg base (k + 1) "_law_is_word" ["_law_value"] (spIs K n isNm)) : FnOk P w K mg base CX0 (k + 2) f fd ["_law_value"] (spIs K n areKy) := by
  refine F.ok scAre (fun vs H Q E h => ?_) (fun cdv A outer s H vs Q E hr h => ?_)
  · obtain ⟨v, d, rfl, _⟩ := h
    rfl
  · obtain ⟨v, d, rfl, hd, od, q⟩ := h
    obtain ⟨fN, fdN, gN, kN, bN, GN⟩ := (Wd 60).ex
    have hu65 : (A.deeper (envOfC "_law_are_keys" (defScope lAreKeys) s.heap.objs.size f cdv)).units + 65 < cLine := by
      have := hr.un
      omega
    refine ⟨_, PSs.nox (pss_cons (ps_if (PW.pt (pw_or (pt_not (pt_val (pe_callB call_isi (by rfl) B.isi (by decide +kernel) (pa_cons (pv 0) (pa_cons (pe_bltn (v := .ty "tuple") (by rfl) B.tuple (by decide +kernel) rfl) pa_nil)))))
        (pw_or1 (pt_not (pt_chain op_lt op_lt pe_int (pe_callB call_len_seq (by rfl) B.len PySem.boot_len (pa_cons (pv 0) pa_nil)) pe_int))))) (pss_one (ps_ret pe_bl)) pss_nil) (pss_cons (ps_for PassesOwn.never rfl (EN.pi_enumT (by rfl) me (pa_cons (pv 0) pa_nil)) (pg_tup rfl (pgs_cons (pg_name (i := 1) scAre.nd rfl (.inl rfl)) (pgs_cons (pg_name (i := 2) scAre.nd rfl (.inl rfl)) pgs_nil)))
        (pss_cons (ps_if (PW.pt (pw_or (pt_not (pt_val (pe_callB call_isi (by rfl) B.isi (by decide +kernel) (pa_cons (pv 2) (pa_cons (pe_bltn (v := .ty "tuple") (by rfl) B.tuple (by decide +kernel) rfl) pa_nil)))))
          (pw_or (pt_cmpR op_ne (pe_callB call_len_seq (by rfl) B.len PySem.boot_len (pa_cons (pv 2) pa_nil)) pe_int (nomark _))
          (pw_or1 (pt_cmpR (r := rInTD K) (op_inTD hu65) (pv 2) (pe_slice (r := rSlT K) sl_tup (pv 0) po_none (po_some (pv 1))) (by rfl)))))) (pss_one (ps_ret pe_bl)) pss_nil) (pss_one (ps_if (PW.pt (pw_or (pt_not (pt_val (pe_call GN hr (by rfl) gN kN bN .nil pass0 (pa_cons (pe_ix ix_tup (pv 2) pe_int (fun _ _ => rfl)) pa_nil))))
          (pw_or1 (pt_not (pt_val (pe_call GN hr (by rfl) gN kN bN .nil pass0 (pa_cons (pe_ix ix_tup (pv 2) pe_int (fun _ _ => rfl)) pa_nil))))))) (pss_one (ps_ret pe_bl)) pss_nil)))) (pss_one (ps_ret pe_bl)))), ?_⟩
    refine ⟨v, rfl, v, .ty "tuple", _, _, _, rfl, .ty _, dpTy hd, dpKit hd (.inl rfl), _, rfl, ?_⟩
    cases od with
    | @tup n ds hl hod =>
      cases hd with
      | @tup a xs _ hx hds =>
        have el := dpLen hds
        have hq : ∀ H', Same H H' → ∀ b, areKy (.tuple ds) = b → Q (.bl b) H' := fun H' s' b e => e ▸ q H' s'
        refine iteF ⟨.ref a, rfl, a, xs, rfl, .inr hx, _, _, rfl, rfl, _, rfl, ?_⟩
        by_cases h1 : 1 ≤ ds.length
        · rw [if_pos (decide_eq_true (by omega : (0 : Int) < (xs.length : Int)))]
          refine ⟨_, _, rfl, rfl, _, rfl, ?_⟩
          by_cases h2 : ds.length ≤ 4
          · rw [decide_eq_true (by omega : (xs.length : Int) < 5)]
            refine iteF ⟨.ref a, rfl, a, xs, rfl, hx, ?_⟩
            have hfail : ∀ i, i < ds.length → keyOk ds i = false → ∀ H', Same H H' → Q (.bl false) H' := fun i hi hk H' s' => hq H' s' _ (by
              cases e : areKy (.tuple ds) with
              | false => rfl
              | true => rw [(areKyIff h1 h2).mp e i hi] at hk; cases hk)
            refine forJ (n := xs.length) (fun i σ' H' => ∃ t u, σ' = [some (.ref a), t, u] ∧ Same H H' ∧ ∀ j, j < i → keyOk ds j = true) ⟨none, none, rfl, Same.refl _, fun j hj => absurd hj (Nat.not_lt_zero _)⟩
              (fun i σ' H' lt h => ⟨xs, xs[i], sameTup h.choose_spec.choose_spec.2.1 hx, List.getElem?_eq_getElem lt⟩) (fun σ' H' h => ⟨xs, sameTup h.choose_spec.choose_spec.2.1 hx, Nat.le_refl _⟩) (fun i σ' H3 x H4 lt h y => ?_) (fun σ' H' h => ?_)
            · obtain ⟨t, u, rfl, s3, hk⟩ := h
              obtain ⟨T, x1, rfl, nT, rfl, fx⟩ := y
              have g1 := fx _ (sameTup s3 hx)
              have lt2 : i < ds.length := by omega
              have e2 : ds[i]? = some ds[i] := List.getElem?_eq_getElem lt2
              obtain ⟨x2, g3, hd1⟩ := dpAt hds e2
              obtain rfl : x2 = x1 := Option.some.inj (g3.symm.trans g1)
              refine ⟨T, _, rfl, .inl (.inl upd_same), rfl, _, _, rfl, _, _, rfl, rfl, ?_⟩
              have s4 : Same H (upd H3 T (.tup [.int (i : Nat), x2])) := s3.trans (sameUpd nT)
              generalize upd H3 T (.tup [.int (i : Nat), x2]) = H4 at s4 ⊢
              have hd4 := dpSame s4 _ _ hd1
              have od1 := hod _ (List.getElem_mem lt2)
              have hge : ds.getD i .none = ds[i] := by rw [List.getD_eq_getElem?_getD, e2]; rfl
              have hko : keyOk ds i = (isKy ds[i] && !((ds.take i).any fun z => PyData.eqv z ds[i])) := by unfold keyOk; rw [hge]
              have hf := hfail i lt2
              have osh := (od1.up (m := 60) (by omega)).shaped (by omega)
              have otk : SeqAt.shaped (.tuple (ds.take i)) = true := (Od.tup (n := 60) (by rw [List.length_take]; omega) fun d hd => (hod d (List.mem_of_mem_take hd)).up (by omega)).shaped (by omega)
              generalize ds[i] = d1 at *
              have hno : isKy d1 = false → keyOk ds i = false := fun z => by rw [hko, z, Bool.false_and]
              refine ⟨x2, rfl, x2, .ty "tuple", _, _, _, rfl, .ty _, dpTy hd4, dpKit hd4 (.inl rfl), _, rfl, ?_⟩
              cases od1 with
              | @tup n es hle hoe =>
                cases hd4 with
                | @tup b ys _ hy hes =>
                  have ele := dpLen hes
                  refine iteF ⟨.ref b, rfl, b, ys, rfl, .inr hy, rfl, _, rfl, ?_⟩
                  rw [dInt]
                  by_cases e4 : ys.length = 2
                  · rw [decide_eq_true (by omega : (ys.length : Int) = 2)]
                    refine iteF ?_
                    refine ⟨.ref b, rfl, .ref a, rfl, .int i, rfl, (i : Int), rfl, a, xs, rfl, sameTup s4 hx, ?_, fun p2 hp2 => ?_⟩
                    · rw [HT.sIx_nat]
                      rintro ⟨_, h9⟩
                      omega
                    · have s6 := sameUpd (o := .tup (cutV xs none (some (i : Int)))) hp2
                      have hcut : cutV xs none (some (i : Int)) = xs.take i := by
                        unfold cutV
                        rw [HT.sIx_nat, HT.sIx_none, List.drop_zero, Nat.sub_zero, Nat.min_eq_left (by omega)]
                      have sC := s4.trans s6
                      refine ⟨.tuple es, ds.take i, .tup (sameTup s6 hy) (dpAllSame s6 _ _ hes), .tup (.inl (.inl ?_)) (dpTake (dpAllSame sC _ _ hds) i), osh, otk, _, rfl, ?_⟩
                      · rw [← hcut]
                        exact upd_same
                      have hy6 := sameTup s6 hy
                      have hes6 := dpAllSame s6 _ _ hes
                      generalize upd H4 p2 (.tup (cutV xs none (some (i : Int)))) = H6 at sC hy6 hes6 ⊢
                      refine ite2 (fun e => hf (by rw [hko, e]; simp) H6 sC) (fun e => ?_)
                      rw [Bool.eq_false_iff.mpr e] at hko
                      match ys, es, hes6, ele, e4 with
                      | [y0, y1], [f0, f1], .cons h0 (.cons h1 .nil), _, _ =>
                        have o0 := (hoe f0 (by simp)).up (m := 60) (by omega)
                        have o1 := (hoe f1 (by simp)).up (m := 60) (by omega)
                        have hk2 : keyOk ds i = (isNm f0 && isNm f1) := by rw [hko, Bool.not_false, Bool.and_true]; rfl
                        refine ⟨.ref b, rfl, b, _, 0, y0, rfl, rfl, hy6, atI_nat (j := 0) rfl, y0, f0, rfl, h0, o0, fun H7 s7 => ⟨_, rfl, ?_⟩⟩
                        cases c0 : isNm f0 with
                        | false => exact iteT (hf (by rw [hk2, c0]; rfl) H7 (sC.trans s7))
                        | true =>
                          refine iteF ⟨.ref b, rfl, b, _, 1, y1, rfl, rfl, sameTup s7 hy6, atI_nat (j := 1) rfl, y1, f1, rfl, dpSame s7 _ _ h1, o1, fun H8 s8 => ⟨_, rfl, ?_⟩⟩
                          cases c1 : isNm f1 with
                          | false => exact iteT (hf (by rw [hk2, c0, c1]; rfl) H8 ((sC.trans s7).trans s8))
                          | true =>
                            refine iteF ⟨_, _, rfl, (sC.trans s7).trans s8, fun j hj => ?_⟩
                            rcases Nat.lt_succ_iff_lt_or_eq.mp hj with z | z
                            · exact hk j z
                            · rw [z, hk2, c0, c1]; rfl
                  · rw [decide_eq_false (by omega : ¬ (ys.length : Int) = 2)]
                    refine iteT (hf (hno ?_) H4 s4)
                    match es, ele with
                    | [], _ => rfl
                    | [_], _ => rfl
                    | [_, _], el => exact absurd el e4
                    | _ :: _ :: _ :: _, _ => rfl
              | non => exact iteT (hf (hno rfl) H4 s4)
              | bl => exact iteT (hf (hno rfl) H4 s4)
              | int => exact iteT (hf (hno rfl) H4 s4)
              | str => exact iteT (hf (hno rfl) H4 s4)
            · obtain ⟨t, u, rfl, s3, hk⟩ := h
              exact hq H' s3 _ ((areKyIff h1 h2).mpr fun i hi => hk i (by omega))
          · rw [decide_eq_false (by omega : ¬ (xs.length : Int) < 5)]
            exact iteT (hq H (Same.refl H) _ (by show (decide (1 ≤ ds.length) && (decide (ds.length ≤ 4) && _)) = _; rw [decide_eq_false h2, Bool.false_and, Bool.and_false]))
        · rw [if_neg (by rw [decide_eq_true_eq]; omega)]
          exact ⟨_, rfl, iteT (hq H (Same.refl H) _ (by show (decide (1 ≤ ds.length) && _) = _; rw [decide_eq_false h1, Bool.false_and]))⟩
    | non => exact iteT (q H (Same.refl H))
    | bl => exact iteT (q H (Same.refl H))
    | int => exact iteT (q H (Same.refl H))
    | str => exact iteT (q H (Same.refl H))
end
end KS.La

set_option Elab.async false
set_option linter.all false
set_option maxRecDepth 100000
set_option maxHeartbeats 4000000
namespace KS.La
open PySem PySem.Spec PyProof.Rows L2
def spNodeL (K : PySem.W.Frag) (n : Nat) : Sp := fun vs H Q _ => ∃ v wv d ws, vs = [v, wv] ∧ Dp K H v d ∧ Od n d ∧ Td d ∧ Dp K H wv (.list ws) ∧ SeqAt.shaped (.list ws) = true ∧ ∀ H', Same H H' → Q (.bl (isNd ws d)) H'
theorem ndFlat (ws : List PyData) (d0 : PyData) (dr : List PyData) (h : dr.length ≠ 3) : isNd ws (.tuple (d0 :: dr)) = (isWord "stop" d0 && dr.isEmpty) := by
  match dr, h with
  | [], _ => rfl
  | [_], _ => rfl
  | [_, _], _ => rfl
  | [_, _, _], h => exact absurd rfl h
  | _ :: _ :: _ :: _ :: _, _ => rfl
theorem ndFour (ws : List PyData) (d0 d1 d2 d3 : PyData) : isNd ws (.tuple [d0, d1, d2, d3]) = if isWord "write" d0 then isNm d1 && (!(ws.any fun z => PyData.eqv z d1) && arePt d2) else isWord "read" d0 && (areKy d1 && areCs (lenD d1) d2) := rfl
theorem wordNo {t : Str} {d : PyData} (h : ∀ z, d ≠ .str z) : isWord t d = false := by
  cases e : isWord t d with
  | false => rfl
  | true => exact absurd ((eqvStr d t).mp e) (h t)
theorem ndNoStr (ws : List PyData) (d0 : PyData) (dr : List PyData) (h : ∀ z, d0 ≠ .str z) : isNd ws (.tuple (d0 :: dr)) = false := by
  by_cases h3 : dr.length = 3
  · match dr, h3 with
    | [a, b, c], _ =>
      rw [ndFour, wordNo h, wordNo h]
      rfl
  · rw [ndFlat ws d0 dr h3, wordNo h]
    rfl
theorem wordEq {t z : Str} (h : isWord t (.str z) = true) : z = t := by
  have := (eqvStr (.str z) t).mp h
  injection this
theorem wordIn (z : Str) : ([PyData.str "write", .str "read"].any fun y => PyData.eqv y (.str z)) = (isWord "write" (.str z) || isWord "read" (.str z)) := by
  have e : ∀ t : Str, PyData.eqv (.str t) (.str z) = isWord t (.str z) := fun t => by
    rw [Bool.eq_iff_iff]
    constructor
    · intro h
      have := (eqvStr (.str t) z).mp h
      injection this with this
      rw [this]
      exact (eqvStr _ _).mpr rfl
    · intro h
      rw [wordEq h]
      exact (eqvStr _ _).mpr rfl
  simp only [List.any_cons, List.any_nil, Bool.or_false, e]
section
variable {P : Program} {w : World} {K : PySem.W.Frag} {mg : Str → Option Value} {base : Heap} {f : Addr} {fd : FuncData}
abbrev nNodeL : List Str := ["_law_node", "_law_written", "_law_p", "_law_case"]
theorem scNodeL : FnScope nNodeL ["_law_node", "_law_written"] (defScope lIsNode) := ⟨rfl, rfl, rfl, by decide +kernel, rfl, by decide +kernel, by decide +kernel⟩
theorem okNodeL {k n : Nat} (hn : n ≤ 60) (F : FnP K "_law_is_node" lIsNode f fd) (B : Bn mg) (Wd : ∀ n, Has P w K mg base (k + 3) "_law_is_word" ["_law_value"] (spIs K n isNm)) (Pt : ∀ n, Has P w K mg base (k + 3) "_law_is_part" ["_law_value"] (spIt K n isPt))
    (Ky : Has P w K mg base (k + 3) "_law_are_keys" ["_law_value"] (spIs K 60 areKy)) (Cs : ∀ n, Has P w K mg base (k + 3) "_law_is_case" ["_law_value", "_law_many"] (spCase K n)) : FnOk P w K mg base CX0 (k + 4) f fd ["_law_node", "_law_written"] (spNodeL K n) := by
  refine F.ok scNodeL (fun vs H Q E h => ?_) (fun cdv A outer s H vs Q E hr h => ?_)
  · obtain ⟨v, wv, d, ws, rfl, _⟩ := h
    rfl
  · obtain ⟨v, wv, d, ws, rfl, hd, od, td, hw, hws, q⟩ := h
    obtain ⟨fN, fdN, gN, kN, bN, GN⟩ := (Wd 60).ex
    obtain ⟨fP, fdP, gP, kP, bP, GP⟩ := (Pt 60).ex
    obtain ⟨fK, fdK, gK, kK, bK, GK⟩ := Ky.ex
    obtain ⟨fC, fdC, gC, kC, bC, GC⟩ := (Cs 60).ex
    have hu65 : (A.deeper (envOfC "_law_is_node" (defScope lIsNode) s.heap.objs.size f cdv)).units + 65 < cLine := by
      have := hr.un
      omega
    refine ⟨_, PSs.nox (pss_cons (ps_if (PW.pt (pw_or (pt_not (pt_val (pe_callB call_isi (by rfl) B.isi (by decide +kernel) (pa_cons (pv 0) (pa_cons (pe_bltn (v := .ty "tuple") (by rfl) B.tuple (by decide +kernel) rfl) pa_nil)))))
        (pw_or (pt_cmpR (op_eqD hr.units) (pv 0) (pe_tup pa_nil) (nomark _)) (pw_or1 (pt_not (pt_val (pe_callB call_isi (by rfl) B.isi (by decide +kernel) (pa_cons (pe_ix ix_tup (pv 0) pe_int (fun _ _ => rfl)) (pa_cons (pe_bltn (v := .ty "str") (by rfl) B.str (by decide +kernel) rfl) pa_nil))))))))) (pss_one (ps_ret pe_bl)) pss_nil) (pss_cons (ps_if (pt_cmpR (op_eqD hr.units) (pe_ix ix_tup (pv 0) pe_int (fun _ _ => rfl)) pe_str (nomark _)) (pss_one (ps_ret (pe_cmpR op_eq (pe_callB call_len_seq (by rfl) B.len PySem.boot_len (pa_cons (pv 0) pa_nil)) pe_int (nomark _)))) pss_nil) (pss_cons (ps_if (PW.pt (pw_or (pt_cmpR op_ne (pe_callB call_len_seq (by rfl) B.len PySem.boot_len (pa_cons (pv 0) pa_nil)) pe_int (nomark _))
        (pw_or (pt_cmpR (r := rNotInTD K) (op_notInTD hu65) (pe_ix ix_tup (pv 0) pe_int (fun _ _ => rfl)) (pe_tup (pa_cons (pe_str) (pa_cons (pe_str) pa_nil))) (by rfl))
        (pw_or1 (pt_not (pt_val (pe_callB call_isi (by rfl) B.isi (by decide +kernel) (pa_cons (pe_ix ix_tup (pv 0) pe_int (fun _ _ => rfl)) (pa_cons (pe_bltn (v := .ty "tuple") (by rfl) B.tuple (by decide +kernel) rfl) pa_nil))))))))) (pss_one (ps_ret pe_bl)) pss_nil) (pss_cons (ps_if (pt_cmpR (op_eqD hr.units) (pe_ix ix_tup (pv 0) pe_int (fun _ _ => rfl)) pe_str (nomark _))
        (pss_one (ps_ret (pe_and (pe_call GN hr (by rfl) gN kN bN .nil pass0 (pa_cons (pe_ix ix_tup (pv 0) pe_int (fun _ _ => rfl)) pa_nil)) (pe_and (pe_cmpR (r := rNotInD K) (op_notInD hu65) (pe_ix ix_tup (pv 0) pe_int (fun _ _ => rfl)) (pv 1) (by rfl))
          (pe_one (pe_cmpR (op_eqD hr.units) (pe_lc (own := [("_law_p", 2)]) (g := gName 2) rfl scNodeL.nd (pi_tup (pe_ix ix_tup (pv 0) pe_int (fun _ _ => rfl))) (blkOk_by (N := nNodeL) (sc := defScope lIsNode) (by decide +kernel))
            (fun _ _ _ _ _ => pg_name (i := 2) scNodeL.nd rfl (.inl rfl) (hf := .inr rfl)) (fun _ _ _ _ _ => pts_one (pt_not (pt_val (pe_call GP hr (by rfl) gP kP bP .nil pass0 (pa_cons (pv 2) pa_nil))))) (fun _ _ _ _ _ => pe_int)) (pe_lst pa_nil) (nomark _))))))) pss_nil) (pss_one (ps_ret (pe_and (pe_call GK hr (by rfl) gK kK bK .nil pass0 (pa_cons (pe_ix ix_tup (pv 0) pe_int (fun _ _ => rfl)) pa_nil))
          (pe_one (pe_cmpR (op_eqD hr.units) (pe_lc (own := [("_law_case", 3)]) (g := gName 3) rfl scNodeL.nd (pi_tup (pe_ix ix_tup (pv 0) pe_int (fun _ _ => rfl))) (blkOk_by (N := nNodeL) (sc := defScope lIsNode) (by decide +kernel))
            (fun _ _ _ _ _ => pg_name (i := 3) scNodeL.nd rfl (.inl rfl) (hf := .inr rfl)) (fun _ _ _ _ _ => pts_one (pt_not (pt_val (pe_call GC hr (by rfl) gC kC bC .nil pass0 (pa_cons (pv 3) (pa_cons (pe_callB (r := fun xs H Q => ∃ p ys, xs = [V.ref p] ∧ (SqL K H p ys ∨ SqT K H p ys) ∧ Q (V.int (ys.length : Nat)) H) call_len_seq (by rfl) B.len PySem.boot_len (pa_cons (pe_ix (r := rIxT K) ix_tup (pv 0) pe_int (fun _ _ => rfl)) pa_nil)) pa_nil)))))) (fun _ _ _ _ _ => pe_int)) (pe_lst pa_nil) (nomark _)))))))))), ?_⟩
    refine ⟨v, rfl, v, .ty "tuple", _, _, _, rfl, .ty _, dpTy hd, dpKit hd (.inl rfl), _, rfl, ?_⟩
    have osh := (od.up (m := 60) hn).shaped (by omega)
    cases od with
    | @tup n ds hl hod =>
      cases hd with
      | @tup a xs _ hx hds =>
        have hq : ∀ H', Same H H' → ∀ b, isNd ws (.tuple ds) = b → Q (.bl b) H' := fun H' s' b e => e ▸ q H' s'
        have htd : ∀ d ∈ ds, Td d := by
          cases td with
          | tup h => exact h
        refine iteF ⟨.ref a, rfl, (by show 0 ≤ sizeLine; exact Nat.zero_le _), fun p hp => ?_⟩
        have s1 : Same H (upd H p (.tup [])) := sameUpd hp
        refine ⟨.tuple ds, .tuple [], .tup (sameTup s1 hx) (dpAllSame s1 _ _ hds), .tup (.inl (.inl upd_same)) .nil, osh, rfl, _, rfl, ?_⟩
        generalize upd H p (.tup []) = H1 at s1 ⊢
        cases hds with
        | nil => exact iteT (hq H1 s1 _ rfl)
        | @cons x0 xr d0 dr h0 hr0 =>
          have o0 := (hod d0 (by simp)).up (m := 60) (by omega)
          have hx1 := sameTup s1 hx
          have h01 := dpSame s1 _ _ h0
          have hw1 := dpSame s1 _ _ hw
          have hr1 := dpAllSame s1 _ _ hr0
          refine iteF ⟨.ref a, rfl, a, _, 0, x0, rfl, rfl, hx1, atI_nat (j := 0) rfl, x0, .ty "str", _, _, _, rfl, .ty _, dpTy h01, dpKit h01 (.inr (.inl rfl)), _, rfl, ?_⟩
          cases d0 with
          | str z =>
            refine iteF ⟨.ref a, rfl, a, _, 0, x0, rfl, rfl, hx1, atI_nat (j := 0) rfl, .str z, .str "stop", h01, .str _, o0.shaped (by omega), by decide +kernel, _, rfl, ite2 (fun e => ?_) (fun e => ?_)⟩
            · have el := dpLen hr1
              refine ⟨.ref a, rfl, a, _, rfl, .inr hx1, rfl, ?_⟩
              rw [dInt]
              refine hq H1 s1 _ ?_
              obtain rfl := wordEq e
              by_cases h3 : dr.length = 3
              · match dr, h3 with
                | [a, b, c], _ =>
                  rw [ndFour, decide_eq_false (by rw [List.length_cons, el]; simp)]
                  rfl
              · rw [ndFlat _ _ _ h3, show isWord "stop" (.str "stop") = true from e, Bool.true_and]
                cases dr with
                | nil => rw [decide_eq_true (by rw [List.length_cons, el]; rfl)]; rfl
                | cons y ys => rw [decide_eq_false (by rw [List.length_cons, el, List.length_cons]; omega)]; rfl
            · have e0 : isWord "stop" (.str z) = false := Bool.eq_false_iff.mpr e
              have el := dpLen hr1
              refine ⟨.ref a, rfl, a, _, rfl, .inr hx1, rfl, _, rfl, ?_⟩
              rw [dInt]
              by_cases h3 : xr.length = 3
              · rw [decide_eq_true (by rw [List.length_cons, h3]; rfl : ((x0 :: xr).length : Int) = 4)]
                refine iteF ?_
                match xr, dr, hr1, el, h3 with
                | [x1, x2, x3], [d1, d2, d3], .cons h1 (.cons h2 (.cons h3 .nil)), _, _ =>
                  have o1 := (hod d1 (by simp)).up (m := 60) (by omega)
                  have o2 := (hod d2 (by simp)).up (m := 60) (by omega)
                  have t2 := htd d2 (by simp)
                  have hs := ndFour ws (.str z) d1 d2 d3
                  refine ⟨.ref a, rfl, a, _, 0, x0, rfl, rfl, hx1, atI_nat (j := 0) rfl, (by show 2 ≤ sizeLine; decide), fun p2 hp2 => ?_⟩
                  have s2 : Same H1 (upd H1 p2 (.tup [.str "write", .str "read"])) := sameUpd hp2
                  refine ⟨.str z, [.str "write", .str "read"], dpSame s2 _ _ h01, .tup (.inl (.inl upd_same)) (.cons (.str _) (.cons (.str _) .nil)), o0.shaped (by omega), by decide +kernel, _, rfl, ?_⟩
                  rw [wordIn]
                  have sA := s1.trans s2
                  have hx2 := sameTup s2 hx1
                  have h02 := dpSame s2 _ _ h01
                  have h12 := dpSame s2 _ _ h1
                  have h22 := dpSame s2 _ _ h2
                  have hw2 := dpSame s2 _ _ hw1
                  generalize upd H1 p2 (.tup [.str "write", .str "read"]) = H2 at sA hx2 h02 h12 h22 hw2 ⊢
                  clear s2
                  refine ite2 (fun c => hq H2 sA _ ?_) (fun c => ?_)
                  · rw [Bool.not_eq_true', Bool.or_eq_false_iff] at c
                    rw [hs, c.1, c.2]
                    rfl
                  refine ⟨.ref a, rfl, a, _, 2, x2, rfl, rfl, hx2, atI_nat (j := 2) rfl, x2, .ty "tuple", _, _, _, rfl, .ty _, dpTy h22, dpKit h22 (.inl rfl), _, rfl, ?_⟩
                  have notT : (∀ es, d2 ≠ .tuple es) → isNd ws (.tuple [.str z, d1, d2, d3]) = false := fun hne => by
                    rw [hs, show arePt d2 = false by cases d2 <;> first | rfl | exact absurd rfl (hne _), show areCs (lenD d1) d2 = false by cases d2 <;> first | rfl | exact absurd rfl (hne _)]
                    simp
                  cases o2 with
                  | @tup n es hle hoe =>
                    have hte : ∀ d ∈ es, Td d := by
                      cases t2 with
                      | tup h => exact h
                    cases h22 with
                    | @tup b ys _ hy hes =>
                      refine iteF ⟨.ref a, rfl, a, _, 0, x0, rfl, rfl, hx2, atI_nat (j := 0) rfl, .str z, .str "write", h02, .str _, o0.shaped (by omega), by decide +kernel, _, rfl, ite2 (fun e => ?_) (fun e => ?_)⟩
                      · rw [show isWord "write" (.str z) = true from e, if_pos rfl] at hs
                        refine ⟨.ref a, rfl, a, _, 1, x1, rfl, rfl, hx2, atI_nat (j := 1) rfl, x1, d1, rfl, h12, o1, fun H3 s3 => ⟨_, rfl, ite2 (fun c => ?_) (fun c => ?_)⟩⟩
                        · have hx3 := sameTup s3 hx2
                          refine ⟨.ref a, rfl, a, _, 1, x1, rfl, rfl, hx3, atI_nat (j := 1) rfl, wv, rfl, d1, ws, dpSame s3 _ _ h12, dpSame s3 _ _ hw2, o1.shaped (by omega), hws, _, rfl, ite2 (fun c2 => ?_) (fun c2 => ?_)⟩
                          · refine ⟨.ref a, rfl, a, _, 2, .ref b, rfl, rfl, hx3, atI_nat (j := 2) rfl, b, rfl, ⟨ys, sameTup s3 hy⟩, fun D hD => ?_⟩
                            refine lcSomeT (fun d => !isPt d) (sameTup s3 hy) (dpAllSame s3 _ _ hes) (by omega) hD (fun v => rfl) (fun v d H4 hm s4 hd4 => ⟨fun F hF => ?_, .int 1, .int 1, fun _ => .int _, .int _ _, fun R H5 hR => hR⟩) (fun H4 zs s4 e3 e4 es4 => ?_)
                            · exact ⟨v, rfl, v, d, rfl, hd4, (hoe d hm).up (by omega), hte d hm, fun H5 s5 => ⟨_, rfl, hF H5 s5⟩⟩
                            · refine ⟨(by show 0 ≤ sizeLine; exact Nat.zero_le _), fun p5 hp5 => ?_⟩
                              refine eqNil ((sameUpd hp5) _ _ e3) upd_same es4 (hq _ (((sA.trans s3).trans s4).trans (sameUpd hp5)) _ ?_)
                              rw [hs, c, c2, Bool.true_and, Bool.true_and, Bool.eq_iff_iff, decide_eq_true_eq, e4]
                              show es.all isPt = true ↔ _
                              rw [List.all_eq_true]
                              simp
                          · exact hq H3 (sA.trans s3) _ (by rw [hs, c, Bool.eq_false_iff.mpr c2]; rfl)
                        · exact hq H3 (sA.trans s3) _ (by rw [hs, Bool.eq_false_iff.mpr c, Bool.false_and])
                      · have e1 : isWord "write" (.str z) = false := Bool.eq_false_iff.mpr e
                        rw [e1, if_neg Bool.false_ne_true] at hs
                        have e2 : isWord "read" (.str z) = true := by
                          rw [e1, Bool.false_or] at c
                          simpa using c
                        rw [e2, Bool.true_and] at hs
                        refine ⟨.ref a, rfl, a, _, 1, x1, rfl, rfl, hx2, atI_nat (j := 1) rfl, x1, d1, rfl, h12, o1, fun H3 s3 => ⟨_, rfl, ite2 (fun c => ?_) (fun c => ?_)⟩⟩
                        · have h13 := dpSame s3 _ _ h12
                          have hx3 := sameTup s3 hx2
                          rw [c, Bool.true_and] at hs
                          cases d1 with
                          | tuple fs =>
                            cases h13 with
                            | @tup g gs _ hg hfs =>
                              have elf := dpLen hfs
                              obtain ⟨m1, m4⟩ : 1 ≤ fs.length ∧ fs.length ≤ 4 := by
                                have c3 : (decide (1 ≤ fs.length) && (decide (fs.length ≤ 4) && (fs.all isKy && decide ((fs.map namesOf).Nodup)))) = true := c
                                rw [Bool.and_eq_true, Bool.and_eq_true, decide_eq_true_eq, decide_eq_true_eq] at c3
                                exact ⟨c3.1, c3.2.1⟩
                              refine ⟨.ref a, rfl, a, _, 2, .ref b, rfl, rfl, hx3, atI_nat (j := 2) rfl, b, rfl, ⟨ys, sameTup s3 hy⟩, fun D hD => ?_⟩
                              refine lcSomeT (fun d => !isCs (fs.length : Int) d) (sameTup s3 hy) (dpAllSame s3 _ _ hes) (by omega) hD (fun v => rfl) (fun v d H4 hm s4 hd4 => ⟨fun F hF => ?_, .int 1, .int 1, fun _ => .int _, .int _ _, fun R H5 hR => hR⟩) (fun H4 zs s4 e3 e4 es4 => ?_)
                              · refine ⟨v, rfl, .ref a, rfl, a, _, 1, .ref g, rfl, rfl, sameTup s4 hx3, atI_nat (j := 1) rfl, g, gs, rfl, .inr (sameTup s4 hg), v, d, (gs.length : Int), rfl, by omega, by omega, hd4, (hoe d hm).up (by omega), hte d hm, fun H5 s5 => ⟨_, rfl, ?_⟩⟩
                                have := hF H5 s5
                                rw [← elf] at this
                                exact this
                              · refine ⟨(by show 0 ≤ sizeLine; exact Nat.zero_le _), fun p5 hp5 => ?_⟩
                                refine eqNil ((sameUpd hp5) _ _ e3) upd_same es4 (hq _ (((sA.trans s3).trans s4).trans (sameUpd hp5)) _ ?_)
                                rw [hs, Bool.eq_iff_iff, decide_eq_true_eq, e4]
                                show es.all (isCs (fs.length : Int)) = true ↔ _
                                rw [List.all_eq_true]
                                simp
                          | _ => exact absurd c (by simp [areKy])
                        · exact hq H3 (sA.trans s3) _ (by rw [hs, Bool.eq_false_iff.mpr c, Bool.false_and])
                  | non => exact iteT (hq H2 sA _ (notT fun _ z => by cases z))
                  | bl => exact iteT (hq H2 sA _ (notT fun _ z => by cases z))
                  | int => exact iteT (hq H2 sA _ (notT fun _ z => by cases z))
                  | str => exact iteT (hq H2 sA _ (notT fun _ z => by cases z))
              · rw [decide_eq_false (by rw [List.length_cons]; omega : ¬ ((x0 :: xr).length : Int) = 4)]
                exact iteT (hq H1 s1 _ (by rw [ndFlat _ _ _ (by omega), e0]; rfl))
          | _ => exact iteT (hq H1 s1 _ (ndNoStr _ _ _ fun _ z => by cases z))
    | non => exact iteT (q H (Same.refl H))
    | bl => exact iteT (q H (Same.refl H))
    | int => exact iteT (q H (Same.refl H))
    | str => exact iteT (q H (Same.refl H))
end
end KS.La

set_option Elab.async false
set_option linter.all false
set_option maxRecDepth 100000
set_option maxHeartbeats 4000000
namespace KS.La
open PySem PySem.Spec PyProof.Rows L2
abbrev lFirst : Stmt := top 44
/-! ### what the first fault is -/
def second : PyData → PyData
  | .tuple [_, x] => x
  | _ => .none
def caseNodes : PyData → List PyData
  | .tuple cs => cs.map second
  | _ => []
def inD : PyData → List PyData
  | .tuple [k, _, b, e] => if isWord "write" k then [e] else caseNodes b ++ [e]
  | _ => []
def wsD (ws : List PyData) : PyData → List PyData
  | .tuple [k, a, _, _] => if isWord "write" k then ws ++ [a] else ws
  | _ => ws
def firstSome (g : Nat → PyData → Option (List Nat)) : Nat → List PyData → Option (List Nat)
  | _, [] => none
  | i, d :: ds => match g i d with
    | some p => some p
    | none => firstSome g (i + 1) ds
def ff : Nat → List PyData → List Nat → PyData → Option (List Nat)
  | 0, ws, p, d => if isNd ws d then none else some p
  | n + 1, ws, p, d => if isNd ws d then firstSome (fun i e => ff n (wsD ws d) (p ++ [i]) e) 0 (inD d) else some p
theorem fsStep (g : Nat → PyData → Option (List Nat)) (l : List PyData) (i : Nat) (h : i < l.length) : firstSome g i (l.drop i) = match g i l[i] with
    | some p => some p
    | none => firstSome g (i + 1) (l.drop (i + 1)) := by
  rw [List.drop_eq_getElem_cons h]
  rfl
theorem ndShape {ws : List PyData} {d : PyData} (h : isNd ws d = true) : d = .tuple [.str "stop"] ∨ (∃ a b e, d = .tuple [.str "write", a, b, e] ∧ isNm a = true ∧ arePt b = true ∧ (ws.any fun z => PyData.eqv z a) = false) ∨ ∃ a b e, d = .tuple [.str "read", a, b, e] ∧ areKy a = true ∧ areCs (lenD a) b = true := by
  cases d with
  | tuple ds =>
    match ds with
    | [] => cases h
    | d0 :: dr =>
      by_cases h3 : dr.length = 3
      · match dr, h3 with
        | [a, b, c], _ =>
          rw [ndFour] at h
          cases e : isWord "write" d0 with
          | true =>
            rw [e, if_pos rfl, Bool.and_eq_true, Bool.and_eq_true, Bool.not_eq_true'] at h
            rw [(eqvStr _ _).mp e]
            exact .inr (.inl ⟨a, b, c, rfl, h.1, h.2.2, h.2.1⟩)
          | false =>
            rw [e, if_neg Bool.false_ne_true, Bool.and_eq_true, Bool.and_eq_true] at h
            rw [(eqvStr _ _).mp h.1]
            exact .inr (.inr ⟨a, b, c, rfl, h.2.1, h.2.2⟩)
      · rw [ndFlat _ _ _ h3, Bool.and_eq_true] at h
        rw [(eqvStr _ _).mp h.1]
        cases dr with
        | nil => exact .inl rfl
        | cons y ys => cases h.2
  | _ => cases h
theorem csShape {m : Int} {d : PyData} (h : isCs m d = true) : ∃ a x, d = .tuple [a, x] := by
  unfold isCs at h
  split at h
  · exact ⟨_, _, rfl⟩
  · cases h
theorem csTuple {m : Int} {b : PyData} (h : areCs m b = true) : ∃ cs, b = .tuple cs ∧ ∀ c ∈ cs, isCs m c = true := by
  cases b with
  | tuple cs => exact ⟨cs, rfl, fun c hc => List.all_eq_true.mp h c hc⟩
  | _ => cases h
/-- the nodes in a node are less deep -/
theorem inOd {ws : List PyData} {d : PyData} {n : Nat} (h : isNd ws d = true) (od : Od (n + 1) d) : ∀ e ∈ inD d, Od n e := by
  rcases ndShape h with rfl | ⟨a, b, c, rfl, _⟩ | ⟨a, b, c, rfl, _, hb⟩
  · exact fun e he => absurd he (by simp [inD])
  · cases od with
    | tup _ h2 =>
      intro e he
      have he' : e = c := by simpa [inD, show isWord "write" (.str "write") = true from by decide +kernel] using he
      rw [he']
      exact h2 c (by simp)
  · obtain ⟨cs, rfl, hcs⟩ := csTuple hb
    cases od with
    | tup _ h2 =>
      intro e he
      have he' : e ∈ cs.map second ++ [c] := by simpa [inD, caseNodes, show isWord "write" (.str "read") = false from by decide +kernel] using he
      rcases List.mem_append.mp he' with y | y
      · obtain ⟨x, hx, rfl⟩ := List.mem_map.mp y
        obtain ⟨a', x', rfl⟩ := csShape (hcs x hx)
        have o1 := h2 (.tuple cs) (by simp)
        cases o1 with
        | tup _ h3 =>
          have o2 := h3 _ hx
          cases o2 with
          | tup _ h4 => exact (h4 x' (by simp)).up (by omega)
      · rw [List.mem_singleton.mp y]
        exact h2 c (by simp)
theorem inTd {ws : List PyData} {d : PyData} (h : isNd ws d = true) (td : Td d) : ∀ e ∈ inD d, Td e := by
  rcases ndShape h with rfl | ⟨a, b, c, rfl, _⟩ | ⟨a, b, c, rfl, _, hb⟩
  · exact fun e he => absurd he (by simp [inD])
  · cases td with
    | tup h2 =>
      intro e he
      have he' : e = c := by simpa [inD, show isWord "write" (.str "write") = true from by decide +kernel] using he
      rw [he']
      exact h2 c (by simp)
  · obtain ⟨cs, rfl, hcs⟩ := csTuple hb
    cases td with
    | tup h2 =>
      intro e he
      have he' : e ∈ cs.map second ++ [c] := by simpa [inD, caseNodes, show isWord "write" (.str "read") = false from by decide +kernel] using he
      rcases List.mem_append.mp he' with y | y
      · obtain ⟨x, hx, rfl⟩ := List.mem_map.mp y
        obtain ⟨a', x', rfl⟩ := csShape (hcs x hx)
        have o1 := h2 (.tuple cs) (by simp)
        cases o1 with
        | tup h3 =>
          have o2 := h3 _ hx
          cases o2 with
          | tup h4 => exact h4 x' (by simp)
      · rw [List.mem_singleton.mp y]
        exact h2 c (by simp)
/-- names alone -/
def WsOk (ws : List PyData) : Prop := ∀ z ∈ ws, ∃ t, z = .str t ∧ SOk t
theorem WsOk.shapedL {ws : List PyData} (h : WsOk ws) : SeqAt.shaped (.list ws) = true := by
  obtain ⟨a, b⟩ := allLay (ds := ws) (n := 0) fun d hd => by
    obtain ⟨t, rfl, ht⟩ := h d hd
    exact ⟨ht, Nat.zero_le _⟩
  have e1 : (PyData.list ws).canLay0 = true := a
  unfold SeqAt.shaped
  rw [e1, Bool.true_and]
  refine decide_eq_true ?_
  simp only [PyData.depth]
  omega
theorem WsOk.shapedT {ws : List PyData} (h : WsOk ws) : SeqAt.shaped (.tuple ws) = true := by
  obtain ⟨a, b⟩ := allLay (ds := ws) (n := 0) fun d hd => by
    obtain ⟨t, rfl, ht⟩ := h d hd
    exact ⟨ht, Nat.zero_le _⟩
  have e1 : (PyData.tuple ws).canLay0 = true := a
  unfold SeqAt.shaped
  rw [e1, Bool.true_and]
  refine decide_eq_true ?_
  simp only [PyData.depth]
  omega
theorem nmStr {a : PyData} (h : isNm a = true) : ∃ t, a = .str t := by
  cases a <;> first | exact ⟨_, rfl⟩ | cases h
theorem wsOkIn {ws : List PyData} {d : PyData} {n : Nat} (hw : WsOk ws) (h : isNd ws d = true) (od : Od n d) : WsOk (wsD ws d) := by
  rcases ndShape h with rfl | ⟨a, b, c, rfl, ha, _⟩ | ⟨a, b, c, rfl, _, hb⟩
  · exact hw
  · intro z hz
    have hz' : z ∈ ws ++ [a] := by simpa [wsD, show isWord "write" (.str "write") = true from by decide +kernel] using hz
    rcases List.mem_append.mp hz' with y | y
    · exact hw z y
    · rw [List.mem_singleton.mp y]
      obtain ⟨t, rfl⟩ := nmStr ha
      cases od with
      | tup _ h2 =>
        have o := h2 (.str t) (by simp)
        cases o with
        | str _ hs _ => exact ⟨t, rfl, hs⟩
  · have e : wsD ws (.tuple [.str "read", a, b, c]) = ws := by simp [wsD, show isWord "write" (.str "read") = false from by decide +kernel]
    rw [e]
    exact hw
theorem wsLen (ws : List PyData) (d : PyData) : (wsD ws d).length ≤ ws.length + 1 := by
  unfold wsD
  split
  · split
    · simp
    · omega
  · omega
abbrev nI (i : Nat) : V := .int (i : Nat)
/-- the answer: no fault, or its path -/
def FR (K : PySem.W.Frag) (H : Hp) : Option (List Nat) → V → Prop
  | none, r => r = .non
  | some p, r => ∃ a, r = .ref a ∧ SqT K H a (p.map nI)
def spFF (K : PySem.W.Frag) (n : Nat) : Sp := fun vs H Q _ => ∃ v pa wa d ws zs ps, vs = [v, .ref pa, .ref wa] ∧ Dp K H v d ∧ Od n d ∧ Td d ∧ SqT K H pa (ps.map nI) ∧ H wa = some (.lst zs) ∧ DpAll K H zs ws ∧ WsOk ws ∧ ws.length + n ≤ 200 ∧ ps.length + n ≤ 200 ∧
  ∀ r H', Same H H' → FR K H' (ff n ws ps d) r → Q r H'
/-- each item gives one that stands -/
theorem lcMapT {K : PySem.W.Frag} {a : Addr} {xs : List V} {ds : List PyData} {j : Nat} {te : TE} {σ : L2.St} {H1 : Hp} {D : Addr} {Qd : Hp → Prop} (g : PyData → PyData) (ha : SqT K H1 a xs) (hx : DpAll K H1 xs ds) (hn : ds.length ≤ 1000) (hD : H1 D = none) (hw : ∀ v, wipe ((wipe σ [j]).set j (some v)) [j] = wipe σ [j])
    (hs : ∀ v d H, d ∈ ds → Same H1 H → Dp K H1 v d → ∀ (R : VK), (∀ y H2, Same H H2 → Dp K H1 y (g d) → R y H2) → te ((wipe σ [j]).set j (some v)) H R)
    (hd : ∀ H ys, Same H1 H → H D = some (.lst ys) → DpAll K H1 ys (ds.map g) → Qd H) :
    ∃ W : Nat → Nat → Hp → Prop, (∃ m, W 0 m (upd H1 D (.lst []))) ∧ ∀ i m H, W i m H →
      ((Itt K a).stop i H ∧ Qd H) ∨ ((Itt K a).go i H ∧ ∃ Nx : Hp → Prop, (∀ H', Nx H' → ∃ m', m' < m ∧ W (i + 1) m' H') ∧ ∀ x H', (Itt K a).yld i H x H' → gName j x (wipe σ [j]) H' fun σ2 H2 => wipe σ2 [j] = wipe σ [j] ∧ tYes σ2 H2 fun b H3 =>
        if b = true then te σ2 H3 fun y H4 => ∃ acc, H4 D = some (.lst acc) ∧ acc.length < sizeLine ∧ Nx (upd H4 D (.lst (acc ++ [y]))) else Nx H3) := by
  have hl := dpLen hx
  refine lcJ (n := ds.length) (fun i H => ∃ ys, At H1 D ys H ∧ DpAll K H1 ys ((ds.take i).map g)) ⟨[], ⟨sameUpd hD, upd_same⟩, .nil⟩ (fun i H lt h => ⟨xs, xs[i], sameTup h.choose_spec.1.1 ha, List.getElem?_eq_getElem (by omega)⟩)
    (fun H h => ⟨xs, sameTup h.choose_spec.1.1 ha, by omega⟩) (fun i H x H' lt h y => ?_) (fun H h => ?_)
  · obtain ⟨ys, hat, hys⟩ := h
    obtain ⟨rfl, y⟩ := y
    have e := y xs (sameTup hat.1 ha)
    have e2 : ds[i]? = some ds[i] := List.getElem?_eq_getElem lt
    obtain ⟨v, h1, h2⟩ := dpAt hx e2
    obtain rfl : v = x := Option.some.inj (h1.symm.trans e)
    refine ⟨hw v, ?_⟩
    unfold tYes
    dsimp only
    rw [if_pos rfl]
    refine hs v ds[i] _ (List.getElem_mem lt) hat.1 h2 _ fun z H2 s2 hz => ?_
    obtain ⟨e3, e4⟩ := hat.put (ys := ys ++ [z]) hD s2
    have hly := dpLen hys
    refine ⟨_, e3, ?_, _, e4, ?_⟩
    · rw [hly, List.length_map, List.length_take, sizeLine_eq]
      omega
    · rw [List.take_succ_eq_append_getElem lt, List.map_append]
      exact dpSnoc hz hys
  · obtain ⟨ys, hat, hys⟩ := h
    rw [List.take_length] at hys
    exact hd H ys hat.1 hat.2 hys
/-- tuple + tuple, somewhere -/
theorem catAny {K : PySem.W.Frag} {H : Hp} {a b : Addr} {xs ys : List V} {Q : VK} (ha : SqT K H a xs) (hb : SqT K H b ys) (hl : xs.length + ys.length ≤ 1000) (h : ∀ p H', Same H H' → SqT K H' p (xs ++ ys) → Q (.ref p) H') : rCatA K (.ref a) (.ref b) H Q := by
  refine ⟨a, b, xs, ys, rfl, rfl, ha, hb, by rw [sizeLine_eq]; omega, fun e => ?_, fun _ e => ?_, fun _ _ p hp => ?_⟩
  · exact h b H (Same.refl H) (by rw [e, List.nil_append]; exact hb)
  · exact h a H (Same.refl H) (by rw [e, List.append_nil]; exact ha)
  · exact h p _ (sameUpd hp) (.inl (.inl upd_same))
end KS.La

set_option Elab.async false
set_option linter.all false
set_option maxRecDepth 100000
set_option maxHeartbeats 4000000
namespace KS.La
open PySem PySem.Spec PyProof.Rows L2
section
variable {P : Program} {w : World} {K : PySem.W.Frag} {mg : Str → Option Value} {base : Heap} {f : Addr} {fd : FuncData}
abbrev nF : List Str := ["_law_node", "_law_path", "_law_written", "_law_inner", "_law_case", "_law_k", "_law_found"]
theorem scF : FnScope nF ["_law_node", "_law_path", "_law_written"] (defScope lFirst) := ⟨rfl, rfl, rfl, by decide +kernel, rfl, by decide +kernel, by decide +kernel⟩
theorem writeNe : isWord "write" (.str "stop") = false ∧ isWord "read" (.str "stop") = false ∧ isWord "write" (.str "write") = true ∧ isWord "read" (.str "write") = false ∧ isWord "write" (.str "read") = false ∧ isWord "read" (.str "read") = true := by decide +kernel
theorem eqvSW : PyData.eqv (.str "stop") (.str "write") = false := by decide +kernel
theorem eqvWW : PyData.eqv (.str "write") (.str "write") = true := by decide +kernel
theorem eqvRW : PyData.eqv (.str "read") (.str "write") = false := by decide +kernel
theorem eqvSR : PyData.eqv (.str "stop") (.str "read") = false := by decide +kernel
theorem eqvWR : PyData.eqv (.str "write") (.str "read") = false := by decide +kernel
theorem eqvRR : PyData.eqv (.str "read") (.str "read") = true := by decide +kernel
theorem dpTup {H : Hp} {v : V} {ds : List PyData} (h : Dp K H v (.tuple ds)) : ∃ a xs, v = .ref a ∧ SqT K H a xs ∧ DpAll K H xs ds := by
  cases h with
  | tup a b => exact ⟨_, _, rfl, a, b⟩
theorem dpOne {H : Hp} {xs : List V} {d : PyData} (h : DpAll K H xs [d]) : ∃ y, xs = [y] ∧ Dp K H y d := by
  cases h with
  | cons a b => cases b; exact ⟨_, rfl, a⟩
theorem dpTwo {H : Hp} {xs : List V} {d e : PyData} (h : DpAll K H xs [d, e]) : ∃ y z, xs = [y, z] ∧ Dp K H y d ∧ Dp K H z e := by
  cases h with
  | cons a b =>
    obtain ⟨z, rfl, c⟩ := dpOne b
    exact ⟨_, _, rfl, a, c⟩
theorem dpFour {H : Hp} {xs : List V} {a b c d : PyData} (h : DpAll K H xs [a, b, c, d]) : ∃ x y z u, xs = [x, y, z, u] ∧ Dp K H x a ∧ Dp K H y b ∧ Dp K H z c ∧ Dp K H u d := by
  cases h with
  | cons h1 h2 =>
    cases h2 with
    | cons h2 h3 =>
      obtain ⟨z, u, rfl, h4, h5⟩ := dpTwo h3
      exact ⟨_, _, _, _, rfl, h1, h2, h4, h5⟩
theorem okFF (F : FnP K "_law_first_fault" lFirst f fd) (gS : mg "_law_first_fault" = some (.ref f)) (B : Bn mg) : ∀ (n k : Nat), n ≤ 60 → Has P w K mg base (k + 4) "_law_is_node" ["_law_node", "_law_written"] (spNodeL K 60) → FnOk P w K mg base CX0 (k + n + 5) f fd ["_law_node", "_law_path", "_law_written"] (spFF K n) := by
  have bS : Binds K fd ["_law_node", "_law_path", "_law_written"] [] := F.bindsN (fun _ _ _ _ _ _ us hl => match us, hl with | [_, _, _], _ => rfl)
  intro n
  induction n with
  | zero =>
    intro k hn60 Nd
    obtain ⟨fN, fdN, gN, kN, bN, GN⟩ := Nd.ex
    refine F.ok scF (fun vs H Q E h => ?_) (fun cdv A outer s H vs Q E hr h => ?_)
    · obtain ⟨v, pa, wa, d, ws, zs, ps, rfl, _⟩ := h
      rfl
    · obtain ⟨v, pa, wa, d, ws, zs, ps, rfl, hd, od, td, hp, hwa, hzs, wok, lw, lp, q⟩ := h
      refine ⟨_, PSs.nox (pss_cons (ps_if (pt_not (pt_val (pe_call GN (hr.mono (by omega)) (by rfl) gN kN bN .nil pass0 (pa_cons (pv 0) (pa_cons (pv 2) pa_nil))))) (pss_one (ps_ret (pv 1))) pss_nil) (pss_cons (ps_never) (pss_cons (ps_never) (pss_cons (ps_never) (pss_cons (ps_never) (pss_one (ps_never))))))), ?_⟩
      refine ⟨v, rfl, .ref wa, rfl, v, .ref wa, d, ws, rfl, hd, od.up (by omega), td, .lst (.inl (.inl hwa)) hzs, wok.shapedL, fun H1 s1 => ⟨_, rfl, ?_⟩⟩
      have e : isNd ws d = false := by cases od <;> rfl
      rw [e]
      refine iteT ⟨.ref pa, rfl, q _ H1 s1 ?_⟩
      show FR K H1 (if isNd ws d = true then none else some ps) _
      rw [e]
      exact ⟨pa, rfl, sameTup s1 hp⟩
  | succ n ih =>
    intro k hn60 Nd
    have G := ih k (by omega) Nd
    obtain ⟨fN, fdN, gN, kN, bN, GN⟩ := Nd.ex
    refine F.ok scF (fun vs H Q E h => ?_) (fun cdv A outer s H vs Q E hr h => ?_)
    · obtain ⟨v, pa, wa, d, ws, zs, ps, rfl, _⟩ := h
      rfl
    · obtain ⟨v, pa, wa, d, ws, zs, ps, rfl, hd, od, td, hp, hwa, hzs, wok, lw, lp, q⟩ := h
      have hr1 : Room (k + n + 5) _ := hr.mono (by omega)
      refine ⟨_, PSs.nox (pss_cons (ps_if (pt_not (pt_val (pe_call GN (hr.mono (by omega)) (by rfl) gN kN bN .nil pass0 (pa_cons (pv 0) (pa_cons (pv 2) pa_nil))))) (pss_one (ps_ret (pv 1))) pss_nil) (pss_cons (ps_set (i := 3) scF.nd rfl (.inl rfl) (pe_lst pa_nil)) (C8.pss_cut (ps_if (pt_cmpR (op_eqD hr.units) (pe_ix ix_tup (pv 0) pe_int (fun _ _ => rfl)) pe_str (nomark _)) (pss_one (ps_par (i := 3) (j := 2) (by rfl) scF.nd rfl rfl (by decide) rfl rfl (pa_cons (pe_lst (pa_cons (pe_ix ix_tup (pv 0) pe_int (fun _ _ => rfl)) pa_nil)) (pa_cons (pe_op op_cat (pv 2) (pe_lst (pa_cons (pe_ix ix_tup (pv 0) pe_int (fun _ _ => rfl)) pa_nil))) pa_nil)) (by rfl))) pss_nil) (C8.pss_cut (ps_if (pt_cmpR (op_eqD hr.units) (pe_ix ix_tup (pv 0) pe_int (fun _ _ => rfl)) pe_str (nomark _)) (pss_one (ps_set (i := 3) scF.nd rfl (.inl rfl) (pe_op op_cat (pe_lc (own := [("_law_case", 4)]) (g := gName 4) rfl scF.nd (pi_tup (pe_ix ix_tup (pv 0) pe_int (fun _ _ => rfl))) (blkOk_by (N := nF) (sc := defScope lFirst) (by decide +kernel))
          (fun _ _ _ _ _ => pg_name (i := 4) scF.nd rfl (.inl rfl) (hf := .inr rfl)) (fun _ _ _ _ _ => pts_nil) (fun _ _ _ _ _ => pe_ix (r := rIxT K) ix_tup (pv 4) pe_int (fun _ _ => rfl))) (pe_lst (pa_cons (pe_ix ix_tup (pv 0) pe_int (fun _ _ => rfl)) pa_nil))))) pss_nil) (pss_cons (ps_for PassesOwn.never rfl (pi_range1 (by rfl) B.range (pa_cons (pe_callB call_len_seq (by rfl) B.len PySem.boot_len (pa_cons (pv 3) pa_nil)) pa_nil)) (pg_name (i := 5) scF.nd rfl (.inl rfl))
          (pss_cons (ps_set (i := 6) scF.nd rfl (.inl rfl) (pe_call G hr1 (by rfl) gS F.kp bS .nil pass0 (pa_cons (pe_ix ix_list (pv 3) (pv 5) (fun _ _ => rfl)) (pa_cons (pe_op op_catA (pv 1) (pe_tup (pa_cons (pv 5) pa_nil))) (pa_cons (pv 2) pa_nil))))) (pss_one (ps_if (pt_cmpR op_notN (pv 6) pe_non (nomark _)) (pss_one (ps_ret (pv 6))) pss_nil)))) (pss_one (ps_ret pe_non))))))), ?_⟩
      refine ⟨v, rfl, .ref wa, rfl, v, .ref wa, d, ws, rfl, hd, od.up (by omega), td, .lst (.inl (.inl hwa)) hzs, wok.shapedL, fun H1 s1 => ⟨_, rfl, ?_⟩⟩
      cases e : isNd ws d with
      | false =>
        refine iteT ⟨.ref pa, rfl, q _ H1 s1 ?_⟩
        show FR K H1 (if isNd ws d = true then _ else some ps) _
        rw [e]
        exact ⟨pa, rfl, sameTup s1 hp⟩
      | true =>
        have eff : ff (n + 1) ws ps d = firstSome (fun i e => ff n (wsD ws d) (ps ++ [i]) e) 0 (inD d) := by
          show (if isNd ws d = true then _ else _) = _
          rw [e]
          rfl
        rw [eff] at q
        refine iteF ⟨(by show 0 ≤ sizeLine; exact Nat.zero_le _), fun L hL => ?_⟩
        have s2 := s1.trans (sameUpd (o := .lst []) hL)
        have hL2 : upd H1 L (.lst []) L = some (.lst []) := upd_same
        generalize upd H1 L (.lst []) = H2 at s2 hL2 ⊢
        have hd2 := dpSame s2 _ _ hd
        have hp2 := sameTup s2 hp
        have hwa2 := s2 _ _ hwa
        have hzs2 := dpAllSame s2 _ _ hzs
        -- behind both
        have M : (∃ L' wa' zs' xs, True ∧ ∃ σ' H', σ' = [some v, some (V.ref pa), some (V.ref wa'), some (V.ref L'), none, none, none] ∧ Same H2 H' ∧ H' wa' = some (.lst zs') ∧ DpAll K H' zs' (wsD ws d) ∧ H' L' = some (.lst xs) ∧ DpAll K H' xs (inD d)) → True := fun _ => trivial
        clear M
        refine ⟨fun σ' H' => ∃ L' wa' zs' xs, σ' = [some v, some (.ref pa), some (.ref wa'), some (.ref L'), none, none, none] ∧ Same H2 H' ∧ H' wa' = some (.lst zs') ∧ DpAll K H' zs' (wsD ws d) ∧ H' L' = some (.lst xs) ∧ ((∃ a b c, d = .tuple [.str "read", a, b, c]) ∨ DpAll K H' xs (inD d)), ?_, ?_⟩
        · rcases ndShape e with rfl | ⟨a, b, c, rfl, ha, _⟩ | ⟨a, b, c, rfl, _, hb⟩
          · obtain ⟨t, ys, rfl, hy, hds⟩ := dpTup hd2
            obtain ⟨y0, rfl, h0⟩ := dpOne hds
            refine ⟨.ref t, rfl, t, _, 0, y0, rfl, rfl, hy, atI_nat (j := 0) rfl, .str "stop", .str "write", h0, .str _, by decide +kernel, by decide +kernel, _, rfl, ?_⟩
            rw [eqvSW]
            have e5 : wsD ws (.tuple [.str "stop"]) = ws := rfl
            have e6 : inD (.tuple [.str "stop"]) = [] := rfl
            refine iteF ⟨L, wa, zs, [], rfl, Same.refl _, hwa2, ?_, hL2, .inr ?_⟩
            · rw [e5]
              exact hzs2
            · rw [e6]
              exact .nil
          · obtain ⟨t, ys, rfl, hy, hds⟩ := dpTup hd2
            obtain ⟨y0, y1, y2, y3, rfl, h0, h1, h2, h3⟩ := dpFour hds
            refine ⟨.ref t, rfl, t, _, 0, y0, rfl, rfl, hy, atI_nat (j := 0) rfl, .str "write", .str "write", h0, .str _, by decide +kernel, by decide +kernel, _, rfl, ?_⟩
            rw [eqvWW]
            refine iteT ⟨.ref t, rfl, t, _, 3, y3, rfl, rfl, hy, atI_nat (j := 3) rfl, (by show 1 ≤ sizeLine; decide), fun p3 hp3 => ?_⟩
            have s3 := sameUpd (o := .lst [y3]) hp3
            have hL3 : upd H2 p3 (.lst [y3]) p3 = some (.lst [y3]) := upd_same
            generalize upd H2 p3 (.lst [y3]) = H3 at s3 hL3 ⊢
            refine ⟨.ref wa, rfl, .ref t, rfl, t, _, 1, y1, rfl, rfl, sameTup s3 hy, atI_nat (j := 1) rfl, (by show 1 ≤ sizeLine; decide), fun p4 hp4 => ?_⟩
            have s4 := sameUpd (o := .lst [y1]) hp4
            have hL4 : upd H3 p4 (.lst [y1]) p4 = some (.lst [y1]) := upd_same
            generalize upd H3 p4 (.lst [y1]) = H4 at s4 hL4 ⊢
            have hlz := dpLen hzs
            refine ⟨wa, p4, zs, [y1], rfl, rfl, s4 _ _ (s3 _ _ hwa2), hL4, by rw [sizeLine_eq]; show zs.length + 1 ≤ _; omega, fun p5 hp5 => ?_⟩
            have s5 := sameUpd (o := .lst (zs ++ [y1])) hp5
            have hL5 : upd H4 p5 (.lst (zs ++ [y1])) p5 = some (.lst (zs ++ [y1])) := upd_same
            generalize upd H4 p5 (.lst (zs ++ [y1])) = H5 at s5 hL5 ⊢
            have sA := (s3.trans s4).trans s5
            refine ⟨_, _, rfl, p3, p5, zs ++ [y1], [y3], rfl, sA, hL5, ?_, s5 _ _ (s4 _ _ hL3), .inr ?_⟩
            · have e5 : wsD ws (.tuple [.str "write", a, b, c]) = ws ++ [a] := by simp [wsD, writeNe.2.2.1]
              rw [e5]
              exact dpSnoc (dpSame sA _ _ h1) (dpAllSame sA _ _ hzs2)
            · have e5 : inD (.tuple [.str "write", a, b, c]) = [c] := by simp [inD, writeNe.2.2.1]
              rw [e5]
              exact .cons (dpSame sA _ _ h3) .nil
          · obtain ⟨t, ys, rfl, hy, hds⟩ := dpTup hd2
            obtain ⟨y0, y1, y2, y3, rfl, h0, h1, h2, h3⟩ := dpFour hds
            refine ⟨.ref t, rfl, t, _, 0, y0, rfl, rfl, hy, atI_nat (j := 0) rfl, .str "read", .str "write", h0, .str _, by decide +kernel, by decide +kernel, _, rfl, ?_⟩
            rw [eqvRW]
            refine iteF ⟨L, wa, zs, [], rfl, Same.refl _, hwa2, ?_, hL2, .inl ⟨_, _, _, rfl⟩⟩
            have e5 : wsD ws (.tuple [.str "read", a, b, c]) = ws := by simp [wsD, writeNe.2.2.2.2.1]
            rw [e5]
            exact hzs2
        rintro σ3 H3 ⟨L3, wa3, zs3, xs3, rfl, s3, hwa3, hzs3, hL3, hx3⟩
        refine ⟨fun σ' H' => ∃ L' xs, σ' = [some v, some (.ref pa), some (.ref wa3), some (.ref L'), none, none, none] ∧ Same H3 H' ∧ H' L' = some (.lst xs) ∧ DpAll K H' xs (inD d), ?_, ?_⟩
        · have hd3 := dpSame s3 _ _ hd2
          rcases ndShape e with rfl | ⟨a, b, c, rfl, ha, _⟩ | ⟨a, b, c, rfl, _, hb⟩
          · obtain ⟨t, ys, rfl, hy, hds⟩ := dpTup hd3
            obtain ⟨y0, rfl, h0⟩ := dpOne hds
            refine ⟨.ref t, rfl, t, _, 0, y0, rfl, rfl, hy, atI_nat (j := 0) rfl, .str "stop", .str "read", h0, .str _, by decide +kernel, by decide +kernel, _, rfl, ?_⟩
            rw [eqvSR]
            refine iteF ⟨L3, xs3, rfl, Same.refl _, hL3, ?_⟩
            rcases hx3 with ⟨a, b, c, z⟩ | z
            · cases z
            · exact z
          · obtain ⟨t, ys, rfl, hy, hds⟩ := dpTup hd3
            obtain ⟨y0, y1, y2, y3, rfl, h0, h1, h2, h3⟩ := dpFour hds
            refine ⟨.ref t, rfl, t, _, 0, y0, rfl, rfl, hy, atI_nat (j := 0) rfl, .str "write", .str "read", h0, .str _, by decide +kernel, by decide +kernel, _, rfl, ?_⟩
            rw [eqvWR]
            refine iteF ⟨L3, xs3, rfl, Same.refl _, hL3, ?_⟩
            rcases hx3 with ⟨a, b, c, z⟩ | z
            · injection z with z
              injection z with z
              injection z with z
              exact absurd z (by decide)
            · exact z
          · obtain ⟨cs, rfl, hcs⟩ := csTuple hb
            obtain ⟨t, ys, rfl, hy, hds⟩ := dpTup hd3
            obtain ⟨y0, y1, y2, y3, rfl, h0, h1, h2, h3⟩ := dpFour hds
            obtain ⟨t2, cxs, rfl, hy2, hc2⟩ := dpTup h2
            refine ⟨.ref t, rfl, t, _, 0, y0, rfl, rfl, hy, atI_nat (j := 0) rfl, .str "read", .str "read", h0, .str _, by decide +kernel, by decide +kernel, _, rfl, ?_⟩
            rw [eqvRR]
            have lcs : cs.length ≤ 100 := by
              cases od with
              | tup _ h2 =>
                have o := h2 (.tuple cs) (by simp)
                cases o with
                | tup h _ => exact h
            refine iteT ⟨.ref t, rfl, t, _, 2, .ref t2, rfl, rfl, hy, atI_nat (j := 2) rfl, t2, rfl, ⟨cxs, hy2⟩, fun D hD => ?_⟩
            refine lcMapT second hy2 hc2 (by omega) hD (fun v => rfl) (fun v d H4 hm s4 hd4 R hR => ?_) (fun H4 ys4 s4 e4 hys4 => ?_)
            · obtain ⟨a', x', rfl⟩ := csShape (hcs d hm)
              obtain ⟨g, gs, rfl, hg, hgs⟩ := dpTup hd4
              obtain ⟨g0, g1, rfl, k0, k1⟩ := dpTwo hgs
              refine ⟨.ref g, rfl, g, _, 1, g1, rfl, rfl, sameTup s4 hg, atI_nat (j := 1) rfl, hR g1 H4 (Same.refl _) ?_⟩
              exact k1
            · refine ⟨.ref t, rfl, t, _, 3, y3, rfl, rfl, sameTup s4 hy, atI_nat (j := 3) rfl, (by show 1 ≤ sizeLine; decide), fun p5 hp5 => ?_⟩
              have s5 := sameUpd (o := .lst [y3]) hp5
              have hL5 : upd H4 p5 (.lst [y3]) p5 = some (.lst [y3]) := upd_same
              generalize upd H4 p5 (.lst [y3]) = H5 at s5 hL5 ⊢
              have hly := dpLen hys4
              refine ⟨D, p5, ys4, [y3], rfl, rfl, s5 _ _ e4, hL5, by rw [hly, List.length_map, sizeLine_eq]; show cs.length + 1 ≤ _; omega, fun p6 hp6 => ?_⟩
              have s6 := sameUpd (o := .lst (ys4 ++ [y3])) hp6
              have sA := (s4.trans s5).trans s6
              refine ⟨p6, ys4 ++ [y3], rfl, sA, upd_same, ?_⟩
              have e5 : inD (.tuple [.str "read", a, .tuple cs, c]) = cs.map second ++ [c] := by simp [inD, caseNodes, writeNe.2.2.2.2.1]
              rw [e5]
              exact dpSnoc (dpSame sA _ _ h3) (dpAllSame sA _ _ hys4)
        rintro σ4 H4 ⟨L4, xs4, rfl, s4, hL4, hx4⟩
        have hl4 := dpLen hx4
        have ino := inOd e od
        have int := inTd e td
        have wok2 := wsOkIn wok e od
        have wl2 := wsLen ws d
        have sB := (s2.trans s3).trans s4
        refine ⟨.ref L4, rfl, L4, xs4, rfl, .inl (.inl (.inl hL4)), (xs4.length : Int), rfl, by omega, ?_, ?_⟩
        · have : (inD d).length ≤ 200 := by
            rcases ndShape e with rfl | ⟨a, b, c, rfl, ha, _⟩ | ⟨a, b, c, rfl, _, hb⟩
            · simp [inD]
            · simp [inD, writeNe.2.2.1]
            · obtain ⟨cs, rfl, hcs⟩ := csTuple hb
              cases od with
              | tup _ h2 =>
                have o := h2 (.tuple cs) (by simp)
                cases o with
                | tup h _ =>
                  simp [inD, caseNodes, writeNe.2.2.2.2.1]
                  omega
          omega
        · refine forJ (n := xs4.length) (fun i σ' H' => ∃ t u, σ' = [some v, some (.ref pa), some (.ref wa3), some (.ref L4), none, t, u] ∧ Same H4 H' ∧ firstSome (fun i e => ff n (wsD ws d) (ps ++ [i]) e) 0 (inD d) = firstSome (fun i e => ff n (wsD ws d) (ps ++ [i]) e) i ((inD d).drop i)) ⟨none, none, rfl, Same.refl _, by rw [List.drop_zero]⟩
            (fun i σ' H' lt _ => by show i < ((xs4.length : Int)).toNat; omega) (fun σ' H' _ => by show ((xs4.length : Int)).toNat ≤ xs4.length; omega) (fun i σ' H5 x H6 lt h y => ?_) (fun σ' H' h => ?_)
          · obtain ⟨rfl, rfl⟩ := y
            obtain ⟨t, u, rfl, s5, hfs⟩ := h
            have lt2 : i < (inD d).length := by omega
            have e2 : (inD d)[i]? = some (inD d)[i] := List.getElem?_eq_getElem lt2
            obtain ⟨xv, g1, g2⟩ := dpAt hx4 e2
            rw [fsStep _ _ _ lt2] at hfs
            have hi := ino _ (List.getElem_mem lt2)
            have ht := int _ (List.getElem_mem lt2)
            generalize (inD d)[i] = ei at g2 hfs hi ht
            have hat : atI xs4 (0 + (i : Int)) = some xv := by rw [Int.zero_add]; exact atI_nat g1
            refine ⟨.ref L4, rfl, .int (0 + (i : Int)), rfl, L4, xs4, _, xv, rfl, rfl, .inl (.inl (s5 _ _ hL4)), hat, ?_⟩
            refine ⟨.ref pa, rfl, .int (0 + (i : Int)), rfl, (by show 1 ≤ sizeLine; decide), fun p7 hp7 => ?_⟩
            have s7 := sameUpd (o := .tup [.int (0 + (i : Int))]) hp7
            have hp7' : upd H6 p7 (.tup [.int (0 + (i : Int))]) p7 = some (.tup [nI i]) := by rw [upd_same, Int.zero_add]
            generalize upd H6 p7 (.tup [.int (0 + (i : Int))]) = H7 at s7 hp7' ⊢
            have sC := (sB.trans s5).trans s7
            refine catAny (xs := ps.map nI) (ys := [nI i]) (sameTup sC hp) (.inl (.inl hp7')) (by rw [List.length_map]; show ps.length + 1 ≤ 1000; omega) fun p8 H8 s8 hp8 => ?_
            have sD := ((s4.trans s5).trans s7).trans s8
            refine ⟨.ref wa3, rfl, xv, p8, wa3, ei, wsD ws d, zs3, ps ++ [i], rfl, dpSame ((s5.trans s7).trans s8) _ _ g2, hi, ht, ?_, sD _ _ hwa3, dpAllSame sD _ _ hzs3, wok2, by omega, by rw [List.length_append]; show ps.length + 1 + n ≤ 200; omega, fun r H9 s9 hr9 => ?_⟩
            · rw [List.map_append]
              exact hp8
            have sE : Same H4 H9 := ((s5.trans s7).trans s8).trans s9
            refine ⟨r, rfl, rfl, _, rfl, ?_⟩
            cases hres : ff n (wsD ws d) (ps ++ [i]) ei with
            | none =>
              rw [hres] at hr9 hfs
              obtain rfl : r = .non := hr9
              exact iteF ⟨_, _, rfl, sE, hfs⟩
            | some p =>
              rw [hres] at hr9 hfs
              obtain ⟨ra, rfl, hra⟩ := hr9
              refine iteT ⟨.ref ra, rfl, q _ H9 (sB.trans sE) ?_⟩
              rw [hfs]
              exact ⟨ra, rfl, hra⟩
          · obtain ⟨t, u, rfl, s5, hfs⟩ := h
            refine q _ H' (sB.trans s5) ?_
            rw [hfs, List.drop_of_length_le (by omega)]
            rfl
end
end KS.La

set_option Elab.async false
set_option linter.all false
set_option maxRecDepth 100000
set_option maxHeartbeats 4000000
/-! C(e, ..) whose __init__ may raise what the place takes -/
namespace MkS
open PySem PySem.Spec PyProof.Rows L2
section
variable {X : Cx} {CX : CXT} {k : Nat} {f C : Addr} {fd : FuncData} {ps : List Str} {sp : Sp} {E : L2.St → XK} {x : Str} {p pos : Pos} {e : Expr} {es : List Expr} {t : TA}
theorem run_makeS {pins : List (Addr × Obj)} {σ : L2.St} {H : Hp} {s : Shared} {Q : VK} {us : List Value} {vs : List V} (M : Mk X.K C f) (F : FnOk X.prog X.w X.K X.mg X.base CX k f fd ps sp) (hr : Room (k + 1) X.A) (hb : Binds X.K fd ps [])
    (hx : PassesAt CX X σ (E σ)) (I : Inv X pins σ H s) (r : Vals vs us)
    (h : ∀ x dx, H x = none → H dx = none → dx ≠ x → sp (.ref x :: vs) (upd (upd H dx (.own x)) x (.ins C dx [])) (fun v H2 => v = .non ∧ Q (.ref x) H2) (E σ)) :
    wpAny (model X.prog X.w) X.A (call (.ref C) us) (EP X pins σ Q) X.xe s := by
  have hq := h (s.heap.objs.size + 1) s.heap.objs.size (I.hok.fresh (Nat.le_succ _)) (I.hok.fresh (Nat.le_refl _)) (Nat.ne_of_lt (Nat.lt_succ_self _))
  have I2 := Inv.made (C := C) I
  have r2 : Vals (V.ref (s.heap.objs.size + 1) :: vs) (Value.ref (s.heap.objs.size + 1) :: us) := .cons rfl r
  have hl : (Value.ref (s.heap.objs.size + 1) :: us ++ []).length = ps.length := by
    have e := r2.length
    rw [F.len _ _ _ _ hq] at e
    rw [List.append_nil]
    exact e.symm
  have hbb := hb _ (Value.ref (s.heap.objs.size + 1) :: us) I2.kIn hl
  rw [List.append_nil] at hbb
  refine wpAny_call (make_map (f := f) I.kIn M.makes M.init (beq_iff_eq.mp M.fn) (codeAny_mono (F.run _ X.stack _ _ ⟨Value.ref (s.heap.objs.size + 1) :: us, []⟩ (Value.ref (s.heap.objs.size + 1) :: us) _ _ (E σ) (hr.make C us [])
    (I2.env0.make C us []) hbb r2 hq) fun r s' hq' => ?_))
  cases r with
  | error e => exact hx pins _ _ e s' I2 hq'
  | ok fl =>
    cases fl with
    | ret u =>
      obtain ⟨v, H', I3, rv, ev, q3⟩ := I2.after hq'
      subst ev
      exact ⟨rv, ⟨V.ref (s.heap.objs.size + 1), H', I3, rfl, q3⟩⟩
    | next => exact False.elim hq'
    | brk => exact False.elim hq'
    | cont => exact False.elim hq'
def tMakeS (C : Addr) (sp : Sp) (E : L2.St → XK) (t : TA) : TE := fun σ H Q => t σ H fun vs H1 => ∀ x dx, H1 x = none → H1 dx = none → dx ≠ x → sp (.ref x :: vs) (upd (upd H1 dx (.own x)) x (.ins C dx [])) (fun v H2 => v = .non ∧ Q (.ref x) H2) (E σ)
theorem pe_makeS (M : Mk X.K C f) (F : FnOk X.prog X.w X.K X.mg X.base CX k f fd ps sp) (hr : Room (k + 1) X.A) (hg : Gl X x) (hm : X.mg x = some (.ref C)) (hb : Binds X.K fd ps []) (hx : ∀ σ, PassesAt CX X σ (E σ))
    (ha : PA X (e :: es) t) (hdb : (x == ("__debug__" : Str)) = false := by decide) (he : starEach (e :: es) X.env = (false, eval e X.env) :: starEach es X.env := by rfl) (hpl : (backTo pos (starEach es X.env)).any (·.1) = false := by rfl) :
    PE X (.Call (.Name x p) (e :: es) [] pos) (tMakeS C sp E t) := by
  refine ⟨fun pins s σ H Q I h => ?_⟩
  refine wpAny_Call_Name_kw (ld_glob I hg hm ?_ hdb)
  refine PySem.W.callWith_K (h₀ := X.base) I.ok.mod.kin M.kp (thn (ha.run pos pins s σ H _ I h) fun us s1 ⟨vs, H1, I1, r, q⟩ => ⟨I1.kIn, ?_⟩) he hpl
  exact run_makeS M F hr hb (hx σ) I1 r q
end
end MkS

set_option Elab.async false
set_option linter.all false
set_option maxRecDepth 100000
set_option maxHeartbeats 4000000
namespace KX
open PySem PySem.Spec PyProof.Rows
abbrev veB : List Value := [.type "ValueError", .type "Exception", .type "BaseException", .type "object"]
abbrev keB : List Value := [.type "KeyError", .type "LookupError", .type "Exception", .type "BaseException", .type "object"]
abbrev ieB : List Value := [.type "IndexError", .type "LookupError", .type "Exception", .type "BaseException", .type "object"]
theorem storeKey : StoreFacts "KeyError" keB "object.__setattr__" "object" where
  mro := by kernel_rfl
  slot := .of (owner := "object") (n := "__setattr__")
    (by rw [typeLookup_type, builtinLookup_eq_fast]; kernel_rfl)
    (by decide +kernel)
    (by decide +kernel) (by decide +kernel)
    (by first
      | exact .inl (by decide +kernel)
      | exact .inr (by decide +kernel))
    (by rw [isSubtype_type]; kernel_rfl)
  entry := F.entry_object_sa
  kind := by decide +kernel
  split := by decide +kernel
  hasOwner := by decide +kernel
  args := fun a b c => by unfold argsOk; kernel_rfl
  passes := fun self => by kernel_rfl
/-- a chain of classes over a built-in error, made by newId -/
structure Kd (bmB : List Value) (newId : String) : Prop where
  made : ∃ B initId bmF, ExcBaseFacts B newId initId bmF ∧ bmB.contains (.type B) = true ∧ bmB.contains (.type "AttributeError") = false ∧ bmB.contains (.type "NameError") = false
  st : ∃ S, StoreFacts S bmB "object.__setattr__" "object"
theorem kdVe : Kd veB "ValueError.__new__" := ⟨⟨_, _, _, F.excBase_ValueError, by decide +kernel, by decide +kernel, by decide +kernel⟩, ⟨_, F.store_ValueError⟩⟩
theorem kdKe : Kd keB "LookupError.__new__" := ⟨⟨_, _, _, F.excBase_LookupError, by decide +kernel, by decide +kernel, by decide +kernel⟩, ⟨_, storeKey⟩⟩
theorem kdIe : Kd ieB "IndexError.__new__" := ⟨⟨_, _, _, F.excBase_IndexError, by decide +kernel, by decide +kernel, by decide +kernel⟩, ⟨_, F.store_IndexError⟩⟩
section
variable {prog : Program} {w : World} {A : Around} {E : Value → Shared → Prop} {R : Result → Shared → Prop} {h : Heap} {g : Array GenState} {d : Drawn} {t : Nat} {os : OsState}
variable {nm q : Str} {C N : Addr} {bs bm bmF : List Value} {hdct : Bool} {sn : List Str} {sub : List Value} {ab : Bool} {col : Option Bool} {dd : Option Addr} {k0 k1 k2 k3 k5 : Option Value} {B newId initId : String}
abbrev Stands (h : Heap) (nm q : Str) (C N : Addr) (bs bm : List Value) (hdct : Bool) (sn : List Str) (sub : List Value) (ab : Bool) (col : Option Bool) (dd : Option Addr) (k0 k1 k2 k3 k5 : Option Value) (newId : String) : Prop :=
  h.get? C = some (excClassObj nm q C N bs bm hdct sn sub ab col dd k0 k1 k2 k3 k5 newId)
theorem chkNew {M : Model} (F : ExcBaseFacts B newId initId bmF) (hB : bm.contains (.type B) = true) {rest : List Value} {kw : List (Str × Value)} {Q : Unit → Shared → Prop}
    (hC : Stands h nm q C N bs bm hdct sn sub ab col dd k0 k1 k2 k3 k5 newId) (hq : Q () ⟨h, g, d, t, os⟩) :
    wpAny M A (checkBuiltinCall newId ⟨.ref C :: rest, kw⟩) Q E ⟨h, g, d, t, os⟩ := by
  have hin : (Value.ref C :: bm).contains (.type B) = true := by
    rw [List.contains_cons, hB, Bool.or_true]
  have star := F.noStar
  simp only [checkBuiltinCall, F.newKind, F.newSplit, F.newRow]
  repeat (first
    | refine wpAny_loadPart_at hC ?_
    | (refine wpAny_isSubtype_exc hC ?_; rw [hin])
    | refine wpAny_staticBase_exc hC ?_
    | refine wpAny_madeBy_exc hC ?_
    | simp only [bne_self_eq_false, Bool.false_eq_true, if_false]
    | wp_step)
  exact hq
theorem newG (F : ExcBaseFacts B newId initId bmF) (hB : bm.contains (.type B) = true) (hA : bm.contains (.type "AttributeError") = false) (hN : bm.contains (.type "NameError") = false)
    {rest : List Value} {kw : List (Str × Value)} (hC : Stands h nm q C N bs bm hdct sn sub ab col dd k0 k1 k2 k3 k5 newId)
    (hq : R (.ok (.ret (.ref (h.objs.size + 1)))) ⟨(h.push (W.kdv_tup rest)).push (HandSPX.excO C h.objs.size), g, d, t, os⟩) (hrest : rest.length ≤ sizeLine) :
    codeAny (model prog w) A (.builtin newId ⟨.ref C :: rest, kw⟩) R ⟨h, g, d, t, os⟩ := by
  have ends := F.ends
  have i1 : (Value.ref C :: bm).contains (.type B) = true := by
    rw [List.contains_cons, hB, Bool.or_true]
  have i2 : (Value.ref C :: bm).contains (.type "AttributeError") = false := by
    rw [List.contains_cons, hA]; rfl
  have i3 : (Value.ref C :: bm).contains (.type "NameError") = false := by
    rw [List.contains_cons, hN]; rfl
  refine codeAny_builtinAt F.entry ?_
  unfold Builtin.«BaseException.__new__»
  refine PySem.wpAt_bind ?_
  show PySem.wpAt _ _ _ (PySem.stack >>= _) _ _ _
  refine PySem.wpAt_bind (PySem.wpAt_stack fun p below => PySem.wpAt_of_wpAny ?_)
  wp_walk
  refine PySem.wpAt_of_wpAny ?_
  rw [F.owner]
  repeat (first
    | with_reducible refine wpAny_madeHere_exc F.canon hC ?_
    | with_reducible refine wpAny_loadPart_at hC ?_
    | (with_reducible refine wpAny_isSubtype_exc hC ?_
       first | rw [i1] | rw [i2] | rw [i3])
    | wp_step)
  show R _ _
  rw [Heap.size_push]
  exact hq
theorem tcallG (F : ExcBaseFacts B newId initId bmF) (hB : bm.contains (.type B) = true) (hA : bm.contains (.type "AttributeError") = false) (hN : bm.contains (.type "NameError") = false)
    {rest : List Value} {kw : List (Str × Value)} {fI : Addr} {Q : Fin → Shared → Prop} (hC : Stands h nm q C N bs bm hdct sn sub ab col dd k0 k1 k2 k3 k5 newId)
    (hi : W.Looks (model prog w) h (typeLookup (.ref C) "__init__") (some (.ref fI))) (hb : ∀ self, W.Looks (model prog w) h (bindSpecial (.ref fI) self) (.ref fI, [self])) (hrest : rest.length ≤ sizeLine)
    (hq : codeAny (model prog w) A (.call (.ref fI) ⟨.ref (h.objs.size + 1) :: rest, kw⟩)
      (fun r s' => match r with
        | .ok (.ret v) => v = .none ∧ Q (.done (.ret (.ref (h.objs.size + 1)))) s'
        | .ok _ => False
        | .error e => E e s')
      ⟨(h.push (W.kdv_tup rest)).push (HandSPX.excO C h.objs.size), g, d, t, os⟩) :
    wpAny (model prog w) A (Builtin.«type.__call__» ⟨.ref C :: rest, kw⟩) Q E ⟨h, g, d, t, os⟩ := by
  repeat (first
    | with_reducible refine wpAny_loadPart_at hC ?_
    | with_reducible refine wpAny_madeBy_exc hC ?_
    | wp_step)
  refine codeAny_call_builtin_code (Code.quiet_builtin _ F.quiet) (chkNew F hB hC ?_)
  refine newG F hB hA hN hC ?_ hrest
  show wpAny _ _ _ _ _ _
  have k : ∀ b o, h.get? b = some o → ((h.push (W.kdv_tup rest)).push (HandSPX.excO C h.objs.size)).get? b = some o := fun b o e =>
    Heap.get?_push_of_some _ (Heap.get?_push_of_some _ e)
  have hC1 := k _ _ hC
  have there : ((h.push (W.kdv_tup rest)).push (HandSPX.excO C h.objs.size)).get? (h.objs.size + 1) = some (HandSPX.excO C h.objs.size) := by
    heap_get
  have self : (Value.ref C :: bm).contains (.ref C) = true := by simp
  have j1 := hi.keeps k
  have j2 := (hb (.ref (h.objs.size + 1))).keeps k
  unfold isInstance
  repeat (first
    | with_reducible refine wpAny_loadPart_at there ?_
    | (with_reducible refine wpAny_isSubtype_exc hC1 ?_
       rw [self])
    | wp_step)
  show wpAny _ _ (typeLookup (.ref C) _) _ _ _
  refine j1.at ?_
  refine wpAny_holding (wpAny_bind (j2.at ?_))
  refine wpAny_bind (wpAny_call (codeAny_mono hq fun r s' z => ?_))
  rcases r with e | (v | _ | _ | _) <;> first | exact z | exact z.elim | skip
  obtain ⟨rfl, z⟩ := z
  first
    | exact wpAny_pure (wpAny_pure z)
    | (wp_walk; exact z)
theorem callG (F : ExcBaseFacts B newId initId bmF) (hB : bm.contains (.type B) = true) (hA : bm.contains (.type "AttributeError") = false) (hN : bm.contains (.type "NameError") = false)
    {rest : List Value} {kw : List (Str × Value)} {fI : Addr} (hC : Stands h nm q C N bs bm hdct sn sub ab col dd k0 k1 k2 k3 k5 newId)
    (hi : W.Looks (model prog w) h (typeLookup (.ref C) "__init__") (some (.ref fI))) (hb : ∀ self, W.Looks (model prog w) h (bindSpecial (.ref fI) self) (.ref fI, [self])) (hrest : rest.length ≤ sizeLine)
    (hq : codeAny (model prog w) (A.under (.builtin "type.__call__" ⟨.ref C :: rest, kw⟩)) (.call (.ref fI) ⟨.ref (h.objs.size + 1) :: rest, kw⟩) (W.InitBack (h.objs.size + 1) R)
      ⟨(h.push (W.kdv_tup rest)).push (HandSPX.excO C h.objs.size), g, d, t, os⟩) :
    codeAny (model prog w) A (.call (.ref C) ⟨rest, kw⟩) R ⟨h, g, d, t, os⟩ := by
  have f1 := tc_lookup
  have f2 := tc_bind (.ref C)
  have isT : (⟨h, g, d, t, os⟩ : Shared).TypeIs (.ref C) "type" := ⟨_, hC, rfl⟩
  refine codeAny_of_tree ?_
  show wpAny _ _ (callAny (.ref C) _) _ _ _
  repeat (any_goals (first
    | assumption
    | with_reducible refine wpAny_loadPart_at hC ?_
    | wp_step))
  refine ⟨rfl, ?_⟩
  refine codeAny_call_builtin_at (Code.quiet_builtin _ (by decide +kernel)) entry_typeCall (wpAny_check_type_call_sub hC (tcallG F hB hA hN hC hi hb hrest ?_))
  refine codeAny_mono hq fun r s' z => ?_
  rcases r with e | (v | _ | _ | _) <;> exact z
end
end KX

set_option Elab.async false
set_option linter.all false
set_option maxRecDepth 100000
set_option maxHeartbeats 4000000
namespace KX
open PySem PySem.Spec PyProof.Rows L2
open Builtin.ObjectAttr (storeInOwnDict ownDictForStores)
open PySem.W (Frag findIn subIn typeIn keepIn hasDictIn mroIn specialIn takesIn excInitIn excOver clsIn takerIn)
/-! ### a class of errors, as the written part has it -/
structure XC (K : Frag) (C : Addr) : Prop where
  kd : ∃ bmB newId, Kd bmB newId ∧ excInitIn K C bmB newId = true ∧ excOver K C bmB = true
  sa : findIn K (.ref C) "__setattr__" = some (some (.builtin "object.__setattr__"))
  ga : findIn K (.ref C) "__getattribute__" = some (some (.builtin "BaseException.__getattribute__"))
  gg : findIn K (.ref C) "__getattr__" = some none
  ex : subIn K (.ref C) (.type "BaseException") = some true
  ty : typeIn K (.ref C) = some (.type "type")
  kp : keepIn K (.ref C) = true
  hd : hasDictIn K C = true
  cl : findIn K (.ref C) "__class__" = some (some (.builtin "object.__class__"))
  gt : specialIn K (.builtin "object.__class__") "__get__" = some (some (.builtin "getset_descriptor.__get__"))
  st : takesIn K (.builtin "object.__class__") = some true
  ob : mroIn K C (.type "object") = some true
def xcB (K : Frag) (C : Addr) (bmB : List Value) (newId : String) : Bool :=
  excInitIn K C bmB newId && (excOver K C bmB && (decide (findIn K (.ref C) "__setattr__" = some (some (.builtin "object.__setattr__")))
    && (decide (findIn K (.ref C) "__getattribute__" = some (some (.builtin "BaseException.__getattribute__"))) && (decide (findIn K (.ref C) "__getattr__" = some none)
    && (decide (subIn K (.ref C) (.type "BaseException") = some true) && (decide (typeIn K (.ref C) = some (.type "type")) && (keepIn K (.ref C) && (hasDictIn K C
    && (decide (findIn K (.ref C) "__class__" = some (some (.builtin "object.__class__"))) && (decide (specialIn K (.builtin "object.__class__") "__get__" = some (some (.builtin "getset_descriptor.__get__")))
    && (decide (takesIn K (.builtin "object.__class__") = some true) && decide (mroIn K C (.type "object") = some true))))))))))))
theorem xcB_ok {K : Frag} {C : Addr} {bmB : List Value} {newId : String} (k : Kd bmB newId) (h : xcB K C bmB newId = true) : XC K C := by
  unfold xcB at h
  simp only [Bool.and_eq_true, decide_eq_true_eq] at h
  obtain ⟨h1, h2, h3, h4, h5, h6, h7, h8, h9, h10, h11, h12, h13⟩ := h
  exact ⟨⟨_, _, k, h1, h2⟩, h3, h4, h5, h6, h7, h8, h9, h10, h11, h12, h13⟩
/-! ### self.name = v -/
section
variable {prog : Program} {w : World} {A : Around} {R : Result → Shared → Prop} {hp : Heap} {g : Array GenState} {d : Drawn} {t : Nat} {os : OsState}
theorem osaNew {K : Frag} {name : Str} {tk : Tok} {v : Value} {x C : Addr} {fv : Array Value} {S : String} {bmB : List Value} (SF : StoreFacts S bmB "object.__setattr__" "object")
    (X : K.In hp) (hx : hp.get? x = some { cls := .ref C, data := .fields fv }) (ov : excOver K C bmB = true) (hh : hasDictIn K C = true) (ha : findIn K (.ref C) name = some none)
    (hq : ∀ h' tk' dx, (∀ b o, b ≠ x → hp.get? b = some o → h'.get? b = some o) → hp.objs.size ≤ dx → dx ≠ x →
      h'.get? x = some { cls := .ref C, dict := some dx, data := .fields fv } → h'.Ns1 dx (fun y => if y = name then some v else none) → R (.ok (.ret .none)) ⟨h', g, d, tk', os⟩) :
    codeAny (model prog w) A (.call (.builtin "object.__setattr__") ⟨[.ref x, .str name tk, v], []⟩) R ⟨hp, g, d, t, os⟩ := by
  have hxs : x ≠ hp.objs.size := Nat.ne_of_lt (Heap.lt_size hx)
  have tkr : takerIn K C name = some none := by
    unfold PySem.W.takerIn
    rw [ha]
    rfl
  refine PySem.W.osa_openX (s := ⟨hp, g, d, t, os⟩) (od := none) SF X ⟨hx, rfl, rfl, trivial⟩ ov tkr fun b => ?_
  obtain ⟨cd, hcd, hdd⟩ := PySem.W.any_some hh
  have hcls : PySem.W.Looks (model prog w) hp (classData C) cd := PySem.W.looks_clsIn X hcd
  show wpAny _ _ (storeInOwnDict (.ref x) (.ref C) (.str name tk) name v b) _ _ _
  obtain ⟨nm, bs, mro, ns, qn, hd, sn, sb, ab, col, del⟩ := cd
  dsimp only at hdd
  subst hdd
  unfold storeInOwnDict ownDictForStores
  repeat (first
    | with_reducible refine HandSPX.store_in_new ?_ ?_
    | with_reducible refine wpAny_loadPart_at hx ?_
    | with_reducible refine hcls.at ?_
    | wp_step)
  · exact ⟨_, #[], _, (Heap.get?_update_ne _ _ _ _ hxs.symm).trans (Heap.get?_push_at rfl rfl), rfl, fun e he => absurd he (by simp), fun _ => rfl⟩
  · intro h' tk' hn' hs
    have hx1 : (hp.push { cls := .type "dict", data := .dict #[] }).get? x = some { cls := .ref C, data := .fields fv } := Heap.get?_push_of_some _ hx
    refine hq h' tk' hp.objs.size (fun b o hb ho => ?_) (Nat.le_refl _) hxs.symm ?_ hn'
    · refine (hs.2 b (Nat.ne_of_lt (Heap.lt_size ho))).trans ?_
      exact (Heap.get?_update_ne _ _ _ _ hb).trans (Heap.get?_push_of_some _ ho)
    · exact (hs.2 x hxs).trans (Heap.get?_update_self _ hx1 rfl)
theorem osaOld {K : Frag} {name : Str} {tk : Tok} {v : Value} {x C dx : Addr} {fv : Array Value} {m0 : Str → Option Value} {nl : List Str} {S : String} {bmB : List Value} (SF : StoreFacts S bmB "object.__setattr__" "object")
    (X : K.In hp) (hx : hp.get? x = some { cls := .ref C, dict := some dx, data := .fields fv }) (hns : hp.Ns1 dx m0) (hw : Within m0 nl) (hz : nl.length ≤ 1000)
    (ov : excOver K C bmB = true) (hh : hasDictIn K C = true) (ha : findIn K (.ref C) name = some none)
    (hq : ∀ h' tk', (∀ b o, b ≠ dx → hp.get? b = some o → h'.get? b = some o) → h'.Ns1 dx (fun y => if y = name then some v else m0 y) → R (.ok (.ret .none)) ⟨h', g, d, tk', os⟩) :
    codeAny (model prog w) A (.call (.builtin "object.__setattr__") ⟨[.ref x, .str name tk, v], []⟩) R ⟨hp, g, d, t, os⟩ := by
  obtain ⟨oD, esD, epD, hoD, hdD, _⟩ := hns.count hw
  have tkr : takerIn K C name = some none := by
    unfold PySem.W.takerIn
    rw [ha]
    rfl
  refine PySem.W.osa_openX (s := ⟨hp, g, d, t, os⟩) (od := some oD) SF X ⟨hx, rfl, rfl, hoD⟩ ov tkr fun b => ?_
  obtain ⟨cd, hcd, hdd⟩ := PySem.W.any_some hh
  have hcls : PySem.W.Looks (model prog w) hp (classData C) cd := PySem.W.looks_clsIn X hcd
  show wpAny _ _ (storeInOwnDict (.ref x) (.ref C) (.str name tk) name v b) _ _ _
  obtain ⟨nm, bs, mro, ns, qn, hd, sn, sb, ab, col, del⟩ := cd
  dsimp only at hdd
  subst hdd
  unfold storeInOwnDict ownDictForStores
  repeat (first
    | with_reducible refine OEX.store_in_old hns hw hz ?_
    | with_reducible refine wpAny_loadPart_at hx ?_
    | with_reducible refine hcls.at ?_
    | wp_step)
  intro h' tk' hn' hs
  exact hq h' tk' (fun b o hb ho => (hs.2 b hb).trans ho) hn'
end
end KX

set_option Elab.async false
set_option linter.all false
set_option maxRecDepth 100000
set_option maxHeartbeats 4000000
namespace KX
open PySem PySem.Spec PyProof.Rows L2
open PySem.W (Frag findIn subIn typeIn keepIn hasDictIn mroIn specialIn takesIn excInitIn excOver clsIn takerIn)
/-! ### stores, reads, isinstance, over the abstract heap -/
section
variable {X : Cx} {pins : List (Addr × Obj)} {σ : L2.St} {H : Hp} {s : Shared} {a C dx : Addr} {f : Str} {y : V} {u : Value} {fs : List (Str × V)} {E : Value → Shared → Prop} {A : Around}
theorem unTwo {hp h' : Heap} {dx : Addr} (e : H a = some (exo a C none)) (hnd : H dx = none) (dn : hp.objs.size ≤ dx) (k : ∀ b o, b ≠ a → hp.get? b = some o → h'.get? b = some o)
    (hx : ∃ o, h'.get? a = some o) : Un X.fs [] H (upd (upd H dx (exd dx fs)) a (exo a C (some dx))) hp h' := by
  have fresh : ∀ {b : Addr} {o : Obj}, hp.get? b = some o → b ≠ dx := fun q => Nat.ne_of_lt (Nat.lt_of_lt_of_le (Heap.lt_size q) dn)
  have off : ∀ {b : Addr}, H b = none → b ≠ a := fun n z => by
    rw [z, e] at n
    cases n
  constructor
  · exact fun b o q n _ _ => k b o (off n) q
  · exact fun b o q n _ _ => ⟨o.slots, k b o (off n) q⟩
  · intro b o q n _
    rw [upd_ne (off n), upd_ne (fresh q)]
    exact n
  · intro b o q _
    by_cases hb : b = a
    · rw [hb]
      exact hx
    · exact ⟨o, k b o hb q⟩
  · intro b xs q
    rw [upd_ne (at_ne e q exo_tup), upd_ne (ne_of_none q hnd)]
    exact q
  · intro b o v q
    rw [upd_ne (at_ne e q exo_frz), upd_ne (ne_of_none q hnd)]
    exact q
  · intro b ps q
    refine ⟨#[], ?_⟩
    rw [upd_ne (at_ne e q exo_tbl), upd_ne (ne_of_none q hnd), q]
    simp
theorem ostNew {Q : Unit → Shared → Prop} (T : XC X.K C) (I : Inv X pins σ H s) (e : H a = some (exo a C none)) (hno : findIn X.K (.ref C) f = some none) (ry : RelV y u)
    (h : ∀ dx s', H dx = none → dx ≠ a → Inv X pins σ (upd (upd H dx (exd dx [(f, y)])) a (exo a C (some dx))) s' → Q () s') :
    wpAny (model X.prog X.w) A (setAttr (.ref a) f u) Q E s := by
  obtain ⟨bmB, newId, ⟨_, S, SF⟩, _, ov⟩ := T.kd
  obtain ⟨t1, ho⟩ := exo_at I.hok e
  obtain ⟨hp, gs, dr, tk, os⟩ := s
  refine PySem.W.set_plain I.kIn (ox := HandSPX.excO C t1) (od := none) ⟨ho, rfl, rfl, trivial⟩ T.sa ?_
  refine osaNew SF I.kIn ho ov T.hd hno (fun h' tk' dx k dn dne hx hn => ?_)
  have hnd : H dx = none := I.hok.fresh dn
  refine h dx _ hnd dne (I.un (t' := tk') (unTwo e hnd dn k ⟨_, hx⟩) fun b o q => ?_)
  by_cases hb : b = a
  · subst hb
    rw [upd_same] at q
    cases q
    exact exo_ok hx
  · rw [upd_ne hb] at q
    by_cases hd : b = dx
    · subst hd
      rw [upd_same] at q
      cases q
      exact exd_ok hn (relO_put (fs := []) ry fun _ => True.intro)
    · rw [upd_ne hd] at q
      refine (I.hok b o q).stay (fun c v hc z => k c v ?_ z) (fun c hc => ?_) fun c xs hc => ?_
      · rcases hc with hc | hc
        · rw [hc]
          exact hb
        · exact at_ne e hc exo_own
      · rw [upd_ne (at_ne e hc exo_own), upd_ne (ne_of_none hc hnd)]
        exact hc
      · rw [upd_ne (at_ne e hc exo_tup), upd_ne (ne_of_none hc hnd)]
        exact hc
theorem ostOld {Q : Unit → Shared → Prop} (T : XC X.K C) (I : Inv X pins σ H s) (e : H a = some (exo a C (some dx))) (ed : H dx = some (exd dx fs)) (hl : fs.length ≤ 900) (hno : findIn X.K (.ref C) f = some none) (ry : RelV y u)
    (h : ∀ s', Inv X pins σ (upd H dx (exd dx ((f, y) :: fs))) s' → Q () s') :
    wpAny (model X.prog X.w) A (setAttr (.ref a) f u) Q E s := by
  obtain ⟨bmB, newId, ⟨_, S, SF⟩, _, ov⟩ := T.kd
  obtain ⟨t1, ho⟩ := exo_at I.hok e
  obtain ⟨mA, hns, rel⟩ := exd_at I.hok ed
  have hw := within_of rel
  obtain ⟨hp, gs, dr, tk, os⟩ := s
  obtain ⟨oD, _, _, hoD, _, _⟩ := hns.count hw
  refine PySem.W.set_plain I.kIn (ox := { HandSPX.excO C t1 with dict := some dx }) (od := some oD) ⟨ho, rfl, rfl, hoD⟩ T.sa ?_
  refine osaOld SF I.kIn ho hns hw (by rw [List.length_map]; omega) ov T.hd hno (fun h' tk' k hn => ?_)
  have there : ∃ o, h'.get? dx = some o := by
    obtain ⟨o, _, _, e', _⟩ := hn
    exact ⟨o, e'⟩
  refine h _ (I.write (t' := tk') (x := dx) (e := dx) (o := exd dx ((f, y) :: fs)) ?_ (.inl rfl) k there (exd_ok hn (relO_put ry rel)))
  rw [ed]
  exact True.intro
/-- at e: an error of the class at C whose dict holds fs | that has no dict -/
def ErD (H : Hp) (e C : Addr) (fs : List (Str × V)) : Prop := ∃ d, H e = some (exo e C (some d)) ∧ H d = some (exd d fs)
def Er0 (H : Hp) (e C : Addr) : Prop := H e = some (exo e C none)
def Er (H : Hp) (e C : Addr) : Prop := Er0 H e C ∨ ∃ fs, ErD H e C fs
theorem ErD.same {H H' : Hp} {e C : Addr} {fs : List (Str × V)} (k : Same H H') : ErD H e C fs → ErD H' e C fs := fun ⟨d, h1, h2⟩ => ⟨d, k _ _ h1, k _ _ h2⟩
theorem Er0.same {H H' : Hp} {e C : Addr} (k : Same H H') : Er0 H e C → Er0 H' e C := fun h => k _ _ h
theorem Er.same {H H' : Hp} {e C : Addr} (k : Same H H') : Er H e C → Er H' e C
  | .inl h => .inl (h.same k)
  | .inr ⟨fs, h⟩ => .inr ⟨fs, h.same k⟩
/-- an error as an instance -/
theorem Er.inst (I : Inv X pins σ H s) {e C : Addr} (h : Er H e C) : ∃ ox od, PySem.W.InstAt s.heap e ox C od := by
  rcases h with h | ⟨fs, d, h1, h2⟩
  · obtain ⟨t1, ho⟩ := exo_at I.hok h
    exact ⟨_, none, ho, rfl, rfl, trivial⟩
  · obtain ⟨t1, ho⟩ := exo_at I.hok h1
    obtain ⟨mA, hns, rel⟩ := exd_at I.hok h2
    obtain ⟨oD, _, _, hoD, _, _⟩ := hns.count (within_of rel)
    exact ⟨_, some oD, ho, rfl, rfl, hoD⟩
/-- isinstance(e, c), c one class -/
def rIsX (K : Frag) : List V → Hp → VK → Prop := fun xs H Q => ∃ (e C : Addr) (c : V) (cv : Value) (b : Bool), xs = [.ref e, c] ∧ Er H e C ∧ XC K C ∧ ClsV c cv ∧ PySem.W.kitOne K (.ref C) cv = some b ∧ Q (.bl b) H
theorem callIsX : CallR X (.builtin "isinstance") (rIsX X.K) := by
  intro pins s σ H xs us Q I r h
  obtain ⟨e, C, c, cv, b, rfl, he, T, hc, ans, q⟩ := h
  obtain ⟨u1, u2, rfl, r1, r2⟩ := vals2 r
  have e2 := hc.eq r2
  subst e2
  cases (show u1 = Value.ref e from r1)
  obtain ⟨ox, od, J⟩ := he.inst I
  have hcl : (clsIn X.K C).isSome = true := by
    obtain ⟨cd, hcd, _⟩ := PySem.W.any_some T.hd
    rw [hcd]
    rfl
  exact PySem.W.kia_one (PySem.W.kitx_exc hcl T.ga T.gg T.ex T.cl T.gt T.st T.ob) I.kIn J ans (fun z => nomatch z) fun tk => ⟨.bl b, H, I.tok tk, rfl, q⟩
/-- e.f, e an error that is held -/
def tXfld (K : Frag) (f : Str) (te : TE) : TE := fun σ H Q => te σ H fun x H1 => ∃ (e C : Addr) (fs : List (Str × V)) (v : V), x = .ref e ∧ ErD H1 e C fs ∧ XC K C ∧ findIn K (.ref C) f = some none ∧ fs.lookup f = some v ∧ Q v H1
theorem peXfld {o : Expr} {te : TE} {pos : Pos} (ho : PE X o te) (hb : attributeBase o f X.env (eval o X.env) = eval o X.env := by rfl) : PE X (.Attribute o f pos) (tXfld X.K f te) := by
  refine ⟨fun pins s σ H Q I h => ?_⟩
  refine attr_of hb (thn (ho.run pins s σ H _ I h) fun w s1 hh => ?_)
  obtain ⟨x, H1, I1, rx, e, C, fs, v, ex, ⟨d, h1, h2⟩, T, hno, l, q⟩ := hh
  subst ex
  cases (show w = Value.ref e from rx)
  obtain ⟨t1, he⟩ := exo_at I1.hok h1
  obtain ⟨mA, hns, rel⟩ := exd_at I1.hok h2
  obtain ⟨od, hod, hl⟩ := lookIn_ns hns
  obtain ⟨u, hu, ru⟩ := RelO.some_of (v := v) (o := mA f) (by rw [← l]; exact rel f)
  have J : PySem.W.InstAt s1.heap e { HandSPX.excO C t1 with dict := some d } C (some od) := ⟨he, rfl, rfl, hod⟩
  exact HandSPX.exc_get I1.kIn J T.ga T.gg T.ex (PySem.W.findObj_own T.hd hno rfl (by rw [hl, hu])) (handed_of ru) ⟨v, H1, I1.tok _, ru, q⟩
/-- self.f = e -/
def tOstX (K : Frag) (f : Str) (to te : TE) : TS := fun D σ H => te σ H fun y H1 => to σ H1 fun x H2 => ∃ a C : Addr, x = .ref a ∧ XC K C ∧ findIn K (.ref C) f = some none ∧
  ((H2 a = some (exo a C none) ∧ ∀ dx, H2 dx = none → dx ≠ a → D.nx σ (upd (upd H2 dx (exd dx [(f, y)])) a (exo a C (some dx)))) ∨
    ∃ (dx : Addr) (fs : List (Str × V)), H2 a = some (exo a C (some dx)) ∧ H2 dx = some (exd dx fs) ∧ fs.length ≤ 900 ∧ D.nx σ (upd H2 dx (exd dx ((f, y) :: fs))))
theorem psOstX {o e : Expr} {to te : TE} {p' pos : Pos} (ho : PE X o to) (he : PE X e te) (hs : swapsWith e (some (.Attribute o f p')) pos.line X.env = pure false := by rfl) : PS X (.Assign [.Attribute o f p'] e pos) (tOstX X.K f to te) := by
  refine ⟨fun pins s σ H D I h => ?_⟩
  refine plainObj_wpAny_Assign_Attribute (thn (he.run pins s σ H _ I h) fun v s1 ⟨y, H1, I1, r1, q1⟩ => ?_) hs
  refine thn (ho.run pins s1 σ H1 _ I1 q1) fun u s2 ⟨x, H2, I2, r2, a, C, ex, T, hno, q⟩ => ?_
  subst ex
  cases (show u = Value.ref a from r2)
  rcases q with ⟨ea, q⟩ | ⟨dx, fs, ea, ed, hl, q⟩
  · exact ostNew T I2 ea hno r1 fun dx s' n ne J => ⟨σ, _, J, q dx n ne⟩
  · exact ostOld T I2 ea ed hl hno r1 fun s' J => ⟨σ, _, J, q⟩
end
end KX

set_option Elab.async false
set_option linter.all false
set_option maxRecDepth 100000
set_option maxHeartbeats 4000000
namespace KX
open PySem PySem.Spec PyProof.Rows L2
open PySem.W (Frag findIn subIn typeIn keepIn hasDictIn mroIn specialIn takesIn excInitIn excOver clsIn takerIn)
/-! ### C(e, ..), an error with an __init__ of its own -/
section
variable {X : Cx} {CX : CXT} {k n : Nat} {fI C : Addr} {fd : FuncData} {ps ks : List Str} {sp : Sp} {g : List Value → List Value → List Value} {gV : List V → List V → List V}
variable {pins : List (Addr × Obj)} {σ : L2.St} {H : Hp} {s : Shared} {us ws : List Value} {vs zs : List V}
/-- the making, down to the __init__: R what is wanted of its end -/
theorem mkRun {R : Value → Shared → Prop} {Er' : Value → Shared → Prop} {E : XK} {Qi : Addr → VK} (T : XC X.K C) (iC : findIn X.K (.ref C) "__init__" = some (some (.ref fI))) (tI : typeIn X.K (.ref fI) = some (.type "function"))
    (F : FnOk X.prog X.w X.K X.mg X.base CX k fI fd ps sp) (hr : Room (k + 1) X.A) (hb : KBn X.K fd ps (n + 1) ks g gV) (I : Inv X pins σ H s) (r : Vals vs us) (rz : Vals zs ws)
    (l1 : vs.length = n) (l2 : zs.length = ks.length) (small : n ≤ 1000)
    (h : ∀ a, H a = none → s.heap.objs.size ≤ a → sp (gV (.ref a :: vs) zs) (upd H a (exo a C none)) (Qi a) E)
    (q : ∀ a t' h0 r' s', H a = none → s.heap.objs.size ≤ a → (∀ b o, s.heap.get? b = some o → h0.get? b = some o) → Inv X pins σ (upd H a (exo a C none)) { s with heap := h0, toks := t' } →
      CR CX X.stack X.prog X.w (upd H a (exo a C none)) { s with heap := h0, toks := t' } (Qi a) E r' s' →
      W.InitBack a (fun r s' => match r with | .ok (.ret v) => R v s' | .ok _ => False | .error e => Er' e s') r' s') :
    wpAny (model X.prog X.w) X.A (call (.ref C) us (ks.zip ws)) R Er' s := by
  obtain ⟨bmB, newId, ⟨⟨B, initId, bmF, F0, hB, hA, hN⟩, _⟩, qI, _⟩ := T.kd
  obtain ⟨nm, N, qn, bs, bm, hdct, sn, sub, ab, col, dd, k0, k1, k2, k3, k5, hC, hT⟩ := PySem.W.excInit_of I.kIn qI
  obtain ⟨hp, gs, dr, tk, os⟩ := s
  have hsz : hp.objs.size ≤ hp.objs.size + 1 := Nat.le_succ _
  have free : H (hp.objs.size + 1) = none := I.hok.fresh hsz
  have hq := h (hp.objs.size + 1) free hsz
  have kk : ∀ b o, hp.get? b = some o → ((hp.push (PySem.W.kdv_tup us)).push (HandSPX.excO C hp.objs.size)).get? b = some o := fun b o e =>
    Heap.get?_push_of_some _ (Heap.get?_push_of_some _ e)
  have there : ((hp.push (PySem.W.kdv_tup us)).push (HandSPX.excO C hp.objs.size)).get? (hp.objs.size + 1) = some (HandSPX.excO C hp.objs.size) := by
    heap_get
  have I2 : Inv X pins σ (upd H (hp.objs.size + 1) (exo (hp.objs.size + 1) C none)) ⟨(hp.push (PySem.W.kdv_tup us)).push (HandSPX.excO C hp.objs.size), gs, dr, tk, os⟩ :=
    I.laid (t' := tk) (a := hp.objs.size + 1) (o := exo (hp.objs.size + 1) C none) kk hsz (exo_ok there)
  have r1 : Vals (V.ref (hp.objs.size + 1) :: vs) (Value.ref (hp.objs.size + 1) :: us) := .cons rfl r
  have r2 := hb.rel r1 rz
  have e1 : (Value.ref (hp.objs.size + 1) :: us).length = n + 1 := r1.length.symm.trans (congrArg Nat.succ l1)
  have e2 : ws.length = ks.length := rz.length.symm.trans l2
  have lus : us.length ≤ sizeLine := by
    rw [← Paired.length r, sizeLine_eq]
    omega
  refine wpAny_call (callG F0 (by rw [hT]; exact hB) (by rw [hT]; exact hA) (by rw [hT]; exact hN) hC (PySem.W.looks_findIn I.kIn iC) (fun self => PySem.W.bind_fn I.kIn self tI) lus ?_)
  refine codeAny_mono (F.run _ X.stack _ _ ⟨Value.ref (hp.objs.size + 1) :: us, ks.zip ws⟩ (g (Value.ref (hp.objs.size + 1) :: us) ws) _ _ E (hr.make C us (ks.zip ws)) (I2.env0.make C us (ks.zip ws)) (hb.to _ _ ws I2.kIn e1 e2) r2 hq) fun r' s' z => ?_
  exact q _ tk _ r' s' free hsz kk I2 z
theorem runMkX {Q : VK} {E : XK} (T : XC X.K C) (iC : findIn X.K (.ref C) "__init__" = some (some (.ref fI))) (tI : typeIn X.K (.ref fI) = some (.type "function"))
    (F : FnOk X.prog X.w X.K X.mg X.base CX k fI fd ps sp) (hr : Room (k + 1) X.A) (hb : KBn X.K fd ps (n + 1) ks g gV) (hx : Passes CX X E) (I : Inv X pins σ H s) (r : Vals vs us) (rz : Vals zs ws)
    (l1 : vs.length = n) (l2 : zs.length = ks.length) (small : n ≤ 1000)
    (h : ∀ a, H a = none → sp (gV (.ref a :: vs) zs) (upd H a (exo a C none)) (fun v H2 => v = .non ∧ Q (.ref a) H2) E) :
    wpAny (model X.prog X.w) X.A (call (.ref C) us (ks.zip ws)) (EP X pins σ Q) X.xe s := by
  refine mkRun (Qi := fun a v H2 => v = .non ∧ Q (.ref a) H2) T iC tI F hr hb I r rz l1 l2 small (E := E) (fun a ha _ => h a ha) ?_
  intro a t' h0 r' s' _ _ _ I2 z
  cases r' with
  | error e => exact hx pins σ _ _ e s' I2 z
  | ok fl =>
    cases fl with
    | ret u =>
      obtain ⟨v, H', I3, rv, ev, q3⟩ := I2.after z
      subst ev
      exact ⟨rv, ⟨V.ref a, H', I3, rfl, q3⟩⟩
    | next => exact False.elim z
    | brk => exact False.elim z
    | cont => exact False.elim z
theorem runMkE {Q : XK} (T : XC X.K C) (iC : findIn X.K (.ref C) "__init__" = some (some (.ref fI))) (tI : typeIn X.K (.ref fI) = some (.type "function"))
    (F : FnOk X.prog X.w X.K X.mg X.base CX k fI fd ps sp) (hr : Room (k + 1) X.A) (hb : KBn X.K fd ps (n + 1) ks g gV) (hx : Passes CX X (fun _ _ _ => False)) (I : Inv X pins σ H s) (r : Vals vs us) (rz : Vals zs ws)
    (l1 : vs.length = n) (l2 : zs.length = ks.length) (small : n ≤ 1000)
    (h : ∀ a, H a = none → sp (gV (.ref a :: vs) zs) (upd H a (exo a C none)) (fun v H2 => v = .non ∧ ∃ (d : Addr) (fs : List (Str × V)), H2 a = some (exo a C (some d)) ∧ H2 d = some (exd d fs) ∧ H d = none ∧ Q (.ref C) (some d) (upd (del H2 a) d (.xd fs))) (fun _ _ _ => False)) :
    wpAny (model X.prog X.w) X.A (call (.ref C) us (ks.zip ws)) (MkP X pins σ Q) X.xe s := by
  refine mkRun (Qi := fun a v H2 => v = .non ∧ ∃ (d : Addr) (fs : List (Str × V)), H2 a = some (exo a C (some d)) ∧ H2 d = some (exd d fs) ∧ H d = none ∧ Q (.ref C) (some d) (upd (del H2 a) d (.xd fs)))
    T iC tI F hr hb I r rz l1 l2 small (fun a ha _ => h a ha) ?_
  intro a t' h0 r' s' _ ge kk I2 z
  cases r' with
  | error e => exact hx pins σ _ _ e s' I2 z
  | ok fl =>
    cases fl with
    | ret u =>
      obtain ⟨v, H2, os2, bare2, un2, hok2, rv, ev, d, fs, ea, ed, hd1, q2⟩ := z
      subst ev
      obtain ⟨hp, g1, d1, t1, o1⟩ := s
      obtain ⟨h2, g2, d2, t2, os'⟩ := s'
      exact ⟨rv, mk_end (raises_own T.ex T.ty) I ge kk un2 hok2 os2 bare2 ea ed hd1 q2⟩
    | next => exact False.elim z
    | brk => exact False.elim z
    | cont => exact False.elim z
end
end KX

set_option Elab.async false
set_option linter.all false
set_option maxRecDepth 100000
set_option maxHeartbeats 4000000
namespace KX
open PySem PySem.Spec PyProof.Rows L2
open PySem.W (Frag findIn subIn typeIn keepIn hasDictIn mroIn specialIn takesIn excInitIn excOver clsIn takerIn)
theorem sameUpd {H : Hp} {p : Addr} {o : HO} (h : H p = none) : Same H (upd H p o) := fun b x e => by
  rw [upd_ne (ne_of_none e h)]
  exact e
/-- __init__(self, f): self.f = f -/
def spIni (K : Frag) (f : Str) : Sp := fun vs H Q _ => ∃ (a C : Addr) (v : V), vs = [.ref a, v] ∧ XC K C ∧ findIn K (.ref C) f = some none ∧ H a = some (exo a C none) ∧
  ∀ dx, H dx = none → dx ≠ a → Q .non (upd (upd H dx (exd dx [(f, v)])) a (exo a C (some dx)))
def spIni2 (K : Frag) (f f2 : Str) : Sp := fun vs H Q _ => ∃ (a C : Addr) (v v2 : V), vs = [.ref a, v, v2] ∧ XC K C ∧ findIn K (.ref C) f = some none ∧ findIn K (.ref C) f2 = some none ∧ H a = some (exo a C none) ∧
  ∀ dx H', Same H (upd H' a (exo a C none)) → H' a = some (exo a C (some dx)) → H' dx = some (exd dx [(f2, v2), (f, v)]) → H dx = none → Q .non H'
section
variable {P : Program} {w : World} {K : Frag} {mg : Str → Option Value} {base : Heap} {fI : Addr} {fd : FuncData} {q f f2 : Str} {params : Arguments} {scope : Scope}
theorem okIni {p1 p2 p3 p4 : Pos} (Fd : FunD K "__init__" q params [.Assign [.Attribute (.Name "self" p1) f p2] (.Name f p3) p4] scope [] [] fI fd) (S : FnScope ["self", f] ["self", f] scope)
    (v0 : scope.names.lookup ("self" : Str) = some .local) (v1 : scope.names.lookup f = some .local) (d1 : (f == ("__debug__" : Str)) = false) (d2 : (f == ("__classdict__" : Str)) = false) :
    FnOk P w K mg base CX0 1 fI fd ["self", f] (spIni K f) := by
  refine Fd.ok S (fun vs H Q E h => ?_) (fun cdv A outer s H vs Q E hr h => ?_)
  · obtain ⟨a, C, v, rfl, _⟩ := h
    rfl
  · refine ⟨_, PSs.nox (pss_one (psOstX (pe_var (i := 0) rfl (.inl v0)) (pe_var (i := 1) rfl (.inl v1) d1 d2))), ?_⟩
    obtain ⟨a, C, v, rfl, T, hno, ha, k⟩ := h
    exact ⟨v, rfl, .ref a, rfl, a, C, rfl, T, hno, .inl ⟨ha, fun dx n ne => k dx n ne⟩⟩
theorem okIni2 {p1 p2 p3 p4 q1 q2 q3 q4 : Pos} (Fd : FunD K "__init__" q params [.Assign [.Attribute (.Name "self" p1) f p2] (.Name f p3) p4, .Assign [.Attribute (.Name "self" q1) f2 q2] (.Name f2 q3) q4] scope [] [] fI fd)
    (S : FnScope ["self", f, f2] ["self", f, f2] scope)
    (v0 : scope.names.lookup ("self" : Str) = some .local) (v1 : scope.names.lookup f = some .local) (v2 : scope.names.lookup f2 = some .local) (d1 : (f == ("__debug__" : Str)) = false) (d2 : (f == ("__classdict__" : Str)) = false)
    (d3 : (f2 == ("__debug__" : Str)) = false) (d4 : (f2 == ("__classdict__" : Str)) = false) : FnOk P w K mg base CX0 1 fI fd ["self", f, f2] (spIni2 K f f2) := by
  refine Fd.ok S (fun vs H Q E h => ?_) (fun cdv A outer s H vs Q E hr h => ?_)
  · obtain ⟨a, C, v, w, rfl, _⟩ := h
    rfl
  · refine ⟨_, PSs.nox (pss_cons (psOstX (pe_var (i := 0) rfl (.inl v0)) (pe_var (i := 1) rfl (.inl v1) d1 d2)) (pss_one (psOstX (pe_var (i := 0) rfl (.inl v0)) (pe_var (i := 2) rfl (.inl v2) d3 d4)))), ?_⟩
    obtain ⟨a, C, v, w, rfl, T, hno, hno2, ha, k⟩ := h
    refine ⟨v, rfl, .ref a, rfl, a, C, rfl, T, hno, .inl ⟨ha, fun dx n ne => ?_⟩⟩
    refine ⟨w, rfl, .ref a, rfl, a, C, rfl, T, hno2, .inr ⟨dx, [(f, v)], upd_same, ?_, (by show 1 ≤ 900; decide), ?_⟩⟩
    · rw [upd_ne ne, upd_same]
    · refine k dx _ (fun b o e => ?_) ?_ upd_same n
      · by_cases hb : b = a
        · rw [hb, upd_same, ← ha, ← hb, e]
        · have hd : b ≠ dx := ne_of_none e n
          rw [upd_ne hb, upd_ne hd, upd_ne hb, upd_ne hd]
          exact e
      · rw [upd_ne (Ne.symm ne), upd_same]
end
/-- the class x of errors with one field f; with two | with none of its own -/
structure Cl1 (P : Program) (w : World) (K : Frag) (mg : Str → Option Value) (base : Heap) (x : Str) (C : Addr) (f : Str) : Prop where
  xc : XC K C
  gm : mg x = some (.ref C)
  no : findIn K (.ref C) f = some none
  ini : ∃ fI fd, findIn K (.ref C) "__init__" = some (some (.ref fI)) ∧ typeIn K (.ref fI) = some (.type "function") ∧ FnOk P w K mg base CX0 1 fI fd ["self", f] (spIni K f) ∧
    KBn K fd ["self", f] 2 [] (fun us _ => us) (fun vs _ => vs) ∧ KBn K fd ["self", f] 1 [f] (fun us ws => us ++ ws) (fun vs zs => vs ++ zs)
structure Cl2 (P : Program) (w : World) (K : Frag) (mg : Str → Option Value) (base : Heap) (x : Str) (C : Addr) (f f2 : Str) : Prop where
  xc : XC K C
  gm : mg x = some (.ref C)
  no : findIn K (.ref C) f = some none
  no2 : findIn K (.ref C) f2 = some none
  ini : ∃ fI fd, findIn K (.ref C) "__init__" = some (some (.ref fI)) ∧ typeIn K (.ref fI) = some (.type "function") ∧ FnOk P w K mg base CX0 1 fI fd ["self", f, f2] (spIni2 K f f2) ∧
    KBn K fd ["self", f, f2] 3 [] (fun us _ => us) (fun vs _ => vs) ∧ KBn K fd ["self", f, f2] 1 [f2, f] (fun us ws => us ++ ws.reverse) (fun vs zs => vs ++ zs.reverse)
structure Cl0 (K : Frag) (mg : Str → Option Value) (x : Str) (C : Addr) : Prop where
  xc : XC K C
  gm : mg x = some (.ref C)
  own : PySem.W.excIn K C veB "ValueError.__new__" = true
section
variable {X : Cx} {C : Addr} {x f f2 : Str} {p pos : Pos} {e e2 : Expr} {te : TE} {ta : TA} {k1 k2 : Pos}
/-- C(e) -/
def tMk1 (C : Addr) (f : Str) (ta : TA) : TE := fun σ H Q => ta σ H fun vs H1 => ∃ v, vs = [v] ∧ ∀ a H2, H1 a = none → Same H1 H2 → ErD H2 a C [(f, v)] → Q (.ref a) H2
theorem mk1_end {H1 : Hp} {Q : VK} {v : V} (T : XC X.K C) (no : findIn X.K (.ref C) f = some none) (q : ∀ a H2, H1 a = none → Same H1 H2 → ErD H2 a C [(f, v)] → Q (.ref a) H2) (a : Addr) (ha : H1 a = none) :
    spIni X.K f [.ref a, v] (upd H1 a (exo a C none)) (fun v H2 => v = .non ∧ Q (.ref a) H2) E0 := by
  refine ⟨a, C, v, rfl, T, no, upd_same, fun dx hdx hne => ⟨rfl, ?_⟩⟩
  have n1 : H1 dx = none := by
    rw [upd_ne hne] at hdx
    exact hdx
  refine q a _ ha (fun b o hb => ?_) ⟨dx, upd_same, ?_⟩
  · have b1 := ne_of_none hb ha
    have b2 := ne_of_none hb n1
    rw [upd_ne b1, upd_ne b2, upd_ne b1]
    exact hb
  · rw [upd_ne hne, upd_same]
theorem peMk1 (T : Cl1 X.prog X.w X.K X.mg X.base x C f) (hr : Room 2 X.A) (hg : Gl X x) (ha : PA X [e] ta) (hdb : (x == ("__debug__" : Str)) = false := by decide)
    (he : starEach [e] X.env = (false, eval e X.env) :: starEach [] X.env := by rfl) (hpl : (backTo pos (starEach [] X.env)).any (·.1) = false := by rfl) :
    PE X (.Call (.Name x p) [e] [] pos) (tMk1 C f ta) := by
  refine ⟨fun pins s σ H Q I h => ?_⟩
  obtain ⟨fI, fd, iC, tI, F, hb, _⟩ := T.ini
  refine wpAny_Call_Name_kw (ld_glob I hg T.gm ?_ hdb)
  refine PySem.W.callWith_K (h₀ := X.base) I.ok.mod.kin T.xc.kp (thn (ha.run pos pins s σ H _ I h) fun us s1 ⟨vs, H1, I1, r, v, ev, q⟩ => ⟨I1.kIn, ?_⟩) he hpl
  subst ev
  exact runMkX (n := 1) (ks := []) (ws := []) (zs := []) T.xc iC tI F hr hb pass0 I1 r .nil rfl rfl (by decide) (fun a ha => mk1_end T.xc T.no q a ha)
/-- C(f = e) -/
theorem peMk1K (T : Cl1 X.prog X.w X.K X.mg X.base x C f) (hr : Room 2 X.A) (hg : Gl X x) (ha : PK X [⟨some f, e, k1⟩] ta) (hdb : (x == ("__debug__" : Str)) = false := by decide)
    (hall : (backToKw pos (keywordEach [⟨some f, e, k1⟩] X.env)).all (·.1.isSome) = true := by rfl) (hks : (backToKw pos (keywordEach [⟨some f, e, k1⟩] X.env)).filterMap (·.1) = [f] := by rfl)
    (hpl : ((backTo pos (starEach [] X.env)).any (·.1) || (backToKw pos (keywordEach [⟨some f, e, k1⟩] X.env)).any (·.1.isNone)) = false := by rfl) :
    PE X (.Call (.Name x p) [] [⟨some f, e, k1⟩] pos) (tMk1 C f ta) := by
  refine ⟨fun pins s σ H Q I h => ?_⟩
  obtain ⟨fI, fd, iC, tI, F, _, hb⟩ := T.ini
  refine wpAny_Call_Name_kw (ld_glob I hg T.gm ?_ hdb)
  refine PySem.W.callWith_KW0 (h₀ := X.base) I.ok.mod.kin T.xc.kp hall (thn (ha.run pos pins s σ H _ I h) fun ws s1 ⟨zs, H1, I1, rz, v, ev, q⟩ => ⟨I1.kIn, ?_⟩) hpl
  subst ev
  rw [hks]
  exact runMkX (n := 0) (ks := [f]) (us := []) (vs := []) T.xc iC tI F hr hb pass0 I1 .nil rz rfl rfl (by decide) (fun a ha => mk1_end T.xc T.no q a ha)
/-- C(e, e2) -/
def tMk2 (C : Addr) (f f2 : Str) (ta : TA) : TE := fun σ H Q => ta σ H fun vs H1 => ∃ v v2, vs = [v, v2] ∧ ∀ a H2, H1 a = none → Same H1 H2 → ErD H2 a C [(f2, v2), (f, v)] → Q (.ref a) H2
theorem mk2_end {H1 : Hp} {Q : VK} {v v2 : V} (T : XC X.K C) (no : findIn X.K (.ref C) f = some none) (no2 : findIn X.K (.ref C) f2 = some none) (q : ∀ a H2, H1 a = none → Same H1 H2 → ErD H2 a C [(f2, v2), (f, v)] → Q (.ref a) H2) (a : Addr) (ha : H1 a = none) :
    spIni2 X.K f f2 [.ref a, v, v2] (upd H1 a (exo a C none)) (fun v H2 => v = .non ∧ Q (.ref a) H2) E0 := by
  refine ⟨a, C, v, v2, rfl, T, no, no2, upd_same, fun dx H' sm h1 h2 hdx => ⟨rfl, ?_⟩⟩
  refine q a _ ha (fun b o hb => ?_) ⟨dx, h1, h2⟩
  have b1 := ne_of_none hb ha
  have z := sm b o (by rw [upd_ne b1]; exact hb)
  rw [upd_ne b1] at z
  exact z
theorem peMk2 (T : Cl2 X.prog X.w X.K X.mg X.base x C f f2) (hr : Room 2 X.A) (hg : Gl X x) (ha : PA X [e, e2] ta) (hdb : (x == ("__debug__" : Str)) = false := by decide)
    (he : starEach [e, e2] X.env = (false, eval e X.env) :: starEach [e2] X.env := by rfl) (hpl : (backTo pos (starEach [e2] X.env)).any (·.1) = false := by rfl) :
    PE X (.Call (.Name x p) [e, e2] [] pos) (tMk2 C f f2 ta) := by
  refine ⟨fun pins s σ H Q I h => ?_⟩
  obtain ⟨fI, fd, iC, tI, F, hb, _⟩ := T.ini
  refine wpAny_Call_Name_kw (ld_glob I hg T.gm ?_ hdb)
  refine PySem.W.callWith_K (h₀ := X.base) I.ok.mod.kin T.xc.kp (thn (ha.run pos pins s σ H _ I h) fun us s1 ⟨vs, H1, I1, r, v, v2, ev, q⟩ => ⟨I1.kIn, ?_⟩) he hpl
  subst ev
  exact runMkX (n := 2) (ks := []) (ws := []) (zs := []) T.xc iC tI F hr hb pass0 I1 r .nil rfl rfl (by decide) (fun a ha => mk2_end T.xc T.no T.no2 q a ha)
/-- C(f2 = e, f = e2) -/
def tMk2K (C : Addr) (f f2 : Str) (ta : TA) : TE := fun σ H Q => ta σ H fun vs H1 => ∃ v v2, vs = [v2, v] ∧ ∀ a H2, H1 a = none → Same H1 H2 → ErD H2 a C [(f2, v2), (f, v)] → Q (.ref a) H2
theorem peMk2K (T : Cl2 X.prog X.w X.K X.mg X.base x C f f2) (hr : Room 2 X.A) (hg : Gl X x) (ha : PK X [⟨some f2, e, k1⟩, ⟨some f, e2, k2⟩] ta) (hdb : (x == ("__debug__" : Str)) = false := by decide)
    (hall : (backToKw pos (keywordEach [⟨some f2, e, k1⟩, ⟨some f, e2, k2⟩] X.env)).all (·.1.isSome) = true := by rfl) (hks : (backToKw pos (keywordEach [⟨some f2, e, k1⟩, ⟨some f, e2, k2⟩] X.env)).filterMap (·.1) = [f2, f] := by rfl)
    (hpl : ((backTo pos (starEach [] X.env)).any (·.1) || (backToKw pos (keywordEach [⟨some f2, e, k1⟩, ⟨some f, e2, k2⟩] X.env)).any (·.1.isNone)) = false := by rfl) :
    PE X (.Call (.Name x p) [] [⟨some f2, e, k1⟩, ⟨some f, e2, k2⟩] pos) (tMk2K C f f2 ta) := by
  refine ⟨fun pins s σ H Q I h => ?_⟩
  obtain ⟨fI, fd, iC, tI, F, _, hb⟩ := T.ini
  refine wpAny_Call_Name_kw (ld_glob I hg T.gm ?_ hdb)
  refine PySem.W.callWith_KW0 (h₀ := X.base) I.ok.mod.kin T.xc.kp hall (thn (ha.run pos pins s σ H _ I h) fun ws s1 ⟨zs, H1, I1, rz, v, v2, ev, q⟩ => ⟨I1.kIn, ?_⟩) hpl
  subst ev
  rw [hks]
  exact runMkX (n := 0) (ks := [f2, f]) (us := []) (vs := []) T.xc iC tI F hr hb pass0 I1 .nil rz rfl rfl (by decide) (fun a ha => mk2_end T.xc T.no T.no2 q a ha)
/-- C(), no __init__ of its own -/
def tMk0 (C : Addr) : TE := fun _ H Q => ∀ a, H a = none → Q (.ref a) (upd H a (exo a C none))
theorem peMk0 (T : Cl0 X.K X.mg x C) (hg : Gl X x) (hdb : (x == ("__debug__" : Str)) = false := by decide) : PE X (.Call (.Name x p) [] [] pos) (tMk0 C) := by
  refine ⟨fun pins s σ H Q I h => ?_⟩
  refine wpAny_Call_Name_kw (ld_glob I hg T.gm ?_ hdb)
  refine PySem.W.callWith_K0 I.kIn T.xc.kp ?_
  show wpAny _ _ (call (.ref C) []) _ _ _
  obtain ⟨bm, N, nm, qn, bs, hdct, sn, sub, ab, col, dd, k0, k1, k2, k3, k5, mN, hC, hN, hni, O⟩ := exc_obj I.kIn T.own
  refine wpAny_call_exc_subT F.excBase_ValueError O hC hN hni (fun h' a hm => ?_) (Nat.zero_le _)
  have hn : H a = none := I.hok.gone hm.new
  obtain ⟨t, ht, _, _⟩ := hm.there
  exact ⟨.ref a, upd H a (exo a C none), I.laidN hm.keeps hm.new hn (exo_ok ht), rfl, h a hn⟩
/-- raise C(e) | raise C() -/
def tMkE (C : Addr) (f : Str) (ta : TA) : L2.St → Hp → XK → Prop := fun σ H Q => ta σ H fun vs H1 => ∃ v, vs = [v] ∧ ∀ d H2, Same H1 H2 → H2 d = some (.xd [(f, v)]) → Q (.ref C) (some d) H2
theorem pmkX (T : Cl1 X.prog X.w X.K X.mg X.base x C f) (hr : Room 2 X.A) (hg : Gl X x) (ha : PA X [e] ta) (hdb : (x == ("__debug__" : Str)) = false := by decide)
    (he : starEach [e] X.env = (false, eval e X.env) :: starEach [] X.env := by rfl) (hpl : (backTo pos (starEach [] X.env)).any (·.1) = false := by rfl) :
    PMk X (.Call (.Name x p) [e] [] pos) (tMkE C f ta) := by
  intro pins s σ H Q I h
  obtain ⟨fI, fd, iC, tI, F, hb, _⟩ := T.ini
  refine wpAny_Call_Name_kw (ld_glob I hg T.gm ?_ hdb)
  refine PySem.W.callWith_K (h₀ := X.base) I.ok.mod.kin T.xc.kp (thn (ha.run pos pins s σ H _ I h) fun us s1 ⟨vs, H1, I1, r, v, ev, q⟩ => ⟨I1.kIn, ?_⟩) he hpl
  subst ev
  refine runMkE (n := 1) (ks := []) (ws := []) (zs := []) T.xc iC tI F hr hb pass0 I1 r .nil rfl rfl (by decide) (fun a ha => ?_)
  refine ⟨a, C, v, rfl, T.xc, T.no, upd_same, fun dx hdx hne => ⟨rfl, dx, [(f, v)], upd_same, ?_, ?_, ?_⟩⟩
  · rw [upd_ne hne, upd_same]
  · rw [upd_ne hne] at hdx
    exact hdx
  · have n1 : H1 dx = none := by
      rw [upd_ne hne] at hdx
      exact hdx
    refine q dx _ (fun b o hb => ?_) upd_same
    have b1 := ne_of_none hb ha
    have b2 := ne_of_none hb n1
    rw [upd_ne b2, del_ne b1, upd_ne b1, upd_ne b2, upd_ne b1]
    exact hb
theorem pmk0 (T : Cl0 X.K X.mg x C) (hg : Gl X x) (hdb : (x == ("__debug__" : Str)) = false := by decide) : PMk X (.Call (.Name x p) [] [] pos) (fun _ H Q => Q (.ref C) none H) := by
  intro pins s σ H Q I h
  refine wpAny_Call_Name_kw (ld_glob I hg T.gm ?_ hdb)
  refine PySem.W.callWith_K0 I.kIn T.xc.kp ?_
  show wpAny _ _ (call (.ref C) []) _ _ _
  obtain ⟨bm, N, nm, qn, bs, hdct, sn, sub, ab, col, dd, k0, k1, k2, k3, k5, mN, hC, hN, hni, O⟩ := exc_obj I.kIn T.own
  refine wpAny_call_exc_subT F.excBase_ValueError O hC hN hni (fun h' e hm => ?_) (Nat.zero_le _)
  exact mk_of I hm (raises_own T.xc.ex T.xc.ty) h (I.hok.gone hm.new)
end
end KX

set_option Elab.async false
set_option linter.all false
set_option maxRecDepth 100000
set_option maxHeartbeats 4000000
namespace KX
open PySem PySem.Spec PyProof.Rows L2
/-- what a suite under «as n» (n in slot i) leaves: the name is gone behind it -/
def asEnds (i : Nat) (D : Ends) : Ends := { nx := fun σ' H' => D.nx (σ'.set i none) H', rt := D.rt, bk := fun σ' H' => D.bk (σ'.set i none) H', ct := fun σ' H' => D.ct (σ'.set i none) H' }
def asSuite (i : Nat) (ts : Addr → Value → Option Addr → TS) : Addr → Value → Option Addr → TS := fun a cls d D σ H => ts a cls d (asEnds i D) (σ.set i (some (.ref a))) H
/-- except clauses, with a name or without -/
inductive Mix (X : Cx) : List ExceptHandler → List (Value × (Addr → Value → Option Addr → TS)) → Prop
  | nil : Mix X [] []
  | bare {x : Str} {c : Value} {ts : Addr → Value → Option Addr → TS} {b : Stmt} {suite : List Stmt} {np q : Pos} {hds : List ExceptHandler} {l : List (Value × (Addr → Value → Option Addr → TS))} (hc : Names X x c)
      (hsu : ∀ (a : Addr) (oe : Obj) (cls : Value) (d : Option Addr) (pn : List (Addr × Obj)), Zc cls d oe → (∃ vs, oe.data = .fields vs) → PSs (X.suite a ((a, oe) :: pn)) (b :: suite) (ts a cls d)) (r : Mix X hds l) :
      Mix X (.ExceptHandler (some (.Name x np)) none (b :: suite) q :: hds) ((c, ts) :: l)
  | named {x n : Str} {i : Nat} {c : Value} {ts : Addr → Value → Option Addr → TS} {b : Stmt} {suite : List Stmt} {np q : Pos} {hds : List ExceptHandler} {l : List (Value × (Addr → Value → Option Addr → TS))} (hc : Names X x c)
      (hN : X.N.Nodup) (hi : X.N[i]? = some n) (hln : X.env.kindOf n = some .local)
      (hsu : ∀ (a : Addr) (oe : Obj) (cls : Value) (d : Option Addr) (pn : List (Addr × Obj)), Zc cls d oe → (∃ vs, oe.data = .fields vs) → PSs (X.suite a ((a, oe) :: pn)) (b :: suite) (ts a cls d)) (r : Mix X hds l) :
      Mix X (.ExceptHandler (some (.Name x np)) (some n) (b :: suite) q :: hds) ((c, asSuite i ts) :: l)
section
variable {X : Cx} {body : List Stmt} {h0 : ExceptHandler} {hds : List ExceptHandler} {l : List (Value × (Addr → Value → Option Addr → TS))} {pos : Pos} {tb : WX → TS} {Wout : WX}
theorem psTryMix (hs : X.stack = X.env :: X.outer) (hf : X.env.frame = some X.env.locals) (tk : Takes X Wout)
    (hb : ∀ (W : WX) (pn : List (Addr × Obj)) (xe : Value → Shared → Prop), Takes (X.tr pn xe) W → PassesOwn (model X.prog X.w) X.A X.env xe → PSs (X.tr pn xe) body (tb W))
    (hh : Mix X (h0 :: hds) l) : PS X (.Try body (h0 :: hds) [] [] pos) (fun D σ H => tb (wMany X.K Wout D l) D σ H) := by
  refine ⟨fun pins s σ H D I h => ?_⟩
  have ok := I.ok
  have frames : X.A.frames = some (X.env :: X.outer) := by
    rw [ok.frames, hs]
  refine wpAny_Try_except ?_
  have inner := hb (wMany X.K Wout D l) (X.pn ++ pins) (fun e s1 => wpAny (model X.prog X.w) X.A (noteFrame e X.env) (fun _ s2 =>
    wpAny (model X.prog X.w) X.A (setFlight e none) (fun _ s3 => wpAny (model X.prog X.w) X.A (handleBy e X.env (h0 :: hds)) (SP X pins D) X.xe s3) X.xe s2) X.xe s1)
  refine wpAny_mono ((inner (fun u s' xx => ?_) PassesOwn.looking).run [] s σ H D (I.toTry _) h) (fun f s1 hsp => ?_) (fun _ _ z => z)
  · obtain ⟨a, B, sI, pins', σ', H', cls, d, rfl, J', nb, up, sky, na, os, ag, w⟩ := xx
    have J : Inv X pins σ' H' sI := J'.ofTry ok
    have sky' : Sky B (X.env :: X.outer) a (Zc cls d) X.env.locals s'.heap := by
      rw [← hs]
      exact sky
    show wpAny (model X.prog X.w) X.A (noteFrame (.ref a) X.env) _ _ _
    refine Sky.land Zc.steady frames hf sky' fun h3 fl3 up3 => ?_
    have J3 : Inv X pins σ' H' { s' with heap := h3 } := J.landed nb fl3.1 (up.trans up3) os ag
    obtain ⟨oe3, vs3, he3, hz3, hd3⟩ := fl3.there
    have out : a ∉ frs (X.env :: X.outer) := fun hm => by
      obtain ⟨_, o', e', hnf⟩ := fl3.2.2.1.mem hm
      rw [he3] at e'
      cases e'
      exact hnf _ hd3
    have nL : a ≠ X.env.locals := fun z => out (List.mem_filterMap.mpr ⟨X.env, List.mem_cons_self, by rw [hf, z]⟩)
    have nF : a ∉ X.fs := fun hm => by
      obtain ⟨e, he, q⟩ := List.mem_filterMap.mp hm
      exact out (List.mem_filterMap.mpr ⟨e, List.mem_cons_of_mem _ he, q⟩)
    have S3 := J3.suite he3 hd3 na nL nF
    have LT : PySem.W.Looks (model X.prog X.w) h3 (typeOf (.ref a)) cls := fun A Q E s k q => wpAny_typeOf_ref (k _ _ he3) (by rw [hz3.1]; exact q)
    have asked : ∀ {x : Str} {c : Value} {np : Pos} {Q E : Value → Shared → Prop}, Names X x c → Q c { s' with heap := h3 } → wpAny (model X.prog X.w) (X.A.mark (some (.ref a))) (eval (.Name x np) X.env) Q E { s' with heap := h3 } := fun {x c np Q E} hc q => by
      obtain ⟨hg, hdbg, hm | ⟨hm, hv, hnn⟩⟩ := hc
      · exact ld_glob (X := X.suite a ((a, oe3) :: (X.pn ++ pins))) S3 hg hm q hdbg
      · exact ld_blt (X := X.suite a ((a, oe3) :: (X.pn ++ pins))) S3 hg hm hv q hnn hdbg
    have go : ∀ {hds' : List ExceptHandler} {l' : List (Value × (Addr → Value → Option Addr → TS))}, Mix X hds' l' → wMany X.K Wout D l' cls d σ' H' →
        wpAny (model X.prog X.w) X.A (handleBy (.ref a) X.env hds') (SP X pins D) X.xe { s' with heap := h3 } := by
      intro hds' l' hk
      induction hk with
      | nil =>
        intro w
        refine wpAny_handleBy_nil ?_
        obtain ⟨k1, k2, k3, oe, vs, T, oT, ts', he, hz, hd, h1, hr⟩ := id fl3
        unfold PySem.passOn
        refine wpAny_bind (wpAny_field he hd h1 ?_)
        rw [if_neg (show ¬ ((Value.ref T == Value.none) = true) from by simp)]
        have fin : wpAny (model X.prog X.w) X.A (setFlight (.ref a) X.env.frame) (fun _ s4 => wpAny (model X.prog X.w) X.A (throw (.ref a) : Sem Flow) (SP X pins D) X.xe s4) X.xe { s' with heap := h3 } := by
          rw [hf]
          refine HandSPX.setFlight_upZ fl3 fun h4 hh4 up4 => wpAny_throw (tk _ _ ?_)
          exact ⟨a, B, sI, pins, σ', H', cls, d, rfl, J, nb, (up.trans up3).trans up4, .inr (.inr (by rw [hs]; exact hh4)), na, os, ag, w⟩
        first
          | exact wpAny_bind (wpAny_pure (wpAny_bind fin))
          | exact wpAny_bind fin
      | @bare x c ts b suite np q hds2 l2 hc hsu r ih =>
        intro w
        obtain ⟨b, hb1, hyes, hno⟩ := w
        refine wpAny_handleBy_cons (codeAny_handlers_test ?_) (by intro q; cases q)
        have LM := PySem.W.exm_one (M := model X.prog X.w) (J3.kIn) LT hb1
        refine asked hc (LM.here ?_)
        cases b with
        | true =>
          refine codeAny_handlers_suite ?_
          refine HandSPX.lands_againZ fl3 fun h4 fl4 up4 => ?_
          have J4 : Inv X pins σ' H' { s' with heap := h4 } := J.landed nb fl4.1 ((up.trans up3).trans up4) os ag
          obtain ⟨oe4, vs4, he4, hz4, hd4⟩ := fl4.there
          have S4 := J4.suite he4 hd4 na nL nF
          refine wpAny_mono ((hsu a oe4 cls d (X.pn ++ pins) hz4 ⟨_, hd4⟩).run [] _ _ H' _ S4 (hyes rfl a na)) (fun f s6 hsp => ?_) (fun _ _ z => False.elim z)
          cases f with
          | ret u =>
            obtain ⟨v6, σ6, H6, S6, r6, q6⟩ := hsp
            exact ⟨_, _, _, S6.unsuite ok, r6, q6⟩
          | _ =>
            obtain ⟨σ6, H6, S6, q6⟩ := hsp
            exact ⟨_, _, S6.unsuite ok, q6⟩
        | false => exact ih (hno rfl)
      | @named x n i c ts b suite np q hds2 l2 hc hN hi hln hsu r ih =>
        intro w
        obtain ⟨b, hb1, hyes, hno⟩ := w
        refine wpAny_handleBy_cons (codeAny_handlers_test ?_) (by intro q; cases q)
        have LM := PySem.W.exm_one (M := model X.prog X.w) (J3.kIn) LT hb1
        refine asked hc (LM.here ?_)
        cases b with
        | true =>
          refine codeAny_handlers_suite_as ?_
          refine HandSPX.lands_againZ fl3 fun h4 fl4 up4 => ?_
          have J4 : Inv X pins σ' H' { s' with heap := h4 } := J.landed nb fl4.1 ((up.trans up3).trans up4) os ag
          obtain ⟨oe4, vs4, he4, hz4, hd4⟩ := fl4.there
          have S4 := J4.suite he4 hd4 na nL nF
          refine store_ok (X := X.suite a ((a, oe4) :: (X.pn ++ pins))) (v := .ref a) S4 hN hi (.inl hln) rfl (fun s5 S5 => ?_) (.inr hln)
          refine wpAny_mono ((hsu a oe4 cls d (X.pn ++ pins) hz4 ⟨_, hd4⟩).run [] s5 _ H' _ S5 (hyes rfl a na)) (fun f s6 hsp => ?_) (fun _ _ z => False.elim z)
          have fin : ∀ {σ6 : L2.St} {H6 : Hp} {Q : Shared → Prop}, Inv (X.suite a ((a, oe4) :: (X.pn ++ pins))) [] σ6 H6 s6 → (∀ s7, Inv X pins (σ6.set i none) H6 s7 → Q s7) →
              wpAny (model X.prog X.w) X.A (do bindName X.env n .none; unbindBehindTheSuite X.env n q) (fun _ s7 => Q s7) X.xe s6 := fun S6 hq => gone_ok (S6.unsuite ok) hN hi hln hq
          cases f with
          | ret u =>
            obtain ⟨v6, σ6, H6, S6, r6, q6⟩ := hsp
            exact fin S6 fun s7 J7 => ⟨_, _, _, J7, r6, q6⟩
          | next =>
            obtain ⟨σ6, H6, S6, q6⟩ := hsp
            exact fin S6 fun s7 J7 => ⟨_, _, J7, q6⟩
          | brk =>
            obtain ⟨σ6, H6, S6, q6⟩ := hsp
            exact fin S6 fun s7 J7 => ⟨_, _, J7, q6⟩
          | cont =>
            obtain ⟨σ6, H6, S6, q6⟩ := hsp
            exact fin S6 fun s7 J7 => ⟨_, _, J7, q6⟩
        | false => exact ih (hno rfl)
    exact go hh w
  · cases f with
    | ret u =>
      obtain ⟨v, σ', H', J', r, q⟩ := hsp
      exact ⟨v, σ', H', J'.ofTry ok, r, q⟩
    | next =>
      obtain ⟨σ', H', J', q⟩ := hsp
      exact wpAny_execs_nil ⟨σ', H', J'.ofTry ok, q⟩
    | brk =>
      obtain ⟨σ', H', J', q⟩ := hsp
      exact ⟨σ', H', J'.ofTry ok, q⟩
    | cont =>
      obtain ⟨σ', H', J', q⟩ := hsp
      exact ⟨σ', H', J'.ofTry ok, q⟩
end
end KX

set_option Elab.async false
set_option linter.all false
set_option maxRecDepth 100000
set_option maxHeartbeats 4000000
namespace KS.La
open PySem PySem.Spec PyProof.Rows L2 KX
/-! ### the program's walk -/
/-- data stand where all but lists stand -/
theorem dpKTo {K : PySem.W.Frag} {H H' : Hp} (k : KT H H') {n : Nat} {d : PyData} (o : Od n d) : ∀ v, Dp K H v d → Dp K H' v d := by
  induction o with
  | non n => exact fun v h => by cases h; exact .non
  | bl n b => exact fun v h => by cases h; exact .bl _
  | int n i => exact fun v h => by cases h; exact .int _
  | str n h _ => exact fun v h => by cases h; exact .str _
  | tup h h2 ih =>
    intro v hv
    cases hv with
    | tup hx hd => exact .tup (k.tup hx) (allKT ih hd)
structure Ent where
  n : Nat
  d : PyData
  ps : List Nat
  ws : List PyData
def firstRes : List Ent → Option (List Nat)
  | [] => none
  | E :: r => match ff E.n E.ws E.ps E.d with
    | some p => some p
    | none => firstRes r
def cnt : Nat → PyData → Nat
  | 0, _ => 1
  | n + 1, d => 1 + ((inD d).map (cnt n)).sum
def cntS : List Ent → Nat
  | [] => 0
  | E :: r => cnt E.n E.d + cntS r
def FineS (N : Nat) : List Ent → Prop
  | [] => True
  | E :: r => E.n ≤ N ∧ r.length ≤ 101 * (N - E.n) ∧ FineS N r
def ents (n : Nat) (ps : List Nat) (ws : List PyData) : Nat → List PyData → List Ent
  | _, [] => []
  | i, e :: r => ⟨n, e, ps ++ [i], ws⟩ :: ents n ps ws (i + 1) r
theorem ents_len (n : Nat) (ps : List Nat) (ws : List PyData) : ∀ (l : List PyData) (i : Nat), (ents n ps ws i l).length = l.length
  | [], _ => rfl
  | _ :: r, i => by
    show (ents n ps ws (i + 1) r).length + 1 = r.length + 1
    rw [ents_len n ps ws r]
theorem firstRes_ents (n : Nat) (ps : List Nat) (ws : List PyData) (S : List Ent) : ∀ (l : List PyData) (i : Nat), firstRes (ents n ps ws i l ++ S) = match firstSome (fun i e => ff n ws (ps ++ [i]) e) i l with
    | some p => some p
    | none => firstRes S
  | [], _ => rfl
  | e :: r, i => by
    have h := firstRes_ents n ps ws S r (i + 1)
    show (match ff n ws (ps ++ [i]) e with
      | some p => some p
      | none => firstRes (ents n ps ws (i + 1) r ++ S)) = match (match ff n ws (ps ++ [i]) e with
      | some p => some p
      | none => firstSome (fun i e => ff n ws (ps ++ [i]) e) (i + 1) r) with
      | some p => some p
      | none => firstRes S
    rw [h]
    cases ff n ws (ps ++ [i]) e <;> rfl
theorem cntS_ents (n : Nat) (ps : List Nat) (ws : List PyData) (S : List Ent) : ∀ (l : List PyData) (i : Nat), cntS (ents n ps ws i l ++ S) = (l.map (cnt n)).sum + cntS S
  | [], _ => by
    show cntS S = 0 + cntS S
    omega
  | e :: r, i => by
    have h := cntS_ents n ps ws S r (i + 1)
    show cnt n e + cntS (ents n ps ws (i + 1) r ++ S) = (cnt n e + (r.map (cnt n)).sum) + cntS S
    omega
theorem fine_ents {N n : Nat} {ps : List Nat} {ws : List PyData} {S : List Ent} (h : n + 1 ≤ N) (hS : FineS N S) (hl : S.length ≤ 101 * (N - (n + 1))) : ∀ (l : List PyData) (i : Nat), l.length ≤ 101 → FineS N (ents n ps ws i l ++ S)
  | [], _, _ => hS
  | e :: r, i, hr => by
    have hr' : r.length + 1 ≤ 101 := hr
    refine ⟨by show n ≤ N; omega, ?_, fine_ents h hS hl r (i + 1) (by omega)⟩
    show (ents n ps ws (i + 1) r ++ S).length ≤ 101 * (N - n)
    rw [List.length_append, ents_len]
    have : N - n = (N - (n + 1)) + 1 := by omega
    rw [this, Nat.mul_add]
    omega
theorem ffNo {n : Nat} {ws : List PyData} {ps : List Nat} {d : PyData} (h : isNd ws d = false) : ff n ws ps d = some ps := by
  cases n <;> (show (if isNd ws d = true then _ else some ps) = some ps; rw [h]; rfl)
theorem ffYes {n : Nat} {ws : List PyData} {ps : List Nat} {d : PyData} (h : isNd ws d = true) : ff (n + 1) ws ps d = firstSome (fun i e => ff n (wsD ws d) (ps ++ [i]) e) 0 (inD d) := by
  show (if isNd ws d = true then _ else some ps) = _
  rw [h]
  rfl
theorem inLen {ws : List PyData} {d : PyData} {n : Nat} (h : isNd ws d = true) (od : Od n d) : (inD d).length ≤ 101 := by
  rcases ndShape h with rfl | ⟨a, b, c, rfl, ha, _⟩ | ⟨a, b, c, rfl, _, hb⟩
  · simp [inD]
  · simp [inD, writeNe.2.2.1]
  · obtain ⟨cs, rfl, hcs⟩ := csTuple hb
    cases od with
    | tup _ h2 =>
      have o := h2 (.tuple cs) (by simp)
      cases o with
      | tup h _ =>
        simp [inD, caseNodes, writeNe.2.2.2.2.1]
        omega
def EntOk (K : PySem.W.Frag) (H0 H : Hp) (v : V) (E : Ent) : Prop := ∃ (t : Addr) (x : V) (pa wa : Addr) (zs : List V), v = .ref t ∧ SqT K H t [x, .ref pa, .ref wa] ∧ Dp K H x E.d ∧ SqT K H pa (E.ps.map nI) ∧ SqT K H wa zs ∧ DpAll K H0 zs E.ws ∧
  Od E.n E.d ∧ WsOk E.ws ∧ E.ps.length + E.n ≤ 300 ∧ E.ws.length + E.n ≤ 300
inductive StOk (K : PySem.W.Frag) (H0 H : Hp) : List V → List Ent → Prop
  | nil : StOk K H0 H [] []
  | cons {v : V} {E : Ent} {vs : List V} {Es : List Ent} (h : EntOk K H0 H v E) (r : StOk K H0 H vs Es) : StOk K H0 H (v :: vs) (E :: Es)
theorem StOk.kt {K : PySem.W.Frag} {H0 H H' : Hp} (k : KT H H') {vs : List V} {Es : List Ent} (h : StOk K H0 H vs Es) : StOk K H0 H' vs Es := by
  induction h with
  | nil => exact .nil
  | cons h r ih =>
    obtain ⟨t, x, pa, wa, zs, rfl, h1, h2, h3, h4, h5, h6, h7⟩ := h
    exact .cons ⟨t, x, pa, wa, zs, rfl, k.tup h1, dpKTo k h6 _ h2, k.tup h3, k.tup h4, h5, h6, h7⟩ ih
theorem StOk.len {K : PySem.W.Frag} {H0 H : Hp} {vs : List V} {Es : List Ent} (h : StOk K H0 H vs Es) : vs.length = Es.length := by
  induction h with
  | nil => rfl
  | cons _ _ ih => rw [List.length_cons, List.length_cons, ih]
theorem lcMapG {K : PySem.W.Frag} {a : Addr} {xs : List V} {ds : List PyData} {vs : List Nat} {gt : TG} {te : TE} {σ : L2.St} {H1 : Hp} {D : Addr} {Qd : Hp → Prop} (g : PyData → PyData) (ha : SqT K H1 a xs) (hx : DpAll K H1 xs ds) (hn : ds.length ≤ 1000) (hD : H1 D = none)
    (hs : ∀ v d H, d ∈ ds → Same H1 H → Dp K H1 v d → ∀ (R : VK) (N : Hp → Prop), (∀ y H2, Same H H2 → Dp K H1 y (g d) → R y H2) → gt v (wipe σ vs) H fun σ2 H2 => wipe σ2 vs = wipe σ vs ∧ tYes σ2 H2 fun b H3 => if b = true then te σ2 H3 R else N H3)
    (hd : ∀ H ys, Same H1 H → H D = some (.lst ys) → DpAll K H1 ys (ds.map g) → Qd H) :
    ∃ W : Nat → Nat → Hp → Prop, (∃ m, W 0 m (upd H1 D (.lst []))) ∧ ∀ i m H, W i m H →
      ((Itt K a).stop i H ∧ Qd H) ∨ ((Itt K a).go i H ∧ ∃ Nx : Hp → Prop, (∀ H', Nx H' → ∃ m', m' < m ∧ W (i + 1) m' H') ∧ ∀ x H', (Itt K a).yld i H x H' → gt x (wipe σ vs) H' fun σ2 H2 => wipe σ2 vs = wipe σ vs ∧ tYes σ2 H2 fun b H3 =>
        if b = true then te σ2 H3 fun y H4 => ∃ acc, H4 D = some (.lst acc) ∧ acc.length < sizeLine ∧ Nx (upd H4 D (.lst (acc ++ [y]))) else Nx H3) := by
  have hl := dpLen hx
  refine lcJ (n := ds.length) (fun i H => ∃ ys, At H1 D ys H ∧ DpAll K H1 ys ((ds.take i).map g)) ⟨[], ⟨sameUpd hD, upd_same⟩, .nil⟩ (fun i H lt h => ⟨xs, xs[i], sameTup h.choose_spec.1.1 ha, List.getElem?_eq_getElem (by omega)⟩)
    (fun H h => ⟨xs, sameTup h.choose_spec.1.1 ha, by omega⟩) (fun i H x H' lt h y => ?_) (fun H h => ?_)
  · obtain ⟨ys, hat, hys⟩ := h
    obtain ⟨rfl, y⟩ := y
    have e := y xs (sameTup hat.1 ha)
    have e2 : ds[i]? = some ds[i] := List.getElem?_eq_getElem lt
    obtain ⟨v, h1, h2⟩ := dpAt hx e2
    obtain rfl : v = x := Option.some.inj (h1.symm.trans e)
    refine hs v ds[i] _ (List.getElem_mem lt) hat.1 h2 _ _ fun z H2 s2 hz => ?_
    obtain ⟨e3, e4⟩ := hat.put (ys := ys ++ [z]) hD s2
    have hly := dpLen hys
    refine ⟨_, e3, ?_, _, e4, ?_⟩
    · rw [hly, List.length_map, List.length_take, sizeLine_eq]
      omega
    · rw [List.take_succ_eq_append_getElem lt, List.map_append]
      exact dpSnoc hz hys
  · obtain ⟨ys, hat, hys⟩ := h
    rw [List.take_length] at hys
    exact hd H ys hat.1 hat.2 hys
def spInner (K : PySem.W.Frag) (n : Nat) : Sp := fun vs H Q _ => ∃ v d ws, vs = [v] ∧ Dp K H v d ∧ Od n d ∧ isNd ws d = true ∧ ∀ p xs H', H p = none → Same H H' → H' p = some (.lst xs) → DpAll K H xs (inD d) → Q (.ref p) H'
section
variable {P : Program} {w : World} {K : PySem.W.Frag} {mg : Str → Option Value} {base : Heap} {f : Addr} {fd : FuncData}
theorem scInner : FnScope ["node", "_", "inner"] ["node"] (defScope sInner) := ⟨rfl, rfl, rfl, by decide +kernel, rfl, by decide +kernel, by decide +kernel⟩
theorem okInner {k n : Nat} (F : FnP K "_inner_nodes" sInner f fd) : FnOk P w K mg base CX0 (k + 1) f fd ["node"] (spInner K n) := by
  refine F.ok scInner (fun vs H Q E h => ?_) (fun cdv A outer s H vs Q E hr h => ?_)
  · obtain ⟨v, d, ws, rfl, _⟩ := h
    rfl
  · obtain ⟨v, d, ws, rfl, hd, od, e, q⟩ := h
    refine ⟨_, PSs.nox (pss_cons (ps_if (pt_cmpR (op_eqD hr.units) (pe_ix ix_tup (pv 0) pe_int (fun _ _ => rfl)) pe_str (nomark _)) (pss_one (ps_ret (pe_lst (pa_cons (pe_ix ix_tup (pv 0) pe_int (fun _ _ => rfl)) pa_nil)))) pss_nil) (pss_cons (ps_if (pt_cmpR (op_eqD hr.units) (pe_ix ix_tup (pv 0) pe_int (fun _ _ => rfl)) pe_str (nomark _)) (pss_one (ps_ret (pe_op op_cat (pe_lc (own := [("_", 1), ("inner", 2)]) (g := gTup K 2 (gCons (gName 1) (gCons (gName 2) gNil))) rfl scInner.nd (pi_tup (pe_ix ix_tup (pv 0) pe_int (fun _ _ => rfl))) (blkOk_by (N := ["node", "_", "inner"]) (sc := defScope sInner) (by decide +kernel))
          (fun _ _ _ _ _ => pg_tup rfl (pgs_cons (pg_name (i := 1) scInner.nd rfl (.inl rfl) (hf := .inr rfl)) (pgs_cons (pg_name (i := 2) scInner.nd rfl (.inl rfl) (hf := .inr rfl)) pgs_nil))) (fun _ _ _ _ _ => pts_nil) (fun _ _ _ _ _ => pv 2)) (pe_lst (pa_cons (pe_ix ix_tup (pv 0) pe_int (fun _ _ => rfl)) pa_nil))))) pss_nil) (pss_one (ps_ret (pe_lst pa_nil))))), ?_⟩
    rcases ndShape e with rfl | ⟨a, b, c, rfl, ha, _⟩ | ⟨a, b, c, rfl, _, hb⟩
    · obtain ⟨t, ys, rfl, hy, hds⟩ := dpTup hd
      obtain ⟨y0, rfl, h0⟩ := dpOne hds
      refine ⟨.ref t, rfl, t, _, 0, y0, rfl, rfl, hy, atI_nat (j := 0) rfl, .str "stop", .str "write", h0, .str _, by decide +kernel, by decide +kernel, _, rfl, ?_⟩
      rw [eqvSW]
      refine iteF ⟨.ref t, rfl, t, _, 0, y0, rfl, rfl, hy, atI_nat (j := 0) rfl, .str "stop", .str "read", h0, .str _, by decide +kernel, by decide +kernel, _, rfl, ?_⟩
      rw [eqvSR]
      refine iteF ⟨(by show 0 ≤ sizeLine; exact Nat.zero_le _), fun p hp => q p [] _ hp (sameUpd hp) upd_same ?_⟩
      have e6 : inD (.tuple [.str "stop"]) = [] := rfl
      rw [e6]
      exact .nil
    · obtain ⟨t, ys, rfl, hy, hds⟩ := dpTup hd
      obtain ⟨y0, y1, y2, y3, rfl, h0, h1, h2, h3⟩ := dpFour hds
      refine ⟨.ref t, rfl, t, _, 0, y0, rfl, rfl, hy, atI_nat (j := 0) rfl, .str "write", .str "write", h0, .str _, by decide +kernel, by decide +kernel, _, rfl, ?_⟩
      rw [eqvWW]
      refine iteT ⟨.ref t, rfl, t, _, 3, y3, rfl, rfl, hy, atI_nat (j := 3) rfl, (by show 1 ≤ sizeLine; decide), fun p hp => q p [y3] _ hp (sameUpd hp) upd_same ?_⟩
      have e5 : inD (.tuple [.str "write", a, b, c]) = [c] := by simp [inD, writeNe.2.2.1]
      rw [e5]
      exact .cons h3 .nil
    · obtain ⟨cs, rfl, hcs⟩ := csTuple hb
      obtain ⟨t, ys, rfl, hy, hds⟩ := dpTup hd
      obtain ⟨y0, y1, y2, y3, rfl, h0, h1, h2, h3⟩ := dpFour hds
      obtain ⟨t2, cxs, rfl, hy2, hc2⟩ := dpTup h2
      have lcs : cs.length ≤ 100 := by
        cases od with
        | tup _ h2 =>
          have o := h2 (.tuple cs) (by simp)
          cases o with
          | tup h _ => exact h
      refine ⟨.ref t, rfl, t, _, 0, y0, rfl, rfl, hy, atI_nat (j := 0) rfl, .str "read", .str "write", h0, .str _, by decide +kernel, by decide +kernel, _, rfl, ?_⟩
      rw [eqvRW]
      refine iteF ⟨.ref t, rfl, t, _, 0, y0, rfl, rfl, hy, atI_nat (j := 0) rfl, .str "read", .str "read", h0, .str _, by decide +kernel, by decide +kernel, _, rfl, ?_⟩
      rw [eqvRR]
      refine iteT ⟨.ref t, rfl, t, _, 2, .ref t2, rfl, rfl, hy, atI_nat (j := 2) rfl, t2, rfl, ⟨cxs, hy2⟩, fun D hD => ?_⟩
      refine lcMapG second hy2 hc2 (by omega) hD (fun v d H4 hm s4 hd4 R N hR => ?_) (fun H4 ys4 s4 e4 hys4 => ?_)
      · obtain ⟨a', x', rfl⟩ := csShape (hcs d hm)
        obtain ⟨g, gs, rfl, hg, hgs⟩ := dpTup hd4
        obtain ⟨g0, g1, rfl, k0, k1⟩ := dpTwo hgs
        refine ⟨g, [g0, g1], rfl, sameTup s4 hg, rfl, g0, [g1], rfl, g1, [], rfl, rfl, rfl, ?_⟩
        unfold tYes
        dsimp only
        rw [if_pos rfl]
        refine ⟨g1, rfl, hR g1 H4 (Same.refl _) ?_⟩
        exact k1
      · refine ⟨.ref t, rfl, t, _, 3, y3, rfl, rfl, sameTup s4 hy, atI_nat (j := 3) rfl, (by show 1 ≤ sizeLine; decide), fun p5 hp5 => ?_⟩
        have s5 := sameUpd (o := .lst [y3]) hp5
        have hL5 : upd H4 p5 (.lst [y3]) p5 = some (.lst [y3]) := upd_same
        generalize upd H4 p5 (.lst [y3]) = H5 at s5 hL5 ⊢
        have hly := dpLen hys4
        refine ⟨D, p5, ys4, [y3], rfl, rfl, s5 _ _ e4, hL5, by rw [hly, List.length_map, sizeLine_eq]; show cs.length + 1 ≤ _; omega, fun p6 hp6 => ?_⟩
        have s6 := sameUpd (o := .lst (ys4 ++ [y3])) hp6
        have sA := (s4.trans s5).trans s6
        have hp0 : H p6 = none := by
          cases hh : H p6 with
          | none => rfl
          | some o => rw [(s4.trans s5) _ _ hh] at hp6; cases hp6
        refine q p6 (ys4 ++ [y3]) _ hp0 sA upd_same ?_
        have e5 : inD (.tuple [.str "read", a, .tuple cs, c]) = cs.map second ++ [c] := by simp [inD, caseNodes, writeNe.2.2.2.2.1]
        rw [e5]
        exact dpSnoc h3 hys4
end
end KS.La

set_option Elab.async false
set_option linter.all false
set_option maxRecDepth 100000
set_option maxHeartbeats 4000000
namespace KS.La
open PySem PySem.Spec PyProof.Rows L2 KX
def spCheck (K : PySem.W.Frag) (BT : Addr) (n : Nat) : Sp := fun vs H Q E => ∃ v d, vs = [v] ∧ Dp K H v d ∧ Od n d ∧ (n ≤ 60 ∨ (NodeOk d ∧ isNd [] d = false)) ∧ (ff n [] [] d = none → ∀ H', Same H H' → Q .non H') ∧
  ∀ p, ff n [] [] d = some p → ∀ H' dd a, Same H H' → H' dd = some (.xd [("path", .ref a)]) → SqT K H' a (p.map nI) → E (.ref BT) (some dd) H'
section
variable {P : Program} {w : World} {K : PySem.W.Frag} {mg : Str → Option Value} {base : Heap} {f : Addr} {fd : FuncData}
abbrev nCheck : List Str := ["top", "waiting", "node", "path", "written", "inner", "at"]
theorem scCheck : FnScope nCheck ["top"] (defScope sCheck) := ⟨rfl, rfl, rfl, by decide +kernel, rfl, by decide +kernel, by decide +kernel⟩
theorem okCheck {k n : Nat} {BT : Addr} (hn : n ≤ 199) (F : FnP K "_check_tree" sCheck f fd) (B : Bn mg) (mr : mg "reversed" = none) (C : Cl1 P w K mg base "BadTree" BT "path") (Nd : ∀ n, Has P w K mg base (k + 5) "_is_node" ["value", "written"] (spNode K n)) (In : ∀ n, Has P w K mg base (k + 5) "_inner_nodes" ["node"] (spInner K n)) :
    FnOk P w K mg base (L2.CX P w) (k + 6) f fd ["top"] (spCheck K BT n) := by
  refine F.ok scCheck (fun vs H Q E h => ?_) (fun cdv A outer s H vs Q E hr h => ?_)
  · obtain ⟨v, d, rfl, _⟩ := h
    rfl
  · obtain ⟨v, d, rfl, hd, od, hgood, q1, q2⟩ := h
    obtain ⟨fN, fdN, gN, kN, bN, GN⟩ := (Nd 199).ex
    obtain ⟨fI, fdI, gI, kI, bI, GI⟩ := (In 199).ex
    refine ⟨_, (pss_cons (ps_set (i := 1) scCheck.nd rfl (.inl rfl) (pe_lst (pa_cons (pe_tup (pa_cons (pv 0) (pa_cons (pe_tup pa_nil) (pa_cons (pe_tup pa_nil) pa_nil)))) pa_nil))) (pss_one (ps_while (passes_of rfl) (pt_truth (pv 1) (by intro _; rfl))
        (pss_cons (ps_asg (pe_bm0 PySem.F.plainAttrs_list PySem.F.slot_list_pop PySem.F.type_list_pop mt_pop (pv 1)) (pg_tup rfl (pgs_cons (pg_name (i := 2) scCheck.nd rfl (.inl rfl)) (pgs_cons (pg_name (i := 3) scCheck.nd rfl (.inl rfl)) (pgs_cons (pg_name (i := 4) scCheck.nd rfl (.inl rfl)) pgs_nil))))) (pss_cons (ps_if (pt_not (pt_val (pe_call GN hr (by rfl) gN kN bN .nil pass0 (pa_cons (pv 2) (pa_cons (pv 4) pa_nil))))) (pss_one (ps_raise rfl (takes_of rfl rfl rfl rfl) (pmkX C (hr.mono (by omega)) (by rfl) (pa_cons (pv 3) pa_nil)))) pss_nil) (pss_cons (ps_set (i := 5) scCheck.nd rfl (.inl rfl) (pe_call GI hr (by rfl) gI kI bI .nil pass0 (pa_cons (pv 2) pa_nil))) (C8.pss_cut (ps_if (pt_cmpR (op_eqD hr.units) (pe_ix ix_tup (pv 2) pe_int (fun _ _ => rfl)) pe_str (nomark _)) (pss_one (ps_set (i := 4) scCheck.nd rfl (.inl rfl) (pe_tup (StX.pa_star (pv 4) (pa_cons (pe_ix ix_tup (pv 2) pe_int (fun _ _ => rfl)) pa_nil))))) pss_nil) (pss_one (ps_for (passes_of rfl) rfl (pi_revR (by rfl) mr (prg_1 (by rfl) B.range (pe_callB call_len_seq (by rfl) B.len PySem.boot_len (pa_cons (pv 5) pa_nil)))) (pg_name (i := 6) scCheck.nd rfl (.inl rfl))
            (pss_one (ps_expr (pe_bm PySem.F.plainAttrs_list PySem.F.slot_list_append PySem.F.type_list_append mt_append (pv 1) (pa_cons (pe_tup (pa_cons (pe_ix ix_list (pv 5) (pv 6) (fun _ _ => rfl)) (pa_cons (pe_tup (StX.pa_star (pv 3) (pa_cons (pv 6) pa_nil))) (pa_cons (pv 4) pa_nil)))) pa_nil))))))))))))), ?_⟩
    refine ⟨v, rfl, (by show 0 ≤ sizeLine; exact Nat.zero_le _), fun p1 n1 => ⟨(by show 0 ≤ sizeLine; exact Nat.zero_le _), fun p2 n2 => ⟨(by show 3 ≤ sizeLine; decide), fun p3 n3 => ⟨(by show 1 ≤ sizeLine; decide), fun W nW => ?_⟩⟩⟩⟩
    have s1 := sameUpd (o := .tup []) n1
    have e1 : upd H p1 (.tup []) p1 = some (.tup []) := upd_same
    generalize upd H p1 (.tup []) = H1 at *
    have s2 := sameUpd (o := .tup []) n2
    have e2 : upd H1 p2 (.tup []) p2 = some (.tup []) := upd_same
    generalize upd H1 p2 (.tup []) = H2 at *
    have s3 := sameUpd (o := .tup [v, .ref p1, .ref p2]) n3
    have e3 : upd H2 p3 (.tup [v, .ref p1, .ref p2]) p3 = some (.tup [v, .ref p1, .ref p2]) := upd_same
    generalize upd H2 p3 (.tup [v, .ref p1, .ref p2]) = H3 at *
    have s4 := sameUpd (o := .lst [.ref p3]) nW
    have e4 : upd H3 W (.lst [.ref p3]) W = some (.lst [.ref p3]) := upd_same
    generalize upd H3 W (.lst [.ref p3]) = H4 at *
    have sA := ((s1.trans s2).trans s3).trans s4
    have hWn : H W = none := by
      cases hh : H W with
      | none => rfl
      | some o => rw [((s1.trans s2).trans s3) _ _ hh] at nW; cases nW
    have first : StOk K H H4 [.ref p3] [⟨n, d, [], []⟩] := .cons ⟨p3, v, p1, p2, [], rfl, .inl (.inl (s4 _ _ e3)), dpSame sA _ _ hd, .inl (.inl (s4 _ _ (s3 _ _ (s2 _ _ e1)))), .inl (.inl (s4 _ _ (s3 _ _ e2))), .nil, od, fun z hz => absurd hz (by simp), by show 0 + n ≤ 300; omega, by show 0 + n ≤ 300; omega⟩ .nil
    refine ⟨fun m σ' H' => ∃ (b c e f g : Option V) (rs : List V) (S : List Ent), σ' = [some v, some (.ref W), b, c, e, f, g] ∧ Same H H' ∧ H' W = some (.lst rs.reverse) ∧ StOk K H H' rs S ∧ FineS n S ∧ m = cntS S ∧ firstRes S = ff n [] [] d ∧ (n ≤ 60 ∨ (S = [⟨n, d, [], []⟩] ∧ NodeOk d ∧ isNd [] d = false)),
      ⟨_, none, none, none, none, none, [.ref p3], [⟨n, d, [], []⟩], rfl, sA, e4, first, ⟨Nat.le_refl _, Nat.zero_le _, trivial⟩, rfl, ?_, ?_⟩, fun m σ' H' hw => ?_⟩
    · show (match ff n [] [] d with
        | some p => some p
        | none => none) = _
      cases ff n [] [] d <;> rfl
    · rcases hgood with z | ⟨z1, z2⟩
      · exact .inl z
      · exact .inr ⟨rfl, z1, z2⟩
    obtain ⟨b, c, e, g, g2, rs, S, rfl, sH, hW, hS, hF, rfl, hres, hok⟩ := hw
    cases hS with
    | nil =>
      refine ⟨.ref W, rfl, false, .inl ⟨[], .inl (.inl hW), rfl⟩, iteF ?_⟩
      exact q1 hres.symm H' sH
    | @cons v1 E1 rs S h1 hr1 =>
      refine ⟨.ref W, rfl, true, .inl ⟨_, .inl (.inl hW), by simp⟩, iteT ?_⟩
      refine ⟨fun σ2 H2 => ∃ m', m' < cntS (E1 :: S) ∧ ∃ (b c e f g : Option V) (rs : List V) (S : List Ent), σ2 = [some v, some (.ref W), b, c, e, f, g] ∧ Same H H2 ∧ H2 W = some (.lst rs.reverse) ∧ StOk K H H2 rs S ∧ FineS n S ∧ m' = cntS S ∧ firstRes S = ff n [] [] d ∧ (n ≤ 60 ∨ (S = [⟨n, d, [], []⟩] ∧ NodeOk d ∧ isNd [] d = false)), fun _ _ z => z, ?_⟩
      obtain ⟨n0, d0, ps0, ws0⟩ := E1
      obtain ⟨t, x, pa, wa, zs, rfl, ht, hx, hpa, hwa, hzs, hod, hwok, hpl, hwl⟩ := h1
      dsimp only at hx hpa hzs hod hwok hpl hwl
      obtain ⟨hF1, hF2, hF3⟩ := hF
      dsimp only at hF1 hF2
      have hlast : (V.ref t :: rs).reverse[(V.ref t :: rs).reverse.length - 1]? = some (.ref t) := by
        rw [List.reverse_cons, List.length_append, List.length_singleton, Nat.add_sub_cancel, List.getElem?_append_right (Nat.le_refl _), Nat.sub_self]
        rfl
      have hdrop : (V.ref t :: rs).reverse.dropLast = rs.reverse := by rw [List.reverse_cons, List.dropLast_concat]
      refine ⟨.ref W, rfl, .inl ⟨rfl, _, .inl (.inl hW)⟩, W, _, .ref t, rfl, rfl, hW, hlast, ?_⟩
      rw [hdrop]
      have kt1 : KT H' (upd H' W (.lst rs.reverse)) := KT.put hW
      have sH2 : Same H (upd H' W (.lst rs.reverse)) := fun b o hb => by
        rw [upd_ne (ne_of_none hb hWn)]
        exact sH _ _ hb
      have hW2 : upd H' W (.lst rs.reverse) W = some (.lst rs.reverse) := upd_same
      generalize upd H' W (.lst rs.reverse) = H5 at kt1 sH2 hW2 ⊢
      refine ⟨t, _, rfl, kt1.tup ht, rfl, x, _, rfl, _, _, rfl, _, _, rfl, rfl, ?_⟩
      have nok : NodeOk d0 := by
        rcases hok with z | ⟨z, z2, _⟩
        · exact .inl ((hod.up (m := 60) (by omega)).shaped (by omega))
        · injection z with z _
          injection z with _ z
          rw [z]
          exact z2
      refine ⟨x, rfl, .ref wa, rfl, x, .ref wa, d0, ws0, rfl, dpKTo kt1 hod _ hx, hod.up (by omega), nok, .tup (kt1.tup hwa) (dpAllSame sH2 _ _ hzs), hwok.shapedT, fun H6 s6 => ⟨_, rfl, ?_⟩⟩
      cases hnd : isNd ws0 d0 with
      | false =>
        refine iteT ⟨.ref pa, rfl, .ref pa, rfl, fun dd H7 s7 hdd => ?_⟩
        have hr0 : firstRes (⟨n0, d0, ps0, ws0⟩ :: S) = some ps0 := by
          show (match ff n0 ws0 ps0 d0 with
            | some p => some p
            | none => firstRes S) = _
          rw [ffNo hnd]
        refine q2 ps0 (hres.symm.trans hr0) H7 dd pa ((sH2.trans s6).trans s7) hdd (sameTup (s6.trans s7) (kt1.tup hpa))
      | true =>
        obtain ⟨n1, rfl⟩ : ∃ n1, n0 = n1 + 1 := by
          cases n0 with
          | zero => exact absurd hnd (by cases hod <;> simp [isNd, PyData.eqv])
          | succ n1 => exact ⟨n1, rfl⟩
        have n60 : n ≤ 60 := by
          rcases hok with z | ⟨z, _, z3⟩
          · exact z
          · injection z with z _
            injection z with _ z z' z''
            rw [z, z''] at hnd
            rw [hnd] at z3
            cases z3
        refine iteF ⟨x, rfl, x, d0, ws0, rfl, dpSame s6 _ _ (dpKTo kt1 hod _ hx), hod.up (by omega), hnd, fun L xs H7 nL s7 hL hxs => ?_⟩
        have sH7 := (sH2.trans s6).trans s7
        have hxs0 : DpAll K H7 xs (inD d0) := dpAllSame s7 _ _ hxs
        have hpa7 := sameTup (s6.trans s7) (kt1.tup hpa)
        have hwa7 := sameTup (s6.trans s7) (kt1.tup hwa)
        have hW7 := (s6.trans s7) _ _ hW2
        have neL : L ≠ W := fun z => by rw [z, (s6 _ _ hW2)] at nL; cases nL
        have kt7 : KT H' H7 := kt1.trans (KT.same (s6.trans s7))
        refine ⟨fun σ' H8 => ∃ wa' zs', σ' = [some v, some (.ref W), some x, some (.ref pa), some (.ref wa'), some (.ref L), g2] ∧ Same H7 H8 ∧ SqT K H8 wa' zs' ∧ DpAll K H zs' (wsD ws0 d0), ?_, ?_⟩
        · have hx7 := dpSame (s6.trans s7) _ _ (dpKTo kt1 hod _ hx)
          rcases ndShape hnd with rfl | ⟨a, b', c', rfl, ha, _⟩ | ⟨a, b', c', rfl, _, hb⟩
          · obtain ⟨t', ys, rfl, hy, hds⟩ := dpTup hx7
            obtain ⟨y0, rfl, h0⟩ := dpOne hds
            refine ⟨.ref t', rfl, t', _, 0, y0, rfl, rfl, hy, atI_nat (j := 0) rfl, .str "stop", .str "write", h0, .str _, by decide +kernel, by decide +kernel, _, rfl, ?_⟩
            rw [eqvSW]
            refine iteF ⟨wa, zs, rfl, Same.refl _, hwa7, ?_⟩
            have e5 : wsD ws0 (.tuple [.str "stop"]) = ws0 := rfl
            rw [e5]
            exact hzs
          · obtain ⟨t', ys, rfl, hy, hds⟩ := dpTup hx7
            obtain ⟨y0, y1, y2, y3, rfl, h0, h1, h2, h3⟩ := dpFour hds
            obtain ⟨a0, rfl⟩ := nmStr ha
            refine ⟨.ref t', rfl, t', _, 0, y0, rfl, rfl, hy, atI_nat (j := 0) rfl, .str "write", .str "write", h0, .str _, by decide +kernel, by decide +kernel, _, rfl, ?_⟩
            rw [eqvWW]
            have hlz := dpLen hzs
            refine iteT ⟨.ref wa, rfl, wa, zs, rfl, .inl hwa7, .ref t', rfl, t', _, 1, y1, rfl, rfl, hy, atI_nat (j := 1) rfl, ?_, fun p8 n8 => ?_⟩
            · rw [List.length_append, hlz, sizeLine_eq]
              show ws0.length + 1 ≤ _
              omega
            refine ⟨p8, zs ++ [y1], rfl, sameUpd n8, .inl (.inl upd_same), ?_⟩
            have e5 : wsD ws0 (.tuple [.str "write", .str a0, b', c']) = ws0 ++ [.str a0] := by simp [wsD, writeNe.2.2.1]
            rw [e5]
            refine dpSnoc ?_ hzs
            cases h1
            exact .str _
          · obtain ⟨t', ys, rfl, hy, hds⟩ := dpTup hx7
            obtain ⟨y0, y1, y2, y3, rfl, h0, h1, h2, h3⟩ := dpFour hds
            refine ⟨.ref t', rfl, t', _, 0, y0, rfl, rfl, hy, atI_nat (j := 0) rfl, .str "read", .str "write", h0, .str _, by decide +kernel, by decide +kernel, _, rfl, ?_⟩
            rw [eqvRW]
            refine iteF ⟨wa, zs, rfl, Same.refl _, hwa7, ?_⟩
            have e5 : wsD ws0 (.tuple [.str "read", a, b', c']) = ws0 := by simp [wsD, writeNe.2.2.2.2.1]
            rw [e5]
            exact hzs
        rintro σ8 H8 ⟨wa', zs', rfl, s8, hwa8, hzs8⟩
        have lin := inLen hnd hod
        have hlx := dpLen hxs0
        have ino := inOd hnd hod
        have wok2 := wsOkIn hwok hnd hod
        have wl2 := wsLen ws0 d0
        have hL8 := s8 _ _ hL
        have sH8 := sH7.trans s8
        have hlS := hr1.len
        refine ⟨.ref L, rfl, L, xs, rfl, .inl (.inl (.inl hL8)), (xs.length : Int), rfl, by omega, by omega, by omega, by omega, ?_⟩
        refine forJ (n := xs.length) (fun i σ' H9 => ∃ (u : Option V) (es : List V), σ' = [some v, some (.ref W), some x, some (.ref pa), some (.ref wa'), some (.ref L), u] ∧ Same H H9 ∧ KT H8 H9 ∧ H9 L = some (.lst xs) ∧ H9 W = some (.lst (es ++ rs).reverse) ∧
            StOk K H H9 (es ++ rs) (ents n1 ps0 (wsD ws0 d0) (xs.length - i) ((inD d0).drop (xs.length - i)) ++ S)) ⟨g2, [], rfl, sH8, KT.refl _, hL8, s8 _ _ hW7, ?_⟩
          (fun i σ' H9 lt _ => by show i < ((xs.length : Int) - 0).toNat; omega) (fun σ' H9 _ => by show ((xs.length : Int) - 0).toNat ≤ xs.length; omega) (fun i σ' H9 xv H10 lt h y => ?_) (fun σ' H9 h => ?_)
        · rw [Nat.sub_zero, List.drop_of_length_le (by omega)]
          exact hr1.kt (kt7.trans (KT.same s8))
        · obtain ⟨rfl, rfl⟩ := y
          obtain ⟨u, es, rfl, sH9, kt9, hL9, hW9, hS9⟩ := h
          obtain ⟨j, hj⟩ : ∃ j, j = xs.length - (i + 1) := ⟨_, rfl⟩
          have hjl : j < xs.length := by omega
          have hint : (0 + ((((xs.length : Int) - 0).toNat : Nat) : Int) - 1 + (i : Nat) * (-1)) = ((j : Nat) : Int) := by omega
          rw [hint]
          have hji : xs.length - i = j + 1 := by omega
          have hjd : j < (inD d0).length := by omega
          have e2 : (inD d0)[j]? = some (inD d0)[j] := List.getElem?_eq_getElem hjd
          obtain ⟨xe, g1, g3⟩ := dpAt hxs e2
          have oj := ino _ (List.getElem_mem hjd)
          refine ⟨.ref W, rfl, .inl ⟨rfl, _, .inl (.inl hW9)⟩, .ref L, rfl, .int j, rfl, L, xs, _, xe, rfl, rfl, .inl (.inl hL9), atI_nat g1, ?_⟩
          have hpa9 : SqT K H10 pa (ps0.map nI) := kt9.tup (sameTup s8 hpa7)
          refine ⟨.ref pa, rfl, pa, _, rfl, .inl hpa9, .int j, rfl, ?_, fun p11 n11 => ⟨.ref wa', rfl, (by show 3 ≤ sizeLine; decide), fun p12 n12 => ?_⟩⟩
          · rw [List.length_append, List.length_map, sizeLine_eq]
            show ps0.length + 1 ≤ _
            omega
          have s11 := sameUpd (o := .tup (ps0.map nI ++ [.int j])) n11
          have e11 : upd H10 p11 (.tup (ps0.map nI ++ [.int j])) p11 = some (.tup (ps0.map nI ++ [.int j])) := upd_same
          generalize upd H10 p11 (.tup (ps0.map nI ++ [.int j])) = H11 at s11 e11 n12 ⊢
          have s12 := sameUpd (o := .tup [xe, .ref p11, .ref wa']) n12
          have e12 : upd H11 p12 (.tup [xe, .ref p11, .ref wa']) p12 = some (.tup [xe, .ref p11, .ref wa']) := upd_same
          generalize upd H11 p12 (.tup [xe, .ref p11, .ref wa']) = H12 at s12 e12 ⊢
          have sX := s11.trans s12
          have hW12 := sX _ _ hW9
          refine ⟨W, _, .ref p12, rfl, rfl, hW12, ?_, ?_⟩
          · have hl9 := hS9.len
            simp only [List.length_append, ents_len, List.length_drop] at hl9
            rw [List.length_reverse, List.length_append, hl9, sizeLine_eq]
            omega
          have hrev : (es ++ rs).reverse ++ [V.ref p12] = ((.ref p12 :: es) ++ rs).reverse := by rw [List.cons_append, List.reverse_cons]
          rw [hrev]
          have kt12 : KT H12 (upd H12 W (.lst ((.ref p12 :: es) ++ rs).reverse)) := KT.put hW12
          have ktA := (KT.same sX).trans kt12
          refine ⟨_, .ref p12 :: es, rfl, fun b o hb => ?_, kt9.trans ktA, ?_, upd_same, ?_⟩
          · rw [upd_ne (ne_of_none hb hWn)]
            exact sX _ _ (sH9 _ _ hb)
          · rw [upd_ne neL]
            exact sX _ _ hL9
          · rw [← hj, List.drop_eq_getElem_cons hjd]
            rw [hji] at hS9
            refine .cons ?_ (hS9.kt ktA)
            refine ⟨p12, xe, p11, wa', zs', rfl, kt12.tup (.inl (.inl e12)), ?_, kt12.tup (.inl (.inl ?_)), ktA.tup (kt9.tup hwa8), hzs8, oj, wok2, ?_, ?_⟩
            · exact dpKTo ((KT.same (s7.trans s8)).trans (kt9.trans ktA)) oj _ g3
            · show H12 p11 = some (.tup ((ps0 ++ [j]).map nI))
              rw [List.map_append]
              exact s12 _ _ e11
            · show (ps0 ++ [j]).length + n1 ≤ 300
              rw [List.length_append]
              show ps0.length + 1 + n1 ≤ 300
              omega
            · show (wsD ws0 d0).length + n1 ≤ 300
              omega
        · obtain ⟨u, es, rfl, sH9, kt9, hL9, hW9, hS9⟩ := h
          rw [Nat.sub_self, List.drop_zero] at hS9
          refine ⟨_, ?_, _, _, _, _, _, es ++ rs, _, rfl, sH9, hW9, hS9, fine_ents hF1 hF3 hF2 _ _ lin, rfl, ?_, .inl n60⟩
          · rw [cntS_ents]
            show _ < (1 + ((inD d0).map (cnt n1)).sum) + cntS S
            omega
          · rw [firstRes_ents, ← hres]
            show _ = (match ff (n1 + 1) ws0 ps0 d0 with
              | some p => some p
              | none => firstRes S)
            rw [ffYes hnd] <;> rfl
end
end KS.La

set_option Elab.async false
set_option linter.all false
set_option maxRecDepth 100000
set_option maxHeartbeats 4000000
namespace KS.La
open PySem PySem.Spec PyProof.Rows L2 KX
abbrev sInit : Stmt := inClass (top 17) 0
abbrev sNodeP : Stmt := inClass (top 17) 2
abbrev lRefused : Stmt := top 47
def Good (n : Nat) (d : PyData) : Prop := n ≤ 60 ∨ (NodeOk d ∧ isNd [] d = false)
def spInit (K : PySem.W.Frag) (C BT : Addr) (n : Nat) : Sp := fun vs H Q E => ∃ x dx v d, vs = [.ref x, v] ∧ H x = some (.ins C dx []) ∧ Dp K H v d ∧ Od n d ∧ Good n d ∧ (ff n [] [] d = none → ∀ H', (∀ b o, b ≠ x → H b = some o → H' b = some o) → H' x = some (.ins C dx [("_node", v)]) → Q .non H') ∧
  ∀ p, ff n [] [] d = some p → ∀ H' dd a, Same H H' → H' dd = some (.xd [("path", .ref a)]) → SqT K H' a (p.map nI) → E (.ref BT) (some dd) H'
def spRef (K : PySem.W.Frag) (n : Nat) : Sp := fun vs H Q _ => ∃ v d, vs = [v] ∧ Dp K H v d ∧ Od n d ∧ Good n d ∧ ∀ r H', Same H H' → FR K H' (ff n [] [] d) r → Q r H'
/-- isinstance(e, c), e the error that the suite holds, with its dict -/
def rIsD (K : PySem.W.Frag) (a : Addr) (cls : Value) (d : Option Addr) : List V → Hp → VK → Prop := fun xs H Q => ∃ (D : Addr) (c : V) (cv : Value) (b : Bool) (dd : Addr) (fs : List (Str × V)), xs = [.ref a, c] ∧ cls = .ref D ∧ d = some dd ∧ H dd = some (.xd fs) ∧ XC K D ∧ ClsV c cv ∧ PySem.W.kitOne K (.ref D) cv = some b ∧ Q (.bl b) H
theorem callIsD {X : Cx} {a : Addr} {oe : Obj} {pn : List (Addr × Obj)} {cls : Value} {d : Option Addr} (hz : Zc cls d oe) (hf : ∃ vs, oe.data = .fields vs) : CallR (X.suite a ((a, oe) :: pn)) (.builtin "isinstance") (rIsD X.K a cls d) := by
  intro pins s σ H xs us Q I r h
  obtain ⟨D, c, cv, b, dd, fs, rfl, rfl, rfl, hdd, T, hc, ans, q⟩ := h
  obtain ⟨u1, u2, rfl, r1, r2⟩ := vals2 r
  have e2 := hc.eq r2
  subst e2
  cases (show u1 = Value.ref a from r1)
  obtain ⟨hget, _⟩ := I.pin (a, oe) (List.mem_append.mpr (.inl List.mem_cons_self))
  obtain ⟨vs, hv⟩ := hf
  have hx : ObjOk X.prog X.w H s.heap dd (.xd fs) := I.hok dd _ hdd
  obtain ⟨mA, hns, hr⟩ := hx
  obtain ⟨od, ho, hl⟩ := lookIn_ns hns
  have J : PySem.W.InstAt s.heap a oe D (some od) := ⟨hget, hz.1, by unfold PySem.W.notCls; rw [hv] <;> rfl, by rw [hz.2]; exact ho⟩
  have hcl : (PySem.W.clsIn X.K D).isSome = true := by
    obtain ⟨cd, hcd, _⟩ := PySem.W.any_some T.hd
    rw [hcd]
    rfl
  exact PySem.W.kia_one (PySem.W.kitx_exc hcl T.ga T.gg T.ex T.cl T.gt T.st T.ob) I.kIn J ans (fun z => nomatch z) fun tk => ⟨.bl b, H, I.tok tk, rfl, q⟩
section
variable {P : Program} {w : World} {K : PySem.W.Frag} {mg : Str → Option Value} {base : Heap} {f : Addr} {fd : FuncData}
abbrev FnM (K : PySem.W.Frag) (x q : Str) (st : Stmt) (f : Addr) (fd : FuncData) : Prop := FunD K x q (defArgs st) (defBody st) (defScope st) [] [] f fd
theorem scInit : FnScope ["self", "node"] ["self", "node"] (defScope sInit) := ⟨rfl, rfl, rfl, by decide +kernel, rfl, by decide +kernel, by decide +kernel⟩
/-- a def that may raise -/
structure HasX (P : Program) (w : World) (K : PySem.W.Frag) (mg : Str → Option Value) (base : Heap) (k : Nat) (x : Str) (ps : List Str) (sp : Sp) : Prop where
  ex : ∃ (f : Addr) (fd : FuncData), mg x = some (.ref f) ∧ PySem.W.keepIn K (.ref f) = true ∧ Binds K fd ps [] ∧ FnOk P w K mg base (L2.CX P w) k f fd ps sp
theorem okInit {k n : Nat} {C BT : Addr} (F : FnM K "__init__" "TreeRecipe.__init__" sInit f fd) (cl : Cls K C) (nf : NoAttr K C "_node") (Ck : HasX P w K mg base (k + 1) "_check_tree" ["top"] (spCheck K BT n)) :
    FnOk P w K mg base (L2.CX P w) (k + 2) f fd ["self", "node"] (spInit K C BT n) := by
  obtain ⟨fC, fdC, gC, kC, bC, GC⟩ := Ck.ex
  refine F.ok scInit (fun vs H Q E h => ?_) (fun cdv A outer s H vs Q E hr h => ?_)
  · obtain ⟨x, dx, v, d, rfl, _⟩ := h
    rfl
  · obtain ⟨x, dx, v, d, rfl, hx, hd, od, good, q1, q2⟩ := h
    refine ⟨_, (pss_cons (ps_expr (pe_callS GC hr (by rfl) gC kC bC (fun σ => passAt (takes_of rfl rfl rfl rfl) σ) (pa_cons (pv 1) pa_nil))) (pss_one (ps_fld (pv 0) (pv 1) rfl))), ?_⟩
    refine ⟨v, rfl, v, d, rfl, hd, od, good, fun e H' s' => ?_, fun p e H' dd a s' hdd ha => q2 p e H' dd a s' hdd ha⟩
    refine ⟨v, rfl, .ref x, rfl, x, C, dx, [], rfl, s' _ _ hx, cl, nf, by decide, ?_⟩
    refine q1 e _ (fun b o ne hb => ?_) upd_same
    rw [upd_ne ne]
    exact s' _ _ hb
theorem scNodeP : FnScope ["self"] ["self"] (defScope sNodeP) := ⟨rfl, rfl, rfl, by decide +kernel, rfl, by decide +kernel, by decide +kernel⟩
theorem okNodeP {k : Nat} {C : Addr} (F : FnM K "node" "TreeRecipe.node" sNodeP f fd) (cl : Cls K C) (nf : NoAttr K C "_node") : FnOk P w K mg base CX0 (k + 1) f fd ["self"] (getSp C "_node") := by
  refine F.ok scNodeP (fun vs H Q E h => ?_) (fun cdv A outer s H vs Q E hr h => ?_)
  · obtain ⟨a, dx, fs, v, rfl, _⟩ := h
    rfl
  · obtain ⟨a, dx, fs, v, rfl, ha, hl, q⟩ := h
    exact ⟨_, PSs.nox (pss_one (ps_ret (pe_fld (pv 0) rfl))), .ref a, rfl, a, C, dx, fs, v, rfl, ha, cl, nf, hl, q⟩
/-- the class of trees -/
structure TreeC (P : Program) (w : World) (K : PySem.W.Frag) (mg : Str → Option Value) (base : Heap) (k : Nat) (C BT : Addr) : Prop where
  gm : mg "TreeRecipe" = some (.ref C)
  cl : Cls K C
  ini : ∀ n, n ≤ 199 → ∃ (f : Addr) (fd : FuncData), Mk K C f ∧ Binds K fd ["self", "node"] [] ∧ FnOk P w K mg base (L2.CX P w) k f fd ["self", "node"] (spInit K C BT n)
  prop : ∃ (p g : Addr) (fd : FuncData), PropOf K C "node" p g ∧ Binds K fd ["self"] [] ∧ FnOk P w K mg base CX0 1 g fd ["self"] (getSp C "_node")
theorem scRef : FnScope ["_law_node", "_law_found", "e"] ["_law_node"] (defScope lRefused) := ⟨rfl, rfl, rfl, by decide +kernel, rfl, by decide +kernel, by decide +kernel⟩
theorem okRef {k n : Nat} {C BT BE : Addr} (hn : n ≤ 199) (F : FnP K "_law_refused" lRefused f fd) (B : Bn mg) (T : TreeC P w K mg base (k + 3) C BT) (cB : Cl1 P w K mg base "BadTree" BT "path") (gBE : mg "BuildError" = some (.ref BE)) (e1 : PySem.W.exmOne K (.ref BT) (.ref BE) = some true)
    (kt : PySem.W.kitOne K (.ref BT) (.ref BT) = some true) : FnOk P w K mg base CX0 (k + 5) f fd ["_law_node"] (spRef K n) := by
  have xf : XfC K BT := ⟨cB.xc.ga, cB.xc.gg, cB.xc.ex, cB.xc.hd⟩
  obtain ⟨fI, fdI, M, bI, GI⟩ := T.ini n hn
  obtain ⟨pp, gp, fdG, hp, bG, GG⟩ := T.prop
  refine F.ok scRef (fun vs H Q E h => ?_) (fun cdv A outer s H vs Q E hr h => ?_)
  · obtain ⟨v, d, rfl, _⟩ := h
    rfl
  · obtain ⟨v, d, rfl, hd, od, good, q⟩ := h
    refine ⟨_, PSs.nox (pss_cons (ps_set (i := 1) scRef.nd rfl (.inl rfl) pe_non) (pss_cons (psTryMix rfl rfl takes0
        (fun W pn xe tk _ => (pss_one (ps_if (pt_cmpR (r := rNeD K) (op_neD hr.units) (pe_prop (MkS.pe_makeS M GI hr (by rfl) T.gm bI (fun σ => passAt tk σ) (pa_cons (pv 0) pa_nil)) T.cl hp GG (hr.mono (by omega)) bG .nil pass0 rfl) (pv 0) (nomark _)) (pss_one (ps_set (i := 1) scRef.nd rfl (.inl rfl) pe_str)) pss_nil)))
        (.named (i := 2) ⟨rfl, by decide, .inl gBE⟩ scRef.nd rfl rfl (fun a oe cls d pn hz hf => (pss_one (ps_set (i := 1) scRef.nd rfl (.inl rfl) (pe_ifExp (pt_val (pe_callB (callIsD hz hf) (by rfl) B.isi (by decide +kernel) (pa_cons (pv 2) (pa_cons (pe_glob (v := .ref BT) (by rfl) cB.gm rfl) pa_nil)))) (pe_xf xf cB.no hz hf (pv 2)) pe_str)))) .nil)) (pss_one (ps_ret (pv 1))))), ?_⟩
    refine ⟨v, rfl, fun x dx nx ndx nex => ?_⟩
    have sN : Same H (upd (upd H dx (.own x)) x (.ins C dx [])) := fun b o hb => by
      rw [upd_ne (ne_of_none hb nx), upd_ne (ne_of_none hb ndx)]
      exact hb
    refine ⟨x, dx, v, d, rfl, upd_same, dpSame sN _ _ hd, od, good, fun e H' k' hx => ⟨rfl, ?_⟩, fun p e H' dd a s' hdd ha => ?_⟩
    · have n60 : n ≤ 60 := by
        rcases good with z | ⟨_, z⟩
        · exact z
        · rw [ffNo z] at e
          cases e
      have sH : Same H H' := fun b o hb => k' b o (ne_of_none hb nx) (sN _ _ hb)
      have osh := (od.up (m := 60) n60).shaped (by omega)
      refine ⟨x, dx, _, rfl, hx, x, dx, _, v, rfl, hx, rfl, v, rfl, d, d, dpSame sH _ _ hd, dpSame sH _ _ hd, osh, osh, _, rfl, ?_⟩
      rw [SeqAt.eqv_refl d (SeqAt.canLay_of_shaped osh)]
      refine iteF ⟨.non, rfl, q _ H' sH ?_⟩
      rw [e]
      exact rfl
    · refine ⟨true, e1, fun _ a0 na => ?_, fun z => Bool.noConfusion z⟩
      refine ⟨.ref a0, rfl, BT, .ref BT, .ref BT, true, dd, _, rfl, rfl, rfl, hdd, cB.xc, .own _, kt, true, rfl, iteT ?_⟩
      refine ⟨.ref a0, rfl, rfl, rfl, dd, _, .ref a, rfl, hdd, rfl, ?_⟩
      refine ⟨.ref a, rfl, q _ H' (sN.trans s') ?_⟩
      rw [e]
      exact ⟨a, rfl, ha⟩
end
end KS.La

set_option Elab.async false
set_option linter.all false
set_option maxRecDepth 100000
set_option maxHeartbeats 4000000
namespace KS.La
open PySem PySem.Spec PyProof.Rows L2 KX
abbrev lMixed : Stmt := top 28
abbrev lOuts : Stmt := top 30
abbrev lParts : Stmt := top 34
abbrev lOdd : Stmt := top 45
theorem Fd.ne {H : Hp} {f p : Addr} (h : Fd H f) (hp : H p = none) : p ≠ f := fun z => by
  obtain ⟨x, y, e, _⟩ := h
  rw [z, e] at hp
  cases hp
theorem Fd.other {H : Hp} {f p : Addr} {o : HO} (h : Fd H f) (n : p ≠ f) : Fd (upd H p o) f := by
  obtain ⟨x, y, e, a, b⟩ := h
  exact ⟨x, y, by rw [upd_ne (Ne.symm n)]; exact e, a, b⟩
/-- a list made by turns that draw -/
theorem lcFeed {K : PySem.W.Frag} {f D : Addr} {j w n m : Nat} {te : TE} {σ : L2.St} {H1 : Hp} {Qd : Hp → Prop} (hD : H1 D = none) (hF : Fd H1 f) (hm : m ≤ 100) (hw : ∀ v, wipe ((wipe σ [j]).set j (some v)) [j] = wipe σ [j])
    (hs : ∀ x H, Kp f H1 H → Fd H f → ∀ R : VK, (∀ v H', Vw K w n H' v → Kp f H H' → Fd H' f → R v H') → te ((wipe σ [j]).set j (some x)) H R)
    (hd : ∀ H xs, H D = some (.lst xs) → xs.length = m → (∀ v ∈ xs, Vw K w n H v) → Kp f H1 H → Fd H f → Qd H) :
    ∃ W : Nat → Nat → Hp → Prop, (∃ m, W 0 m (upd H1 D (.lst []))) ∧ ∀ i k H, W i k H →
      ((Itr 0 m).stop i H ∧ Qd H) ∨ ((Itr 0 m).go i H ∧ ∃ Nx : Hp → Prop, (∀ H', Nx H' → ∃ m', m' < k ∧ W (i + 1) m' H') ∧ ∀ x H', (Itr 0 m).yld i H x H' → gName j x (wipe σ [j]) H' fun σ2 H2 => wipe σ2 [j] = wipe σ [j] ∧ tYes σ2 H2 fun b H3 =>
        if b = true then te σ2 H3 fun y H4 => ∃ acc, H4 D = some (.lst acc) ∧ acc.length < sizeLine ∧ Nx (upd H4 D (.lst (acc ++ [y]))) else Nx H3) := by
  have nD := hF.ne hD
  refine lcJ (n := m) (fun i H => ∃ xs, H D = some (.lst xs) ∧ xs.length = i ∧ (∀ v ∈ xs, Vw K w n H v) ∧ Kp f H1 H ∧ Fd H f) ⟨[], upd_same, rfl, fun v hv => absurd hv (by simp), Kp.new hD, hF.other nD⟩ (fun i H lt _ => lt) (fun H _ => Nat.le_refl _) (fun i H x H' lt h y => ?_) (fun H h => ?_)
  · obtain ⟨xs, e, el, hv, kp, fd⟩ := h
    obtain ⟨rfl, rfl⟩ := y
    refine ⟨hw _, ?_⟩
    unfold tYes
    dsimp only
    rw [if_pos rfl]
    refine hs _ H' kp fd _ fun v H2 hv2 k2 f2 => ?_
    have e2 := k2 D _ nD e
    refine ⟨xs, e2, by rw [sizeLine_eq]; omega, xs ++ [v], upd_same, by rw [List.length_append, el]; rfl, fun u hu => ?_, fun b o nb hb => ?_, f2.other nD⟩
    · have kt : KT H2 (upd H2 D (.lst (xs ++ [v]))) := KT.put e2
      rcases List.mem_append.mp hu with z | z
      · exact ((hv u z).kt (KT.kp fd k2)).kt kt
      · rw [List.mem_singleton.mp z]
        exact hv2.kt kt
    · rw [upd_ne (ne_of_none hb hD)]
      exact k2 _ _ nb (kp _ _ nb hb)
  · obtain ⟨xs, e, el, hv, kp, fd⟩ := h
    exact hd H xs e el hv kp fd
/-- a list made by turns that draw, over whatever -/
theorem lcFeedJ {K : PySem.W.Frag} {J : It} {f D : Addr} {j w n m : Nat} {te : TE} {σ : L2.St} {H1 : Hp} {Qd : Hp → Prop} (hD : H1 D = none) (hF : Fd H1 f) (hm : m ≤ 100) (hw : ∀ v, wipe ((wipe σ [j]).set j (some v)) [j] = wipe σ [j])
    (hgo : ∀ i H, i < m → Kp f H1 H → J.go i H) (hst : ∀ H, Kp f H1 H → J.stop m H)
    (hs : ∀ i x H H', i < m → Kp f H1 H → Fd H f → J.yld i H x H' → H' = H ∧ ∀ R : VK, (∀ v H2, Vw K w n H2 v → Kp f H H2 → Fd H2 f → R v H2) → te ((wipe σ [j]).set j (some x)) H R)
    (hd : ∀ H xs, H D = some (.lst xs) → xs.length = m → (∀ v ∈ xs, Vw K w n H v) → Kp f H1 H → Fd H f → Qd H) :
    ∃ W : Nat → Nat → Hp → Prop, (∃ m, W 0 m (upd H1 D (.lst []))) ∧ ∀ i k H, W i k H →
      (J.stop i H ∧ Qd H) ∨ (J.go i H ∧ ∃ Nx : Hp → Prop, (∀ H', Nx H' → ∃ m', m' < k ∧ W (i + 1) m' H') ∧ ∀ x H', J.yld i H x H' → gName j x (wipe σ [j]) H' fun σ2 H2 => wipe σ2 [j] = wipe σ [j] ∧ tYes σ2 H2 fun b H3 =>
        if b = true then te σ2 H3 fun y H4 => ∃ acc, H4 D = some (.lst acc) ∧ acc.length < sizeLine ∧ Nx (upd H4 D (.lst (acc ++ [y]))) else Nx H3) := by
  have nD := hF.ne hD
  refine lcJ (n := m) (fun i H => ∃ xs, H D = some (.lst xs) ∧ xs.length = i ∧ (∀ v ∈ xs, Vw K w n H v) ∧ Kp f H1 H ∧ Fd H f) ⟨[], upd_same, rfl, fun v hv => absurd hv (by simp), Kp.new hD, hF.other nD⟩ (fun i H lt h => hgo i H lt h.choose_spec.2.2.2.1) (fun H h => hst H h.choose_spec.2.2.2.1) (fun i H x H' lt h y => ?_) (fun H h => ?_)
  · obtain ⟨xs, e, el, hv, kp, fd⟩ := h
    obtain ⟨rfl, hs2⟩ := hs i x H H' lt kp fd y
    refine ⟨hw _, ?_⟩
    unfold tYes
    dsimp only
    rw [if_pos rfl]
    refine hs2 _ fun v H2 hv2 k2 f2 => ?_
    have e2 := k2 D _ nD e
    refine ⟨xs, e2, by rw [sizeLine_eq]; omega, xs ++ [v], upd_same, by rw [List.length_append, el]; rfl, fun u hu => ?_, fun b o nb hb => ?_, f2.other nD⟩
    · have kt : KT H2 (upd H2 D (.lst (xs ++ [v]))) := KT.put e2
      rcases List.mem_append.mp hu with z | z
      · exact ((hv u z).kt (KT.kp fd k2)).kt kt
      · rw [List.mem_singleton.mp z]
        exact hv2.kt kt
    · rw [upd_ne (ne_of_none hb hD)]
      exact k2 _ _ nb (kp _ _ nb hb)
  · obtain ⟨xs, e, el, hv, kp, fd⟩ := h
    exact hd H xs e el hv kp fd
theorem shapedList {ds : List PyData} {n : Nat} (hn : n ≤ 60) (h : ∀ d ∈ ds, Od n d) : SeqAt.shaped (.list ds) = true := by
  obtain ⟨a, b⟩ := allLay (ds := ds) (n := n) fun d hd => (h d hd).lay
  show ((PyData.list ds).canLay0 && decide ((PyData.list ds).depth ≤ 64)) = true
  rw [Bool.and_eq_true, decide_eq_true_eq]
  refine ⟨a, ?_⟩
  show PyData.depthAll ds + 1 ≤ 64
  omega
theorem eqvNilL (ds : List PyData) : PyData.eqv (.list ds) (.list []) = decide (ds = []) := by
  cases ds with
  | nil => rfl
  | cons d ds => exact (decide_eq_false (by simp)).symm
theorem eqvNilT (ds : List PyData) : PyData.eqv (.tuple ds) (.tuple []) = decide (ds = []) := by
  cases ds with
  | nil => rfl
  | cons d ds => exact (decide_eq_false (by simp)).symm
/-- what an expression without draws makes -/
def MadeE (K : PySem.W.Frag) (w n : Nat) (te : TE) : Prop := ∀ σ H (Q : VK), (∀ v H', Same H H' → Vw K w n H' v → Q v H') → te σ H Q
def MadeA (K : PySem.W.Frag) (w n c : Nat) (ta : TA) : Prop := ∀ σ H (Q : List V → Hp → Prop), (∀ vs H', Same H H' → vs.length = c → (∀ v ∈ vs, Vw K w n H' v) → Q vs H') → ta σ H Q
theorem madeNil {K : PySem.W.Frag} {w n : Nat} : MadeA K w n 0 tNil := fun σ H Q h => h [] H (Same.refl H) rfl fun v hv => absurd hv (by simp)
theorem madeCons {K : PySem.W.Frag} {w n c : Nat} {te : TE} {ta : TA} (h : MadeE K w n te) (r : MadeA K w n c ta) : MadeA K w n (c + 1) (tCons te ta) := fun σ H Q q =>
  h σ H _ fun v H1 s1 hv => r σ H1 _ fun vs H2 s2 hl hvs => q (v :: vs) H2 (s1.trans s2) (by show vs.length + 1 = c + 1; omega) fun u hu => by
    rcases List.mem_cons.mp hu with z | z
    · rw [z]; exact hv.kt (.same s2)
    · exact hvs u z
theorem madeTup {K : PySem.W.Frag} {w n c : Nat} {ta : TA} (h : MadeA K w n c ta) (hc : c ≤ w) (hw : w ≤ 100) : MadeE K w (n + 1) (tTup ta) := fun σ H Q q =>
  h σ H _ fun vs H1 s1 hl hvs => ⟨by rw [sizeLine_eq]; omega, fun p hp => q _ _ (s1.trans (sameUpd hp)) (.tup (.inl (.inl upd_same)) (by omega) fun v hv => (hvs v hv).kt (.same (sameUpd hp)))⟩
theorem madeC {K : PySem.W.Frag} {w n : Nat} {v : V} (h : ∀ H, Vw K w n H v) : MadeE K w n (tC v) := fun σ H Q q => q v H (Same.refl H) (h H)
theorem madeStr {K : PySem.W.Frag} {w n : Nat} {z : Str} (h : TOk z) : MadeE K w n (tC (.str z)) := madeC fun H => .str h
theorem madeInt {K : PySem.W.Frag} {w n : Nat} {i : Int} : MadeE K w n (tC (.int i)) := madeC fun H => .int
theorem madeNon {K : PySem.W.Frag} {w n : Nat} : MadeE K w n (tC .non) := madeC fun H => .non
theorem madeBl {K : PySem.W.Frag} {w n : Nat} {b : Bool} : MadeE K w n (tC (.bl b)) := madeC fun H => .bl
theorem madeUp {K : PySem.W.Frag} {w n w' n' : Nat} {te : TE} (h : MadeE K w n te) (a : w ≤ w') (b : n ≤ n') : MadeE K w' n' te := fun σ H Q q => h σ H Q fun v H' s hv => q v H' s (hv.up a b)
theorem madeLst {K : PySem.W.Frag} {w n c : Nat} {ta : TA} (h : MadeA K w n c ta) (hc : c ≤ 1000) {σ : L2.St} {H : Hp} {Q : VK} (q : ∀ p vs H', H p = none → Same H H' → H' p = some (.lst vs) → vs.length = c → (∀ v ∈ vs, Vw K w n H' v) → Q (.ref p) H') : tLst ta σ H Q :=
  h σ H _ fun vs H1 s1 hl hvs => ⟨by rw [sizeLine_eq]; omega, fun p hp => q p vs _ (by
    cases e : H p with
    | none => rfl
    | some o => rw [s1 _ _ e] at hp; cases hp) (s1.trans (sameUpd hp)) upd_same hl fun v hv => (hvs v hv).kt (.same (sameUpd hp))⟩
def spOuts : Sp := fun vs H Q _ => vs = [] ∧ ∀ p, H p = none → Q (.ref p) (upd H p (.lst [.str "o", .str "read", .str "write", .str "z9z9z9z9"]))
def spMixed (K : PySem.W.Frag) : Sp := fun vs H Q _ => ∃ (f l : Addr) (xs : List V), vs = [.ref f, .ref l] ∧ Fd H f ∧ SqL K H l xs ∧ xs.length ≤ 50 ∧ (∀ v ∈ xs, Vw K 5 1 H v) ∧
  ∀ p ys H', H p = none → Kp f H H' → Fd H' f → H' p = some (.lst ys) → ys.length = xs.length → (∀ v ∈ ys, Vw K 5 1 H' v) → Q (.ref p) H'
def spParts (K : PySem.W.Frag) : Sp := fun vs H Q _ => ∃ f : Addr, vs = [.ref f] ∧ Fd H f ∧ ∀ v H', Vw K 5 2 H' v → Kp f H H' → Fd H' f → Q v H'
def spOdd (K : PySem.W.Frag) : Sp := fun vs H Q _ => ∃ f : Addr, vs = [.ref f] ∧ Fd H f ∧ ∀ v H', Vw K 5 3 H' v → Kp f H H' → Fd H' f → Q v H'
section
variable {P : Program} {w : World} {K : PySem.W.Frag} {mg : Str → Option Value} {base : Heap} {f : Addr} {fd : FuncData}
theorem scOuts : FnScope [] [] (defScope lOuts) := ⟨rfl, rfl, rfl, by decide +kernel, rfl, by decide +kernel, by decide +kernel⟩
theorem okOuts {k : Nat} (F : FnP K "_law_outs" lOuts f fd) : FnOk P w K mg base CX0 (k + 1) f fd [] spOuts := by
  refine F.ok scOuts (fun vs H Q E h => ?_) (fun cdv A outer s H vs Q E hr h => ?_)
  · obtain ⟨rfl, _⟩ := h
    rfl
  · obtain ⟨rfl, q⟩ := h
    exact ⟨_, PSs.nox (pss_one (ps_ret (pe_lst (pa_cons (pe_str) (pa_cons (pe_str) (pa_cons (pe_str) (pa_cons (pe_str) pa_nil))))))), (by show 4 ≤ sizeLine; decide), fun p hp => q p hp⟩
theorem scMixed : FnScope ["_law_feed", "_law_items", "_law_left", "_law_found"] ["_law_feed", "_law_items"] (defScope lMixed) := ⟨rfl, rfl, rfl, by decide +kernel, rfl, by decide +kernel, by decide +kernel⟩
theorem okMixed {k : Nat} (F : FnP K "_law_mixed" lMixed f fd) (B : Bn mg) (D : Has P w K mg base (k + 1) "_law_draw" ["_law_feed", "_law_many"] spDraw) : FnOk P w K mg base CX0 (k + 2) f fd ["_law_feed", "_law_items"] (spMixed K) := by
  obtain ⟨fD, fdD, gD, kD, bD, GD⟩ := D.ex
  refine F.ok scMixed (fun vs H Q E h => ?_) (fun cdv A outer s H vs Q E hr h => ?_)
  · obtain ⟨a, l, xs, rfl, _⟩ := h
    rfl
  · obtain ⟨a, l, xs, rfl, hF, hL, hlen, hv, q⟩ := h
    refine ⟨_, PSs.nox (pss_cons (ps_par (i := 2) (j := 3) (by rfl) scMixed.nd rfl rfl (by decide) rfl rfl (pa_cons (pe_callTy call_list_of (by rfl) B.list (by decide +kernel) (pa_cons (pv 1) pa_nil)) (pa_cons (pe_lst pa_nil) pa_nil)) (by rfl)) (pss_cons (ps_while PassesOwn.never (pt_cmpR (r := rNeD K) (op_neD hr.units) (pv 2) (pe_lst pa_nil) (nomark _))
        (pss_one (ps_expr (pe_bm PySem.F.plainAttrs_list PySem.F.slot_list_append PySem.F.type_list_append mt_append (pv 3) (pa_cons (pe_bm PySem.F.plainAttrs_list PySem.F.slot_list_pop PySem.F.type_list_pop mt_popAt (pv 2) (pa_cons (pe_call GD hr (by rfl) gD kD bD .nil pass0 (pa_cons (pv 0) (pa_cons (pe_callB call_len_seq (by rfl) B.len PySem.boot_len (pa_cons (pv 2) pa_nil)) pa_nil))) pa_nil)) pa_nil))))) (pss_one (ps_ret (pv 3))))), ?_⟩
    refine ⟨.ref l, rfl, l, xs, rfl, .inl hL, fun L hLn => ⟨(by show 0 ≤ sizeLine; exact Nat.zero_le _), fun M hMn => ⟨_, _, rfl, ?_⟩⟩⟩
    have s1 := sameUpd (o := .lst xs) hLn
    have s2 := sameUpd (o := .lst []) hMn
    have neLM : L ≠ M := fun z => by rw [z] at hMn; rw [upd_same] at hMn; cases hMn
    have hMn0 : H M = none := by
      cases e : H M with
      | none => rfl
      | some o => rw [s1 _ _ e] at hMn; cases hMn
    have neLa := hF.ne hLn
    have neMa := hF.ne hMn0
    have eL : upd (upd H L (.lst xs)) M (.lst []) L = some (.lst xs) := s2 _ _ upd_same
    have eM : upd (upd H L (.lst xs)) M (.lst []) M = some (.lst []) := upd_same
    have F2 := (hF.same s1).same s2
    have k2 : Kp a H (upd (upd H L (.lst xs)) M (.lst [])) := Kp.same (s1.trans s2)
    generalize upd (upd H L (.lst xs)) M (.lst []) = H2 at *
    refine ⟨fun m σ' H' => ∃ zs ys, σ' = [some (.ref a), some (.ref l), some (.ref L), some (.ref M)] ∧ m = zs.length ∧ zs.length + ys.length = xs.length ∧ H' L = some (.lst zs) ∧ H' M = some (.lst ys) ∧ (∀ v ∈ zs, Vw K 5 1 H' v) ∧ (∀ v ∈ ys, Vw K 5 1 H' v) ∧ Kp a H H' ∧ Fd H' a,
      ⟨_, xs, [], rfl, rfl, by simp, eL, eM, fun v hv' => (hv v hv').kt (KT.kp hF k2), fun v hv' => absurd hv' (by simp), k2, F2⟩, fun m σ' H' hw => ?_⟩
    obtain ⟨zs, ys, rfl, rfl, hl, eL', eM', hz, hy, k', F'⟩ := hw
    refine ⟨.ref L, rfl, Nat.zero_le _, fun p hp => ?_⟩
    have sp := sameUpd (o := .lst []) hp
    obtain ⟨ds, hds, od⟩ := vwAll hz
    have oz : ∀ d ∈ ds, Od 1 d := fun d hd => (od d hd).od (by omega)
    refine ⟨.list ds, .list [], .lst (.inl (.inl (sp _ _ eL'))) (dpAllSame sp _ _ hds), .lst (.inl (.inl upd_same)) .nil, shapedList (n := 1) (by omega) oz, rfl, _, rfl, ?_⟩
    rw [eqvNilL]
    have el := dpLen hds
    have kp' : Kp a H (upd H' p (.lst [])) := k'.trans (Kp.same sp)
    have F3 := F'.same sp
    have eL3 := sp _ _ eL'
    have eM3 := sp _ _ eM'
    have hz3 : ∀ v ∈ zs, Vw K 5 1 (upd H' p (.lst [])) v := fun v hv' => (hz v hv').kt (.same sp)
    have hy3 : ∀ v ∈ ys, Vw K 5 1 (upd H' p (.lst [])) v := fun v hv' => (hy v hv').kt (.same sp)
    generalize upd H' p (.lst []) = H3 at *
    by_cases e0 : ds = []
    · rw [decide_eq_true e0]
      refine iteF ?_
      rw [e0] at el
      refine ⟨.ref M, rfl, q M ys H3 hMn0 kp' F3 eM3 (by simp at el; rw [el] at hl; simpa using hl) hy3⟩
    · rw [decide_eq_false e0]
      refine iteT ⟨fun σ2 H4 => ∃ m', m' < zs.length ∧ ∃ zs ys, σ2 = [some (.ref a), some (.ref l), some (.ref L), some (.ref M)] ∧ m' = zs.length ∧ zs.length + ys.length = xs.length ∧ H4 L = some (.lst zs) ∧ H4 M = some (.lst ys) ∧ (∀ v ∈ zs, Vw K 5 1 H4 v) ∧ (∀ v ∈ ys, Vw K 5 1 H4 v) ∧ Kp a H H4 ∧ Fd H4 a, fun _ _ z => z, ?_⟩
      have pos : 0 < zs.length := by
        rw [el]
        exact List.length_pos_iff.mpr e0
      refine ⟨.ref M, rfl, .inl ⟨rfl, _, .inl (.inl eM3)⟩, .ref L, rfl, .inl ⟨rfl, _, .inl (.inl eL3)⟩, .ref a, rfl, .ref L, rfl, L, zs, rfl, .inl (.inl (.inl eL3)), a, (zs.length : Int), rfl, F3, by omega, by omega, fun r H4 r0 r1 k4 F4 => ?_⟩
      obtain ⟨j, rfl⟩ : ∃ j : Nat, r = (j : Int) := ⟨r.toNat, by omega⟩
      have hj : j < zs.length := by omega
      have eL4 := k4 _ _ neLa eL3
      have eM4 := k4 _ _ neMa eM3
      have hsi : seqIndex? (j : Int) zs.length = some j := by
        unfold seqIndex?
        rw [if_neg (show ¬ ((j : Int) < 0) by omega)]
        show (if (decide ((0 : Int) ≤ (j : Int)) && decide ((j : Int) < (zs.length : Int))) = true then some ((j : Int).toNat) else none) = some j
        rw [if_pos (by rw [Bool.and_eq_true, decide_eq_true_eq, decide_eq_true_eq]; omega)]
        rfl
      refine ⟨L, zs, (j : Int), j, zs[j], rfl, rfl, eL4, by omega, by omega, hsi, List.getElem?_eq_getElem hj, ?_⟩
      have kt4 : KT H3 H4 := KT.kp F3 k4
      have kt5 : KT H4 (upd H4 L (.lst (zs.eraseIdx j))) := KT.put eL4
      have eM5 : upd H4 L (.lst (zs.eraseIdx j)) M = some (.lst ys) := by rw [upd_ne (Ne.symm neLM)]; exact eM4
      refine ⟨M, ys, zs[j], rfl, rfl, eM5, by rw [sizeLine_eq]; omega, ?_⟩
      have kt6 := KT.put (ys := ys ++ [zs[j]]) eM5
      have ktA := (kt4.trans kt5).trans kt6
      refine ⟨(zs.eraseIdx j).length, by rw [List.length_eraseIdx_of_lt hj]; omega, zs.eraseIdx j, ys ++ [zs[j]], rfl, rfl, by rw [List.length_eraseIdx_of_lt hj, List.length_append]; show zs.length - 1 + (ys.length + 1) = _; omega, ?_, upd_same, fun v hv' => (hz3 v (List.mem_of_mem_eraseIdx hv')).kt ktA, fun v hv' => ?_, fun b o nb hb => ?_, (F4.other neLa).other neMa⟩
      · rw [upd_ne neLM]
        exact upd_same
      · rcases List.mem_append.mp hv' with z | z
        · exact (hy3 v z).kt ktA
        · rw [List.mem_singleton.mp z]
          exact (hz3 _ (List.getElem_mem hj)).kt ktA
      · rw [upd_ne (ne_of_none hb hMn0), upd_ne (ne_of_none hb hLn)]
        exact k4 _ _ nb (kp' _ _ nb hb)
abbrev nParts : List Str := ["_law_feed", "_law_found", "_law_turn", "_law_pair"]
theorem scParts : FnScope nParts ["_law_feed"] (defScope lParts) := ⟨rfl, rfl, rfl, by decide +kernel, rfl, by decide +kernel, by decide +kernel⟩
theorem okSomeParts {k : Nat} (F : FnP K "_law_some_parts" lParts f fd) (B : Bn mg) (D : Has P w K mg base (k + 1) "_law_draw" ["_law_feed", "_law_many"] spDraw) (T : Has P w K mg base (k + 3) "_law_some_text" ["_law_feed"] spText) : FnOk P w K mg base CX0 (k + 4) f fd ["_law_feed"] (spParts K) := by
  obtain ⟨fD, fdD, gD, kD, bD, GD⟩ := D.ex
  obtain ⟨fT, fdT, gT, kT, bT, GT⟩ := T.ex
  refine F.ok scParts (fun vs H Q E h => ?_) (fun cdv A outer s H vs Q E hr h => ?_)
  · obtain ⟨a, rfl, _⟩ := h
    rfl
  · obtain ⟨a, rfl, hF, q⟩ := h
    have hr1 : Room (k + 1) _ := hr.mono (by omega)
    refine ⟨_, PSs.nox (pss_cons (ps_set (i := 1) scParts.nd rfl (.inl rfl) (pe_lst pa_nil)) (pss_cons (ps_for PassesOwn.never rfl (pi_range1 (by rfl) B.range (pa_cons (pe_call GD hr1 (by rfl) gD kD bD .nil pass0 (pa_cons (pv 0) (pa_cons (pe_int) pa_nil))) pa_nil)) (pg_name (i := 2) scParts.nd rfl (.inl rfl))
        (pss_cons (ps_set (i := 3) scParts.nd rfl (.inl rfl) (pe_tup (pa_cons (pe_op op_sub (pe_call GD hr1 (by rfl) gD kD bD .nil pass0 (pa_cons (pv 0) (pa_cons (pe_int) pa_nil))) pe_int) (pa_cons (pe_op op_sub (pe_call GD hr1 (by rfl) gD kD bD .nil pass0 (pa_cons (pv 0) (pa_cons (pe_int) pa_nil))) pe_int) pa_nil)))) (pss_one (ps_expr (pe_bm PySem.F.plainAttrs_list PySem.F.slot_list_append PySem.F.type_list_append mt_append (pv 1) (pa_cons (pe_ifExp (pt_cmpR op_gt (pe_call GD hr1 (by rfl) gD kD bD .nil pass0 (pa_cons (pv 0) (pa_cons (pe_int) pa_nil))) pe_int (nomark _)) (pv 3) (pe_call GT hr (by rfl) gT kT bT .nil pass0 (pa_cons (pv 0) pa_nil))) pa_nil)))))) (pss_one (ps_ret (pe_callTy call_tuple_of (by rfl) B.tuple (by decide +kernel) (pa_cons (pv 1) pa_nil)))))), ?_⟩
    refine ⟨Nat.zero_le _, fun R hR => ?_⟩
    have nR := hF.ne hR
    have F1 := hF.new (o := .lst []) hR
    refine ⟨.ref a, rfl, a, 4, rfl, F1, by decide, by decide, fun r H2 r0 r1 k2 F2 => ⟨r, rfl, by omega, by omega, ?_⟩⟩
    obtain ⟨m, rfl⟩ : ∃ m : Nat, r = (m : Int) := ⟨r.toNat, by omega⟩
    rw [Int.toNat_natCast]
    refine forJ (n := m) (fun i σ' H' => ∃ t u rs, σ' = [some (.ref a), some (.ref R), t, u] ∧ H' R = some (.lst rs) ∧ rs.length = i ∧ (∀ v ∈ rs, Vw K 5 1 H' v) ∧ Kp a H H' ∧ Fd H' a) ⟨none, none, [], rfl, k2 _ _ nR upd_same, rfl, fun v hv => absurd hv (by simp), (Kp.new hR).trans k2, F2⟩ (fun i σ' H' lt _ => lt) (fun σ' H' _ => Nat.le_refl _)
      (fun i σ' H3 x H4 lt h y => ?_) (fun σ' H' h => ?_)
    · obtain ⟨rfl, rfl⟩ := y
      obtain ⟨t, u, rs, rfl, eR, lR, hv, k3, F3⟩ := h
      refine ⟨.ref a, rfl, a, 5, rfl, F3, by decide, by decide, fun x1 H5 a0 a1 k5 F5 => ⟨x1, 1, rfl, rfl, .ref a, rfl, a, 6, rfl, F5, by decide, by decide, fun x2 H6 b0 b1 k6 F6 => ⟨x2, 1, rfl, rfl, (by show 2 ≤ sizeLine; decide), fun p hp => ?_⟩⟩⟩
      have F7 := F6.new (o := .tup [.int (x1 - 1), .int (x2 - 1)]) hp
      have k7 : Kp a H4 (upd H6 p (.tup [.int (x1 - 1), .int (x2 - 1)])) := (k5.trans k6).trans (Kp.new hp)
      have v7 : Vw K 5 1 (upd H6 p (.tup [.int (x1 - 1), .int (x2 - 1)])) (.ref p) := .tup (.inl (.inl upd_same)) (by show 2 ≤ 5; omega) fun v hv => by
        simp only [List.mem_cons, List.not_mem_nil, or_false] at hv
        rcases hv with rfl | rfl <;> exact .int
      generalize upd H6 p (.tup [.int (x1 - 1), .int (x2 - 1)]) = H7 at *
      have eR7 := k7 _ _ nR eR
      have fin : ∀ (v : V) H8, Vw K 5 1 H8 v → Kp a H7 H8 → Fd H8 a → ∃ rs', upd H8 R (.lst (rs ++ [v])) R = some (.lst rs') ∧ rs'.length = i + 1 ∧ (∀ u ∈ rs', Vw K 5 1 (upd H8 R (.lst (rs ++ [v]))) u) ∧ Kp a H (upd H8 R (.lst (rs ++ [v]))) ∧ Fd (upd H8 R (.lst (rs ++ [v]))) a := fun v H8 hv8 k8 F8 => by
        have eR8 := k8 _ _ nR eR7
        have kt := KT.put (ys := rs ++ [v]) eR8
        refine ⟨_, upd_same, by rw [List.length_append, lR]; rfl, fun u hu => ?_, fun b o nb hb => ?_, F8.other nR⟩
        · rcases List.mem_append.mp hu with z | z
          · exact ((hv u z).kt (KT.kp F3 (k7.trans k8))).kt kt
          · rw [List.mem_singleton.mp z]
            exact hv8.kt kt
        · rw [upd_ne (ne_of_none hb hR)]
          exact k8 _ _ nb (k7 _ _ nb (k3 _ _ nb hb))
      refine ⟨.ref R, rfl, .inl ⟨rfl, _, .inl (.inl eR7)⟩, .ref a, rfl, a, 3, rfl, F7, by decide, by decide, fun x3 H8 c0 c1 k8 F8 => ⟨_, _, rfl, rfl, _, rfl, ite2 (fun _ => ?_) (fun _ => ?_)⟩⟩
      · refine ⟨.ref p, rfl, R, rs, .ref p, rfl, rfl, k8 _ _ nR eR7, by rw [sizeLine_eq]; omega, ?_⟩
        obtain ⟨rs', e1, e2, e3, e4, e5⟩ := fin (.ref p) H8 (v7.kt (KT.kp F7 k8)) k8 F8
        exact ⟨_, _, rs', rfl, e1, e2, e3, e4, e5⟩
      · refine ⟨.ref a, rfl, a, rfl, F8, fun z H9 tz k9 F9 => ?_⟩
        refine ⟨R, rs, .str z, rfl, rfl, k9 _ _ nR (k8 _ _ nR eR7), by rw [sizeLine_eq]; omega, ?_⟩
        obtain ⟨rs', e1, e2, e3, e4, e5⟩ := fin (.str z) H9 (.str tz) (k8.trans k9) F9
        exact ⟨_, _, rs', rfl, e1, e2, e3, e4, e5⟩
    · obtain ⟨t, u, rs, rfl, eR, lR, hv, k3, F3⟩ := h
      refine ⟨.ref R, rfl, R, rs, rfl, .inl ⟨.inl (.inl eR), fun T hT => ?_⟩⟩
      exact q _ _ (Vw.tup (.inl (.inl upd_same)) (by omega) fun v hv' => (hv v hv').kt (.same (sameUpd hT))) (k3.trans (Kp.new hT)) (F3.new hT)
end
end KS.La

set_option Elab.async false
set_option linter.all false
set_option maxRecDepth 100000
set_option maxHeartbeats 4000000
namespace KS.La
open PySem PySem.Spec PyProof.Rows L2 KX
theorem madeQ {K : PySem.W.Frag} {w n : Nat} : MadeE K w n (tOp rRepX (tC (.str "q")) (tC (.int 401))) := fun σ H Q q => ⟨"q", 401, rfl, rfl, rfl, by decide, by decide, q _ H (Same.refl H) (.str (by decide +kernel))⟩
theorem seqLst {i : Nat} {ta : TA} {T2 : TS} {D : Ends} {σ : L2.St} {H : Hp} (h : tLst ta σ H (fun v H1 => T2 D (σ.set i (some v)) H1)) : tSeq (tAsg (tLst ta) (gName i)) T2 D σ H := h
theorem seqCat {i j : Nat} {ta : TA} {T2 : TS} {D : Ends} {σ : L2.St} {H : Hp} {p : Addr} (e : σ[i]? = some (some (.ref p))) (h : tLst ta σ H (fun v H1 => rCat (.ref p) v H1 (fun u H2 => T2 D (σ.set j (some u)) H2))) : tSeq (tAsg (tOp rCat (tVar i) (tLst ta)) (gName j)) T2 D σ H := ⟨.ref p, e, h⟩
section
variable {P : Program} {w : World} {K : PySem.W.Frag} {mg : Str → Option Value} {base : Heap} {f : Addr} {fd : FuncData}
theorem scOdd : FnScope ["_law_feed", "_law_odd"] ["_law_feed"] (defScope lOdd) := ⟨rfl, rfl, rfl, by decide +kernel, rfl, by decide +kernel, by decide +kernel⟩
theorem okOdd {k : Nat} (F : FnP K "_law_odd_value" lOdd f fd) (Pk : Has P w K mg base (k + 2) "_law_pick" ["_law_feed", "_law_items"] (spPick K)) : FnOk P w K mg base CX0 (k + 3) f fd ["_law_feed"] (spOdd K) := by
  obtain ⟨fP, fdP, gP, kP, bP, GP⟩ := Pk.ex
  refine F.ok scOdd (fun vs H Q E h => ?_) (fun cdv A outer s H vs Q E hr h => ?_)
  · obtain ⟨a, rfl, _⟩ := h
    rfl
  · obtain ⟨a, rfl, hF, q⟩ := h
    refine ⟨_, PSs.nox (pss_cons (ps_set (i := 1) scOdd.nd rfl (.inl rfl) (pe_lst (pa_cons (pe_non) (pa_cons (pe_bl) (pa_cons (pe_int) (pa_cons (pe_str) (pa_cons (pe_str) (pa_cons ((pe_tup (pa_cons (pe_str) pa_nil))) (pa_cons ((pe_tup pa_nil)) (pa_cons ((pe_tup (pa_cons (pe_str) (pa_cons (pe_int) pa_nil)))) (pa_cons ((pe_tup (pa_cons (pe_str) (pa_cons (pe_str) (pa_cons ((pe_tup pa_nil)) (pa_cons ((pe_tup (pa_cons (pe_str) pa_nil))) pa_nil)))))) (pa_cons ((pe_tup (pa_cons (pe_str) (pa_cons ((pe_tup pa_nil)) (pa_cons ((pe_tup pa_nil)) pa_nil))))) pa_nil)))))))))))) (pss_cons (ps_set (i := 1) scOdd.nd rfl (.inl rfl) (pe_op op_cat (pv 1) (pe_lst (pa_cons ((pe_tup (pa_cons (pe_str) (pa_cons (pe_str) pa_nil)))) (pa_cons ((pe_tup (pa_cons ((pe_tup (pa_cons (pe_str) (pa_cons (pe_str) pa_nil)))) pa_nil))) (pa_cons (pe_str) (pa_cons (pe_str) (pa_cons (pe_str) (pa_cons (pe_str) (pa_cons (pe_str) (pa_cons (pe_str) (pa_cons ((pe_tup (pa_cons (pe_int) (pa_cons (pe_int) pa_nil)))) (pa_cons ((pe_tup (pa_cons (pe_int) (pa_cons (pe_int) (pa_cons (pe_int) pa_nil))))) pa_nil))))))))))))) (pss_cons (ps_set (i := 1) scOdd.nd rfl (.inl rfl) (pe_op op_cat (pv 1) (pe_lst (pa_cons ((pe_tup (pa_cons (pe_bl) (pa_cons (pe_int) pa_nil)))) (pa_cons ((pe_op opRepX pe_str pe_int)) (pa_cons ((pe_tup (pa_cons (pe_str) pa_nil))) (pa_cons (pe_str) pa_nil))))))) (pss_one (ps_ret (pe_call GP hr (by rfl) gP kP bP .nil pass0 (pa_cons (pv 0) (pa_cons (pe_op op_cat (pv 1) (pe_lst (pa_cons ((pe_tup (pa_cons (pe_str) (pa_cons ((pe_tup (pa_cons ((pe_tup (pa_cons (pe_str) (pa_cons (pe_str) pa_nil)))) (pa_cons ((pe_tup (pa_cons (pe_str) (pa_cons (pe_str) pa_nil)))) pa_nil)))) (pa_cons ((pe_tup pa_nil)) (pa_cons ((pe_tup (pa_cons (pe_str) pa_nil))) pa_nil)))))) (pa_cons ((pe_tup (pa_cons (pe_str) (pa_cons (pe_str) (pa_cons (pe_str) (pa_cons ((pe_tup (pa_cons (pe_str) pa_nil))) pa_nil)))))) pa_nil)))) pa_nil)))))))), ?_⟩
    refine seqLst ?_
    refine madeLst (K := K) (w := 5) (n := 3) (madeCons madeNon (madeCons madeBl (madeCons madeInt (madeCons (madeStr (by decide +kernel)) (madeCons (madeStr (by decide +kernel)) (madeCons (madeTup (madeCons (madeStr (by decide +kernel)) madeNil) (by decide) (by decide)) (madeCons (madeTup madeNil (by decide) (by decide)) (madeCons (madeTup (madeCons (madeStr (by decide +kernel)) (madeCons madeInt madeNil)) (by decide) (by decide)) (madeCons (madeTup (madeCons (madeStr (by decide +kernel)) (madeCons (madeStr (by decide +kernel)) (madeCons (madeTup madeNil (by decide) (by decide)) (madeCons (madeTup (madeCons (madeStr (by decide +kernel)) madeNil) (by decide) (by decide)) madeNil)))) (by decide) (by decide)) (madeCons (madeTup (madeCons (madeStr (by decide +kernel)) (madeCons (madeTup madeNil (by decide) (by decide)) (madeCons (madeTup madeNil (by decide) (by decide)) madeNil))) (by decide) (by decide)) madeNil)))))))))) (by decide) fun p1 v1 H1 n1 s1 e1 l1 h1 => ?_
    refine seqCat (p := p1) rfl ?_
    refine madeLst (K := K) (w := 5) (n := 3) (madeCons (madeTup (madeCons (madeStr (by decide +kernel)) (madeCons (madeStr (by decide +kernel)) madeNil)) (by decide) (by decide)) (madeCons (madeTup (madeCons (madeTup (madeCons (madeStr (by decide +kernel)) (madeCons (madeStr (by decide +kernel)) madeNil)) (by decide) (by decide)) madeNil) (by decide) (by decide)) (madeCons (madeStr (by decide +kernel)) (madeCons (madeStr (by decide +kernel)) (madeCons (madeStr (by decide +kernel)) (madeCons (madeStr (by decide +kernel)) (madeCons (madeStr (by decide +kernel)) (madeCons (madeStr (by decide +kernel)) (madeCons (madeTup (madeCons madeInt (madeCons madeInt madeNil)) (by decide) (by decide)) (madeCons (madeTup (madeCons madeInt (madeCons madeInt (madeCons madeInt madeNil))) (by decide) (by decide)) madeNil)))))))))) (by decide) fun p2 v2 H2 n2 s2 e2 l2 h2 => ⟨p1, p2, v1, v2, rfl, rfl, s2 _ _ e1, e2, by rw [sizeLine_eq]; omega, fun p3 n3 => ?_⟩
    have t3 := sameUpd (o := .lst (v1 ++ v2)) n3
    have e3 : upd H2 p3 (.lst (v1 ++ v2)) p3 = some (.lst (v1 ++ v2)) := upd_same
    have h3 : ∀ v ∈ v1 ++ v2, Vw K 5 3 (upd H2 p3 (.lst (v1 ++ v2))) v := fun v hv => by
      rcases List.mem_append.mp hv with z | z
      · exact ((h1 v z).kt (.same s2)).kt (.same t3)
      · exact (h2 v z).kt (.same t3)
    have l3 : (v1 ++ v2).length = 20 := by rw [List.length_append, l1, l2]
    have S3 := (s1.trans s2).trans t3
    generalize upd H2 p3 (.lst (v1 ++ v2)) = H3 at *
    generalize v1 ++ v2 = v3 at *
    refine seqCat (p := p3) rfl ?_
    refine madeLst (K := K) (w := 5) (n := 3) (madeCons (madeTup (madeCons madeBl (madeCons madeInt madeNil)) (by decide) (by decide)) (madeCons madeQ (madeCons (madeTup (madeCons (madeStr (by decide +kernel)) madeNil) (by decide) (by decide)) (madeCons (madeStr (by decide +kernel)) madeNil)))) (by decide) fun p4 v4 H4 n4 s4 e4 l4 h4 => ⟨p3, p4, v3, v4, rfl, rfl, s4 _ _ e3, e4, by rw [sizeLine_eq]; omega, fun p5 n5 => ?_⟩
    have t5 := sameUpd (o := .lst (v3 ++ v4)) n5
    have e5 : upd H4 p5 (.lst (v3 ++ v4)) p5 = some (.lst (v3 ++ v4)) := upd_same
    have h5 : ∀ v ∈ v3 ++ v4, Vw K 5 3 (upd H4 p5 (.lst (v3 ++ v4))) v := fun v hv => by
      rcases List.mem_append.mp hv with z | z
      · exact ((h3 v z).kt (.same s4)).kt (.same t5)
      · exact (h4 v z).kt (.same t5)
    have l5 : (v3 ++ v4).length = 24 := by rw [List.length_append, l3, l4]
    have S5 := (S3.trans s4).trans t5
    generalize upd H4 p5 (.lst (v3 ++ v4)) = H5 at *
    generalize v3 ++ v4 = v5 at *
    refine ⟨.ref a, rfl, .ref p5, rfl, ?_⟩
    refine madeLst (K := K) (w := 5) (n := 3) (madeCons (madeTup (madeCons (madeStr (by decide +kernel)) (madeCons (madeTup (madeCons (madeTup (madeCons (madeStr (by decide +kernel)) (madeCons (madeStr (by decide +kernel)) madeNil)) (by decide) (by decide)) (madeCons (madeTup (madeCons (madeStr (by decide +kernel)) (madeCons (madeStr (by decide +kernel)) madeNil)) (by decide) (by decide)) madeNil)) (by decide) (by decide)) (madeCons (madeTup madeNil (by decide) (by decide)) (madeCons (madeTup (madeCons (madeStr (by decide +kernel)) madeNil) (by decide) (by decide)) madeNil)))) (by decide) (by decide)) (madeCons (madeTup (madeCons (madeStr (by decide +kernel)) (madeCons (madeStr (by decide +kernel)) (madeCons (madeStr (by decide +kernel)) (madeCons (madeTup (madeCons (madeStr (by decide +kernel)) madeNil) (by decide) (by decide)) madeNil)))) (by decide) (by decide)) madeNil)) (by decide) fun p6 v6 H6 n6 s6 e6 l6 h6 => ⟨p5, p6, v5, v6, rfl, rfl, s6 _ _ e5, e6, by rw [sizeLine_eq]; omega, fun p7 n7 => ?_⟩
    have t7 := sameUpd (o := .lst (v5 ++ v6)) n7
    have e7 : upd H6 p7 (.lst (v5 ++ v6)) p7 = some (.lst (v5 ++ v6)) := upd_same
    have h7 : ∀ v ∈ v5 ++ v6, Vw K 5 3 (upd H6 p7 (.lst (v5 ++ v6))) v := fun v hv => by
      rcases List.mem_append.mp hv with z | z
      · exact ((h5 v z).kt (.same s6)).kt (.same t7)
      · exact (h6 v z).kt (.same t7)
    have l7 : (v5 ++ v6).length = 26 := by rw [List.length_append, l5, l6]
    have F6 := (hF.same S5).same s6
    have ne7 := F6.ne n7
    have S7 := (S5.trans s6).trans t7
    generalize upd H6 p7 (.lst (v5 ++ v6)) = H7 at *
    generalize v5 ++ v6 = v7 at *
    refine ⟨a, p7, v7, rfl, hF.same S7, .inl (.inl e7), ne7, by omega, by omega, fun i v H8 hv k8 F8 => q v H8 ((h7 v (List.mem_of_getElem? hv)).kt (KT.kp (hF.same S7) k8)) ((Kp.same S7).trans k8) F8⟩
end
end KS.La

set_option Elab.async false
set_option linter.all false
set_option maxRecDepth 100000
set_option maxHeartbeats 8000000
namespace KS.La
open PySem PySem.Spec PyProof.Rows L2 KX
abbrev lTree : Stmt := top 35
def spTree (K : PySem.W.Frag) (M : Nat) : Sp := fun vs H Q _ => ∃ (f ks os : Addr) (xs zs : List V) (n : Int), vs = [.ref f, .ref ks, .ref os, .int n] ∧ 0 ≤ n ∧ n ≤ M ∧ Fd H f ∧ H ks = some (.lst xs) ∧ ks ≠ f ∧ 1 ≤ xs.length ∧ xs.length ≤ 10 ∧ (∀ v ∈ xs, Vw K 5 1 H v) ∧
  H os = some (.lst zs) ∧ os ≠ f ∧ zs.length ≤ 10 ∧ (∀ v ∈ zs, ∃ z, v = .str z ∧ TOk z) ∧ ∀ v H', Vw K 5 (3 * M + 2) H' v → Kp f H H' → Fd H' f → Q v H'
theorem decNil {K : PySem.W.Frag} {H : Hp} {xs : List V} {ds : List PyData} (h : DpAll K H xs ds) : decide (ds = []) = decide (xs = []) := by
  cases h with
  | nil => rfl
  | cons => rfl
theorem eqVw {K : PySem.W.Frag} {H : Hp} {L p : Addr} {xs : List V} {n : Nat} {Q : VK} (hn : n ≤ 60) (eL : H L = some (.lst xs)) (hv : ∀ v ∈ xs, Vw K 5 n H v) (ep : H p = some (.lst [])) (h : Q (.bl (decide (xs = []))) H) : rEqD K (.ref L) (.ref p) H Q := by
  obtain ⟨ds, hds, od⟩ := vwAll hv
  refine ⟨.list ds, .list [], .lst (.inl (.inl eL)) hds, .lst (.inl (.inl ep)) .nil, shapedList hn fun d hd => (od d hd).od (by omega), rfl, ?_⟩
  rw [eqvNilL, decNil hds]
  exact h
theorem neVw {K : PySem.W.Frag} {H : Hp} {L p : Addr} {xs : List V} {n : Nat} {Q : VK} (hn : n ≤ 60) (eL : H L = some (.lst xs)) (hv : ∀ v ∈ xs, Vw K 5 n H v) (ep : H p = some (.lst [])) (h : Q (.bl (!decide (xs = []))) H) : rNeD K (.ref L) (.ref p) H Q := by
  obtain ⟨ds, hds, od⟩ := vwAll hv
  refine ⟨.list ds, .list [], .lst (.inl (.inl eL)) hds, .lst (.inl (.inl ep)) .nil, shapedList hn fun d hd => (od d hd).od (by omega), rfl, ?_⟩
  rw [eqvNilL, decNil hds]
  exact h
theorem strVw {K : PySem.W.Frag} {zs : List V} (h : ∀ v ∈ zs, ∃ z, v = .str z ∧ TOk z) (H : Hp) : ∀ v ∈ zs, Vw K 5 0 H v := fun v hv => by
  obtain ⟨z, rfl, tz⟩ := h v hv
  exact .str tz
theorem lenCutA (xs : List V) (j : Nat) : (cutV xs none (some (j : Int))).length ≤ j := by
  unfold cutV
  rw [HT.sIx_nat, HT.sIx_none, List.length_take]
  omega
theorem memCut {xs : List V} {lo hi : Option Int} {v : V} (h : v ∈ cutV xs lo hi) : v ∈ xs := List.mem_of_mem_drop (List.mem_of_mem_take h)
abbrev nTree : List Str := ["_law_feed", "_law_keys", "_law_outs_here", "_law_deep", "_law_form", "_law_out", "_law_left", "_law_chosen", "_law_cases", "_law_turn", "_law_row", "_law_one", "_law_key"]
abbrev tT (a ks os : Addr) (n : Int) (x4 x5 x6 x7 x8 x9 x10 x11 x12 : Option V) : L2.St := [some (.ref a), some (.ref ks), some (.ref os), some (.int n), x4, x5, x6, x7, x8, x9, x10, x11, x12]
section
variable {P : Program} {w : World} {K : PySem.W.Frag} {mg : Str → Option Value} {base : Heap} {f : Addr} {fd : FuncData}
abbrev pTree : List Str := ["_law_feed", "_law_keys", "_law_outs_here", "_law_deep"]
theorem scTree : FnScope nTree pTree (defScope lTree) := ⟨rfl, rfl, rfl, by decide +kernel, rfl, by decide +kernel, by decide +kernel⟩
theorem okTree {k : Nat} (F : FnP K "_law_some_tree" lTree f fd) (gT : mg "_law_some_tree" = some (.ref f)) (bT : Binds K fd pTree []) (B : Bn mg) (D : Has P w K mg base (k + 1) "_law_draw" ["_law_feed", "_law_many"] spDraw) (Pk : Has P w K mg base (k + 2) "_law_pick" ["_law_feed", "_law_items"] (spPick K))
    (Mx : Has P w K mg base (k + 2) "_law_mixed" ["_law_feed", "_law_items"] (spMixed K)) (Pa : Has P w K mg base (k + 4) "_law_some_parts" ["_law_feed"] (spParts K)) (An : Has P w K mg base (k + 4) "_law_some_answer" ["_law_feed"] spAns) :
    ∀ M, M ≤ 100 → FnOk P w K mg base CX0 (k + M + 5) f fd pTree (spTree K M) := by
  obtain ⟨fD, fdD, gD, kD, bD, GD⟩ := D.ex
  obtain ⟨fP, fdP, gP, kP, bP, GP⟩ := Pk.ex
  obtain ⟨fM, fdM, gM, kM, bM, GM⟩ := Mx.ex
  obtain ⟨fQ, fdQ, gQ, kQ, bQ, GQ⟩ := Pa.ex
  obtain ⟨fA, fdA, gA, kA, bA, GA⟩ := An.ex
  have stop : ∀ {M : Nat} {a : Addr} {H1 : Hp} {p : Addr}, H1 p = none → Vw K 5 (3 * M + 2) (upd H1 p (.tup [.str "stop"])) (.ref p) := fun {M a H1 p} hp => by
    refine Vw.tup (n := 3 * M + 1) (.inl (.inl upd_same)) (by show 1 ≤ 5; omega) fun v hv => ?_
    rw [List.mem_singleton.mp hv]
    exact .str (by decide +kernel)
  intro M
  induction M with
  | zero =>
    intro hM
    refine F.ok scTree (fun vs H Q E h => ?_) (fun cdv A outer s H vs Q E hr h => ?_)
    · obtain ⟨a, ks, os, xs, zs, n, rfl, _⟩ := h
      rfl
    · obtain ⟨a, ks, os, xs, zs, n, rfl, n0, n1, hF, eK, neK, _, _, hxs, eO, neO, _, hzs, q⟩ := h
      have hr1 : Room (k + 1) _ := hr.mono (by omega)
      refine ⟨_, PSs.nox (pss_cons (ps_set (i := 4) scTree.nd rfl (.inl rfl) (pe_call GD hr1 (by rfl) gD kD bD .nil pass0 (pa_cons (pv 0) (pa_cons (pe_int) pa_nil)))) (pss_cons (ps_if (PW.pt (pw_or (pt_cmpR op_eq (pv 3) pe_int (nomark _)) (pw_or (pt_cmpR op_eq (pv 4) pe_int (nomark _)) (pw_or1 (PW.pt (pw_and (pt_cmpR (r := rEqD K) (op_eqD hr.units) (pv 1) (pe_lst pa_nil) (nomark _)) (pw_and1 (pt_cmpR (r := rEqD K) (op_eqD hr.units) (pv 2) (pe_lst pa_nil) (nomark _)))))))))
          (pss_one (ps_ret (pe_tup (pa_cons (pe_str) pa_nil)))) pss_nil) (pss_cons (ps_never) (pss_cons (ps_never) (pss_cons (ps_never) (pss_one (ps_never))))))), ?_⟩
      refine ⟨.ref a, rfl, a, 9, rfl, hF, by decide, by decide, fun r H1 r0 r1 k1 F1 => ⟨.int n, rfl, rfl, _, rfl, ite2 (fun e => ?_) (fun e => ?_)⟩⟩
      · exact iteT ⟨(by show 1 ≤ sizeLine; decide), fun p hp => q _ _ (stop (a := a) (M := 0) hp) (k1.trans (Kp.new hp)) (F1.new hp)⟩
      · have e2 : n = 0 := by omega
        subst e2
        exact absurd e (by decide)
  | succ M ih =>
    intro hM
    have G := ih (by omega)
    refine F.ok scTree (fun vs H Q E h => ?_) (fun cdv A outer s H vs Q E hr h => ?_)
    · obtain ⟨a, ks, os, xs, zs, n, rfl, _⟩ := h
      rfl
    · obtain ⟨a, ks, os, xs, zs, n, rfl, n0, n1, hF, eK, neK, lx1, lx, hxs, eO, neO, lz, hzs, q⟩ := h
      have hr1 : Room (k + 1) _ := hr.mono (by omega)
      have hr2 : Room (k + 2) _ := hr.mono (by omega)
      have hr4 : Room (k + 4) _ := hr.mono (by omega)
      have hrG : Room (k + M + 5) _ := hr.mono (by omega)
      have xne : xs ≠ [] := fun z => by rw [z] at lx1; exact absurd lx1 (by decide)
      have hzV := fun H => strVw (K := K) hzs H
      refine ⟨_, PSs.nox (pss_cons (ps_set (i := 4) scTree.nd rfl (.inl rfl) (pe_call GD hr1 (by rfl) gD kD bD .nil pass0 (pa_cons (pv 0) (pa_cons (pe_int) pa_nil)))) (C8.pss_cut (ps_if (PW.pt (pw_or (pt_cmpR op_eq (pv 3) pe_int (nomark _)) (pw_or (pt_cmpR op_eq (pv 4) pe_int (nomark _)) (pw_or1 (PW.pt (pw_and (pt_cmpR (r := rEqD K) (op_eqD hr.units) (pv 1) (pe_lst pa_nil) (nomark _)) (pw_and1 (pt_cmpR (r := rEqD K) (op_eqD hr.units) (pv 2) (pe_lst pa_nil) (nomark _)))))))))
          (pss_one (ps_ret (pe_tup (pa_cons (pe_str) pa_nil)))) pss_nil) (C8.pss_cut (ps_if (PW.pt (pw_or (PW.pt (pw_and (pt_cmpR op_lt (pv 4) pe_int (nomark _)) (pw_and1 (pt_cmpR (r := rNeD K) (op_neD hr.units) (pv 2) (pe_lst pa_nil) (nomark _))))) (pw_or1 (pt_cmpR (r := rEqD K) (op_eqD hr.units) (pv 1) (pe_lst pa_nil) (nomark _)))))
          (pss_cons (ps_set (i := 5) scTree.nd rfl (.inr rfl) (pe_call GP hr2 (by rfl) gP kP bP .nil pass0 (pa_cons (pv 0) (pa_cons (pv 2) pa_nil)))) (pss_cons (ps_setLc (i := 6) (own := [("_law_one", 11)]) (g := gName 11) (by rfl) scTree.nd rfl rfl (sw_true rfl rfl (by decide +kernel) (by decide +kernel)) (pi_list (pv 2)) (blkOk_by (N := nTree) (sc := defScope lTree) (by decide +kernel))
              (fun _ _ _ _ _ => pg_name (i := 11) scTree.nd rfl (.inl rfl) (hf := .inr rfl)) (fun _ _ _ _ _ => pts_one (pt_cmpR (r := rNe) op_ne (pv 11) (pv 5) (nomark _))) (fun _ _ _ _ _ => pv 11)) (pss_one (ps_ret (pe_tup (pa_cons (pe_str) (pa_cons (pv 5) (pa_cons (pe_call GQ hr4 (by rfl) gQ kQ bQ .nil pass0 (pa_cons (pv 0) pa_nil)) (pa_cons (pe_call G hrG (by rfl) gT F.kp bT .nil pass0 (pa_cons (pv 0) (pa_cons (pv 1) (pa_cons (pv 6) (pa_cons (pe_op op_sub (pv 3) pe_int) pa_nil))))) pa_nil))))))))) pss_nil) (C8.pss_cut (ps_par (i := 7) (j := 8) (by rfl) scTree.nd rfl rfl (by decide) rfl rfl (pa_cons (pe_slice sl_list (pe_call GM hr2 (by rfl) gM kM bM .nil pass0 (pa_cons (pv 0) (pa_cons (pv 1) pa_nil))) po_none (po_some (pe_ix ix_list (pe_lst (pa_cons (pe_int) (pa_cons (pe_int) (pa_cons (pe_int) (pa_cons (pe_int) (pa_cons (pe_int) (pa_cons (pe_int) (pa_cons (pe_int) pa_nil)))))))) (pe_call GD hr1 (by rfl) gD kD bD .nil pass0 (pa_cons (pv 0) (pa_cons (pe_int) pa_nil))) (fun _ _ => rfl)))) (pa_cons (pe_lst pa_nil) pa_nil)) (by rfl)) (C8.pss_cut (ps_for PassesOwn.never rfl (pi_range1 (by rfl) B.range (pa_cons (pe_call GD hr1 (by rfl) gD kD bD .nil pass0 (pa_cons (pv 0) (pa_cons (pe_int) pa_nil))) pa_nil)) (pg_name (i := 9) scTree.nd rfl (.inl rfl))
          (pss_cons (ps_set (i := 10) scTree.nd rfl (.inl rfl) (pe_callTy call_tuple_of (by rfl) B.tuple (by decide +kernel) (pa_cons (pe_lc (own := [("_law_key", 12)]) (g := gName 12) rfl scTree.nd (pi_list (pv 7)) (blkOk_by (N := nTree) (sc := defScope lTree) (by decide +kernel))
              (fun _ _ _ _ _ => pg_name (i := 12) scTree.nd rfl (.inl rfl) (hf := .inr rfl)) (fun _ _ _ _ _ => pts_nil) (fun _ _ _ _ _ => pe_call GA hr4 (by rfl) gA kA bA .nil pass0 (pa_cons (pv 0) pa_nil))) pa_nil))) (pss_one (ps_expr (pe_bm PySem.F.plainAttrs_list PySem.F.slot_list_append PySem.F.type_list_append mt_append (pv 8) (pa_cons (pe_tup (pa_cons (pv 10) (pa_cons (pe_call G hrG (by rfl) gT F.kp bT .nil pass0 (pa_cons (pv 0) (pa_cons (pv 1) (pa_cons (pv 2) (pa_cons (pe_op op_sub (pe_op op_sub (pv 3) pe_int) (pe_call GD hr1 (by rfl) gD kD bD .nil pass0 (pa_cons (pv 0) (pa_cons (pv 3) pa_nil)))) pa_nil))))) pa_nil))) pa_nil)))))) (pss_one (ps_ret (pe_tup (pa_cons (pe_str) (pa_cons (pe_callTy call_tuple_of (by rfl) B.tuple (by decide +kernel) (pa_cons (pv 7) pa_nil)) (pa_cons (pe_callTy call_tuple_of (by rfl) B.tuple (by decide +kernel) (pa_cons (pv 8) pa_nil)) (pa_cons (pe_call G hrG (by rfl) gT F.kp bT .nil pass0 (pa_cons (pv 0) (pa_cons (pv 1) (pa_cons (pv 2) (pa_cons (pe_op op_sub (pv 3) pe_int) pa_nil))))) pa_nil)))))))))))), ?_⟩
      refine ⟨.ref a, rfl, a, 9, rfl, hF, by decide, by decide, fun r H1 r0 r1 k1 F1 => ?_⟩
      have eK1 := k1 _ _ neK eK
      have eO1 := k1 _ _ neO eO
      have ret : ∀ {H2 : Hp}, Kp a H H2 → Fd H2 a → (1 ≤ sizeLine ∧ ∀ p, H2 p = none → Q (.ref p) (upd H2 p (.tup [.str "stop"]))) := fun k2 F2 => ⟨by decide, fun p hp => q _ _ (stop (a := a) hp) (k2.trans (Kp.new hp)) (F2.new hp)⟩
      -- the first if
      refine ⟨fun σ' H' => σ' = tT a ks os n (some (.int r)) none none none none none none none none ∧ 1 ≤ n ∧ Kp a H H' ∧ Fd H' a, ?_, ?_⟩
      · refine ⟨.int n, rfl, rfl, _, rfl, ite2 (fun e => ?_) (fun e => ?_)⟩
        · exact iteT (ret k1 F1)
        have hn1 : 1 ≤ n := by
          have : n ≠ 0 := fun z => e (decide_eq_true (by rw [z]))
          omega
        refine ⟨.int r, rfl, rfl, _, rfl, ite2 (fun e => ?_) (fun e => ?_)⟩
        · exact iteT (ret k1 F1)
        refine ⟨.ref ks, rfl, Nat.zero_le _, fun p hp => ?_⟩
        have s2 := sameUpd (o := .lst []) hp
        refine eqVw (n := 1) (by omega) (s2 _ _ eK1) (fun v hv => ((hxs v hv).kt (KT.kp hF k1)).kt (.same s2)) upd_same ⟨_, rfl, ?_⟩
        rw [decide_eq_false xne]
        exact iteF ⟨rfl, hn1, k1.trans (Kp.same s2), F1.same s2⟩
      rintro σ2 H2 ⟨rfl, hn1, k2, F2⟩
      -- the second
      refine ⟨fun σ' H' => σ' = tT a ks os n (some (.int r)) none none none none none none none none ∧ Kp a H H' ∧ Fd H' a, ?_, ?_⟩
      · have eK2 := k2 _ _ neK eK
        have eO2 := k2 _ _ neO eO
        have keys : ∀ {H3 : Hp} {p : Addr}, Kp a H H3 → Fd H3 a → H3 p = none → ∀ R : VK, R (.bl false) (upd H3 p (.lst [])) → rEqD K (.ref ks) (.ref p) (upd H3 p (.lst [])) R := fun {H3 p} k3 F3 hp R hR => by
          have s3 := sameUpd (o := .lst []) hp
          refine eqVw (n := 1) (by omega) (s3 _ _ (k3 _ _ neK eK)) (fun v hv => ((hxs v hv).kt (KT.kp hF k3)).kt (.same s3)) upd_same ?_
          rw [decide_eq_false xne]
          exact hR
        refine ⟨.int r, rfl, r, 4, rfl, rfl, _, rfl, ite2 (fun e => ?_) (fun e => ?_)⟩
        · refine ⟨.ref os, rfl, Nat.zero_le _, fun p hp => ?_⟩
          have s3 := sameUpd (o := .lst []) hp
          refine neVw (n := 0) (by omega) (s3 _ _ eO2) (hzV _) upd_same ⟨_, rfl, ?_⟩
          have k3 := k2.trans (Kp.same s3)
          have F3 := F2.same s3
          have eO3 := s3 _ _ eO2
          generalize upd H2 p (.lst []) = H3 at *
          by_cases z0 : zs = []
          · rw [decide_eq_true z0]
            refine iteF ⟨.ref ks, rfl, Nat.zero_le _, fun p4 hp4 => keys k3 F3 hp4 _ ⟨_, rfl, iteF ⟨rfl, k3.trans (Kp.new hp4), F3.new hp4⟩⟩⟩
          rw [decide_eq_false z0]
          refine iteT (iteT ?_)
          -- a write
          have zpos : 0 < zs.length := List.length_pos_iff.mpr z0
          refine ⟨.ref a, rfl, .ref os, rfl, a, os, zs, rfl, F3, .inl (.inl eO3), neO, zpos, by omega, fun i v H4 hv4 k4 F4 => ?_⟩
          obtain ⟨z, rfl, tz⟩ := hzs v (List.mem_of_getElem? hv4)
          have eO4 := k4 _ _ neO eO3
          have k04 := k3.trans k4
          refine ⟨.ref os, rfl, os, rfl, ⟨_, .inl (.inl eO4)⟩, fun D hD => ?_⟩
          have nDo : D ≠ os := fun y => by rw [y, eO4] at hD; cases hD
          refine lcJ (n := zs.length) (vs := [11]) (fun i H' => ∃ acc, At H4 D acc H' ∧ acc.length ≤ i ∧ ∀ v ∈ acc, ∃ z, v = .str z ∧ TOk z) ⟨[], ⟨sameUpd hD, upd_same⟩, Nat.le_refl _, fun v hv => absurd hv (by simp)⟩
            (fun i H' lt h => ⟨zs, zs[i], .inl (.inl (h.choose_spec.1.1 _ _ eO4)), List.getElem?_eq_getElem lt⟩) (fun H' h => ⟨zs, .inl (.inl (h.choose_spec.1.1 _ _ eO4)), by omega⟩) (fun i H' x H5 lt h y => ?_) (fun H' h => ?_)
          · obtain ⟨rfl, y⟩ := y
            obtain ⟨acc, hat, la, hacc⟩ := h
            obtain ⟨z1, rfl, tz1⟩ := hzs x (List.mem_of_getElem? (y _ (.inl (.inl (hat.1 _ _ eO4)))))
            refine ⟨rfl, .str z1, rfl, .str z, rfl, rfl, _, rfl, ite2 (fun e => ?_) (fun e => ?_)⟩
            · refine ⟨.str z1, rfl, acc, hat.2, by rw [sizeLine_eq]; omega, acc ++ [.str z1], (hat.put hD (Same.refl _)).2, by rw [List.length_append]; show acc.length + 1 ≤ _; omega, fun u hu => ?_⟩
              rcases List.mem_append.mp hu with w | w
              · exact hacc u w
              · rw [List.mem_singleton.mp w]
                exact ⟨z1, rfl, tz1⟩
            · exact ⟨acc, hat, by omega, hacc⟩
          obtain ⟨acc, hat, la, hacc⟩ := h
          have F5 := F4.same hat.1
          have k05 := k04.trans (Kp.same hat.1)
          have nDa : D ≠ a := F4.ne hD
          refine ⟨.str z, rfl, .ref a, rfl, a, rfl, F5, fun v6 H6 hv6 k6 F6 => ?_⟩
          have k06 := k05.trans k6
          refine ⟨.ref a, rfl, .ref ks, rfl, .ref D, rfl, .int n, rfl, n, 1, rfl, rfl, a, ks, D, xs, acc, n - 1, rfl, by omega, by omega, F6, k06 _ _ neK eK, neK, lx1, lx, fun u hu => (hxs u hu).kt (KT.kp hF k06), k6 _ _ nDa hat.2, nDa, by omega, hacc, fun v7 H7 hv7 k7 F7 => ⟨(by show 4 ≤ sizeLine; decide), fun p8 hp8 => ?_⟩⟩
          have s8 := sameUpd (o := .tup [.str "write", .str z, v6, v7]) hp8
          refine q _ _ (Vw.tup (n := 3 * M + 4) (.inl (.inl upd_same)) (by show 4 ≤ 5; omega) fun u hu => ?_) ((k06.trans k7).trans (Kp.same s8)) (F7.same s8)
          simp only [List.mem_cons, List.not_mem_nil, or_false] at hu
          rcases hu with rfl | rfl | rfl | rfl
          · exact .str (by decide +kernel)
          · exact .str tz
          · exact ((hv6.kt (KT.kp F6 k7)).kt (.same s8)).up (by omega) (by omega)
          · exact (hv7.kt (.same s8)).up (by omega) (by omega)
        · refine iteF ⟨.ref ks, rfl, Nat.zero_le _, fun p4 hp4 => keys k2 F2 hp4 _ ⟨_, rfl, iteF ⟨rfl, k2.trans (Kp.new hp4), F2.new hp4⟩⟩⟩
      rintro σ3 H3 ⟨rfl, k3, F3⟩
      have eK3 := k3 _ _ neK eK
      -- the keys chosen
      refine ⟨fun σ' H' => ∃ C U cs, σ' = tT a ks os n (some (.int r)) none none (some (.ref C)) (some (.ref U)) none none none none ∧ H' C = some (.lst cs) ∧ cs.length ≤ 4 ∧ (∀ v ∈ cs, Vw K 5 1 H' v) ∧ H' U = some (.lst []) ∧ C ≠ a ∧ U ≠ a ∧ C ≠ U ∧ H3 U = none ∧ Kp a H3 H' ∧ Fd H' a, ?_, ?_⟩
      · refine ⟨.ref a, rfl, .ref ks, rfl, a, ks, xs, rfl, F3, .inl (.inl eK3), by omega, fun v hv => (hxs v hv).kt (KT.kp hF k3), fun p ys H4 np k4 F4 ep lp hv4 => ?_⟩
        have pa : p ≠ a := F3.ne np
        refine ⟨(by show 7 ≤ sizeLine; decide), fun L hL => ?_⟩
        have s5 := sameUpd (o := .lst [.int 1, .int 1, .int 1, .int 2, .int 2, .int 3, .int 4]) hL
        have eL : upd H4 L (.lst [.int 1, .int 1, .int 1, .int 2, .int 2, .int 3, .int 4]) L = some (.lst [.int 1, .int 1, .int 1, .int 2, .int 2, .int 3, .int 4]) := upd_same
        have F5 := F4.same s5
        have nLa := F4.ne hL
        have ep5 := s5 _ _ ep
        generalize upd H4 L (.lst [.int 1, .int 1, .int 1, .int 2, .int 2, .int 3, .int 4]) = H5 at *
        refine ⟨.ref a, rfl, a, 7, rfl, F5, by decide, by decide, fun r6 H6 r60 r61 k6 F6 => ?_⟩
        obtain ⟨j, hj, hj4⟩ : ∃ j : Nat, atI [V.int 1, .int 1, .int 1, .int 2, .int 2, .int 3, .int 4] r6 = some (.int (j : Int)) ∧ j ≤ 4 := by
          have hc : r6 = 0 ∨ r6 = 1 ∨ r6 = 2 ∨ r6 = 3 ∨ r6 = 4 ∨ r6 = 5 ∨ r6 = 6 := by omega
          rcases hc with h | h | h | h | h | h | h <;> rw [h]
          · exact ⟨1, rfl, by omega⟩
          · exact ⟨1, rfl, by omega⟩
          · exact ⟨1, rfl, by omega⟩
          · exact ⟨2, rfl, by omega⟩
          · exact ⟨2, rfl, by omega⟩
          · exact ⟨3, rfl, by omega⟩
          · exact ⟨4, rfl, by omega⟩
        refine ⟨L, _, r6, .int (j : Int), rfl, rfl, .inl (.inl (k6 _ _ nLa eL)), hj, (j : Int), rfl, p, ys, rfl, .inl (.inl (k6 _ _ pa ep5)), fun C hC => ⟨Nat.zero_le _, fun U hU => ⟨_, _, rfl, ?_⟩⟩⟩
        have s7 := sameUpd (o := .lst (cutV ys none (some (j : Int)))) hC
        have s8 := sameUpd (o := .lst []) hU
        have F8 := (F6.same s7).same s8
        have Ca := F6.ne hC
        have Ua := (F6.same s7).ne hU
        have kA : Kp a H3 (upd (upd H6 C (.lst (cutV ys none (some (j : Int))))) U (.lst [])) := ((k4.trans (Kp.same s5)).trans k6).trans (Kp.same (s7.trans s8))
        have lc := lenCutA ys j
        refine ⟨C, U, _, rfl, s8 _ _ upd_same, by omega, fun v hv => ((((hv4 v (memCut hv)).kt (.same s5)).kt (KT.kp F5 k6)).kt (.same (s7.trans s8))), upd_same, Ca, Ua, fun z => (by rw [← z, upd_same] at hU; cases hU), ?_, kA, F8⟩
        cases e : H3 U with
        | none => rfl
        | some o => 
          have := s7 _ _ (k6 _ _ Ua (s5 _ _ (k4 _ _ Ua e)))
          rw [this] at hU
          cases hU
      rintro σ4 H4 ⟨C, U, cs, rfl, eC, lc, hcs, eU, Ca, Ua, CU, nU3, k4, F4⟩
      have hcs4 := hcs
      -- the cases
      refine ⟨fun σ' H' => ∃ x9 x10 rs, σ' = tT a ks os n (some (.int r)) none none (some (.ref C)) (some (.ref U)) x9 x10 none none ∧ H' C = some (.lst cs) ∧ H' U = some (.lst rs) ∧ rs.length ≤ 2 ∧ (∀ v ∈ cs, Vw K 5 1 H' v) ∧ (∀ v ∈ rs, Vw K 5 (3 * M + 3) H' v) ∧ Kp a H3 H' ∧ Fd H' a, ?_, ?_⟩
      · refine ⟨.ref a, rfl, a, 3, rfl, F4, by decide, by decide, fun r5 H5 r50 r51 k5 F5 => ⟨r5, rfl, by omega, by omega, ?_⟩⟩
        obtain ⟨m, rfl⟩ : ∃ m : Nat, r5 = (m : Int) := ⟨r5.toNat, by omega⟩
        rw [Int.toNat_natCast]
        refine forJ (n := m) (fun i σ' H' => ∃ x9 x10 rs, σ' = tT a ks os n (some (.int r)) none none (some (.ref C)) (some (.ref U)) x9 x10 none none ∧ H' C = some (.lst cs) ∧ H' U = some (.lst rs) ∧ rs.length = i ∧ (∀ v ∈ cs, Vw K 5 1 H' v) ∧ (∀ v ∈ rs, Vw K 5 (3 * M + 3) H' v) ∧ Kp a H3 H' ∧ Fd H' a)
          ⟨none, none, [], rfl, k5 _ _ Ca eC, k5 _ _ Ua eU, rfl, fun v hv => (hcs v hv).kt (KT.kp F4 k5), fun v hv => absurd hv (by simp), k4.trans k5, F5⟩ (fun i σ' H' lt _ => lt) (fun σ' H' _ => Nat.le_refl _) (fun i σ' H6 x H7 lt h y => ?_) (fun σ' H' h => ?_)
        · obtain ⟨rfl, rfl⟩ := y
          obtain ⟨x9, x10, rs, rfl, eC6, eU6, lr, hc6, hr6, k6, F6⟩ := h
          refine ⟨.ref C, rfl, C, rfl, ⟨_, .inl (.inl eC6)⟩, fun D hD => ?_⟩
          refine lcFeedJ (K := K) (w := 5) (n := 0) (m := cs.length) hD F6 (by omega) (fun v => rfl) (fun i H lt k => ⟨cs, _, .inl (.inl (k _ _ Ca eC6)), List.getElem?_eq_getElem (by omega)⟩) (fun H k => ⟨cs, .inl (.inl (k _ _ Ca eC6)), by omega⟩) (fun i x H8 H9 lt k8 F8 y => ?_) (fun H8 ys e8 l8 hv8 k8 F8 => ?_)
          · obtain ⟨rfl, y⟩ := y
            refine ⟨rfl, fun R hR => ?_⟩
            refine ⟨.ref a, rfl, a, rfl, F8, fun v H10 hv10 k10 F10 => hR v H10 ?_ k10 F10⟩
            rcases hv10 with rfl | ⟨z, rfl, tz⟩
            · exact .non
            · exact .str tz
          refine ⟨D, ys, rfl, .inl ⟨.inl (.inl e8), fun T hT => ?_⟩⟩
          have sT := sameUpd (o := .tup ys) hT
          have vT : Vw K 5 1 (upd H8 T (.tup ys)) (.ref T) := Vw.tup (.inl (.inl upd_same)) (by omega) fun v hv => (hv8 v hv).kt (.same sT)
          have F9 := F8.same sT
          have k9 := k8.trans (Kp.same sT)
          generalize upd H8 T (.tup ys) = H9 at *
          have eU9 := k9 _ _ Ua eU6
          have k39 := k6.trans k9
          refine ⟨.ref U, rfl, .inl ⟨rfl, _, .inl (.inl eU9)⟩, .ref T, rfl, .ref a, rfl, .ref ks, rfl, .ref os, rfl, .int n, rfl, n, 1, rfl, rfl, .ref a, rfl, .int n, rfl, a, n, rfl, F9, by omega, by omega, fun r10 H10 r100 r101 k10 F10 => ⟨n - 1, r10, rfl, rfl, ?_⟩⟩
          have k310 := (k3.trans k39).trans k10
          refine ⟨a, ks, os, xs, zs, n - 1 - r10, rfl, by omega, by omega, F10, k310 _ _ neK eK, neK, lx1, lx, fun u hu => (hxs u hu).kt (KT.kp hF k310), k310 _ _ neO eO, neO, lz, hzs, fun v11 H11 hv11 k11 F11 => ⟨(by show 2 ≤ sizeLine; decide), fun p hp => ?_⟩⟩
          have sp := sameUpd (o := .tup [.ref T, v11]) hp
          have kA : Kp a H9 (upd H11 p (.tup [.ref T, v11])) := (k10.trans k11).trans (Kp.same sp)
          have vp : Vw K 5 (3 * M + 3) (upd H11 p (.tup [.ref T, v11])) (.ref p) := by
            refine Vw.tup (n := 3 * M + 2) (.inl (.inl upd_same)) (by show 2 ≤ 5; omega) fun u hu => ?_
            simp only [List.mem_cons, List.not_mem_nil, or_false] at hu
            rcases hu with rfl | rfl
            · exact (((vT.kt (KT.kp F9 k10)).kt (KT.kp F10 k11)).kt (.same sp)).up (by omega) (by omega)
            · exact hv11.kt (.same sp)
          have FA := F11.same sp
          generalize upd H11 p (.tup [.ref T, v11]) = H12 at *
          have eU12 := kA _ _ Ua eU9
          have eC12 := kA _ _ Ca (k9 _ _ Ca eC6)
          have kt := KT.put (ys := rs ++ [.ref p]) eU12
          have ktA : KT H7 H12 := KT.kp F6 (k9.trans kA)
          refine ⟨U, rs, .ref p, rfl, rfl, eU12, by rw [sizeLine_eq]; omega, ?_⟩
          refine ⟨_, _, rs ++ [.ref p], rfl, by rw [upd_ne CU]; exact eC12, upd_same, by rw [List.length_append, lr]; rfl, fun v hv => ((hc6 v hv).kt ktA).kt kt, fun v hv => ?_, fun b o nb hb => ?_, FA.other Ua⟩
          · rcases List.mem_append.mp hv with z | z
            · exact ((hr6 v z).kt ktA).kt kt
            · rw [List.mem_singleton.mp z]
              exact vp.kt kt
          · rw [upd_ne (ne_of_none hb nU3)]
            exact kA _ _ nb (k39 _ _ nb hb)
        · obtain ⟨x9, x10, rs, rfl, eC6, eU6, lr, hc6, hr6, k6, F6⟩ := h
          exact ⟨x9, x10, rs, rfl, eC6, eU6, by omega, hc6, hr6, k6, F6⟩
      rintro σ5 H5 ⟨x9, x10, rs, rfl, eC5, eU5, lr, hc5, hr5, k5, F5⟩
      refine ⟨.ref C, rfl, C, cs, rfl, .inl ⟨.inl (.inl eC5), fun T1 hT1 => ?_⟩⟩
      have s6 := sameUpd (o := .tup cs) hT1
      have v6 : Vw K 5 2 (upd H5 T1 (.tup cs)) (.ref T1) := Vw.tup (.inl (.inl upd_same)) (by omega) fun v hv => (hc5 v hv).kt (.same s6)
      have F6 := F5.same s6
      have eU6 := s6 _ _ eU5
      have hr6 : ∀ v ∈ rs, Vw K 5 (3 * M + 3) (upd H5 T1 (.tup cs)) v := fun v hv => (hr5 v hv).kt (.same s6)
      generalize upd H5 T1 (.tup cs) = H6 at *
      refine ⟨.ref U, rfl, U, rs, rfl, .inl ⟨.inl (.inl eU6), fun T2 hT2 => ?_⟩⟩
      have s7 := sameUpd (o := .tup rs) hT2
      have v7 : Vw K 5 (3 * M + 4) (upd H6 T2 (.tup rs)) (.ref T2) := Vw.tup (.inl (.inl upd_same)) (by omega) fun v hv => (hr6 v hv).kt (.same s7)
      have F7 := F6.same s7
      have k7 : Kp a H3 (upd H6 T2 (.tup rs)) := k5.trans (Kp.same (s6.trans s7))
      have w6 := v6.kt (.same s7)
      generalize upd H6 T2 (.tup rs) = H7 at *
      have k07 := k3.trans k7
      refine ⟨.ref a, rfl, .ref ks, rfl, .ref os, rfl, .int n, rfl, n, 1, rfl, rfl, a, ks, os, xs, zs, n - 1, rfl, by omega, by omega, F7, k07 _ _ neK eK, neK, lx1, lx, fun u hu => (hxs u hu).kt (KT.kp hF k07), k07 _ _ neO eO, neO, lz, hzs, fun v8 H8 hv8 k8 F8 => ⟨(by show 4 ≤ sizeLine; decide), fun p9 hp9 => ?_⟩⟩
      have s9 := sameUpd (o := .tup [.str "read", .ref T1, .ref T2, v8]) hp9
      refine q _ _ (Vw.tup (n := 3 * M + 4) (.inl (.inl upd_same)) (by show 4 ≤ 5; omega) fun u hu => ?_) ((k07.trans k8).trans (Kp.same s9)) (F8.same s9)
      simp only [List.mem_cons, List.not_mem_nil, or_false] at hu
      rcases hu with rfl | rfl | rfl | rfl
      · exact .str (by decide +kernel)
      · exact ((w6.kt (KT.kp F7 k8)).kt (.same s9)).up (by omega) (by omega)
      · exact ((v7.kt (KT.kp F7 k8)).kt (.same s9)).up (by omega) (by omega)
      · exact (hv8.kt (.same s9)).up (by omega) (by omega)
end
end KS.La

set_option Elab.async false
set_option linter.all false
set_option maxRecDepth 100000
set_option maxHeartbeats 4000000
namespace KS.La
open PySem PySem.Spec PyProof.Rows L2 KX
abbrev lSpoilt : Stmt := top 46
def spSpoilt (K : PySem.W.Frag) (wd n : Nat) : Sp := fun vs H Q _ => ∃ (f : Addr) (v : V), vs = [.ref f, v] ∧ Fd H f ∧ Vw K wd n H v ∧ ∀ (v' : V) H', Vw K (wd + 1) (n + 3) H' v' → Kp f H H' → Fd H' f → Q v' H'
theorem catV {K : PySem.W.Frag} {H : Hp} {a b : Addr} {xs ys : List V} {Q : VK} (ha : SqT K H a xs) (hb : SqT K H b ys) (hz : xs.length + ys.length ≤ 1000) (q : ∀ p H', SqT K H' p (xs ++ ys) → Same H H' → Q (.ref p) H') : rCatA K (.ref a) (.ref b) H Q := by
  refine ⟨a, b, xs, ys, rfl, rfl, ha, hb, by rw [sizeLine_eq]; omega, fun e => ?_, fun _ e => ?_, fun _ _ p hp => ?_⟩
  · subst e
    exact q b H hb (Same.refl H)
  · subst e
    exact q a H (by rw [List.append_nil]; exact ha) (Same.refl H)
  · exact q p _ (.inl (.inl upd_same)) (sameUpd hp)
theorem cutAny {K : PySem.W.Frag} {H : Hp} {a : Addr} {xs : List V} {lo hi : Option Int} {Q : VK} (ha : SqT K H a xs) (q : ∀ p H', SqT K H' p (cutV xs lo hi) → Same H H' → Q (.ref p) H') : rSlA K (.ref a) lo hi H Q := by
  refine ⟨a, xs, rfl, ha, fun h => ?_, fun _ p hp => q p _ (.inl (.inl upd_same)) (sameUpd hp)⟩
  refine q a H ?_ (Same.refl H)
  unfold cutV
  rw [h.1, h.2, List.drop_zero, Nat.sub_zero, List.take_length]
  exact ha
theorem cutAnyN {K : PySem.W.Frag} {σ : L2.St} {H : Hp} {a : Addr} {xs : List V} {lo : Option Int} {Q : VK} (ha : SqT K H a xs) (q : ∀ p H', SqT K H' p (cutV xs lo none) → Same H H' → Q (.ref p) H') : tNoPart σ H fun u H3 => rSlA K (.ref a) lo u H3 Q := cutAny ha q
theorem lenCutB (xs : List V) (j : Nat) : (cutV xs (some ((j : Int) + 1)) none).length ≤ xs.length - (j + 1) := by
  have e9 : (j : Int) + 1 = ((j + 1 : Nat) : Int) := by omega
  unfold cutV
  rw [e9, HT.sIx_nat, HT.sIx_none, List.length_take, List.length_drop]
  omega
theorem lenCutC (xs : List V) (j : Nat) : (cutV xs (some (j : Int)) none).length ≤ xs.length - j := by
  unfold cutV
  rw [HT.sIx_nat, HT.sIx_none, List.length_take, List.length_drop]
  omega
theorem vwOf {K : PySem.W.Frag} {w n : Nat} {H : Hp} {xs : List V} {ds : List PyData} (h : DpAll K H xs ds) (o : ∀ d ∈ ds, Ow w n d) : ∀ v ∈ xs, Vw K w n H v := by
  intro v hv
  obtain ⟨i, hi, e⟩ := List.getElem_of_mem hv
  have hl := dpLen h
  obtain ⟨u, h1, h2⟩ := dpAt h (List.getElem?_eq_getElem (by omega : i < ds.length))
  have : u = v := by
    rw [List.getElem?_eq_getElem hi, e] at h1
    exact (Option.some.inj h1).symm
  subst this
  exact ⟨_, h2, o _ (List.getElem_mem _)⟩
section
variable {P : Program} {w : World} {K : PySem.W.Frag} {mg : Str → Option Value} {base : Heap} {f : Addr} {fd : FuncData}
abbrev nSpoilt : List Str := ["_law_feed", "_law_value", "_law_spot", "_law_form"]
theorem scSpoilt : FnScope nSpoilt ["_law_feed", "_law_value"] (defScope lSpoilt) := ⟨rfl, rfl, rfl, by decide +kernel, rfl, by decide +kernel, by decide +kernel⟩
theorem okSpoilt (wd : Nat) (hwd : wd ≤ 50) (hw4 : 4 ≤ wd) {k : Nat} (F : FnP K "_law_spoilt" lSpoilt f fd) (gO : mg "_law_spoilt" = some (.ref f)) (bO : Binds K fd ["_law_feed", "_law_value"] []) (B : Bn mg) (D : Has P w K mg base (k + 1) "_law_draw" ["_law_feed", "_law_many"] spDraw) (Od : Has P w K mg base (k + 3) "_law_odd_value" ["_law_feed"] (spOdd K)) :
    ∀ (n : Nat), n ≤ 55 → FnOk P w K mg base CX0 (k + n + 4) f fd ["_law_feed", "_law_value"] (spSpoilt K wd n) := by
  obtain ⟨fD, fdD, gD, kD, bD, GD⟩ := D.ex
  obtain ⟨fP, fdP, gP, kP, bP, GP⟩ := Od.ex
  intro n
  induction n with
  | zero =>
    intro hn
    refine F.ok scSpoilt (fun vs H Q E h => ?_) (fun cdv A outer s H vs Q E hr h => ?_)
    · obtain ⟨a, v, rfl, _⟩ := h
      rfl
    · obtain ⟨a, v, rfl, hF, hv, q⟩ := h
      have hr1 : Room (k + 1) _ := hr.mono (by omega)
      have hr3 : Room (k + 3) _ := hr.mono (by omega)
      refine ⟨_, PSs.nox (pss_cons (ps_if (PW.pt (pw_and (pt_val (pe_callB call_isi (by rfl) B.isi (by decide +kernel) (pa_cons (pv 1) (pa_cons (pe_bltn (v := .ty "tuple") (by rfl) B.tuple (by decide +kernel) rfl) pa_nil)))) (pw_and (pt_cmpR (op_neD hr.units) (pv 1) (pe_tup pa_nil) (nomark _)) (pw_and1 (pt_cmpR op_gt (pe_call GD hr1 (by rfl) gD kD bD .nil pass0 (pa_cons (pv 0) (pa_cons (pe_int) pa_nil))) pe_int (nomark _))))))
          (pss_cons (ps_never) (pss_cons (ps_never) (pss_cons (ps_never) (pss_one (ps_never))))) pss_nil) (pss_one (ps_ret (pe_call GP hr3 (by rfl) gP kP bP .nil pass0 (pa_cons (pv 0) pa_nil))))), ?_⟩
      have ret : ∀ {H1 : Hp}, Kp a H H1 → Fd H1 a → spOdd K [.ref a] H1 (fun v H2 => Q v H2) E := fun {H1} k1 F1 => ⟨a, rfl, F1, fun v2 H2 hv2 k2 F2 => q v2 H2 (hv2.up (by omega) (by omega)) (k1.trans k2) F2⟩
      obtain ⟨d, hd, od⟩ := hv
      refine ⟨v, rfl, v, .ty "tuple", _, _, _, rfl, .ty _, dpTy hd, dpKit hd (.inl rfl), _, rfl, ?_⟩
      cases od <;> exact iteF ⟨.ref a, rfl, ret (Kp.refl _ _) hF⟩
  | succ n ih =>
    intro hn
    have G := ih (by omega)
    refine F.ok scSpoilt (fun vs H Q E h => ?_) (fun cdv A outer s H vs Q E hr h => ?_)
    · obtain ⟨a, v, rfl, _⟩ := h
      rfl
    · obtain ⟨a, v, rfl, hF, hv, q⟩ := h
      have hr1 : Room (k + 1) _ := hr.mono (by omega)
      have hr3 : Room (k + 3) _ := hr.mono (by omega)
      have hrG : Room (k + n + 4) _ := hr.mono (by omega)
      refine ⟨_, PSs.nox (pss_cons (ps_if (PW.pt (pw_and (pt_val (pe_callB call_isi (by rfl) B.isi (by decide +kernel) (pa_cons (pv 1) (pa_cons (pe_bltn (v := .ty "tuple") (by rfl) B.tuple (by decide +kernel) rfl) pa_nil)))) (pw_and (pt_cmpR (op_neD hr.units) (pv 1) (pe_tup pa_nil) (nomark _)) (pw_and1 (pt_cmpR op_gt (pe_call GD hr1 (by rfl) gD kD bD .nil pass0 (pa_cons (pv 0) (pa_cons (pe_int) pa_nil))) pe_int (nomark _))))))
          (pss_cons (ps_par (i := 2) (j := 3) (by rfl) scSpoilt.nd rfl rfl (by decide) rfl rfl (pa_cons (pe_call GD hr1 (by rfl) gD kD bD .nil pass0 (pa_cons (pv 0) (pa_cons (pe_callB call_len_seq (by rfl) B.len PySem.boot_len (pa_cons (pv 1) pa_nil)) pa_nil))) (pa_cons (pe_call GD hr1 (by rfl) gD kD bD .nil pass0 (pa_cons (pv 0) (pa_cons (pe_int) pa_nil))) pa_nil)) (by rfl)) (pss_cons (ps_if (pt_cmpR op_eq (pv 3) pe_int (nomark _))
              (pss_one (ps_ret (pe_op op_catA (pe_slice sl_tupA (pv 1) po_none (po_some (pv 2))) (pe_slice sl_tupA (pv 1) (po_some (pe_op op_add (pv 2) pe_int)) po_none)))) pss_nil) (pss_cons (ps_if (pt_cmpR op_eq (pv 3) pe_int (nomark _))
              (pss_one (ps_ret (pe_op op_catA (pe_op op_catA (pe_slice sl_tupA (pv 1) po_none (po_some (pv 2))) (pe_tup (pa_cons (pe_ix ix_tup (pv 1) (pv 2) (fun _ _ => rfl)) pa_nil))) (pe_slice sl_tupA (pv 1) (po_some (pv 2)) po_none)))) pss_nil) (pss_one (ps_ret (pe_op op_catA (pe_op op_catA (pe_slice sl_tupA (pv 1) po_none (po_some (pv 2))) (pe_tup (pa_cons (pe_call G hrG (by rfl) gO F.kp bO .nil pass0 (pa_cons (pv 0) (pa_cons (pe_ix ix_tup (pv 1) (pv 2) (fun _ _ => rfl)) pa_nil))) pa_nil))) (pe_slice sl_tupA (pv 1) (po_some (pe_op op_add (pv 2) pe_int)) po_none))))))) pss_nil) (pss_one (ps_ret (pe_call GP hr3 (by rfl) gP kP bP .nil pass0 (pa_cons (pv 0) pa_nil))))), ?_⟩
      have ret : ∀ {H1 : Hp}, Kp a H H1 → Fd H1 a → spOdd K [.ref a] H1 (fun v H2 => Q v H2) E := fun {H1} k1 F1 => ⟨a, rfl, F1, fun v2 H2 hv2 k2 F2 => q v2 H2 (hv2.up (by omega) (by omega)) (k1.trans k2) F2⟩
      obtain ⟨d, hd, od⟩ := hv
      have osh := (od.od (by omega)).shaped (by omega)
      refine ⟨v, rfl, v, .ty "tuple", _, _, _, rfl, .ty _, dpTy hd, dpKit hd (.inl rfl), _, rfl, ?_⟩
      cases od with
      | @tup n ds hl hod =>
        cases hd with
        | @tup b xs _ hx hds =>
          refine iteT ⟨.ref b, rfl, Nat.zero_le _, fun p hp => ?_⟩
          have s1 : Same H (upd H p (.tup [])) := sameUpd hp
          refine ⟨.tuple ds, .tuple [], .tup (sameTup s1 hx) (dpAllSame s1 _ _ hds), .tup (.inl (.inl upd_same)) .nil, osh, rfl, _, rfl, ?_⟩
          have F1 := hF.same s1
          have k1 : Kp a H (upd H p (.tup [])) := Kp.new hp
          generalize upd H p (.tup []) = H1 at s1 F1 k1 ⊢
          have el := dpLen hds
          have hxs := vwOf hds hod
          rw [eqvNilT]
          by_cases e0 : ds = []
          · rw [decide_eq_true e0]
            exact iteF ⟨.ref a, rfl, ret k1 F1⟩
          have pos : 0 < xs.length := by
            rw [el]
            exact List.length_pos_iff.mpr e0
          rw [decide_eq_false e0]
          refine iteT ⟨.ref a, rfl, a, 8, rfl, F1, by decide, by decide, fun r H2 r0 r1 k2 F2 => ⟨_, _, rfl, rfl, _, rfl, ite2 (fun _ => ?_) (fun _ => ⟨.ref a, rfl, ret (k1.trans k2) F2⟩)⟩⟩
          have kt2 : KT H H2 := KT.trans (.same s1) (KT.kp F1 k2)
          refine ⟨.ref a, rfl, .ref b, rfl, b, xs, rfl, .inr (kt2.tup hx), a, (xs.length : Int), rfl, F2, by omega, by omega, fun sp H3 sp0 sp1 k3 F3 => ?_⟩
          obtain ⟨j, rfl⟩ : ∃ j : Nat, sp = (j : Int) := ⟨sp.toNat, by omega⟩
          have hj : j < xs.length := by omega
          have hxj : xs[j]? = some xs[j] := List.getElem?_eq_getElem hj
          refine ⟨.ref a, rfl, a, 8, rfl, F3, by decide, by decide, fun fm H4 f0 f1 k4 F4 => ⟨_, _, rfl, ?_⟩⟩
          have kt4 : KT H H4 := (kt2.trans (KT.kp F2 k3)).trans (KT.kp F3 k4)
          have k04 : Kp a H H4 := ((k1.trans k2).trans k3).trans k4
          have hx4 := kt4.tup hx
          have hv4 : ∀ v ∈ xs, Vw K wd n H4 v := fun v hv => (hxs v hv).kt kt4
          have cA := lenCutA xs j
          have cB := lenCutB xs j
          have cC := lenCutC xs j
          have lw : xs.length ≤ wd := by omega
          have fin : ∀ {H5 : Hp} {p : Addr} {ys : List V}, Same H4 H5 → SqT K H5 p ys → ys.length ≤ wd + 1 → (∀ y ∈ ys, y ∈ xs) → Q (.ref p) H5 := fun {H5 p ys} s hp hl hy => q _ H5 ((Vw.tup (w := wd + 1) (n := n) hp hl fun y hy' => ((hv4 y (hy y hy')).kt (.same s)).up (by omega) (by omega)).up (by omega) (by omega)) (k04.trans (Kp.same s)) (F4.same s)
          refine ⟨.int fm, rfl, rfl, _, rfl, ite2 (fun _ => ?_) (fun _ => ?_)⟩
          · -- one fewer
            refine ⟨.ref b, rfl, .int (j : Int), rfl, (j : Int), rfl, cutAny hx4 fun p1 H5 h5 s5 => ?_⟩
            refine ⟨.ref b, rfl, .int (j : Int), rfl, (j : Int), 1, rfl, rfl, (j : Int) + 1, rfl, cutAnyN (sameTup s5 hx4) fun p2 H6 h6 s6 => ?_⟩
            refine catV (sameTup s6 h5) h6 (by omega) fun p3 H7 h7 s7 => fin ((s5.trans s6).trans s7) h7 (by rw [List.length_append]; omega) fun y hy => ?_
            rcases List.mem_append.mp hy with z | z <;> exact memCut z
          refine ⟨.int fm, rfl, rfl, _, rfl, ite2 (fun _ => ?_) (fun _ => ?_)⟩
          · -- doubled
            refine ⟨.ref b, rfl, .int (j : Int), rfl, (j : Int), rfl, cutAny hx4 fun p1 H5 h5 s5 => ?_⟩
            refine ⟨.ref b, rfl, .int (j : Int), rfl, b, xs, (j : Int), xs[j], rfl, rfl, sameTup s5 hx4, atI_nat hxj, (by show 1 ≤ sizeLine; decide), fun p2 hp2 => ?_⟩
            have s6 := sameUpd (o := .tup [xs[j]]) hp2
            refine catV (sameTup s6 h5) (.inl (.inl upd_same)) (by show (cutV xs none (some (j : Int))).length + 1 ≤ 1000; omega) fun p3 H7 h7 s7 => ?_
            have s57 := (s5.trans s6).trans s7
            refine ⟨.ref b, rfl, .int (j : Int), rfl, (j : Int), rfl, cutAnyN (sameTup s57 hx4) fun p4 H8 h8 s8 => ?_⟩
            refine catV (sameTup s8 h7) h8 (by rw [List.length_append]; show (cutV xs none (some (j : Int))).length + 1 + _ ≤ 1000; omega) fun p5 H9 h9 s9 => fin ((s57.trans s8).trans s9) h9 (by rw [List.length_append, List.length_append]; show (cutV xs none (some (j : Int))).length + 1 + _ ≤ _; omega) fun y hy => ?_
            rcases List.mem_append.mp hy with z | z
            · rcases List.mem_append.mp z with z | z
              · exact memCut z
              · rw [List.mem_singleton.mp z]
                exact List.getElem_mem hj
            · exact memCut z
          -- another one
          refine ⟨.ref b, rfl, .int (j : Int), rfl, (j : Int), rfl, cutAny hx4 fun p1 H5 h5 s5 => ?_⟩
          refine ⟨.ref a, rfl, .ref b, rfl, .int (j : Int), rfl, b, xs, (j : Int), xs[j], rfl, rfl, sameTup s5 hx4, atI_nat hxj, a, xs[j], rfl, F4.same s5, (hv4 _ (List.getElem_mem hj)).kt (.same s5), fun v6 H6 hv6 k6 F6 => ⟨(by show 1 ≤ sizeLine; decide), fun p2 hp2 => ?_⟩⟩
          have s7 := sameUpd (o := .tup [v6]) hp2
          have F7 := F6.same s7
          have v7 := hv6.kt (.same s7)
          have k7 : Kp a H5 (upd H6 p2 (.tup [v6])) := k6.trans (Kp.same s7)
          have h7 : SqT K (upd H6 p2 (.tup [v6])) p2 [v6] := .inl (.inl upd_same)
          generalize upd H6 p2 (.tup [v6]) = H7 at *
          have kt7 : KT H5 H7 := KT.kp (F4.same s5) k7
          refine catV (kt7.tup h5) h7 (by show (cutV xs none (some (j : Int))).length + 1 ≤ 1000; omega) fun p3 H8 h8 s8 => ?_
          refine ⟨.ref b, rfl, .int (j : Int), rfl, (j : Int), 1, rfl, rfl, (j : Int) + 1, rfl, cutAnyN (sameTup s8 (kt7.tup (sameTup s5 hx4))) fun p4 H9 h9 s9 => ?_⟩
          refine catV (sameTup s9 h8) h9 (by rw [List.length_append]; show (cutV xs none (some (j : Int))).length + 1 + _ ≤ 1000; omega) fun p5 H10 h10 s10 => ?_
          have sA := (s8.trans s9).trans s10
          refine q _ H10 ?_ (((k04.trans (Kp.same s5)).trans k7).trans (Kp.same sA)) (F7.same sA)
          have old : ∀ y ∈ xs, Vw K (wd + 1) (n + 3) H10 y := fun y hy => ((((hv4 y hy).kt (.same s5)).kt kt7).kt (.same sA)).up (by omega) (by omega)
          refine Vw.tup (w := wd + 1) (n := n + 3) h10 (by rw [List.length_append, List.length_append]; show (cutV xs none (some (j : Int))).length + 1 + _ ≤ _; omega) fun y hy => ?_
          rcases List.mem_append.mp hy with z | z
          · rcases List.mem_append.mp z with z | z
            · exact old y (memCut z)
            · rw [List.mem_singleton.mp z]
              exact v7.kt (.same sA)
          · exact old y (memCut z)
      | non => exact iteF ⟨.ref a, rfl, ret (Kp.refl _ _) hF⟩
      | bl => exact iteF ⟨.ref a, rfl, ret (Kp.refl _ _) hF⟩
      | int => exact iteF ⟨.ref a, rfl, ret (Kp.refl _ _) hF⟩
      | str => exact iteF ⟨.ref a, rfl, ret (Kp.refl _ _) hF⟩
end
end KS.La

set_option Elab.async false
set_option linter.all false
set_option maxRecDepth 100000
set_option maxHeartbeats 8000000
namespace KS.La
open PySem PySem.Spec PyProof.Rows L2 KX
abbrev lLaw : Stmt := top 48
def spLaw (K : PySem.W.Frag) : Sp := fun vs H Q _ => ∃ (a : Addr) (ns : List Int), vs = [.ref a] ∧ SqL K H a (ns.map V.int) ∧ ns.length ≤ 63 ∧ ∀ H', Q (.bl true) H'
theorem Ow.td {w n : Nat} {d : PyData} (h : Ow w n d) : Td d := by
  induction h with
  | non n => exact .non
  | bl n b => exact .bl b
  | int n i => exact .int i
  | str n h => exact .str h.2.2
  | tup h h2 ih => exact .tup ih
theorem fsSome {g : Nat → PyData → Option (List Nat)} {p : List Nat} : ∀ {l : List PyData} {i : Nat}, firstSome g i l = some p → ∃ j e, g j e = some p
  | [], i, h => by cases h
  | e :: l, i, h => by
    have h2 : (match g i e with
      | some p => some p
      | none => firstSome g (i + 1) l) = some p := h
    cases hg : g i e with
    | none =>
      rw [hg] at h2
      exact fsSome h2
    | some q =>
      rw [hg] at h2
      exact ⟨i, e, hg.trans h2⟩
theorem ffLen : ∀ {n : Nat} {ws : List PyData} {ps : List Nat} {d : PyData} {p : List Nat}, ff n ws ps d = some p → p.length ≤ ps.length + n
  | n, ws, ps, d, p, h => by
    cases hn : isNd ws d with
    | false =>
      rw [ffNo hn] at h
      rw [← Option.some.inj h]
      omega
    | true =>
      cases n with
      | zero =>
        have h2 : (if isNd ws d = true then none else some ps) = some p := h
        rw [hn] at h2
        cases h2
      | succ n =>
        rw [ffYes hn] at h
        obtain ⟨j, e, he⟩ := fsSome h
        have := ffLen he
        rw [List.length_append] at this
        have h1 : [j].length = 1 := rfl
        omega
theorem frSv {K : PySem.W.Frag} {H : Hp} {o : Option (List Nat)} {r r2 : V} (hl : ∀ p, o = some p → p.length ≤ 1000) (h1 : FR K H o r) (h2 : FR K H o r2) : Sv K H 1 r r2 := by
  cases o with
  | none =>
    cases (show r = .non from h1)
    cases (show r2 = .non from h2)
    exact .flat .non
  | some p =>
    obtain ⟨a, rfl, ha⟩ := h1
    obtain ⟨b, rfl, hb⟩ := h2
    refine .tup ha hb rfl (by rw [List.length_map]; exact hl p rfl) fun i v w e1 e2 => ?_
    rw [e1] at e2
    obtain rfl := Option.some.inj e2
    rw [List.getElem?_map] at e1
    cases hp : p[i]? with
    | none => rw [hp] at e1; cases e1
    | some j =>
      rw [hp] at e1
      obtain rfl := (Option.some.inj e1).symm
      exact .flat (.int _)
theorem FR.same {K : PySem.W.Frag} {H H' : Hp} (s : Same H H') {o : Option (List Nat)} {r : V} (h : FR K H o r) : FR K H' o r := by
  cases o with
  | none => exact h
  | some p =>
    obtain ⟨a, e, ha⟩ := h
    exact ⟨a, e, sameTup s ha⟩
/-- () within (..) so many times -/
def deepD : Nat → PyData
  | 0 => .tuple []
  | n + 1 => .tuple [deepD n]
theorem deepOd : ∀ n : Nat, Od (n + 1) (deepD n)
  | 0 => .tup (by show 0 ≤ _; omega) fun d hd => absurd hd (by simp)
  | n + 1 => .tup (by show 1 ≤ _; omega) fun d hd => by
    rw [List.mem_singleton.mp hd]
    exact deepOd n
def deepN (n : Nat) : PyData := .tuple [.str "write", .str "o", .tuple [deepD n], .tuple [.str "stop"]]
theorem deepNot (n : Nat) : isNd [] (deepN n) = false := by
  have h1 : isPt (deepD n) = false := by
    cases n with
    | zero => rfl
    | succ n => rfl
  show (if isWord "write" (.str "write") = true then isNm (.str "o") && (!(([] : List PyData).any fun z => PyData.eqv z (.str "o")) && ([deepD n].all isPt)) else isWord "read" (.str "write") && (areKy (.str "o") && areCs (lenD (.str "o")) (.tuple [deepD n]))) = false
  rw [if_pos (by decide +kernel)]
  show (isNm (.str "o") && (true && (isPt (deepD n) && true))) = false
  rw [h1, Bool.false_and, Bool.and_false, Bool.and_false]
theorem deepNOd {n : Nat} (hn : n < 140) : Od 144 (deepN n) := by
  refine Od.up (n := n + 3) (.tup (by show 4 ≤ _; omega) fun d hd => ?_) (by omega)
  simp only [List.mem_cons, List.not_mem_nil, or_false] at hd
  rcases hd with rfl | rfl | rfl | rfl
  · exact .str _ (by unfold SOk; decide +kernel) (by decide +kernel)
  · exact .str _ (by unfold SOk; decide +kernel) (by decide +kernel)
  · exact .tup (by show 1 ≤ _; omega) fun d hd => by
      rw [List.mem_singleton.mp hd]
      exact deepOd n
  · exact .tup (by show 1 ≤ _; omega) fun d hd => by
      rw [List.mem_singleton.mp hd]
      exact .str _ (by unfold SOk; decide +kernel) (by decide +kernel)
theorem deepOk (n : Nat) : NodeOk (deepN n) := .inr ⟨_, _, _, _, rfl, by decide +kernel⟩
theorem asgLst {i : Nat} {ta : TA} {D : Ends} {σ : L2.St} {H : Hp} (h : tLst ta σ H (fun v H1 => D.nx (σ.set i (some v)) H1)) : tAsg (tLst ta) (gName i) D σ H := h
abbrev stt (s : Addr) (x1 x2 x3 x4 x5 x6 x7 x8 : Option V) : L2.St := [some (.ref s), x1, x2, x3, x4, x5, x6, x7, x8]
section
variable {P : Program} {w : World} {K : PySem.W.Frag} {mg : Str → Option Value} {base : Heap} {f : Addr} {fd : FuncData}
abbrev nLaw : List Str := ["_law_script", "_law_k", "_law_feed", "_law_keys", "_law_deep", "_law_bad", "_law_turn", "_law_tree", "_law_node"]
theorem scLaw : FnScope nLaw ["_law_script"] (defScope lLaw) := ⟨rfl, rfl, rfl, by decide +kernel, rfl, by decide +kernel, by decide +kernel⟩
theorem okLaw {n : Nat} (F : FnP K "law" lLaw f fd) (B : Bn mg) (Fe : Has P w K mg base n "_law_feed_of" ["_law_script", "_law_k"] (spFeed K)) (Dr : Has P w K mg base n "_law_draw" ["_law_feed", "_law_many"] spDraw)
    (Sm : Has P w K mg base n "_law_same" ["_law_found", "_law_due"] (spSame K 1)) (R1 : Has P w K mg base n "_law_refused" ["_law_node"] (spRef K 144)) (R2 : Has P w K mg base n "_law_refused" ["_law_node"] (spRef K 60))
    (Tr : Has P w K mg base n "_law_some_tree" pTree (spTree K 6)) (Ou : Has P w K mg base n "_law_outs" [] spOuts) (S1 : Has P w K mg base n "_law_spoilt" ["_law_feed", "_law_value"] (spSpoilt K 5 20)) (S2 : Has P w K mg base n "_law_spoilt" ["_law_feed", "_law_value"] (spSpoilt K 6 23))
    (Ff : Has P w K mg base n "_law_first_fault" ["_law_node", "_law_path", "_law_written"] (spFF K 60)) : FnOk P w K mg base CX0 (n + 1) f fd ["_law_script"] (spLaw K) := by
  obtain ⟨f1, d1, g1, k1, b1, G1⟩ := Fe.ex
  obtain ⟨f2, d2, g2, k2, b2, G2⟩ := Dr.ex
  obtain ⟨f3, d3, g3, k3, b3, G3⟩ := Sm.ex
  obtain ⟨f4, d4, g4, k4, b4, G4⟩ := R1.ex
  obtain ⟨f5, d5, g5, k5, b5, G5⟩ := R2.ex
  obtain ⟨f6, d6, g6, k6, b6, G6⟩ := Tr.ex
  obtain ⟨f7, d7, g7, k7, b7, G7⟩ := Ou.ex
  obtain ⟨f8, d8, g8, k8, b8, G8⟩ := S1.ex
  obtain ⟨f9, d9, g9, k9, b9, G9⟩ := S2.ex
  obtain ⟨f10, d10, g10, k10, b10, G10⟩ := Ff.ex
  refine F.ok scLaw (fun vs H Q E h => ?_) (fun cdv A outer s H vs Q E hr h => ?_)
  · obtain ⟨a, ns, rfl, _⟩ := h
    rfl
  · obtain ⟨sc, ns, rfl, hS, hlen, q⟩ := h
    refine ⟨_, PSs.nox (pss_cons (ps_for PassesOwn.never rfl (pi_range1 (by rfl) B.range (pa_cons (pe_callB (call_max2 rfl) (by rfl) B.max (by decide +kernel) (pa_cons (pe_int) (pa_cons (pe_callB (call_min2 rfl) (by rfl) B.min (by decide +kernel) (pa_cons (pe_int) (pa_cons (pe_callB call_len_seq (by rfl) B.len PySem.boot_len (pa_cons (pv 0) pa_nil)) pa_nil))) pa_nil))) pa_nil)) (pg_name (i := 1) scLaw.nd rfl (.inl rfl))
      (C8.pss_cut (ps_set (i := 2) scLaw.nd rfl (.inl rfl) (pe_call G1 hr (by rfl) g1 k1 b1 .nil pass0 (pa_cons (pv 0) (pa_cons (pv 1) pa_nil)))) (C8.pss_cut (ps_set (i := 3) scLaw.nd rfl (.inl rfl) (pe_lst (pa_cons (pe_tup (pa_cons (pe_str) (pa_cons (pe_str) pa_nil))) (pa_cons (pe_tup (pa_cons (pe_str) (pa_cons (pe_str) pa_nil))) (pa_cons (pe_tup (pa_cons (pe_str) (pa_cons (pe_str) pa_nil))) (pa_cons (pe_tup (pa_cons (pe_str) (pa_cons (pe_str) pa_nil))) (pa_cons (pe_tup (pa_cons (pe_str) (pa_cons (pe_str) pa_nil))) (pa_cons (pe_tup (pa_cons (pe_str) (pa_cons (pe_str) pa_nil))) pa_nil)))))))) (C8.pss_cut (ps_par (i := 4) (j := 5) (by rfl) scLaw.nd rfl rfl (by decide) rfl rfl (pa_cons (pe_tup pa_nil) (pa_cons (pe_call G2 hr (by rfl) g2 k2 b2 .nil pass0 (pa_cons (pv 2) (pa_cons (pe_int) pa_nil))) pa_nil)) (by rfl)) (C8.pss_cut (ps_for PassesOwn.never rfl (pi_range1 (by rfl) B.range (pa_cons (pv 5) pa_nil)) (pg_name (i := 6) scLaw.nd rfl (.inl rfl)) (pss_one (ps_set (i := 4) scLaw.nd rfl (.inl rfl) (pe_tup (pa_cons (pv 4) pa_nil))))) (C8.pss_cut (ps_if (pt_not (pt_val (pe_call G3 hr (by rfl) g3 k3 b3 .nil pass0 (pa_cons (pe_call G4 hr (by rfl) g4 k4 b4 .nil pass0 (pa_cons (pe_tup (pa_cons (pe_str) (pa_cons (pe_str) (pa_cons (pe_tup (pa_cons (pv 4) pa_nil)) (pa_cons (pe_tup (pa_cons (pe_str) pa_nil)) pa_nil))))) pa_nil)) (pa_cons (pe_tup pa_nil) pa_nil))))) (pss_one (ps_ret pe_bl)) pss_nil) (pss_one (ps_for PassesOwn.never rfl (pi_range1 (by rfl) B.range (pa_cons (pe_int) pa_nil)) (pg_name (i := 6) scLaw.nd rfl (.inl rfl))
          (C8.pss_cut (ps_set (i := 7) scLaw.nd rfl (.inl rfl) (pe_call G6 hr (by rfl) g6 k6 b6 .nil pass0 (pa_cons (pv 2) (pa_cons (pv 3) (pa_cons (pe_call0 G7 hr (by rfl) g7 k7 b7 .nil pass0) (pa_cons (pe_op op_add pe_int (pe_call G2 hr (by rfl) g2 k2 b2 .nil pass0 (pa_cons (pv 2) (pa_cons (pe_int) pa_nil)))) pa_nil)))))) (pss_one (ps_for PassesOwn.never rfl (pi_tup (pe_tup (pa_cons (pv 7) (pa_cons (pe_call G8 hr (by rfl) g8 k8 b8 .nil pass0 (pa_cons (pv 2) (pa_cons (pv 7) pa_nil))) (pa_cons (pe_call G9 hr (by rfl) g9 k9 b9 .nil pass0 (pa_cons (pv 2) (pa_cons (pe_call G8 hr (by rfl) g8 k8 b8 .nil pass0 (pa_cons (pv 2) (pa_cons (pv 7) pa_nil))) pa_nil))) pa_nil))))) (pg_name (i := 8) scLaw.nd rfl (.inl rfl))
              (pss_one (ps_if (pt_not (pt_val (pe_call G3 hr (by rfl) g3 k3 b3 .nil pass0 (pa_cons (pe_call G5 hr (by rfl) g5 k5 b5 .nil pass0 (pa_cons (pv 8) pa_nil)) (pa_cons (pe_call G10 hr (by rfl) g10 k10 b10 .nil pass0 (pa_cons (pv 8) (pa_cons (pe_tup pa_nil) (pa_cons (pe_lst pa_nil) pa_nil)))) pa_nil))))) (pss_one (ps_ret pe_bl)) pss_nil))))))))))))) (pss_one (ps_ret pe_bl))), ?_⟩
    refine ⟨.ref sc, rfl, sc, _, rfl, .inl hS, 5, _, rfl, 2, _, rfl, _, rfl, ?b1, ?b2, ?main⟩
    case b1 => split <;> (try split) <;> omega
    case b2 => split <;> (try split) <;> omega
    case main =>
    have hN : ∀ L : Int, 0 ≤ L → (if (if L < 5 then L else 5) > 2 then (if L < 5 then L else 5) else 2).toNat ≤ 5 := fun L hL => by split <;> (try split) <;> omega
    refine forJ (n := _) (fun i σ' H' => (∃ x1 x2 x3 x4 x5 x6 x7 x8, σ' = stt sc x1 x2 x3 x4 x5 x6 x7 x8) ∧ SqL K H' sc (ns.map V.int)) ⟨⟨none, none, none, none, none, none, none, none, rfl⟩, hS⟩ (fun i σ' H' lt _ => lt) (fun σ' H' _ => Nat.le_refl _) (fun i σ' H0 x H1 lt h y => ?_) (fun σ' H' h => q H')
    obtain ⟨rfl, rfl⟩ := y
    obtain ⟨⟨x1, x2, x3, x4, x5, x6, x7, x8, rfl⟩, hT⟩ := h
    have li : i < 5 := Nat.lt_of_lt_of_le lt (hN _ (Int.natCast_nonneg _))
    -- the feed
    refine ⟨fun σ' H2 => ∃ f, σ' = stt sc (some (.int (0 + i))) (some (.ref f)) x3 x4 x5 x6 x7 x8 ∧ Same H1 H2 ∧ Fd H2 f ∧ H1 f = none, ?_, ?_⟩
    · exact ⟨.ref sc, rfl, .int (0 + i), rfl, sc, ns, 0 + i, rfl, hT, hlen, by omega, by omega, fun p Hp sm np fd => ⟨p, rfl, sm, fd, np⟩⟩
    rintro _ H2 ⟨f, rfl, s2, F2, nf⟩
    have script : ∀ {H' : Hp}, Kp f H2 H' → SqL K H' sc (ns.map V.int) := fun k => Same.seq (fun b o hb => k b o (ne_of_none hb nf) (s2 b o hb)) hT
    -- the keys
    refine ⟨fun σ' H3 => ∃ ks xs, σ' = stt sc (some (.int (0 + i))) (some (.ref f)) (some (.ref ks)) x4 x5 x6 x7 x8 ∧ H3 ks = some (.lst xs) ∧ ks ≠ f ∧ xs.length = 6 ∧ (∀ v ∈ xs, Vw K 5 1 H3 v) ∧ Kp f H2 H3 ∧ Fd H3 f, ?_, ?_⟩
    · refine asgLst ?_
      refine madeLst (K := K) (w := 5) (n := 1) (madeCons (madeTup (madeCons (madeStr (by decide +kernel)) (madeCons (madeStr (by decide +kernel)) madeNil)) (by decide) (by decide)) (madeCons (madeTup (madeCons (madeStr (by decide +kernel)) (madeCons (madeStr (by decide +kernel)) madeNil)) (by decide) (by decide)) (madeCons (madeTup (madeCons (madeStr (by decide +kernel)) (madeCons (madeStr (by decide +kernel)) madeNil)) (by decide) (by decide)) (madeCons (madeTup (madeCons (madeStr (by decide +kernel)) (madeCons (madeStr (by decide +kernel)) madeNil)) (by decide) (by decide)) (madeCons (madeTup (madeCons (madeStr (by decide +kernel)) (madeCons (madeStr (by decide +kernel)) madeNil)) (by decide) (by decide)) (madeCons (madeTup (madeCons (madeStr (by decide +kernel)) (madeCons (madeStr (by decide +kernel)) madeNil)) (by decide) (by decide)) madeNil)))))) (by decide)
        fun p vs H3 np s3 e3 l3 h3 => ⟨p, vs, rfl, e3, F2.ne np, l3, h3, Kp.same s3, F2.same s3⟩
    rintro _ H3 ⟨ks, xs, rfl, eK, neK, lK, hK, k3, F3⟩
    -- the deep one
    refine ⟨fun σ' H4 => ∃ (t : Addr) (m : Nat), σ' = stt sc (some (.int (0 + i))) (some (.ref f)) (some (.ref ks)) (some (.ref t)) (some (.int m)) x6 x7 x8 ∧ m < 140 ∧ SqT K H4 t [] ∧ Kp f H3 H4 ∧ Fd H4 f, ?_, ?_⟩
    · refine ⟨Nat.zero_le _, fun p hp => ⟨.ref f, rfl, f, 140, rfl, F3.new hp, by decide, by decide, fun r H4 r0 r1 k4 F4 => ⟨_, _, rfl, ?_⟩⟩⟩
      obtain ⟨m, rfl⟩ : ∃ m : Nat, r = (m : Int) := ⟨r.toNat, by omega⟩
      exact ⟨p, m, rfl, by omega, .inl (.inl (k4 _ _ (F3.ne hp) upd_same)), (Kp.new hp).trans k4, F4⟩
    rintro _ H4 ⟨t, m, rfl, hm, ht, k4, F4⟩
    refine ⟨fun σ' H5 => ∃ (t : Addr) (x6 : Option V), σ' = stt sc (some (.int (0 + i))) (some (.ref f)) (some (.ref ks)) (some (.ref t)) (some (.int m)) x6 x7 x8 ∧ Dp K H5 (.ref t) (deepD m) ∧ Same H4 H5, ?_, ?_⟩
    · refine ⟨.int m, rfl, m, rfl, by omega, by omega, ?_⟩
      rw [Int.toNat_natCast]
      refine forJ (n := m) (fun j σ' H5 => ∃ (t : Addr) (x6 : Option V), σ' = stt sc (some (.int (0 + i))) (some (.ref f)) (some (.ref ks)) (some (.ref t)) (some (.int m)) x6 x7 x8 ∧ Dp K H5 (.ref t) (deepD j) ∧ Same H4 H5) ⟨t, x6, rfl, .tup ht .nil, Same.refl _⟩ (fun i σ' H' lt _ => lt) (fun σ' H' _ => Nat.le_refl _) (fun j σ' H5 x H6 lt h y => ?_) (fun σ' H' h => h)
      obtain ⟨rfl, rfl⟩ := y
      obtain ⟨t, x6, rfl, hd, s5⟩ := h
      refine ⟨.ref t, rfl, (by show 1 ≤ sizeLine; decide), fun p hp => ?_⟩
      exact ⟨p, _, rfl, .tup (.inl (.inl upd_same)) (.cons (dpSame (sameUpd hp) _ _ hd) .nil), s5.trans (sameUpd hp)⟩
    rintro _ H5 ⟨t, x6, rfl, hd5, s5⟩
    -- it is refused
    refine ⟨fun σ' H6 => σ' = stt sc (some (.int (0 + i))) (some (.ref f)) (some (.ref ks)) (some (.ref t)) (some (.int m)) x6 x7 x8 ∧ Same H4 H6, ?_, ?_⟩
    · refine ⟨.ref t, rfl, (by show 1 ≤ sizeLine; decide), fun p1 hp1 => ⟨(by show 1 ≤ sizeLine; decide), fun p2 hp2 => ⟨(by show 4 ≤ sizeLine; decide), fun p3 hp3 => ?_⟩⟩⟩
      have s6 := sameUpd (o := .tup [.ref t]) hp1
      have s7 := sameUpd (o := .tup [.str "stop"]) hp2
      have s8 := sameUpd (o := .tup [.str "write", .str "o", .ref p1, .ref p2]) hp3
      have hd8 : Dp K _ (.ref p3) (deepN m) := .tup (.inl (.inl (upd_same (H := upd (upd H5 p1 (.tup [.ref t])) p2 (.tup [.str "stop"])) (a := p3) (o := .tup [.str "write", .str "o", .ref p1, .ref p2])))) (.cons (.str _) (.cons (.str _) (.cons (dpSame (s7.trans s8) _ _ (.tup (.inl (.inl upd_same)) (.cons (dpSame s6 _ _ hd5) .nil))) (.cons (dpSame s8 _ _ (.tup (.inl (.inl upd_same)) (.cons (.str _) .nil))) .nil))))
      have sA := (s6.trans s7).trans s8
      refine ⟨.ref p3, deepN m, rfl, hd8, deepNOd hm, .inr ⟨deepOk m, deepNot m⟩, fun r H9 s9 fr => ⟨Nat.zero_le _, fun p4 hp4 => ?_⟩⟩
      have s10 := sameUpd (o := .tup []) hp4
      rw [ffNo (deepNot m)] at fr
      refine ⟨r, .ref p4, rfl, frSv (o := some []) (fun p e => by rw [← Option.some.inj e]; show 0 ≤ 1000; omega) (fr.same s10) ⟨p4, rfl, .inl (.inl upd_same)⟩, fun H11 s11 => ⟨_, rfl, iteF ⟨rfl, (((s5.trans sA).trans s9).trans s10).trans s11⟩⟩⟩
    rintro _ H6 ⟨rfl, s6⟩
    have F6 := F4.same s6
    have k6' : Kp f H3 H6 := k4.trans (Kp.same s6)
    -- seven trees
    refine ⟨7, rfl, by omega, by omega, ?_⟩
    refine forJ (n := 7) (fun j σ' H' => (∃ x6 x7 x8, σ' = stt sc (some (.int (0 + i))) (some (.ref f)) (some (.ref ks)) (some (.ref t)) (some (.int m)) x6 x7 x8) ∧ Kp f H6 H' ∧ Fd H' f) ⟨⟨x6, x7, x8, rfl⟩, Kp.refl _ _, F6⟩ (fun i σ' H' lt _ => lt) (fun σ' H' _ => Nat.le_refl _) (fun j σ' H7 x H8 lt h y => ?_) (fun σ' H' h => ?_)
    · obtain ⟨rfl, rfl⟩ := y
      obtain ⟨⟨x6, x7, x8, rfl⟩, k7', F7⟩ := h
      have k37 := k6'.trans k7'
      refine ⟨fun σ' H9 => ∃ v, σ' = stt sc (some (.int (0 + i))) (some (.ref f)) (some (.ref ks)) (some (.ref t)) (some (.int m)) (some (.int (0 + j))) (some v) x8 ∧ Vw K 5 20 H9 v ∧ Kp f H6 H9 ∧ Fd H9 f, ?_, ?_⟩
      · refine ⟨.ref f, rfl, .ref ks, rfl, rfl, fun os hos => ?_⟩
        have s9 := sameUpd (o := .lst [.str "o", .str "read", .str "write", .str "z9z9z9z9"]) hos
        have F9 := F7.same s9
        have nOs := F7.ne hos
        refine ⟨.ref f, rfl, f, 6, rfl, F9, by decide, by decide, fun r H10 r0 r1 k10 F10 => ⟨1, r, rfl, rfl, ?_⟩⟩
        have k3A := (k37.trans (Kp.same s9)).trans k10
        refine ⟨f, ks, os, xs, _, 1 + r, rfl, by omega, by omega, F10, k3A _ _ neK eK, neK, by omega, by omega, fun v hv => (hK v hv).kt (KT.kp F3 k3A), k10 _ _ nOs upd_same, nOs, (by show 4 ≤ 10; omega), fun v hv => ?_, fun v H11 hv k11 F11 => ⟨v, rfl, hv, ((k7'.trans (Kp.same s9)).trans k10).trans k11, F11⟩⟩
        simp only [List.mem_cons, List.not_mem_nil, or_false] at hv
        rcases hv with rfl | rfl | rfl | rfl <;> exact ⟨_, rfl, by decide +kernel⟩
      rintro _ H9 ⟨v, rfl, hv, k9', F9⟩
      refine ⟨v, rfl, .ref f, rfl, v, rfl, f, v, rfl, F9, hv, fun va H10 hva k10 F10 => ⟨.ref f, rfl, .ref f, rfl, v, rfl, f, v, rfl, F10, hv.kt (KT.kp F9 k10), fun vb H11 hvb k11 F11 => ⟨f, vb, rfl, F11, hvb, fun vc H12 hvc k12 F12 => ⟨(by show 3 ≤ sizeLine; decide), fun T hT => ?_⟩⟩⟩⟩
      have tT := sameUpd (o := .tup [v, va, vc]) hT
      have eT : upd H12 T (.tup [v, va, vc]) T = some (.tup [v, va, vc]) := upd_same
      have F13 := F12.same tT
      have k13 : Kp f H6 (upd H12 T (.tup [v, va, vc])) := (((k9'.trans k10).trans k11).trans k12).trans (Kp.same tT)
      have hall : ∀ u ∈ [v, va, vc], Vw K 7 26 (upd H12 T (.tup [v, va, vc])) u := fun u hu => by
        simp only [List.mem_cons, List.not_mem_nil, or_false] at hu
        rcases hu with rfl | rfl | rfl
        · exact ((((hv.kt (KT.kp F9 k10)).kt (KT.kp F10 k11)).kt (KT.kp F11 k12)).kt (.same tT)).up (by omega) (by omega)
        · exact (((hva.kt (KT.kp F10 k11)).kt (KT.kp F11 k12)).kt (.same tT)).up (by omega) (by omega)
        · exact hvc.kt (.same tT)
      generalize upd H12 T (.tup [v, va, vc]) = H13 at *
      refine ⟨T, rfl, ⟨_, .inl (.inl eT)⟩, ?_⟩
      refine forJ (n := 3) (fun m' σ' H' => (∃ x8, σ' = stt sc (some (.int (0 + i))) (some (.ref f)) (some (.ref ks)) (some (.ref t)) (some (.int m)) (some (.int (0 + j))) (some v) x8) ∧ Same H13 H') ⟨⟨x8, rfl⟩, Same.refl _⟩
        (fun m' σ' H' lt h => ⟨[v, va, vc], _, .inl (.inl (h.2 _ _ eT)), List.getElem?_eq_getElem lt⟩) (fun σ' H' h => ⟨[v, va, vc], .inl (.inl (h.2 _ _ eT)), Nat.le_refl _⟩) (fun m' σ' H14 u H15 lt h y => ?_) (fun σ' H' h => ?_)
      · obtain ⟨rfl, y⟩ := y
        obtain ⟨⟨x8, rfl⟩, s14⟩ := h
        have hmu := List.mem_of_getElem? (y _ (.inl (.inl (s14 _ _ eT))))
        obtain ⟨d, hd, od⟩ := (hall u hmu).kt (.same s14)
        have o60 : Od 60 d := (od.od (by omega)).up (by omega)
        refine ⟨u, rfl, u, d, rfl, hd, o60, .inl (Nat.le_refl _), fun r Ha sa fr => ⟨u, rfl, Nat.zero_le _, fun p1 hp1 => ⟨Nat.zero_le _, fun p2 hp2 => ?_⟩⟩⟩
        have t1 := sameUpd (o := .tup []) hp1
        have t2 := sameUpd (o := .lst []) hp2
        have sA := (sa.trans t1).trans t2
        refine ⟨u, p1, p2, d, [], [], [], rfl, dpSame sA _ _ hd, o60, od.td, .inl (.inl (t2 _ _ upd_same)), upd_same, .nil, fun z hz => absurd hz (by simp), by decide, by decide, fun r2 Hb sb fr2 => ?_⟩
        refine ⟨r, r2, rfl, frSv (fun p e => by have := ffLen e; simp at this; omega) (fr.same ((t1.trans t2).trans sb)) fr2, fun Hc sc' => ⟨_, rfl, iteF ⟨⟨_, rfl⟩, ((s14.trans sA).trans sb).trans sc'⟩⟩⟩
      · obtain ⟨⟨x8, rfl⟩, s14⟩ := h
        exact ⟨⟨_, _, _, rfl⟩, k13.trans (Kp.same s14), F13.same s14⟩
    · obtain ⟨⟨x6, x7, x8, rfl⟩, k7', F7⟩ := h
      exact ⟨⟨_, _, _, _, _, _, _, _, rfl⟩, script ((k3.trans k6').trans k7')⟩
end
end KS.La

set_option Elab.async false
set_option linter.all false
set_option maxRecDepth 100000
set_option maxHeartbeats 0
namespace KS.La
open PySem PySem.Spec PyProof.Rows L2 KX
open He (ga ma)
abbrev R : PySem.W.OpenRow := PySem.W.OpenLaw.row PySem.Challenge.rw_farenough_k05_trees_that_are_refused
def dOf (x : Str) (i : Nat) : He.DefD := ⟨(x, none), x, x, defArgs (top i), defBody (top i), defScope (top i), [], []⟩
def dIn (x q : Str) (i : Nat) : He.DefD := ⟨(x, some "__init__"), "__init__", q, defArgs (inClass (top i) 0), defBody (inClass (top i) 0), defScope (inClass (top i) 0), [], []⟩
def fn : List He.DefD := [
  dOf "is_integer" 8,
  dOf "is_text" 9,
  dOf "is_name" 10,
  dOf "is_key" 11,
  dOf "are_keys" 12,
  dOf "are_answers" 13,
  dOf "_check_tree" 18,
  dOf "_inner_nodes" 19,
  dOf "_is_node" 20,
  dOf "_are_parts" 21,
  dOf "_is_pair_of_integers" 22,
  dOf "_are_cases" 23,
  dOf "_is_case" 24,
  dOf "_law_feed_of" 26,
  dOf "_law_draw" 27,
  dOf "_law_mixed" 28,
  dOf "_law_pick" 29,
  dOf "_law_outs" 30,
  dOf "_law_calls" 31,
  dOf "_law_some_text" 32,
  dOf "_law_some_answer" 33,
  dOf "_law_some_parts" 34,
  dOf "_law_some_tree" 35,
  dOf "_law_same" 36,
  dOf "_law_is_word" 37,
  dOf "_law_is_line" 38,
  dOf "_law_is_number" 39,
  dOf "_law_is_part" 40,
  dOf "_law_are_keys" 41,
  dOf "_law_is_case" 42,
  dOf "_law_is_node" 43,
  dOf "_law_first_fault" 44,
  dOf "_law_odd_value" 45,
  dOf "_law_spoilt" 46,
  dOf "_law_refused" 47,
  dOf "law" 48,
  dIn "BadTree" "BadTree.__init__" 3,
  dIn "TreeRecipe" "TreeRecipe.__init__" 17]
def frees : List Str := ["isinstance", "len", "zip", "all", "list", "tuple", "bool", "int", "str", "range", "ord", "set", "max", "min", "enumerate", "reversed"]
def numG : List (Str × Int) := [("LONGEST_TEXT", 400), ("LONGEST_NAME", 8), ("MOST_KEYS", 4)]
def looseC : List Str := ["LONGEST_TEXT", "LONGEST_NAME", "MOST_KEYS", "_wall", "Recipe"]
def glos0 : List Str := ["STOP", "BuildError", "BadTree", "TreeRecipe", "is_integer", "is_text", "is_name", "is_key", "are_keys", "are_answers", "_check_tree", "_inner_nodes", "_is_node", "_are_parts", "_is_pair_of_integers", "_are_cases", "_is_case", "_law_feed_of"]
def glos1 : List Str := ["_law_draw", "_law_mixed", "_law_pick", "_law_outs", "_law_calls", "_law_some_text", "_law_some_answer", "_law_some_parts", "_law_some_tree", "_law_same", "_law_is_word", "_law_is_line", "_law_is_number", "_law_is_part", "_law_are_keys", "_law_is_case", "_law_is_node", "_law_first_fault"]
def glos2 : List Str := ["_law_odd_value", "_law_spoilt", "_law_refused"]
def glos : List Str := glos0 ++ glos1 ++ glos2
def loose : List Str := looseC ++ glos
def fa : List He.Fa := (glos ++ ([("law" : Str)] : List Str)).map He.Fa.glo ++ (frees.map He.Fa.free ++ (numG.map (fun q => He.Fa.int q.1 q.2) ++ [He.Fa.cls "TreeRecipe", He.Fa.noat "TreeRecipe" "_node", He.Fa.mkr "TreeRecipe"]))
/-- the property of trees, its getter -/
def pAd (K : PySem.W.Frag) : Addr := ma K (ga K "TreeRecipe") "node"
def gAd (K : PySem.W.Frag) : Addr := match PySem.W.recIn K (pAd K) "property" with
  | some (.ref g :: _) => g
  | _ => 0
def fnAt (K : PySem.W.Frag) (a : Addr) : He.FnW := match K.lookup a with
  | some o => (match o.data with
    | .func u => some (u.name, u.qualname, u.params, u.body, u.scope, u.globals, u.closure, u.builtins)
    | _ => none)
  | none => none
def okAt (K : PySem.W.Frag) (a : Addr) (q : Str) : Bool := PySem.W.keepIn K (.ref a) && (match K.lookup a with
  | some o => (match o.data with
    | .func u => PySem.W.codeIn K u.code q && (He.dflB K u.defaults [] && He.kwdB K u.kwdefaults [])
    | _ => false)
  | none => false)
theorem funAt {K : PySem.W.Frag} {a : Addr} {x q : Str} {ps : Arguments} {b : List Stmt} {sc : Scope} (e : fnAt K a = some (x, q, ps, .stmts b, sc, mainGlobals, [], builtinsNs)) (c : okAt K a q = true) : ∃ fd, FunD K x q ps b sc [] [] a fd := by
  unfold okAt at c
  unfold fnAt at e
  rw [Bool.and_eq_true] at c
  obtain ⟨kp, c⟩ := c
  generalize hl : K.lookup a = o at c e
  rcases o with _ | ⟨oc, od, dt, sl⟩
  · cases c
  · dsimp only at c e
    cases dt with
    | func u =>
      dsimp only at c e
      rw [Bool.and_eq_true, Bool.and_eq_true] at c
      obtain ⟨c1, c2, c3⟩ := c
      obtain ⟨m1, m2, m3, m4, m5, m6, m7, m8, m9, m10, m11, m12, m13, m14, m15⟩ := u
      dsimp only at c1 c2 c3 e
      injection e with e
      simp only [Prod.mk.injEq] at e
      obtain ⟨rfl, rfl, rfl, rfl, rfl, rfl, rfl, rfl⟩ := e
      refine ⟨_, ⟨oc, od, m8, m9, m10, m11, m12, m13, m14, sl, rfl, hl, c1, ?_, ?_⟩, kp⟩
      · exact He.dflB_ok c2
      · exact He.kwdB_ok c3
    | _ => cases c
/-- the other facts, as one Bool -/
def exB (K : PySem.W.Frag) : Bool :=
  xcB K (ga K "BadTree") veB "ValueError.__new__" && (decide (PySem.W.findIn K (.ref (ga K "BadTree")) "path" = some none) && (decide (PySem.W.findIn K (.ref (ga K "BadTree")) "__init__" = some (some (.ref (ma K (ga K "BadTree") "__init__"))))
  && (decide (PySem.W.typeIn K (.ref (ma K (ga K "BadTree") "__init__")) = some (.type "function")) && (decide (PySem.W.kitOne K (.ref (ga K "BadTree")) (.ref (ga K "BadTree")) = some true) && (decide (PySem.W.exmOne K (.ref (ga K "BadTree")) (.ref (ga K "BuildError")) = some true)
  && (He.tupB K "STOP" [.str "stop"] && (decide (PySem.W.findIn K (.ref (ga K "TreeRecipe")) "node" = some (some (.ref (pAd K)))) && (decide (PySem.W.specialIn K (.ref (pAd K)) "__get__" = some (some (.builtin "property.__get__")))
  && (decide (PySem.W.takesIn K (.ref (pAd K)) = some true) && (decide ((PySem.W.recIn K (pAd K) "property").map (fun l => l.head?) = some (some (.ref (gAd K)))) && okAt K (gAd K) "TreeRecipe.node"))))))))))
def gVal : He.FnW := some ("node", "TreeRecipe.node", defArgs sNodeP, .stmts (defBody sNodeP), defScope sNodeP, mainGlobals, [], builtinsNs)
/-- the head's look: defs, names, numbers, these -/
abbrev Al : Type := He.AlD × (Bool × He.FnW)
def obsK (K : PySem.W.Frag) : Al := (He.obsD fa fn K, exB K, fnAt K (gAd K))
def obsM (n : Nat) (g : Addr → Option Obj) : Al := obsK (He.frG g (He.asD g n))
structure Says (K : PySem.W.Frag) : Prop where
  d : He.SaysD fa fn K
  e : exB K = true
  g : fnAt K (gAd K) = gVal
def hk : PySem.W.Hook where
  α := Al
  obs := fun s => obsM 6 s.heap.get?
  val := fun _ => (He.valD fn, true, gVal)
  says := fun _ h => ∃ K : PySem.W.Frag, K.In h ∧ Says K
  of := fun _ _ e => ⟨_, He.frG_in, ⟨congrArg (fun z : Al => z.1) e, congrArg (fun z : Al => z.2.1) e, congrArg (fun z : Al => z.2.2) e⟩⟩
  keeps := fun _ _ _ ⟨K, hK, c⟩ k => ⟨K, PySem.W.Frag.In.keeps hK k, c⟩
def ob (s : PySem.W.SharedT) : Al := obsM 6 (HandSHeadRun.getT s)
theorem ob_eq (s : PySem.W.SharedT) : ob s = hk.obs s.abs := by
  have e : HandSHeadRun.getT s = s.abs.heap.get? := funext (HandSHeadRun.getT_eq s)
  unfold ob
  rw [e] <;> rfl
theorem run (w : World) : HandSHeadRun.RunEq R (PySem.W.view R.prog [48]) hk ob 20000 loose w := by
  intro os
  kernel_rfl
end KS.La

set_option Elab.async false
set_option linter.all false
set_option maxRecDepth 100000
set_option maxHeartbeats 0
namespace KS.La
open PySem PySem.Spec PyProof.Rows L2 KX
open He (ga ma)
section
variable {P : Program} {w : World} {K : PySem.W.Frag} {mg : Str → Option Value} {base h : Heap}
theorem hasMono {j k : Nat} {x : Str} {ps : List Str} {sp : Sp} (A : Has P w K mg base j x ps sp) (h : j ≤ k) : Has P w K mg base k x ps sp := by
  obtain ⟨f, fd, a, b, c, F⟩ := A.ex
  exact ⟨f, fd, a, b, c, F.mono h⟩
theorem factM (c : He.SaysD fa fn K) {f : He.Fa} (hm : f ∈ fa) : f.ok K = true := by
  obtain ⟨i, hi, e⟩ := List.mem_iff_getElem.mp hm
  exact c.fact i (f := f) (by rw [List.getElem?_eq_getElem hi, e])
theorem kbnOf {x q : Str} {params : Arguments} {body : List Stmt} {scope : Scope} {f : Addr} {fd : FuncData} {ps ks : List Str} {n : Nat} {g : List Value → List Value → List Value} {gV : List V → List V → List V} (F : FunD K x q params body scope [] [] f fd)
    (hto : ∀ (kV doc pm : Value) (an : Option Addr) (cdv ct : Value) (us ws : List Value), us.length = n → ws.length = ks.length → bindArgs (PySem.W.fnOf x q params body scope .none kV doc pm an cdv ct) ⟨us, ks.zip ws⟩ = pure (ps.zip (g us ws)))
    (hrel : ∀ {vs : List V} {us : List Value} {zs : List V} {ws : List Value}, Vals vs us → Vals zs ws → Vals (gV vs zs) (g us ws)) : KBn K fd ps n ks g gV := by
  obtain ⟨oc, od, dV, kV, doc, pm, an, cdv, ct, osl, rfl, lk, hcd, hD, _⟩ := F.ex
  rcases hD with ⟨_, rfl⟩ | ⟨e, _⟩
  · exact ⟨fun s us ws _ h1 h2 => .of_eq (hto kV doc pm an cdv ct us ws h1 h2), hrel⟩
  · exact absurd rfl e
theorem exB_parts (e : exB K = true) : xcB K (ga K "BadTree") veB "ValueError.__new__" = true ∧ PySem.W.findIn K (.ref (ga K "BadTree")) "path" = some none ∧ PySem.W.findIn K (.ref (ga K "BadTree")) "__init__" = some (some (.ref (ma K (ga K "BadTree") "__init__"))) ∧
    PySem.W.typeIn K (.ref (ma K (ga K "BadTree") "__init__")) = some (.type "function") ∧ PySem.W.kitOne K (.ref (ga K "BadTree")) (.ref (ga K "BadTree")) = some true ∧ PySem.W.exmOne K (.ref (ga K "BadTree")) (.ref (ga K "BuildError")) = some true ∧
    He.tupB K "STOP" [.str "stop"] = true ∧ PySem.W.findIn K (.ref (ga K "TreeRecipe")) "node" = some (some (.ref (pAd K))) ∧ PySem.W.specialIn K (.ref (pAd K)) "__get__" = some (some (.builtin "property.__get__")) ∧
    PySem.W.takesIn K (.ref (pAd K)) = some true ∧ (PySem.W.recIn K (pAd K) "property").map (fun l => l.head?) = some (some (.ref (gAd K))) ∧ okAt K (gAd K) "TreeRecipe.node" = true := by
  unfold exB at e
  simp only [Bool.and_eq_true, decide_eq_true_eq] at e
  exact e
theorem facts {f : Addr} (X : K.In h) (G : h.Ns mainGlobals mg) (hfa : mg ("law" : Str) = some (.ref f)) (y : Says K) :
    ∃ fd : FuncData, (∀ (s : Shared) (v : Value), BindsTo s fd ⟨[v], []⟩ [("_law_script", v)]) ∧ ∀ base : Heap, K.In base → base.Ns mainGlobals mg → FnOk P w K mg base CX0 66 f fd ["_law_script"] (spLaw K) := by
  obtain ⟨c, e, eg⟩ := y
  obtain ⟨p1, p2, p3, p4, p5, p6, p7, p8, p9, p10, p11, p12⟩ := exB_parts e
  have glo : ∀ x ∈ glos ++ ([("law" : Str)] : List Str), mg x = some (.ref (ga K x)) := fun x hx => He.glo_ok X G (factM c (f := .glo x) (List.mem_append_left _ (List.mem_map_of_mem hx)))
  have fre : ∀ x ∈ frees, mg x = none := fun x hx => He.free_ok X G (factM c (f := .free x) (List.mem_append_right _ (List.mem_append_left _ (List.mem_map_of_mem hx))))
  have num : ∀ q ∈ numG, IntG mg q.1 q.2 := fun q hq => He.int_ok X G (factM c (f := .int q.1 q.2) (List.mem_append_right _ (List.mem_append_right _ (List.mem_append_left _ (List.mem_map.mpr ⟨q, hq, rfl⟩)))))
  have cl : Cls K (ga K "TreeRecipe") := He.cls_ok (factM c (f := .cls "TreeRecipe") (List.mem_append_right _ (List.mem_append_right _ (List.mem_append_right _ (by simp)))))
  have nf : NoAttr K (ga K "TreeRecipe") "_node" := He.noat_ok (factM c (f := .noat "TreeRecipe" "_node") (List.mem_append_right _ (List.mem_append_right _ (List.mem_append_right _ (by simp)))))
  have mk : Mk K (ga K "TreeRecipe") (ma K (ga K "TreeRecipe") "__init__") := He.mkr_ok (factM c (f := .mkr "TreeRecipe") (List.mem_append_right _ (List.mem_append_right _ (List.mem_append_right _ (by simp)))))
  have B : Bn mg := ⟨fre _ (by decide +kernel), fre _ (by decide +kernel), fre _ (by decide +kernel), fre _ (by decide +kernel), fre _ (by decide +kernel), fre _ (by decide +kernel), fre _ (by decide +kernel), fre _ (by decide +kernel), fre _ (by decide +kernel), fre _ (by decide +kernel), fre _ (by decide +kernel), fre _ (by decide +kernel), fre _ (by decide +kernel), fre _ (by decide +kernel)⟩
  have gT : IntG mg "LONGEST_TEXT" 400 := num ("LONGEST_TEXT", 400) (by decide +kernel)
  have gN : IntG mg "LONGEST_NAME" 8 := num ("LONGEST_NAME", 8) (by decide +kernel)
  have gK : IntG mg "MOST_KEYS" 4 := num ("MOST_KEYS", 4) (by decide +kernel)
  obtain ⟨fd, F⟩ := c.def_ 35 (d := dOf "law" 48) rfl
  have ef := hfa.symm.trans (glo "law" (by decide +kernel))
  cases ef
  have b := FunD.bindsA (ps := ["_law_script"]) F fun _ _ _ _ _ _ us hl => match us, hl with | [_], _ => rfl
  refine ⟨fd, fun s v => b s [v] rfl, fun base hb hg => ?_⟩
  obtain ⟨d0, F0⟩ := c.def_ 0 (d := dOf "is_integer" 8) rfl
  have g0 : mg "is_integer" = some (.ref (ga K "is_integer")) := glo _ (by decide +kernel)
  have b0 : Binds K d0 ["value"] [] := F0.bindsN (fun _ _ _ _ _ _ us hl => match us, hl with | [_], _ => rfl)
  obtain ⟨d1, F1⟩ := c.def_ 1 (d := dOf "is_text" 9) rfl
  have g1 : mg "is_text" = some (.ref (ga K "is_text")) := glo _ (by decide +kernel)
  have b1 : Binds K d1 ["value"] [] := F1.bindsN (fun _ _ _ _ _ _ us hl => match us, hl with | [_], _ => rfl)
  obtain ⟨d2, F2⟩ := c.def_ 2 (d := dOf "is_name" 10) rfl
  have g2 : mg "is_name" = some (.ref (ga K "is_name")) := glo _ (by decide +kernel)
  have b2 : Binds K d2 ["value"] [] := F2.bindsN (fun _ _ _ _ _ _ us hl => match us, hl with | [_], _ => rfl)
  obtain ⟨d3, F3⟩ := c.def_ 3 (d := dOf "is_key" 11) rfl
  have g3 : mg "is_key" = some (.ref (ga K "is_key")) := glo _ (by decide +kernel)
  have b3 : Binds K d3 ["value"] [] := F3.bindsN (fun _ _ _ _ _ _ us hl => match us, hl with | [_], _ => rfl)
  obtain ⟨d4, F4⟩ := c.def_ 4 (d := dOf "are_keys" 12) rfl
  have g4 : mg "are_keys" = some (.ref (ga K "are_keys")) := glo _ (by decide +kernel)
  have b4 : Binds K d4 ["value"] [] := F4.bindsN (fun _ _ _ _ _ _ us hl => match us, hl with | [_], _ => rfl)
  obtain ⟨d5, F5⟩ := c.def_ 5 (d := dOf "are_answers" 13) rfl
  have g5 : mg "are_answers" = some (.ref (ga K "are_answers")) := glo _ (by decide +kernel)
  have b5 : Binds K d5 ["value"] [] := F5.bindsN (fun _ _ _ _ _ _ us hl => match us, hl with | [_], _ => rfl)
  obtain ⟨d6, F6⟩ := c.def_ 6 (d := dOf "_check_tree" 18) rfl
  have g6 : mg "_check_tree" = some (.ref (ga K "_check_tree")) := glo _ (by decide +kernel)
  have b6 : Binds K d6 ["top"] [] := F6.bindsN (fun _ _ _ _ _ _ us hl => match us, hl with | [_], _ => rfl)
  obtain ⟨d7, F7⟩ := c.def_ 7 (d := dOf "_inner_nodes" 19) rfl
  have g7 : mg "_inner_nodes" = some (.ref (ga K "_inner_nodes")) := glo _ (by decide +kernel)
  have b7 : Binds K d7 ["node"] [] := F7.bindsN (fun _ _ _ _ _ _ us hl => match us, hl with | [_], _ => rfl)
  obtain ⟨d8, F8⟩ := c.def_ 8 (d := dOf "_is_node" 20) rfl
  have g8 : mg "_is_node" = some (.ref (ga K "_is_node")) := glo _ (by decide +kernel)
  have b8 : Binds K d8 ["value", "written"] [] := F8.bindsN (fun _ _ _ _ _ _ us hl => match us, hl with | [_, _], _ => rfl)
  obtain ⟨d9, F9⟩ := c.def_ 9 (d := dOf "_are_parts" 21) rfl
  have g9 : mg "_are_parts" = some (.ref (ga K "_are_parts")) := glo _ (by decide +kernel)
  have b9 : Binds K d9 ["value"] [] := F9.bindsN (fun _ _ _ _ _ _ us hl => match us, hl with | [_], _ => rfl)
  obtain ⟨d10, F10⟩ := c.def_ 10 (d := dOf "_is_pair_of_integers" 22) rfl
  have g10 : mg "_is_pair_of_integers" = some (.ref (ga K "_is_pair_of_integers")) := glo _ (by decide +kernel)
  have b10 : Binds K d10 ["value"] [] := F10.bindsN (fun _ _ _ _ _ _ us hl => match us, hl with | [_], _ => rfl)
  obtain ⟨d11, F11⟩ := c.def_ 11 (d := dOf "_are_cases" 23) rfl
  have g11 : mg "_are_cases" = some (.ref (ga K "_are_cases")) := glo _ (by decide +kernel)
  have b11 : Binds K d11 ["value", "many"] [] := F11.bindsN (fun _ _ _ _ _ _ us hl => match us, hl with | [_, _], _ => rfl)
  obtain ⟨d12, F12⟩ := c.def_ 12 (d := dOf "_is_case" 24) rfl
  have g12 : mg "_is_case" = some (.ref (ga K "_is_case")) := glo _ (by decide +kernel)
  have b12 : Binds K d12 ["value", "many"] [] := F12.bindsN (fun _ _ _ _ _ _ us hl => match us, hl with | [_, _], _ => rfl)
  obtain ⟨d13, F13⟩ := c.def_ 13 (d := dOf "_law_feed_of" 26) rfl
  have g13 : mg "_law_feed_of" = some (.ref (ga K "_law_feed_of")) := glo _ (by decide +kernel)
  have b13 : Binds K d13 ["_law_script", "_law_k"] [] := F13.bindsN (fun _ _ _ _ _ _ us hl => match us, hl with | [_, _], _ => rfl)
  obtain ⟨d14, F14⟩ := c.def_ 14 (d := dOf "_law_draw" 27) rfl
  have g14 : mg "_law_draw" = some (.ref (ga K "_law_draw")) := glo _ (by decide +kernel)
  have b14 : Binds K d14 ["_law_feed", "_law_many"] [] := F14.bindsN (fun _ _ _ _ _ _ us hl => match us, hl with | [_, _], _ => rfl)
  obtain ⟨d15, F15⟩ := c.def_ 15 (d := dOf "_law_mixed" 28) rfl
  have g15 : mg "_law_mixed" = some (.ref (ga K "_law_mixed")) := glo _ (by decide +kernel)
  have b15 : Binds K d15 ["_law_feed", "_law_items"] [] := F15.bindsN (fun _ _ _ _ _ _ us hl => match us, hl with | [_, _], _ => rfl)
  obtain ⟨d16, F16⟩ := c.def_ 16 (d := dOf "_law_pick" 29) rfl
  have g16 : mg "_law_pick" = some (.ref (ga K "_law_pick")) := glo _ (by decide +kernel)
  have b16 : Binds K d16 ["_law_feed", "_law_items"] [] := F16.bindsN (fun _ _ _ _ _ _ us hl => match us, hl with | [_, _], _ => rfl)
  obtain ⟨d17, F17⟩ := c.def_ 17 (d := dOf "_law_outs" 30) rfl
  have g17 : mg "_law_outs" = some (.ref (ga K "_law_outs")) := glo _ (by decide +kernel)
  have b17 : Binds K d17 [] [] := F17.bindsN (fun _ _ _ _ _ _ us hl => match us, hl with | [], _ => rfl)
  obtain ⟨d18, F18⟩ := c.def_ 18 (d := dOf "_law_calls" 31) rfl
  have g18 : mg "_law_calls" = some (.ref (ga K "_law_calls")) := glo _ (by decide +kernel)
  have b18 : Binds K d18 [] [] := F18.bindsN (fun _ _ _ _ _ _ us hl => match us, hl with | [], _ => rfl)
  obtain ⟨d19, F19⟩ := c.def_ 19 (d := dOf "_law_some_text" 32) rfl
  have g19 : mg "_law_some_text" = some (.ref (ga K "_law_some_text")) := glo _ (by decide +kernel)
  have b19 : Binds K d19 ["_law_feed"] [] := F19.bindsN (fun _ _ _ _ _ _ us hl => match us, hl with | [_], _ => rfl)
  obtain ⟨d20, F20⟩ := c.def_ 20 (d := dOf "_law_some_answer" 33) rfl
  have g20 : mg "_law_some_answer" = some (.ref (ga K "_law_some_answer")) := glo _ (by decide +kernel)
  have b20 : Binds K d20 ["_law_feed"] [] := F20.bindsN (fun _ _ _ _ _ _ us hl => match us, hl with | [_], _ => rfl)
  obtain ⟨d21, F21⟩ := c.def_ 21 (d := dOf "_law_some_parts" 34) rfl
  have g21 : mg "_law_some_parts" = some (.ref (ga K "_law_some_parts")) := glo _ (by decide +kernel)
  have b21 : Binds K d21 ["_law_feed"] [] := F21.bindsN (fun _ _ _ _ _ _ us hl => match us, hl with | [_], _ => rfl)
  obtain ⟨d22, F22⟩ := c.def_ 22 (d := dOf "_law_some_tree" 35) rfl
  have g22 : mg "_law_some_tree" = some (.ref (ga K "_law_some_tree")) := glo _ (by decide +kernel)
  have b22 : Binds K d22 ["_law_feed", "_law_keys", "_law_outs_here", "_law_deep"] [] := F22.bindsN (fun _ _ _ _ _ _ us hl => match us, hl with | [_, _, _, _], _ => rfl)
  obtain ⟨d23, F23⟩ := c.def_ 23 (d := dOf "_law_same" 36) rfl
  have g23 : mg "_law_same" = some (.ref (ga K "_law_same")) := glo _ (by decide +kernel)
  have b23 : Binds K d23 ["_law_found", "_law_due"] [] := F23.bindsN (fun _ _ _ _ _ _ us hl => match us, hl with | [_, _], _ => rfl)
  obtain ⟨d24, F24⟩ := c.def_ 24 (d := dOf "_law_is_word" 37) rfl
  have g24 : mg "_law_is_word" = some (.ref (ga K "_law_is_word")) := glo _ (by decide +kernel)
  have b24 : Binds K d24 ["_law_value"] [] := F24.bindsN (fun _ _ _ _ _ _ us hl => match us, hl with | [_], _ => rfl)
  obtain ⟨d25, F25⟩ := c.def_ 25 (d := dOf "_law_is_line" 38) rfl
  have g25 : mg "_law_is_line" = some (.ref (ga K "_law_is_line")) := glo _ (by decide +kernel)
  have b25 : Binds K d25 ["_law_value"] [] := F25.bindsN (fun _ _ _ _ _ _ us hl => match us, hl with | [_], _ => rfl)
  obtain ⟨d26, F26⟩ := c.def_ 26 (d := dOf "_law_is_number" 39) rfl
  have g26 : mg "_law_is_number" = some (.ref (ga K "_law_is_number")) := glo _ (by decide +kernel)
  have b26 : Binds K d26 ["_law_value"] [] := F26.bindsN (fun _ _ _ _ _ _ us hl => match us, hl with | [_], _ => rfl)
  obtain ⟨d27, F27⟩ := c.def_ 27 (d := dOf "_law_is_part" 40) rfl
  have g27 : mg "_law_is_part" = some (.ref (ga K "_law_is_part")) := glo _ (by decide +kernel)
  have b27 : Binds K d27 ["_law_value"] [] := F27.bindsN (fun _ _ _ _ _ _ us hl => match us, hl with | [_], _ => rfl)
  obtain ⟨d28, F28⟩ := c.def_ 28 (d := dOf "_law_are_keys" 41) rfl
  have g28 : mg "_law_are_keys" = some (.ref (ga K "_law_are_keys")) := glo _ (by decide +kernel)
  have b28 : Binds K d28 ["_law_value"] [] := F28.bindsN (fun _ _ _ _ _ _ us hl => match us, hl with | [_], _ => rfl)
  obtain ⟨d29, F29⟩ := c.def_ 29 (d := dOf "_law_is_case" 42) rfl
  have g29 : mg "_law_is_case" = some (.ref (ga K "_law_is_case")) := glo _ (by decide +kernel)
  have b29 : Binds K d29 ["_law_value", "_law_many"] [] := F29.bindsN (fun _ _ _ _ _ _ us hl => match us, hl with | [_, _], _ => rfl)
  obtain ⟨d30, F30⟩ := c.def_ 30 (d := dOf "_law_is_node" 43) rfl
  have g30 : mg "_law_is_node" = some (.ref (ga K "_law_is_node")) := glo _ (by decide +kernel)
  have b30 : Binds K d30 ["_law_node", "_law_written"] [] := F30.bindsN (fun _ _ _ _ _ _ us hl => match us, hl with | [_, _], _ => rfl)
  obtain ⟨d31, F31⟩ := c.def_ 31 (d := dOf "_law_first_fault" 44) rfl
  have g31 : mg "_law_first_fault" = some (.ref (ga K "_law_first_fault")) := glo _ (by decide +kernel)
  have b31 : Binds K d31 ["_law_node", "_law_path", "_law_written"] [] := F31.bindsN (fun _ _ _ _ _ _ us hl => match us, hl with | [_, _, _], _ => rfl)
  obtain ⟨d32, F32⟩ := c.def_ 32 (d := dOf "_law_odd_value" 45) rfl
  have g32 : mg "_law_odd_value" = some (.ref (ga K "_law_odd_value")) := glo _ (by decide +kernel)
  have b32 : Binds K d32 ["_law_feed"] [] := F32.bindsN (fun _ _ _ _ _ _ us hl => match us, hl with | [_], _ => rfl)
  obtain ⟨d33, F33⟩ := c.def_ 33 (d := dOf "_law_spoilt" 46) rfl
  have g33 : mg "_law_spoilt" = some (.ref (ga K "_law_spoilt")) := glo _ (by decide +kernel)
  have b33 : Binds K d33 ["_law_feed", "_law_value"] [] := F33.bindsN (fun _ _ _ _ _ _ us hl => match us, hl with | [_, _], _ => rfl)
  obtain ⟨d34, F34⟩ := c.def_ 34 (d := dOf "_law_refused" 47) rfl
  have g34 : mg "_law_refused" = some (.ref (ga K "_law_refused")) := glo _ (by decide +kernel)
  have b34 : Binds K d34 ["_law_node"] [] := F34.bindsN (fun _ _ _ _ _ _ us hl => match us, hl with | [_], _ => rfl)
  have pInt : ∀ n : Nat, Has P w K mg base 1 "is_integer" ["value"] (spIs K n isIn) := fun n => ⟨_, d0, g0, F0.kp, b0, KS.okInt (k := 0) F0 B⟩
  have pText : ∀ n : Nat, Has P w K mg base 1 "is_text" ["value"] (spIs K n isTx) := fun n => ⟨_, d1, g1, F1.kp, b1, KS.okText (k := 0) F1 B gT⟩
  have pName : ∀ n : Nat, Has P w K mg base 2 "is_name" ["value"] (spIs K n isNm) := fun n => ⟨_, d2, g2, F2.kp, b2, KS.okName (k := 1) F2 B gN⟩
  have pKey : ∀ n : Nat, Has P w K mg base 3 "is_key" ["value"] (spIs K n isKy) := fun n => ⟨_, d3, g3, F3.kp, b3, KS.okKey (k := 0) F3 B (pName n)⟩
  have pKeys : ∀ n : Nat, Has P w K mg base 4 "are_keys" ["value"] (spIs K n areKy) := fun n => ⟨_, d4, g4, F4.kp, b4, KS.okKeys (k := 0) F4 B gK (pKey n)⟩
  have pAns : ∀ n : Nat, Has P w K mg base 2 "are_answers" ["value"] (spIs K n areAn) := fun n => ⟨_, d5, g5, F5.kp, b5, KS.okAns (k := 0) F5 B gK (pText n)⟩
  have pPair : ∀ n : Nat, Has P w K mg base 2 "_is_pair_of_integers" ["value"] (spIs K n isPr) := fun n => ⟨_, d10, g10, F10.kp, b10, KS.okPair (k := 0) F10 B pInt⟩
  have pParts : ∀ n : Nat, Has P w K mg base 3 "_are_parts" ["value"] (spIs K n arePt) := fun n => ⟨_, d9, g9, F9.kp, b9, KS.okParts (k := 0) F9 B (fun n => hasMono (pText n) (by decide)) pPair⟩
  have pCase : ∀ n : Nat, Has P w K mg base 3 "_is_case" ["value", "many"] (spIs2 K n isCs) := fun n => ⟨_, d12, g12, F12.kp, b12, KS.okCase (k := 0) F12 B pAns⟩
  have pCases : ∀ n : Nat, Has P w K mg base 4 "_are_cases" ["value", "many"] (spIs2 K n areCs) := fun n => ⟨_, d11, g11, F11.kp, b11, KS.okCases (k := 0) F11 B pCase⟩
  have pNode : ∀ n : Nat, Has P w K mg base 5 "_is_node" ["value", "written"] (spNode K n) := fun n => ⟨_, d8, g8, F8.kp, b8, KS.okNode (k := 0) F8 B (glo "STOP" (by decide +kernel)) (fun H => He.tupB_ok p7 H) (fun n => hasMono (pName n) (by decide)) (fun n => hasMono (pParts n) (by decide)) pKeys pCases⟩
  have pInner : ∀ n : Nat, Has P w K mg base 1 "_inner_nodes" ["node"] (spInner K n) := fun n => ⟨_, d7, g7, F7.kp, b7, okInner (k := 0) F7⟩
  have C1 : Cl1 P w K mg base "BadTree" (ga K "BadTree") "path" := by
    obtain ⟨fdB, FB⟩ := c.def_ 36 (d := dIn "BadTree" "BadTree.__init__" 3) rfl
    exact ⟨xcB_ok kdVe p1, glo _ (by decide +kernel), p2, _, fdB, p3, p4, okIni FB ⟨rfl, rfl, rfl, by decide +kernel, rfl, by decide +kernel, by decide +kernel⟩ rfl rfl (by decide) (by decide),
      kbnOf FB (fun _ _ _ _ _ _ us ws h1 h2 => match us, h1, ws, h2 with | [_, _], _, [], _ => rfl) (fun r _ => r), kbnOf FB (fun _ _ _ _ _ _ us ws h1 h2 => match us, h1, ws, h2 with | [_], _, [_], _ => rfl) (fun r t => r.append t)⟩
  have pCheck : ∀ n : Nat, n ≤ 199 → HasX P w K mg base 6 "_check_tree" ["top"] (spCheck K (ga K "BadTree") n) := fun n hn => ⟨_, d6, g6, F6.kp, b6, okCheck (k := 0) hn F6 B (fre _ (by decide +kernel)) C1 pNode (fun n => hasMono (pInner n) (by decide))⟩
  have T : TreeC P w K mg base 7 (ga K "TreeRecipe") (ga K "BadTree") := by
    obtain ⟨fdI, FI⟩ := c.def_ 37 (d := dIn "TreeRecipe" "TreeRecipe.__init__" 17) rfl
    obtain ⟨fdG, FG⟩ := funAt eg p12
    refine ⟨glo _ (by decide +kernel), cl, fun n hn => ⟨_, fdI, mk, FunD.bindsN FI (fun _ _ _ _ _ _ us hl => match us, hl with | [_, _], _ => rfl), okInit (k := 5) FI cl nf (pCheck n hn)⟩, ?_⟩
    refine ⟨pAd K, gAd K, fdG, ⟨p8, p9, p10, ?_⟩, FunD.bindsN FG (fun _ _ _ _ _ _ us hl => match us, hl with | [_], _ => rfl), okNodeP (k := 0) FG cl nf⟩
    cases hr : PySem.W.recIn K (pAd K) "property" with
    | none =>
      rw [hr] at p11
      cases p11
    | some l =>
      rw [hr] at p11
      cases l with
      | nil => cases p11
      | cons v l =>
        have ev : some (some v) = some (some (Value.ref (gAd K))) := p11
        injection ev with ev
        injection ev with ev
        exact ⟨l, by rw [ev]⟩
  have aFeed : Has P w K mg base 1 "_law_feed_of" ["_law_script", "_law_k"] (spFeed K) := ⟨_, d13, g13, F13.kp, b13, okFeed (k := 0) F13 B.len⟩
  have aDraw : Has P w K mg base 1 "_law_draw" ["_law_feed", "_law_many"] (spDraw) := ⟨_, d14, g14, F14.kp, b14, okDraw (k := 0) F14⟩
  have aMixed : Has P w K mg base 2 "_law_mixed" ["_law_feed", "_law_items"] (spMixed K) := ⟨_, d15, g15, F15.kp, b15, okMixed (k := 0) F15 B aDraw⟩
  have aPick : Has P w K mg base 2 "_law_pick" ["_law_feed", "_law_items"] (spPick K) := ⟨_, d16, g16, F16.kp, b16, okPick (k := 0) F16 B.len aDraw⟩
  have aOuts : Has P w K mg base 1 "_law_outs" [] (spOuts) := ⟨_, d17, g17, F17.kp, b17, okOuts (k := 0) F17⟩
  have aCalls : Has P w K mg base 1 "_law_calls" [] (spCalls) := ⟨_, d18, g18, F18.kp, b18, okCalls (k := 0) F18⟩
  have aText : Has P w K mg base 3 "_law_some_text" ["_law_feed"] (spText) := ⟨_, d19, g19, F19.kp, b19, okTxt (k := 0) F19 aDraw aPick aCalls⟩
  have aAns : Has P w K mg base 4 "_law_some_answer" ["_law_feed"] (spAns) := ⟨_, d20, g20, F20.kp, b20, KS.La.okAns (k := 0) F20 aDraw aText⟩
  have aParts : Has P w K mg base 4 "_law_some_parts" ["_law_feed"] (spParts K) := ⟨_, d21, g21, F21.kp, b21, okSomeParts (k := 0) F21 B aDraw aText⟩
  have aTree : Has P w K mg base 11 "_law_some_tree" ["_law_feed", "_law_keys", "_law_outs_here", "_law_deep"] (spTree K 6) := ⟨_, d22, g22, F22.kp, b22, okTree (k := 0) F22 g22 b22 B aDraw aPick aMixed aParts aAns 6 (by decide)⟩
  have aSame : Has P w K mg base 2 "_law_same" ["_law_found", "_law_due"] (spSame K 1) := ⟨_, d23, g23, F23.kp, b23, okSame F23 g23 B 1 0⟩
  have aWord : ∀ n : Nat, Has P w K mg base 1 "_law_is_word" ["_law_value"] (spIs K n isNm) := fun n => ⟨_, d24, g24, F24.kp, b24, okWord (k := 0) F24 B⟩
  have aLine : ∀ n : Nat, Has P w K mg base 1 "_law_is_line" ["_law_value"] (spIt K n isTx) := fun n => ⟨_, d25, g25, F25.kp, b25, okLine (k := 0) F25 B⟩
  have aNum : ∀ n : Nat, Has P w K mg base 1 "_law_is_number" ["_law_value"] (spIs K n isIn) := fun n => ⟨_, d26, g26, F26.kp, b26, okNumber (k := 0) F26 B⟩
  have aPart : ∀ n : Nat, Has P w K mg base 2 "_law_is_part" ["_law_value"] (spIt K n isPt) := fun n => ⟨_, d27, g27, F27.kp, b27, okPart (k := 0) F27 B aLine aNum⟩
  have aKeys : Has P w K mg base 2 "_law_are_keys" ["_law_value"] (spIs K 60 areKy) := ⟨_, d28, g28, F28.kp, b28, okAreKeys (k := 0) (by decide) F28 B (fre _ (by decide +kernel)) aWord⟩
  have aCase : ∀ n : Nat, Has P w K mg base 2 "_law_is_case" ["_law_value", "_law_many"] (spCase K n) := fun n => ⟨_, d29, g29, F29.kp, b29, KS.La.okCase (k := 0) F29 B aLine⟩
  have aNode : Has P w K mg base 4 "_law_is_node" ["_law_node", "_law_written"] (spNodeL K 60) := ⟨_, d30, g30, F30.kp, b30, okNodeL (k := 0) (by decide) F30 B (fun n => hasMono (aWord n) (by decide)) (fun n => hasMono (aPart n) (by decide)) (hasMono aKeys (by decide)) (fun n => hasMono (aCase n) (by decide))⟩
  have aFirst : Has P w K mg base 65 "_law_first_fault" ["_law_node", "_law_path", "_law_written"] (spFF K 60) := ⟨_, d31, g31, F31.kp, b31, okFF F31 g31 B 60 0 (by decide) aNode⟩
  have aOdd : Has P w K mg base 3 "_law_odd_value" ["_law_feed"] (spOdd K) := ⟨_, d32, g32, F32.kp, b32, okOdd (k := 0) F32 aPick⟩
  have aSp1 : Has P w K mg base 24 "_law_spoilt" ["_law_feed", "_law_value"] (spSpoilt K 5 20) := ⟨_, d33, g33, F33.kp, b33, okSpoilt 5 (by decide) (by decide) (k := 0) F33 g33 b33 B aDraw aOdd 20 (by decide)⟩
  have aSp2 : Has P w K mg base 27 "_law_spoilt" ["_law_feed", "_law_value"] (spSpoilt K 6 23) := ⟨_, d33, g33, F33.kp, b33, okSpoilt 6 (by decide) (by decide) (k := 0) F33 g33 b33 B aDraw aOdd 23 (by decide)⟩
  have aRef1 : Has P w K mg base 9 "_law_refused" ["_law_node"] (spRef K 144) := ⟨_, d34, g34, F34.kp, b34, okRef (k := 4) (by decide) F34 B T C1 (glo _ (by decide +kernel)) p6 p5⟩
  have aRef2 : Has P w K mg base 9 "_law_refused" ["_law_node"] (spRef K 60) := ⟨_, d34, g34, F34.kp, b34, okRef (k := 4) (by decide) F34 B T C1 (glo _ (by decide +kernel)) p6 p5⟩
  exact okLaw F B (hasMono aFeed (by decide)) (hasMono aDraw (by decide)) (hasMono aSame (by decide)) (hasMono aRef1 (by decide)) (hasMono aRef2 (by decide)) (hasMono aTree (by decide)) (hasMono aOuts (by decide)) (hasMono aSp1 (by decide)) (hasMono aSp2 (by decide)) aFirst
end
end KS.La

set_option Elab.async false
set_option linter.all false
set_option maxRecDepth 100000
set_option maxHeartbeats 0
open PySem PySem.W PySem.Calls PyProof.Rows
theorem PySem.Challenge.cw_farenough_k05_trees_that_are_refused_holds : PySem.Challenge.rw_farenough_k05_trees_that_are_refused.Holds := by
  w_on; o_law
  refine HandSHeadRun.head_any (r := OpenLaw.row PySem.Challenge.rw_farenough_k05_trees_that_are_refused) (q := view (OpenLaw.row PySem.Challenge.rw_farenough_k05_trees_that_are_refused).prog [48]) (H := KS.La.hk) (ob := KS.La.ob) (M := 20000) (loose := KS.La.loose)
    (d := HandSHeadRun.topDef (OpenLaw.row PySem.Challenge.rw_farenough_k05_trees_that_are_refused).prog 48) (kwd := []) KS.La.ob_eq
    (by kernel_rfl) (fun s => by kernel_rfl) KS.La.run (by kernel_rfl) (by kernel_rfl) (by kernel_rfl) (by rfl) (by first | assumption | decide +kernel) (by decide +kernel) ⟨rfl, rfl, rfl, rfl, rfl, by decide +kernel⟩ ?hw ?hc
  case hw => w_witness2
  case hc =>
    refine L2.walk_ofE (l := PySem.Challenge.rw_farenough_k05_trees_that_are_refused) (n := 63) (k := 66) (x := "_law_script") (CX := L2.CX0) rfl (by decide) (by kernel_rfl) ⟨rfl, by decide, by decide⟩ ?F (fun _ _ _ _ z => z)
    intro w mg fa h Y G hmg0
    obtain ⟨K, KX, y⟩ := Y
    have hmg : mg ("law" : PySem.Str) = some (.ref fa) := by
      have e : (HandSHeadRun.topDef (OpenLaw.row PySem.Challenge.rw_farenough_k05_trees_that_are_refused).prog 48).name = ("law" : PySem.Str) := by kernel_rfl
      rw [← e]
      exact hmg0
    obtain ⟨fd, hb, hF⟩ := KS.La.facts (P := (PySem.Challenge.rw_farenough_k05_trees_that_are_refused).prog) (w := w) KX G hmg y
    exact ⟨K, fd, KS.La.spLaw K, KX, hb, fun H a ns hl _ hS => ⟨a, ns, rfl, hS, hl, fun _ => rfl⟩, hF⟩


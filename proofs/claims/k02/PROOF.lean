import PyProof.Rows.All
import HandS.TupSets
import HandS.Strs
import HandS.Dict
import HandS.Codes
import PyProof.MeetsSeq2
import HandS.ForMost
import HandS.Style
import HandS.IsInst
import HandS.Zip
import HandS.TupAny
import HandS.Defaults
import PySem.Challenge.RW_farenough_k02_keys_steps_and_places
import HandS.StrMore
import PyProof.Rows.StrJoinRep
import KE.KStateDown
import HandS.More
import HandS.Head0
import HandS.Head1
import HandS.Head2
import HandS.HeadEnd
import HandS.HeadHook2
set_option Elab.async false
set_option linter.all false
set_option maxRecDepth 100000
/-! the table of a set with at most four tuples of texts -/
namespace S4
open PySem PySem.Spec PyProof.Rows L2

abbrev Tx (P : Program) (w : World) (h : Heap) (k : List Str) (a : Addr) : Prop := IsTupleKey (PySem.strKind P w) h k a
abbrev hx (P : Program) (w : World) (k : List Str) : Int := tupleKeyHash (PySem.strKind P w) k

/-- the c-th state of the way of a hash -/
def N (t : SetTable) (g : Int) (c : Nat) : SetTable.Probe := nth t.mask (runAt t.mask (SetTable.bits g % (t.mask + 1)) (SetTable.bits g)) c
theorem N_add (t : SetTable) (g : Int) (c q : Nat) : nth t.mask (N t g c) q = N t g (c + q) := (nth_add t.mask c _ q).symm
theorem N_j (t : SetTable) (g : Int) (c : Nat) : (N t g c).j = way t.mask g c := rfl
theorem N_none (t : SetTable) (g : Int) : ∀ c, (N t g c).dummy = none
  | 0 => rfl
  | c + 1 => by
    have e : N t g (c + 1) = adv t.mask (N t g c) := nth_succ _ _ _
    have ih := N_none t g c
    rw [e]
    unfold adv
    split <;> exact ih

structure Tab (P : Program) (w : World) (h : Heap) (a : Addr) (L : List (Addr × List Str)) (es : Array (Int × Value)) (ep : Nat) (t : SetTable) : Prop where
  obj : ∃ o, h.get? a = some o ∧ o.ExactSet ∧ o.data = .set es ep t
  ents : es.toList = L.map fun q => (hx P w q.2, Value.ref q.1)
  ok : TabOk t (L.map fun q => hx P w q.2)
  diff : (L.map (·.2)).Nodup
  mem : ∀ q ∈ L, Tx P w h q.2 q.1
  m7 : t.mask = 7
  four : L.length ≤ 4

section
variable {P : Program} {w : World} {A : Around} {E : Value → Shared → Prop} {s : Shared}
variable {a : Addr} {L : List (Addr × List Str)} {es : Array (Int × Value)} {ep : Nat} {t : SetTable}

theorem Tab.size {h : Heap} (R : Tab P w h a L es ep t) : es.size = L.length := by
  rw [← Array.length_toList, R.ents, List.length_map]
theorem Tab.place {h : Heap} (R : Tab P w h a L es ep t) : t.place.size = L.length := by
  rw [R.ok.sz, List.length_map]
theorem Tab.fits {h : Heap} (R : Tab P w h a L es ep t) : t.fits es.size = true := by
  have h1 := R.place
  have h2 := R.size
  have h3 := R.four
  have h4 := R.m7
  unfold SetTable.fits SetTable.fill
  rw [R.ok.dm, Bool.and_eq_true, beq_iff_eq, decide_eq_true_eq]
  refine ⟨h1.trans h2.symm, ?_⟩
  show t.place.size + 0 ≤ t.mask
  omega
theorem Tab.ent {h : Heap} (R : Tab P w h a L es ep t) {i : Nat} {q : Addr × List Str} (e : L[i]? = some q) : es[i]? = some (hx P w q.2, Value.ref q.1) := by
  rw [← Array.getElem?_toList, R.ents, List.getElem?_map, e]
  rfl
theorem Tab.at {h : Heap} (R : Tab P w h a L es ep t) {i j : Nat} (e : t.place.toList[i]? = some j) : ∃ q, L[i]? = some q := by
  have h1 : i < t.place.toList.length := (List.getElem?_eq_some_iff.mp e).1
  rw [Array.length_toList, R.place] at h1
  exact ⟨_, List.getElem?_eq_getElem h1⟩

/-- what a probe from the c-th state meets -/
theorem Tab.meets {h : Heap} (R : Tab P w h a L es ep t) (k : List Str) {K : Nat} (kf : K < 10 * SetTable.turns t.mask)
    (ke : way t.mask (hx P w k) K ∉ t.place.toList) (kb : ∀ c, c < K → way t.mask (hx P w k) c ∈ t.place.toList) {c : Nat} (hc : c ≤ K) :
    (∃ (d i : Nat) (q : Addr × List Str), c ≤ d ∧ d < K ∧ t.place.toList[i]? = some (way t.mask (hx P w k) d) ∧ L[i]? = some q ∧
      (∀ (d' i' : Nat) (q' : Addr × List Str), c ≤ d' → d' < d → t.place.toList[i']? = some (way t.mask (hx P w k) d') → L[i']? = some q' → q'.2 ≠ k) ∧
      t.probe (fun i : Nat => (es[i]?.map (·.1)).getD 0) (hx P w k) (N t (hx P w k) c) = some (.candidate (way t.mask (hx P w k) d) i (N t (hx P w k) (d + 1)))) ∨
    ((∀ (d' i' : Nat) (q' : Addr × List Str), c ≤ d' → d' < K → t.place.toList[i']? = some (way t.mask (hx P w k) d') → L[i']? = some q' → q'.2 ≠ k) ∧
      t.probe (fun i : Nat => (es[i]?.map (·.1)).getD 0) (hx P w k) (N t (hx P w k) c) = some (.empty (way t.mask (hx P w k) K) none)) := by
  have wj : ∀ q, (nth t.mask (N t (hx P w k) c) q).j = way t.mask (hx P w k) (c + q) := fun q => congrArg SetTable.Probe.j (N_add t (hx P w k) c q)
  have hat : ∀ (i : Nat) (q : Addr × List Str), L[i]? = some q → (fun i : Nat => (es[i]?.map (·.1)).getD 0) i = hx P w q.2 := fun i q e => by
    show (es[i]?.map (·.1)).getD 0 = _
    rw [R.ent e]
    rfl
  have ck : c + (K - c) = K := by omega
  have apart : ∀ (d i' : Nat) (q' : Addr × List Str), (∀ k' i', k' < d → t.place.toList[i']? = some (nth t.mask (N t (hx P w k) c) k').j → (fun i : Nat => (es[i]?.map (·.1)).getD 0) i' ≠ hx P w k) →
      ∀ d', c ≤ d' → d' < c + d → t.place.toList[i']? = some (way t.mask (hx P w k) d') → L[i']? = some q' → q'.2 ≠ k := fun d i' q' hno d' h1 h2 h3 h4 e => by
    refine hno (d' - c) i' (by omega) ?_ ?_
    · rw [wj, show c + (d' - c) = d' by omega]
      exact h3
    · rw [hat i' q' h4, e]
  rcases go_spec t R.ok.ris R.ok.dm (fun i : Nat => (es[i]?.map (·.1)).getD 0) (hx P w k) (10 * SetTable.turns t.mask) (K - c) (N t (hx P w k) c) (N_none _ _ _) (by omega)
    (fun q hq => by rw [wj]; exact kb _ (by omega)) (by rw [wj, ck]; exact ke) with ⟨q, i, h1, h2, h3, h4, h5⟩ | ⟨h1, h2⟩
  · refine .inl ?_
    obtain ⟨z, hz⟩ := R.at h2
    refine ⟨c + q, i, z, Nat.le_add_right _ _, by omega, by rw [← wj]; exact h2, hz, fun d' i' q' => (fun a b c d => apart q i' q' h4 d' a b c d), ?_⟩
    rw [← wj]
    have e : N t (hx P w k) (c + q + 1) = nth t.mask (N t (hx P w k) c) (q + 1) := (N_add t (hx P w k) c (q + 1)).symm
    rw [e]
    exact h5
  · refine .inr ⟨fun d' i' q' a b => apart (K - c) i' q' h1 d' a (by omega), ?_⟩
    have e : way t.mask (hx P w k) K = (nth t.mask (N t (hx P w k) c) (K - c)).j := by rw [wj, ck]
    rw [e]
    exact h2

/-! questions asked of tuples of texts -/
theorem all_str {k : List Str} {vs : List Value} (h : ItemsAre (PySem.strKind P w) k vs) : ∀ v ∈ vs, ∃ x y, v = Value.str x y := by
  induction h with
  | nil => exact fun v hv => absurd hv (by simp)
  | @cons k0 v' ks vs h1 _ ih =>
    intro v hv
    rcases List.mem_cons.mp hv with e | hv
    · obtain ⟨y, e2⟩ := Value.isStrOf_shape h1
      exact ⟨k0, y, e.trans e2⟩
    · exact ih v hv
theorem stm_str (n : Nat) (x : Str) (y : Tok) : ofAClassStatement n (.str x y) = pure false := by
  cases n <;> rfl
theorem hbv_str (n : Nat) (x : Str) (y : Tok) : hashByValue n (.str x y) = pure false := by
  cases n <;> rfl
theorem stm_tx {k : List Str} {b : Addr} {Q : Bool → Shared → Prop} (hk : Tx P w s.heap k b) (h : Q false s) : wpAny (model P w) A (ofAClassStatement 8 (.ref b)) Q E s := by
  have hT := hk.typeIs
  obtain ⟨o, items, n, ho, _, hd, hi⟩ := hk
  unfold ofAClassStatement
  refine wpAny_bind (wpAny_typeOf hT ?_)
  dsimp only
  have e : (("tuple" : String) == "tuple") = true := by decide
  simp only [e, if_true, Bool.not_true, Bool.false_eq_true, if_false]
  try refine wpAny_bind (wpAny_pure ?_)
  try simp only [Bool.not_true, Bool.false_eq_true, if_false]
  show wpAny _ _ (seqItems? (.ref b) >>= _) _ _ s
  refine wpAny_bind (wpAny_seqItems ho hd ?_)
  dsimp only
  refine wpAny_bind ?_
  show wpAny _ _ (forIn items _ _) _ _ s
  rw [← Array.forIn_toList]
  refine wpAny_forIn_list _ (fun rest r s' => r.1 = none ∧ s' = s ∧ ∀ v ∈ rest, ∃ x y, v = Value.str x y) _ (fun v rest r s' z => ?_) (fun r s' z => ?_) _ _ ⟨rfl, rfl, all_str hi⟩
  · obtain ⟨z1, rfl, z3⟩ := z
    obtain ⟨x, y, rfl⟩ := z3 v List.mem_cons_self
    rw [stm_str]
    refine wpAny_bind (wpAny_pure ?_)
    simp only [Bool.false_eq_true, if_false]
    exact wpAny_pure ⟨rfl, rfl, fun u hu => z3 u (List.mem_cons_of_mem _ hu)⟩
  · obtain ⟨r1, r2⟩ := r
    obtain ⟨z1, rfl, _⟩ := z
    simp only at z1
    subst z1
    exact wpAny_pure h
theorem hbv_tx {k : List Str} {b : Addr} {Q : Bool → Shared → Prop} (hk : Tx P w s.heap k b) (h : ∀ v, Q v s) : wpAny (model P w) A (hashByValue 8 (.ref b)) Q E s := by
  have hT := hk.typeIs
  obtain ⟨o, items, n, ho, _, hd, hi⟩ := hk
  unfold hashByValue
  refine wpAny_bind (wpAny_specialOf hT F.slot_tuple_hash.lookup ?_)
  show wpAny _ _ (seqItems? (.ref b) >>= _) _ _ s
  refine wpAny_bind (wpAny_seqItems ho hd ?_)
  refine wpAny_bind ?_
  show wpAny _ _ (forIn items _ _) _ _ s
  rw [← Array.forIn_toList]
  refine wpAny_forIn_list _ (fun rest r s' => r.1 = none ∧ s' = s ∧ ∀ v ∈ rest, ∃ x y, v = Value.str x y) _ (fun v rest r s' z => ?_) (fun r s' z => ?_) _ _ ⟨rfl, rfl, all_str hi⟩
  · obtain ⟨z1, rfl, z3⟩ := z
    obtain ⟨x, y, rfl⟩ := z3 v List.mem_cons_self
    rw [hbv_str]
    refine wpAny_bind (wpAny_pure ?_)
    simp only [Bool.not_false, if_true]
    exact wpAny_pure (wpAny_pure (h false))
  · obtain ⟨r1, r2⟩ := r
    obtain ⟨z1, rfl, _⟩ := z
    simp only at z1
    subst z1
    exact wpAny_pure (h true)
theorem unseen {k : List Str} {b : Addr} {Q : Bool → Shared → Prop} (hk : Tx P w s.heap k b) {ys : List Value} (hy : ∀ y ∈ ys, ∃ q : Addr × List Str, y = Value.ref q.1 ∧ Tx P w s.heap q.2 q.1) (h : Q false s) :
    wpAny (model P w) A (searchCouldBeSeen (.ref b) ys) Q E s := by
  unfold searchCouldBeSeen
  refine wpAny_bind (wpAny_forIn_list _ (fun rest r s' => r.1 = none ∧ s' = s ∧ ∀ y ∈ rest, ∃ q : Addr × List Str, y = Value.ref q.1 ∧ Tx P w s.heap q.2 q.1) _ (fun v rest r s' z => ?_) (fun r s' z => ?_) _ _ ⟨rfl, rfl, hy⟩)
  · obtain ⟨z1, rfl, z3⟩ := z
    obtain ⟨q, rfl, hc⟩ := z3 v List.mem_cons_self
    have more : ∀ y ∈ rest, ∃ q : Addr × List Str, y = Value.ref q.1 ∧ Tx P w s'.heap q.2 q.1 := fun u hu => z3 u (List.mem_cons_of_mem _ hu)
    dsimp only
    by_cases hv : (b == q.1 || (carriedByValue (.ref b) && carriedByValue (.ref q.1))) = true
    · exact wp_if_pos hv (wpAny_pure ⟨rfl, rfl, more⟩)
    · refine wp_if_neg hv ?_
      refine wpAny_bind (wpAny_eqIsQuiet_tuple hk ?_)
      simp only [Bool.not_true, Bool.false_eq_true, if_false]
      refine wpAny_bind (wpAny_eqIsQuiet_tuple hc ?_)
      simp only [Bool.not_true, Bool.false_eq_true, if_false]
      refine wpAny_bind (stm_tx hk ?_)
      simp only [Bool.false_eq_true, if_false]
      refine wpAny_bind (stm_tx hc ?_)
      simp only [Bool.false_eq_true, if_false]
      exact wpAny_pure ⟨rfl, rfl, more⟩
  · obtain ⟨r1, r2⟩ := r
    obtain ⟨z1, rfl, _⟩ := z
    simp only at z1
    subst z1
    exact wpAny_pure h

/-- the search, from the c-th state on -/
theorem Tab.look (R : Tab P w s.heap a L es ep t) {x : Addr} {k : List Str} (hk : Tx P w s.heap k x) (hu : A.units < cLine) {K : Nat} (kf : K < 10 * SetTable.turns t.mask)
    (ke : way t.mask (hx P w k) K ∉ t.place.toList) (kb : ∀ c, c < K → way t.mask (hx P w k) c ∈ t.place.toList) {Q : SetFound → Shared → Prop}
    (yes : k ∈ L.map (·.2) → Q (.there none) s) (no : k ∉ L.map (·.2) → Q (.free (way t.mask (hx P w k) K) false) s) :
    ∀ (f c : Nat) (stand : Option SetTable.Probe), stand.getD (t.probeStart (hx P w k)) = N t (hx P w k) c → c ≤ K → K - c < f →
      (∀ (i : Nat) (q : Addr × List Str), L[i]? = some q → q.2 = k → ∃ c', c ≤ c' ∧ c' < K ∧ t.place.toList[i]? = some (way t.mask (hx P w k) c')) →
      wpAny (model P w) A (setSearchFrom a (.ref x) (hx P w k) true f stand) Q E s
  | 0, c, stand, _, _, hf, _ => absurd hf (Nat.not_lt_zero _)
  | f + 1, c, stand, hst, hc, hf, hre => by
    obtain ⟨o, ho, hex, hd⟩ := R.obj
    have live : ∀ {i j : Nat}, t.place.toList[i]? = some j → t.slot j = .live i := fun e => slot_live R.ok.ris e
    have gw : ¬ t.gaveWay = true := by
      unfold SetTable.gaveWay
      rw [R.m7]
      decide
    rw [setSearchFrom_succ]
    refine wpAny_bind (wpAny_setState_of ho hd R.fits ?_)
    dsimp only
    refine wp_if_neg gw ?_
    try refine wpAny_bind (wpAny_pure ?_)
    rw [hst]
    rcases R.meets k kf ke kb hc with ⟨d, i, q, d1, d2, d3, d4, d5, d6⟩ | ⟨d5, d6⟩
    · rw [d6]
      dsimp only
      have hq := R.mem q (List.mem_of_getElem? d4)
      have tail : wpAny (model P w) A (searchRest a (.ref x) (hx P w k) true f es t (way t.mask (hx P w k) d) i (N t (hx P w k) (d + 1))) Q E s := by
        unfold searchRest
        rw [R.ent d4]
        dsimp only
        refine wpAny_bind (wpAny_holding (wpAny_eqBool_tuple hu hq hk ?_))
        refine wpAny_bind (wpAny_setState_of ho hd R.fits ?_)
        dsimp only
        by_cases e : q.2 = k
        · exact wp_if_pos (by simp [e]) (wpAny_pure (yes (List.mem_map.mpr ⟨q, List.mem_of_getElem? d4, e⟩)))
        · refine wp_if_neg (by simp [e]) ?_
          try refine wpAny_bind (wpAny_pure ?_)
          rw [sameMem]
          dsimp only
          simp only [if_true, live d3, R.ent d4]
          refine wpAny_bind (wpAny_isSame_ref_self (wpAny_bind (wpAny_pure ?_)))
          simp only [if_true]
          refine wp_if_neg (by simp [e]) ?_
          refine Tab.look R hk hu kf ke kb yes no f (d + 1) _ rfl (by omega) (by omega) fun i0 q0 h0 e0 => ?_
          obtain ⟨c', a1, a2, a3⟩ := hre i0 q0 h0 e0
          refine ⟨c', ?_, a2, a3⟩
          rcases Nat.lt_trichotomy c' d with z | z | z
          · exact absurd e0 (d5 c' i0 q0 a1 z a3 h0)
          · rw [z] at a3
            have s0 := (live a3).symm.trans (live d3)
            injection s0 with s0
            rw [s0, d4] at h0
            exact absurd ((congrArg Prod.snd (Option.some.inj h0)).trans e0) e
          · exact z
      by_cases hl : t.led = true
      · refine wp_if_neg (by simp [hl]) ?_
        try refine wpAny_bind (wpAny_pure ?_)
        exact tail
      · refine wp_if_pos (by simp [hl]) ?_
        refine wpAny_bind (unseen hk (fun y hy => ?_) ?_)
        · obtain ⟨e, he, ee⟩ := List.mem_map.mp hy
          have he1 : e ∈ es.toList := by
            have z : e ∈ es ∧ e.1 = hx P w k := by simpa using he
            simpa using z.1
          rw [R.ents] at he1
          obtain ⟨q2, hq2, e2⟩ := List.mem_map.mp he1
          exact ⟨q2, by rw [← ee, ← e2], R.mem q2 hq2⟩
        · refine wp_if_neg (by decide) ?_
          try refine wpAny_bind (wpAny_pure ?_)
          exact tail
    · rw [d6]
      dsimp only
      refine wpAny_pure (no fun hm => ?_)
      obtain ⟨q0, h0, e0⟩ := List.mem_map.mp hm
      obtain ⟨i0, l0, g0⟩ := List.getElem_of_mem h0
      have h00 : L[i0]? = some q0 := by rw [List.getElem?_eq_getElem l0, g0]
      obtain ⟨c', a1, a2, a3⟩ := hre i0 q0 h00 e0
      exact d5 c' i0 q0 a1 a2 a3 h00 e0
end
end S4

set_option Elab.async false
set_option linter.all false
set_option maxRecDepth 100000
/-! at most four put in -/
namespace S4
open PySem PySem.Spec PyProof.Rows L2
section
variable {P : Program} {w : World} {A : Around} {E : Value → Shared → Prop} {s : Shared}
variable {a : Addr} {L : List (Addr × List Str)} {es : Array (Int × Value)} {ep : Nat} {t : SetTable}

theorem Tx.old {h h' : Heap} {k : List Str} {b : Addr} (x : Tx P w h k b) (hk : ∀ o, h.get? b = some o → h'.get? b = some o) : Tx P w h' k b := by
  obtain ⟨o, items, n, ho, r⟩ := x
  exact ⟨o, items, n, hk o ho, r⟩
theorem Tx.but {h h' : Heap} {k : List Str} {a b : Addr} {o : Obj} {es : Array (Int × Value)} {ep : Nat} {t : SetTable} (x : Tx P w h k b) (ho : h.get? a = some o) (hd : o.data = .set es ep t) (hs : Heap.SameBut a h h') : Tx P w h' k b := by
  refine x.old fun o' e => (hs.2 b fun z => ?_).trans e
  obtain ⟨o2, items, n, h2, _, d2, _⟩ := x
  rw [z, ho] at h2
  rw [← Option.some.inj h2, hd] at d2
  exact nomatch d2

/-- SetState after a search for adding -/
theorem Tab.seek (R : Tab P w s.heap a L es ep t) {x : Addr} {k : List Str} (hk : Tx P w s.heap k x) (hu : A.units < cLine) {Q : SetFound → Shared → Prop}
    (yes : k ∈ L.map (·.2) → Q (.there none) s)
    (no : ∀ K, k ∉ L.map (·.2) → way t.mask (hx P w k) K ∉ t.place.toList → (∀ c, c < K → way t.mask (hx P w k) c ∈ t.place.toList) → Q (.free (way t.mask (hx P w k) K) false) s) :
    wpAny (model P w) A (setSearch a (.ref x) (hx P w k) true) Q E s := by
  have h4 := R.four
  have h7 := R.m7
  obtain ⟨K, kf, ke, kb⟩ := R.ok.first (by rw [List.length_map]; omega) (hx P w k)
  have hK : K < 100000 := by
    have : 10 * SetTable.turns t.mask ≤ 1000 := by
      unfold SetTable.turns
      omega
    omega
  unfold setSearch
  refine R.look hk hu kf ke kb yes (fun z => no K z ke kb) 100000 0 none rfl (Nat.zero_le _) (by omega) fun i q e0 e1 => ?_
  have hi : (L.map fun q => hx P w q.2)[i]? = some (hx P w k) := by rw [List.getElem?_map, e0, ← e1] <;> rfl
  have hl : i < t.place.toList.length := by
    have h1 : i < L.length := (List.getElem?_eq_some_iff.mp e0).1
    rw [Array.length_toList, R.place]
    exact h1
  have hj := List.getElem?_eq_getElem hl
  obtain ⟨c, hc, e⟩ := R.ok.before ke hi hj
  exact ⟨c, Nat.zero_le _, hc, by rw [hj, e]⟩

/-- one more, while there is room for four -/
theorem Tab.add (R : Tab P w s.heap a L es ep t) {x : Addr} {k : List Str} (hk : Tx P w s.heap k x) (hu : A.units < cLine) (few : L.length < 4) {Q : Bool → Shared → Prop}
    (hQ : ∀ b h' L' es' ep' t', Heap.SameBut a s.heap h' → Tab P w h' a L' es' ep' t' → (k ∈ L.map (·.2) → L' = L) → (k ∉ L.map (·.2) → L'.Perm ((x, k) :: L)) → Q b { s with heap := h' }) :
    wpAny (model P w) A (setAddHashed a (.ref x) (hx P w k)) Q E s := by
  obtain ⟨o, ho, hex, hd⟩ := R.obj
  have h7 := R.m7
  unfold setAddHashed
  refine wpAny_holding ?_
  rw [show (100000 : Nat) = 99999 + 1 from rfl, setAddHashedIn_succ]
  refine wpAny_bind (wpAny_setState_of ho hd R.fits ?_)
  dsimp only
  refine wp_if_neg (by simp [byScan, Value.scannable]) ?_
  try refine wpAny_bind (wpAny_pure ?_)
  refine wpAny_bind (R.seek hk hu (fun hm => ?_) fun K hm ke kb => ?_)
  · dsimp only
    exact wpAny_pure (hQ false s.heap L es ep t (Heap.SameBut.refl a s.heap) R (fun _ => rfl) fun z => absurd hm z)
  dsimp only
  refine wpAny_bind (wpAny_setState_of ho hd R.fits ?_)
  dsimp only
  obtain ⟨q1, q2, q3, q4, q5, q6, q7, q8, q9⟩ := R.ok.put ke kb
  generalize hpt : t.put (way t.mask (hx P w k) K) = pt at q1 q3 q4 q5 q6 q7 q8 q9 ⊢
  obtain ⟨t1, p⟩ := pt
  dsimp only at q1 q3 q4 q5 q6 q7 q8 q9 ⊢
  subst q1
  generalize hpp : SetTable.below t.place (way t.mask (hx P w k) K) = p at q2 q3 ⊢
  rw [List.length_map] at q2 q9
  have pm : (L.take p ++ (x, k) :: L.drop p).Perm ((x, k) :: L) := put_perm L p (x, k)
  have hlen : (L.take p ++ (x, k) :: L.drop p).length = L.length + 1 := pm.length_eq
  have hents : (SetTable.insertAt es p (hx P w k, Value.ref x)).toList = (L.take p ++ (x, k) :: L.drop p).map fun q => (hx P w q.2, Value.ref q.1) := by
    rw [SetTable.toList_insertAt, R.ents, List.map_append, List.map_cons, List.map_take, List.map_drop]
  have hhs : (L.take p ++ (x, k) :: L.drop p).map (fun q => hx P w q.2) = (L.map fun q => hx P w q.2).take p ++ hx P w k :: (L.map fun q => hx P w q.2).drop p := by
    rw [List.map_append, List.map_cons, List.map_take, List.map_drop]
  rw [← hhs] at q3
  have nd1 : ((L.take p ++ (x, k) :: L.drop p).map (·.2)).Nodup := by
    refine (pm.map (·.2)).nodup_iff.mpr ?_
    rw [List.map_cons]
    exact List.nodup_cons.mpr ⟨hm, R.diff⟩
  have hes : (SetTable.insertAt es p (hx P w k, Value.ref x)).size = L.length + 1 := by
    rw [← Array.length_toList, hents, List.length_map, hlen]
  generalize SetTable.insertAt es p (hx P w k, Value.ref x) = es1 at hents hes ⊢
  generalize L.take p ++ (x, k) :: L.drop p = L1 at pm hlen q3 nd1 hents
  have fin : ∀ t2 : SetTable, t2.place = t1.place → t2.dummies = t1.dummies → t2.mask = t1.mask →
      wpAny (model P w) A (do
        storeSet a es1 t2
        if (!false && t2.tooFull) = true then setRelay a (SetTable.grown (es.size + 1))
        return true) Q E s := fun t2 e1 e2 e3 => by
    refine wpAny_bind (wpAny_storeSet_of ho hd ?_ (by rw [hes, sizeLine_eq]; omega))
    have sb : Heap.SameBut a s.heap (s.heap.update a (Obj.putSet es1 t2)) := Heap.SameBut.update ..
    have ho1 := store_at (es' := es1) (t' := t2) ho hd
    generalize s.heap.update a (Obj.putSet es1 t2) = h1 at sb ho1 ⊢
    have full : ¬ t2.tooFull = true := by
      unfold SetTable.tooFull
      rw [decide_eq_true_eq]
      have e4 : t2.fill = t1.fill := by
        unfold SetTable.fill
        rw [e1, e2]
      rw [e4, q9, e3, q4, h7]
      omega
    have okT : TabOk t2 (L1.map fun q => hx P w q.2) := by
      obtain ⟨b1, b2, b3, b4, b5, b6⟩ := q3
      exact ⟨by rw [e1]; exact b1, by rw [e2]; exact b2, by rw [e1]; exact b3, by rw [e3]; exact b4, by rw [e1, e3]; exact b5, by rw [e1, e3]; exact b6⟩
    have T1 : Tab P w h1 a L1 es1 (ep + 1) t2 := by
      refine ⟨⟨_, ho1, ⟨hex.1, hex.2.1, hex.2.2⟩, rfl⟩, hents, okT, nd1, fun q hq => ?_, by rw [e3, q4]; exact h7, by rw [hlen]; omega⟩
      rcases List.mem_cons.mp (pm.mem_iff.mp hq) with e | hq
      · rw [e]; exact hk.but ho hd sb
      · exact (R.mem q hq).but ho hd sb
    first
      | refine wp_if_neg (by simp [full]) ?_
      | (refine wpAny_bind ?_; refine wp_if_neg (by simp [full]) ?_; refine wpAny_pure ?_)
    exact wpAny_pure (hQ true h1 L1 es1 (ep + 1) t2 sb T1 (fun z => absurd z hm) fun _ => pm)
  by_cases hp : t1.plain = true
  · first
      | (refine wpAny_bind ?_; refine wp_if_pos hp ?_; refine hbv_tx hk fun v => ?_)
      | refine wp_if_pos hp (wpAny_bind (hbv_tx hk fun v => ?_))
    cases v with
    | true => exact fin t1 rfl rfl rfl
    | false => exact fin { t1 with plain := false } rfl rfl rfl
  · first
      | (refine wpAny_bind ?_; refine wp_if_neg hp ?_; refine wpAny_pure ?_)
      | refine wp_if_neg hp (wpAny_bind (wpAny_pure ?_))
    exact fin t1 rfl rfl rfl
end
end S4

set_option Elab.async false
set_option linter.all false
set_option maxRecDepth 100000
/-! set(t) and len(set(t)), t a tuple of at most four tuples of texts -/
namespace S4
open PySem PySem.Spec PyProof.Rows L2

/-- what is in the set of the first i rows -/
structure Has (ks : List (Addr × List Str)) (i : Nat) (L : List (Addr × List Str)) : Prop where
  sub : ∀ q ∈ L, q ∈ ks.take i
  all : ∀ q ∈ ks.take i, q.2 ∈ L.map (·.2)
  len : L.length ≤ i
  cnt : L.length = i ↔ ((ks.take i).map (·.2)).Nodup
theorem Has.none (ks : List (Addr × List Str)) : Has ks 0 [] :=
  ⟨fun q h => absurd h (by simp), fun q h => absurd h (by simp), Nat.le_refl _, ⟨fun _ => by simp, fun _ => rfl⟩⟩
theorem nodup_snoc {α : Type} {l : List α} {x : α} : (l ++ [x]).Nodup ↔ l.Nodup ∧ x ∉ l := by
  rw [List.nodup_append]
  constructor
  · intro ⟨h1, _, h3⟩
    exact ⟨h1, fun hx => h3 x hx x (List.mem_singleton.mpr rfl) rfl⟩
  · intro ⟨h1, h2⟩
    refine ⟨h1, by simp, fun a ha b hb e => ?_⟩
    rw [List.mem_singleton.mp hb] at e
    rw [e] at ha
    exact h2 ha
theorem Has.skip {ks L : List (Addr × List Str)} {i : Nat} {x : Addr × List Str} (g : Has ks i L) (h : ks[i]? = some x) (hm : x.2 ∈ L.map (·.2)) : Has ks (i + 1) L := by
  have e : ks.take (i + 1) = ks.take i ++ [x] := L2.take_next h
  refine ⟨fun q hq => by rw [e]; exact List.mem_append_left _ (g.sub q hq), fun q hq => ?_, Nat.le_succ_of_le g.len, ⟨fun z => ?_, fun z => ?_⟩⟩
  · rw [e] at hq
    rcases List.mem_append.mp hq with y | y
    · exact g.all q y
    · rw [List.mem_singleton.mp y]; exact hm
  · have := g.len
    omega
  · rw [e, List.map_append] at z
    obtain ⟨q, hq, eq⟩ := List.mem_map.mp hm
    exact absurd (List.mem_map.mpr ⟨q, g.sub q hq, eq⟩) (nodup_snoc.mp z).2
theorem Has.more {ks L L' : List (Addr × List Str)} {i : Nat} {x : Addr × List Str} (g : Has ks i L) (h : ks[i]? = some x) (hm : x.2 ∉ L.map (·.2)) (pm : L'.Perm (x :: L)) : Has ks (i + 1) L' := by
  have e : ks.take (i + 1) = ks.take i ++ [x] := L2.take_next h
  have el : L'.length = L.length + 1 := pm.length_eq
  refine ⟨fun q hq => ?_, fun q hq => ?_, by have := g.len; omega, ?_⟩
  · rw [e]
    rcases List.mem_cons.mp (pm.mem_iff.mp hq) with y | y
    · rw [y]; exact List.mem_append_right _ (List.mem_singleton.mpr rfl)
    · exact List.mem_append_left _ (g.sub q y)
  · rw [(pm.map (·.2)).mem_iff, List.map_cons]
    rw [e] at hq
    rcases List.mem_append.mp hq with y | y
    · exact List.mem_cons_of_mem _ (g.all q y)
    · rw [List.mem_singleton.mp y]; exact List.mem_cons_self
  · have hn : x.2 ∉ (ks.take i).map (·.2) := fun z => by
      obtain ⟨q, hq, eq⟩ := List.mem_map.mp z
      exact hm (eq ▸ g.all q hq)
    rw [e, List.map_append, el]
    show L.length + 1 = i + 1 ↔ (_ ++ [x.2]).Nodup
    rw [nodup_snoc, ← g.cnt]
    constructor
    · intro z
      exact ⟨by omega, hn⟩
    · intro z
      rw [z.1]

section
variable {P : Program} {w : World} {A : Around} {E : Value → Shared → Prop} {s : Shared}
theorem Tab.old {h h' : Heap} {a : Addr} {L : List (Addr × List Str)} {es : Array (Int × Value)} {ep : Nat} {t : SetTable} (R : Tab P w h a L es ep t) (ha : ∀ o, h.get? a = some o → h'.get? a = some o) (hm : ∀ q ∈ L, Tx P w h' q.2 q.1) : Tab P w h' a L es ep t := by
  obtain ⟨o, ho, r⟩ := R.obj
  exact ⟨⟨o, ha o ho, r⟩, R.ents, R.ok, R.diff, hm, R.m7, R.four⟩
theorem Tab.fresh {h : Heap} {a : Addr} (led : Bool) (ho : h.get? a = some { cls := .type "set", dict := none, data := .set #[] 0 (.fresh 0 0 led) }) : Tab P w h a [] #[] 0 (.fresh 0 0 led) :=
  ⟨⟨_, ho, ⟨rfl, rfl, rfl⟩, rfl⟩, rfl, ⟨List.Pairwise.nil, rfl, rfl, .inl rfl, fun x hx => absurd hx (by intro z; cases z), fun i h j hi => absurd hi (by simp)⟩, List.nodup_nil, fun q hq => absurd hq (by simp), rfl, Nat.zero_le _⟩

/-- the loop that fills it -/
theorem fill {I : Addr} {fp wr : List Addr} {G : Array GenState → Array GenState → Prop} {n : Nat} {Pv : Nat → Value → Prop} {St : Nat → Shared → Prop} {R : Result → Shared → Prop}
    (W : WalksS P w A.in1 I fp wr G n Pv St) (S : Addr) (hSf : S ∉ fp) (ks : List (Addr × List Str)) (hn : n = ks.length) (few : ks.length ≤ 4) (hval : ∀ i v, Pv i v → ∃ q, ks[i]? = some q ∧ v = .ref q.1)
    (h0 : Heap) (hk : ∀ q ∈ ks, Tx P w h0 q.2 q.1) (hS0 : h0.get? S = none) (hw0 : ∀ b ∈ wr, h0.get? b = none) (hu : A.in1.units < cLine) :
    ∀ (m i : Nat) (s : Shared), n - i = m → i ≤ n → St i s → (∀ b o, h0.get? b = some o → s.heap.get? b = some o) → (∃ L es ep t, Tab P w s.heap S L es ep t ∧ Has ks i L) →
      (∀ s' L es ep t, Moved (S :: wr) G s s' → Tab P w s'.heap S L es ep t → Has ks n L → (∀ b o, h0.get? b = some o → s'.heap.get? b = some o) → R (.ok (.ret .none)) s') →
      codeAny (model P w) A (.builtin "set.update.loop" ⟨[.ref S, .ref I], []⟩) R s := by
  have hSw : S ∉ wr := fun h => hSf (W.sub _ h)
  have wide : ∀ b ∈ wr, b ∈ S :: wr := fun b hb => List.mem_cons_of_mem _ hb
  have stay : ∀ {s s' : Shared}, Moved wr G s s' → (∀ b o, h0.get? b = some o → s.heap.get? b = some o) → ∀ b o, h0.get? b = some o → s'.heap.get? b = some o := fun hm z b o e =>
    hm.heap b o (fun hb => by rw [hw0 b hb] at e; cases e) (z b o e)
  intro m
  induction m with
  | zero =>
    intro i s hk' hi hst hkp ⟨L, es, ep, t, T, g⟩ hR
    obtain rfl : i = n := by omega
    refine codeAny_builtin F.entry_set_update_loop ?_
    rw [Around.under_plainId F.plain_set_update_loop _]
    show wpAny _ A.in1 (pyNext (.ref I) >>= _) _ _ s
    refine wpAny_bind (W.done s _ _ hst fun s' hm => ?_)
    show wpAny _ A.in1 (ret Value.none) _ _ s'
    have z := stay hm hkp
    exact wpAny_pure (hR s' L es ep t (hm.mono wide) (T.old (fun o e => hm.heap S o hSw e) fun q hq => (hk q (List.mem_of_mem_take (g.sub q hq))).old (z _)) g z)
  | succ m ih =>
    intro i s hk' hi hst hkp ⟨L, es, ep, t, T, g⟩ hR
    have hlt : i < n := by omega
    refine codeAny_builtin F.entry_set_update_loop ?_
    rw [Around.under_plainId F.plain_set_update_loop _]
    show wpAny _ A.in1 (pyNext (.ref I) >>= _) _ _ s
    refine wpAny_bind (W.item i s _ _ hlt hst fun v s' hP hst' hm => ?_)
    obtain ⟨q, hq, rfl⟩ := hval i v hP
    have z := stay hm hkp
    have T' : Tab P w s'.heap S L es ep t := T.old (fun o e => hm.heap S o hSw e) fun q hq => (hk q (List.mem_of_mem_take (g.sub q hq))).old (z _)
    have hx' : Tx P w s'.heap q.2 q.1 := (hk q (List.mem_of_getElem? hq)).old (z _)
    show wpAny _ A.in1 (holding [Value.ref q.1] (setAdd S (.ref q.1)) >>= _) _ _ s'
    refine wpAny_bind (wpAny_holding ?_)
    unfold setAdd
    refine wpAny_holding ?_
    refine wpAny_bind (wpAny_pyHash_tuple hu hx' ?_)
    refine Tab.add (s := { s' with toks := s'.toks + (q.2.length + 1) }) T' hx' hu (by have := g.len; omega) fun b h' L' es' ep' t' sb T2 c1 c2 => ?_
    have g' : Has ks (i + 1) L' := by
      by_cases c : q.2 ∈ L.map (·.2)
      · rw [c1 c]; exact g.skip hq c
      · exact g.more hq c (c2 c)
    have z2 : ∀ b o, h0.get? b = some o → h'.get? b = some o := fun b o e => (sb.2 b (fun y => by rw [y, hS0] at e; cases e)).trans (z b o e)
    refine wpAny_pure ⟨plainId_quiet F.plain_set_update_loop _, ih (i + 1) _ (by omega) hlt (W.frame _ s' _ _ hst' (Nat.le_add_right _ _) fun b hb o e => ?_) z2 ⟨L', es', ep', t', T2, g'⟩ fun s2 L2 es2 ep2 t2 hm2 T3 g3 z3 => ?_⟩
    · rw [sb.2 b (fun h : b = S => hSf (by rw [← h]; exact hb))]; exact e
    · refine hR s2 L2 es2 ep2 t2 (Moved.trans W.gtrans ((hm.mono wide).then_heap (Nat.le_add_right _ _) fun b o hb e => ?_) hm2) T3 g3 z3
      rw [sb.2 b (fun h : b = S => hb (by rw [h]; exact List.mem_cons_self))]; exact e

abbrev newSet (led : Bool) : Obj := { cls := .type "set", dict := none, data := .set #[] 0 (.fresh 0 0 led) }
set_option maxHeartbeats 3200000 in
theorem call_set {l : Addr} {items : Array Value} (ks : List (Addr × List Str)) {Q : Value → Shared → Prop} (hh : A.handled = none) (hl : s.heap.IsTuple l items) (hit : items.toList = ks.map fun q => Value.ref q.1)
    (hk : ∀ q ∈ ks, Tx P w s.heap q.2 q.1) (few : ks.length ≤ 4) (hu : A.units + 3 < cLine)
    (h : ∀ (h' : Heap) (tk : Nat) L es ep t, Tab P w h' s.heap.objs.size L es ep t → Has ks ks.length L → (∀ b o, s.heap.get? b = some o → h'.get? b = some o) → Q (.ref s.heap.objs.size) { s with heap := h', toks := tk }) :
    wpAny (model P w) A (call (.type "set") [.ref l]) Q E s := by
  have hsz : items.size = ks.length := by rw [← Array.length_toList, hit, List.length_map]
  obtain ⟨c, tl, hmro⟩ := F.called_set.mro
  have hmade := F.called_set.made
  have hsub := F.called_set.sub
  refine wpAny_call (codeAny_of_tree ?_)
  show wpAny _ _ (callAny (.type "set") _) _ _ _
  refine wpAny_pure ⟨Code.quiet_builtin _ (by decide +kernel), codeAny_builtin F.entry_type_call ?_⟩
  rw [Around.under_plain (weight_type_call_type "set" [.ref l] []) rfl]
  have h1 := F.called_set.notType
  have h2 := F.called_set.canCreate
  have hct := F.typeCall_set_1 (.ref l)
  repeat (any_goals (first | assumption | wp_step))
  refine codeAny_mono (code_set_new_1 (.ref l) (E := E) (Q₁ := fun obj s₁ => ∃ led : Bool, obj = .ref s.heap.objs.size ∧ s₁ = { s with heap := s.heap.push (newSet led) }) fun led => ⟨led, rfl, rfl⟩) fun r s₁ hr => ?_
  rcases r with e | fl
  · exact hr
  cases fl with
  | ret obj =>
    obtain ⟨led, rfl, rfl⟩ := hr
    have hS : (s.heap.push (newSet led)).get? s.heap.objs.size = some (newSet led) := Heap.get?_push_size _ rfl
    have hT : Shared.TypeIs { s with heap := s.heap.push (newSet led) } (.ref s.heap.objs.size) "set" := ⟨_, hS, rfl⟩
    have hli := F.called_set.init.lookup
    have hbi := F.called_set.init.bind (.ref s.heap.objs.size)
    repeat (any_goals (first | assumption | wp_step))
    refine codeAny_mono (codeAny_call_builtin (R := wants (fun r s₂ => r = .none ∧ ∃ h' tk L es ep t, s₂ = { s with heap := h', toks := tk } ∧ Tab P w h' s.heap.objs.size L es ep t ∧ Has ks ks.length L ∧
        (∀ b o, s.heap.get? b = some o → h'.get? b = some o)) E) F.called_set.init.plain F.entry_set_init (check_set_init_1 hT ?_)) fun r₂ s₂ hr₂ => ?_
    · obtain ⟨ol, hol, hcl, nl, hdl⟩ := hl
      obtain ⟨ocls, odict, odata, oslots⟩ := ol
      simp only at hcl hdl
      subst hcl; subst hdl
      have hol' : (s.heap.push (newSet led)).get? l = some { cls := .type "tuple", dict := odict, data := .seq items nl, slots := oslots } := Heap.get?_push_of_some _ hol
      have hsls := F.sub_tuple_set
      have hslf := F.sub_tuple_frozenset
      have hne : (Value.type "tuple" == Value.type "dict") = false := by decide
      have hl1 : (s.heap.push (newSet led)).IsTuple l items := ⟨_, hol', rfl, nl, rfl⟩
      unfold Builtin.«set.__init__» noKeywords Builtin.Frozenset.updateFrom
      generalize hPI : pyIter = PI
      wp_walk
      subst hPI
      refine wpAny_pyIter_tuple hl1 ?_
      refine wpAny_bind (wpAny_runValue ?_)
      have hlS : l < s.heap.objs.size := Heap.lt_size hol
      have hh3 : A.in1.in1.in1.handled = none := by simp [hh]
      have hsize : (s.heap.push (newSet led)).objs.size = s.heap.objs.size + 1 := Heap.size_push ..
      have hneI : l ≠ (s.heap.push (newSet led)).objs.size := by rw [hsize]; exact Nat.ne_of_lt (Nat.lt_succ_of_lt hlS)
      have hSf : s.heap.objs.size ∉ [(s.heap.push (newSet led)).objs.size, l] := by
        rw [hsize]
        simp only [List.mem_cons, List.not_mem_nil, or_false, not_or]
        exact ⟨Nat.ne_of_lt (Nat.lt_succ_self _), Nat.ne_of_gt hlS⟩
      have hval : ∀ (i : Nat) (v : Value), items[i]? = some v → ∃ q, ks[i]? = some q ∧ v = .ref q.1 := fun i v hv => by
        rw [← Array.getElem?_toList, hit, List.getElem?_map] at hv
        obtain ⟨q, e1, e2⟩ := Option.map_eq_some_iff.mp hv
        exact ⟨q, e1, e2.symm⟩
      have off : ∀ b, s.heap.objs.size ≤ b → s.heap.get? b = none := fun b hb => by
        cases z : s.heap.get? b with
        | none => rfl
        | some o => exact absurd (Nat.lt_of_lt_of_le (Heap.lt_size z) hb) (Nat.lt_irrefl _)
      refine fill ((Walks.tuple hh3 _ l hneI items).toS) s.heap.objs.size hSf ks hsz few hval s.heap hk (off _ (Nat.le_refl _)) (fun b hb => off b (by rw [List.mem_singleton.mp hb, hsize]; exact Nat.le_succ _)) hu (items.size - 0) 0 _ (by omega) (Nat.zero_le _)
        ⟨⟨_, Heap.get?_push_size _ rfl, rfl, rfl⟩, (hl1.push _)⟩ (fun b o e => Heap.get?_push_of_some _ (Heap.get?_push_of_some _ e)) ⟨[], #[], 0, _, Tab.fresh led (Heap.get?_push_of_some _ hS), Has.none ks⟩ fun s' L es ep t hm T g z => ?_
      obtain ⟨h', g2, d', tk', os'⟩ := s'
      obtain rfl : g2 = s.gens := hm.gens
      obtain rfl : d' = s.drawn := hm.drawn
      obtain rfl : os' = s.os := hm.os
      show wpAny _ _ _ _ _ _
      refine wpAny_pure ?_
      show wpAny _ _ (ret Value.none) _ _ _
      rw [hsz] at g
      exact wpAny_pure ⟨rfl, h', tk', L, es, ep, t, rfl, T, g, z⟩
    · rcases r₂ with e | fl₂
      · exact hr₂
      cases fl₂ with
      | ret r =>
        obtain ⟨rfl, h', tk, L, es, ep, t, rfl, T, g, z⟩ := hr₂
        repeat (any_goals (first | assumption | wp_step))
        exact h _ _ _ _ _ _ T g z
      | _ => exact hr₂.elim
  | _ => exact hr.elim
end

/-- a row of tuples of texts, as values and as texts -/
inductive TxRow (K : PySem.W.Frag) (H : Hp) : List V → List (List Str) → Prop
  | nil : TxRow K H [] []
  | cons {t : Addr} {k : List Str} {vs : List V} {ks : List (List Str)} : SqT K H t (k.map V.str) → TxRow K H vs ks → TxRow K H (.ref t :: vs) (k :: ks)
theorem items_of {P : Program} {w : World} : ∀ {ys : List Str} {us : List Value}, StrsAre us ys → ItemsAre (PySem.strKind P w) ys us
  | _, _, .nil => .nil
  | _, _, .cons y t r => .cons (strKind_is _ _ _ _) (items_of r)
section
variable {X : Cx} {pins : List (Addr × Obj)} {σ : L2.St} {H : Hp} {s : Shared}
theorem tx_of (I : Inv X pins σ H s) {t : Addr} {k : List Str} (h : SqT X.K H t (k.map V.str)) : Tx X.prog X.w s.heap k t := by
  obtain ⟨its, rv, ⟨o, ho, hc, n, hd⟩, _⟩ := I.tuple h
  exact ⟨o, its.toArray, n, ho, hc, hd, items_of (by simpa using strsAre_of rv)⟩
theorem rows_of (I : Inv X pins σ H s) : ∀ {vs : List V} {ks : List (List Str)} {us : List Value}, TxRow X.K H vs ks → Vals vs us →
    ∃ L : List (Addr × List Str), us = (L.map fun q => Value.ref q.1) ∧ L.map (·.2) = ks ∧ ∀ q ∈ L, Tx X.prog X.w s.heap q.2 q.1
  | _, _, _, .nil, .nil => ⟨[], rfl, rfl, fun q hq => absurd hq (by simp)⟩
  | _, _, _, .cons (t := t) (k := k) h r, .cons rv rvs => by
    obtain ⟨L, e1, e2, e3⟩ := rows_of I r rvs
    cases rv
    refine ⟨(t, k) :: L, by rw [e1] <;> rfl, by rw [← e2] <;> rfl, fun q hq => ?_⟩
    rcases List.mem_cons.mp hq with e | hq
    · rw [e]; exact tx_of I h
    · exact e3 q hq
end
section
variable {X : Cx}
/-- len(set(t)): as many as there are, exactly if all differ -/
def tLenSetT (K : PySem.W.Frag) (ta : TE) : TE := fun σ H Q => ta σ H fun x H1 => ∃ (l : Addr) (vs : List V) (ks : List (List Str)), x = V.ref l ∧ SqT K H1 l vs ∧ TxRow K H1 vs ks ∧ ks.length ≤ 4 ∧
  ∀ m : Nat, m ≤ ks.length → (m = ks.length ↔ ks.Nodup) → Q (.int m) H1
theorem pe_lenSetT {a : Expr} {ta : TE} {p p2 q pos : Pos} (hu : X.A.units + 64 < cLine) (hc : X.calm = true) (hg : Gl X "len") (hm : X.mg "len" = none) (hg2 : Gl X "set") (hm2 : X.mg "set" = none) (ha : PE X a ta)
    (na : starEach [a] X.env = (false, eval a X.env) :: starEach [] X.env := by rfl) : PE X (.Call (.Name "len" p) [.Call (.Name "set" p2) [a] [] q] [] pos) (tLenSetT X.K ta) := by
  refine ⟨fun pins s σ H Q I h => ?_⟩
  refine Call_ (ld_blt I hg hm PySem.boot_len ?_)
  refine PyProof.Rows.callWith_builtin1 (PyProof.Rows.args_cons ?_ rfl) rfl rfl
  refine Call_ (ld_blt I hg2 hm2 PyProof.Rows.boot_set ?_)
  refine PyProof.Rows.callWith_type1 (PyProof.Rows.args_cons (thn (ha.run pins s σ H _ I h) fun v s1 ⟨x, H1, I1, r1, q1⟩ => PyProof.Rows.args_nil ?_) na) na rfl
  obtain ⟨l, vs, ks, rfl, hq, hr, h4, q1⟩ := q1
  cases r1
  obtain ⟨its, rv, hT, hz⟩ := I1.tuple hq
  obtain ⟨L, e1, e2, e3⟩ := rows_of I1 hr rv
  have hL : L.length = ks.length := by rw [← e2, List.length_map]
  refine call_set L (I1.ok.hd hc) hT (by simpa using e1) e3 (by omega) (by omega) fun h' tk L2 es ep t T g z => ?_
  refine PyProof.Rows.args_nil ?_
  have I2 : Inv X pins σ H1 { s1 with heap := h', toks := tk } := I1.kept z
  obtain ⟨o, ho, hex, hd⟩ := T.obj
  have hn := T.size
  refine call_len_set ho hex hd T.fits (by rw [hn]; have := T.four; omega) ⟨.int L2.length, H1, I2.tok _, ⟨_, by rw [hn]⟩, q1 L2.length (by rw [← hL]; exact g.len) ?_⟩
  rw [← hL, g.cnt, List.take_length, e2]
end
end S4

set_option Elab.async false
set_option linter.all false
set_option maxRecDepth 100000
set_option maxHeartbeats 4000000
/-! z.translate({n: None}): a line of plain signs, without those of one number -/
namespace TD
open PySem PySem.Spec PyProof.Rows L2 PySem.Builtin PySem.Builtin.Str
/-- what becomes of a sign -/
def left1 (n c : Nat) : Option Nat := if c = n then none else some c
/-- a line without the signs of a number -/
def gone (n : Nat) (l : List Nat) : List Nat := l.filter fun c => decide (c ≠ n)
theorem goneLen (n : Nat) (l : List Nat) : (gone n l).length = l.length ↔ l.all (fun c => decide (c ≠ n)) = true := by
  unfold gone
  rw [List.length_filter_eq_length_iff, List.all_eq_true]
/-- the dict, as the machine knows it -/
structure Drops (P : Program) (w : World) (h : Heap) (d : Addr) (n : Nat) : Prop where
  low : (d == sysModules) = false
  has : ∃ f : Key → Option Value, h.MapOf (mixKind P w) d f ∧ f (Sum.inl (n : Int)) = some .none ∧ ∀ c : Nat, c ≠ n → f (Sum.inl (c : Int)) = none
theorem Drops.on {P : Program} {w : World} {h h' : Heap} {d : Addr} {n : Nat} (D : Drops P w h d n) (k : ∀ b o, h.get? b = some o → h'.get? b = some o) : Drops P w h' d n := by
  obtain ⟨lo, f, ⟨o, es, ep, ho, r⟩, q⟩ := D
  exact ⟨lo, f, ⟨o, es, ep, k _ _ ho, r⟩, q⟩
theorem keyLookup : isSubtype (.type "KeyError") (.type "LookupError") = pure true := by first | rfl | kernel_rfl
section
variable {P : Program} {w : World} {A : Around} {E : Value → Shared → Prop} {s : Shared} {d : Addr} {n c : Nat}
/-- one sign looked up -/
theorem oneSign {Q : Mapped → Shared → Prop} (hh : A.handled = none) (D : Drops P w s.heap d n)
    (y1 : c = n → ∀ h' k, (∀ b o, s.heap.get? b = some o → h'.get? b = some o) → Q .drop { s with heap := h', toks := k })
    (y2 : c ≠ n → ∀ h' k, (∀ b o, s.heap.get? b = some o → h'.get? b = some o) → Q .keep { s with heap := h', toks := k }) : wpAny (model P w) A (tableLookup (.ref d) c) Q E s := by
  obtain ⟨lo, f, M, f1, f2⟩ := D
  unfold tableLookup
  refine wpAny_bind (wpAny_attempt (wpAny_bind (wpAny_mkInt ?_)))
  by_cases e : c = n
  · refine wpAny_getItem_of (knd := mixKind P w) (k := Sum.inl (c : Int)) (kV_is ⟨_, rfl⟩) M (by rw [e]; exact f1) ?_
    exact wpAny_pure (y1 e s.heap _ fun _ _ z => z)
  · refine wpAny_getItem_missing_of (knd := mixKind P w) (k := Sum.inl (c : Int)) (kV_is ⟨_, rfl⟩) lo hh M (f2 c e) fun h' x hx => ?_
    obtain ⟨ob, t, ho, hc, _⟩ := hx.there
    refine wpAny_bind (wpAny_isInstance (T := "KeyError") (b := true) ⟨ob, ho, hc⟩ keyLookup ?_)
    simp only [if_true]
    exact wpAny_bind (wpAny_rule (wpAny_pure (y2 e h' _ hx.keeps)))
/-- the walk over the signs: where it stands -/
def At (n : Nat) (x : List Nat) (s : Shared) (rest : List Nat) (st : List Str × Nat × Bool × List (Nat × Option Nat) × Bool) (s2 : Shared) : Prop :=
  ∃ (past : List Nat) (ps : List Str) (tot : Nat) (kn : List (Nat × Option Nat)) (h' : Heap) (k : Nat), x = past ++ rest ∧ st = (ps, tot, true, kn, false) ∧ ps.reverse = (gone n past).map (fun c => (⟨#[c]⟩ : Str)) ∧
    tot ≤ past.length ∧ (∀ c a, List.lookup c kn = some a → a = left1 n c) ∧ s2 = { s with heap := h', toks := k } ∧ ∀ b o, s.heap.get? b = some o → h'.get? b = some o
theorem At.stay {x : List Nat} {rest past : List Nat} {ps : List Str} {tot : Nat} {kn : List (Nat × Option Nat)} {h' : Heap} {k : Nat} (h1 : x = past ++ c :: rest) (hc : c ≠ n) (h3 : ps.reverse = (gone n past).map (fun c => (⟨#[c]⟩ : Str)))
    (h5 : tot ≤ past.length) (h4 : ∀ c a, List.lookup c kn = some a → a = left1 n c) (h6 : ∀ b o, s.heap.get? b = some o → h'.get? b = some o) : At n x s rest (⟨#[c]⟩ :: ps, tot + 1, true, kn, false) { s with heap := h', toks := k } := by
  refine ⟨past ++ [c], ⟨#[c]⟩ :: ps, tot + 1, kn, h', k, by rw [h1]; simp, rfl, ?_, by simp; omega, h4, rfl, h6⟩
  unfold gone at h3 ⊢
  rw [List.reverse_cons, h3, List.filter_append, List.map_append, List.filter_cons, if_pos (decide_eq_true hc)]
  rfl
theorem At.skip {x : List Nat} {rest past : List Nat} {ps : List Str} {tot : Nat} {kn : List (Nat × Option Nat)} {h' : Heap} {k : Nat} (h1 : x = past ++ c :: rest) (hc : c = n) (h3 : ps.reverse = (gone n past).map (fun c => (⟨#[c]⟩ : Str)))
    (h5 : tot ≤ past.length) (h4 : ∀ c a, List.lookup c kn = some a → a = left1 n c) (h6 : ∀ b o, s.heap.get? b = some o → h'.get? b = some o) : At n x s rest (ps, tot, true, kn, false) { s with heap := h', toks := k } := by
  refine ⟨past ++ [c], ps, tot, kn, h', k, by rw [h1]; simp, rfl, ?_, by simp; omega, h4, rfl, h6⟩
  unfold gone at h3 ⊢
  rw [h3, List.filter_append, List.filter_cons, if_neg (by simp [hc])]
  simp
theorem glued : ∀ (l : List Nat) (a : Array Nat), (l.map fun c => (⟨#[c]⟩ : Str)).foldl (fun b p => b ++ p.cps) a = a ++ l.toArray
  | [], a => by simp
  | c :: l, a => by
    rw [List.map_cons, List.foldl_cons, glued l]
    apply Array.toList_inj.mp
    simp
theorem known2 {x y : Nat} {a b : Option Nat} {kn : List (Nat × Option Nat)} (h : List.lookup y ((x, a) :: kn) = some b) : (y = x ∧ b = a) ∨ List.lookup y kn = some b := by
  rw [List.lookup_cons] at h
  by_cases e : y = x
  · subst e
    rw [beq_self_eq_true] at h
    exact .inl ⟨rfl, (Option.some.inj h).symm⟩
  · rw [beq_eq_false_iff_ne.mpr e] at h
    exact .inr h
theorem meets (z : Str) (t : Tok) (hz : z.length ≤ 16000000) (ha : z.cps.all (fun c => decide (c < 128)) = true) : MeetsIn P w («str.translate» ⟨[.str z t, .ref d], []⟩) (fun A R s =>
    A.handled = none ∧ Drops P w s.heap d n ∧ ∀ (v : Value) (h' : Heap) (k : Nat), (∀ b o, s.heap.get? b = some o → h'.get? b = some o) → (∃ u, v = .str ⟨(gone n z.cps.toList).toArray⟩ u) → R (.ok (.ret v)) { s with heap := h', toks := k }) := by
  refine .of_wp fun A R s h => ?_
  obtain ⟨hh, D, h⟩ := h
  have hh1 : A.in1.handled = none := hh
  show wpAny _ _ (if (z.length == 0) = true then (do rule "str.translate.empty"; ret (.str z t)) else (do
    let st ← forIn z.cps (([], 0, z.cps.all fun c => decide (c < 128), [], false) : List Str × Nat × Bool × List (Nat × Option Nat) × Bool) _
    _)) _ _ s
  rw [ha]
  have hL : z.cps.toList.length = z.length := rfl
  cases h0 : (z.length == 0) with
  | true =>
    rw [if_pos rfl]
    have hx : z.cps.toList = [] := List.eq_nil_of_length_eq_zero (by rw [hL]; exact beq_iff_eq.mp h0)
    refine wpAny_bind (wpAny_rule (wpAny_pure ⟨_, rfl, h _ s.heap s.toks (fun _ _ e => e) ⟨t, ?_⟩⟩))
    have : z = ⟨(gone n z.cps.toList).toArray⟩ := by
      rw [hx]
      cases z with
      | mk a =>
        have : a.toList = [] := hx
        rw [show a = #[] from Array.toList_inj.mp this]
        rfl
    rw [← this]
  | false =>
    rw [if_neg Bool.false_ne_true]
    refine wpAny_bind (MeetsSeq2.wpAny_forIn_array _ (At n z.cps.toList s) _ (fun c rest st s2 hI => ?turn) (fun st s2 hI => ?fin) z.cps ([], 0, true, [], false) ?start)
    case start => exact ⟨[], [], 0, [], s.heap, s.toks, rfl, rfl, rfl, Nat.le_refl _, (fun c a y => by cases y), rfl, fun _ _ e => e⟩
    case turn =>
      obtain ⟨past, ps, tot, kn, h', k, e1, rfl, e3, e4, e5, rfl, e7⟩ := hI
      have hp : tot ≤ 16777216 := by
        have q := congrArg List.length e1
        rw [List.length_append, hL] at q
        omega
      show wpAny _ _ (if tooLong tot = true then _ else (if true = true then _ else _)) _ _ _
      rw [short24 hp, if_neg Bool.false_ne_true, if_pos rfl]
      have D' : Drops P w ({ s with heap := h', toks := k } : Shared).heap d n := D.on e7
      cases hl : List.lookup c kn with
      | some a =>
        have q := e5 c a hl
        subst q
        refine wpAny_bind (wpAny_pure ?_)
        by_cases ec : c = n
        · rw [show left1 n c = none from if_pos ec]
          exact wpAny_pure (At.skip e1 ec e3 e4 e5 e7)
        · rw [show left1 n c = some c from if_neg ec]
          exact wpAny_pure (At.stay e1 ec e3 e4 e5 e7)
      | none =>
        have more : ∀ b, b = left1 n c → ∀ y a, List.lookup y ((c, b) :: kn) = some a → a = left1 n y := fun b hb y a q => by
          rcases known2 q with ⟨q1, q2⟩ | q
          · rw [q2, hb, q1]
          · exact e5 y a q
        refine wpAny_bind (oneSign hh1 D' (fun ec h2 k2 k3 => ?_) (fun ec h2 k2 k3 => ?_))
        · refine wpAny_bind (wpAny_pure (wpAny_pure ?_))
          exact At.skip e1 ec e3 e4 (more none (if_pos ec).symm) (fun b o y => k3 b o (e7 b o y))
        · refine wpAny_bind (wpAny_pure (wpAny_pure ?_))
          exact At.stay e1 ec e3 e4 (more (some c) (if_neg ec).symm) (fun b o y => k3 b o (e7 b o y))
    case fin =>
      obtain ⟨past, ps, tot, kn, h', k, e1, rfl, e3, e4, e5, rfl, e7⟩ := hI
      rw [List.append_nil] at e1
      subst e1
      show wpAny _ _ (if tooLong tot = true then _ else retStr ⟨ps.reverse.foldl (fun b (p : Str) => b ++ p.cps) #[]⟩) _ _ _
      rw [short24 (by rw [hL] at e4; omega), if_neg Bool.false_ne_true, e3, glued, Array.empty_append]
      have le : (gone n z.cps.toList).length ≤ z.length := by
        unfold gone
        exact hL ▸ List.length_filter_le _ _
      exact wpAny_bind (wpAny_mkStr (wpAny_pure ⟨_, rfl, h _ h' _ e7 ⟨_, rfl⟩⟩) (by show (gone n z.cps.toList).toArray.size ≤ _; rw [List.size_toArray, sizeLine_eq]; omega))
end
section
variable {X : Cx}
/-- z.translate(d), where d is {n: None} -/
theorem mt_drop {n : Nat} (hc : X.calm = true) : MtR X "str.translate" (fun x xs H Q => ∃ (z : Str) (d : Addr), x = .str z ∧ xs = [.ref d] ∧ H d = some (.dK [(Sum.inl (n : Int), .non)]) ∧ z.cps.all (fun c => decide (c < 128)) = true ∧ z.length ≤ 16000000 ∧
    Q (.str ⟨(gone n z.cps.toList).toArray⟩) H) := by
  intro pins s σ H x xs v us Q I rx rs h
  obtain ⟨z, d, rfl, rfl, hd, ha, hz, h⟩ := h
  obtain ⟨t, rfl⟩ := rx
  cases rs with
  | cons r1 rs =>
    cases rs
    cases r1
    obtain ⟨_, lo, vs, rel, dd⟩ := dk_of I.hok hd
    have D : Drops X.prog X.w s.heap d n := by
      refine ⟨lo, _, dd.mapOf, ?_, fun c hcn => ?_⟩
      · have := rel.val (Sum.inl (n : Int))
        rw [show valV [((Sum.inl (n : Int) : Key), V.non)] (Sum.inl (n : Int)) = some .non from valV_pos rfl] at this
        obtain ⟨u, hu, ru⟩ := RelO.some_of this
        rw [hu]
        cases ru
        rfl
      · have := rel.val (Sum.inl (c : Int))
        rw [show valV [((Sum.inl (n : Int) : Key), V.non)] (Sum.inl (c : Int)) = none from by
          rw [valV_neg (fun e => by have := Sum.inl.inj e; omega)]
          rfl] at this
        revert this
        cases valueAt vs (Sum.inl (c : Int)) with
        | none => exact fun _ => rfl
        | some _ => exact fun e => e.elim
    refine call_meetsIn F.slot_str_translate (typeIs_str _ _ _) F.entry_str_translate (F.args_str_translate_2 _ _) (meets (n := n) z t hz ha) ⟨I.ok.hd hc, D, fun v h' k hk y => ?_⟩
    obtain ⟨u, rfl⟩ := y
    exact ⟨.str _, H, I.kept (t' := k) hk, ⟨u, rfl⟩, h⟩
end
end TD

set_option Elab.async false
set_option linter.all false
set_option maxRecDepth 100000
set_option maxHeartbeats 4000000
namespace K2
open PySem PySem.Spec PyProof.Rows L2
def top (i : Nat) : Stmt := PySem.Challenge.pw_farenough_k02_keys_steps_and_places.main.body.getD i (.Pass ⟨0, 0, 0, 0⟩)
abbrev FnP (K : PySem.W.Frag) (x : Str) (st : Stmt) (f : Addr) (fd : FuncData) : Prop := FunD K x x (defArgs st) (defBody st) (defScope st) [] [] f fd
end K2

set_option Elab.async false
set_option linter.all false
set_option maxRecDepth 100000
set_option maxHeartbeats 4000000
namespace K2
open PySem PySem.Spec PyProof.Rows L2
theorem sameUpd {H : Hp} {p : Addr} {o : HO} (h : H p = none) : Same H (upd H p o) := fun b u e => by
  rw [upd_ne (ne_of_none e h)]
  exact e
theorem sameTup {K : PySem.W.Frag} {H H' : Hp} {a : Addr} {xs : List V} (e : Same H H') (h : SqT K H a xs) : SqT K H' a xs := by
  rcases h with (h | ⟨o, h⟩) | h
  · exact .inl (.inl (e _ _ h))
  · exact .inl (.inr ⟨o, e _ _ h⟩)
  · exact .inr h
mutual
theorem dpSame {K : PySem.W.Frag} {H H' : Hp} (e : Same H H') : ∀ (d : PyData) (v : V), Dp K H v d → Dp K H' v d
  | .none, _, h => by cases h; exact .non
  | .bool b, _, h => by cases h; exact .bl b
  | .int i, _, h => by cases h; exact .int i
  | .str x, _, h => by cases h; exact .str x
  | .list ds, _, h => by
    cases h with
    | lst ha hd => exact .lst (e.seq ha) (dpAllSame e ds _ hd)
  | .tuple ds, _, h => by
    cases h with
    | tup ha hd => exact .tup (sameTup e ha) (dpAllSame e ds _ hd)
  | .dict _, _, h => nomatch h
theorem dpAllSame {K : PySem.W.Frag} {H H' : Hp} (e : Same H H') : ∀ (ds : List PyData) (vs : List V), DpAll K H vs ds → DpAll K H' vs ds
  | [], _, h => by cases h; exact .nil
  | d :: ds, _, h => by
    cases h with
    | cons h1 h2 => exact .cons (dpSame e d _ h1) (dpAllSame e ds _ h2)
end
theorem dpLen {K : PySem.W.Frag} {H : Hp} : ∀ {vs : List V} {ds : List PyData}, DpAll K H vs ds → vs.length = ds.length
  | _, _, .nil => rfl
  | _, _, .cons _ r => by rw [List.length_cons, List.length_cons, dpLen r]
theorem dpAt {K : PySem.W.Frag} {H : Hp} : ∀ {vs : List V} {ds : List PyData}, DpAll K H vs ds → ∀ {i : Nat} {d : PyData}, ds[i]? = some d → ∃ v, vs[i]? = some v ∧ Dp K H v d
  | _, _, .nil, _, _, h => by simp at h
  | _, _, .cons h1 r, 0, _, h => by
    cases h
    exact ⟨_, rfl, h1⟩
  | _, _, .cons h1 r, i + 1, _, h => dpAt r (by simpa using h)
def SOk (z : Str) : Prop := z.cps.all (· < 0x110000) = true
/-- data down to the depth n: texts not too long, tuples not too wide, no lists -/
inductive Od : Nat → PyData → Prop
  | non (n : Nat) : Od n .none
  | bl (n : Nat) (b : Bool) : Od n (.bool b)
  | int (n : Nat) (i : Int) : Od n (.int i)
  | str (n : Nat) {z : Str} (h : SOk z) (h2 : z.length ≤ 2000) : Od n (.str z)
  | tup {n : Nat} {ds : List PyData} (h : ds.length ≤ 100) (h2 : ∀ d ∈ ds, Od n d) : Od (n + 1) (.tuple ds)
theorem Od.up {n : Nat} {d : PyData} (h : Od n d) : ∀ {m : Nat}, n ≤ m → Od m d := by
  induction h with
  | non n => exact fun _ => .non _
  | bl n b => exact fun _ => .bl _ b
  | int n i => exact fun _ => .int _ i
  | str n h h2 => exact fun _ => .str _ h h2
  | @tup n ds h h2 ih =>
    intro m hm
    obtain ⟨k, rfl⟩ : ∃ k, m = k + 1 := ⟨m - 1, by omega⟩
    exact .tup h fun d hd => ih d hd (by omega)
theorem allLay : ∀ {ds : List PyData} {n : Nat}, (∀ d ∈ ds, d.canLay0 = true ∧ d.depth ≤ n) → PyData.canLayAll0 ds = true ∧ PyData.depthAll ds ≤ n
  | [], n, _ => ⟨rfl, Nat.zero_le _⟩
  | d :: ds, n, h => by
    obtain ⟨h1, h2⟩ := h d List.mem_cons_self
    obtain ⟨h3, h4⟩ := allLay (n := n) fun x hx => h x (List.mem_cons_of_mem _ hx)
    constructor
    · simp only [PyData.canLayAll0, h1, h3, Bool.and_self]
    · simp only [PyData.depthAll]
      exact Nat.max_le.mpr ⟨h2, h4⟩
theorem Od.lay {n : Nat} {d : PyData} (h : Od n d) : d.canLay0 = true ∧ d.depth ≤ n := by
  induction h with
  | non n => exact ⟨rfl, Nat.zero_le _⟩
  | bl n b => exact ⟨rfl, Nat.zero_le _⟩
  | int n i => exact ⟨rfl, Nat.zero_le _⟩
  | str n h h2 => exact ⟨h, Nat.zero_le _⟩
  | @tup n ds h h2 ih =>
    obtain ⟨a, b⟩ := allLay (n := n) ih
    refine ⟨a, ?_⟩
    simp only [PyData.depth]
    omega
theorem Od.shaped {n : Nat} {d : PyData} (h : Od n d) (hn : n ≤ 64) : SeqAt.shaped d = true := by
  obtain ⟨a, b⟩ := h.lay
  unfold SeqAt.shaped
  rw [a, Bool.true_and]
  exact decide_eq_true (by omega)
/-! kinds -/
def tyD : PyData → String
  | .none => "NoneType" | .bool _ => "bool" | .int _ => "int" | .str _ => "str" | .list _ => "list" | .tuple _ => "tuple" | .dict _ => "dict"
def isT (t c : String) : Bool := t == c || (t == "bool" && c == "int")
def isD (d : PyData) (c : String) : Bool := isT (tyD d) c
theorem kitAll : ∀ t ∈ ["NoneType", "bool", "int", "str", "list", "tuple"], ∀ c ∈ ["tuple", "str", "int", "bool", "list"], kitB t c = some (isT t c) := by decide +kernel
theorem dpTy {K : PySem.W.Frag} {H : Hp} {v : V} {d : PyData} (h : Dp K H v d) : TyX K H v (.type (tyD d)) := by
  cases h with
  | non => exact .base .non
  | bl b => exact .base (.bl b)
  | int i => exact .base (.int i)
  | str x => exact .base (.str x)
  | lst h _ =>
    rcases h with (h | ⟨o, h⟩) | ⟨o, its, n, h, c, _⟩
    · exact .base (.lst h)
    · exact .base (.frz h)
    · exact .kList h c
  | tup h _ =>
    rcases h with (h | ⟨o, h⟩) | ⟨o, its, n, h, c, _⟩
    · exact .base (.tup h)
    · exact .fTuple h
    · exact .kTuple h c
theorem dpKit {K : PySem.W.Frag} {H : Hp} {v : V} {d : PyData} (h : Dp K H v d) {c : String} (hc : c = "tuple" ∨ c = "str" ∨ c = "int" ∨ c = "bool" ∨ c = "list") : PySem.W.kitOne K (.type (tyD d)) (.type c) = some (isD d c) := by
  have hc' : c ∈ ["tuple", "str", "int", "bool", "list"] := by rcases hc with rfl | rfl | rfl | rfl | rfl <;> simp
  refine kit_ty (kitAll _ ?_ _ hc')
  cases h <;> simp [tyD]
theorem isi {K : PySem.W.Frag} {H : Hp} {v : V} {d : PyData} (h : Dp K H v d) {c : String} (hc : c = "tuple" ∨ c = "str" ∨ c = "int" ∨ c = "bool" ∨ c = "list") {Q : VK} (q : Q (.bl (isD d c)) H) : rIsi K [v, .ty c] H Q :=
  ⟨v, .ty c, _, _, _, rfl, .ty c, dpTy h, dpKit h hc, q⟩
/-- the built-in names that are read -/
structure Bn (mg : Str → Option Value) : Prop where
  isi : mg "isinstance" = none
  len : mg "len" = none
  zip : mg "zip" = none
  all : mg "all" = none
  list : mg "list" = none
  tuple : mg "tuple" = none
  bool : mg "bool" = none
  int : mg "int" = none
  str : mg "str" = none
  range : mg "range" = none
  ord : mg "ord" = none
  set : mg "set" = none
  max : mg "max" = none
  min : mg "min" = none
/-! comprehensions with one name -/
theorem lcJ {J : It} {n : Nat} {g : TG} {tt : TT} {te : TE} {vs : List Nat} {σ : L2.St} {H1 : Hp} {D : Addr} {Qd : Hp → Prop} (Pv : Nat → Hp → Prop) (h0 : Pv 0 (upd H1 D (.lst [])))
    (hgo : ∀ i H, i < n → Pv i H → J.go i H) (hst : ∀ H, Pv n H → J.stop n H)
    (hs : ∀ i H x H', i < n → Pv i H → J.yld i H x H' → g x (wipe σ vs) H' fun σ2 H2 => wipe σ2 vs = wipe σ vs ∧ tt σ2 H2 fun b H3 =>
      if b = true then te σ2 H3 fun y H4 => ∃ acc, H4 D = some (.lst acc) ∧ acc.length < sizeLine ∧ Pv (i + 1) (upd H4 D (.lst (acc ++ [y]))) else Pv (i + 1) H3)
    (hd : ∀ H, Pv n H → Qd H) :
    ∃ W : Nat → Nat → Hp → Prop, (∃ m, W 0 m (upd H1 D (.lst []))) ∧ ∀ i m H, W i m H →
      (J.stop i H ∧ Qd H) ∨ (J.go i H ∧ ∃ Nx : Hp → Prop, (∀ H', Nx H' → ∃ m', m' < m ∧ W (i + 1) m' H') ∧ ∀ x H', J.yld i H x H' → g x (wipe σ vs) H' fun σ2 H2 => wipe σ2 vs = wipe σ vs ∧ tt σ2 H2 fun b H3 =>
        if b = true then te σ2 H3 fun y H4 => ∃ acc, H4 D = some (.lst acc) ∧ acc.length < sizeLine ∧ Nx (upd H4 D (.lst (acc ++ [y]))) else Nx H3) := by
  refine ⟨fun i m H => m = n - i ∧ i ≤ n ∧ Pv i H, ⟨n, by simp, Nat.zero_le _, h0⟩, fun i m H hW => ?_⟩
  obtain ⟨rfl, hi, p⟩ := hW
  by_cases lt : i < n
  · refine .inr ⟨hgo i H lt p, Pv (i + 1), fun H' p' => ⟨n - (i + 1), by omega, rfl, lt, p'⟩, fun x H' y => ?_⟩
    exact hs i H x H' lt p y
  · have e : i = n := by omega
    subst e
    exact .inl ⟨hst H p, hd H p⟩
/-- the list at D, all else as it was -/
def At (H1 : Hp) (D : Addr) (xs : List V) (H : Hp) : Prop := Same H1 H ∧ H D = some (.lst xs)
theorem At.put {H1 H H' : Hp} {D : Addr} {xs ys : List V} (hD : H1 D = none) (h : At H1 D xs H) (s : Same H H') : H' D = some (.lst xs) ∧ At H1 D ys (upd H' D (.lst ys)) := by
  obtain ⟨a, b⟩ := h
  refine ⟨s _ _ b, fun c o e => ?_, upd_same⟩
  rw [upd_ne (ne_of_none e hD)]
  exact s _ _ (a _ _ e)
theorem dpSnoc {K : PySem.W.Frag} {H : Hp} {y : V} {e : PyData} (hy : Dp K H y e) : ∀ {xs : List V} {ds : List PyData}, DpAll K H xs ds → DpAll K H (xs ++ [y]) (ds ++ [e])
  | _, _, .nil => .cons hy .nil
  | _, _, .cons h r => .cons h (dpSnoc hy r)
/-- every item answers a Bool -/
theorem lcAll {J : It} {n j : Nat} {te : TE} {σ : L2.St} {H1 : Hp} {D : Addr} {Qd : Hp → Prop} (b : Nat → Bool) (hD : H1 D = none) (hn : n ≤ 1000000) (hw : ∀ v, wipe ((wipe σ [j]).set j (some v)) [j] = wipe σ [j])
    (hgo : ∀ i H, i < n → Same H1 H → J.go i H) (hst : ∀ H, Same H1 H → J.stop n H)
    (hs : ∀ i H x H', i < n → Same H1 H → J.yld i H x H' → Same H H' ∧ ∀ (R : VK), (∀ H2, Same H' H2 → R (.bl (b i)) H2) → te ((wipe σ [j]).set j (some x)) H' R)
    (hd : ∀ H, Same H1 H → H D = some (.lst (((List.range n).map b).map V.bl)) → Qd H) :
    ∃ W : Nat → Nat → Hp → Prop, (∃ m, W 0 m (upd H1 D (.lst []))) ∧ ∀ i m H, W i m H →
      (J.stop i H ∧ Qd H) ∨ (J.go i H ∧ ∃ Nx : Hp → Prop, (∀ H', Nx H' → ∃ m', m' < m ∧ W (i + 1) m' H') ∧ ∀ x H', J.yld i H x H' → gName j x (wipe σ [j]) H' fun σ2 H2 => wipe σ2 [j] = wipe σ [j] ∧ tYes σ2 H2 fun b H3 =>
        if b = true then te σ2 H3 fun y H4 => ∃ acc, H4 D = some (.lst acc) ∧ acc.length < sizeLine ∧ Nx (upd H4 D (.lst (acc ++ [y]))) else Nx H3) := by
  refine lcJ (n := n) (fun i H => At H1 D (((List.range i).map b).map V.bl) H) ⟨sameUpd hD, upd_same⟩ (fun i H lt h => hgo i H lt h.1) (fun H h => hst H h.1) (fun i H x H' lt h y => ?_) (fun H h => hd H h.1 h.2)
  obtain ⟨s1, s2⟩ := hs i H x H' lt h.1 y
  refine ⟨hw x, ?_⟩
  unfold tYes
  dsimp only
  rw [if_pos rfl]
  refine s2 _ fun H2 s3 => ?_
  obtain ⟨e1, e2⟩ := h.put (ys := ((List.range (i + 1)).map b).map V.bl) hD (s1.trans s3)
  refine ⟨_, e1, ?_, ?_⟩
  · rw [List.length_map, List.length_map, List.length_range, sizeLine_eq]
    omega
  · have e3 : ((List.range (i + 1)).map b).map V.bl = ((List.range i).map b).map V.bl ++ [V.bl (b i)] := by
      rw [List.range_succ, List.map_append, List.map_append]
      rfl
    rw [← e3]
    exact e2
/-- the ones that answer true are kept -/
theorem lcSome {K : PySem.W.Frag} {J : It} {n j : Nat} {tt : TT} {te : TE} {σ : L2.St} {H1 : Hp} {D : Addr} {Qd : Hp → Prop} (b : Nat → Bool) (hD : H1 D = none) (hn : n ≤ 1000000) (hw : ∀ v, wipe ((wipe σ [j]).set j (some v)) [j] = wipe σ [j])
    (hgo : ∀ i H, i < n → Same H1 H → J.go i H) (hst : ∀ H, Same H1 H → J.stop n H)
    (hs : ∀ i H x H', i < n → Same H1 H → J.yld i H x H' → Same H H' ∧ (∀ (F : Bool → Hp → Prop), (∀ H2, Same H' H2 → F (b i) H2) → tt ((wipe σ [j]).set j (some x)) H' F) ∧ ∃ y d, (∀ H, Dp K H y d) ∧ Od 0 d ∧ ∀ (R : VK) H2, R y H2 → te ((wipe σ [j]).set j (some x)) H2 R)
    (hd : ∀ H xs, Same H1 H → H D = some (.lst xs) → (xs = [] ↔ ∀ i, i < n → b i = false) → (∃ ds, (∀ H, DpAll K H xs ds) ∧ (∀ d ∈ ds, Od 0 d) ∧ ds.length ≤ n) → Qd H) :
    ∃ W : Nat → Nat → Hp → Prop, (∃ m, W 0 m (upd H1 D (.lst []))) ∧ ∀ i m H, W i m H →
      (J.stop i H ∧ Qd H) ∨ (J.go i H ∧ ∃ Nx : Hp → Prop, (∀ H', Nx H' → ∃ m', m' < m ∧ W (i + 1) m' H') ∧ ∀ x H', J.yld i H x H' → gName j x (wipe σ [j]) H' fun σ2 H2 => wipe σ2 [j] = wipe σ [j] ∧ tt σ2 H2 fun b H3 =>
        if b = true then te σ2 H3 fun y H4 => ∃ acc, H4 D = some (.lst acc) ∧ acc.length < sizeLine ∧ Nx (upd H4 D (.lst (acc ++ [y]))) else Nx H3) := by
  refine lcJ (n := n) (fun i H => ∃ xs, At H1 D xs H ∧ (xs = [] ↔ ∀ k, k < i → b k = false) ∧ xs.length ≤ i ∧ ∃ ds, (∀ H, DpAll K H xs ds) ∧ ∀ d ∈ ds, Od 0 d) ⟨[], ⟨sameUpd hD, upd_same⟩, ⟨fun _ k hk => absurd hk (Nat.not_lt_zero _), fun _ => rfl⟩, Nat.le_refl _, [], fun _ => .nil, fun d hd => absurd hd (by simp)⟩ (fun i H lt h => hgo i H lt h.choose_spec.1.1) (fun H h => hst H h.choose_spec.1.1) (fun i H x H' lt h y => ?_)
    (fun H h => by obtain ⟨xs, h1, h2, h3, h4⟩ := h; obtain ⟨ds, g1, g2⟩ := h4; exact hd H xs h1.1 h1.2 h2 ⟨ds, g1, g2, by have := dpLen (g1 H); omega⟩)
  obtain ⟨xs, h, e0, hl, ds, hda, hod⟩ := h
  obtain ⟨s1, s2, z, zd, z1, z2, s4⟩ := hs i H x H' lt h.1 y
  refine ⟨hw x, s2 _ fun H2 s3 => ?_⟩
  cases hb : b i with
  | true =>
    refine iteT (s4 _ _ ?_)
    obtain ⟨e1, e2⟩ := h.put (ys := xs ++ [z]) hD (s1.trans s3)
    refine ⟨_, e1, by rw [sizeLine_eq]; omega, _, e2, ⟨fun q => absurd q (by simp), fun q => ?_⟩, by rw [List.length_append]; exact Nat.succ_le_succ hl, ds ++ [zd], fun H => dpSnoc (z1 H) (hda H), fun d hd => ?_⟩
    · rw [q i (Nat.lt_succ_self _)] at hb
      cases hb
    · rcases List.mem_append.mp hd with y | y
      · exact hod d y
      · rw [List.mem_singleton.mp y]
        exact z2
  | false =>
    refine iteF ⟨xs, ⟨(h.1.trans s1).trans s3, s3 _ _ (s1 _ _ h.2)⟩, ⟨fun q k hk => ?_, fun q => e0.mpr fun k hk => q k (by omega)⟩, by omega, ds, hda, hod⟩
    rcases Nat.lt_succ_iff_lt_or_eq.mp hk with c | c
    · exact e0.mp q k c
    · rw [c]
      exact hb
/-- all(..) over a tuple -/
theorem lcAllT {K : PySem.W.Frag} {a : Addr} {xs : List V} {ds : List PyData} {j : Nat} {te : TE} {σ : L2.St} {H1 : Hp} {D : Addr} {Qd : Hp → Prop} (p : PyData → Bool) (ha : SqT K H1 a xs) (hx : DpAll K H1 xs ds) (hn : ds.length ≤ 1000) (hD : H1 D = none) (hw : ∀ v, wipe ((wipe σ [j]).set j (some v)) [j] = wipe σ [j])
    (hs : ∀ v d H, d ∈ ds → Same H1 H → Dp K H v d → ∀ (R : VK), (∀ H2, Same H H2 → R (.bl (p d)) H2) → te ((wipe σ [j]).set j (some v)) H R)
    (hd : ∀ H, Same H1 H → H D = some (.lst ((ds.map p).map V.bl)) → Qd H) :
    ∃ W : Nat → Nat → Hp → Prop, (∃ m, W 0 m (upd H1 D (.lst []))) ∧ ∀ i m H, W i m H →
      ((Itt K a).stop i H ∧ Qd H) ∨ ((Itt K a).go i H ∧ ∃ Nx : Hp → Prop, (∀ H', Nx H' → ∃ m', m' < m ∧ W (i + 1) m' H') ∧ ∀ x H', (Itt K a).yld i H x H' → gName j x (wipe σ [j]) H' fun σ2 H2 => wipe σ2 [j] = wipe σ [j] ∧ tYes σ2 H2 fun b H3 =>
        if b = true then te σ2 H3 fun y H4 => ∃ acc, H4 D = some (.lst acc) ∧ acc.length < sizeLine ∧ Nx (upd H4 D (.lst (acc ++ [y]))) else Nx H3) := by
  have hl := dpLen hx
  refine lcAll (n := ds.length) (fun i => p (ds.getD i .none)) hD (by omega) hw (fun i H lt s => ?_) (fun H s => ⟨xs, sameTup s ha, by omega⟩) (fun i H x H' lt s y => ?_) (fun H s e => hd H s ?_)
  · exact ⟨xs, xs[i], sameTup s ha, List.getElem?_eq_getElem (by omega)⟩
  · obtain ⟨rfl, y⟩ := y
    refine ⟨Same.refl _, fun R hR => ?_⟩
    have e := y xs (sameTup s ha)
    have e2 : ds[i]? = some ds[i] := List.getElem?_eq_getElem lt
    obtain ⟨v, h1, h2⟩ := dpAt hx e2
    obtain rfl : v = x := Option.some.inj (h1.symm.trans e)
    rw [List.getD_eq_getElem?_getD, e2] at hR
    exact hs v ds[i] _ (List.getElem_mem lt) s (dpSame s _ _ h2) R hR
  · rw [e]
    have : (List.range ds.length).map (fun i => p (ds.getD i .none)) = ds.map p := by
      refine List.ext_getElem (by simp) fun i h1 h2 => ?_
      simp only [List.getElem_map, List.getElem_range]
      rw [List.getD_eq_getElem?_getD, List.getElem?_eq_getElem (by simpa using h1)]
      rfl
    rw [this]
/-- the kept ones of a tuple -/
theorem lcSomeT {K : PySem.W.Frag} {a : Addr} {xs : List V} {ds : List PyData} {j : Nat} {tt : TT} {te : TE} {σ : L2.St} {H1 : Hp} {D : Addr} {Qd : Hp → Prop} (p : PyData → Bool) (ha : SqT K H1 a xs) (hx : DpAll K H1 xs ds) (hn : ds.length ≤ 1000) (hD : H1 D = none) (hw : ∀ v, wipe ((wipe σ [j]).set j (some v)) [j] = wipe σ [j])
    (hs : ∀ v d H, d ∈ ds → Same H1 H → Dp K H v d → (∀ (F : Bool → Hp → Prop), (∀ H2, Same H H2 → F (p d) H2) → tt ((wipe σ [j]).set j (some v)) H F) ∧ ∃ y d, (∀ H, Dp K H y d) ∧ Od 0 d ∧ ∀ (R : VK) H2, R y H2 → te ((wipe σ [j]).set j (some v)) H2 R)
    (hd : ∀ H zs, Same H1 H → H D = some (.lst zs) → (zs = [] ↔ ∀ d ∈ ds, p d = false) → (∃ es, (∀ H, DpAll K H zs es) ∧ (∀ d ∈ es, Od 0 d) ∧ es.length ≤ ds.length) → Qd H) :
    ∃ W : Nat → Nat → Hp → Prop, (∃ m, W 0 m (upd H1 D (.lst []))) ∧ ∀ i m H, W i m H →
      ((Itt K a).stop i H ∧ Qd H) ∨ ((Itt K a).go i H ∧ ∃ Nx : Hp → Prop, (∀ H', Nx H' → ∃ m', m' < m ∧ W (i + 1) m' H') ∧ ∀ x H', (Itt K a).yld i H x H' → gName j x (wipe σ [j]) H' fun σ2 H2 => wipe σ2 [j] = wipe σ [j] ∧ tt σ2 H2 fun b H3 =>
        if b = true then te σ2 H3 fun y H4 => ∃ acc, H4 D = some (.lst acc) ∧ acc.length < sizeLine ∧ Nx (upd H4 D (.lst (acc ++ [y]))) else Nx H3) := by
  have hl := dpLen hx
  refine lcSome (K := K) (n := ds.length) (fun i => p (ds.getD i .none)) hD (by omega) hw (fun i H lt s => ?_) (fun H s => ⟨xs, sameTup s ha, by omega⟩) (fun i H x H' lt s y => ?_) (fun H zs s e e0 es => hd H zs s e (e0.trans ?_) es)
  · exact ⟨xs, xs[i], sameTup s ha, List.getElem?_eq_getElem (by omega)⟩
  · obtain ⟨rfl, y⟩ := y
    have e := y xs (sameTup s ha)
    have e2 : ds[i]? = some ds[i] := List.getElem?_eq_getElem lt
    obtain ⟨v, h1, h2⟩ := dpAt hx e2
    obtain rfl : v = x := Option.some.inj (h1.symm.trans e)
    rw [List.getD_eq_getElem?_getD, e2]
    exact ⟨Same.refl _, hs v ds[i] _ (List.getElem_mem lt) s (dpSame s _ _ h2)⟩
  · constructor
    · intro h d hd
      obtain ⟨i, hi, e⟩ := List.getElem_of_mem hd
      have := h i hi
      rw [List.getD_eq_getElem?_getD, List.getElem?_eq_getElem hi] at this
      rw [← e]
      exact this
    · intro h i hi
      rw [List.getD_eq_getElem?_getD, List.getElem?_eq_getElem hi]
      exact h _ (List.getElem_mem hi)
/-- a kept list against [] -/
theorem eqNil {K : PySem.W.Frag} {H : Hp} {D e : Addr} {zs : List V} {Q : VK} {n : Nat} (hD : H D = some (.lst zs)) (he : H e = some (.lst [])) (es : ∃ es, (∀ H, DpAll K H zs es) ∧ (∀ d ∈ es, Od 0 d) ∧ es.length ≤ n) (h : Q (.bl (decide (zs = []))) H) : rEqD K (.ref D) (.ref e) H Q := by
  obtain ⟨ds, h1, h2, _⟩ := es
  refine ⟨.list ds, .list [], .lst (.inl (.inl hD)) (h1 H), .lst (.inl (.inl he)) .nil, ?_, rfl, ?_⟩
  · obtain ⟨a, b⟩ := allLay (ds := ds) (n := 0) fun d hd => (h2 d hd).lay
    have e1 : (PyData.list ds).canLay0 = true := a
    unfold SeqAt.shaped
    rw [e1, Bool.true_and]
    refine decide_eq_true ?_
    simp only [PyData.depth]
    omega
  · have hl := dpLen (h1 H)
    cases ds with
    | nil =>
      have : zs = [] := List.eq_nil_of_length_eq_zero hl
      subst this
      exact h
    | cons d ds =>
      have : ¬ zs = [] := fun z => by rw [z] at hl; cases hl
      rw [decide_eq_false this] at h
      exact h
theorem neNil {K : PySem.W.Frag} {H : Hp} {D e : Addr} {zs : List V} {Q : VK} {n : Nat} (hD : H D = some (.lst zs)) (he : H e = some (.lst [])) (es : ∃ es, (∀ H, DpAll K H zs es) ∧ (∀ d ∈ es, Od 0 d) ∧ es.length ≤ n) (h : Q (.bl (!decide (zs = []))) H) : rNeD K (.ref D) (.ref e) H Q := by
  obtain ⟨d, e, h1, h2, h3, h4, h5⟩ := eqNil (Q := fun x H => Q (match x with | .bl b => .bl (!b) | _ => x) H) hD he es h
  exact ⟨d, e, h1, h2, h3, h4, h5⟩
end K2

set_option Elab.async false
set_option linter.all false
set_option maxRecDepth 100000
set_option maxHeartbeats 4000000
namespace K2
open PySem PySem.Spec PyProof.Rows L2
/-! ### what the words mean -/
def signOk (c : Nat) : Bool := decide (32 ≤ c) && (decide (c ≤ 126) && decide (c ≠ 37))
def okT (z : Str) : Bool := decide (z.length ≤ 400) && z.cps.toList.all signOk
def letter (c : Nat) : Bool := decide (97 ≤ c) && decide (c ≤ 122)
def nameSign (c : Nat) : Bool := letter c || (decide (48 ≤ c) && decide (c ≤ 57))
def okN (z : Str) : Bool := decide (1 ≤ z.length) && (decide (z.length ≤ 8) && (letter (z.cps.getD 0 0) && z.cps.toList.all nameSign))
def isTx : PyData → Bool
  | .str z => okT z
  | _ => false
def isNm : PyData → Bool
  | .str z => okN z
  | _ => false
def isKy : PyData → Bool
  | .tuple [a, b] => isNm a && isNm b
  | _ => false
/-- a promise: the answer to a question about one value -/
def spIs (K : PySem.W.Frag) (p : PyData → Bool) : Sp := fun vs H Q _ => ∃ v d, vs = [v] ∧ Dp K H v d ∧ Od 60 d ∧ ∀ H', Same H H' → Q (.bl (p d)) H'
/-- a def's bundle -/
structure Has (P : Program) (w : World) (K : PySem.W.Frag) (mg : Str → Option Value) (base : Heap) (k : Nat) (x : Str) (ps : List Str) (sp : Sp) : Prop where
  ex : ∃ (f : Addr) (fd : FuncData), mg x = some (.ref f) ∧ PySem.W.keepIn K (.ref f) = true ∧ Binds K fd ps [] ∧ FnOk P w K mg base CX0 k f fd ps sp
abbrev IntG (mg : Str → Option Value) (x : Str) (i : Int) : Prop := ∃ t, mg x = some (.int i t)
theorem IntG.gc {mg : Str → Option Value} {x : Str} {i : Int} (h : IntG mg x i) : ∃ u, mg x = some u ∧ RelV (.int i) u := let ⟨t, e⟩ := h; ⟨_, e, t, rfl⟩
section
variable {P : Program} {w : World} {K : PySem.W.Frag} {mg : Str → Option Value} {base : Heap} {f : Addr} {fd : FuncData}
theorem leOne (a c : Nat) : (!decide ([c] < [a])) = decide (a ≤ c) := by
  have e : ([c] < [a]) ↔ c < a := by
    rw [List.cons_lt_cons_iff]
    constructor
    · rintro (h | ⟨_, h⟩)
      · exact h
      · exact absurd h (by simp)
    · exact fun h => .inl h
  by_cases h : a ≤ c
  · rw [decide_eq_true h, decide_eq_false (fun z => absurd (e.mp z) (by omega))]
    rfl
  · rw [decide_eq_false h, decide_eq_true (e.mpr (by omega))]
    rfl
theorem scText : FnScope ["value"] ["value"] (defScope (top 6)) := ⟨rfl, rfl, rfl, by decide +kernel, rfl, by decide +kernel, by decide +kernel⟩
theorem allRange (l : List Nat) (p : Nat → Bool) : (((List.range l.length).map fun i => p (l.getD i 0)).all id) = l.all p := by
  rw [Bool.eq_iff_iff, List.all_eq_true, List.all_eq_true]
  constructor
  · intro h x hx
    obtain ⟨i, hi, e⟩ := List.getElem_of_mem hx
    have := h (p (l.getD i 0)) (List.mem_map.mpr ⟨i, List.mem_range.mpr hi, rfl⟩)
    rw [List.getD_eq_getElem?_getD, List.getElem?_eq_getElem hi] at this
    rw [← e]
    exact this
  · intro h b hb
    obtain ⟨i, hi, e⟩ := List.mem_map.mp hb
    rw [← e]
    have hi' := List.mem_range.mp hi
    rw [List.getD_eq_getElem?_getD, List.getElem?_eq_getElem hi']
    exact h _ (List.getElem_mem hi')
theorem plainTil : (List.range 128).all (fun c => decide (c ≠ 37) && Unicode.isPrintable c == signOk c || decide (c = 37)) = true := by decide +kernel
theorem plainSign {c : Nat} (h : c < 128) (h2 : c ≠ 37) : Unicode.isPrintable c = signOk c := by
  have := List.all_eq_true.mp plainTil c (List.mem_range.mpr h)
  rw [decide_eq_true h2, decide_eq_false h2, Bool.true_and, Bool.or_false] at this
  exact eq_of_beq this
theorem signAscii {c : Nat} (h : signOk c = true) : c < 128 ∧ c ≠ 37 := by
  unfold signOk at h
  rw [Bool.and_eq_true, Bool.and_eq_true, decide_eq_true_eq, decide_eq_true_eq, decide_eq_true_eq] at h
  omega
theorem okT_as (z : Str) : z.cps.toList.all signOk = (Txt.isascii z && (Txt.isprintable z && decide ((TD.gone 37 z.cps.toList).length = z.cps.toList.length))) := by
  have e1 : Txt.isascii z = z.cps.toList.all (fun c => decide (c < 128)) := by
    show z.cps.all _ = _
    rw [Array.all_toList]
  have e2 : Txt.isprintable z = z.cps.toList.all Unicode.isPrintable := by
    show z.cps.all _ = _
    rw [Array.all_toList]
  rw [e1, e2, Bool.eq_iff_iff, Bool.and_eq_true, Bool.and_eq_true, decide_eq_true_eq, TD.goneLen]
  simp only [List.all_eq_true, decide_eq_true_eq]
  constructor
  · intro h
    refine ⟨fun c hc => (signAscii (h c hc)).1, fun c hc => ?_, fun c hc => (signAscii (h c hc)).2⟩
    rw [plainSign (signAscii (h c hc)).1 (signAscii (h c hc)).2]
    exact h c hc
  · intro ⟨h1, h2, h3⟩ c hc
    rw [← plainSign (h1 c hc) (h3 c hc)]
    exact h2 c hc
theorem okText {k : Nat} (F : FnP K "is_text" (top 6) f fd) (B : Bn mg) (g1 : IntG mg "LONGEST_TEXT" 400) : FnOk P w K mg base CX0 (k + 1) f fd ["value"] (spIs K isTx) := by
  refine F.ok scText (fun vs H Q E h => ?_) (fun cdv A outer s H vs Q E hr h => ?_)
  · obtain ⟨v, d, rfl, _⟩ := h
    rfl
  · obtain ⟨v, d, rfl, hd, od, q⟩ := h
    refine ⟨_, PSs.nox (pss_cons (ps_if (PW.pt (pw_or (pt_not (pt_val (pe_callB call_isi (by rfl) B.isi (by decide +kernel) (pa_cons (pv 0) (pa_cons (pe_bltn (v := .ty "str") (by rfl) B.str (by decide +kernel) rfl) pa_nil)))))
        (pw_or (pt_cmpR op_gt (pe_callB call_len_str (by rfl) B.len PySem.boot_len (pa_cons (pv 0) pa_nil)) (C8.pe_gc (by rfl) g1.gc) (nomark _))
        (pw_or (pt_not (pt_val (pe_bm0 PySem.F.plainAttrs_str PySem.F.slot_str_isascii PySem.F.type_str_isascii mt_isascii (pv 0))))
        (pw_or1 (pt_not (pt_val (pe_bm0 PySem.F.plainAttrs_str PySem.F.slot_str_isprintable PySem.F.type_str_isprintable mt_isprintable (pv 0))))))))) (pss_one (ps_ret pe_bl)) pss_nil) (pss_one (ps_ret (pe_cmpR op_eq (pe_callB call_len_str (by rfl) B.len PySem.boot_len (pa_cons (pe_bm PySem.F.plainAttrs_str PySem.F.slot_str_translate PySem.F.type_str_translate (TD.mt_drop (n := 37) rfl) (pv 0)
          (pa_cons (pe_disp (pps_cons pe_int pe_non pps_nil) (by rfl) (by rfl) (fun z => by cases z) (by decide)) pa_nil)) pa_nil))
        (pe_callB call_len_str (by rfl) B.len PySem.boot_len (pa_cons (pv 0) pa_nil)) (nomark _))))), ?_⟩
    refine ⟨v, rfl, v, .ty "str", _, _, _, rfl, .ty _, dpTy hd, dpKit hd (.inr (.inl rfl)), _, rfl, ?_⟩
    cases od with
    | @str _ z sok len =>
      cases hd
      have hq : ∀ H', Same H H' → ∀ b, okT z = b → Q (.bl b) H' := fun H' s' b e => e ▸ q H' s'
      refine iteF ⟨.str z, rfl, z, rfl, by rw [sizeLine_eq]; omega, _, _, rfl, rfl, _, rfl, ite2 (fun e => ?_) (fun e => ?_)⟩
      · have e1 : (400 : Int) < (z.length : Int) := of_decide_eq_true e
        exact hq H (Same.refl H) _ (by unfold okT; rw [decide_eq_false (by omega), Bool.false_and])
      · have e1 : ¬ (400 : Int) < (z.length : Int) := fun y => e (decide_eq_true y)
        have e2 : okT z = (Txt.isascii z && (Txt.isprintable z && decide ((TD.gone 37 z.cps.toList).length = z.cps.toList.length))) := by
          rw [← okT_as]
          unfold okT
          rw [decide_eq_true (by omega), Bool.true_and]
        refine ⟨.str z, rfl, rfl, z, rfl, rfl, trivial, _, rfl, ?_⟩
        cases ha : Txt.isascii z with
        | false => exact iteT (hq H (Same.refl H) _ (by rw [e2, ha, Bool.false_and]))
        | true =>
          refine iteF ⟨.str z, rfl, rfl, z, rfl, rfl, trivial, _, rfl, ?_⟩
          cases hp : Txt.isprintable z with
          | false => exact iteT (hq H (Same.refl H) _ (by rw [e2, hp, Bool.false_and, Bool.and_false]))
          | true =>
            rw [ha, hp, Bool.true_and, Bool.true_and] at e2
            refine iteF ⟨.str z, rfl, rfl, fun D hD => ⟨upd_same .., [(Sum.inl 37, V.non)], rfl, by decide, z, D, rfl, rfl, upd_same .., ha, by omega, _, rfl, ?_, .str z, rfl, z, rfl, by rw [sizeLine_eq]; omega, ?_⟩⟩
            · have := List.length_filter_le (fun c => decide (c ≠ 37)) z.cps.toList
              have e3 : z.cps.toList.length = z.length := rfl
              show (TD.gone 37 z.cps.toList).toArray.size ≤ _
              rw [List.size_toArray, sizeLine_eq]
              unfold TD.gone
              omega
            · refine ⟨rfl, ?_⟩
              have e3 : decide (V.int (((⟨(TD.gone 37 z.cps.toList).toArray⟩ : Str).length : Nat) : Int) = V.int (z.length : Int)) = decide ((TD.gone 37 z.cps.toList).length = z.cps.toList.length) := by
                rw [decide_eq_decide]
                have e4 : (⟨(TD.gone 37 z.cps.toList).toArray⟩ : Str).length = (TD.gone 37 z.cps.toList).length := List.size_toArray
                have e5 : z.cps.toList.length = z.length := rfl
                rw [e4, e5]
                constructor
                · intro y
                  have : ((TD.gone 37 z.cps.toList).length : Int) = (z.length : Int) := by injection y
                  omega
                · intro y
                  rw [y]
              rw [e3]
              exact hq _ (fun b o hb => by
                have ne : b ≠ D := fun e => by rw [e, hD] at hb; cases hb
                rw [upd_ne ne, upd_ne ne]
                exact hb) _ e2
    | non => exact iteT (q H (Same.refl H))
    | bl => exact iteT (q H (Same.refl H))
    | int => exact iteT (q H (Same.refl H))
    | tup => exact iteT (q H (Same.refl H))
end
end K2

set_option Elab.async false
set_option linter.all false
set_option maxRecDepth 100000
set_option maxHeartbeats 4000000
namespace K2
open PySem PySem.Spec PyProof.Rows L2
section
variable {P : Program} {w : World} {K : PySem.W.Frag} {mg : Str → Option Value} {base : Heap} {f : Addr} {fd : FuncData}
theorem nameTil : (List.range 128).all (fun c => (Unicode.isAlnum c && !(Unicode.isUpper c || Unicode.isTitle c)) == nameSign c) = true := by decide +kernel
theorem lowTil : (List.range 128).all (fun c => !letter c || Unicode.isLower c) = true := by decide +kernel
theorem nameIs {c : Nat} (h : c < 128) : (Unicode.isAlnum c && !(Unicode.isUpper c || Unicode.isTitle c)) = nameSign c :=
  eq_of_beq (List.all_eq_true.mp nameTil c (List.mem_range.mpr h))
theorem nameLow {c : Nat} (h : nameSign c = true) : c < 128 := by
  unfold nameSign letter at h
  simp only [Bool.or_eq_true, Bool.and_eq_true, decide_eq_true_eq] at h
  omega
theorem lowIs {c : Nat} (h : letter c = true) : Unicode.isLower c = true := by
  have hc : c < 128 := nameLow (by unfold nameSign; rw [h, Bool.true_or])
  have := List.all_eq_true.mp lowTil c (List.mem_range.mpr hc)
  rw [h] at this
  exact this
theorem okN_as (z : Str) {c0 : Nat} (h0 : z.cps[0]? = some c0) (hl : letter c0 = true) : z.cps.toList.all nameSign = (Txt.isascii z && (Txt.isalnum z && Txt.islower z)) := by
  have m0 : c0 ∈ z.cps.toList := List.mem_of_getElem? (i := 0) (by rw [Array.getElem?_toList]; exact h0)
  have e1 : Txt.isascii z = z.cps.toList.all (fun c => decide (c < 128)) := by
    show z.cps.all _ = _
    rw [Array.all_toList]
  have e2 : Txt.isalnum z = z.cps.toList.all Unicode.isAlnum := by
    show (decide (z.length > 0) && z.cps.all _) = _
    rw [Array.all_toList, decide_eq_true (by show z.cps.toList.length > 0; exact List.length_pos_of_mem m0), Bool.true_and]
  have e3 : Txt.islower z = !z.cps.toList.any (fun c => Unicode.isUpper c || Unicode.isTitle c) := by
    show (z.cps.any _ && !z.cps.any _) = _
    rw [← Array.any_toList, ← Array.any_toList, List.any_eq_true.mpr ⟨c0, m0, lowIs hl⟩, Bool.true_and]
  rw [e1, e2, e3, Bool.eq_iff_iff, Bool.and_eq_true, Bool.and_eq_true, Bool.not_eq_true', List.any_eq_false]
  simp only [List.all_eq_true, decide_eq_true_eq]
  constructor
  · intro h
    refine ⟨fun c hc => nameLow (h c hc), fun c hc => ?_, fun c hc => ?_⟩
    · have := h c hc
      rw [← nameIs (nameLow this), Bool.and_eq_true] at this
      exact this.1
    · have := h c hc
      rw [← nameIs (nameLow this), Bool.and_eq_true, Bool.not_eq_true'] at this
      rw [this.2]
      exact Bool.false_ne_true
  · intro ⟨h1, h2, h3⟩ c hc
    rw [← nameIs (h1 c hc), h2 c hc, Bool.eq_false_iff.mpr (h3 c hc)]
    rfl
theorem scName : FnScope ["value"] ["value"] (defScope (top 7)) := ⟨rfl, rfl, rfl, by decide +kernel, rfl, by decide +kernel, by decide +kernel⟩
theorem okName {k : Nat} (F : FnP K "is_name" (top 7) f fd) (B : Bn mg) (g1 : IntG mg "LONGEST_NAME" 8) : FnOk P w K mg base CX0 (k + 1) f fd ["value"] (spIs K isNm) := by
  refine F.ok scName (fun vs H Q E h => ?_) (fun cdv A outer s H vs Q E hr h => ?_)
  · obtain ⟨v, d, rfl, _⟩ := h
    rfl
  · obtain ⟨v, d, rfl, hd, od, q⟩ := h
    refine ⟨_, PSs.nox (pss_cons (ps_if (PW.pt (pw_or (pt_not (pt_val (pe_callB call_isi (by rfl) B.isi (by decide +kernel) (pa_cons (pv 0) (pa_cons (pe_bltn (v := .ty "str") (by rfl) B.str (by decide +kernel) rfl) pa_nil)))))
        (pw_or1 (pt_not (pt_chain op_le op_le pe_int (pe_callB call_len_str (by rfl) B.len PySem.boot_len (pa_cons (pv 0) pa_nil)) (C8.pe_gc (by rfl) g1.gc)))))) (pss_one (ps_ret pe_bl)) pss_nil) (pss_one (ps_ret (pe_and (pe_chain op_le_str op_le_str pe_str (pe_ix ix_str (pv 0) pe_int (fun _ _ => rfl)) pe_str)
        (pe_and (pe_bm0 PySem.F.plainAttrs_str PySem.F.slot_str_isascii PySem.F.type_str_isascii mt_isascii (pv 0))
        (pe_and (pe_bm0 PySem.F.plainAttrs_str PySem.F.slot_str_isalnum PySem.F.type_str_isalnum mt_isalnum (pv 0))
        (pe_one (pe_bm0 PySem.F.plainAttrs_str PySem.F.slot_str_islower PySem.F.type_str_islower mt_islower (pv 0))))))))), ?_⟩
    refine ⟨v, rfl, v, .ty "str", _, _, _, rfl, .ty _, dpTy hd, dpKit hd (.inr (.inl rfl)), _, rfl, ?_⟩
    cases od with
    | @str _ z sok len =>
      cases hd
      have hq : ∀ H', Same H H' → ∀ b, okN z = b → Q (.bl b) H' := fun H' s' b e => e ▸ q H' s'
      refine iteF ⟨.str z, rfl, z, rfl, by rw [sizeLine_eq]; omega, _, _, rfl, rfl, _, rfl, ?_⟩
      by_cases h1 : 1 ≤ z.length
      · rw [if_pos (decide_eq_true (by omega : (1 : Int) ≤ (z.length : Int)))]
        refine ⟨_, _, rfl, rfl, _, rfl, ?_⟩
        by_cases h2 : z.length ≤ 8
        · rw [decide_eq_true (by omega : (z.length : Int) ≤ 8)]
          refine iteF ?_
          have hz : ∃ c, z.cps[0]? = some c := ⟨z.cps[0]'h1, Array.getElem?_eq_getElem h1⟩
          obtain ⟨c, hc⟩ := hz
          have e1 : okN z = (letter c && z.cps.toList.all nameSign) := by
            unfold okN
            rw [decide_eq_true h1, decide_eq_true h2, Bool.true_and, Bool.true_and, Array.getD_eq_getD_getElem?, hc]
            rfl
          have k1 : (!decide ((⟨#[c]⟩ : Str).cps.toList < ("a" : Str).cps.toList)) = decide (97 ≤ c) := leOne 97 c
          have k2 : (!decide (("z" : Str).cps.toList < (⟨#[c]⟩ : Str).cps.toList)) = decide (c ≤ 122) := leOne c 122
          refine ⟨.str z, rfl, z, 0, c, rfl, rfl, by rw [sizeLine_eq]; omega, atI_nat (j := 0) (by rw [Array.getElem?_toList]; exact hc), _, _, rfl, rfl, _, rfl, ?_⟩
          rw [k1]
          by_cases h3 : 97 ≤ c
          · rw [if_pos (decide_eq_true h3)]
            refine ⟨_, _, rfl, rfl, _, rfl, ?_⟩
            rw [k2]
            by_cases h4 : c ≤ 122
            · have hl : letter c = true := by unfold letter; rw [decide_eq_true h3, decide_eq_true h4]; rfl
              have e2 : okN z = (Txt.isascii z && (Txt.isalnum z && Txt.islower z)) := by rw [e1, hl, Bool.true_and, okN_as z hc hl]
              rw [if_pos (decide_eq_true h4)]
              refine ⟨.str z, rfl, rfl, z, rfl, rfl, trivial, _, rfl, ?_⟩
              cases ha : Txt.isascii z with
              | false => exact hq H (Same.refl H) _ (by rw [e2, ha, Bool.false_and])
              | true =>
                refine iteT ⟨.str z, rfl, rfl, z, rfl, rfl, trivial, _, rfl, ?_⟩
                cases hp : Txt.isalnum z with
                | false => exact hq H (Same.refl H) _ (by rw [e2, hp, Bool.false_and, Bool.and_false])
                | true => exact iteT ⟨.str z, rfl, rfl, z, rfl, rfl, trivial, hq H (Same.refl H) _ (by rw [e2, ha, hp, Bool.true_and, Bool.true_and])⟩
            · rw [if_neg (by simp [h4])]
              have : decide (c ≤ 122) = false := decide_eq_false h4
              exact hq H (Same.refl H) _ (by rw [e1]; unfold letter; rw [this, Bool.and_false, Bool.false_and])
          · rw [if_neg (by simp [h3])]
            have : decide (97 ≤ c) = false := decide_eq_false h3
            exact ⟨_, rfl, hq H (Same.refl H) _ (by rw [e1]; unfold letter; rw [this, Bool.false_and, Bool.false_and])⟩
        · rw [decide_eq_false (by omega : ¬ (z.length : Int) ≤ 8)]
          exact iteT (hq H (Same.refl H) _ (by unfold okN; rw [decide_eq_false h2, Bool.false_and, Bool.and_false]))
      · rw [if_neg (by rw [decide_eq_true_eq]; omega)]
        exact ⟨_, rfl, iteT (hq H (Same.refl H) _ (by unfold okN; rw [decide_eq_false h1, Bool.false_and]))⟩
    | non => exact iteT (q H (Same.refl H))
    | bl => exact iteT (q H (Same.refl H))
    | int => exact iteT (q H (Same.refl H))
    | tup => exact iteT (q H (Same.refl H))
theorem scKey : FnScope ["value"] ["value"] (defScope (top 8)) := ⟨rfl, rfl, rfl, by decide +kernel, rfl, by decide +kernel, by decide +kernel⟩
theorem dInt {i j : Int} : decide (V.int i = V.int j) = decide (i = j) := by
  rw [decide_eq_decide]
  exact ⟨fun h => by injection h, fun h => by rw [h]⟩
theorem okKey {k : Nat} (F : FnP K "is_key" (top 8) f fd) (B : Bn mg) (Nm : Has P w K mg base (k + 2) "is_name" ["value"] (spIs K isNm)) : FnOk P w K mg base CX0 (k + 3) f fd ["value"] (spIs K isKy) := by
  obtain ⟨fN, fdN, gN, kN, bN, GN⟩ := Nm.ex
  refine F.ok scKey (fun vs H Q E h => ?_) (fun cdv A outer s H vs Q E hr h => ?_)
  · obtain ⟨v, d, rfl, _⟩ := h
    rfl
  · obtain ⟨v, d, rfl, hd, od, q⟩ := h
    refine ⟨_, PSs.nox (pss_one (ps_ret (pe_and (pe_callB call_isi (by rfl) B.isi (by decide +kernel) (pa_cons (pv 0) (pa_cons (pe_bltn (v := .ty "tuple") (by rfl) B.tuple (by decide +kernel) rfl) pa_nil)))
      (pe_and (pe_cmpR op_eq (pe_callB call_len_seq (by rfl) B.len PySem.boot_len (pa_cons (pv 0) pa_nil)) pe_int (nomark _))
      (pe_and (pe_call GN hr (by rfl) gN kN bN .nil pass0 (pa_cons (pe_ix ix_tup (pv 0) pe_int (fun _ _ => rfl)) pa_nil)) (pe_one (pe_call GN hr (by rfl) gN kN bN .nil pass0 (pa_cons (pe_ix ix_tup (pv 0) pe_int (fun _ _ => rfl)) pa_nil)))))))), ?_⟩
    refine ⟨v, rfl, v, .ty "tuple", _, _, _, rfl, .ty _, dpTy hd, dpKit hd (.inl rfl), _, rfl, ?_⟩
    cases od with
    | @tup n ds hl hod =>
      cases hd with
      | @tup a xs _ hx hds =>
        have el := dpLen hds
        refine iteT ⟨.ref a, rfl, a, xs, rfl, .inr hx, rfl, _, rfl, ?_⟩
        rw [dInt]
        refine ite2 (fun e => ?_) (fun e => ?_)
        · have e2 : xs.length = 2 := by have := of_decide_eq_true e; omega
          match xs, ds, hds, el, e2 with
          | [x0, x1], [d0, d1], .cons h0 (.cons h1 .nil), _, _ =>
            have o0 := (hod d0 (by simp)).up (m := 60) (by omega)
            have o1 := (hod d1 (by simp)).up (m := 60) (by omega)
            refine ⟨.ref a, rfl, a, _, 0, x0, rfl, rfl, hx, atI_nat (j := 0) rfl, x0, d0, rfl, h0, o0, fun H1 s1 => ⟨_, rfl, ite2 (fun e => ?_) (fun e => ?_)⟩⟩
            · refine ⟨.ref a, rfl, a, _, 1, x1, rfl, rfl, sameTup s1 hx, atI_nat (j := 1) rfl, x1, d1, rfl, dpSame s1 _ _ h1, o1, fun H2 s2 => ?_⟩
              have := q H2 (s1.trans s2)
              rw [show isKy (.tuple [d0, d1]) = (isNm d0 && isNm d1) from rfl, e, Bool.true_and] at this
              exact this
            · have := q H1 s1
              rw [show isKy (.tuple [d0, d1]) = (isNm d0 && isNm d1) from rfl, Bool.eq_false_iff.mpr e, Bool.false_and] at this
              exact this
        · have e2 : xs.length ≠ 2 := fun z => e (by rw [z]; rfl)
          have e3 : isKy (.tuple ds) = false := by
            match ds, el with
            | [], _ => rfl
            | [_], _ => rfl
            | [_, _], el => exact absurd el e2
            | _ :: _ :: _ :: _, _ => rfl
          rw [e3] at q
          exact q H (Same.refl H)
    | non => exact iteF (q H (Same.refl H))
    | bl => exact iteF (q H (Same.refl H))
    | int => exact iteF (q H (Same.refl H))
    | str => exact iteF (q H (Same.refl H))
end
end K2

set_option Elab.async false
set_option linter.all false
set_option maxRecDepth 100000
set_option maxHeartbeats 4000000
namespace K2
open PySem PySem.Spec PyProof.Rows L2
def namesOf : PyData → List Str
  | .tuple [.str a, .str b] => [a, b]
  | _ => []
def areKy : PyData → Bool
  | .tuple ds => decide (1 ≤ ds.length) && (decide (ds.length ≤ 4) && (ds.all isKy && decide ((ds.map namesOf).Nodup)))
  | _ => false
def orNone : PyData → Bool
  | .none => true
  | d => isTx d
def areAn : PyData → Bool
  | .tuple ds => decide (1 ≤ ds.length) && (decide (ds.length ≤ 4) && ds.all orNone)
  | _ => false
def areAr : PyData → Bool
  | .tuple ds => decide (ds.length ≤ 4) && ds.all isTx
  | _ => false
def isIn : PyData → Bool
  | .int _ => true
  | _ => false
def isWord (z : Str) (d : PyData) : Bool := PyData.eqv d (.str z)
def isSt : PyData → Bool
  | .tuple [a, b] => isWord "read" a && areKy b
  | .tuple [a, b, c] => isWord "write" a && (isNm b && isTx c)
  | .tuple ds => PyData.eqv (.tuple ds) (.tuple [.str "stop"])
  | _ => false
def rowsOk : PyData → Bool
  | .tuple ds => ds.all areAn
  | _ => false
def posI : PyData → Bool
  | .int i => decide (0 ≤ i)
  | _ => false
def isPl : PyData → Bool
  | .tuple [r, a, s, c] => isTx r && (areAr a && (rowsOk s && posI c))
  | _ => false
theorem kyShape {d : PyData} (h : isKy d = true) : ∃ a b : Str, d = .tuple [.str a, .str b] := by
  unfold isKy at h
  split at h
  · rename_i a b
    rw [Bool.and_eq_true] at h
    cases a <;> simp [isNm] at h
    cases b <;> simp [isNm] at h
    exact ⟨_, _, rfl⟩
  · cases h
theorem txRow {K : PySem.W.Frag} {H : Hp} : ∀ {ds : List PyData} {xs : List V}, DpAll K H xs ds → ds.all isKy = true → S4.TxRow K H xs (ds.map namesOf)
  | _, _, .nil, _ => .nil
  | _, _, .cons h r, e => by
    rw [List.all_cons, Bool.and_eq_true] at e
    obtain ⟨a, b, rfl⟩ := kyShape e.1
    cases h with
    | tup hx hd =>
      cases hd with
      | cons h1 r1 =>
        cases r1 with
        | cons h2 r2 =>
          cases r2
          cases h1
          cases h2
          exact .cons (k := [a, b]) hx (txRow r e.2)
section
variable {P : Program} {w : World} {K : PySem.W.Frag} {mg : Str → Option Value} {base : Heap} {f : Addr} {fd : FuncData}
theorem scKeys : FnScope ["value", "key"] ["value"] (defScope (top 9)) := ⟨rfl, rfl, rfl, by decide +kernel, rfl, by decide +kernel, by decide +kernel⟩
theorem okKeys {k : Nat} (F : FnP K "are_keys" (top 9) f fd) (B : Bn mg) (g1 : IntG mg "MOST_KEYS" 4) (Ky : Has P w K mg base (k + 3) "is_key" ["value"] (spIs K isKy)) : FnOk P w K mg base CX0 (k + 4) f fd ["value"] (spIs K areKy) := by
  obtain ⟨fN, fdN, gN, kN, bN, GN⟩ := Ky.ex
  refine F.ok scKeys (fun vs H Q E h => ?_) (fun cdv A outer s H vs Q E hr h => ?_)
  · obtain ⟨v, d, rfl, _⟩ := h
    rfl
  · obtain ⟨v, d, rfl, hd, od, q⟩ := h
    refine ⟨_, PSs.nox (pss_cons (ps_if (PW.pt (pw_or (pt_not (pt_val (pe_callB call_isi (by rfl) B.isi (by decide +kernel) (pa_cons (pv 0) (pa_cons (pe_bltn (v := .ty "tuple") (by rfl) B.tuple (by decide +kernel) rfl) pa_nil)))))
        (pw_or1 (pt_not (pt_chain op_le op_le pe_int (pe_callB call_len_seq (by rfl) B.len PySem.boot_len (pa_cons (pv 0) pa_nil)) (C8.pe_gc (by rfl) g1.gc)))))) (pss_one (ps_ret pe_bl)) pss_nil) (pss_one (ps_ret (pe_and (pe_callB (cr_all rfl) (by rfl) B.all (by decide +kernel) (pa_cons (pe_lc (own := [("key", 1)]) (g := gName 1) rfl scKeys.nd (pi_tup (pv 0)) (blkOk_by (N := ["value", "key"]) (sc := defScope (top 9)) (by decide +kernel))
        (fun _ _ _ _ _ => pg_name (i := 1) scKeys.nd rfl (.inl rfl) (hf := .inr rfl)) (fun _ _ _ _ _ => pts_nil)
        (fun _ _ _ _ _ => pe_call GN hr (by rfl) gN kN bN .nil pass0 (pa_cons (pv 1) pa_nil))) pa_nil))
        (pe_one (pe_cmpR op_eq (S4.pe_lenSetT hr.units rfl (by rfl) B.len (by rfl) B.set (pv 0)) (pe_callB call_len_seq (by rfl) B.len PySem.boot_len (pa_cons (pv 0) pa_nil)) (nomark _))))))), ?_⟩
    refine ⟨v, rfl, v, .ty "tuple", _, _, _, rfl, .ty _, dpTy hd, dpKit hd (.inl rfl), _, rfl, ?_⟩
    cases od with
    | @tup n ds hl hod =>
      cases hd with
      | @tup a xs _ hx hds =>
        have el := dpLen hds
        have hq : ∀ H', Same H H' → ∀ b, areKy (.tuple ds) = b → Q (.bl b) H' := fun H' s' b e => e ▸ q H' s'
        refine iteF ⟨.ref a, rfl, a, xs, rfl, .inr hx, _, _, rfl, rfl, _, rfl, ?_⟩
        by_cases h1 : 1 ≤ ds.length
        · rw [if_pos (decide_eq_true (by omega : (1 : Int) ≤ (xs.length : Int)))]
          refine ⟨_, _, rfl, rfl, _, rfl, ?_⟩
          by_cases h2 : ds.length ≤ 4
          · rw [decide_eq_true (by omega : (xs.length : Int) ≤ 4)]
            refine iteF ?_
            have e1 : areKy (.tuple ds) = (ds.all isKy && decide ((ds.map namesOf).Nodup)) := by
              show (decide (1 ≤ ds.length) && (decide (ds.length ≤ 4) && (ds.all isKy && decide ((ds.map namesOf).Nodup)))) = _
              rw [decide_eq_true h1, decide_eq_true h2, Bool.true_and, Bool.true_and]
            refine ⟨.ref a, rfl, a, rfl, ⟨xs, hx⟩, fun D hD => ?_⟩
            refine lcAllT isKy hx hds (by omega) hD (fun v => rfl) (fun v d H1 hm s1 hd R hR => ?_) (fun H1 s1 e3 => ?_)
            · exact ⟨v, rfl, v, d, rfl, hd, (hod d hm).up (by omega), fun H2 s2 => hR H2 s2⟩
            · refine ⟨D, ds.map isKy, rfl, .inl (.inl e3), _, rfl, ?_⟩
              rw [show (ds.map isKy).all id = ds.all isKy by rw [List.all_map]; rfl]
              refine ite2 (fun e => ?_) (fun e => ?_)
              · refine ⟨.ref a, rfl, a, xs, _, rfl, sameTup s1 hx, txRow (dpAllSame s1 _ _ hds) e, by rw [List.length_map]; exact h2, fun m m1 m2 => ?_⟩
                refine ⟨.ref a, rfl, a, xs, rfl, .inr (sameTup s1 hx), rfl, ?_⟩
                rw [dInt]
                refine hq H1 s1 _ ?_
                rw [e1, e, Bool.true_and, decide_eq_decide, ← m2, List.length_map]
                omega
              · exact hq H1 s1 _ (by rw [e1, Bool.eq_false_iff.mpr e, Bool.false_and])
          · rw [decide_eq_false (by omega : ¬ (xs.length : Int) ≤ 4)]
            exact iteT (hq H (Same.refl H) _ (by show (decide (1 ≤ ds.length) && (decide (ds.length ≤ 4) && _)) = _; rw [decide_eq_false h2, Bool.false_and, Bool.and_false]))
        · rw [if_neg (by rw [decide_eq_true_eq]; omega)]
          exact ⟨_, rfl, iteT (hq H (Same.refl H) _ (by show (decide (1 ≤ ds.length) && _) = _; rw [decide_eq_false h1, Bool.false_and]))⟩
    | non => exact iteT (q H (Same.refl H))
    | bl => exact iteT (q H (Same.refl H))
    | int => exact iteT (q H (Same.refl H))
    | str => exact iteT (q H (Same.refl H))
theorem scAns : FnScope ["value", "answer"] ["value"] (defScope (top 10)) := ⟨rfl, rfl, rfl, by decide +kernel, rfl, by decide +kernel, by decide +kernel⟩
theorem okAns {k : Nat} (F : FnP K "are_answers" (top 10) f fd) (B : Bn mg) (g1 : IntG mg "MOST_KEYS" 4) (Tx : Has P w K mg base (k + 1) "is_text" ["value"] (spIs K isTx)) : FnOk P w K mg base CX0 (k + 2) f fd ["value"] (spIs K areAn) := by
  obtain ⟨fN, fdN, gN, kN, bN, GN⟩ := Tx.ex
  refine F.ok scAns (fun vs H Q E h => ?_) (fun cdv A outer s H vs Q E hr h => ?_)
  · obtain ⟨v, d, rfl, _⟩ := h
    rfl
  · obtain ⟨v, d, rfl, hd, od, q⟩ := h
    refine ⟨_, PSs.nox (pss_cons (ps_if (PW.pt (pw_or (pt_not (pt_val (pe_callB call_isi (by rfl) B.isi (by decide +kernel) (pa_cons (pv 0) (pa_cons (pe_bltn (v := .ty "tuple") (by rfl) B.tuple (by decide +kernel) rfl) pa_nil)))))
        (pw_or1 (pt_not (pt_chain op_le op_le pe_int (pe_callB call_len_seq (by rfl) B.len PySem.boot_len (pa_cons (pv 0) pa_nil)) (C8.pe_gc (by rfl) g1.gc)))))) (pss_one (ps_ret pe_bl)) pss_nil) (pss_one (ps_ret (pe_callB (cr_all rfl) (by rfl) B.all (by decide +kernel) (pa_cons (pe_lc (own := [("answer", 1)]) (g := gName 1) rfl scAns.nd (pi_tup (pv 0)) (blkOk_by (N := ["value", "answer"]) (sc := defScope (top 10)) (by decide +kernel))
        (fun _ _ _ _ _ => pg_name (i := 1) scAns.nd rfl (.inl rfl) (hf := .inr rfl)) (fun _ _ _ _ _ => pts_nil)
        (fun _ _ _ _ _ => pe_or (pe_cmpR op_isN (pv 1) pe_non (nomark _)) (pe_one (pe_call GN hr (by rfl) gN kN bN .nil pass0 (pa_cons (pv 1) pa_nil))))) pa_nil))))), ?_⟩
    refine ⟨v, rfl, v, .ty "tuple", _, _, _, rfl, .ty _, dpTy hd, dpKit hd (.inl rfl), _, rfl, ?_⟩
    cases od with
    | @tup n ds hl hod =>
      cases hd with
      | @tup a xs _ hx hds =>
        have el := dpLen hds
        have hq : ∀ H', Same H H' → ∀ b, areAn (.tuple ds) = b → Q (.bl b) H' := fun H' s' b e => e ▸ q H' s'
        refine iteF ⟨.ref a, rfl, a, xs, rfl, .inr hx, _, _, rfl, rfl, _, rfl, ?_⟩
        by_cases h1 : 1 ≤ ds.length
        · rw [if_pos (decide_eq_true (by omega : (1 : Int) ≤ (xs.length : Int)))]
          refine ⟨_, _, rfl, rfl, _, rfl, ?_⟩
          by_cases h2 : ds.length ≤ 4
          · rw [decide_eq_true (by omega : (xs.length : Int) ≤ 4)]
            refine iteF ?_
            refine ⟨.ref a, rfl, a, rfl, ⟨xs, hx⟩, fun D hD => ?_⟩
            refine lcAllT orNone hx hds (by omega) hD (fun v => rfl) (fun v d H1 hm s1 hd R hR => ?_) (fun H1 s1 e3 => ?_)
            · refine ⟨v, rfl, rfl, _, rfl, ?_⟩
              have od2 : Od 60 d := (hod d hm).up (by omega)
              by_cases hn : v = .non
              · subst hn
                cases hd
                exact iteT (hR H1 (Same.refl _))
              · rw [decide_eq_false hn]
                refine iteF ⟨v, rfl, v, d, rfl, hd, od2, fun H2 s2 => ?_⟩
                have := hR H2 s2
                cases hd with
                | non => exact absurd rfl hn
                | _ => exact this
            · refine ⟨D, ds.map orNone, rfl, .inl (.inl e3), ?_⟩
              rw [show (ds.map orNone).all id = ds.all orNone by rw [List.all_map]; rfl]
              refine hq H1 s1 _ ?_
              show (decide (1 ≤ ds.length) && (decide (ds.length ≤ 4) && ds.all orNone)) = _
              rw [decide_eq_true h1, decide_eq_true h2, Bool.true_and, Bool.true_and]
          · rw [decide_eq_false (by omega : ¬ (xs.length : Int) ≤ 4)]
            exact iteT (hq H (Same.refl H) _ (by show (decide (1 ≤ ds.length) && (decide (ds.length ≤ 4) && _)) = _; rw [decide_eq_false h2, Bool.false_and, Bool.and_false]))
        · rw [if_neg (by rw [decide_eq_true_eq]; omega)]
          exact ⟨_, rfl, iteT (hq H (Same.refl H) _ (by show (decide (1 ≤ ds.length) && _) = _; rw [decide_eq_false h1, Bool.false_and]))⟩
    | non => exact iteT (q H (Same.refl H))
    | bl => exact iteT (q H (Same.refl H))
    | int => exact iteT (q H (Same.refl H))
    | str => exact iteT (q H (Same.refl H))
theorem scArg : FnScope ["value", "argument"] ["value"] (defScope (top 11)) := ⟨rfl, rfl, rfl, by decide +kernel, rfl, by decide +kernel, by decide +kernel⟩
theorem okArg {k : Nat} (F : FnP K "are_arguments" (top 11) f fd) (B : Bn mg) (g1 : IntG mg "MOST_ARGUMENTS" 4) (Tx : Has P w K mg base (k + 1) "is_text" ["value"] (spIs K isTx)) : FnOk P w K mg base CX0 (k + 2) f fd ["value"] (spIs K areAr) := by
  obtain ⟨fN, fdN, gN, kN, bN, GN⟩ := Tx.ex
  refine F.ok scArg (fun vs H Q E h => ?_) (fun cdv A outer s H vs Q E hr h => ?_)
  · obtain ⟨v, d, rfl, _⟩ := h
    rfl
  · obtain ⟨v, d, rfl, hd, od, q⟩ := h
    refine ⟨_, PSs.nox (pss_cons (ps_if (PW.pt (pw_or (pt_not (pt_val (pe_callB call_isi (by rfl) B.isi (by decide +kernel) (pa_cons (pv 0) (pa_cons (pe_bltn (v := .ty "tuple") (by rfl) B.tuple (by decide +kernel) rfl) pa_nil)))))
        (pw_or1 (pt_cmpR op_gt (pe_callB call_len_seq (by rfl) B.len PySem.boot_len (pa_cons (pv 0) pa_nil)) (C8.pe_gc (by rfl) g1.gc) (nomark _))))) (pss_one (ps_ret pe_bl)) pss_nil) (pss_one (ps_ret (pe_callB (cr_all rfl) (by rfl) B.all (by decide +kernel) (pa_cons (pe_lc (own := [("argument", 1)]) (g := gName 1) rfl scArg.nd (pi_tup (pv 0)) (blkOk_by (N := ["value", "argument"]) (sc := defScope (top 11)) (by decide +kernel))
        (fun _ _ _ _ _ => pg_name (i := 1) scArg.nd rfl (.inl rfl) (hf := .inr rfl)) (fun _ _ _ _ _ => pts_nil)
        (fun _ _ _ _ _ => pe_call GN hr (by rfl) gN kN bN .nil pass0 (pa_cons (pv 1) pa_nil))) pa_nil))))), ?_⟩
    refine ⟨v, rfl, v, .ty "tuple", _, _, _, rfl, .ty _, dpTy hd, dpKit hd (.inl rfl), _, rfl, ?_⟩
    cases od with
    | @tup n ds hl hod =>
      cases hd with
      | @tup a xs _ hx hds =>
        have el := dpLen hds
        have hq : ∀ H', Same H H' → ∀ b, areAr (.tuple ds) = b → Q (.bl b) H' := fun H' s' b e => e ▸ q H' s'
        refine iteF ⟨.ref a, rfl, a, xs, rfl, .inr hx, _, _, rfl, rfl, _, rfl, ite2 (fun e => ?_) (fun e => ?_)⟩
        · have e1 : (4 : Int) < (xs.length : Int) := of_decide_eq_true e
          exact hq H (Same.refl H) _ (by show (decide (ds.length ≤ 4) && _) = _; rw [decide_eq_false (by omega), Bool.false_and])
        · have e1 : ¬ (4 : Int) < (xs.length : Int) := fun y => e (decide_eq_true y)
          refine ⟨.ref a, rfl, a, rfl, ⟨xs, hx⟩, fun D hD => ?_⟩
          refine lcAllT isTx hx hds (by omega) hD (fun v => rfl) (fun v d H1 hm s1 hd R hR => ?_) (fun H1 s1 e3 => ?_)
          · exact ⟨v, rfl, v, d, rfl, hd, (hod d hm).up (by omega), fun H2 s2 => hR H2 s2⟩
          · refine ⟨D, ds.map isTx, rfl, .inl (.inl e3), ?_⟩
            rw [show (ds.map isTx).all id = ds.all isTx by rw [List.all_map]; rfl]
            refine hq H1 s1 _ ?_
            show (decide (ds.length ≤ 4) && ds.all isTx) = _
            rw [decide_eq_true (by omega), Bool.true_and]
    | non => exact iteT (q H (Same.refl H))
    | bl => exact iteT (q H (Same.refl H))
    | int => exact iteT (q H (Same.refl H))
    | str => exact iteT (q H (Same.refl H))
theorem scInt : FnScope ["value"] ["value"] (defScope (top 5)) := ⟨rfl, rfl, rfl, by decide +kernel, rfl, by decide +kernel, by decide +kernel⟩
theorem okInt {k : Nat} (F : FnP K "is_integer" (top 5) f fd) (B : Bn mg) : FnOk P w K mg base CX0 (k + 1) f fd ["value"] (spIs K isIn) := by
  refine F.ok scInt (fun vs H Q E h => ?_) (fun cdv A outer s H vs Q E hr h => ?_)
  · obtain ⟨v, d, rfl, _⟩ := h
    rfl
  · obtain ⟨v, d, rfl, hd, od, q⟩ := h
    refine ⟨_, PSs.nox (pss_one (ps_ret (pe_and (pe_callB call_isi (by rfl) B.isi (by decide +kernel) (pa_cons (pv 0) (pa_cons (pe_bltn (v := .ty "int") (by rfl) B.int (by decide +kernel) rfl) pa_nil)))
      (pe_one (pe_not (pe_callB call_isi (by rfl) B.isi (by decide +kernel) (pa_cons (pv 0) (pa_cons (pe_bltn (v := .ty "bool") (by rfl) B.bool (by decide +kernel) rfl) pa_nil)))))))), ?_⟩
    refine ⟨v, rfl, v, .ty "int", _, _, _, rfl, .ty _, dpTy hd, dpKit hd (.inr (.inr (.inl rfl))), _, rfl, ?_⟩
    have k2 := @dpKit K H v d hd "bool" (.inr (.inr (.inr (.inl rfl))))
    have t2 := dpTy hd
    cases od with
    | int => exact iteT ⟨v, rfl, v, .ty "bool", _, _, _, rfl, .ty _, t2, k2, _, rfl, q H (Same.refl H)⟩
    | bl => exact iteT ⟨v, rfl, v, .ty "bool", _, _, _, rfl, .ty _, t2, k2, _, rfl, q H (Same.refl H)⟩
    | non => exact iteF (q H (Same.refl H))
    | str => exact iteF (q H (Same.refl H))
    | tup => exact iteF (q H (Same.refl H))
end
end K2

set_option Elab.async false
set_option linter.all false
set_option maxRecDepth 100000
set_option maxHeartbeats 4000000
namespace K2
open PySem PySem.Spec PyProof.Rows L2
theorem strSh (z : Str) (h : SOk z) : SeqAt.shaped (.str z) = true := by
  unfold SeqAt.shaped
  have e : (PyData.str z).canLay0 = true := h
  rw [e]
  rfl
section
variable {P : Program} {w : World} {K : PySem.W.Frag} {mg : Str → Option Value} {base : Heap} {f : Addr} {fd : FuncData}
theorem scStep : FnScope ["value"] ["value"] (defScope (top 12)) := ⟨rfl, rfl, rfl, by decide +kernel, rfl, by decide +kernel, by decide +kernel⟩
theorem okStep {k : Nat} (F : FnP K "is_step" (top 12) f fd) (B : Bn mg) (Nm : Has P w K mg base (k + 4) "is_name" ["value"] (spIs K isNm)) (Tx : Has P w K mg base (k + 4) "is_text" ["value"] (spIs K isTx)) (Ks : Has P w K mg base (k + 4) "are_keys" ["value"] (spIs K areKy)) : FnOk P w K mg base CX0 (k + 5) f fd ["value"] (spIs K isSt) := by
  obtain ⟨fN, fdN, gN, kN, bN, GN⟩ := Nm.ex
  obtain ⟨fT, fdT, gT, kT, bT, GT⟩ := Tx.ex
  obtain ⟨fK, fdK, gK, kK, bK, GK⟩ := Ks.ex
  refine F.ok scStep (fun vs H Q E h => ?_) (fun cdv A outer s H vs Q E hr h => ?_)
  · obtain ⟨v, d, rfl, _⟩ := h
    rfl
  · obtain ⟨v, d, rfl, hd, od, q⟩ := h
    refine ⟨_, PSs.nox (pss_cons (ps_if (pt_not (pt_val (pe_callB call_isi (by rfl) B.isi (by decide +kernel) (pa_cons (pv 0) (pa_cons (pe_bltn (v := .ty "tuple") (by rfl) B.tuple (by decide +kernel) rfl) pa_nil))))) (pss_one (ps_ret pe_bl)) pss_nil) (pss_cons (ps_if (pt_cmpR op_eq (pe_callB call_len_seq (by rfl) B.len PySem.boot_len (pa_cons (pv 0) pa_nil)) pe_int (nomark _)) (pss_one (ps_ret (pe_and (pe_cmpR (op_eqD hr.units) (pe_ix ix_tup (pv 0) pe_int (fun _ _ => rfl)) pe_str (nomark _)) (pe_one (pe_call GK hr (by rfl) gK kK bK .nil pass0 (pa_cons (pe_ix ix_tup (pv 0) pe_int (fun _ _ => rfl)) pa_nil)))))) pss_nil) (pss_cons (ps_if (pt_cmpR op_eq (pe_callB call_len_seq (by rfl) B.len PySem.boot_len (pa_cons (pv 0) pa_nil)) pe_int (nomark _)) (pss_one (ps_ret (pe_and (pe_cmpR (op_eqD hr.units) (pe_ix ix_tup (pv 0) pe_int (fun _ _ => rfl)) pe_str (nomark _))
        (pe_and (pe_call GN hr (by rfl) gN kN bN .nil pass0 (pa_cons (pe_ix ix_tup (pv 0) pe_int (fun _ _ => rfl)) pa_nil)) (pe_one (pe_call GT hr (by rfl) gT kT bT .nil pass0 (pa_cons (pe_ix ix_tup (pv 0) pe_int (fun _ _ => rfl)) pa_nil))))))) pss_nil) (pss_one (ps_ret (pe_cmpR (op_eqD hr.units) (pv 0) (pe_tup (pa_cons (pe_str) pa_nil)) (nomark _))))))), ?_⟩
    refine ⟨v, rfl, v, .ty "tuple", _, _, _, rfl, .ty _, dpTy hd, dpKit hd (.inl rfl), _, rfl, ?_⟩
    have osh := od.shaped (by omega)
    cases od with
    | @tup n ds hl hod =>
      cases hd with
      | @tup a xs _ hx hds =>
        have el := dpLen hds
        have hq : ∀ H', Same H H' → ∀ b, isSt (.tuple ds) = b → Q (.bl b) H' := fun H' s' b e => e ▸ q H' s'
        refine iteF ⟨.ref a, rfl, a, xs, rfl, .inr hx, rfl, _, rfl, ?_⟩
        rw [dInt]
        refine ite2 (fun e => ?_) (fun e => ?_)
        · have e2 : xs.length = 2 := by have := of_decide_eq_true e; omega
          match xs, ds, hds, el, e2 with
          | [x0, x1], [d0, d1], .cons h0 (.cons h1 .nil), _, _ =>
            have o0 := hod d0 (by simp)
            have o1 := (hod d1 (by simp)).up (m := 60) (by omega)
            refine ⟨.ref a, rfl, a, _, 0, x0, rfl, rfl, hx, atI_nat (j := 0) rfl, d0, .str "read", h0, .str _, o0.shaped (by omega), strSh _ (by unfold SOk; decide +kernel), _, rfl, ite2 (fun e => ?_) (fun e => ?_)⟩
            · refine ⟨.ref a, rfl, a, _, 1, x1, rfl, rfl, hx, atI_nat (j := 1) rfl, x1, d1, rfl, h1, o1, fun H2 s2 => hq H2 s2 _ ?_⟩
              show (isWord "read" d0 && areKy d1) = areKy d1
              rw [show isWord "read" d0 = true from e, Bool.true_and]
            · refine hq H (Same.refl H) _ ?_
              show (isWord "read" d0 && areKy d1) = false
              rw [show isWord "read" d0 = false from Bool.eq_false_iff.mpr e, Bool.false_and]
        · have e2 : ds.length ≠ 2 := fun z => e (decide_eq_true (by omega))
          refine ⟨.ref a, rfl, a, xs, rfl, .inr hx, rfl, _, rfl, ?_⟩
          rw [dInt]
          refine ite2 (fun e => ?_) (fun e => ?_)
          · have e3 : xs.length = 3 := by have := of_decide_eq_true e; omega
            match xs, ds, hds, el, e3 with
            | [x0, x1, x2], [d0, d1, d2], .cons h0 (.cons h1 (.cons h2 .nil)), _, _ =>
              have o0 := hod d0 (by simp)
              have o1 := (hod d1 (by simp)).up (m := 60) (by omega)
              have o2 := (hod d2 (by simp)).up (m := 60) (by omega)
              have hs : isSt (.tuple [d0, d1, d2]) = (isWord "write" d0 && (isNm d1 && isTx d2)) := rfl
              refine ⟨.ref a, rfl, a, _, 0, x0, rfl, rfl, hx, atI_nat (j := 0) rfl, d0, .str "write", h0, .str _, o0.shaped (by omega), strSh _ (by unfold SOk; decide +kernel), _, rfl, ite2 (fun e => ?_) (fun e => ?_)⟩
              · have ew : isWord "write" d0 = true := e
                refine ⟨.ref a, rfl, a, _, 1, x1, rfl, rfl, hx, atI_nat (j := 1) rfl, x1, d1, rfl, h1, o1, fun H2 s2 => ⟨_, rfl, ite2 (fun e => ?_) (fun e => ?_)⟩⟩
                · refine ⟨.ref a, rfl, a, _, 2, x2, rfl, rfl, sameTup s2 hx, atI_nat (j := 2) rfl, x2, d2, rfl, dpSame s2 _ _ h2, o2, fun H3 s3 => hq H3 (s2.trans s3) _ ?_⟩
                  rw [hs, ew, e, Bool.true_and, Bool.true_and]
                · exact hq H2 s2 _ (by rw [hs, ew, Bool.eq_false_iff.mpr e]; rfl)
              · have ew : isWord "write" d0 = false := Bool.eq_false_iff.mpr e
                refine hq H (Same.refl H) _ ?_
                rw [hs, ew, Bool.false_and]
          · have e3 : ds.length ≠ 3 := fun z => e (decide_eq_true (by omega))
            refine ⟨.ref a, rfl, (by show 1 ≤ sizeLine; decide), fun p hp => ?_⟩
            refine ⟨.tuple ds, .tuple [.str "stop"], .tup (sameTup (sameUpd hp) hx) (dpAllSame (sameUpd hp) _ _ hds), .tup (.inl (.inl upd_same)) (.cons (.str _) .nil), osh, by decide +kernel, hq _ (sameUpd hp) _ ?_⟩
            match ds, e2, e3 with
            | [], _, _ => rfl
            | [_], _, _ => rfl
            | _ :: _ :: _ :: _ :: _, _, _ => rfl
    | non => exact iteT (q H (Same.refl H))
    | bl => exact iteT (q H (Same.refl H))
    | int => exact iteT (q H (Same.refl H))
    | str => exact iteT (q H (Same.refl H))
theorem scPlace : FnScope ["value", "recipe", "arguments", "answers", "count", "row"] ["value"] (defScope (top 13)) := ⟨rfl, rfl, rfl, by decide +kernel, rfl, by decide +kernel, by decide +kernel⟩
theorem okPlace {k : Nat} (F : FnP K "is_place" (top 13) f fd) (B : Bn mg) (Tx : Has P w K mg base (k + 2) "is_text" ["value"] (spIs K isTx)) (An : Has P w K mg base (k + 2) "are_answers" ["value"] (spIs K areAn)) (Ar : Has P w K mg base (k + 2) "are_arguments" ["value"] (spIs K areAr))
    (In : Has P w K mg base (k + 2) "is_integer" ["value"] (spIs K isIn)) : FnOk P w K mg base CX0 (k + 3) f fd ["value"] (spIs K isPl) := by
  obtain ⟨fT, fdT, gT, kT, bT, GT⟩ := Tx.ex
  obtain ⟨fA, fdA, gA, kA, bA, GA⟩ := An.ex
  obtain ⟨fR, fdR, gR, kR, bR, GR⟩ := Ar.ex
  obtain ⟨fI, fdI, gI, kI, bI, GI⟩ := In.ex
  refine F.ok scPlace (fun vs H Q E h => ?_) (fun cdv A outer s H vs Q E hr h => ?_)
  · obtain ⟨v, d, rfl, _⟩ := h
    rfl
  · obtain ⟨v, d, rfl, hd, od, q⟩ := h
    refine ⟨_, PSs.nox (pss_cons (ps_if (PW.pt (pw_or (pt_not (pt_val (pe_callB call_isi (by rfl) B.isi (by decide +kernel) (pa_cons (pv 0) (pa_cons (pe_bltn (v := .ty "tuple") (by rfl) B.tuple (by decide +kernel) rfl) pa_nil)))))
        (pw_or1 (pt_cmpR op_ne (pe_callB call_len_seq (by rfl) B.len PySem.boot_len (pa_cons (pv 0) pa_nil)) pe_int (nomark _))))) (pss_one (ps_ret pe_bl)) pss_nil) (pss_cons (ps_asg (pv 0) (pg_tup rfl (pgs_cons (pg_name (i := 1) scPlace.nd rfl (.inl rfl)) (pgs_cons (pg_name (i := 2) scPlace.nd rfl (.inl rfl)) (pgs_cons (pg_name (i := 3) scPlace.nd rfl (.inl rfl)) (pgs_cons (pg_name (i := 4) scPlace.nd rfl (.inl rfl)) pgs_nil)))))) (pss_cons (ps_if (PW.pt (pw_or (pt_not (pt_val (pe_call GT hr (by rfl) gT kT bT .nil pass0 (pa_cons (pv 1) pa_nil)))) (pw_or (pt_not (pt_val (pe_call GR hr (by rfl) gR kR bR .nil pass0 (pa_cons (pv 2) pa_nil))))
        (pw_or1 (pt_not (pt_val (pe_callB call_isi (by rfl) B.isi (by decide +kernel) (pa_cons (pv 3) (pa_cons (pe_bltn (v := .ty "tuple") (by rfl) B.tuple (by decide +kernel) rfl) pa_nil))))))))) (pss_one (ps_ret pe_bl)) pss_nil) (pss_one (ps_ret (pe_and (pe_callB (cr_all rfl) (by rfl) B.all (by decide +kernel) (pa_cons (pe_lc (own := [("row", 5)]) (g := gName 5) rfl scPlace.nd (pi_tup (pv 3)) (blkOk_by (N := ["value", "recipe", "arguments", "answers", "count", "row"]) (sc := defScope (top 13)) (by decide +kernel))
        (fun _ _ _ _ _ => pg_name (i := 5) scPlace.nd rfl (.inl rfl) (hf := .inr rfl)) (fun _ _ _ _ _ => pts_nil)
        (fun _ _ _ _ _ => pe_call GA hr (by rfl) gA kA bA .nil pass0 (pa_cons (pv 5) pa_nil))) pa_nil))
        (pe_and (pe_call GI hr (by rfl) gI kI bI .nil pass0 (pa_cons (pv 4) pa_nil)) (pe_one (pe_cmpR op_ge (pv 4) pe_int (nomark _)))))))))), ?_⟩
    refine ⟨v, rfl, v, .ty "tuple", _, _, _, rfl, .ty _, dpTy hd, dpKit hd (.inl rfl), _, rfl, ?_⟩
    cases od with
    | @tup n ds hl hod =>
      cases hd with
      | @tup a xs _ hx hds =>
        have el := dpLen hds
        have hq : ∀ H', Same H H' → ∀ b, isPl (.tuple ds) = b → Q (.bl b) H' := fun H' s' b e => e ▸ q H' s'
        refine iteF ⟨.ref a, rfl, a, xs, rfl, .inr hx, rfl, _, rfl, ?_⟩
        rw [dInt]
        by_cases e4 : ds.length = 4
        · rw [decide_eq_true (by omega : (xs.length : Int) = 4)]
          refine iteF ?_
          have e5 : xs.length = 4 := by omega
          match xs, ds, hds, el, e5 with
          | [x0, x1, x2, x3], [d0, d1, d2, d3], .cons h0 (.cons h1 (.cons h2 (.cons h3 .nil))), _, _ =>
            have o0 := (hod d0 (by simp)).up (m := 60) (by omega)
            have o1 := (hod d1 (by simp)).up (m := 60) (by omega)
            have o2 := hod d2 (by simp)
            have o3 := (hod d3 (by simp)).up (m := 60) (by omega)
            have hs : isPl (.tuple [d0, d1, d2, d3]) = (isTx d0 && (areAr d1 && (rowsOk d2 && posI d3))) := rfl
            refine ⟨.ref a, rfl, a, _, rfl, hx, rfl, x0, _, rfl, x1, _, rfl, x2, _, rfl, x3, _, rfl, rfl, ?_⟩
            refine ⟨x0, rfl, x0, d0, rfl, h0, o0, fun H1 s1 => ⟨_, rfl, ?_⟩⟩
            cases c0 : isTx d0 with
            | false => exact iteT (hq H1 s1 _ (by rw [hs, c0]; rfl))
            | true =>
              refine iteF ⟨x1, rfl, x1, d1, rfl, dpSame s1 _ _ h1, o1, fun H2 s2 => ⟨_, rfl, ?_⟩⟩
              have s12 := s1.trans s2
              cases c1 : areAr d1 with
              | false => exact iteT (hq H2 s12 _ (by rw [hs, c0, c1]; rfl))
              | true =>
                have h2' := dpSame s12 _ _ h2
                refine iteF ⟨x2, rfl, x2, .ty "tuple", _, _, _, rfl, .ty _, dpTy h2', dpKit h2' (.inl rfl), _, rfl, ?_⟩
                cases o2 with
                | @tup n es hl2 hod2 =>
                  cases h2' with
                  | @tup b ys _ hy hes =>
                    refine iteF ⟨.ref b, rfl, b, rfl, ⟨ys, hy⟩, fun D hD => ?_⟩
                    refine lcAllT areAn hy hes (by omega) hD (fun v => rfl) (fun v d H3 hm s3 hd R hR => ?_) (fun H3 s3 e3 => ?_)
                    · exact ⟨v, rfl, v, d, rfl, hd, (hod2 d hm).up (by omega), fun H4 s4 => hR H4 s4⟩
                    · refine ⟨D, es.map areAn, rfl, .inl (.inl e3), _, rfl, ?_⟩
                      rw [show (es.map areAn).all id = rowsOk (.tuple es) by rw [List.all_map]; rfl]
                      refine ite2 (fun c2 => ?_) (fun c2 => ?_)
                      · refine ⟨x3, rfl, x3, d3, rfl, dpSame (s12.trans s3) _ _ h3, o3, fun H4 s4 => ⟨_, rfl, ?_⟩⟩
                        have s5 := (s12.trans s3).trans s4
                        cases o3 with
                        | int n i =>
                          cases h3
                          refine iteT ⟨.int i, rfl, i, 0, rfl, rfl, hq H4 s5 _ ?_⟩
                          rw [hs, c0, c1, c2]
                          show decide (0 ≤ i) = decide (i ≥ 0)
                          rfl
                        | non => exact iteF (hq H4 s5 _ (by rw [hs, c0, c1, c2]; rfl))
                        | bl => exact iteF (hq H4 s5 _ (by rw [hs, c0, c1, c2]; rfl))
                        | str => exact iteF (hq H4 s5 _ (by rw [hs, c0, c1, c2]; rfl))
                        | tup => exact iteF (hq H4 s5 _ (by rw [hs, c0, c1, c2]; rfl))
                      · exact hq H3 (s12.trans s3) _ (by rw [hs, c0, c1, Bool.eq_false_iff.mpr c2]; rfl)
                | non => exact iteT (hq H2 s12 _ (by rw [hs, c0, c1]; rfl))
                | bl => exact iteT (hq H2 s12 _ (by rw [hs, c0, c1]; rfl))
                | int => exact iteT (hq H2 s12 _ (by rw [hs, c0, c1]; rfl))
                | str => exact iteT (hq H2 s12 _ (by rw [hs, c0, c1]; rfl))
        · rw [decide_eq_false (by omega : ¬ (xs.length : Int) = 4)]
          refine iteT (hq H (Same.refl H) _ ?_)
          match ds, e4 with
          | [], _ => rfl
          | [_], _ => rfl
          | [_, _], _ => rfl
          | [_, _, _], _ => rfl
          | _ :: _ :: _ :: _ :: _ :: _, _ => rfl
    | non => exact iteT (q H (Same.refl H))
    | bl => exact iteT (q H (Same.refl H))
    | int => exact iteT (q H (Same.refl H))
    | str => exact iteT (q H (Same.refl H))
end
end K2

set_option Elab.async false
set_option linter.all false
set_option maxRecDepth 100000
set_option maxHeartbeats 4000000
namespace K2.La
open PySem PySem.Spec PyProof.Rows L2
section
variable {P : Program} {w : World} {K : PySem.W.Frag} {mg : Str → Option Value} {base : Heap} {f : Addr} {fd : FuncData}
def signs1 : Str := " !\"#$&'()*+,-./0123456789:;<=>?@ABCDEFGHIJKLMNOPQRSTUVWXYZ"
def signs2 : Str := "[\\]^_`abcdefghijklmnopqrstuvwxyz{|}~"
def signs : Str := signs1 ++ signs2
theorem signsSmall : (signs.cps.toList.all fun c => decide (c < 127)) = true := by decide +kernel
theorem signsBelow : ((List.range 127).all fun c => decide (c ∈ signs.cps.toList) == signOk c) = true := by decide +kernel
theorem signsAre (c : Nat) : decide (c ∈ signs.cps.toList) = signOk c := by
  by_cases h : c < 127
  · exact beq_iff_eq.mp (List.all_eq_true.mp signsBelow c (List.mem_range.mpr h))
  · have h1 : c ∉ signs.cps.toList := fun hm => h (of_decide_eq_true (List.all_eq_true.mp signsSmall c hm))
    rw [decide_eq_false h1]
    unfold signOk
    rw [decide_eq_false (by omega : ¬ c ≤ 126), Bool.false_and, Bool.and_false]
def spSigns : Sp := fun vs H Q _ => vs = [] ∧ Q (.str signs) H
theorem scSigns : FnScope ["_law_signs_here"] [] (defScope (top 23)) := ⟨rfl, rfl, rfl, by decide +kernel, rfl, by decide +kernel, by decide +kernel⟩
theorem okSigns {k : Nat} (F : FnP K "_law_signs" (top 23) f fd) : FnOk P w K mg base CX0 (k + 1) f fd [] spSigns := by
  refine F.ok scSigns (fun vs H Q E h => ?_) (fun cdv A outer s H vs Q E hr h => ?_)
  · obtain ⟨rfl, _⟩ := h
    rfl
  · obtain ⟨rfl, q⟩ := h
    refine ⟨_, PSs.nox (pss_cons (ps_set (i := 0) scSigns.nd rfl (.inl rfl) pe_str) (pss_one (ps_ret (pe_op op_add_str (pv 0) pe_str)))), ?_⟩
    exact ⟨_, rfl, _, _, rfl, rfl, by decide +kernel, q⟩
theorem sokAt {z : Str} (h : SOk z) {i c : Nat} (e : z.cps[i]? = some c) : SOk ⟨#[c]⟩ := by
  have h1 := Array.all_eq_true'.mp h c (Array.mem_of_getElem? e)
  unfold SOk
  simpa using h1
theorem scText : FnScope ["_law_value", "_law_signs_here", "_law_sign"] ["_law_value"] (defScope (top 22)) := ⟨rfl, rfl, rfl, by decide +kernel, rfl, by decide +kernel, by decide +kernel⟩
theorem allIff (l : List Nat) (p : Nat → Bool) : (∀ i, i < l.length → (!p (l.getD i 0)) = false) ↔ l.all p = true := by
  rw [List.all_eq_true]
  constructor
  · intro h x hx
    obtain ⟨i, hi, e⟩ := List.getElem_of_mem hx
    have := h i hi
    rw [List.getD_eq_getElem?_getD, List.getElem?_eq_getElem hi] at this
    rw [← e]
    simpa using this
  · intro h i hi
    rw [List.getD_eq_getElem?_getD, List.getElem?_eq_getElem hi]
    simpa using h _ (List.getElem_mem hi)
theorem okText {k : Nat} (F : FnP K "_law_is_text" (top 22) f fd) (B : Bn mg) (Sg : Has P w K mg base (k + 1) "_law_signs" [] spSigns) : FnOk P w K mg base CX0 (k + 2) f fd ["_law_value"] (spIs K isTx) := by
  obtain ⟨fS, fdS, gS, kS, bS, GS⟩ := Sg.ex
  refine F.ok scText (fun vs H Q E h => ?_) (fun cdv A outer s H vs Q E hr h => ?_)
  · obtain ⟨v, d, rfl, _⟩ := h
    rfl
  · obtain ⟨v, d, rfl, hd, od, q⟩ := h
    refine ⟨_, PSs.nox (pss_cons (ps_if (PW.pt (pw_or (pt_not (pt_val (pe_callB call_isi (by rfl) B.isi (by decide +kernel) (pa_cons (pv 0) (pa_cons (pe_bltn (v := .ty "str") (by rfl) B.str (by decide +kernel) rfl) pa_nil)))))
        (pw_or1 (pt_cmpR op_gt (pe_callB call_len_str (by rfl) B.len PySem.boot_len (pa_cons (pv 0) pa_nil)) pe_int (nomark _))))) (pss_one (ps_ret pe_bl)) pss_nil) (pss_cons (ps_set (i := 1) scText.nd rfl (.inr rfl) (pe_call0 GS hr (by rfl) gS kS bS .nil pass0)) (pss_one (ps_ret (pe_cmpR (op_eqD hr.units) (pe_lc (own := [("_law_sign", 2)]) (g := gName 2) rfl scText.nd (pi_str (pv 0)) (blkOk_by (N := ["_law_value", "_law_signs_here", "_law_sign"]) (sc := defScope (top 22)) (by decide +kernel))
        (fun _ _ _ _ _ => pg_name (i := 2) scText.nd rfl (.inl rfl) (hf := .inr rfl)) (fun _ _ _ _ _ => pts_one (pt_cmpR op_notIn_sign (pv 2) (pv 1) (by rfl)))
        (fun _ _ _ _ _ => pv 2)) (pe_lst pa_nil) (nomark _)))))), ?_⟩
    refine ⟨v, rfl, v, .ty "str", _, _, _, rfl, .ty _, dpTy hd, dpKit hd (.inr (.inl rfl)), _, rfl, ?_⟩
    cases od with
    | @str _ z sok len =>
      cases hd
      have hq : ∀ H', Same H H' → ∀ b, okT z = b → Q (.bl b) H' := fun H' s' b e => e ▸ q H' s'
      refine iteF ⟨.str z, rfl, z, rfl, by rw [sizeLine_eq]; omega, _, _, rfl, rfl, _, rfl, ite2 (fun e => ?_) (fun e => ?_)⟩
      · have e1 : (400 : Int) < (z.length : Int) := of_decide_eq_true e
        exact hq H (Same.refl H) _ (by unfold okT; rw [decide_eq_false (by omega), Bool.false_and])
      · have e1 : ¬ (400 : Int) < (z.length : Int) := fun y => e (decide_eq_true y)
        refine ⟨rfl, .str z, rfl, z, rfl, fun D hD => ?_⟩
        refine lcSome (K := K) (n := z.cps.toList.length) (fun i => !signOk (z.cps.toList.getD i 0)) hD (by have : z.cps.toList.length = z.length := rfl; omega) (fun v => rfl) (fun i H' lt _ => by simpa [Its] using lt) (fun H' _ => by simp [Its]) (fun i H' x H2 lt _ y => ?_) (fun H' zs s1 e3 e4 es => ?_)
        · obtain ⟨rfl, c, hc, rfl⟩ := y
          have hc2 : z.cps.toList.getD i 0 = c := by
            rw [List.getD_eq_getElem?_getD, Array.getElem?_toList, hc]
            rfl
          rw [hc2]
          refine ⟨Same.refl _, fun F hF => ?_, .str ⟨#[c]⟩, .str ⟨#[c]⟩, fun _ => .str _, .str _ (sokAt sok hc) (by show 1 ≤ 2000; omega), fun R H3 hR => ⟨_, rfl, hR⟩⟩
          refine ⟨_, rfl, _, rfl, c, signs, rfl, rfl, _, rfl, ?_⟩
          rw [signsAre]
          exact hF _ (Same.refl _)
        · refine ⟨(by show 0 ≤ sizeLine; exact Nat.zero_le _), fun p hp => ?_⟩
          refine eqNil ((sameUpd hp) _ _ e3) upd_same es (hq _ (s1.trans (sameUpd hp)) _ ?_)
          unfold okT
          rw [decide_eq_true (by omega : z.length ≤ 400), Bool.true_and, Bool.eq_iff_iff, decide_eq_true_eq, e4]
          exact (allIff _ _).symm
    | non => exact iteT (q H (Same.refl H))
    | bl => exact iteT (q H (Same.refl H))
    | int => exact iteT (q H (Same.refl H))
    | tup => exact iteT (q H (Same.refl H))
def letters : Str := "abcdefghijklmnopqrstuvwxyz"
def digits : Str := "0123456789"
theorem letSmall : (letters.cps.toList.all fun c => decide (c < 127)) = true := by decide +kernel
theorem letBelow : ((List.range 127).all fun c => decide (c ∈ letters.cps.toList) == letter c) = true := by decide +kernel
theorem letAre (c : Nat) : decide (c ∈ letters.cps.toList) = letter c := by
  by_cases h : c < 127
  · exact beq_iff_eq.mp (List.all_eq_true.mp letBelow c (List.mem_range.mpr h))
  · have h1 : c ∉ letters.cps.toList := fun hm => h (of_decide_eq_true (List.all_eq_true.mp letSmall c hm))
    rw [decide_eq_false h1]
    unfold letter
    rw [decide_eq_false (by omega : ¬ c ≤ 122), Bool.and_false]
theorem namSmall : ((letters ++ digits).cps.toList.all fun c => decide (c < 127)) = true := by decide +kernel
theorem namBelow : ((List.range 127).all fun c => decide (c ∈ (letters ++ digits).cps.toList) == nameSign c) = true := by decide +kernel
theorem namAre (c : Nat) : decide (c ∈ (letters ++ digits).cps.toList) = nameSign c := by
  by_cases h : c < 127
  · exact beq_iff_eq.mp (List.all_eq_true.mp namBelow c (List.mem_range.mpr h))
  · have h1 : c ∉ (letters ++ digits).cps.toList := fun hm => h (of_decide_eq_true (List.all_eq_true.mp namSmall c hm))
    rw [decide_eq_false h1]
    unfold nameSign letter
    rw [decide_eq_false (by omega : ¬ c ≤ 122), decide_eq_false (by omega : ¬ c ≤ 57), Bool.and_false, Bool.and_false]
    rfl
theorem scName : FnScope ["_law_value", "_law_letters", "_law_sign"] ["_law_value"] (defScope (top 24)) := ⟨rfl, rfl, rfl, by decide +kernel, rfl, by decide +kernel, by decide +kernel⟩
theorem okName {k : Nat} (F : FnP K "_law_is_name" (top 24) f fd) (B : Bn mg) : FnOk P w K mg base CX0 (k + 1) f fd ["_law_value"] (spIs K isNm) := by
  refine F.ok scName (fun vs H Q E h => ?_) (fun cdv A outer s H vs Q E hr h => ?_)
  · obtain ⟨v, d, rfl, _⟩ := h
    rfl
  · obtain ⟨v, d, rfl, hd, od, q⟩ := h
    refine ⟨_, PSs.nox (pss_cons (ps_set (i := 1) scName.nd rfl (.inr rfl) pe_str) (pss_cons (ps_if (PW.pt (pw_or (pt_not (pt_val (pe_callB call_isi (by rfl) B.isi (by decide +kernel) (pa_cons (pv 0) (pa_cons (pe_bltn (v := .ty "str") (by rfl) B.str (by decide +kernel) rfl) pa_nil)))))
        (pw_or (pt_cmpR op_eq (pv 0) pe_str (nomark _)) (pw_or (pt_cmpR op_gt (pe_callB call_len_str (by rfl) B.len PySem.boot_len (pa_cons (pv 0) pa_nil)) pe_int (nomark _))
        (pw_or1 (pt_cmpR op_notIn_sign (pe_ix ix_str (pv 0) pe_int (fun _ _ => rfl)) (pv 1) (by rfl))))))) (pss_one (ps_ret pe_bl)) pss_nil) (pss_one (ps_ret (pe_cmpR (op_eqD hr.units) (pe_lc (own := [("_law_sign", 2)]) (g := gName 2) rfl scName.nd (pi_str (pv 0)) (blkOk_by (N := ["_law_value", "_law_letters", "_law_sign"]) (sc := defScope (top 24)) (by decide +kernel))
        (fun _ _ _ _ _ => pg_name (i := 2) scName.nd rfl (.inl rfl) (hf := .inr rfl)) (fun _ _ _ _ _ => pts_one (pt_cmpR op_notIn_sign (pv 2) (pe_op op_add_str (pv 1) pe_str) (by rfl)))
        (fun _ _ _ _ _ => pv 2)) (pe_lst pa_nil) (nomark _)))))), ?_⟩
    refine ⟨v, rfl, v, .ty "str", _, _, _, rfl, .ty _, dpTy hd, dpKit hd (.inr (.inl rfl)), _, rfl, ?_⟩
    cases od with
    | @str _ z sok len =>
      cases hd
      have hq : ∀ H', Same H H' → ∀ b, okN z = b → Q (.bl b) H' := fun H' s' b e => e ▸ q H' s'
      refine iteF ⟨.str z, rfl, rfl, _, rfl, ite2 (fun e => ?_) (fun e => ?_)⟩
      · have ez : z = "" := by
          have := of_decide_eq_true e
          injection this
        subst ez
        exact hq H (Same.refl H) _ (by decide +kernel)
      · have nz : 1 ≤ z.length := by
          refine Nat.one_le_iff_ne_zero.mpr fun h0 => e (decide_eq_true ?_)
          have : z = "" := by
            obtain ⟨cs⟩ := z
            have : cs = #[] := Array.eq_empty_of_size_eq_zero h0
            rw [this]
            rfl
          rw [this]
        refine ⟨.str z, rfl, z, rfl, by rw [sizeLine_eq]; omega, _, _, rfl, rfl, _, rfl, ite2 (fun e => ?_) (fun e => ?_)⟩
        · have e1 : (8 : Int) < (z.length : Int) := of_decide_eq_true e
          exact hq H (Same.refl H) _ (by unfold okN; rw [decide_eq_false (by omega : ¬ z.length ≤ 8), Bool.false_and, Bool.and_false])
        · have e1 : ¬ (8 : Int) < (z.length : Int) := fun y => e (decide_eq_true y)
          have hz : ∃ c, z.cps[0]? = some c := ⟨z.cps[0]'nz, Array.getElem?_eq_getElem nz⟩
          obtain ⟨c, hc⟩ := hz
          have e2 : okN z = (letter c && z.cps.toList.all nameSign) := by
            unfold okN
            rw [decide_eq_true nz, decide_eq_true (by omega : z.length ≤ 8), Bool.true_and, Bool.true_and, Array.getD_eq_getD_getElem?, hc]
            rfl
          refine ⟨.str z, rfl, z, 0, c, rfl, rfl, by rw [sizeLine_eq]; omega, atI_nat (j := 0) (by rw [Array.getElem?_toList]; exact hc), _, rfl, c, letters, rfl, rfl, _, rfl, ?_⟩
          rw [letAre]
          cases hl : letter c with
          | false => exact iteT (hq H (Same.refl H) _ (by rw [e2, hl, Bool.false_and]))
          | true =>
            refine iteF ⟨.str z, rfl, z, rfl, fun D hD => ?_⟩
            refine lcSome (K := K) (n := z.cps.toList.length) (fun i => !nameSign (z.cps.toList.getD i 0)) hD (by have : z.cps.toList.length = z.length := rfl; omega) (fun v => rfl) (fun i H' lt _ => by simpa [Its] using lt) (fun H' _ => by simp [Its]) (fun i H' x H2 lt _ y => ?_) (fun H' zs s1 e3 e4 es => ?_)
            · obtain ⟨rfl, c, hc, rfl⟩ := y
              have hc2 : z.cps.toList.getD i 0 = c := by
                rw [List.getD_eq_getElem?_getD, Array.getElem?_toList, hc]
                rfl
              rw [hc2]
              refine ⟨Same.refl _, fun F hF => ?_, .str ⟨#[c]⟩, .str ⟨#[c]⟩, fun _ => .str _, .str _ (sokAt sok hc) (by show 1 ≤ 2000; omega), fun R H3 hR => ⟨_, rfl, hR⟩⟩
              refine ⟨_, rfl, _, rfl, _, _, rfl, rfl, by decide +kernel, c, letters ++ digits, rfl, rfl, _, rfl, ?_⟩
              rw [namAre]
              exact hF _ (Same.refl _)
            · refine ⟨(by show 0 ≤ sizeLine; exact Nat.zero_le _), fun p hp => ?_⟩
              refine eqNil ((sameUpd hp) _ _ e3) upd_same es (hq _ (s1.trans (sameUpd hp)) _ ?_)
              rw [e2, hl, Bool.true_and, Bool.eq_iff_iff, decide_eq_true_eq, e4]
              exact (allIff _ _).symm
    | non => exact iteT (q H (Same.refl H))
    | bl => exact iteT (q H (Same.refl H))
    | int => exact iteT (q H (Same.refl H))
    | tup => exact iteT (q H (Same.refl H))
theorem scKey : FnScope ["_law_value", "_law_one"] ["_law_value"] (defScope (top 25)) := ⟨rfl, rfl, rfl, by decide +kernel, rfl, by decide +kernel, by decide +kernel⟩
theorem okKey {k : Nat} (F : FnP K "_law_is_key" (top 25) f fd) (B : Bn mg) (Nm : Has P w K mg base (k + 1) "_law_is_name" ["_law_value"] (spIs K isNm)) : FnOk P w K mg base CX0 (k + 2) f fd ["_law_value"] (spIs K isKy) := by
  obtain ⟨fN, fdN, gN, kN, bN, GN⟩ := Nm.ex
  refine F.ok scKey (fun vs H Q E h => ?_) (fun cdv A outer s H vs Q E hr h => ?_)
  · obtain ⟨v, d, rfl, _⟩ := h
    rfl
  · obtain ⟨v, d, rfl, hd, od, q⟩ := h
    refine ⟨_, PSs.nox (pss_one (ps_ret (pe_and (pe_callB call_isi (by rfl) B.isi (by decide +kernel) (pa_cons (pv 0) (pa_cons (pe_bltn (v := .ty "tuple") (by rfl) B.tuple (by decide +kernel) rfl) pa_nil)))
      (pe_and (pe_cmpR op_eq (pe_callB call_len_seq (by rfl) B.len PySem.boot_len (pa_cons (pv 0) pa_nil)) pe_int (nomark _))
      (pe_one (pe_cmpR (op_eqD hr.units) (pe_lc (own := [("_law_one", 1)]) (g := gName 1) rfl scKey.nd (pi_tup (pv 0)) (blkOk_by (N := ["_law_value", "_law_one"]) (sc := defScope (top 25)) (by decide +kernel))
        (fun _ _ _ _ _ => pg_name (i := 1) scKey.nd rfl (.inl rfl) (hf := .inr rfl)) (fun _ _ _ _ _ => pts_one (pt_not (pt_val (pe_call GN hr (by rfl) gN kN bN .nil pass0 (pa_cons (pv 1) pa_nil)))))
        (fun _ _ _ _ _ => pe_int)) (pe_lst pa_nil) (nomark _))))))), ?_⟩
    refine ⟨v, rfl, v, .ty "tuple", _, _, _, rfl, .ty _, dpTy hd, dpKit hd (.inl rfl), _, rfl, ?_⟩
    cases od with
    | @tup n ds hl hod =>
      cases hd with
      | @tup a xs _ hx hds =>
        have el := dpLen hds
        have hq : ∀ H', Same H H' → ∀ b, isKy (.tuple ds) = b → Q (.bl b) H' := fun H' s' b e => e ▸ q H' s'
        refine iteT ⟨.ref a, rfl, a, xs, rfl, .inr hx, rfl, _, rfl, ?_⟩
        rw [dInt]
        refine ite2 (fun e => ?_) (fun e => ?_)
        · have e2 : ds.length = 2 := by have := of_decide_eq_true e; omega
          refine ⟨.ref a, rfl, a, rfl, ⟨xs, hx⟩, fun D hD => ?_⟩
          refine lcSomeT (fun d => !isNm d) hx hds (by omega) hD (fun v => rfl) (fun v d H1 hm s1 hd => ⟨fun F hF => ?_, .int 1, .int 1, fun _ => .int _, .int _ _, fun R H2 hR => hR⟩) (fun H1 zs s1 e3 e4 es => ?_)
          · exact ⟨v, rfl, v, d, rfl, hd, (hod d hm).up (by omega), fun H2 s2 => ⟨_, rfl, hF H2 s2⟩⟩
          · refine ⟨(by show 0 ≤ sizeLine; exact Nat.zero_le _), fun p hp => ?_⟩
            refine eqNil ((sameUpd hp) _ _ e3) upd_same es (hq _ (s1.trans (sameUpd hp)) _ ?_)
            match ds, e2, e4 with
            | [d0, d1], _, e4 =>
              rw [Bool.eq_iff_iff, decide_eq_true_eq, e4]
              show (isNm d0 && isNm d1) = true ↔ _
              simp
        · have e2 : ds.length ≠ 2 := fun z => e (decide_eq_true (by omega))
          refine hq H (Same.refl H) _ ?_
          match ds, e2 with
          | [], _ => rfl
          | [_], _ => rfl
          | [_, _], e2 => exact absurd rfl e2
          | _ :: _ :: _ :: _, _ => rfl
    | non => exact iteF (q H (Same.refl H))
    | bl => exact iteF (q H (Same.refl H))
    | int => exact iteF (q H (Same.refl H))
    | str => exact iteF (q H (Same.refl H))
end
end K2.La

set_option Elab.async false
set_option linter.all false
set_option maxRecDepth 100000
set_option maxHeartbeats 4000000
namespace K2.La
open PySem PySem.Spec PyProof.Rows L2
section
variable {X : Cx}
def rInTD (K : PySem.W.Frag) : R2 := fun x y H Q => ∃ d ds, Dp K H x d ∧ Dp K H y (.tuple ds) ∧ SeqAt.shaped d = true ∧ SeqAt.shaped (.tuple ds) = true ∧ Q (.bl (ds.any fun z => PyData.eqv z d)) H
theorem op_inTD (hu : X.A.units + 65 < cLine) : OpR X (compareOp .In) (rInTD X.K) := by
  intro pins s σ H x y v u Q I rx ry h
  obtain ⟨d, ds, hd, he, sd, se, q⟩ := h
  obtain ⟨as, r1⟩ := Dp.reads I d x v hd rx
  obtain ⟨bs, r2⟩ := Dp.reads I (.tuple ds) y u he ry
  refine SeqAt.in_tuple_reads r2 r1 (SeqAt.canLay_of_shaped se) (SeqAt.canLay_of_shaped sd) ?_ ⟨.bl _, H, I, rfl, q⟩
  have h1 := SeqAt.depth_of_shaped sd
  have h2 : min (PyData.depthAll ds) d.depth ≤ d.depth := Nat.min_le_right _ _
  omega
end
theorem dpTake {K : PySem.W.Frag} {H : Hp} : ∀ {xs : List V} {ds : List PyData}, DpAll K H xs ds → ∀ k, DpAll K H (xs.take k) (ds.take k)
  | _, _, .nil, k => by rw [List.take_nil, List.take_nil]; exact .nil
  | _, _, .cons h r, 0 => .nil
  | _, _, .cons h r, k + 1 => .cons h (dpTake r k)
theorem dpCat {K : PySem.W.Frag} {H : Hp} {ys : List V} {es : List PyData} (hy : DpAll K H ys es) : ∀ {xs : List V} {ds : List PyData}, DpAll K H xs ds → DpAll K H (xs ++ ys) (ds ++ es)
  | _, _, .nil => hy
  | _, _, .cons h r => .cons h (dpCat hy r)
theorem eqvStr (d : PyData) (z : Str) : PyData.eqv d (.str z) = true ↔ d = .str z := by
  cases d <;> simp [PyData.eqv]
theorem eqvKy {x y : PyData} (hx : isKy x = true) (hy : isKy y = true) : PyData.eqv x y = true ↔ namesOf x = namesOf y := by
  obtain ⟨a, b, rfl⟩ := kyShape hx
  obtain ⟨c, d, rfl⟩ := kyShape hy
  simp [PyData.eqv, PyData.eqvAll, namesOf]
theorem longSt (d a b c : PyData) (l : List PyData) : isSt (.tuple (d :: a :: b :: c :: l)) = false := by
  show (PyData.eqv d (.str "stop") && false) = false
  rw [Bool.and_false]
/-- each is new, or none is there twice -/
theorem newAll (ds : List PyData) (hk : ds.all isKy = true) : (∀ i, i < ds.length → ((ds.take i).any fun z => PyData.eqv z (ds.getD i .none)) = false) ↔ (ds.map namesOf).Nodup := by
  have key : ∀ {i : Nat} (h : i < ds.length), isKy ds[i] = true := fun h => List.all_eq_true.mp hk _ (List.getElem_mem h)
  rw [List.nodup_iff_pairwise_ne, List.pairwise_iff_getElem]
  simp only [List.length_map, List.getElem_map]
  constructor
  · intro h i j hi hj hij e
    have h1 := h j hj
    rw [List.any_eq_false] at h1
    refine h1 ds[i] ?_ ?_
    · rw [List.mem_take_iff_getElem]
      exact ⟨i, by omega, rfl⟩
    · rw [List.getD_eq_getElem?_getD, List.getElem?_eq_getElem hj]
      exact (eqvKy (key hi) (key hj)).mpr e
  · intro h j hj
    rw [List.any_eq_false]
    intro z hz e
    obtain ⟨i, hi, rfl⟩ := List.mem_take_iff_getElem.mp hz
    rw [List.getD_eq_getElem?_getD, List.getElem?_eq_getElem hj] at e
    have hi' : i < j := by omega
    exact h i j (by omega) hj hi' ((eqvKy (key (by omega)) (key hj)).mp e)
section
variable {P : Program} {w : World} {K : PySem.W.Frag} {mg : Str → Option Value} {base : Heap} {f : Addr} {fd : FuncData}
theorem scRow : FnScope ["_law_value", "_law_one"] ["_law_value"] (defScope (top 27)) := ⟨rfl, rfl, rfl, by decide +kernel, rfl, by decide +kernel, by decide +kernel⟩
theorem okRow {k : Nat} (F : FnP K "_law_is_row" (top 27) f fd) (B : Bn mg) (Tx : Has P w K mg base (k + 2) "_law_is_text" ["_law_value"] (spIs K isTx)) : FnOk P w K mg base CX0 (k + 3) f fd ["_law_value"] (spIs K areAn) := by
  obtain ⟨fN, fdN, gN, kN, bN, GN⟩ := Tx.ex
  refine F.ok scRow (fun vs H Q E h => ?_) (fun cdv A outer s H vs Q E hr h => ?_)
  · obtain ⟨v, d, rfl, _⟩ := h
    rfl
  · obtain ⟨v, d, rfl, hd, od, q⟩ := h
    refine ⟨_, PSs.nox (pss_cons (ps_if (PW.pt (pw_or (pt_not (pt_val (pe_callB call_isi (by rfl) B.isi (by decide +kernel) (pa_cons (pv 0) (pa_cons (pe_bltn (v := .ty "tuple") (by rfl) B.tuple (by decide +kernel) rfl) pa_nil)))))
        (pw_or1 (pt_not (pt_chain op_lt op_lt pe_int (pe_callB call_len_seq (by rfl) B.len PySem.boot_len (pa_cons (pv 0) pa_nil)) pe_int))))) (pss_one (ps_ret pe_bl)) pss_nil) (pss_one (ps_ret (pe_cmpR (op_eqD hr.units) (pe_lc (own := [("_law_one", 1)]) (g := gName 1) rfl scRow.nd (pi_tup (pv 0)) (blkOk_by (N := ["_law_value", "_law_one"]) (sc := defScope (top 27)) (by decide +kernel))
        (fun _ _ _ _ _ => pg_name (i := 1) scRow.nd rfl (.inl rfl) (hf := .inr rfl)) (fun _ _ _ _ _ => pts_one (PW.pt (pw_and (pt_cmpR op_notN (pv 1) pe_non (nomark _)) (pw_and1 (pt_not (pt_val (pe_call GN hr (by rfl) gN kN bN .nil pass0 (pa_cons (pv 1) pa_nil))))))))
        (fun _ _ _ _ _ => pe_int)) (pe_lst pa_nil) (nomark _))))), ?_⟩
    refine ⟨v, rfl, v, .ty "tuple", _, _, _, rfl, .ty _, dpTy hd, dpKit hd (.inl rfl), _, rfl, ?_⟩
    cases od with
    | @tup n ds hl hod =>
      cases hd with
      | @tup a xs _ hx hds =>
        have el := dpLen hds
        have hq : ∀ H', Same H H' → ∀ b, areAn (.tuple ds) = b → Q (.bl b) H' := fun H' s' b e => e ▸ q H' s'
        refine iteF ⟨.ref a, rfl, a, xs, rfl, .inr hx, _, _, rfl, rfl, _, rfl, ?_⟩
        by_cases h1 : 1 ≤ ds.length
        · rw [if_pos (decide_eq_true (by omega : (0 : Int) < (xs.length : Int)))]
          refine ⟨_, _, rfl, rfl, _, rfl, ?_⟩
          by_cases h2 : ds.length ≤ 4
          · rw [decide_eq_true (by omega : (xs.length : Int) < 5)]
            refine iteF ?_
            refine ⟨.ref a, rfl, a, rfl, ⟨xs, hx⟩, fun D hD => ?_⟩
            refine lcSomeT (fun d => !orNone d) hx hds (by omega) hD (fun v => rfl) (fun v d H1 hm s1 hd => ⟨fun F hF => ?_, .int 1, .int 1, fun _ => .int _, .int _ _, fun R H2 hR => hR⟩) (fun H1 zs s1 e3 e4 es => ?_)
            · refine ⟨v, rfl, rfl, _, rfl, ?_⟩
              have od2 : Od 60 d := (hod d hm).up (by omega)
              by_cases hn : v = .non
              · subst hn
                cases hd
                exact iteF (hF H1 (Same.refl _))
              · rw [decide_eq_false hn]
                refine iteT ⟨v, rfl, v, d, rfl, hd, od2, fun H2 s2 => ⟨_, rfl, ?_⟩⟩
                have := hF H2 s2
                cases hd with
                | non => exact absurd rfl hn
                | _ => exact this
            · refine ⟨(by show 0 ≤ sizeLine; exact Nat.zero_le _), fun p hp => ?_⟩
              refine eqNil ((sameUpd hp) _ _ e3) upd_same es (hq _ (s1.trans (sameUpd hp)) _ ?_)
              show (decide (1 ≤ ds.length) && (decide (ds.length ≤ 4) && ds.all orNone)) = _
              rw [decide_eq_true h1, decide_eq_true h2, Bool.true_and, Bool.true_and, Bool.eq_iff_iff, decide_eq_true_eq, e4, List.all_eq_true]
              simp
          · rw [decide_eq_false (by omega : ¬ (xs.length : Int) < 5)]
            exact iteT (hq H (Same.refl H) _ (by show (decide (1 ≤ ds.length) && (decide (ds.length ≤ 4) && _)) = _; rw [decide_eq_false h2, Bool.false_and, Bool.and_false]))
        · rw [if_neg (by rw [decide_eq_true_eq]; omega)]
          exact ⟨_, rfl, iteT (hq H (Same.refl H) _ (by show (decide (1 ≤ ds.length) && _) = _; rw [decide_eq_false h1, Bool.false_and]))⟩
    | non => exact iteT (q H (Same.refl H))
    | bl => exact iteT (q H (Same.refl H))
    | int => exact iteT (q H (Same.refl H))
    | str => exact iteT (q H (Same.refl H))
theorem scStep : FnScope ["_law_value", "_law_keys", "_law_key", "_law_k"] ["_law_value"] (defScope (top 26)) := ⟨rfl, rfl, rfl, by decide +kernel, rfl, by decide +kernel, by decide +kernel⟩
theorem okStep {k : Nat} (F : FnP K "_law_is_step" (top 26) f fd) (B : Bn mg) (Ky : Has P w K mg base (k + 3) "_law_is_key" ["_law_value"] (spIs K isKy)) (Nm : Has P w K mg base (k + 3) "_law_is_name" ["_law_value"] (spIs K isNm)) (Tx : Has P w K mg base (k + 3) "_law_is_text" ["_law_value"] (spIs K isTx)) :
    FnOk P w K mg base CX0 (k + 4) f fd ["_law_value"] (spIs K isSt) := by
  obtain ⟨fK, fdK, gK, kK, bK, GK⟩ := Ky.ex
  obtain ⟨fN, fdN, gN, kN, bN, GN⟩ := Nm.ex
  obtain ⟨fT, fdT, gT, kT, bT, GT⟩ := Tx.ex
  refine F.ok scStep (fun vs H Q E h => ?_) (fun cdv A outer s H vs Q E hr h => ?_)
  · obtain ⟨v, d, rfl, _⟩ := h
    rfl
  · obtain ⟨v, d, rfl, hd, od, q⟩ := h
    have hu65 : (A.deeper (envOfC "_law_is_step" (defScope (top 26)) s.heap.objs.size f cdv)).units + 65 < cLine := by
      have := hr.un
      omega
    refine ⟨_, PSs.nox (pss_cons (ps_if (PW.pt (pw_or (pt_not (pt_val (pe_callB call_isi (by rfl) B.isi (by decide +kernel) (pa_cons (pv 0) (pa_cons (pe_bltn (v := .ty "tuple") (by rfl) B.tuple (by decide +kernel) rfl) pa_nil)))))
        (pw_or (pt_cmpR (op_eqD hr.units) (pv 0) (pe_tup pa_nil) (nomark _)) (pw_or1 (pt_not (pt_val (pe_callB call_isi (by rfl) B.isi (by decide +kernel) (pa_cons (pe_ix ix_tup (pv 0) pe_int (fun _ _ => rfl)) (pa_cons (pe_bltn (v := .ty "str") (by rfl) B.str (by decide +kernel) rfl) pa_nil))))))))) (pss_one (ps_ret pe_bl)) pss_nil) (C8.pss_cut (ps_if (PW.pt (pw_and (pt_cmpR (op_eqD hr.units) (pe_ix ix_tup (pv 0) pe_int (fun _ _ => rfl)) pe_str (nomark _)) (pw_and (pt_cmpR op_eq (pe_callB call_len_seq (by rfl) B.len PySem.boot_len (pa_cons (pv 0) pa_nil)) pe_int (nomark _))
          (pw_and1 (pt_val (pe_callB call_isi (by rfl) B.isi (by decide +kernel) (pa_cons (pe_ix ix_tup (pv 0) pe_int (fun _ _ => rfl)) (pa_cons (pe_bltn (v := .ty "tuple") (by rfl) B.tuple (by decide +kernel) rfl) pa_nil))))))))
        (pss_cons (ps_set (i := 1) scStep.nd rfl (.inr rfl) (pe_ix ix_tup (pv 0) pe_int (fun _ _ => rfl))) (pss_cons (ps_if (PW.pt (pw_or (pt_not (pt_chain op_lt op_lt pe_int (pe_callB call_len_seq (by rfl) B.len PySem.boot_len (pa_cons (pv 1) pa_nil)) pe_int))
            (pw_or1 (pt_cmpR (op_neD hr.units) (pe_lc (own := [("_law_key", 2)]) (g := gName 2) rfl scStep.nd (pi_tup (pv 1)) (blkOk_by (N := ["_law_value", "_law_keys", "_law_key", "_law_k"]) (sc := defScope (top 26)) (by decide +kernel))
              (fun _ _ _ _ _ => pg_name (i := 2) scStep.nd rfl (.inl rfl) (hf := .inr rfl)) (fun _ _ _ _ _ => pts_one (pt_not (pt_val (pe_call GK hr (by rfl) gK kK bK .nil pass0 (pa_cons (pv 2) pa_nil))))) (fun _ _ _ _ _ => pe_int)) (pe_lst pa_nil) (nomark _))))) (pss_one (ps_ret pe_bl)) pss_nil) (pss_one (ps_ret (pe_cmpR (op_eqD hr.units) (pe_lc (own := [("_law_k", 3)]) (g := gName 3) rfl scStep.nd (pi_range1 (by rfl) B.range (pa_cons (pe_callB call_len_seq (by rfl) B.len PySem.boot_len (pa_cons (pv 1) pa_nil)) pa_nil)) (blkOk_by (N := ["_law_value", "_law_keys", "_law_key", "_law_k"]) (sc := defScope (top 26)) (by decide +kernel))
              (fun _ _ _ _ _ => pg_name (i := 3) scStep.nd rfl (.inl rfl) (hf := .inr rfl)) (fun _ _ _ _ _ => pts_one (pt_cmpR (r := rInTD K) (op_inTD hu65) (pe_ix (r := rIxT K) ix_tup (pv 1) (pv 3) (fun _ _ => rfl)) (pe_slice (r := rSlT K) sl_tup (pv 1) po_none (po_some (pv 3))) (by rfl))) (fun _ _ _ _ _ => pe_int)) (pe_lst pa_nil) (nomark _)))))) pss_nil) (pss_cons (ps_if (PW.pt (pw_and (pt_cmpR (op_eqD hr.units) (pe_ix ix_tup (pv 0) pe_int (fun _ _ => rfl)) pe_str (nomark _)) (pw_and1 (pt_cmpR op_eq (pe_callB call_len_seq (by rfl) B.len PySem.boot_len (pa_cons (pv 0) pa_nil)) pe_int (nomark _)))))
        (pss_one (ps_ret (pe_and (pe_call GN hr (by rfl) gN kN bN .nil pass0 (pa_cons (pe_ix ix_tup (pv 0) pe_int (fun _ _ => rfl)) pa_nil)) (pe_one (pe_call GT hr (by rfl) gT kT bT .nil pass0 (pa_cons (pe_ix ix_tup (pv 0) pe_int (fun _ _ => rfl)) pa_nil)))))) pss_nil) (pss_one (ps_ret (pe_and (pe_cmpR op_eq (pe_callB call_len_seq (by rfl) B.len PySem.boot_len (pa_cons (pv 0) pa_nil)) pe_int (nomark _)) (pe_one (pe_cmpR (op_eqD hr.units) (pe_ix ix_tup (pv 0) pe_int (fun _ _ => rfl)) pe_str (nomark _))))))))), ?_⟩
    refine ⟨v, rfl, v, .ty "tuple", _, _, _, rfl, .ty _, dpTy hd, dpKit hd (.inl rfl), _, rfl, ?_⟩
    have osh := od.shaped (by omega)
    cases od with
    | @tup n ds hl hod =>
      cases hd with
      | @tup a xs _ hx hds =>
        have hq : ∀ H', Same H H' → ∀ b, isSt (.tuple ds) = b → Q (.bl b) H' := fun H' s' b e => e ▸ q H' s'
        refine iteF ⟨.ref a, rfl, (by show 0 ≤ sizeLine; exact Nat.zero_le _), fun p hp => ?_⟩
        have s1 : Same H (upd H p (.tup [])) := sameUpd hp
        refine ⟨.tuple ds, .tuple [], .tup (sameTup s1 hx) (dpAllSame s1 _ _ hds), .tup (.inl (.inl upd_same)) .nil, osh, rfl, _, rfl, ?_⟩
        generalize upd H p (.tup []) = H1 at s1 ⊢
        cases hds with
        | nil => exact iteT (hq H1 s1 _ rfl)
        | @cons x0 xr d0 dr h0 hr0 =>
          have o0 := hod d0 (by simp)
          have hx1 := sameTup s1 hx
          have h01 := dpSame s1 _ _ h0
          refine iteF ⟨.ref a, rfl, a, _, 0, x0, rfl, rfl, hx1, atI_nat (j := 0) rfl, x0, .ty "str", _, _, _, rfl, .ty _, dpTy h01, dpKit h01 (.inr (.inl rfl)), _, rfl, ?_⟩
          by_cases hstr : ∃ z, d0 = .str z
          · obtain ⟨z, rfl⟩ := hstr
            refine iteF ?_
            refine ⟨fun σ' H' => σ' = [some (.ref a), none, none, none] ∧ Same H H' ∧ ¬ (isWord "read" (.str z) = true ∧ ∃ es, dr = [.tuple es]), ?_, ?_⟩
            · refine ⟨.ref a, rfl, a, _, 0, x0, rfl, rfl, hx1, atI_nat (j := 0) rfl, .str z, .str "read", h01, .str _, o0.shaped (by omega), strSh _ (by unfold SOk; decide +kernel), _, rfl, ite2 (fun e => ?_) (fun e => ⟨rfl, s1, fun y => e y.1⟩)⟩
              refine ⟨.ref a, rfl, a, _, rfl, .inr hx1, rfl, _, rfl, ?_⟩
              rw [dInt]
              have el := dpLen hr0
              refine ite2 (fun e2 => ?_) (fun e2 => ⟨rfl, s1, fun y => e2 ?_⟩)
              · have e3 : xr.length = 1 := by
                  have h5 := of_decide_eq_true e2
                  rw [List.length_cons] at h5
                  omega
                match xr, dr, hr0, el, e3 with
                | [x1], [d1], .cons h1 .nil, _, _ =>
                  have h11 := dpSame s1 _ _ h1
                  refine ⟨.ref a, rfl, a, _, 1, x1, rfl, rfl, hx1, atI_nat (j := 1) rfl, x1, .ty "tuple", _, _, _, rfl, .ty _, dpTy h11, dpKit h11 (.inl rfl), _, rfl, ?_⟩
                  have o1 := hod d1 (by simp)
                  have hs : isSt (.tuple [.str z, d1]) = areKy d1 := by
                    show (isWord "read" (.str z) && areKy d1) = _
                    rw [show isWord "read" (.str z) = true from e, Bool.true_and]
                  cases o1 with
                  | @tup n es hle hoe =>
                    refine iteT ?_
                    cases h11 with
                    | @tup b ys _ hy hes =>
                      have ele := dpLen hes
                      refine ⟨.ref a, rfl, a, _, 1, .ref b, rfl, rfl, hx1, atI_nat (j := 1) rfl, ?_⟩
                      refine ⟨.ref b, rfl, b, ys, rfl, .inr hy, _, _, rfl, rfl, _, rfl, ?_⟩
                      have ha : areKy (.tuple es) = (decide (1 ≤ es.length) && (decide (es.length ≤ 4) && (es.all isKy && decide ((es.map namesOf).Nodup)))) := rfl
                      by_cases n1 : 1 ≤ es.length
                      · rw [if_pos (decide_eq_true (by omega : (0 : Int) < (ys.length : Int)))]
                        refine ⟨_, _, rfl, rfl, _, rfl, ?_⟩
                        by_cases n2 : es.length ≤ 4
                        · rw [decide_eq_true (by omega : (ys.length : Int) < 5)]
                          rw [decide_eq_true n1, decide_eq_true n2, Bool.true_and, Bool.true_and] at ha
                          refine iteF ⟨.ref b, rfl, b, rfl, ⟨ys, hy⟩, fun D hD => ?_⟩
                          refine lcSomeT (fun d => !isKy d) hy hes (by omega) hD (fun v => rfl) (fun v d H2 hm s2 hd2 => ⟨fun F hF => ?_, .int 1, .int 1, fun _ => .int _, .int _ _, fun R H3 hR => hR⟩) (fun H2 zs s2 e3 e4 es4 => ?_)
                          · exact ⟨v, rfl, v, d, rfl, hd2, (hoe d hm).up (by omega), fun H3 s3 => ⟨_, rfl, hF H3 s3⟩⟩
                          · refine ⟨(by show 0 ≤ sizeLine; exact Nat.zero_le _), fun p hp => ?_⟩
                            have s3 : Same H2 (upd H2 p (.lst [])) := sameUpd hp
                            refine neNil (s3 _ _ e3) upd_same es4 ⟨_, rfl, ?_⟩
                            generalize upd H2 p (.lst []) = H3 at s3 ⊢
                            have sA : Same H H3 := (s1.trans s2).trans s3
                            have sB : Same H1 H3 := s2.trans s3
                            by_cases hz : zs = []
                            · rw [decide_eq_true hz]
                              refine iteF ?_
                              have hall : es.all isKy = true := by
                                rw [List.all_eq_true]
                                intro d hd
                                simpa using (e4.mp hz) d hd
                              rw [hall, Bool.true_and] at ha
                              refine ⟨.ref b, rfl, b, ys, rfl, .inr (sameTup sB hy), _, rfl, by omega, by omega, fun D2 hD2 => ?_⟩
                              refine lcSome (K := K) (n := es.length) (fun i => (es.take i).any fun z => PyData.eqv z (es.getD i .none)) hD2 (by omega) (fun v => rfl) (fun i H4 lt _ => by show i < ((ys.length : Int)).toNat; omega) (fun H4 _ => by show ((ys.length : Int)).toNat ≤ es.length; omega) (fun i H4 x H5 lt s4 y => ?_) (fun H4 zs s4 e5 e6 es6 => ?_)
                              · obtain ⟨rfl, rfl⟩ := y
                                refine ⟨Same.refl _, fun F hF => ?_, .int 1, .int 1, fun _ => .int _, .int _ _, fun R H5 hR => hR⟩
                                have hyi := sameTup (sB.trans s4) hy
                                have e7 : es[i]? = some es[i] := List.getElem?_eq_getElem lt
                                obtain ⟨vi, g1, g2⟩ := dpAt hes e7
                                rw [List.getD_eq_getElem?_getD, e7] at hF
                                have hat : atI ys (0 + (i : Int)) = some vi := by rw [Int.zero_add]; exact atI_nat g1
                                refine ⟨.ref b, rfl, _, rfl, b, ys, _, vi, rfl, rfl, hyi, hat, ?_⟩
                                refine ⟨.ref b, rfl, _, rfl, 0 + (i : Int), rfl, b, ys, rfl, hyi, ?_, fun p2 hp2 => ?_⟩
                                · rw [Int.zero_add, HT.sIx_nat]
                                  rintro ⟨_, h9⟩
                                  omega
                                · have s6 := sameUpd (o := .tup (cutV ys none (some (0 + (i : Int))))) hp2
                                  have hcut : cutV ys none (some (0 + (i : Int))) = ys.take i := by
                                    unfold cutV
                                    rw [Int.zero_add, HT.sIx_nat, HT.sIx_none, List.drop_zero, Nat.sub_zero, Nat.min_eq_left (by omega)]
                                  have sC := (sB.trans s4).trans s6
                                  refine ⟨es[i], es.take i, dpSame sC _ _ g2, .tup (.inl (.inl ?_)) (dpTake (dpAllSame sC _ _ hes) i), ((hoe _ (List.getElem_mem lt)).up (m := 60) (by omega)).shaped (by omega), (Od.tup (n := 60) (by rw [List.length_take]; omega) fun d hd => (hoe d (List.mem_of_mem_take hd)).up (by omega)).shaped (by omega), _, rfl, ?_⟩
                                  · rw [← hcut]
                                    exact upd_same
                                  · exact hF _ s6
                              · refine ⟨(by show 0 ≤ sizeLine; exact Nat.zero_le _), fun p2 hp2 => ?_⟩
                                refine eqNil ((sameUpd hp2) _ _ e5) upd_same es6 (hq _ ((sA.trans s4).trans (sameUpd hp2)) _ ?_)
                                rw [hs, ha, decide_eq_decide, e6]
                                exact (newAll es hall).symm
                            · rw [decide_eq_false hz]
                              refine iteT (hq H3 sA _ ?_)
                              have hall : es.all isKy = false := by
                                rw [Bool.eq_false_iff]
                                intro hall
                                refine hz (e4.mpr fun d hd => ?_)
                                rw [List.all_eq_true.mp hall d hd]
                                rfl
                              rw [hs, ha, hall, Bool.false_and]
                        · rw [decide_eq_false (by omega : ¬ (ys.length : Int) < 5)]
                          exact iteT (hq H1 s1 _ (by rw [hs, ha, decide_eq_false n2, Bool.false_and, Bool.and_false]))
                      · rw [if_neg (by rw [decide_eq_true_eq]; omega)]
                        exact ⟨_, rfl, iteT (hq H1 s1 _ (by rw [hs, ha, decide_eq_false n1, Bool.false_and]))⟩
                  | non => exact iteF ⟨rfl, s1, fun y => by obtain ⟨_, es, y⟩ := y; cases y⟩
                  | bl => exact iteF ⟨rfl, s1, fun y => by obtain ⟨_, es, y⟩ := y; cases y⟩
                  | int => exact iteF ⟨rfl, s1, fun y => by obtain ⟨_, es, y⟩ := y; cases y⟩
                  | str => exact iteF ⟨rfl, s1, fun y => by obtain ⟨_, es, y⟩ := y; cases y⟩
              · obtain ⟨_, es, rfl⟩ := y
                refine decide_eq_true ?_
                rw [List.length_cons, el]
                rfl
            · rintro σ2 H2 ⟨rfl, s2, nr⟩
              have hx2 := sameTup s2 hx
              have h02 := dpSame s2 _ _ h0
              have el := dpLen hr0
              refine ⟨.ref a, rfl, a, _, 0, x0, rfl, rfl, hx2, atI_nat (j := 0) rfl, .str z, .str "write", h02, .str _, o0.shaped (by omega), strSh _ (by unfold SOk; decide +kernel), _, rfl, ?_⟩
              have last : ¬ (isWord "write" (.str z) = true ∧ dr.length = 2) → isSt (.tuple (.str z :: dr)) = (decide (dr.length = 0) && isWord "stop" (.str z)) := fun nw => by
                match dr, nr, nw with
                | [], _, _ =>
                  show PyData.eqv (.tuple [.str z]) (.tuple [.str "stop"]) = _
                  simp [PyData.eqv, PyData.eqvAll, isWord]
                | [d1], nr, _ =>
                  show (isWord "read" (.str z) && areKy d1) = _
                  cases c : isWord "read" (.str z) with
                  | false => rfl
                  | true =>
                    rw [Bool.true_and]
                    cases d1 with
                    | tuple es => exact absurd ⟨c, es, rfl⟩ nr
                    | _ => rfl
                | [d1, d2], _, nw =>
                  show (isWord "write" (.str z) && _) = _
                  cases c : isWord "write" (.str z) with
                  | false => rfl
                  | true => exact absurd ⟨c, rfl⟩ nw
                | d1 :: d2 :: d3 :: l, _, _ =>
                  rw [longSt, decide_eq_false (by rw [List.length_cons]; omega), Bool.false_and]
              have fin : ∀ {F : V → Hp → Prop}, ¬ (isWord "write" (.str z) = true ∧ dr.length = 2) → (∀ b, isSt (.tuple (.str z :: dr)) = b → F (.bl b) H2) → ∃ c, V.bl (decide (V.int ((x0 :: xr).length : Int) = V.int 1)) = V.bl c ∧ (if c = true then (∃ v, some (some (V.ref a)) = some (some v) ∧ ∃ p items i v1, v = V.ref p ∧ V.int 0 = V.int i ∧ SqT K H2 p items ∧ atI items i = some v1 ∧ ∃ d e, Dp K H2 v1 d ∧ Dp K H2 (.str "stop") e ∧ SeqAt.shaped d = true ∧ SeqAt.shaped e = true ∧ F (.bl (PyData.eqv d e)) H2) else F (.bl false) H2) := fun nw hF => by
                refine ⟨_, rfl, ?_⟩
                rw [dInt]
                have hL := last nw
                by_cases e0 : dr.length = 0
                · rw [if_pos (decide_eq_true (by rw [List.length_cons]; omega))]
                  refine ⟨_, rfl, a, _, 0, x0, rfl, rfl, hx2, atI_nat (j := 0) rfl, .str z, .str "stop", h02, .str _, o0.shaped (by omega), strSh _ (by unfold SOk; decide +kernel), hF _ ?_⟩
                  rw [hL, decide_eq_true e0, Bool.true_and]
                  rfl
                · rw [if_neg (by rw [decide_eq_true_eq, List.length_cons]; omega)]
                  exact hF _ (by rw [hL, decide_eq_false e0, Bool.false_and])
              refine ite2 (fun e => ?_) (fun e => ?_)
              · refine ⟨.ref a, rfl, a, _, rfl, .inr hx2, rfl, _, rfl, ?_⟩
                rw [dInt]
                refine ite2 (fun e2 => ?_) (fun e2 => ?_)
                · have e3 : xr.length = 2 := by
                    have h5 := of_decide_eq_true e2
                    rw [List.length_cons] at h5
                    omega
                  match xr, dr, hr0, el, e3 with
                  | [x1, x2], [d1, d2], .cons h1 (.cons h2 .nil), _, _ =>
                    have o1 := (hod d1 (by simp)).up (m := 60) (by omega)
                    have o2 := (hod d2 (by simp)).up (m := 60) (by omega)
                    have hs : isSt (.tuple [.str z, d1, d2]) = (isNm d1 && isTx d2) := by
                      show (isWord "write" (.str z) && (isNm d1 && isTx d2)) = _
                      rw [show isWord "write" (.str z) = true from e, Bool.true_and]
                    refine ⟨.ref a, rfl, a, _, 1, x1, rfl, rfl, hx2, atI_nat (j := 1) rfl, x1, d1, rfl, dpSame s2 _ _ h1, o1, fun H3 s3 => ⟨_, rfl, ite2 (fun e => ?_) (fun e => ?_)⟩⟩
                    · exact ⟨.ref a, rfl, a, _, 2, x2, rfl, rfl, sameTup s3 hx2, atI_nat (j := 2) rfl, x2, d2, rfl, dpSame (s2.trans s3) _ _ h2, o2, fun H4 s4 => hq H4 ((s2.trans s3).trans s4) _ (by rw [hs, e, Bool.true_and])⟩
                    · exact hq H3 (s2.trans s3) _ (by rw [hs, Bool.eq_false_iff.mpr e, Bool.false_and])
                · refine ⟨.ref a, rfl, a, _, rfl, .inr hx2, rfl, fin (fun y => e2 (decide_eq_true ?_)) fun b hb => hq H2 s2 b hb⟩
                  rw [List.length_cons, el, y.2]
                  rfl
              · exact ⟨.ref a, rfl, a, _, rfl, .inr hx2, rfl, fin (fun y => e y.1) fun b hb => hq H2 s2 b hb⟩
          · have hn : isD d0 "str" = false := by
              cases d0 <;> first | rfl | exact absurd ⟨_, rfl⟩ hstr
            rw [hn]
            refine iteT (hq H1 s1 _ ?_)
            have hw : ∀ z : Str, PyData.eqv d0 (.str z) = false := fun z => Bool.eq_false_iff.mpr fun e => hstr ⟨z, (eqvStr d0 z).mp e⟩
            match dr with
            | [] =>
              show (PyData.eqv d0 (.str "stop") && true) = false
              rw [hw]
              rfl
            | [d1] =>
              show (PyData.eqv d0 (.str "read") && areKy d1) = false
              rw [hw]
              rfl
            | [d1, d2] =>
              show (PyData.eqv d0 (.str "write") && (isNm d1 && isTx d2)) = false
              rw [hw]
              rfl
            | d1 :: d2 :: d3 :: l => exact longSt d0 d1 d2 d3 l
    | non => exact iteT (q H (Same.refl H))
    | bl => exact iteT (q H (Same.refl H))
    | int => exact iteT (q H (Same.refl H))
    | str => exact iteT (q H (Same.refl H))
end
end K2.La

set_option Elab.async false
set_option linter.all false
set_option maxRecDepth 100000
set_option maxHeartbeats 4000000
namespace K2.La
open PySem PySem.Spec PyProof.Rows L2
section
variable {P : Program} {w : World} {K : PySem.W.Frag} {mg : Str → Option Value} {base : Heap} {f : Addr} {fd : FuncData}
theorem scPlace : FnScope ["_law_value", "_law_one", "_law_row"] ["_law_value"] (defScope (top 28)) := ⟨rfl, rfl, rfl, by decide +kernel, rfl, by decide +kernel, by decide +kernel⟩
theorem okPlace {k : Nat} (F : FnP K "_law_is_place" (top 28) f fd) (B : Bn mg) (Tx : Has P w K mg base (k + 3) "_law_is_text" ["_law_value"] (spIs K isTx)) (Rw : Has P w K mg base (k + 3) "_law_is_row" ["_law_value"] (spIs K areAn)) : FnOk P w K mg base CX0 (k + 4) f fd ["_law_value"] (spIs K isPl) := by
  obtain ⟨fT, fdT, gT, kT, bT, GT⟩ := Tx.ex
  obtain ⟨fR, fdR, gR, kR, bR, GR⟩ := Rw.ex
  refine F.ok scPlace (fun vs H Q E h => ?_) (fun cdv A outer s H vs Q E hr h => ?_)
  · obtain ⟨v, d, rfl, _⟩ := h
    rfl
  · obtain ⟨v, d, rfl, hd, od, q⟩ := h
    refine ⟨_, PSs.nox (pss_cons (ps_if (PW.pt (pw_or (pt_not (pt_val (pe_callB call_isi (by rfl) B.isi (by decide +kernel) (pa_cons (pv 0) (pa_cons (pe_bltn (v := .ty "tuple") (by rfl) B.tuple (by decide +kernel) rfl) pa_nil)))))
        (pw_or (pt_cmpR op_ne (pe_callB call_len_seq (by rfl) B.len PySem.boot_len (pa_cons (pv 0) pa_nil)) pe_int (nomark _)) (pw_or1 (pt_not (pt_val (pe_call GT hr (by rfl) gT kT bT .nil pass0 (pa_cons (pe_ix ix_tup (pv 0) pe_int (fun _ _ => rfl)) pa_nil)))))))) (pss_one (ps_ret pe_bl)) pss_nil) (pss_cons (ps_if (PW.pt (pw_or (pt_not (pt_val (pe_callB call_isi (by rfl) B.isi (by decide +kernel) (pa_cons (pe_ix ix_tup (pv 0) pe_int (fun _ _ => rfl)) (pa_cons (pe_bltn (v := .ty "tuple") (by rfl) B.tuple (by decide +kernel) rfl) pa_nil)))))
        (pw_or (pt_cmpR op_gt (pe_callB call_len_seq (by rfl) B.len PySem.boot_len (pa_cons (pe_ix ix_tup (pv 0) pe_int (fun _ _ => rfl)) pa_nil)) pe_int (nomark _)) (pw_or1 (pt_not (pt_val (pe_callB call_isi (by rfl) B.isi (by decide +kernel) (pa_cons (pe_ix ix_tup (pv 0) pe_int (fun _ _ => rfl)) (pa_cons (pe_bltn (v := .ty "tuple") (by rfl) B.tuple (by decide +kernel) rfl) pa_nil))))))))) (pss_one (ps_ret pe_bl)) pss_nil) (pss_cons (ps_if (pt_cmpR (op_neD hr.units) (pe_op op_cat
          (pe_lc (own := [("_law_one", 1)]) (g := gName 1) rfl scPlace.nd (pi_tup (pe_ix ix_tup (pv 0) pe_int (fun _ _ => rfl))) (blkOk_by (N := ["_law_value", "_law_one", "_law_row"]) (sc := defScope (top 28)) (by decide +kernel))
            (fun _ _ _ _ _ => pg_name (i := 1) scPlace.nd rfl (.inl rfl) (hf := .inr rfl)) (fun _ _ _ _ _ => pts_one (pt_not (pt_val (pe_call GT hr (by rfl) gT kT bT .nil pass0 (pa_cons (pv 1) pa_nil))))) (fun _ _ _ _ _ => pe_int))
          (pe_lc (own := [("_law_row", 2)]) (g := gName 2) rfl scPlace.nd (pi_tup (pe_ix ix_tup (pv 0) pe_int (fun _ _ => rfl))) (blkOk_by (N := ["_law_value", "_law_one", "_law_row"]) (sc := defScope (top 28)) (by decide +kernel))
            (fun _ _ _ _ _ => pg_name (i := 2) scPlace.nd rfl (.inl rfl) (hf := .inr rfl)) (fun _ _ _ _ _ => pts_one (pt_not (pt_val (pe_call GR hr (by rfl) gR kR bR .nil pass0 (pa_cons (pv 2) pa_nil))))) (fun _ _ _ _ _ => pe_int)))
          (pe_lst pa_nil) (nomark _)) (pss_one (ps_ret pe_bl)) pss_nil) (pss_one (ps_ret (pe_and (pe_callB call_isi (by rfl) B.isi (by decide +kernel) (pa_cons (pe_ix ix_tup (pv 0) pe_int (fun _ _ => rfl)) (pa_cons (pe_bltn (v := .ty "int") (by rfl) B.int (by decide +kernel) rfl) pa_nil)))
        (pe_and (pe_not (pe_callB call_isi (by rfl) B.isi (by decide +kernel) (pa_cons (pe_ix ix_tup (pv 0) pe_int (fun _ _ => rfl)) (pa_cons (pe_bltn (v := .ty "bool") (by rfl) B.bool (by decide +kernel) rfl) pa_nil))))
        (pe_one (pe_cmpR op_ge (pe_ix ix_tup (pv 0) pe_int (fun _ _ => rfl)) pe_int (nomark _)))))))))), ?_⟩
    refine ⟨v, rfl, v, .ty "tuple", _, _, _, rfl, .ty _, dpTy hd, dpKit hd (.inl rfl), _, rfl, ?_⟩
    cases od with
    | @tup n ds hl hod =>
      cases hd with
      | @tup a xs _ hx hds =>
        have el := dpLen hds
        have hq : ∀ H', Same H H' → ∀ b, isPl (.tuple ds) = b → Q (.bl b) H' := fun H' s' b e => e ▸ q H' s'
        refine iteF ⟨.ref a, rfl, a, xs, rfl, .inr hx, rfl, _, rfl, ?_⟩
        rw [dInt]
        by_cases e4 : ds.length = 4
        · rw [decide_eq_true (by omega : (xs.length : Int) = 4)]
          refine iteF ?_
          have e5 : xs.length = 4 := by omega
          match xs, ds, hds, el, e5 with
          | [x0, x1, x2, x3], [d0, d1, d2, d3], .cons h0 (.cons h1 (.cons h2 (.cons h3 .nil))), _, _ =>
            have o0 := (hod d0 (by simp)).up (m := 60) (by omega)
            have o1 := hod d1 (by simp)
            have o2 := hod d2 (by simp)
            have o3 := hod d3 (by simp)
            have hs : isPl (.tuple [d0, d1, d2, d3]) = (isTx d0 && (areAr d1 && (rowsOk d2 && posI d3))) := rfl
            refine ⟨.ref a, rfl, a, _, 0, x0, rfl, rfl, hx, atI_nat (j := 0) rfl, x0, d0, rfl, h0, o0, fun H1 s1 => ⟨_, rfl, ?_⟩⟩
            cases c0 : isTx d0 with
            | false => exact iteT (hq H1 s1 _ (by rw [hs, c0]; rfl))
            | true =>
              refine iteF ?_
              have hx1 := sameTup s1 hx
              have h11 := dpSame s1 _ _ h1
              have h21 := dpSame s1 _ _ h2
              have h31 := dpSame s1 _ _ h3
              refine ⟨.ref a, rfl, a, _, 1, x1, rfl, rfl, hx1, atI_nat (j := 1) rfl, x1, .ty "tuple", _, _, _, rfl, .ty _, dpTy h11, dpKit h11 (.inl rfl), _, rfl, ?_⟩
              cases o1 with
              | @tup n es hle hoe =>
                cases h11 with
                | @tup b ys _ hy hes =>
                  have ele := dpLen hes
                  refine iteF ⟨.ref a, rfl, a, _, 1, .ref b, rfl, rfl, hx1, atI_nat (j := 1) rfl, b, ys, rfl, .inr hy, _, _, rfl, rfl, _, rfl, ite2 (fun e => ?_) (fun e => ?_)⟩
                  · have e1 : (4 : Int) < (ys.length : Int) := of_decide_eq_true e
                    refine hq H1 s1 _ ?_
                    rw [hs, c0]
                    show (true && ((decide (es.length ≤ 4) && _) && _)) = _
                    rw [decide_eq_false (by omega), Bool.false_and, Bool.false_and]
                    rfl
                  · have e1 : ¬ (4 : Int) < (ys.length : Int) := fun y => e (decide_eq_true y)
                    have ar : areAr (.tuple es) = es.all isTx := by
                      show (decide (es.length ≤ 4) && es.all isTx) = _
                      rw [decide_eq_true (by omega), Bool.true_and]
                    refine ⟨.ref a, rfl, a, _, 2, x2, rfl, rfl, hx1, atI_nat (j := 2) rfl, x2, .ty "tuple", _, _, _, rfl, .ty _, dpTy h21, dpKit h21 (.inl rfl), _, rfl, ?_⟩
                    cases o2 with
                    | @tup n fs hlf hof =>
                      cases h21 with
                      | @tup c ws _ hw hfs =>
                        refine iteF ?_
                        refine ⟨.ref a, rfl, a, _, 1, .ref b, rfl, rfl, hx1, atI_nat (j := 1) rfl, b, rfl, ⟨ys, hy⟩, fun D hD => ?_⟩
                        refine lcSomeT (fun d => !isTx d) hy hes (by omega) hD (fun v => rfl) (fun v d H2 hm s2 hd2 => ⟨fun F hF => ?_, .int 1, .int 1, fun _ => .int _, .int _ _, fun R H3 hR => hR⟩) (fun H2 zs s2 e3 e4 es4 => ?_)
                        · exact ⟨v, rfl, v, d, rfl, hd2, (hoe d hm).up (by omega), fun H3 s3 => ⟨_, rfl, hF H3 s3⟩⟩
                        refine ⟨.ref a, rfl, a, _, 2, .ref c, rfl, rfl, sameTup s2 hx1, atI_nat (j := 2) rfl, c, rfl, ⟨ws, sameTup s2 hw⟩, fun D2 hD2 => ?_⟩
                        refine lcSomeT (fun d => !areAn d) (sameTup s2 hw) (dpAllSame s2 _ _ hfs) (by omega) hD2 (fun v => rfl) (fun v d H3 hm s3 hd3 => ⟨fun F hF => ?_, .int 1, .int 1, fun _ => .int _, .int _ _, fun R H3 hR => hR⟩) (fun H3 zs2 s3 e32 e42 es42 => ?_)
                        · exact ⟨v, rfl, v, d, rfl, hd3, (hof d hm).up (by omega), fun H4 s4 => ⟨_, rfl, hF H4 s4⟩⟩
                        obtain ⟨es1, g1, g2, g5⟩ := es4
                        obtain ⟨es2, g3, g4, g6⟩ := es42
                        have z1 := dpLen (g1 H2)
                        have z2 := dpLen (g3 H2)
                        refine ⟨D, D2, zs, zs2, rfl, rfl, s3 _ _ e3, e32, by rw [sizeLine_eq]; omega, fun p hp => ?_⟩
                        refine ⟨(by show 0 ≤ sizeLine; exact Nat.zero_le _), fun p2 hp2 => ?_⟩
                        have s4 : Same H3 (upd H3 p (.lst (zs ++ zs2))) := sameUpd hp
                        have s5 := sameUpd (o := .lst []) hp2
                        refine neNil (s5 _ _ upd_same) upd_same ⟨es1 ++ es2, fun H => dpCat (g3 H) (g1 H), fun d hd => (List.mem_append.mp hd).elim (g2 d) (g4 d), Nat.le_refl _⟩ ⟨_, rfl, ?_⟩
                        have sR := ((s2.trans s3).trans s4).trans s5
                        generalize upd (upd H3 p (.lst (zs ++ zs2))) p2 (.lst []) = H4 at sR ⊢
                        have sA := s1.trans sR
                        have hz1 : zs = [] ↔ es.all isTx = true := by rw [e4, List.all_eq_true]; simp
                        have hz2 : zs2 = [] ↔ rowsOk (.tuple fs) = true := by
                          rw [e42]
                          show _ ↔ fs.all areAn = true
                          rw [List.all_eq_true]
                          simp
                        by_cases c1 : es.all isTx = true
                        · by_cases c2 : rowsOk (.tuple fs) = true
                          · rw [decide_eq_true (by rw [hz1.mpr c1, hz2.mpr c2]; rfl)]
                            refine iteF ?_
                            have hx4 := sameTup sR hx1
                            have h34 := dpSame sR _ _ h31
                            refine ⟨.ref a, rfl, a, _, 3, x3, rfl, rfl, hx4, atI_nat (j := 3) rfl, x3, .ty "int", _, _, _, rfl, .ty _, dpTy h34, dpKit h34 (.inr (.inr (.inl rfl))), _, rfl, ?_⟩
                            have k2 := @dpKit K H4 x3 d3 h34 "bool" (.inr (.inr (.inr (.inl rfl))))
                            have t2 := dpTy h34
                            cases o3 with
                            | int n i =>
                              refine iteT ⟨.ref a, rfl, a, _, 3, x3, rfl, rfl, hx4, atI_nat (j := 3) rfl, x3, .ty "bool", _, _, _, rfl, .ty _, t2, k2, _, rfl, _, rfl, ?_⟩
                              refine iteT ?_
                              cases h34
                              refine ⟨.ref a, rfl, a, _, 3, .int i, rfl, rfl, hx4, atI_nat (j := 3) rfl, i, 0, rfl, rfl, hq H4 sA _ ?_⟩
                              rw [hs, c0, ar, c1, c2]
                              show decide (0 ≤ i) = decide (i ≥ 0)
                              rfl
                            | bl n b =>
                              refine iteT ⟨.ref a, rfl, a, _, 3, x3, rfl, rfl, hx4, atI_nat (j := 3) rfl, x3, .ty "bool", _, _, _, rfl, .ty _, t2, k2, _, rfl, _, rfl, ?_⟩
                              exact iteF (hq H4 sA _ (by rw [hs, c0, ar, c1, c2]; rfl))
                            | non => exact iteF (hq H4 sA _ (by rw [hs, c0, ar, c1, c2]; rfl))
                            | str => exact iteF (hq H4 sA _ (by rw [hs, c0, ar, c1, c2]; rfl))
                            | tup => exact iteF (hq H4 sA _ (by rw [hs, c0, ar, c1, c2]; rfl))
                          · rw [decide_eq_false (fun y => c2 (hz2.mp (List.append_eq_nil_iff.mp y).2))]
                            exact iteT (hq H4 sA _ (by rw [hs, c0, ar, c1, Bool.eq_false_iff.mpr c2]; rfl))
                        · rw [decide_eq_false (fun y => c1 (hz1.mp (List.append_eq_nil_iff.mp y).1))]
                          exact iteT (hq H4 sA _ (by rw [hs, c0, ar, Bool.eq_false_iff.mpr c1]; rfl))
                    | non => exact iteT (hq H1 s1 _ (by rw [hs, c0, ar]; cases es.all isTx <;> rfl))
                    | bl => exact iteT (hq H1 s1 _ (by rw [hs, c0, ar]; cases es.all isTx <;> rfl))
                    | int => exact iteT (hq H1 s1 _ (by rw [hs, c0, ar]; cases es.all isTx <;> rfl))
                    | str => exact iteT (hq H1 s1 _ (by rw [hs, c0, ar]; cases es.all isTx <;> rfl))
              | non => exact iteT (hq H1 s1 _ (by rw [hs, c0]; rfl))
              | bl => exact iteT (hq H1 s1 _ (by rw [hs, c0]; rfl))
              | int => exact iteT (hq H1 s1 _ (by rw [hs, c0]; rfl))
              | str => exact iteT (hq H1 s1 _ (by rw [hs, c0]; rfl))
        · rw [decide_eq_false (by omega : ¬ (xs.length : Int) = 4)]
          refine iteT (hq H (Same.refl H) _ ?_)
          match ds, e4 with
          | [], _ => rfl
          | [_], _ => rfl
          | [_, _], _ => rfl
          | [_, _, _], _ => rfl
          | _ :: _ :: _ :: _ :: _ :: _, _ => rfl
    | non => exact iteT (q H (Same.refl H))
    | bl => exact iteT (q H (Same.refl H))
    | int => exact iteT (q H (Same.refl H))
    | str => exact iteT (q H (Same.refl H))
end
end K2.La

set_option Elab.async false
set_option linter.all false
set_option maxRecDepth 100000
set_option maxHeartbeats 4000000
namespace K2.La
open PySem PySem.Spec PyProof.Rows L2
abbrev sFeed : Stmt := top 15
abbrev sDraw : Stmt := top 16
abbrev sPick : Stmt := top 17
abbrev sCalls : Stmt := top 18
abbrev sText : Stmt := top 19
abbrev sSame : Stmt := top 21
/-! ### the feed -/
/-- all but the list at f stands -/
def Kp (f : Addr) (H H' : Hp) : Prop := ∀ b o, b ≠ f → H b = some o → H' b = some o
def Fd (H : Hp) (f : Addr) : Prop := ∃ x y : Int, H f = some (.lst [.int x, .int y]) ∧ 0 ≤ x ∧ 0 ≤ y
theorem Kp.refl (f : Addr) (H : Hp) : Kp f H H := fun _ _ _ h => h
theorem Kp.trans {f : Addr} {H H1 H2 : Hp} (a : Kp f H H1) (b : Kp f H1 H2) : Kp f H H2 := fun c o n h => b c o n (a c o n h)
theorem Kp.put {f : Addr} {H : Hp} {o : HO} : Kp f H (upd H f o) := fun b u n h => by
  rw [upd_ne n]
  exact h
theorem Kp.new {f p : Addr} {H : Hp} {o : HO} (h : H p = none) : Kp f H (upd H p o) := fun b u _ e => by
  rw [upd_ne (ne_of_none e h)]
  exact e
theorem Kp.same {f : Addr} {H H' : Hp} (s : Same H H') : Kp f H H' := fun b o _ h => s b o h
theorem Fd.same {f : Addr} {H H' : Hp} (s : Same H H') : Fd H f → Fd H' f := fun ⟨x, y, h, a, b⟩ => ⟨x, y, s _ _ h, a, b⟩
theorem Fd.new {f p : Addr} {H : Hp} {o : HO} (h : H p = none) (e : Fd H f) : Fd (upd H p o) f := e.same (sameUpd h)
theorem Fd.put {f : Addr} {H : Hp} {x y : Int} (hx : 0 ≤ x) (hy : 0 ≤ y) : Fd (upd H f (.lst [.int x, .int y])) f := ⟨x, y, upd_same, hx, hy⟩
/-! ### promises -/
def spFeed (K : PySem.W.Frag) : Sp := fun vs H Q _ => ∃ (a : Addr) (ns : List Int) (k : Int), vs = [.ref a, .int k] ∧ SqL K H a (ns.map V.int) ∧ ns.length ≤ 63 ∧ 0 ≤ k ∧ k < 1000 ∧ ∀ p H', Same H H' → H p = none → Fd H' p → Q (.ref p) H'
def spDraw : Sp := fun vs H Q _ => ∃ (f : Addr) (n : Int), vs = [.ref f, .int n] ∧ Fd H f ∧ 0 < n ∧ n < 1000000 ∧ ∀ (r : Int) H', 0 ≤ r → r < n → Kp f H H' → Fd H' f → Q (.int r) H'
def spPick (K : PySem.W.Frag) : Sp := fun vs H Q _ => ∃ (f l : Addr) (xs : List V), vs = [.ref f, .ref l] ∧ Fd H f ∧ SqL K H l xs ∧ l ≠ f ∧ 0 < xs.length ∧ xs.length < 1000 ∧ ∀ (i : Nat) (v : V) H', xs[i]? = some v → Kp f H H' → Fd H' f → Q v H'
def spCalls : Sp := fun vs H Q _ => vs = [] ∧ ∀ p, H p = none → Q (.ref p) (upd H p (.lst [.str "make", .str "", .str "r 2", .str "Mend!", .str "m"]))
def TOk (z : Str) : Prop := SOk z ∧ z.length ≤ 1000
instance (z : Str) : Decidable (TOk z) := by unfold TOk SOk; infer_instance
theorem sokFold : ∀ (l : List (Array Nat)) (a : Array Nat), a.all (· < 0x110000) = true → (∀ b ∈ l, b.all (· < 0x110000) = true) → (l.foldl (· ++ ·) a).all (· < 0x110000) = true
  | [], _, h, _ => h
  | b :: l, a, h, k => sokFold l (a ++ b) (by rw [Array.all_append, h, k b (List.mem_cons_self ..)]; rfl) fun c hc => k c (List.mem_cons_of_mem _ hc)
theorem sokMul {z : Str} {n : Int} (h : SOk z) : SOk (Txt.mul z n) := by
  unfold Txt.mul
  split
  · (show Str.empty.cps.all (· < 0x110000) = true; decide +kernel)
  · split
    · exact h
    · exact sokFold _ #[] (by simp) fun b hb => by rw [List.eq_of_mem_replicate hb]; exact h
theorem tokMul {z : Str} {n : Int} {c : Nat} (h : SOk z) (e : z = ⟨#[c]⟩) (m : n ≤ 1000) : TOk (Txt.mul z n) := ⟨sokMul h, len_mul_one (N := 1000) e m⟩
def spText : Sp := fun vs H Q _ => ∃ f : Addr, vs = [.ref f] ∧ Fd H f ∧ ∀ (z : Str) H', TOk z → Kp f H H' → Fd H' f → Q (.str z) H'
section
variable {P : Program} {w : World} {K : PySem.W.Frag} {mg : Str → Option Value} {base : Heap} {f : Addr} {fd : FuncData}
theorem scFeed : FnScope ["_law_script", "_law_k", "_law_cell", "_law_great"] ["_law_script", "_law_k"] (defScope sFeed) := ⟨rfl, rfl, rfl, by decide +kernel, rfl, by decide +kernel, by decide +kernel⟩
theorem seqNat {ns : List Int} {k : Int} (h0 : 0 ≤ k) (h : k < (ns.length : Int)) : ∃ n : Int, atI (ns.map V.int) k = some (.int n) := by
  obtain ⟨j, rfl⟩ : ∃ j : Nat, k = (j : Int) := ⟨k.toNat, by omega⟩
  have hj : j < ns.length := by omega
  refine ⟨ns[j], atI_nat ?_⟩
  rw [List.getElem?_map, List.getElem?_eq_getElem hj]
  rfl
theorem okFeed {k : Nat} (F : FnP K "_law_feed_of" sFeed f fd) (ml : mg "len" = none) : FnOk P w K mg base CX0 (k + 1) f fd ["_law_script", "_law_k"] (spFeed K) := by
  refine F.ok scFeed (fun vs H Q E h => ?_) (fun cdv A outer s H vs Q E hr h => ?_)
  · obtain ⟨a, ns, k, rfl, _⟩ := h
    rfl
  · obtain ⟨a, ns, n, rfl, hS, hlen, hn0, hn1, q⟩ := h
    refine ⟨_, PSs.nox (pss_cons (ps_set (i := 2) scFeed.nd rfl (.inl rfl) (pe_op op_add (pe_op op_mul pe_int (pv 1)) pe_int))
      (C8.pss_cut (ps_if (pt_cmpR op_lt (pv 1) (pe_callB call_len_seq (by rfl) ml PySem.boot_len (pa_cons (pv 0) pa_nil)) (nomark _)) (pss_one (ps_set (i := 2) scFeed.nd rfl (.inl rfl) (pe_ix ix_list (pv 0) (pv 1) (fun _ _ => rfl)))) pss_nil)
      (C8.pss_cut (ps_if (pt_cmpR op_lt (pv 2) pe_int (nomark _)) (pss_one (ps_set (i := 2) scFeed.nd rfl (.inl rfl) (pe_op op_sub pe_int (pe_op op_mul pe_int (pv 2))))) pss_nil)
      (C8.pss_cut (ps_set (i := 3) scFeed.nd rfl (.inl rfl) (pe_ifExp (pt_cmpR op_ge (pv 2) (pe_op op_pow pe_int pe_int) (nomark _)) (pv 2) pe_int))
      (pss_one (ps_ret (pe_lst (pa_cons (pv 3) (pa_cons (pe_op op_add (pe_op op_add (pe_op op_mod (pv 2) pe_int) (pe_op op_mul pe_int (pv 1))) pe_int) pa_nil))))))))), ?_⟩
    refine ⟨.int n, rfl, 9029, n, rfl, rfl, .inl ⟨by decide, by decide⟩, 9029 * n, 31, rfl, rfl, ?_⟩
    refine ⟨fun σ' H' => H' = H ∧ ∃ c : Int, σ' = [some (.ref a), some (.int n), some (.int c), none], ?_, ?_⟩
    · refine ⟨.int n, rfl, .ref a, rfl, a, _, rfl, .inl hS, n, _, rfl, rfl, _, rfl, ite2 (fun e => ?_) (fun _ => ?_)⟩
      · have e1 : n < ((ns.map V.int).length : Int) := of_decide_eq_true e
        rw [List.length_map] at e1
        obtain ⟨c, hc⟩ := seqNat hn0 e1
        exact ⟨.ref a, rfl, .int n, rfl, a, _, n, _, rfl, rfl, hS, hc, rfl, c, rfl⟩
      · exact ⟨rfl, _, rfl⟩
    rintro σ' H' ⟨rfl, c, rfl⟩
    refine ⟨fun σ' H2 => H2 = H' ∧ ∃ c : Int, 0 ≤ c ∧ σ' = [some (.ref a), some (.int n), some (.int c), none], ?_, ?_⟩
    · refine ⟨.int c, rfl, c, 0, rfl, rfl, _, rfl, ite2 (fun e => ?_) (fun e => ?_)⟩
      · have e1 : c < 0 := of_decide_eq_true e
        exact ⟨.int c, rfl, 7, c, rfl, rfl, .inl ⟨by decide, by decide⟩, 5, 7 * c, rfl, rfl, rfl, 5 - 7 * c, by omega, rfl⟩
      · have e1 : ¬ c < 0 := fun z => e (decide_eq_true z)
        exact ⟨rfl, c, by omega, rfl⟩
    rintro σ' H2 ⟨rfl, d, hd, rfl⟩
    refine ⟨fun σ' H3 => H3 = H2 ∧ ∃ g : Int, 0 ≤ g ∧ σ' = [some (.ref a), some (.int n), some (.int d), some (.int g)], ?_, ?_⟩
    · refine ⟨.int d, rfl, 10, 18, rfl, rfl, ⟨by decide, by decide, by decide⟩, d, _, rfl, rfl, _, rfl, ite2 (fun _ => ?_) (fun _ => ?_)⟩
      · exact ⟨.int d, rfl, rfl, d, hd, rfl⟩
      · exact ⟨rfl, 0, by decide, rfl⟩
    rintro σ' H3 ⟨rfl, g, hg, rfl⟩
    refine ⟨.int g, rfl, .int d, rfl, d, 1000003, rfl, rfl, (by show (0 : Int) < 1000003; decide), .int n, rfl, 11, n, rfl, rfl, .inl ⟨by decide, by decide⟩, _, _, rfl, rfl, _, _, rfl, rfl, (by show 2 ≤ sizeLine; decide), fun p hp => ?_⟩
    refine q p _ (sameUpd hp) hp ⟨_, _, upd_same, hg, ?_⟩
    have := Int.emod_nonneg d (show (1000003 : Int) ≠ 0 by decide)
    omega
theorem scDraw : FnScope ["_law_feed", "_law_many", "_law_digit"] ["_law_feed", "_law_many"] (defScope sDraw) := ⟨rfl, rfl, rfl, by decide +kernel, rfl, by decide +kernel, by decide +kernel⟩
theorem okDraw {k : Nat} (F : FnP K "_law_draw" sDraw f fd) : FnOk P w K mg base CX0 (k + 1) f fd ["_law_feed", "_law_many"] spDraw := by
  refine F.ok scDraw (fun vs H Q E h => ?_) (fun cdv A outer s H vs Q E hr h => ?_)
  · obtain ⟨a, n, rfl, _⟩ := h
    rfl
  · obtain ⟨a, n, rfl, ⟨x, y, hf, hx, hy⟩, hn0, hn1, q⟩ := h
    have hS : ∀ {x y : Int} {H : Hp}, H a = some (.lst [.int x, .int y]) → SqL K H a [.int x, .int y] := fun h => .inl (.inl h)
    refine ⟨_, PSs.nox (pss_cons (ps_if (pt_cmpR op_gt (pe_ix ix_list (pv 0) pe_int (fun _ _ => rfl)) pe_int (nomark _))
        (pss_cons (ps_set (i := 2) scDraw.nd rfl (.inl rfl) (pe_op op_modN (pe_ix ix_list (pv 0) pe_int (fun _ _ => rfl)) (pv 1)))
        (pss_cons (ps_asg (pe_op op_fdivN (pe_ix ix_list (pv 0) pe_int (fun _ _ => rfl)) (pv 1)) (pg_sub (pv 0) pe_int set_list))
        (pss_one (ps_ret (pv 2))))) pss_nil)
      (pss_cons (ps_asg (pe_op op_mod (pe_op op_add (pe_op op_mul (pe_ix ix_list (pv 0) pe_int (fun _ _ => rfl)) pe_int) pe_int) pe_int) (pg_sub (pv 0) pe_int set_list))
      (pss_one (ps_ret (pe_op op_modN (pe_op op_fdiv (pe_ix ix_list (pv 0) pe_int (fun _ _ => rfl)) pe_int) (pv 1)))))), ?_⟩
    refine ⟨.ref a, rfl, a, _, 0, .int x, rfl, rfl, hS hf, atI_nat (j := 0) rfl, x, 0, rfl, rfl, _, rfl, ite2 (fun e => ?_) (fun e => ?_)⟩
    · refine ⟨.ref a, rfl, a, _, 0, .int x, rfl, rfl, hS hf, atI_nat (j := 0) rfl, .int n, rfl, x, n, rfl, rfl, (by show n ≠ 0; omega), ?_⟩
      refine ⟨.ref a, rfl, a, _, 0, .int x, rfl, rfl, hS hf, atI_nat (j := 0) rfl, .int n, rfl, x, n, rfl, rfl, ⟨(by omega), (by omega)⟩, ?_⟩
      refine ⟨.ref a, rfl, a, _, _, 0, rfl, rfl, hf, rfl, ?_⟩
      refine ⟨_, rfl, ?_⟩
      show Q (.int (x.fmod n)) (upd H a (.lst [.int (x.fdiv n), .int y]))
      rw [Int.fmod_eq_emod_of_nonneg x (by omega), Int.fdiv_eq_ediv_of_nonneg x (by omega)]
      exact q (x % n) _ (Int.emod_nonneg x (by omega)) (Int.emod_lt_of_pos x hn0) Kp.put (Fd.put (Int.ediv_nonneg hx (by omega)) hy)
    · refine ⟨.ref a, rfl, a, _, 1, .int y, rfl, rfl, hS hf, atI_nat (j := 1) rfl, y, 48271, rfl, rfl, .inr ⟨by decide, by decide⟩, _, 11, rfl, rfl, _, 2147483647, rfl, rfl, (by show (0 : Int) < 2147483647; decide), ?_⟩
      refine ⟨.ref a, rfl, a, _, _, 1, rfl, rfl, hf, rfl, ?_⟩
      have hm := Int.emod_nonneg (y * 48271 + 11) (show (2147483647 : Int) ≠ 0 by decide)
      refine ⟨.ref a, rfl, a, [.int x, .int ((y * 48271 + 11) % 2147483647)], 1, .int ((y * 48271 + 11) % 2147483647), rfl, rfl, hS upd_same, atI_nat (j := 1) rfl, (y * 48271 + 11) % 2147483647, 127, rfl, rfl, ⟨by decide, by decide⟩, ?_⟩
      refine ⟨.int n, rfl, _, n, rfl, rfl, (by show n ≠ 0; omega), ?_⟩
      show Q (.int (((y * 48271 + 11) % 2147483647 / 127).fmod n)) (upd H a (.lst [.int x, .int ((y * 48271 + 11) % 2147483647)]))
      rw [Int.fmod_eq_emod_of_nonneg _ (by omega)]
      exact q _ _ (Int.emod_nonneg _ (by omega)) (Int.emod_lt_of_pos _ hn0) Kp.put (Fd.put hx hm)
theorem scPick : FnScope ["_law_feed", "_law_items"] ["_law_feed", "_law_items"] (defScope sPick) := ⟨rfl, rfl, rfl, by decide +kernel, rfl, by decide +kernel, by decide +kernel⟩
theorem okPick {k : Nat} (F : FnP K "_law_pick" sPick f fd) (ml : mg "len" = none) (D : Has P w K mg base (k + 1) "_law_draw" ["_law_feed", "_law_many"] spDraw) : FnOk P w K mg base CX0 (k + 2) f fd ["_law_feed", "_law_items"] (spPick K) := by
  obtain ⟨fD, fdD, gD, kD, bD, GD⟩ := D.ex
  refine F.ok scPick (fun vs H Q E h => ?_) (fun cdv A outer s H vs Q E hr h => ?_)
  · obtain ⟨a, l, xs, rfl, _⟩ := h
    rfl
  · obtain ⟨a, l, xs, rfl, hF, hL, ne, h0, h1, q⟩ := h
    refine ⟨_, PSs.nox (pss_one (ps_ret (pe_ix ix_list (pv 1) (pe_call GD hr (by rfl) gD kD bD .nil pass0 (pa_cons (pv 0) (pa_cons (pe_callB call_len_seq (by rfl) ml PySem.boot_len (pa_cons (pv 1) pa_nil)) pa_nil))) (fun _ _ => rfl)))), ?_⟩
    refine ⟨.ref l, rfl, .ref a, rfl, .ref l, rfl, l, xs, rfl, .inl hL, ?_⟩
    refine ⟨a, (xs.length : Int), rfl, hF, by omega, by omega, fun r H' r0 r1 kp fd' => ?_⟩
    obtain ⟨j, rfl⟩ : ∃ j : Nat, r = (j : Int) := ⟨r.toNat, by omega⟩
    have hj : j < xs.length := by omega
    have hv : xs[j]? = some xs[j] := List.getElem?_eq_getElem hj
    have hL' : SqL K H' l xs := by
      rcases hL with (h | ⟨o, h⟩) | h
      · exact .inl (.inl (kp _ _ ne h))
      · exact .inl (.inr ⟨o, kp _ _ ne h⟩)
      · exact .inr h
    exact ⟨l, xs, _, _, rfl, rfl, hL', atI_nat hv, q j _ H' hv kp fd'⟩
theorem scCalls : FnScope [] [] (defScope sCalls) := ⟨rfl, rfl, rfl, by decide +kernel, rfl, by decide +kernel, by decide +kernel⟩
theorem okCalls {k : Nat} (F : FnP K "_law_calls" sCalls f fd) : FnOk P w K mg base CX0 (k + 1) f fd [] spCalls := by
  refine F.ok scCalls (fun vs H Q E h => ?_) (fun cdv A outer s H vs Q E hr h => ?_)
  · obtain ⟨rfl, _⟩ := h
    rfl
  · obtain ⟨rfl, q⟩ := h
    refine ⟨_, PSs.nox (pss_one (ps_ret (pe_lst (pa_cons pe_str (pa_cons pe_str (pa_cons pe_str (pa_cons pe_str (pa_cons pe_str pa_nil)))))))), ?_⟩
    exact ⟨(by show 5 ≤ sizeLine; decide), fun p hp => q p hp⟩
/-- z * n, z one sign -/
def rRepX : R2 := fun x y H Q => ∃ (z : Str) (n : Int), x = .str z ∧ y = .int n ∧ z.length = 1 ∧ 0 ≤ n ∧ n ≤ 1000 ∧ Q (.str (Txt.mul z n)) H
theorem opRepX {X : Cx} : OpR X (binaryOp .Mult) rRepX := by
  intro pins s σ H x y v u Q I rx ry h
  obtain ⟨z, n, rfl, rfl, hz, h0, h1, q⟩ := h
  obtain ⟨t, rfl⟩ := rx
  obtain ⟨t', rfl⟩ := ry
  refine SB.mul ⟨?_, fun g _ => ?_, fun _ _ => ?_⟩ fun t2 k => ⟨.str (Txt.mul z n), H, I.tok k, ⟨t2, rfl⟩, q⟩
  · simp
    omega
  · rw [hz]
    have hn : 0 < n := by omega
    have hle : (1 : Int) ≤ (2 ^ 63 - 1) / n := by
      rw [Int.le_ediv_iff_mul_le hn]
      omega
    show ¬ ((1 : Nat) : Int) > (2 ^ 63 - 1) / n
    omega
  · rw [hz]
    unfold Builtin.Str.tooLong
    rw [decide_eq_false_iff_not, sizeLine_eq]
    omega
theorem scTxt : FnScope ["_law_feed", "_law_form", "_law_many"] ["_law_feed"] (defScope sText) := ⟨rfl, rfl, rfl, by decide +kernel, rfl, by decide +kernel, by decide +kernel⟩
theorem okTxt {k : Nat} (F : FnP K "_law_some_text" sText f fd) (D : Has P w K mg base (k + 1) "_law_draw" ["_law_feed", "_law_many"] spDraw) (Pk : Has P w K mg base (k + 2) "_law_pick" ["_law_feed", "_law_items"] (spPick K))
    (Ca : Has P w K mg base (k + 1) "_law_calls" [] spCalls) : FnOk P w K mg base CX0 (k + 3) f fd ["_law_feed"] spText := by
  obtain ⟨fD, fdD, gD, kD, bD, GD⟩ := D.ex
  obtain ⟨fP, fdP, gP, kP, bP, GP⟩ := Pk.ex
  obtain ⟨fC, fdC, gC, kC, bC, GC⟩ := Ca.ex
  refine F.ok scTxt (fun vs H Q E h => ?_) (fun cdv A outer s H vs Q E hr h => ?_)
  · obtain ⟨a, rfl, _⟩ := h
    rfl
  · obtain ⟨a, rfl, hF, q⟩ := h
    have hr1 : Room (k + 1) _ := hr.mono (by omega)
    refine ⟨_, PSs.nox (pss_cons (ps_set (i := 1) scTxt.nd rfl (.inl rfl) (pe_call GD hr1 (by rfl) gD kD bD .nil pass0 (pa_cons (pv 0) (pa_cons (pe_int) pa_nil)))) (pss_cons (ps_if (pt_cmpR op_eq (pv 1) pe_int (nomark _)) (pss_one (ps_ret (pe_call GP hr (by rfl) gP kP bP .nil pass0 (pa_cons (pv 0) (pa_cons (pe_call0 GC hr1 (by rfl) gC kC bC .nil pass0) pa_nil))))) pss_nil) (pss_cons (ps_if (pt_cmpR op_eq (pv 1) pe_int (nomark _))
        (pss_cons (ps_set (i := 2) scTxt.nd rfl (.inl rfl) (pe_ix ix_list (pe_lst (pa_cons (pe_op op_add pe_int (pe_call GD hr1 (by rfl) gD kD bD .nil pass0 (pa_cons (pv 0) (pa_cons (pe_int) pa_nil)))) (pa_cons (pe_int) pa_nil)))
          (pe_op op_fdiv (pe_call GD hr1 (by rfl) gD kD bD .nil pass0 (pa_cons (pv 0) (pa_cons (pe_int) pa_nil))) pe_int) (fun _ _ => rfl))) (pss_one (ps_ret (pe_call GP hr (by rfl) gP kP bP .nil pass0 (pa_cons (pv 0) (pa_cons (pe_lst (pa_cons (pe_str) (pa_cons (pe_str) (pa_cons (pe_str) (pa_cons (pe_str) (pa_cons (pe_str) (pa_cons (pe_op opRepX pe_str (pv 2)) (pa_cons (pe_str) (pa_cons (pe_str) (pa_cons (pe_str) (pa_cons (pe_str) pa_nil))))))))))) pa_nil)))))) pss_nil) (pss_one (ps_ret (pe_ix ix_list (pe_lst (pa_cons (pe_str) (pa_cons (pe_str) (pa_cons (pe_str) (pa_cons (pe_str) (pa_cons (pe_str) (pa_cons (pe_str) pa_nil))))))) (pv 1) (fun _ _ => rfl))))))), ?_⟩
    have neF : ∀ {H : Hp} {p : Addr}, Fd H a → H p = none → p ≠ a := fun ⟨x, y, e, _⟩ hp z => by
      rw [z, e] at hp
      cases hp
    refine ⟨.ref a, rfl, a, 8, rfl, hF, by decide, by decide, fun r H1 r0 r1 k1 F1 => ?_⟩
    refine ⟨.int r, rfl, rfl, _, rfl, ite2 (fun e => ?_) (fun e7 => ?_)⟩
    · -- the names of calls
      refine ⟨.ref a, rfl, rfl, fun p hp => ?_⟩
      refine ⟨a, p, _, rfl, F1.new hp, .inl (.inl upd_same), neF F1 hp, by decide, by decide, fun i v H2 hv k2 F2 => ?_⟩
      have kk : Kp a H H2 := (k1.trans (Kp.new hp)).trans k2
      match i, hv with
      | 0, hv => cases hv; exact q _ H2 (by decide +kernel) kk F2
      | 1, hv => cases hv; exact q _ H2 (by decide +kernel) kk F2
      | 2, hv => cases hv; exact q _ H2 (by decide +kernel) kk F2
      | 3, hv => cases hv; exact q _ H2 (by decide +kernel) kk F2
      | 4, hv => cases hv; exact q _ H2 (by decide +kernel) kk F2
    refine ⟨.int r, rfl, rfl, _, rfl, ite2 (fun e => ?_) (fun e6 => ?_)⟩
    · -- one of ten
      refine ⟨.ref a, rfl, a, 90, rfl, F1, by decide, by decide, fun r2 H2 r20 r21 k2 F2 => ⟨1, r2, rfl, rfl, ?_⟩⟩
      refine ⟨(by show 2 ≤ sizeLine; decide), fun p hp => ?_⟩
      refine ⟨.ref a, rfl, a, 7, rfl, F2.new hp, by decide, by decide, fun r3 H3 r30 r31 k3 F3 => ⟨r3, 6, rfl, rfl, ⟨by decide, by decide⟩, ?_⟩⟩
      have hp3 : H3 p = some (.lst [.int (1 + r2), .int 400]) := k3 _ _ (neF F2 hp) upd_same
      obtain ⟨m, hm, m0, m1⟩ : ∃ m : Int, atI [V.int (1 + r2), .int 400] (r3 / 6) = some (.int m) ∧ 0 ≤ m ∧ m ≤ 1000 := by
        by_cases hz : r3 < 6
        · have e0 : r3 / 6 = 0 := by omega
          rw [e0]
          exact ⟨1 + r2, rfl, by omega, by omega⟩
        · have e0 : r3 / 6 = 1 := by omega
          rw [e0]
          exact ⟨400, rfl, by decide, by decide⟩
      refine ⟨p, _, _, .int m, rfl, rfl, .inl (.inl hp3), hm, ?_⟩
      refine ⟨.ref a, rfl, .int m, rfl, _, m, rfl, rfl, rfl, m0, m1, (by show 10 ≤ sizeLine; decide), fun p2 hp2 => ?_⟩
      refine ⟨a, p2, _, rfl, F3.new hp2, .inl (.inl upd_same), neF F3 hp2, (by show 0 < 10; decide), (by show 10 < 1000; decide), fun i v H4 hv k4 F4 => ?_⟩
      have kk : Kp a H H4 := ((((k1.trans k2).trans (Kp.new hp)).trans k3).trans (Kp.new hp2)).trans k4
      match i, hv with
      | 0, hv => cases hv; exact q _ H4 (by decide +kernel) kk F4
      | 1, hv => cases hv; exact q _ H4 (by decide +kernel) kk F4
      | 2, hv => cases hv; exact q _ H4 (by decide +kernel) kk F4
      | 3, hv => cases hv; exact q _ H4 (by decide +kernel) kk F4
      | 4, hv => cases hv; exact q _ H4 (by decide +kernel) kk F4
      | 5, hv => cases hv; exact q _ H4 (tokMul (c := 120) (by unfold SOk; decide +kernel) (by decide +kernel) m1) kk F4
      | 6, hv => cases hv; exact q _ H4 (by decide +kernel) kk F4
      | 7, hv => cases hv; exact q _ H4 (by decide +kernel) kk F4
      | 8, hv => cases hv; exact q _ H4 (by decide +kernel) kk F4
      | 9, hv => cases hv; exact q _ H4 (by decide +kernel) kk F4
    · have n7 : r ≠ 7 := fun z => e7 (by rw [z]; rfl)
      have n6 : r ≠ 6 := fun z => e6 (by rw [z]; rfl)
      refine ⟨(by show 6 ≤ sizeLine; decide), fun p hp => ?_⟩
      obtain ⟨z, sz, hz⟩ : ∃ z : Str, TOk z ∧ atI [V.str "0", .str "1", .str "0", .str "1", .str "", .str "10"] r = some (.str z) := by
        have hc : r = 0 ∨ r = 1 ∨ r = 2 ∨ r = 3 ∨ r = 4 ∨ r = 5 := by omega
        rcases hc with h | h | h | h | h | h <;> (rw [h]; first | exact ⟨"0", by decide +kernel, rfl⟩ | exact ⟨"1", by decide +kernel, rfl⟩ | exact ⟨"", by decide +kernel, rfl⟩ | exact ⟨"10", by decide +kernel, rfl⟩)
      exact ⟨.int r, rfl, p, _, _, .str z, rfl, rfl, .inl (.inl upd_same), hz, q z _ sz (k1.trans (Kp.new hp)) (F1.new hp)⟩
end
/-! ### values that are alike -/
inductive Fl : V → String → Prop
  | non : Fl .non "NoneType"
  | bl (b : Bool) : Fl (.bl b) "bool"
  | int (i : Int) : Fl (.int i) "int"
  | str (z : Str) : Fl (.str z) "str"
section
variable {K : PySem.W.Frag} {H : Hp}
theorem Fl.tyX {v : V} {t : String} (h : Fl v t) : TyX K H v (.type t) := by
  cases h
  · exact .base .non
  · exact .base (.bl _)
  · exact .base (.int _)
  · exact .base (.str _)
theorem Fl.noSeq {v : V} {t : String} (h : Fl v t) : PySem.W.kitAny K (.type t) [.type "list", .type "tuple"] = some false := by
  cases h <;> exact kitAny_cons (b := false) (kit_ty (by decide +kernel)) (fun _ => kitAny_cons (b := false) (kit_ty (by decide +kernel)) (fun _ => kitAny_nil) (fun z => z)) (fun z => z)
theorem Fl.kit {v : V} {t : String} (h : Fl v t) (c : String) (hc : c = "bool" ∨ c = "int" ∨ c = "str") : ∃ b, PySem.W.kitOne K (.type t) (.type c) = some b := by
  rcases hc with rfl | rfl | rfl <;> cases h <;> first | exact ⟨true, kit_ty (by decide +kernel)⟩ | exact ⟨false, kit_ty (by decide +kernel)⟩
theorem Fl.scal {v : V} {t : String} (h : Fl v t) : L2.scal v v = true := by
  cases h <;> rfl
theorem kitSeqL : PySem.W.kitAny K (.type "list") [.type "list", .type "tuple"] = some true := kitAny_cons (b := true) (kit_ty (by decide +kernel)) (fun z => by cases z) (fun _ => rfl)
theorem kitSeqT : PySem.W.kitAny K (.type "tuple") [.type "list", .type "tuple"] = some true := kitAny_cons (b := false) (kit_ty (by decide +kernel)) (fun _ => kitAny_cons (b := true) (kit_ty (by decide +kernel)) (fun z => by cases z) (fun _ => rfl)) (fun _ => rfl)
theorem SqL.tyX {a : Addr} {xs : List V} (h : SqL K H a xs) : TyX K H (.ref a) (.type "list") := by
  rcases h with (h | ⟨o, h⟩) | ⟨o, its, n, h, c, _⟩
  · exact .base (.lst h)
  · exact .base (.frz h)
  · exact .kList h c
theorem SqT.tyX {a : Addr} {xs : List V} (h : SqT K H a xs) : TyX K H (.ref a) (.type "tuple") := by
  rcases h with (h | ⟨o, h⟩) | ⟨o, its, n, h, c, _⟩
  · exact .base (.tup h)
  · exact .fTuple h
  · exact .kTuple h c
end
/-- alike down to the depth n -/
inductive Sv (K : PySem.W.Frag) (H : Hp) : Nat → V → V → Prop
  | flat {n : Nat} {v : V} {t : String} (h : Fl v t) : Sv K H n v v
  | lst {n : Nat} {a b : Addr} {xs ys : List V} (ha : SqL K H a xs) (hb : SqL K H b ys) (hl : xs.length = ys.length) (hz : xs.length ≤ 1000) (h : ∀ (i : Nat) v w, xs[i]? = some v → ys[i]? = some w → Sv K H n v w) : Sv K H (n + 1) (.ref a) (.ref b)
  | tup {n : Nat} {a b : Addr} {xs ys : List V} (ha : SqT K H a xs) (hb : SqT K H b ys) (hl : xs.length = ys.length) (hz : xs.length ≤ 1000) (h : ∀ (i : Nat) v w, xs[i]? = some v → ys[i]? = some w → Sv K H n v w) : Sv K H (n + 1) (.ref a) (.ref b)
theorem Sv.same {K : PySem.W.Frag} {H H' : Hp} (e : Same H H') {n : Nat} {v w : V} (h : Sv K H n v w) : Sv K H' n v w := by
  induction h with
  | flat h => exact .flat h
  | lst ha hb hl hz _ ih => exact .lst (e.seq ha) (e.seq hb) hl hz ih
  | tup ha hb hl hz _ ih => exact .tup (sameTup e ha) (sameTup e hb) hl hz ih
def spSame (K : PySem.W.Frag) (n : Nat) : Sp := fun vs H Q _ => ∃ v w : V, vs = [v, w] ∧ Sv K H n v w ∧ ∀ H', Same H H' → Q (.bl true) H'
section
variable {P : Program} {w : World} {K : PySem.W.Frag} {mg : Str → Option Value} {base : Heap} {f : Addr} {fd : FuncData}
theorem scSame : FnScope ["_law_found", "_law_due", "_law_a", "_law_b"] ["_law_found", "_law_due"] (defScope sSame) := ⟨rfl, rfl, rfl, by decide +kernel, rfl, by decide +kernel, by decide +kernel⟩
theorem okSame (F : FnP K "_law_same" sSame f fd) (gS : mg "_law_same" = some (.ref f)) (B : Bn mg) : ∀ (n k : Nat), FnOk P w K mg base CX0 (k + n + 1) f fd ["_law_found", "_law_due"] (spSame K n) := by
  have bS : Binds K fd ["_law_found", "_law_due"] [] := F.bindsN fun _ _ _ _ _ _ us hl => match us, hl with | [_, _], _ => rfl
  intro n
  induction n with
  | zero =>
    intro k
    refine F.ok scSame (fun vs H Q E h => ?_) (fun cdv A outer s H vs Q E hr h => ?_)
    · obtain ⟨v, w, rfl, _⟩ := h
      rfl
    · obtain ⟨v, w', rfl, hv, q⟩ := h
      obtain ⟨t, hf, rfl⟩ : ∃ t, Fl v t ∧ v = w' := by
        cases hv with
        | flat h => exact ⟨_, h, rfl⟩
      refine ⟨_, PSs.nox (pss_cons (ps_if (pt_val (pe_callB call_isiT (by rfl) B.isi (by decide +kernel) (pa_cons (pv 1) (pa_cons (pe_tup (pa_cons (pe_bltn (v := .ty "list") (by rfl) B.list (by decide +kernel) rfl) (pa_cons (pe_bltn (v := .ty "tuple") (by rfl) B.tuple (by decide +kernel) rfl) pa_nil))) pa_nil))))
        (pss_cons (ps_never) (pss_one (ps_never))) pss_nil) (pss_cons (ps_if (PW.pt (pw_or (pt_cmpR op_ne (pe_callB call_isi (by rfl) B.isi (by decide +kernel) (pa_cons (pv 0) (pa_cons (pe_bltn (v := .ty "bool") (by rfl) B.bool (by decide +kernel) rfl) pa_nil))) (pe_callB call_isi (by rfl) B.isi (by decide +kernel) (pa_cons (pv 1) (pa_cons (pe_bltn (v := .ty "bool") (by rfl) B.bool (by decide +kernel) rfl) pa_nil))) (nomark _))
            (pw_or1 (pt_cmpR op_ne (pe_callB call_isi (by rfl) B.isi (by decide +kernel) (pa_cons (pv 0) (pa_cons (pe_bltn (v := .ty "int") (by rfl) B.int (by decide +kernel) rfl) pa_nil))) (pe_callB call_isi (by rfl) B.isi (by decide +kernel) (pa_cons (pv 1) (pa_cons (pe_bltn (v := .ty "int") (by rfl) B.int (by decide +kernel) rfl) pa_nil))) (nomark _)))))
          (pss_one (ps_ret pe_bl)) pss_nil) (pss_one (ps_ret (pe_and (pe_cmpR op_eq (pe_callB call_isi (by rfl) B.isi (by decide +kernel) (pa_cons (pv 0) (pa_cons (pe_bltn (v := .ty "str") (by rfl) B.str (by decide +kernel) rfl) pa_nil))) (pe_callB call_isi (by rfl) B.isi (by decide +kernel) (pa_cons (pv 1) (pa_cons (pe_bltn (v := .ty "str") (by rfl) B.str (by decide +kernel) rfl) pa_nil))) (nomark _))
          (pe_one (pe_cmpR op_eq (pv 0) (pv 1) (nomark _)))))))), ?_⟩
      obtain ⟨b1, e1⟩ := hf.kit (K := K) "bool" (.inl rfl)
      obtain ⟨b2, e2⟩ := hf.kit (K := K) "int" (.inr (.inl rfl))
      obtain ⟨b3, e3⟩ := hf.kit (K := K) "str" (.inr (.inr rfl))
      refine ⟨v, rfl, (by show 2 ≤ sizeLine; decide), fun p hp => ⟨v, p, [.ty "list", .ty "tuple"], .type t, [.type "list", .type "tuple"], false, rfl, upd_same, .cons (.ty _) (.cons (.ty _) .nil), hf.tyX, hf.noSeq, false, rfl, iteF ?_⟩⟩
      refine ⟨v, rfl, v, .ty "bool", .type t, .type "bool", b1, rfl, .ty _, hf.tyX, e1, v, rfl, v, .ty "bool", .type t, .type "bool", b1, rfl, .ty _, hf.tyX, e1, rfl, _, rfl, iteNS rfl ?_⟩
      refine ⟨v, rfl, v, .ty "int", .type t, .type "int", b2, rfl, .ty _, hf.tyX, e2, v, rfl, v, .ty "int", .type t, .type "int", b2, rfl, .ty _, hf.tyX, e2, rfl, _, rfl, iteNS rfl ?_⟩
      refine ⟨v, rfl, v, .ty "str", .type t, .type "str", b3, rfl, .ty _, hf.tyX, e3, v, rfl, v, .ty "str", .type t, .type "str", b3, rfl, .ty _, hf.tyX, e3, rfl, _, rfl, ?_⟩
      rw [if_pos (decide_eq_true rfl)]
      refine ⟨v, rfl, v, rfl, hf.scal, ?_⟩
      rw [decide_eq_true (rfl : v = v)]
      exact q _ (sameUpd hp)
  | succ n ih =>
    intro k
    have G := ih k
    refine F.ok scSame (fun vs H Q E h => ?_) (fun cdv A outer s H vs Q E hr h => ?_)
    · obtain ⟨v, w, rfl, _⟩ := h
      rfl
    · have hr1 : Room (k + n + 1) _ := hr.mono (by omega)
      refine ⟨_, PSs.nox (pss_cons (ps_if (pt_val (pe_callB call_isiT (by rfl) B.isi (by decide +kernel) (pa_cons (pv 1) (pa_cons (pe_tup (pa_cons (pe_bltn (v := .ty "list") (by rfl) B.list (by decide +kernel) rfl) (pa_cons (pe_bltn (v := .ty "tuple") (by rfl) B.tuple (by decide +kernel) rfl) pa_nil))) pa_nil))))
        (pss_cons (ps_if (PW.pt (pw_or (pt_cmpR op_ne (pe_callB call_isi (by rfl) B.isi (by decide +kernel) (pa_cons (pv 0) (pa_cons (pe_bltn (v := .ty "list") (by rfl) B.list (by decide +kernel) rfl) pa_nil))) (pe_callB call_isi (by rfl) B.isi (by decide +kernel) (pa_cons (pv 1) (pa_cons (pe_bltn (v := .ty "list") (by rfl) B.list (by decide +kernel) rfl) pa_nil))) (nomark _))
            (pw_or1 (pt_not (pt_val (pe_callB call_isiT (by rfl) B.isi (by decide +kernel) (pa_cons (pv 0) (pa_cons (pe_tup (pa_cons (pe_bltn (v := .ty "list") (by rfl) B.list (by decide +kernel) rfl) (pa_cons (pe_bltn (v := .ty "tuple") (by rfl) B.tuple (by decide +kernel) rfl) pa_nil))) pa_nil))))))))
            (pss_one (ps_ret pe_bl)) pss_nil) (pss_one (ps_ret (pe_and (pe_cmpR op_eq (pe_callB call_len_seq (by rfl) B.len PySem.boot_len (pa_cons (pv 0) pa_nil)) (pe_callB call_len_seq (by rfl) B.len PySem.boot_len (pa_cons (pv 1) pa_nil)) (nomark _))
            (pe_one (pe_callB (cr_all rfl) (by rfl) B.all (by decide +kernel) (pa_cons (pe_lc (own := [("_law_a", 2), ("_law_b", 3)]) (g := gTup K 2 (gCons (gName 2) (gCons (gName 3) gNil))) rfl scSame.nd (RZ.pi_zipA (by rfl) B.zip (pa_cons (pv 0) (pa_cons (pv 1) pa_nil))) (blkOk_by (N := ["_law_found", "_law_due", "_law_a", "_law_b"]) (sc := defScope sSame) (by decide +kernel))
              (fun _ _ _ _ _ => pg_tup rfl (pgs_cons (pg_name (i := 2) scSame.nd rfl (.inl rfl) (hf := .inr rfl)) (pgs_cons (pg_name (i := 3) scSame.nd rfl (.inl rfl) (hf := .inr rfl)) pgs_nil))) (fun _ _ _ _ _ => pts_nil)
              (fun _ _ _ _ _ => pe_call G hr1 (by rfl) gS F.kp bS .nil pass0 (pa_cons (pv 2) (pa_cons (pv 3) pa_nil)))) pa_nil))))))) pss_nil) (pss_cons (ps_if (PW.pt (pw_or (pt_cmpR op_ne (pe_callB call_isi (by rfl) B.isi (by decide +kernel) (pa_cons (pv 0) (pa_cons (pe_bltn (v := .ty "bool") (by rfl) B.bool (by decide +kernel) rfl) pa_nil))) (pe_callB call_isi (by rfl) B.isi (by decide +kernel) (pa_cons (pv 1) (pa_cons (pe_bltn (v := .ty "bool") (by rfl) B.bool (by decide +kernel) rfl) pa_nil))) (nomark _))
            (pw_or1 (pt_cmpR op_ne (pe_callB call_isi (by rfl) B.isi (by decide +kernel) (pa_cons (pv 0) (pa_cons (pe_bltn (v := .ty "int") (by rfl) B.int (by decide +kernel) rfl) pa_nil))) (pe_callB call_isi (by rfl) B.isi (by decide +kernel) (pa_cons (pv 1) (pa_cons (pe_bltn (v := .ty "int") (by rfl) B.int (by decide +kernel) rfl) pa_nil))) (nomark _)))))
          (pss_one (ps_ret pe_bl)) pss_nil) (pss_one (ps_ret (pe_and (pe_cmpR op_eq (pe_callB call_isi (by rfl) B.isi (by decide +kernel) (pa_cons (pv 0) (pa_cons (pe_bltn (v := .ty "str") (by rfl) B.str (by decide +kernel) rfl) pa_nil))) (pe_callB call_isi (by rfl) B.isi (by decide +kernel) (pa_cons (pv 1) (pa_cons (pe_bltn (v := .ty "str") (by rfl) B.str (by decide +kernel) rfl) pa_nil))) (nomark _))
          (pe_one (pe_cmpR op_eq (pv 0) (pv 1) (nomark _)))))))), ?_⟩
      obtain ⟨v, w, rfl, hv, q⟩ := h
      cases hv with
      | @flat _ _ t hf =>
        obtain ⟨b1, e1⟩ := hf.kit (K := K) "bool" (.inl rfl)
        obtain ⟨b2, e2⟩ := hf.kit (K := K) "int" (.inr (.inl rfl))
        obtain ⟨b3, e3⟩ := hf.kit (K := K) "str" (.inr (.inr rfl))
        refine ⟨v, rfl, (by show 2 ≤ sizeLine; decide), fun p hp => ⟨v, p, [.ty "list", .ty "tuple"], .type t, [.type "list", .type "tuple"], false, rfl, upd_same, .cons (.ty _) (.cons (.ty _) .nil), hf.tyX, hf.noSeq, false, rfl, iteF ?_⟩⟩
        refine ⟨v, rfl, v, .ty "bool", .type t, .type "bool", b1, rfl, .ty _, hf.tyX, e1, v, rfl, v, .ty "bool", .type t, .type "bool", b1, rfl, .ty _, hf.tyX, e1, rfl, _, rfl, iteNS rfl ?_⟩
        refine ⟨v, rfl, v, .ty "int", .type t, .type "int", b2, rfl, .ty _, hf.tyX, e2, v, rfl, v, .ty "int", .type t, .type "int", b2, rfl, .ty _, hf.tyX, e2, rfl, _, rfl, iteNS rfl ?_⟩
        refine ⟨v, rfl, v, .ty "str", .type t, .type "str", b3, rfl, .ty _, hf.tyX, e3, v, rfl, v, .ty "str", .type t, .type "str", b3, rfl, .ty _, hf.tyX, e3, rfl, _, rfl, ?_⟩
        rw [if_pos (decide_eq_true rfl)]
        refine ⟨v, rfl, v, rfl, hf.scal, ?_⟩
        rw [decide_eq_true (rfl : v = v)]
        exact q _ (sameUpd hp)
      | @lst _ a b xs ys ha hb hl hz hh =>
        refine ⟨.ref b, rfl, (by show 2 ≤ sizeLine; decide), fun p hp => ?_⟩
        have s1 : Same H (upd H p (.tup [.ty "list", .ty "tuple"])) := sameUpd hp
        have ha1 := (s1).seq ha
        have hb1 := (s1).seq hb
        refine ⟨.ref b, p, [.ty "list", .ty "tuple"], .type "list", [.type "list", .type "tuple"], true, rfl, upd_same, .cons (.ty _) (.cons (.ty _) .nil), SqL.tyX hb1, kitSeqL, true, rfl, iteT ?_⟩
        refine ⟨.ref a, rfl, .ref a, .ty "list", .type "list", .type "list", true, rfl, .ty _, SqL.tyX ha1, kit_ty (by decide +kernel), .ref b, rfl, .ref b, .ty "list", .type "list", .type "list", true, rfl, .ty _, SqL.tyX hb1, kit_ty (by decide +kernel), rfl, _, rfl, iteNS rfl ?_⟩
        refine ⟨.ref a, rfl, (by show 2 ≤ sizeLine; decide), fun p2 hp2 => ?_⟩
        have s2 : Same _ (upd (upd H p (.tup [.ty "list", .ty "tuple"])) p2 (.tup [.ty "list", .ty "tuple"])) := s1.trans (sameUpd hp2)
        have ha2 := (s2).seq ha
        have hb2 := (s2).seq hb
        refine ⟨.ref a, p2, [.ty "list", .ty "tuple"], .type "list", [.type "list", .type "tuple"], true, rfl, upd_same, .cons (.ty _) (.cons (.ty _) .nil), SqL.tyX ha2, kitSeqL, true, rfl, iteF ?_⟩
        refine ⟨.ref a, rfl, a, xs, rfl, .inl ha2, .ref b, rfl, b, ys, rfl, .inl hb2, rfl, _, rfl, ?_⟩
        rw [if_pos (decide_eq_true (by rw [hl]))]
        refine ⟨.ref a, rfl, .ref b, rfl, a, b, xs, ys, rfl, .inl ⟨ha2, hb2, fun D hD => ?_⟩⟩
        generalize upd (upd H p (.tup [.ty "list", .ty "tuple"])) p2 (.tup [.ty "list", .ty "tuple"]) = H2 at *
        refine lcJ (n := xs.length) (fun i H3 => Same H2 H3 ∧ H3 D = some (.lst ((List.replicate i true).map V.bl)) ∧ i ≤ xs.length) ⟨sameUpd hD, upd_same, Nat.zero_le _⟩ (fun i H3 lt h3 => ?_) (fun H3 h3 => ?_) (fun i H3 x H4 lt h3 y => ?_) (fun H3 h3 => ?_)
        · exact ⟨xs, ys, xs[i], ys[i], (h3.1).seq ha2, (h3.1).seq hb2, List.getElem?_eq_getElem lt, List.getElem?_eq_getElem (by omega)⟩
        · exact ⟨xs, ys, (h3.1).seq ha2, (h3.1).seq hb2, .inl (Nat.le_refl _)⟩
        · obtain ⟨s3, eD, _⟩ := h3
          obtain ⟨T, x1, y1, rfl, nT, rfl, fx, fy⟩ := y
          have e1 := fx _ ((s3).seq ha2)
          have e2 := fy _ ((s3).seq hb2)
          refine ⟨T, [x1, y1], rfl, .inl (.inl upd_same), rfl, x1, [y1], rfl, y1, [], rfl, rfl, rfl, ?_⟩
          refine ⟨x1, rfl, y1, rfl, x1, y1, rfl, (hh i _ _ e1 e2).same (s2.trans (s3.trans (sameUpd nT))), fun H5 s5 => ?_⟩
          have s4 : Same H2 H5 := s3.trans ((sameUpd nT).trans s5)
          have eD5 : H5 D = some (.lst ((List.replicate i true).map V.bl)) := s5 _ _ (sameUpd nT _ _ eD)
          refine ⟨_, eD5, ?_, fun b o hb => ?_, ?_, lt⟩
          · rw [List.length_map, List.length_replicate]
            exact small1000 (by omega)
          · rw [upd_ne (ne_of_none hb hD)]
            exact s4 _ _ hb
          · rw [upd_same, List.replicate_succ', List.map_append]
            rfl
        · obtain ⟨s3, eD, _⟩ := h3
          refine ⟨D, List.replicate xs.length true, rfl, .inl (.inl eD), ?_⟩
          rw [show (List.replicate xs.length true).all id = true by simp]
          exact q _ (s2.trans s3)
      | @tup _ a b xs ys ha hb hl hz hh =>
        refine ⟨.ref b, rfl, (by show 2 ≤ sizeLine; decide), fun p hp => ?_⟩
        have s1 : Same H (upd H p (.tup [.ty "list", .ty "tuple"])) := sameUpd hp
        have ha1 := sameTup (s1) ha
        have hb1 := sameTup (s1) hb
        refine ⟨.ref b, p, [.ty "list", .ty "tuple"], .type "tuple", [.type "list", .type "tuple"], true, rfl, upd_same, .cons (.ty _) (.cons (.ty _) .nil), SqT.tyX hb1, kitSeqT, true, rfl, iteT ?_⟩
        refine ⟨.ref a, rfl, .ref a, .ty "list", .type "tuple", .type "list", false, rfl, .ty _, SqT.tyX ha1, kit_ty (by decide +kernel), .ref b, rfl, .ref b, .ty "list", .type "tuple", .type "list", false, rfl, .ty _, SqT.tyX hb1, kit_ty (by decide +kernel), rfl, _, rfl, iteNS rfl ?_⟩
        refine ⟨.ref a, rfl, (by show 2 ≤ sizeLine; decide), fun p2 hp2 => ?_⟩
        have s2 : Same _ (upd (upd H p (.tup [.ty "list", .ty "tuple"])) p2 (.tup [.ty "list", .ty "tuple"])) := s1.trans (sameUpd hp2)
        have ha2 := sameTup (s2) ha
        have hb2 := sameTup (s2) hb
        refine ⟨.ref a, p2, [.ty "list", .ty "tuple"], .type "tuple", [.type "list", .type "tuple"], true, rfl, upd_same, .cons (.ty _) (.cons (.ty _) .nil), SqT.tyX ha2, kitSeqT, true, rfl, iteF ?_⟩
        refine ⟨.ref a, rfl, a, xs, rfl, .inr ha2, .ref b, rfl, b, ys, rfl, .inr hb2, rfl, _, rfl, ?_⟩
        rw [if_pos (decide_eq_true (by rw [hl]))]
        refine ⟨.ref a, rfl, .ref b, rfl, a, b, xs, ys, rfl, .inr ⟨ha2, hb2, fun D hD => ?_⟩⟩
        generalize upd (upd H p (.tup [.ty "list", .ty "tuple"])) p2 (.tup [.ty "list", .ty "tuple"]) = H2 at *
        refine lcJ (n := xs.length) (fun i H3 => Same H2 H3 ∧ H3 D = some (.lst ((List.replicate i true).map V.bl)) ∧ i ≤ xs.length) ⟨sameUpd hD, upd_same, Nat.zero_le _⟩ (fun i H3 lt h3 => ?_) (fun H3 h3 => ?_) (fun i H3 x H4 lt h3 y => ?_) (fun H3 h3 => ?_)
        · exact ⟨xs, ys, xs[i], ys[i], sameTup (h3.1) ha2, sameTup (h3.1) hb2, List.getElem?_eq_getElem lt, List.getElem?_eq_getElem (by omega)⟩
        · exact ⟨xs, ys, sameTup (h3.1) ha2, sameTup (h3.1) hb2, .inl (Nat.le_refl _)⟩
        · obtain ⟨s3, eD, _⟩ := h3
          obtain ⟨T, x1, y1, rfl, nT, rfl, fx, fy⟩ := y
          have e1 := fx _ (sameTup (s3) ha2)
          have e2 := fy _ (sameTup (s3) hb2)
          refine ⟨T, [x1, y1], rfl, .inl (.inl upd_same), rfl, x1, [y1], rfl, y1, [], rfl, rfl, rfl, ?_⟩
          refine ⟨x1, rfl, y1, rfl, x1, y1, rfl, (hh i _ _ e1 e2).same (s2.trans (s3.trans (sameUpd nT))), fun H5 s5 => ?_⟩
          have s4 : Same H2 H5 := s3.trans ((sameUpd nT).trans s5)
          have eD5 : H5 D = some (.lst ((List.replicate i true).map V.bl)) := s5 _ _ (sameUpd nT _ _ eD)
          refine ⟨_, eD5, ?_, fun b o hb => ?_, ?_, lt⟩
          · rw [List.length_map, List.length_replicate]
            exact small1000 (by omega)
          · rw [upd_ne (ne_of_none hb hD)]
            exact s4 _ _ hb
          · rw [upd_same, List.replicate_succ', List.map_append]
            rfl
        · obtain ⟨s3, eD, _⟩ := h3
          refine ⟨D, List.replicate xs.length true, rfl, .inl (.inl eD), ?_⟩
          rw [show (List.replicate xs.length true).all id = true by simp]
          exact q _ (s2.trans s3)
end
end K2.La

set_option Elab.async false
set_option linter.all false
set_option maxRecDepth 100000
set_option maxHeartbeats 4000000
namespace K2.La
open PySem PySem.Spec PyProof.Rows L2
/-- all but lists stand -/
def KT (H H' : Hp) : Prop := ∀ a o, H a = some o → (∀ xs, o ≠ .lst xs) → H' a = some o
theorem KT.refl (H : Hp) : KT H H := fun _ _ e _ => e
theorem KT.trans {H H1 H2 : Hp} (a : KT H H1) (b : KT H1 H2) : KT H H2 := fun c o e n => b c o (a c o e n) n
theorem KT.same {H H' : Hp} (s : Same H H') : KT H H' := fun a o e _ => s a o e
theorem KT.kp {f : Addr} {H H' : Hp} (hf : Fd H f) (k : Kp f H H') : KT H H' := fun a o e n => by
  refine k a o (fun z => ?_) e
  obtain ⟨x, y, h, _⟩ := hf
  rw [z, h] at e
  exact n _ (Option.some.inj e).symm
theorem KT.put {H : Hp} {D : Addr} {xs ys : List V} (h : H D = some (.lst xs)) : KT H (upd H D (.lst ys)) := fun a o e n => by
  rw [upd_ne fun z => ?_]
  · exact e
  · rw [z, h] at e
    exact n _ (Option.some.inj e).symm
theorem KT.tup {K : PySem.W.Frag} {H H' : Hp} (k : KT H H') {a : Addr} {xs : List V} (h : SqT K H a xs) : SqT K H' a xs := by
  rcases h with (h | ⟨o, h⟩) | h
  · exact .inl (.inl (k _ _ h fun xs z => nomatch z))
  · exact .inl (.inr ⟨o, k _ _ h fun xs z => nomatch z⟩)
  · exact .inr h
/-- data to the depth n, tuples of at most w items -/
inductive Ow (w : Nat) : Nat → PyData → Prop
  | non (n : Nat) : Ow w n .none
  | bl (n : Nat) (b : Bool) : Ow w n (.bool b)
  | int (n : Nat) (i : Int) : Ow w n (.int i)
  | str (n : Nat) {z : Str} (h : TOk z) : Ow w n (.str z)
  | tup {n : Nat} {ds : List PyData} (h : ds.length ≤ w) (h2 : ∀ d ∈ ds, Ow w n d) : Ow w (n + 1) (.tuple ds)
theorem Ow.od {w n : Nat} {d : PyData} (hw : w ≤ 100) (h : Ow w n d) : Od n d := by
  induction h with
  | non n => exact .non _
  | bl n b => exact .bl _ b
  | int n i => exact .int _ i
  | str n h => exact .str _ h.1 (by have := h.2; omega)
  | tup h h2 ih => exact .tup (by omega) ih
theorem Ow.up {w n : Nat} {d : PyData} (h : Ow w n d) : ∀ {w' m : Nat}, w ≤ w' → n ≤ m → Ow w' m d := by
  induction h with
  | non n => exact fun _ _ => .non _
  | bl n b => exact fun _ _ => .bl _ b
  | int n i => exact fun _ _ => .int _ i
  | str n h => exact fun _ _ => .str _ h
  | @tup n ds h h2 ih =>
    intro w' m hw hm
    obtain ⟨k, rfl⟩ : ∃ k, m = k + 1 := ⟨m - 1, by omega⟩
    exact .tup (by omega) fun d hd => ih d hd hw (by omega)
theorem allKT {K : PySem.W.Frag} {H H' : Hp} : ∀ {ds : List PyData} {xs : List V}, (∀ d ∈ ds, ∀ v, Dp K H v d → Dp K H' v d) → DpAll K H xs ds → DpAll K H' xs ds
  | _, _, _, .nil => .nil
  | _, _, k, .cons h r => .cons (k _ List.mem_cons_self _ h) (allKT (fun d hd => k d (List.mem_cons_of_mem _ hd)) r)
theorem dpKT {K : PySem.W.Frag} {H H' : Hp} (k : KT H H') {w n : Nat} {d : PyData} (o : Ow w n d) : ∀ v, Dp K H v d → Dp K H' v d := by
  induction o with
  | non n => exact fun v h => by cases h; exact .non
  | bl n b => exact fun v h => by cases h; exact .bl _
  | int n i => exact fun v h => by cases h; exact .int _
  | str n h => exact fun v h => by cases h; exact .str _
  | tup h h2 ih =>
    intro v hv
    cases hv with
    | tup hx hd => exact .tup (k.tup hx) (allKT ih hd)
/-- v is such data -/
def Vw (K : PySem.W.Frag) (w n : Nat) (H : Hp) (v : V) : Prop := ∃ d, Dp K H v d ∧ Ow w n d
theorem Vw.kt {K : PySem.W.Frag} {w n : Nat} {H H' : Hp} {v : V} (k : KT H H') (h : Vw K w n H v) : Vw K w n H' v := let ⟨d, a, b⟩ := h; ⟨d, dpKT k b _ a, b⟩
theorem Vw.up {K : PySem.W.Frag} {w n w' n' : Nat} {H : Hp} {v : V} (h : Vw K w n H v) (a : w ≤ w') (b : n ≤ n') : Vw K w' n' H v := let ⟨d, x, y⟩ := h; ⟨d, x, y.up a b⟩
theorem vwAll {K : PySem.W.Frag} {w n : Nat} {H : Hp} : ∀ {xs : List V}, (∀ v ∈ xs, Vw K w n H v) → ∃ ds, DpAll K H xs ds ∧ ∀ d ∈ ds, Ow w n d
  | [], _ => ⟨[], .nil, fun d hd => absurd hd (by simp)⟩
  | x :: xs, h => by
    obtain ⟨d, a, b⟩ := h x List.mem_cons_self
    obtain ⟨ds, c, e⟩ := vwAll fun v hv => h v (List.mem_cons_of_mem _ hv)
    refine ⟨d :: ds, .cons a c, fun y hy => ?_⟩
    rcases List.mem_cons.mp hy with z | z
    · rw [z]; exact b
    · exact e y z
theorem Vw.tup {K : PySem.W.Frag} {w n : Nat} {H : Hp} {a : Addr} {xs : List V} (ha : SqT K H a xs) (hl : xs.length ≤ w) (h : ∀ v ∈ xs, Vw K w n H v) : Vw K w (n + 1) H (.ref a) := by
  obtain ⟨ds, c, e⟩ := vwAll h
  exact ⟨.tuple ds, .tup ha c, .tup (by have := dpLen c; omega) e⟩
theorem Vw.str {K : PySem.W.Frag} {w n : Nat} {H : Hp} {z : Str} (h : TOk z) : Vw K w n H (.str z) := ⟨.str z, .str z, .str _ h⟩
theorem Vw.int {K : PySem.W.Frag} {w n : Nat} {H : Hp} {i : Int} : Vw K w n H (.int i) := ⟨.int i, .int i, .int _ i⟩
theorem Vw.non {K : PySem.W.Frag} {w n : Nat} {H : Hp} : Vw K w n H .non := ⟨.none, .non, .non _⟩
theorem Vw.bl {K : PySem.W.Frag} {w n : Nat} {H : Hp} {b : Bool} : Vw K w n H (.bl b) := ⟨.bool b, .bl b, .bl _ b⟩
theorem forJ {J : It} {n : Nat} {g : TG} {tb : TS} {D : Ends} {σ : L2.St} {H : Hp} (Pv : Nat → L2.St → Hp → Prop) (h0 : Pv 0 σ H) (hgo : ∀ i σ H, i < n → Pv i σ H → J.go i H) (hst : ∀ σ H, Pv n σ H → J.stop n H)
    (hs : ∀ i σ H x H', i < n → Pv i σ H → J.yld i H x H' → g x σ H' fun σ2 H2 => tb { D with nx := Pv (i + 1), ct := Pv (i + 1), bk := D.nx } σ2 H2) (hd : ∀ σ H, Pv n σ H → D.nx σ H) :
    ∃ W : Nat → Nat → L2.St → Hp → Prop, (∃ m, W 0 m σ H) ∧ ∀ i m σ H, W i m σ H →
      (J.stop i H ∧ D.nx σ H) ∨ (J.go i H ∧ ∃ N : L2.St → Hp → Prop, (∀ σ' H', N σ' H' → ∃ m', m' < m ∧ W (i + 1) m' σ' H') ∧ ∀ x H', J.yld i H x H' → g x σ H' fun σ2 H2 => tb { D with nx := N, ct := N, bk := D.nx } σ2 H2) := by
  refine ⟨fun i m σ H => m = n - i ∧ i ≤ n ∧ Pv i σ H, ⟨n, by simp, Nat.zero_le _, h0⟩, fun i m σ H hW => ?_⟩
  obtain ⟨rfl, hi, p⟩ := hW
  by_cases lt : i < n
  · exact .inr ⟨hgo i σ H lt p, Pv (i + 1), fun σ' H' p' => ⟨n - (i + 1), by omega, rfl, lt, p'⟩, fun x H' y => hs i σ H x H' lt p y⟩
  · have e : i = n := by omega
    subst e
    exact .inl ⟨hst σ H p, hd σ H p⟩
def spAns : Sp := fun vs H Q _ => ∃ f : Addr, vs = [.ref f] ∧ Fd H f ∧ ∀ (v : V) H', (v = .non ∨ ∃ z, v = .str z ∧ TOk z) → Kp f H H' → Fd H' f → Q v H'
def spPickS : Sp := fun vs H Q _ => ∃ (f : Addr) (z : Str), vs = [.ref f, .str z] ∧ Fd H f ∧ 0 < z.length ∧ z.length < 1000 ∧ ∀ (c : Nat) H', c ∈ z.cps.toList → Kp f H H' → Fd H' f → Q (.str ⟨#[c]⟩) H'
/-- a text as words are -/
def spWord : Sp := fun vs H Q _ => ∃ f : Addr, vs = [.ref f] ∧ Fd H f ∧ ∀ (z : Str) H', TOk z → Kp f H H' → Fd H' f → Q (.str z) H'
theorem sokCut {z : Str} (h : SOk z) (lo hi : Option Int) : SOk (cutS z lo hi) := by
  unfold SOk cutS
  rw [List.all_toArray, List.all_eq_true]
  intro x hx
  have h1 := List.mem_of_mem_drop (List.mem_of_mem_take hx)
  exact Array.all_eq_true'.mp h x (by simpa using h1)
theorem lenCut (z : Str) (lo hi : Option Int) : (cutS z lo hi).length ≤ z.length := by
  show ((z.cps.toList.drop _).take _).toArray.size ≤ z.cps.size
  rw [List.size_toArray, List.length_take, List.length_drop, Array.length_toList]
  omega
theorem sokCat {a b : Str} (h : SOk a) (k : SOk b) : SOk (a ++ b) := by
  show (a.cps ++ b.cps).all _ = true
  rw [Array.all_append, Bool.and_eq_true]
  exact ⟨h, k⟩
theorem lenCat (a b : Str) : (a ++ b).length = a.length + b.length := by
  show (a.cps ++ b.cps).size = _
  rw [Array.size_append]
  rfl
theorem sokMem {z : Str} (h : SOk z) {c : Nat} (hc : c ∈ z.cps.toList) : SOk ⟨#[c]⟩ := by
  have h1 := Array.all_eq_true'.mp h c (by simpa using hc)
  unfold SOk
  simpa using h1
section
variable {P : Program} {w : World} {K : PySem.W.Frag} {mg : Str → Option Value} {base : Heap} {f : Addr} {fd : FuncData}
theorem scAns : FnScope ["_law_feed"] ["_law_feed"] (defScope (top 20)) := ⟨rfl, rfl, rfl, by decide +kernel, rfl, by decide +kernel, by decide +kernel⟩
theorem okAns {k : Nat} (F : FnP K "_law_some_answer" (top 20) f fd) (D : Has P w K mg base (k + 1) "_law_draw" ["_law_feed", "_law_many"] spDraw) (T : Has P w K mg base (k + 3) "_law_some_text" ["_law_feed"] spText) : FnOk P w K mg base CX0 (k + 4) f fd ["_law_feed"] spAns := by
  obtain ⟨fD, fdD, gD, kD, bD, GD⟩ := D.ex
  obtain ⟨fT, fdT, gT, kT, bT, GT⟩ := T.ex
  refine F.ok scAns (fun vs H Q E h => ?_) (fun cdv A outer s H vs Q E hr h => ?_)
  · obtain ⟨a, rfl, _⟩ := h
    rfl
  · obtain ⟨a, rfl, hF, q⟩ := h
    have hr1 : Room (k + 1) _ := hr.mono (by omega)
    refine ⟨_, PSs.nox (pss_one (ps_ret (pe_ifExp (pt_cmpR op_eq (pe_call GD hr1 (by rfl) gD kD bD .nil pass0 (pa_cons (pv 0) (pa_cons (pe_int) pa_nil))) pe_int (nomark _)) pe_non (pe_call GT hr (by rfl) gT kT bT .nil pass0 (pa_cons (pv 0) pa_nil))))), ?_⟩
    refine ⟨.ref a, rfl, a, 5, rfl, hF, by decide, by decide, fun r H1 r0 r1 k1 F1 => ⟨rfl, _, rfl, ite2 (fun e => ?_) (fun e => ?_)⟩⟩
    · exact q .non H1 (.inl rfl) k1 F1
    · exact ⟨.ref a, rfl, a, rfl, F1, fun z H2 tz k2 F2 => q _ H2 (.inr ⟨z, rfl, tz⟩) (k1.trans k2) F2⟩
theorem okPickS {k : Nat} (F : FnP K "_law_pick" sPick f fd) (ml : mg "len" = none) (D : Has P w K mg base (k + 1) "_law_draw" ["_law_feed", "_law_many"] spDraw) : FnOk P w K mg base CX0 (k + 2) f fd ["_law_feed", "_law_items"] spPickS := by
  obtain ⟨fD, fdD, gD, kD, bD, GD⟩ := D.ex
  refine F.ok scPick (fun vs H Q E h => ?_) (fun cdv A outer s H vs Q E hr h => ?_)
  · obtain ⟨a, z, rfl, _⟩ := h
    rfl
  · obtain ⟨a, z, rfl, hF, h0, h1, q⟩ := h
    refine ⟨_, PSs.nox (pss_one (ps_ret (pe_ix ix_str (pv 1) (pe_call GD hr (by rfl) gD kD bD .nil pass0 (pa_cons (pv 0) (pa_cons (pe_callB call_len_str (by rfl) ml PySem.boot_len (pa_cons (pv 1) pa_nil)) pa_nil))) (fun _ _ => rfl)))), ?_⟩
    refine ⟨.str z, rfl, .ref a, rfl, .str z, rfl, z, rfl, by rw [sizeLine_eq]; omega, ?_⟩
    refine ⟨a, (z.length : Int), rfl, hF, by omega, by omega, fun r H' r0 r1 kp fd' => ?_⟩
    obtain ⟨j, rfl⟩ : ∃ j : Nat, r = (j : Int) := ⟨r.toNat, by omega⟩
    have hj : j < z.cps.toList.length := by show j < z.length; omega
    exact ⟨z, _, _, rfl, rfl, by rw [sizeLine_eq]; omega, atI_nat (List.getElem?_eq_getElem hj), q _ H' (List.getElem_mem hj) kp fd'⟩
theorem scWord : FnScope ["_law_feed", "_law_found", "_law_turn", "_law_spot", "_law_sign"] ["_law_feed"] (defScope (top 29)) := ⟨rfl, rfl, rfl, by decide +kernel, rfl, by decide +kernel, by decide +kernel⟩
theorem okWord {k : Nat} (F : FnP K "_law_word" (top 29) f fd) (B : Bn mg) (D : Has P w K mg base (k + 1) "_law_draw" ["_law_feed", "_law_many"] spDraw) (Pk : Has P w K mg base (k + 2) "_law_pick" ["_law_feed", "_law_items"] spPickS) (Sg : Has P w K mg base (k + 2) "_law_signs" [] spSigns) : FnOk P w K mg base CX0 (k + 3) f fd ["_law_feed"] spWord := by
  obtain ⟨fD, fdD, gD, kD, bD, GD⟩ := D.ex
  obtain ⟨fP, fdP, gP, kP, bP, GP⟩ := Pk.ex
  obtain ⟨fS, fdS, gS, kS, bS, GS⟩ := Sg.ex
  refine F.ok scWord (fun vs H Q E h => ?_) (fun cdv A outer s H vs Q E hr h => ?_)
  · obtain ⟨a, rfl, _⟩ := h
    rfl
  · obtain ⟨a, rfl, hF, q⟩ := h
    have hr1 : Room (k + 1) _ := hr.mono (by omega)
    refine ⟨_, PSs.nox (pss_cons (ps_set (i := 1) scWord.nd rfl (.inl rfl) (pe_call GP hr (by rfl) gP kP bP .nil pass0 (pa_cons (pv 0) (pa_cons (pe_str) pa_nil)))) (C8.pss_cut (ps_for PassesOwn.never rfl (pi_range1 (by rfl) B.range (pa_cons (pe_ix ix_list (pe_lst (pa_cons (pe_int) (pa_cons (pe_int) (pa_cons (pe_int) (pa_cons (pe_int) (pa_cons (pe_int) pa_nil)))))) (pe_call GD hr1 (by rfl) gD kD bD .nil pass0 (pa_cons (pv 0) (pa_cons (pe_int) pa_nil))) (fun _ _ => rfl)) pa_nil)) (pg_name (i := 2) scWord.nd rfl (.inl rfl))
        (pss_one (ps_set (i := 1) scWord.nd rfl (.inl rfl) (pe_op op_add_str (pv 1) (pe_call GP hr (by rfl) gP kP bP .nil pass0 (pa_cons (pv 0) (pa_cons (pe_str) pa_nil))))))) (pss_cons (ps_par (i := 3) (j := 4) (by rfl) scWord.nd rfl rfl (by decide) rfl rfl (pa_cons (pe_call GD hr1 (by rfl) gD kD bD .nil pass0 (pa_cons (pv 0) (pa_cons (pe_op op_add (pe_callB call_len_str (by rfl) B.len PySem.boot_len (pa_cons (pv 1) pa_nil)) pe_int) pa_nil))) (pa_cons (pe_call GP hr (by rfl) gP kP bP .nil pass0 (pa_cons (pv 0) (pa_cons (pe_op op_add_str (pe_call0 GS hr (by rfl) gS kS bS .nil pass0) pe_str) pa_nil))) pa_nil)) (by rfl)) (pss_cons (ps_if (pt_cmpR op_gt (pe_call GD hr1 (by rfl) gD kD bD .nil pass0 (pa_cons (pv 0) (pa_cons (pe_int) pa_nil))) pe_int (nomark _)) (pss_one (ps_ret (pv 1))) pss_nil) (pss_one (ps_ret (pe_op op_add_str (pe_op op_add_str (pe_slice sl_str (pv 1) po_none (po_some (pv 3))) (pv 4)) (pe_slice sl_str (pv 1) (po_some (pe_op op_add (pv 3) (pe_call GD hr1 (by rfl) gD kD bD .nil pass0 (pa_cons (pv 0) (pa_cons (pe_int) pa_nil))))) po_none)))))))), ?_⟩
    refine ⟨.ref a, rfl, a, "abz", rfl, hF, by decide +kernel, by decide +kernel, fun c H1 hc k1 F1 => ?_⟩
    have sc1 : SOk ⟨#[c]⟩ := sokMem (z := "abz") (by unfold SOk; decide +kernel) hc
    refine ⟨fun σ' H' => ∃ (z : Str) (t : Option V), σ' = [some (.ref a), some (.str z), t, none, none] ∧ SOk z ∧ z.length ≤ 20 ∧ Kp a H H' ∧ Fd H' a, ?_, ?_⟩
    · refine ⟨(by show 5 ≤ sizeLine; decide), fun p hp => ?_⟩
      refine ⟨.ref a, rfl, a, 5, rfl, F1.new hp, by decide, by decide, fun r H2 r0 r1 k2 F2 => ?_⟩
      have nep : p ≠ a := fun z => by
        obtain ⟨x, y, e, _⟩ := F1
        rw [z, e] at hp
        cases hp
      have hp2 : H2 p = some (.lst [.int 0, .int 1, .int 6, .int 7, .int 8]) := k2 _ _ nep upd_same
      obtain ⟨m, hm, m8⟩ : ∃ m : Nat, atI [V.int 0, .int 1, .int 6, .int 7, .int 8] r = some (.int (m : Int)) ∧ m ≤ 8 := by
        have hc : r = 0 ∨ r = 1 ∨ r = 2 ∨ r = 3 ∨ r = 4 := by omega
        rcases hc with h | h | h | h | h <;> rw [h]
        · exact ⟨0, rfl, by omega⟩
        · exact ⟨1, rfl, by omega⟩
        · exact ⟨6, rfl, by omega⟩
        · exact ⟨7, rfl, by omega⟩
        · exact ⟨8, rfl, by omega⟩
      refine ⟨p, _, _, .int m, rfl, rfl, .inl (.inl hp2), hm, (m : Int), rfl, by omega, by omega, ?_⟩
      refine forJ (n := m) (fun i σ' H' => ∃ (z : Str) (t : Option V), σ' = [some (.ref a), some (.str z), t, none, none] ∧ SOk z ∧ z.length ≤ 1 + i ∧ Kp a H H' ∧ Fd H' a) ⟨_, none, rfl, sc1, Nat.le_refl _, (k1.trans (Kp.new hp)).trans k2, F2⟩ (fun i σ' H' lt _ => by show i < ((m : Int)).toNat; omega) (fun σ' H' _ => by show ((m : Int)).toNat ≤ m; omega)
        (fun i σ' H3 x H4 lt h y => ?_) (fun σ' H' h => ?_)
      · obtain ⟨rfl, rfl⟩ := y
        obtain ⟨z, t, rfl, sz, lz, k3, F3⟩ := h
        refine ⟨.str z, rfl, .ref a, rfl, a, "abcxyz0123456789", rfl, F3, by decide +kernel, by decide +kernel, fun c H5 hc k5 F5 => ?_⟩
        refine ⟨_, _, rfl, rfl, by rw [sizeLine_eq]; show z.length + 1 ≤ _; omega, ?_⟩
        exact ⟨_, _, rfl, sokCat sz (sokMem (z := "abcxyz0123456789") (by unfold SOk; decide +kernel) hc), by rw [lenCat]; show z.length + 1 ≤ _; omega, k3.trans k5, F5⟩
      · obtain ⟨z, t, rfl, sz, lz, k3, F3⟩ := h
        exact ⟨z, t, rfl, sz, by omega, k3, F3⟩
    rintro σ2 H2 ⟨z, t, rfl, sz, lz, k2, F2⟩
    refine ⟨.ref a, rfl, .str z, rfl, z, rfl, by rw [sizeLine_eq]; omega, _, 1, rfl, rfl, a, _, rfl, F2, by omega, by omega, fun sp H3 sp0 sp1 k3 F3 => ?_⟩
    refine ⟨.ref a, rfl, rfl, _, _, rfl, rfl, by decide +kernel, a, _, rfl, F3, by decide +kernel, by decide +kernel, fun c2 H4 hc2 k4 F4 => ⟨_, _, rfl, ?_⟩⟩
    have sc2 : SOk ⟨#[c2]⟩ := sokMem (by unfold SOk; decide +kernel) hc2
    refine ⟨.ref a, rfl, a, 3, rfl, F4, by decide, by decide, fun r H5 r0 r1 k5 F5 => ⟨_, _, rfl, rfl, _, rfl, ite2 (fun e => ?_) (fun e => ?_)⟩⟩
    · exact ⟨.str z, rfl, q z H5 ⟨sz, by omega⟩ (((k2.trans k3).trans k4).trans k5) F5⟩
    · refine ⟨.str z, rfl, .int sp, rfl, sp, rfl, z, rfl, by rw [sizeLine_eq]; omega, .str ⟨#[c2]⟩, rfl, _, _, rfl, rfl, ?_, ?_⟩
      · have := lenCut z none (some sp)
        show _ + 1 ≤ _
        rw [sizeLine_eq]
        omega
      · refine ⟨.str z, rfl, .int sp, rfl, .ref a, rfl, a, 2, rfl, F5, by decide, by decide, fun r2 H6 r20 r21 k6 F6 => ?_⟩
        refine ⟨_, _, rfl, rfl, _, rfl, z, rfl, by rw [sizeLine_eq]; omega, ?_⟩
        have h1 := lenCut z none (some sp)
        have h2 := lenCut z (some (sp + r2)) none
        have h3 : (cutS z none (some sp) ++ (⟨#[c2]⟩ : Str)).length = (cutS z none (some sp)).length + 1 := lenCat _ _
        refine ⟨_, _, rfl, rfl, by rw [h3, sizeLine_eq]; omega, q _ H6 ⟨sokCat (sokCat (sokCut sz _ _) sc2) (sokCut sz _ _), ?_⟩ ((((k2.trans k3).trans k4).trans k5).trans k6) F6⟩
        rw [lenCat, h3]
        omega
end
end K2.La

set_option Elab.async false
set_option linter.all false
set_option maxRecDepth 100000
set_option maxHeartbeats 8000000
namespace K2.La
open PySem PySem.Spec PyProof.Rows L2
theorem Fd.ne {H : Hp} {f p : Addr} (h : Fd H f) (hp : H p = none) : p ≠ f := fun z => by
  obtain ⟨x, y, e, _⟩ := h
  rw [z, e] at hp
  cases hp
theorem Fd.other {H : Hp} {f p : Addr} {o : HO} (h : Fd H f) (n : p ≠ f) : Fd (upd H p o) f := by
  obtain ⟨x, y, e, a, b⟩ := h
  exact ⟨x, y, by rw [upd_ne (Ne.symm n)]; exact e, a, b⟩
/-- a list made by turns that draw -/
theorem lcFeed {K : PySem.W.Frag} {f D : Addr} {j w n m : Nat} {te : TE} {σ : L2.St} {H1 : Hp} {Qd : Hp → Prop} (hD : H1 D = none) (hF : Fd H1 f) (hm : m ≤ 100) (hw : ∀ v, wipe ((wipe σ [j]).set j (some v)) [j] = wipe σ [j])
    (hs : ∀ x H, Kp f H1 H → Fd H f → ∀ R : VK, (∀ v H', Vw K w n H' v → Kp f H H' → Fd H' f → R v H') → te ((wipe σ [j]).set j (some x)) H R)
    (hd : ∀ H xs, H D = some (.lst xs) → xs.length = m → (∀ v ∈ xs, Vw K w n H v) → Kp f H1 H → Fd H f → Qd H) :
    ∃ W : Nat → Nat → Hp → Prop, (∃ m, W 0 m (upd H1 D (.lst []))) ∧ ∀ i k H, W i k H →
      ((Itr 0 m).stop i H ∧ Qd H) ∨ ((Itr 0 m).go i H ∧ ∃ Nx : Hp → Prop, (∀ H', Nx H' → ∃ m', m' < k ∧ W (i + 1) m' H') ∧ ∀ x H', (Itr 0 m).yld i H x H' → gName j x (wipe σ [j]) H' fun σ2 H2 => wipe σ2 [j] = wipe σ [j] ∧ tYes σ2 H2 fun b H3 =>
        if b = true then te σ2 H3 fun y H4 => ∃ acc, H4 D = some (.lst acc) ∧ acc.length < sizeLine ∧ Nx (upd H4 D (.lst (acc ++ [y]))) else Nx H3) := by
  have nD := hF.ne hD
  refine lcJ (n := m) (fun i H => ∃ xs, H D = some (.lst xs) ∧ xs.length = i ∧ (∀ v ∈ xs, Vw K w n H v) ∧ Kp f H1 H ∧ Fd H f) ⟨[], upd_same, rfl, fun v hv => absurd hv (by simp), Kp.new hD, hF.other nD⟩ (fun i H lt _ => lt) (fun H _ => Nat.le_refl _) (fun i H x H' lt h y => ?_) (fun H h => ?_)
  · obtain ⟨xs, e, el, hv, kp, fd⟩ := h
    obtain ⟨rfl, rfl⟩ := y
    refine ⟨hw _, ?_⟩
    unfold tYes
    dsimp only
    rw [if_pos rfl]
    refine hs _ H' kp fd _ fun v H2 hv2 k2 f2 => ?_
    have e2 := k2 D _ nD e
    refine ⟨xs, e2, by rw [sizeLine_eq]; omega, xs ++ [v], upd_same, by rw [List.length_append, el]; rfl, fun u hu => ?_, fun b o nb hb => ?_, f2.other nD⟩
    · have kt : KT H2 (upd H2 D (.lst (xs ++ [v]))) := KT.put e2
      rcases List.mem_append.mp hu with z | z
      · exact ((hv u z).kt (KT.kp fd k2)).kt kt
      · rw [List.mem_singleton.mp z]
        exact hv2.kt kt
    · rw [upd_ne (ne_of_none hb hD)]
      exact k2 _ _ nb (kp _ _ nb hb)
  · obtain ⟨xs, e, el, hv, kp, fd⟩ := h
    exact hd H xs e el hv kp fd
def spThings (K : PySem.W.Frag) : Sp := fun vs H Q _ => ∃ f : Addr, vs = [.ref f] ∧ Fd H f ∧ ∀ (p : Addr) (xs : List V) H', H' p = some (.lst xs) → xs.length = 5 → (∀ v ∈ xs, Vw K 5 3 H' v) → Kp f H H' → Fd H' f → Q (.ref p) H'
section
variable {P : Program} {w : World} {K : PySem.W.Frag} {mg : Str → Option Value} {base : Heap} {f : Addr} {fd : FuncData}
abbrev nThings : List Str := ["_law_feed", "_law_keys", "_law_turn", "_law_rows", "_law_part", "_law_arguments", "_law_text", "_law_found"]
theorem scThings : FnScope nThings ["_law_feed"] (defScope (top 30)) := ⟨rfl, rfl, rfl, by decide +kernel, rfl, by decide +kernel, by decide +kernel⟩
theorem okThings {k : Nat} (F : FnP K "_law_things" (top 30) f fd) (B : Bn mg) (D : Has P w K mg base (k + 4) "_law_draw" ["_law_feed", "_law_many"] spDraw) (Wd : Has P w K mg base (k + 4) "_law_word" ["_law_feed"] spWord) (An : Has P w K mg base (k + 4) "_law_some_answer" ["_law_feed"] spAns)
    (Tx : Has P w K mg base (k + 4) "_law_some_text" ["_law_feed"] spText) : FnOk P w K mg base CX0 (k + 5) f fd ["_law_feed"] (spThings K) := by
  obtain ⟨fD, fdD, gD, kD, bD, GD⟩ := D.ex
  obtain ⟨fW, fdW, gW, kW, bW, GW⟩ := Wd.ex
  obtain ⟨fA, fdA, gA, kA, bA, GA⟩ := An.ex
  obtain ⟨fT, fdT, gT, kT, bT, GT⟩ := Tx.ex
  refine F.ok scThings (fun vs H Q E h => ?_) (fun cdv A outer s H vs Q E hr h => ?_)
  · obtain ⟨a, rfl, _⟩ := h
    rfl
  · obtain ⟨a, rfl, hF, q⟩ := h
    refine ⟨_, PSs.nox (C8.pss_cut (ps_set (i := 1) scThings.nd rfl (.inl rfl) (pe_callTy call_tuple_of (by rfl) B.tuple (by decide +kernel) (pa_cons (pe_lc (own := [("_law_turn", 2)]) (g := gName 2) rfl scThings.nd (pi_range1 (by rfl) B.range (pa_cons (pe_op op_add pe_int (pe_call GD hr (by rfl) gD kD bD .nil pass0 (pa_cons (pv 0) (pa_cons (pe_int) pa_nil)))) pa_nil)) (blkOk_by (N := nThings) (sc := defScope (top 30)) (by decide +kernel))
          (fun _ _ _ _ _ => pg_name (i := 2) scThings.nd rfl (.inl rfl) (hf := .inr rfl)) (fun _ _ _ _ _ => pts_nil) (fun _ _ _ _ _ => pe_tup (pa_cons (pe_call GW hr (by rfl) gW kW bW .nil pass0 (pa_cons (pv 0) pa_nil)) (pa_cons (pe_call GW hr (by rfl) gW kW bW .nil pass0 (pa_cons (pv 0) pa_nil)) pa_nil)))) pa_nil))) (pss_cons (ps_set (i := 3) scThings.nd rfl (.inl rfl) (pe_lst pa_nil)) (C8.pss_cut (ps_for PassesOwn.never rfl (pi_range1 (by rfl) B.range (pa_cons (pe_call GD hr (by rfl) gD kD bD .nil pass0 (pa_cons (pv 0) (pa_cons (pe_int) pa_nil))) pa_nil)) (pg_name (i := 2) scThings.nd rfl (.inl rfl))
        (pss_one (ps_expr (pe_bm PySem.F.plainAttrs_list PySem.F.slot_list_append PySem.F.type_list_append mt_append (pv 3) (pa_cons (pe_callTy call_tuple_of (by rfl) B.tuple (by decide +kernel) (pa_cons (pe_lc (own := [("_law_part", 4)]) (g := gName 4) rfl scThings.nd (pi_range1 (by rfl) B.range (pa_cons (pe_op op_add pe_int (pe_call GD hr (by rfl) gD kD bD .nil pass0 (pa_cons (pv 0) (pa_cons (pe_int) pa_nil)))) pa_nil)) (blkOk_by (N := nThings) (sc := defScope (top 30)) (by decide +kernel))
          (fun _ _ _ _ _ => pg_name (i := 4) scThings.nd rfl (.inl rfl) (hf := .inr rfl)) (fun _ _ _ _ _ => pts_nil) (fun _ _ _ _ _ => pe_call GA hr (by rfl) gA kA bA .nil pass0 (pa_cons (pv 0) pa_nil))) pa_nil)) pa_nil))))) (C8.pss_cut (ps_if (pt_cmpR op_eq (pe_call GD hr (by rfl) gD kD bD .nil pass0 (pa_cons (pv 0) (pa_cons (pe_int) pa_nil))) pe_int (nomark _))
        (pss_one (ps_expr (pe_bm PySem.F.plainAttrs_list PySem.F.slot_list_append PySem.F.type_list_append mt_append (pv 3) (pa_cons (pe_tup (pa_cons (pe_op opRepX pe_str (pe_op op_add pe_int (pe_call GD hr (by rfl) gD kD bD .nil pass0 (pa_cons (pv 0) (pa_cons (pe_int) pa_nil))))) pa_nil)) pa_nil)))) pss_nil) (C8.pss_cut (ps_set (i := 5) scThings.nd rfl (.inl rfl) (pe_callTy call_tuple_of (by rfl) B.tuple (by decide +kernel) (pa_cons (pe_lc (own := [("_law_turn", 2)]) (g := gName 2) rfl scThings.nd (pi_range1 (by rfl) B.range (pa_cons (pe_call GD hr (by rfl) gD kD bD .nil pass0 (pa_cons (pv 0) (pa_cons (pe_int) pa_nil))) pa_nil)) (blkOk_by (N := nThings) (sc := defScope (top 30)) (by decide +kernel))
          (fun _ _ _ _ _ => pg_name (i := 2) scThings.nd rfl (.inl rfl) (hf := .inr rfl)) (fun _ _ _ _ _ => pts_nil) (fun _ _ _ _ _ => pe_call GT hr (by rfl) gT kT bT .nil pass0 (pa_cons (pv 0) pa_nil))) pa_nil))) (C8.pss_cut (ps_set (i := 6) scThings.nd rfl (.inl rfl) (pe_ix ix_list (pe_lst (pa_cons (pe_call GT hr (by rfl) gT kT bT .nil pass0 (pa_cons (pv 0) pa_nil)) (pa_cons (pe_op opRepX pe_str (pe_op op_add pe_int (pe_call GD hr (by rfl) gD kD bD .nil pass0 (pa_cons (pv 0) (pa_cons (pe_int) pa_nil))))) pa_nil))) (pe_call GD hr (by rfl) gD kD bD .nil pass0 (pa_cons (pv 0) (pa_cons (pe_int) pa_nil))) (fun _ _ => rfl))) (C8.pss_cut (ps_set (i := 7) scThings.nd rfl (.inl rfl) (pe_lst (pa_cons (pe_ix ix_tup (pv 1) pe_int (fun _ _ => rfl)) (pa_cons (pe_tup (pa_cons (pe_str) (pa_cons (pv 1) pa_nil))) (pa_cons (pe_tup (pa_cons (pe_str) (pa_cons (pe_call GW hr (by rfl) gW kW bW .nil pass0 (pa_cons (pv 0) pa_nil)) (pa_cons (pv 6) pa_nil)))) (pa_cons (pe_tup (pa_cons (pe_str) pa_nil)) pa_nil)))))) (pss_one (ps_ret (pe_op op_cat (pv 7) (pe_lst (pa_cons (pe_tup (pa_cons (pe_call GT hr (by rfl) gT kT bT .nil pass0 (pa_cons (pv 0) pa_nil)) (pa_cons (pv 5) (pa_cons (pe_callTy call_tuple_of (by rfl) B.tuple (by decide +kernel) (pa_cons (pv 3) pa_nil)) (pa_cons (pe_call GD hr (by rfl) gD kD bD .nil pass0 (pa_cons (pv 0) (pa_cons (pe_int) pa_nil))) pa_nil))))) pa_nil)))))))))))), ?_⟩
    -- the keys
    refine ⟨fun σ' H' => ∃ T ys, σ' = [some (.ref a), some (.ref T), none, none, none, none, none, none] ∧ SqT K H' T ys ∧ 1 ≤ ys.length ∧ ys.length ≤ 5 ∧ (∀ v ∈ ys, Vw K 5 1 H' v) ∧ Kp a H H' ∧ Fd H' a, ?_, ?_⟩
    · refine ⟨.ref a, rfl, a, 5, rfl, hF, by decide, by decide, fun r H1 r0 r1 k1 F1 => ⟨1, r, rfl, rfl, 1 + r, rfl, by omega, by omega, fun D hD => ?_⟩⟩
      obtain ⟨m, hm⟩ : ∃ m : Nat, 1 + r = (m : Int) := ⟨(1 + r).toNat, by omega⟩
      rw [hm, Int.toNat_natCast]
      refine lcFeed (K := K) (w := 5) (n := 1) hD F1 (by omega) (fun v => rfl) (fun x H2 k2 F2 R hR => ?_) (fun H2 xs e el hv k2 F2 => ?_)
      · refine ⟨.ref a, rfl, a, rfl, F2, fun z1 H3 t1 k3 F3 => ⟨.ref a, rfl, a, rfl, F3, fun z2 H4 t2 k4 F4 => ⟨(by show 2 ≤ sizeLine; decide), fun p hp => ?_⟩⟩⟩
        exact hR _ _ (.tup (.inl (.inl upd_same)) (by show 2 ≤ 5; omega) fun v hv => by simp at hv; rcases hv with rfl | rfl; exact .str t1; exact .str t2) ((k3.trans k4).trans (Kp.new hp)) (F4.new hp)
      · refine ⟨D, xs, rfl, .inl ⟨.inl (.inl e), fun T hT => ?_⟩⟩
        exact ⟨T, xs, rfl, .inl (.inl upd_same), by omega, by omega, fun v hv' => (hv v hv').kt (.same (sameUpd hT)), (k1.trans k2).trans (Kp.new hT), F2.new hT⟩
    rintro σ1 H1 ⟨T, ks, rfl, hT, l1, l5, hks, k1, F1⟩
    refine ⟨(by show 0 ≤ sizeLine; exact Nat.zero_le _), fun R hR => ?_⟩
    -- the rows
    refine ⟨fun σ' H' => ∃ t rs, σ' = [some (.ref a), some (.ref T), t, some (.ref R), none, none, none, none] ∧ H' R = some (.lst rs) ∧ rs.length ≤ 2 ∧ (∀ v ∈ rs, Vw K 5 1 H' v) ∧ Kp a H1 H' ∧ Fd H' a, ?_, ?_⟩
    · have nR := F1.ne hR
      refine ⟨.ref a, rfl, a, 3, rfl, F1.new hR, by decide, by decide, fun r H2 r0 r1 k2 F2 => ⟨r, rfl, by omega, by omega, ?_⟩⟩
      obtain ⟨m, hm⟩ : ∃ m : Nat, r = (m : Int) := ⟨r.toNat, by omega⟩
      rw [hm, Int.toNat_natCast]
      refine forJ (n := m) (fun i σ' H' => ∃ t rs, σ' = [some (.ref a), some (.ref T), t, some (.ref R), none, none, none, none] ∧ H' R = some (.lst rs) ∧ rs.length = i ∧ (∀ v ∈ rs, Vw K 5 1 H' v) ∧ Kp a H1 H' ∧ Fd H' a) ⟨none, [], rfl, k2 _ _ nR upd_same, rfl, fun v hv => absurd hv (by simp), (Kp.new hR).trans k2, F2⟩ (fun i σ' H' lt _ => lt) (fun σ' H' _ => Nat.le_refl _)
        (fun i σ' H3 x H4 lt h y => ?_) (fun σ' H' h => ?_)
      · obtain ⟨rfl, rfl⟩ := y
        obtain ⟨t, rs, rfl, eR, lR, hv, k3, F3⟩ := h
        refine ⟨.ref R, rfl, .inl ⟨rfl, _, .inl (.inl eR)⟩, ?_⟩
        refine ⟨.ref a, rfl, a, 4, rfl, F3, by decide, by decide, fun r H5 r0 r1 k5 F5 => ⟨1, r, rfl, rfl, 1 + r, rfl, by omega, by omega, fun D hD => ?_⟩⟩
        obtain ⟨m2, hm2⟩ : ∃ m : Nat, 1 + r = (m : Int) := ⟨(1 + r).toNat, by omega⟩
        rw [hm2, Int.toNat_natCast]
        refine lcFeed (K := K) (w := 5) (n := 0) hD F5 (by omega) (fun v => rfl) (fun x H6 k6 F6 R2 hR2 => ?_) (fun H6 xs e el hv6 k6 F6 => ?_)
        · refine ⟨.ref a, rfl, a, rfl, F6, fun v H7 hv7 k7 F7 => hR2 v H7 ?_ k7 F7⟩
          rcases hv7 with rfl | ⟨z, rfl, tz⟩
          · exact .non
          · exact .str tz
        · refine ⟨D, xs, rfl, .inl ⟨.inl (.inl e), fun T2 hT2 => ?_⟩⟩
          have eR7 : upd H6 T2 (.tup xs) R = some (.lst rs) := Kp.new (f := a) hT2 _ _ nR (k6 _ _ nR (k5 _ _ nR eR))
          have F7 : Fd (upd H6 T2 (.tup xs)) a := F6.new hT2
          have k7 : Kp a H4 (upd H6 T2 (.tup xs)) := (k5.trans k6).trans (Kp.new hT2)
          refine ⟨R, rs, .ref T2, rfl, rfl, eR7, by rw [sizeLine_eq]; omega, ?_⟩
          have kt : KT (upd H6 T2 (.tup xs)) (upd (upd H6 T2 (.tup xs)) R (.lst (rs ++ [.ref T2]))) := KT.put eR7
          refine ⟨_, _, rfl, upd_same, by rw [List.length_append, lR]; rfl, fun v hv8 => ?_, fun b o nb hb => ?_, F7.other nR⟩
          · rcases List.mem_append.mp hv8 with z | z
            · exact ((hv v z).kt (KT.kp F3 k7)).kt kt
            · rw [List.mem_singleton.mp z]
              exact (Vw.tup (w := 5) (n := 0) (.inl (.inl upd_same)) (by omega) fun u hu => (hv6 u hu).kt (.same (sameUpd hT2))).kt kt
          · rw [upd_ne (ne_of_none hb hR)]
            exact k7 _ _ nb (k3 _ _ nb hb)
      · obtain ⟨t, rs, rfl, eR, lR, hv, k3, F3⟩ := h
        exact ⟨t, rs, rfl, eR, by omega, hv, k3, F3⟩
    rintro σ2 H2 ⟨t, rs, rfl, eR, lR, hrs, k2, F2⟩
    have nR := F1.ne hR
    -- a long one
    refine ⟨fun σ' H' => ∃ rs, σ' = [some (.ref a), some (.ref T), t, some (.ref R), none, none, none, none] ∧ H' R = some (.lst rs) ∧ rs.length ≤ 3 ∧ (∀ v ∈ rs, Vw K 5 1 H' v) ∧ Kp a H1 H' ∧ Fd H' a, ?_, ?_⟩
    · refine ⟨.ref a, rfl, a, 4, rfl, F2, by decide, by decide, fun r H3 r0 r1 k3 F3 => ⟨rfl, _, rfl, ite2 (fun _ => ?_) (fun _ => ?_)⟩⟩
      · have eR3 := k3 _ _ nR eR
        refine ⟨.ref R, rfl, .inl ⟨rfl, _, .inl (.inl eR3)⟩, ?_⟩
        refine ⟨.ref a, rfl, a, 3, rfl, F3, by decide, by decide, fun r2 H4 r20 r21 k4 F4 => ⟨399, r2, rfl, rfl, "y", 399 + r2, rfl, rfl, rfl, by omega, by omega, (by show 1 ≤ sizeLine; decide), fun p hp => ?_⟩⟩
        have eR5 := Kp.new (f := a) (o := .tup [.str (Txt.mul "y" (399 + r2))]) hp _ _ nR (k4 _ _ nR eR3)
        refine ⟨R, rs, .ref p, rfl, rfl, eR5, by rw [sizeLine_eq]; omega, ?_⟩
        have kt := KT.put (ys := rs ++ [.ref p]) eR5
        have k5 : Kp a H2 (upd H4 p (.tup [.str (Txt.mul "y" (399 + r2))])) := (k3.trans k4).trans (Kp.new hp)
        refine ⟨_, rfl, upd_same, by rw [List.length_append]; show rs.length + 1 ≤ 3; omega, fun v hv8 => ?_, fun b o nb hb => ?_, (F4.new hp).other nR⟩
        · rcases List.mem_append.mp hv8 with z | z
          · exact ((hrs v z).kt (KT.kp F2 k5)).kt kt
          · rw [List.mem_singleton.mp z]
            refine (Vw.tup (w := 5) (n := 0) (.inl (.inl upd_same)) (by show 1 ≤ 5; omega) fun u hu => ?_).kt kt
            rw [List.mem_singleton.mp hu]
            exact .str (tokMul (c := 121) (by unfold SOk; decide +kernel) (by decide +kernel) (by omega))
        · rw [upd_ne (ne_of_none hb hR)]
          exact k5 _ _ nb (k2 _ _ nb hb)
      · exact ⟨rs, rfl, k3 _ _ nR eR, by omega, fun v hv => (hrs v hv).kt (KT.kp F2 k3), k2.trans k3, F3⟩
    rintro σ3 H3 ⟨rs3, rfl, eR3, lR3, hrs3, k3, F3⟩
    -- the arguments
    refine ⟨fun σ' H' => ∃ U us, σ' = [some (.ref a), some (.ref T), t, some (.ref R), none, some (.ref U), none, none] ∧ SqT K H' U us ∧ us.length ≤ 5 ∧ (∀ v ∈ us, Vw K 5 0 H' v) ∧ Kp a H3 H' ∧ Fd H' a, ?_, ?_⟩
    · refine ⟨.ref a, rfl, a, 6, rfl, F3, by decide, by decide, fun r H4 r0 r1 k4 F4 => ⟨r, rfl, by omega, by omega, fun D hD => ?_⟩⟩
      obtain ⟨m, hm⟩ : ∃ m : Nat, r = (m : Int) := ⟨r.toNat, by omega⟩
      rw [hm, Int.toNat_natCast]
      refine lcFeed (K := K) (w := 5) (n := 0) hD F4 (by omega) (fun v => rfl) (fun x H5 k5 F5 R hR => ?_) (fun H5 xs e el hv k5 F5 => ?_)
      · exact ⟨.ref a, rfl, a, rfl, F5, fun z1 H6 t1 k6 F6 => hR _ _ (.str t1) k6 F6⟩
      · refine ⟨D, xs, rfl, .inl ⟨.inl (.inl e), fun U hU => ?_⟩⟩
        exact ⟨U, xs, rfl, .inl (.inl upd_same), by omega, fun v hv' => (hv v hv').kt (.same (sameUpd hU)), (k4.trans k5).trans (Kp.new hU), F5.new hU⟩
    rintro σ4 H4 ⟨U, us, rfl, hU, lU, hus, k4, F4⟩
    -- the text
    refine ⟨fun σ' H' => ∃ z, σ' = [some (.ref a), some (.ref T), t, some (.ref R), none, some (.ref U), some (.str z), none] ∧ TOk z ∧ Kp a H4 H' ∧ Fd H' a, ?_, ?_⟩
    · refine ⟨.ref a, rfl, a, rfl, F4, fun z1 H5 t1 k5 F5 => ⟨.ref a, rfl, a, 5, rfl, F5, by decide, by decide, fun r H6 r0 r1 k6 F6 => ⟨398, r, rfl, rfl, "y", 398 + r, rfl, rfl, rfl, by omega, by omega, (by show 2 ≤ sizeLine; decide), fun p hp => ?_⟩⟩⟩
      refine ⟨.ref a, rfl, a, 2, rfl, F6.new hp, by decide, by decide, fun r2 H7 r20 r21 k7 F7 => ?_⟩
      have e7 := k7 _ _ (F6.ne hp) upd_same
      obtain ⟨z, hz, tz⟩ : ∃ z, atI [V.str z1, .str (Txt.mul "y" (398 + r))] r2 = some (.str z) ∧ TOk z := by
        have hc : r2 = 0 ∨ r2 = 1 := by omega
        rcases hc with h | h <;> rw [h]
        · exact ⟨z1, rfl, t1⟩
        · exact ⟨_, rfl, tokMul (c := 121) (by unfold SOk; decide +kernel) (by decide +kernel) (by omega)⟩
      exact ⟨p, _, _, _, rfl, rfl, .inl (.inl e7), hz, z, rfl, tz, ((k5.trans k6).trans (Kp.new hp)).trans k7, F7⟩
    rintro σ5 H5 ⟨z, rfl, tz, k5, F5⟩
    have kA : Kp a H1 H5 := (k3.trans k4).trans k5
    have hT5 : SqT K H5 T ks := (KT.kp F1 kA).tup hT
    have hks5 : ∀ v ∈ ks, Vw K 5 1 H5 v := fun v hv => (hks v hv).kt (KT.kp F1 kA)
    -- what was found
    refine ⟨fun σ' H' => ∃ L xs, σ' = [some (.ref a), some (.ref T), t, some (.ref R), none, some (.ref U), some (.str z), some (.ref L)] ∧ H' L = some (.lst xs) ∧ xs.length = 4 ∧ (∀ v ∈ xs, Vw K 5 3 H' v) ∧ Kp a H5 H' ∧ Fd H' a, ?_, ?_⟩
    · have hk0 : ks[0]? = some (ks[0]'l1) := List.getElem?_eq_getElem l1
      refine ⟨.ref T, rfl, T, ks, 0, ks[0]'l1, rfl, rfl, hT5, atI_nat (j := 0) hk0, .ref T, rfl, (by show 2 ≤ sizeLine; decide), fun p1 hp1 => ?_⟩
      have F6 := F5.new (o := .tup [.str "read", .ref T]) hp1
      refine ⟨.ref a, rfl, a, rfl, F6, fun z2 H7 t2 k7 F7 => ⟨.str z, rfl, (by show 3 ≤ sizeLine; decide), fun p2 hp2 => ⟨(by show 1 ≤ sizeLine; decide), fun p3 hp3 => ⟨(by show 4 ≤ sizeLine; decide), fun L hL => ?_⟩⟩⟩⟩
      have kt7 := KT.kp F6 k7
      have s8 : Same H7 (upd H7 p2 (.tup [.str "write", .str z2, .str z])) := sameUpd hp2
      have s9 := sameUpd (o := .tup [.str "stop"]) hp3
      have s10 := sameUpd (o := .lst [ks[0]'l1, .ref p1, .ref p2, .ref p3]) hL
      have s := (s8.trans s9).trans s10
      refine ⟨L, _, rfl, upd_same, rfl, fun v hv => ?_, (((Kp.new hp1).trans k7).trans (Kp.same s)), F7.same s⟩
      simp only [List.mem_cons, List.not_mem_nil, or_false] at hv
      rcases hv with rfl | rfl | rfl | rfl
      · exact ((((hks5 _ (List.getElem_mem l1)).kt (.same (sameUpd hp1))).kt kt7).kt (.same s)).up (by omega) (by omega)
      · have hv1 : Vw K 5 3 (upd H5 p1 (.tup [.str "read", .ref T])) (.ref p1) := by
          refine Vw.tup (n := 2) (.inl (.inl upd_same)) (by show 2 ≤ 5; omega) fun u hu => ?_
          simp only [List.mem_cons, List.not_mem_nil, or_false] at hu
          rcases hu with rfl | rfl
          · exact .str (by decide +kernel)
          · exact (Vw.tup hT5 l5 hks5).kt (.same (sameUpd hp1))
        exact (hv1.kt kt7).kt (.same s)
      · have hv2 : Vw K 5 3 (upd H7 p2 (.tup [.str "write", .str z2, .str z])) (.ref p2) := by
          refine Vw.tup (n := 2) (.inl (.inl upd_same)) (by show 3 ≤ 5; omega) fun u hu => ?_
          simp only [List.mem_cons, List.not_mem_nil, or_false] at hu
          rcases hu with rfl | rfl | rfl
          · exact .str (by decide +kernel)
          · exact .str t2
          · exact .str tz
        exact hv2.kt (.same (s9.trans s10))
      · have hv3 : Vw K 5 3 (upd (upd H7 p2 (.tup [.str "write", .str z2, .str z])) p3 (.tup [.str "stop"])) (.ref p3) := by
          refine Vw.tup (n := 2) (.inl (.inl upd_same)) (by show 1 ≤ 5; omega) fun u hu => ?_
          rw [List.mem_singleton.mp hu]
          exact .str (by decide +kernel)
        exact hv3.kt (.same s10)
    rintro σ6 H6 ⟨L, xs, rfl, eL, lL, hxs, k6, F6⟩
    have nL : L ≠ a := fun y => by
      obtain ⟨i, j, e, _⟩ := F6
      rw [y, e] at eL
      have e2 := Option.some.inj eL
      injection e2 with e2
      rw [← e2] at lL
      cases lL
    have kB : Kp a H3 H6 := (k4.trans k5).trans k6
    refine ⟨.ref L, rfl, .ref a, rfl, a, rfl, F6, fun z3 H7 t3 k7 F7 => ⟨.ref U, rfl, .ref R, rfl, R, rs3, rfl, .inl ⟨.inl (.inl (k7 _ _ nR (kB _ _ nR eR3))), fun T2 hT2 => ?_⟩⟩⟩
    have F8 := F7.new (o := .tup rs3) hT2
    refine ⟨.ref a, rfl, a, 4, rfl, F8, by decide, by decide, fun r H9 r0 r1 k9 F9 => ⟨(by show 4 ≤ sizeLine; decide), fun p1 hp1 => ⟨(by show 1 ≤ sizeLine; decide), fun p2 hp2 => ?_⟩⟩⟩
    have eL9 : H9 L = some (.lst xs) := k9 _ _ nL (Kp.new (f := a) hT2 _ _ nL (k7 _ _ nL eL))
    have s10 : Same H9 (upd H9 p1 (.tup [.str z3, .ref U, .ref T2, .int r])) := sameUpd hp1
    have s11 := sameUpd (o := .lst [.ref p1]) hp2
    refine ⟨L, p2, xs, [.ref p1], rfl, rfl, s11 _ _ (s10 _ _ eL9), upd_same, by rw [sizeLine_eq]; show xs.length + 1 ≤ _; omega, fun p3 hp3 => ?_⟩
    have s12 := sameUpd (o := .lst (xs ++ [.ref p1])) hp3
    have ktC : KT H6 H9 := ((KT.kp F6 k7).trans (.same (sameUpd hT2))).trans (KT.kp F8 k9)
    have ktD : KT H3 H9 := (KT.kp F3 kB).trans ktC
    refine q p3 _ _ upd_same (by rw [List.length_append, lL]; rfl) (fun v hv => ?_) (((((((k1.trans k3).trans kB).trans k7).trans (Kp.new hT2)).trans k9).trans (Kp.same s10)).trans ((Kp.same s11).trans (Kp.same s12))) (((F9.same s10).same s11).same s12)
    rcases List.mem_append.mp hv with y | y
    · exact ((hxs v y).kt ktC).kt (.same ((s10.trans s11).trans s12))
    · rw [List.mem_singleton.mp y]
      have hvp : Vw K 5 3 (upd H9 p1 (.tup [.str z3, .ref U, .ref T2, .int r])) (.ref p1) := by
        refine Vw.tup (n := 2) (.inl (.inl upd_same)) (by show 4 ≤ 5; omega) fun u hu => ?_
        simp only [List.mem_cons, List.not_mem_nil, or_false] at hu
        rcases hu with rfl | rfl | rfl | rfl
        · exact .str t3
        · have hu4 : Vw K 5 1 H4 (.ref U) := Vw.tup hU lU hus
          exact (((hu4.kt (KT.kp F4 (k5.trans k6))).kt ktC).kt (.same s10)).up (by omega) (by omega)
        · have hT8 : Vw K 5 2 (upd H7 T2 (.tup rs3)) (.ref T2) := Vw.tup (.inl (.inl upd_same)) (by omega) fun v hv => (((hrs3 v hv).kt (KT.kp F3 kB)).kt (KT.kp F6 k7)).kt (.same (sameUpd hT2))
          exact (hT8.kt (KT.kp F8 k9)).kt (.same s10)
        · exact .int
      exact hvp.kt (.same (s11.trans s12))
end
end K2.La

set_option Elab.async false
set_option linter.all false
set_option maxRecDepth 100000
set_option maxHeartbeats 8000000
namespace K2.La
open PySem PySem.Spec PyProof.Rows L2
def spOdd (K : PySem.W.Frag) (w n : Nat) : Sp := fun vs H Q _ => ∃ (f : Addr) (v : V), vs = [.ref f, v] ∧ Fd H f ∧ Vw K w n H v ∧ ∀ (v' : V) H', Vw K (w + 1) (n + 3) H' v' → Kp f H H' → Fd H' f → Q v' H'
abbrev odd1 (p1 p2 p3 p5 : Addr) : List V := [.non, .bl true, .int 0, .int (0 - 1), .str "", .str "a", .str "A", .str "a b", .ref p1, .ref p2, .ref p3, .ref p5, .str "read", .int 7, .str (Txt.mul "z" 401)]
abbrev odd2 (z : Str) (p6 p7 p9 : Addr) : List V := [.bl false, .str "\n", .str z, .ref p6, .ref p7, .ref p9, .str "~", .str "{"]
theorem digTok (i : Int) (h0 : 0 ≤ i) (h1 : i < 9) : TOk (("a" : Str) ++ (toString i : Str)) := by
  have hc : i = 0 ∨ i = 1 ∨ i = 2 ∨ i = 3 ∨ i = 4 ∨ i = 5 ∨ i = 6 ∨ i = 7 ∨ i = 8 := by omega
  rcases hc with h | h | h | h | h | h | h | h | h <;> (rw [h]; decide +kernel)
theorem digLen (i : Int) (h0 : 0 ≤ i) (h1 : i < 9) : ("a" : Str).length + (toString i : Str).length ≤ sizeLine := by
  have hc : i = 0 ∨ i = 1 ∨ i = 2 ∨ i = 3 ∨ i = 4 ∨ i = 5 ∨ i = 6 ∨ i = 7 ∨ i = 8 := by omega
  rcases hc with h | h | h | h | h | h | h | h | h <;> (rw [h]; decide +kernel)
theorem vwTwo {K : PySem.W.Frag} {w n : Nat} {H : Hp} {x y : V} (hx : Vw K w n H x) (hy : Vw K w n H y) : ∀ v ∈ [x, y], Vw K w n H v := fun v hv => by
  simp only [List.mem_cons, List.not_mem_nil, or_false] at hv
  rcases hv with rfl | rfl
  · exact hx
  · exact hy
theorem vwOne {K : PySem.W.Frag} {w n : Nat} {H : Hp} {x : V} (hx : Vw K w n H x) : ∀ v ∈ [x], Vw K w n H v := fun v hv => by
  rw [List.mem_singleton.mp hv]
  exact hx
theorem vwNil {K : PySem.W.Frag} {w n : Nat} {H : Hp} : ∀ v ∈ ([] : List V), Vw K w n H v := fun v hv => absurd hv (by simp)
/-- tuples put together -/
theorem catV {K : PySem.W.Frag} {H : Hp} {a b : Addr} {xs ys : List V} {Q : VK} (ha : SqT K H a xs) (hb : SqT K H b ys) (hz : xs.length + ys.length ≤ 1000) (q : ∀ p H', SqT K H' p (xs ++ ys) → Same H H' → Q (.ref p) H') : rCatA K (.ref a) (.ref b) H Q := by
  refine ⟨a, b, xs, ys, rfl, rfl, ha, hb, by rw [sizeLine_eq]; omega, fun e => ?_, fun _ e => ?_, fun _ _ p hp => ?_⟩
  · subst e
    exact q b H hb (Same.refl H)
  · subst e
    exact q a H (by rw [List.append_nil]; exact ha) (Same.refl H)
  · exact q p _ (.inl (.inl upd_same)) (sameUpd hp)
section
variable {P : Program} {w : World} {K : PySem.W.Frag} {mg : Str → Option Value} {base : Heap} {f : Addr} {fd : FuncData}
abbrev nOdd : List Str := ["_law_feed", "_law_value", "_law_spot", "_law_form", "_law_part", "_law_odd_here"]
theorem scOdd : FnScope nOdd ["_law_feed", "_law_value"] (defScope (top 31)) := ⟨rfl, rfl, rfl, by decide +kernel, rfl, by decide +kernel, by decide +kernel⟩
theorem oddSet {H : Hp} {p1 p2 p3 p4 p5 : Addr} (h1 : H p1 = none) (h2 : upd H p1 (.tup []) p2 = none) (h3 : upd (upd H p1 (.tup [])) p2 (.tup [.str "a", .str "b"]) p3 = none) (h4 : upd (upd (upd H p1 (.tup [])) p2 (.tup [.str "a", .str "b"])) p3 (.tup [.str "stop"]) p4 = none)
    (h5 : upd (upd (upd (upd H p1 (.tup [])) p2 (.tup [.str "a", .str "b"])) p3 (.tup [.str "stop"])) p4 (.tup [.str "a", .str "b"]) p5 = none) :
    Same H (upd (upd (upd (upd (upd H p1 (.tup [])) p2 (.tup [.str "a", .str "b"])) p3 (.tup [.str "stop"])) p4 (.tup [.str "a", .str "b"])) p5 (.tup [.ref p4])) ∧
    ∀ v ∈ odd1 p1 p2 p3 p5, Vw K 2 2 (upd (upd (upd (upd (upd H p1 (.tup [])) p2 (.tup [.str "a", .str "b"])) p3 (.tup [.str "stop"])) p4 (.tup [.str "a", .str "b"])) p5 (.tup [.ref p4])) v := by
  have s1 := sameUpd (o := .tup []) h1
  have s2 := sameUpd (o := .tup [.str "a", .str "b"]) h2
  have s3 := sameUpd (o := .tup [.str "stop"]) h3
  have s4 := sameUpd (o := .tup [.str "a", .str "b"]) h4
  have s5 := sameUpd (o := .tup [.ref p4]) h5
  refine ⟨(((s1.trans s2).trans s3).trans s4).trans s5, fun v hv => ?_⟩
  have ab : ∀ {H : Hp}, ∀ v ∈ [V.str "a", V.str "b"], Vw K 2 0 H v := vwTwo (.str (by decide +kernel)) (.str (by decide +kernel))
  simp only [odd1, List.mem_cons, List.not_mem_nil, or_false] at hv
  rcases hv with rfl | rfl | rfl | rfl | rfl | rfl | rfl | rfl | rfl | rfl | rfl | rfl | rfl | rfl | rfl
  · exact .non
  · exact .bl
  · exact .int
  · exact .int
  · exact .str (by decide +kernel)
  · exact .str (by decide +kernel)
  · exact .str (by decide +kernel)
  · exact .str (by decide +kernel)
  · exact ((Vw.tup (n := 1) (.inl (.inl upd_same)) (by show 0 ≤ 2; omega) vwNil : Vw K 2 2 (upd H p1 (.tup [])) (.ref p1)).kt (.same (((s2.trans s3).trans s4).trans s5)))
  · exact ((Vw.tup (n := 0) (.inl (.inl upd_same)) (by show 2 ≤ 2; omega) ab : Vw K 2 1 (upd (upd H p1 (.tup [])) p2 (.tup [.str "a", .str "b"])) (.ref p2)).kt (.same ((s3.trans s4).trans s5))).up (by omega) (by omega)
  · exact ((Vw.tup (n := 0) (.inl (.inl upd_same)) (by show 1 ≤ 2; omega) (vwOne (.str (by decide +kernel))) : Vw K 2 1 (upd (upd (upd H p1 (.tup [])) p2 (.tup [.str "a", .str "b"])) p3 (.tup [.str "stop"])) (.ref p3)).kt (.same (s4.trans s5))).up (by omega) (by omega)
  · have h4v : Vw K 2 1 (upd (upd (upd (upd H p1 (.tup [])) p2 (.tup [.str "a", .str "b"])) p3 (.tup [.str "stop"])) p4 (.tup [.str "a", .str "b"])) (.ref p4) := Vw.tup (.inl (.inl upd_same)) (by show 2 ≤ 2; omega) ab
    exact Vw.tup (.inl (.inl upd_same)) (by show 1 ≤ 2; omega) (vwOne (h4v.kt (.same s5)))
  · exact .str (by decide +kernel)
  · exact .int
  · exact .str (tokMul (c := 122) (by unfold SOk; decide +kernel) (by decide +kernel) (by omega))
theorem odd2Set {H : Hp} {z : Str} (tz : TOk z) {p6 p7 p8 p9 : Addr} (h6 : H p6 = none) (h7 : upd H p6 (.tup [.non]) p7 = none) (h8 : upd (upd H p6 (.tup [.non])) p7 (.tup [.str ""]) p8 = none) (h9 : upd (upd (upd H p6 (.tup [.non])) p7 (.tup [.str ""])) p8 (.tup [.non]) p9 = none) :
    Same H (upd (upd (upd (upd H p6 (.tup [.non])) p7 (.tup [.str ""])) p8 (.tup [.non])) p9 (.tup [.ref p8])) ∧
    ∀ v ∈ odd2 z p6 p7 p9, Vw K 2 2 (upd (upd (upd (upd H p6 (.tup [.non])) p7 (.tup [.str ""])) p8 (.tup [.non])) p9 (.tup [.ref p8])) v := by
  have s1 := sameUpd (o := .tup [.non]) h6
  have s2 := sameUpd (o := .tup [.str ""]) h7
  have s3 := sameUpd (o := .tup [.non]) h8
  have s4 := sameUpd (o := .tup [.ref p8]) h9
  refine ⟨((s1.trans s2).trans s3).trans s4, fun v hv => ?_⟩
  simp only [odd2, List.mem_cons, List.not_mem_nil, or_false] at hv
  rcases hv with rfl | rfl | rfl | rfl | rfl | rfl | rfl | rfl
  · exact .bl
  · exact .str (by decide +kernel)
  · exact .str tz
  · exact ((Vw.tup (n := 0) (.inl (.inl upd_same)) (by show 1 ≤ 2; omega) (vwOne .non) : Vw K 2 1 (upd H p6 (.tup [.non])) (.ref p6)).kt (.same ((s2.trans s3).trans s4))).up (by omega) (by omega)
  · exact ((Vw.tup (n := 0) (.inl (.inl upd_same)) (by show 1 ≤ 2; omega) (vwOne (.str (by decide +kernel))) : Vw K 2 1 (upd (upd H p6 (.tup [.non])) p7 (.tup [.str ""])) (.ref p7)).kt (.same (s3.trans s4))).up (by omega) (by omega)
  · have h4v : Vw K 2 1 (upd (upd (upd H p6 (.tup [.non])) p7 (.tup [.str ""])) p8 (.tup [.non])) (.ref p8) := Vw.tup (.inl (.inl upd_same)) (by show 1 ≤ 2; omega) (vwOne .non)
    exact Vw.tup (.inl (.inl upd_same)) (by show 1 ≤ 2; omega) (vwOne (h4v.kt (.same s4)))
  · exact .str (by decide +kernel)
  · exact .str (by decide +kernel)
theorem vwOf {w n : Nat} {H : Hp} {xs : List V} {ds : List PyData} (h : DpAll K H xs ds) (o : ∀ d ∈ ds, Ow w n d) : ∀ v ∈ xs, Vw K w n H v := by
  intro v hv
  obtain ⟨i, hi, e⟩ := List.getElem_of_mem hv
  have hl := dpLen h
  obtain ⟨u, h1, h2⟩ := dpAt h (List.getElem?_eq_getElem (by omega : i < ds.length))
  have : u = v := by
    rw [List.getElem?_eq_getElem hi, e] at h1
    exact (Option.some.inj h1).symm
  subst this
  exact ⟨_, h2, o _ (List.getElem_mem _)⟩
theorem lenCutA (xs : List V) (j : Nat) : (cutV xs none (some (j : Int))).length ≤ j := by
  unfold cutV
  rw [HT.sIx_nat, HT.sIx_none, List.length_take]
  omega
theorem lenCutB (xs : List V) (j : Nat) : (cutV xs (some ((j : Int) + 1)) none).length ≤ xs.length - (j + 1) := by
  have e9 : (j : Int) + 1 = ((j + 1 : Nat) : Int) := by omega
  unfold cutV
  rw [e9, HT.sIx_nat, HT.sIx_none, List.length_take, List.length_drop]
  omega
theorem memCut {xs : List V} {lo hi : Option Int} {v : V} (h : v ∈ cutV xs lo hi) : v ∈ xs := List.mem_of_mem_drop (List.mem_of_mem_take h)
theorem okOdd (wd : Nat) (hwd : wd ≤ 50) (hw2 : 2 ≤ wd + 1) (F : FnP K "_law_odd" (top 31) f fd) (gO : mg "_law_odd" = some (.ref f)) (B : Bn mg) (D : Has P w K mg base 3 "_law_draw" ["_law_feed", "_law_many"] spDraw) (Pk : Has P w K mg base 3 "_law_pick" ["_law_feed", "_law_items"] (spPick K)) :
    ∀ (n : Nat), n ≤ 50 → ∀ k : Nat, FnOk P w K mg base CX0 (k + n + 4) f fd ["_law_feed", "_law_value"] (spOdd K wd n) := by
  obtain ⟨fD, fdD, gD, kD, bD, GD⟩ := D.ex
  obtain ⟨fP, fdP, gP, kP, bP, GP⟩ := Pk.ex
  have bO : Binds K fd ["_law_feed", "_law_value"] [] := F.bindsN fun _ _ _ _ _ _ us hl => match us, hl with | [_, _], _ => rfl
  intro n
  induction n with
  | zero =>
    intro hn k
    refine F.ok scOdd (fun vs H Q E h => ?_) (fun cdv A outer s H vs Q E hr h => ?_)
    · obtain ⟨a, v, rfl, _⟩ := h
      rfl
    · obtain ⟨a, v, rfl, hF, hv, q⟩ := h
      have hr3 : Room 3 _ := hr.mono (by omega)
      refine ⟨_, PSs.nox (C8.pss_cut (ps_if (PW.pt (pw_and (pt_val (pe_callB call_isi (by rfl) B.isi (by decide +kernel) (pa_cons (pv 1) (pa_cons (pe_bltn (v := .ty "tuple") (by rfl) B.tuple (by decide +kernel) rfl) pa_nil)))) (pw_and (pt_cmpR (op_neD hr.units) (pv 1) (pe_tup pa_nil) (nomark _)) (pw_and1 (pt_cmpR op_gt (pe_call GD hr3 (by rfl) gD kD bD .nil pass0 (pa_cons (pv 0) (pa_cons (pe_int) pa_nil))) pe_int (nomark _))))))
          (pss_cons (ps_never) (pss_cons (ps_never) (pss_cons (ps_never) (pss_cons (ps_never) (pss_one (ps_never)))))) pss_nil) (pss_cons (ps_set (i := 5) scOdd.nd rfl (.inl rfl) (pe_lst (pa_cons (pe_non) (pa_cons (pe_bl) (pa_cons (pe_int) (pa_cons (pe_op op_sub pe_int pe_int) (pa_cons (pe_str) (pa_cons (pe_str) (pa_cons (pe_str) (pa_cons (pe_str) (pa_cons (pe_tup pa_nil) (pa_cons (pe_tup (pa_cons (pe_str) (pa_cons (pe_str) pa_nil))) (pa_cons (pe_tup (pa_cons (pe_str) pa_nil)) (pa_cons (pe_tup (pa_cons (pe_tup (pa_cons (pe_str) (pa_cons (pe_str) pa_nil))) pa_nil)) (pa_cons (pe_str) (pa_cons (pe_int) (pa_cons (pe_op opRepX pe_str pe_int) pa_nil))))))))))))))))) (pss_one (ps_ret (pe_call GP hr3 (by rfl) gP kP bP .nil pass0 (pa_cons (pv 0) (pa_cons (pe_op op_cat (pv 5) (pe_lst (pa_cons (pe_bl) (pa_cons (pe_str) (pa_cons (pe_op op_add_str pe_str (pe_callTy call_str_int (by rfl) B.str (by decide +kernel) (pa_cons (pe_call GD hr3 (by rfl) gD kD bD .nil pass0 (pa_cons (pv 0) (pa_cons (pe_int) pa_nil))) pa_nil))) (pa_cons (pe_tup (pa_cons (pe_non) pa_nil)) (pa_cons (pe_tup (pa_cons (pe_str) pa_nil)) (pa_cons (pe_tup (pa_cons (pe_tup (pa_cons (pe_non) pa_nil)) pa_nil)) (pa_cons (pe_str) (pa_cons (pe_str) pa_nil)))))))))) pa_nil))))))), ?_⟩
      refine ⟨fun σ' H' => σ' = [some (.ref a), some v, none, none, none, none] ∧ Kp a H H' ∧ Fd H' a, ?_, ?_⟩
      · obtain ⟨d, hd, od⟩ := hv
        refine ⟨v, rfl, v, .ty "tuple", _, _, _, rfl, .ty _, dpTy hd, dpKit hd (.inl rfl), _, rfl, ?_⟩
        cases od <;> exact iteF ⟨rfl, Kp.refl _ _, hF⟩
      rintro σ2 H2 ⟨rfl, k1, F1⟩
      refine ⟨0, 1, rfl, rfl, Nat.zero_le _, fun p1 h1 => ⟨(by show 2 ≤ sizeLine; decide), fun p2 h2 => ⟨(by show 1 ≤ sizeLine; decide), fun p3 h3 => ⟨(by show 2 ≤ sizeLine; decide), fun p4 h4 => ⟨(by show 1 ≤ sizeLine; decide), fun p5 h5 => ⟨"z", 401, rfl, rfl, rfl, by decide, by decide, (by show 15 ≤ sizeLine; decide), fun L1 hL1 => ?_⟩⟩⟩⟩⟩⟩
      obtain ⟨s1, v1⟩ := oddSet (K := K) h1 h2 h3 h4 h5
      have sL1 := sameUpd (o := .lst (odd1 p1 p2 p3 p5)) hL1
      have F2 := (F1.same s1).same sL1
      have nL1 := (F1.same s1).ne hL1
      refine ⟨.ref a, rfl, .ref L1, rfl, ?_⟩
      refine ⟨.ref a, rfl, a, 9, rfl, F2, by decide, by decide, fun r H3 r0 r1 k3 F3 => ?_⟩
      refine ⟨r, rfl, ?_, ?_⟩
      · have hc : r = 0 ∨ r = 1 ∨ r = 2 ∨ r = 3 ∨ r = 4 ∨ r = 5 ∨ r = 6 ∨ r = 7 ∨ r = 8 := by omega
        rcases hc with h | h | h | h | h | h | h | h | h <;> (rw [h]; decide +kernel)
      refine ⟨_, _, rfl, rfl, digLen r r0 r1, (by show 1 ≤ sizeLine; decide), fun p6 h6 => ⟨(by show 1 ≤ sizeLine; decide), fun p7 h7 => ⟨(by show 1 ≤ sizeLine; decide), fun p8 h8 => ⟨(by show 1 ≤ sizeLine; decide), fun p9 h9 => ⟨(by show 8 ≤ sizeLine; decide), fun L2 hL2 => ?_⟩⟩⟩⟩⟩
      obtain ⟨s4, v4⟩ := odd2Set (K := K) (digTok r r0 r1) h6 h7 h8 h9
      have sL2 := sameUpd (o := .lst (odd2 (("a" : Str) ++ (toString r : Str)) p6 p7 p9)) hL2
      have e1 := sL2 _ _ (s4 _ _ (k3 _ _ nL1 upd_same))
      refine ⟨L1, L2, _, _, rfl, rfl, e1, upd_same, (by show 15 + 8 ≤ sizeLine; decide), fun L3 hL3 => ?_⟩
      have sL3 := sameUpd (o := .lst (odd1 p1 p2 p3 p5 ++ odd2 (("a" : Str) ++ (toString r : Str)) p6 p7 p9)) hL3
      have F5 := ((F3.same s4).same sL2)
      have F6 := F5.same sL3
      refine ⟨a, L3, _, rfl, F6, .inl (.inl upd_same), F5.ne hL3, (by show 0 < 15 + 8; decide), (by show 15 + 8 < 1000; decide), fun i v' H7 hv7 k7 F7 => q v' H7 ?_ (((((k1.trans (Kp.same s1)).trans (Kp.same sL1)).trans k3).trans ((Kp.same s4).trans ((Kp.same sL2).trans (Kp.same sL3)))).trans k7) F7⟩
      have hm := List.mem_of_getElem? hv7
      have hres : Vw K 2 2 H7 v' := by
        rcases List.mem_append.mp hm with y | y
        · exact ((((v1 v' y).kt (.same sL1)).kt (KT.kp F2 k3)).kt (.same ((s4.trans sL2).trans sL3))).kt (KT.kp F6 k7)
        · exact ((v4 v' y).kt (.same (sL2.trans sL3))).kt (KT.kp F6 k7)
      exact hres.up hw2 (by omega)
  | succ n ih =>
    intro hn k
    have G := ih (by omega) k
    refine F.ok scOdd (fun vs H Q E h => ?_) (fun cdv A outer s H vs Q E hr h => ?_)
    · obtain ⟨a, v, rfl, _⟩ := h
      rfl
    · obtain ⟨a, v, rfl, hF, hv, q⟩ := h
      have hr3 : Room 3 _ := hr.mono (by omega)
      have hrG : Room (k + n + 4) _ := hr.mono (by omega)
      refine ⟨_, PSs.nox (C8.pss_cut (ps_if (PW.pt (pw_and (pt_val (pe_callB call_isi (by rfl) B.isi (by decide +kernel) (pa_cons (pv 1) (pa_cons (pe_bltn (v := .ty "tuple") (by rfl) B.tuple (by decide +kernel) rfl) pa_nil)))) (pw_and (pt_cmpR (op_neD hr.units) (pv 1) (pe_tup pa_nil) (nomark _)) (pw_and1 (pt_cmpR op_gt (pe_call GD hr3 (by rfl) gD kD bD .nil pass0 (pa_cons (pv 0) (pa_cons (pe_int) pa_nil))) pe_int (nomark _))))))
          (pss_cons (ps_set (i := 2) scOdd.nd rfl (.inl rfl) (pe_call GD hr3 (by rfl) gD kD bD .nil pass0 (pa_cons (pv 0) (pa_cons (pe_callB call_len_seq (by rfl) B.len PySem.boot_len (pa_cons (pv 1) pa_nil)) pa_nil)))) (pss_cons (ps_set (i := 3) scOdd.nd rfl (.inl rfl) (pe_call GD hr3 (by rfl) gD kD bD .nil pass0 (pa_cons (pv 0) (pa_cons (pe_int) pa_nil)))) (pss_cons (ps_set (i := 4) scOdd.nd rfl (.inl rfl) (pe_lst (pa_cons (pe_call G hrG (by rfl) gO F.kp bO .nil pass0 (pa_cons (pv 0) (pa_cons (pe_ix ix_tup (pv 1) (pv 2) (fun _ _ => rfl)) pa_nil))) pa_nil))) (pss_cons (ps_set (i := 4) scOdd.nd rfl (.inl rfl) (pe_ix ix_list (pe_lst (pa_cons (pv 4) (pa_cons (pv 4) (pa_cons (pv 4) (pa_cons (pe_lst pa_nil) (pa_cons (pe_lst (pa_cons (pe_ix ix_tup (pv 1) (pv 2) (fun _ _ => rfl)) (pa_cons (pe_ix ix_tup (pv 1) (pv 2) (fun _ _ => rfl)) pa_nil))) (pa_cons (pe_lst (pa_cons (pe_ix ix_tup (pv 1) (pv 2) (fun _ _ => rfl)) (pa_cons (pe_str) pa_nil))) pa_nil))))))) (pv 3) (fun _ _ => rfl))) (pss_one (ps_ret (pe_op op_catA (pe_op op_catA (pe_slice sl_tup (pv 1) po_none (po_some (pv 2))) (pe_callTy call_tuple_of (by rfl) B.tuple (by decide +kernel) (pa_cons (pv 4) pa_nil))) (pe_slice sl_tup (pv 1) (po_some (pe_op op_add (pv 2) pe_int)) po_none)))))))) pss_nil) (pss_cons (ps_set (i := 5) scOdd.nd rfl (.inl rfl) (pe_lst (pa_cons (pe_non) (pa_cons (pe_bl) (pa_cons (pe_int) (pa_cons (pe_op op_sub pe_int pe_int) (pa_cons (pe_str) (pa_cons (pe_str) (pa_cons (pe_str) (pa_cons (pe_str) (pa_cons (pe_tup pa_nil) (pa_cons (pe_tup (pa_cons (pe_str) (pa_cons (pe_str) pa_nil))) (pa_cons (pe_tup (pa_cons (pe_str) pa_nil)) (pa_cons (pe_tup (pa_cons (pe_tup (pa_cons (pe_str) (pa_cons (pe_str) pa_nil))) pa_nil)) (pa_cons (pe_str) (pa_cons (pe_int) (pa_cons (pe_op opRepX pe_str pe_int) pa_nil))))))))))))))))) (pss_one (ps_ret (pe_call GP hr3 (by rfl) gP kP bP .nil pass0 (pa_cons (pv 0) (pa_cons (pe_op op_cat (pv 5) (pe_lst (pa_cons (pe_bl) (pa_cons (pe_str) (pa_cons (pe_op op_add_str pe_str (pe_callTy call_str_int (by rfl) B.str (by decide +kernel) (pa_cons (pe_call GD hr3 (by rfl) gD kD bD .nil pass0 (pa_cons (pv 0) (pa_cons (pe_int) pa_nil))) pa_nil))) (pa_cons (pe_tup (pa_cons (pe_non) pa_nil)) (pa_cons (pe_tup (pa_cons (pe_str) pa_nil)) (pa_cons (pe_tup (pa_cons (pe_tup (pa_cons (pe_non) pa_nil)) pa_nil)) (pa_cons (pe_str) (pa_cons (pe_str) pa_nil)))))))))) pa_nil))))))), ?_⟩
      refine ⟨fun σ' H' => σ' = [some (.ref a), some v, none, none, none, none] ∧ Kp a H H' ∧ Fd H' a, ?_, ?_⟩
      · obtain ⟨d, hd, od⟩ := hv
        have osh := (od.od (by omega)).shaped (by omega)
        refine ⟨v, rfl, v, .ty "tuple", _, _, _, rfl, .ty _, dpTy hd, dpKit hd (.inl rfl), _, rfl, ?_⟩
        cases od with
        | @tup n ds hl hod =>
          cases hd with
          | @tup b xs _ hx hds =>
            refine iteT ⟨.ref b, rfl, Nat.zero_le _, fun p hp => ?_⟩
            have s1 : Same H (upd H p (.tup [])) := sameUpd hp
            refine ⟨.tuple ds, .tuple [], .tup (sameTup s1 hx) (dpAllSame s1 _ _ hds), .tup (.inl (.inl upd_same)) .nil, osh, rfl, _, rfl, ?_⟩
            have F1 := hF.same s1
            have k1 : Kp a H (upd H p (.tup [])) := Kp.new hp
            generalize upd H p (.tup []) = H1 at s1 F1 k1 ⊢
            have el := dpLen hds
            have hxs := vwOf hds hod
            by_cases e0 : ds = []
            · subst e0
              exact iteF ⟨rfl, k1, F1⟩
            have pos : 0 < xs.length := by
              rw [el]
              exact List.length_pos_iff.mpr e0
            have ne1 : (!PyData.eqv (.tuple ds) (.tuple [])) = true := by
              cases ds with
              | nil => exact absurd rfl e0
              | cons d ds => rfl
            rw [ne1]
            refine iteT ⟨.ref a, rfl, a, 3, rfl, F1, by decide, by decide, fun r H2 r0 r1 k2 F2 => ⟨_, _, rfl, rfl, _, rfl, ite2 (fun _ => ?_) (fun _ => ⟨rfl, k1.trans k2, F2⟩)⟩⟩
            have kt2 : KT H H2 := KT.trans (.same s1) (KT.kp F1 k2)
            refine ⟨.ref a, rfl, .ref b, rfl, b, xs, rfl, .inr (kt2.tup hx), a, (xs.length : Int), rfl, F2, by omega, by omega, fun sp H3 sp0 sp1 k3 F3 => ?_⟩
            obtain ⟨j, rfl⟩ : ∃ j : Nat, sp = (j : Int) := ⟨sp.toNat, by omega⟩
            have hj : j < xs.length := by omega
            have hxj : xs[j]? = some xs[j] := List.getElem?_eq_getElem hj
            refine ⟨.ref a, rfl, a, 6, rfl, F3, by decide, by decide, fun fm H4 f0 f1 k4 F4 => ?_⟩
            have kt4 : KT H H4 := (kt2.trans (KT.kp F2 k3)).trans (KT.kp F3 k4)
            refine ⟨.ref a, rfl, .ref b, rfl, .int (j : Int), rfl, b, xs, _, _, rfl, rfl, kt4.tup hx, atI_nat hxj, a, xs[j], rfl, F4, (hxs _ (List.getElem_mem hj)).kt kt4, fun v5 H5 hv5 k5 F5 => ⟨(by show 1 ≤ sizeLine; decide), fun P1 hP1 => ?_⟩⟩
            have kt5 : KT H H5 := kt4.trans (KT.kp F4 k5)
            have s6 := sameUpd (o := .lst [v5]) hP1
            have kt6 := kt5.trans (.same s6)
            refine ⟨.ref P1, rfl, .ref P1, rfl, .ref P1, rfl, Nat.zero_le _, fun E1 hE1 => ?_⟩
            have s7 := sameUpd (o := .lst []) hE1
            have kt7 := kt6.trans (.same s7)
            refine ⟨.ref b, rfl, .int (j : Int), rfl, b, xs, _, _, rfl, rfl, kt7.tup hx, atI_nat hxj, .ref b, rfl, .int (j : Int), rfl, b, xs, _, _, rfl, rfl, kt7.tup hx, atI_nat hxj, (by show 2 ≤ sizeLine; decide), fun E2 hE2 => ?_⟩
            have s8 := sameUpd (o := .lst [xs[j], xs[j]]) hE2
            have kt8 := kt7.trans (.same s8)
            refine ⟨.ref b, rfl, .int (j : Int), rfl, b, xs, _, _, rfl, rfl, kt8.tup hx, atI_nat hxj, (by show 2 ≤ sizeLine; decide), fun E3 hE3 => ?_⟩
            have s9 := sameUpd (o := .lst [xs[j], .str "a"]) hE3
            refine ⟨(by show 6 ≤ sizeLine; decide), fun O hO => ?_⟩
            have s10 := sameUpd (o := .lst [.ref P1, .ref P1, .ref P1, .ref E1, .ref E2, .ref E3]) hO
            have kt9 := (kt8.trans (.same s9)).trans (.same s10)
            have F10 := ((((F5.same s6).same s7).same s8).same s9).same s10
            have k10 : Kp a H _ := ((((((((k1.trans k2).trans k3).trans k4).trans k5).trans (Kp.same s6)).trans (Kp.same s7)).trans (Kp.same s8)).trans (Kp.same s9)).trans (Kp.same s10)
            have ev5 := (((hv5.kt (.same s6)).kt (.same s7)).kt (.same s8)).kt (.same (s9.trans s10))
            have eP := (((s7.trans s8).trans s9).trans s10) _ _ (show upd H5 P1 (.lst [v5]) P1 = some (.lst [v5]) from upd_same)
            have eE1 := ((s8.trans s9).trans s10) _ _ (show upd (upd H5 P1 (.lst [v5])) E1 (.lst []) E1 = some (.lst []) from upd_same)
            have eE2 := (s9.trans s10) _ _ (show upd (upd (upd H5 P1 (.lst [v5])) E1 (.lst [])) E2 (.lst [xs[j], xs[j]]) E2 = some (.lst [xs[j], xs[j]]) from upd_same)
            have eE3 := s10 _ _ (show upd (upd (upd (upd H5 P1 (.lst [v5])) E1 (.lst [])) E2 (.lst [xs[j], xs[j]])) E3 (.lst [xs[j], .str "a"]) E3 = some (.lst [xs[j], .str "a"]) from upd_same)
            have eO : upd (upd (upd (upd (upd H5 P1 (.lst [v5])) E1 (.lst [])) E2 (.lst [xs[j], xs[j]])) E3 (.lst [xs[j], .str "a"])) O (.lst [.ref P1, .ref P1, .ref P1, .ref E1, .ref E2, .ref E3]) O = some (.lst [.ref P1, .ref P1, .ref P1, .ref E1, .ref E2, .ref E3]) := upd_same
            have hxj10 := ((hxs _ (List.getElem_mem hj)).kt kt9).up (w' := wd + 1) (n' := n + 3) (by omega) (by omega)
            generalize upd (upd (upd (upd (upd H5 P1 (.lst [v5])) E1 (.lst [])) E2 (.lst [xs[j], xs[j]])) E3 (.lst [xs[j], .str "a"])) O (.lst [.ref P1, .ref P1, .ref P1, .ref E1, .ref E2, .ref E3]) = H10 at s10 kt9 F10 k10 ev5 eP eE1 eE2 eE3 hxj10 eO ⊢
            refine ⟨.int fm, rfl, ?_⟩
            have pick : ∃ (A : Addr) (ys : List V), atI [V.ref P1, .ref P1, .ref P1, .ref E1, .ref E2, .ref E3] fm = some (.ref A) ∧ H10 A = some (HO.lst ys) ∧ ys.length ≤ 2 ∧ ∀ y ∈ ys, Vw K (wd + 1) (n + 3) H10 y := by
              have hc : fm = 0 ∨ fm = 1 ∨ fm = 2 ∨ fm = 3 ∨ fm = 4 ∨ fm = 5 := by omega
              rcases hc with h | h | h | h | h | h <;> rw [h]
              · exact ⟨P1, _, rfl, eP, by show 1 ≤ 2; omega, vwOne ev5⟩
              · exact ⟨P1, _, rfl, eP, by show 1 ≤ 2; omega, vwOne ev5⟩
              · exact ⟨P1, _, rfl, eP, by show 1 ≤ 2; omega, vwOne ev5⟩
              · exact ⟨E1, _, rfl, eE1, by show 0 ≤ 2; omega, vwNil⟩
              · exact ⟨E2, _, rfl, eE2, by show 2 ≤ 2; omega, vwTwo hxj10 hxj10⟩
              · exact ⟨E3, _, rfl, eE3, by show 2 ≤ 2; omega, vwTwo hxj10 (.str (by decide +kernel))⟩
            obtain ⟨A, ys, hA, eA, lA, hys⟩ := pick
            refine ⟨O, _, fm, .ref A, rfl, rfl, .inl (.inl eO), hA, ?_⟩
            have hx10 := kt9.tup hx
            refine ⟨.ref b, rfl, .int (j : Int), rfl, (j : Int), rfl, b, xs, rfl, hx10, ?_, fun q1 hq1 => ?_⟩
            · rw [HT.sIx_nat]
              rintro ⟨_, h9⟩
              omega
            have t1 := sameUpd (o := .tup (cutV xs none (some (j : Int)))) hq1
            refine ⟨.ref A, rfl, A, ys, rfl, .inl ⟨.inl (.inl (t1 _ _ eA)), fun q2 hq2 => ?_⟩⟩
            have t2 := sameUpd (o := .tup ys) hq2
            have cA := lenCutA xs j
            have cB := lenCutB xs j
            refine catV (.inl (.inl (t2 _ _ upd_same))) (.inl (.inl upd_same)) (by omega) fun q3 H11 hq3 s11 => ?_
            have tA := (t1.trans t2).trans s11
            refine ⟨.ref b, rfl, .int (j : Int), rfl, (j : Int), 1, rfl, rfl, (j : Int) + 1, rfl, b, xs, rfl, sameTup tA hx10, ?_, fun q4 hq4 => ?_⟩
            · rintro ⟨h9, _⟩
              have e9 : (j : Int) + 1 = ((j + 1 : Nat) : Int) := by omega
              rw [e9, HT.sIx_nat] at h9
              omega
            have t4 := sameUpd (o := .tup (cutV xs (some ((j : Int) + 1)) none)) hq4
            refine catV (sameTup t4 hq3) (.inl (.inl upd_same)) (by rw [List.length_append]; omega) fun q5 H12 hq5 s12 => ?_
            have tB := (tA.trans t4).trans s12
            refine q _ H12 ?_ (k10.trans (Kp.same tB)) (F10.same tB)
            refine Vw.tup (w := wd + 1) (n := n + 3) hq5 (by rw [List.length_append, List.length_append]; omega) fun y hy => ?_
            have fromXs : ∀ y ∈ xs, Vw K (wd + 1) (n + 3) H12 y := fun y hy => (((hxs y hy).kt kt9).kt (.same tB)).up (by omega) (by omega)
            rcases List.mem_append.mp hy with hy | hy
            · rcases List.mem_append.mp hy with hy | hy
              · exact fromXs y (memCut hy)
              · exact (hys y hy).kt (.same tB)
            · exact fromXs y (memCut hy)
        | non => exact iteF ⟨rfl, Kp.refl _ _, hF⟩
        | bl => exact iteF ⟨rfl, Kp.refl _ _, hF⟩
        | int => exact iteF ⟨rfl, Kp.refl _ _, hF⟩
        | str => exact iteF ⟨rfl, Kp.refl _ _, hF⟩
      rintro σ2 H2 ⟨rfl, k1, F1⟩
      refine ⟨0, 1, rfl, rfl, Nat.zero_le _, fun p1 h1 => ⟨(by show 2 ≤ sizeLine; decide), fun p2 h2 => ⟨(by show 1 ≤ sizeLine; decide), fun p3 h3 => ⟨(by show 2 ≤ sizeLine; decide), fun p4 h4 => ⟨(by show 1 ≤ sizeLine; decide), fun p5 h5 => ⟨"z", 401, rfl, rfl, rfl, by decide, by decide, (by show 15 ≤ sizeLine; decide), fun L1 hL1 => ?_⟩⟩⟩⟩⟩⟩
      obtain ⟨s1, v1⟩ := oddSet (K := K) h1 h2 h3 h4 h5
      have sL1 := sameUpd (o := .lst (odd1 p1 p2 p3 p5)) hL1
      have F2 := (F1.same s1).same sL1
      have nL1 := (F1.same s1).ne hL1
      refine ⟨.ref a, rfl, .ref L1, rfl, ?_⟩
      refine ⟨.ref a, rfl, a, 9, rfl, F2, by decide, by decide, fun r H3 r0 r1 k3 F3 => ?_⟩
      refine ⟨r, rfl, ?_, ?_⟩
      · have hc : r = 0 ∨ r = 1 ∨ r = 2 ∨ r = 3 ∨ r = 4 ∨ r = 5 ∨ r = 6 ∨ r = 7 ∨ r = 8 := by omega
        rcases hc with h | h | h | h | h | h | h | h | h <;> (rw [h]; decide +kernel)
      refine ⟨_, _, rfl, rfl, digLen r r0 r1, (by show 1 ≤ sizeLine; decide), fun p6 h6 => ⟨(by show 1 ≤ sizeLine; decide), fun p7 h7 => ⟨(by show 1 ≤ sizeLine; decide), fun p8 h8 => ⟨(by show 1 ≤ sizeLine; decide), fun p9 h9 => ⟨(by show 8 ≤ sizeLine; decide), fun L2 hL2 => ?_⟩⟩⟩⟩⟩
      obtain ⟨s4, v4⟩ := odd2Set (K := K) (digTok r r0 r1) h6 h7 h8 h9
      have sL2 := sameUpd (o := .lst (odd2 (("a" : Str) ++ (toString r : Str)) p6 p7 p9)) hL2
      have e1 := sL2 _ _ (s4 _ _ (k3 _ _ nL1 upd_same))
      refine ⟨L1, L2, _, _, rfl, rfl, e1, upd_same, (by show 15 + 8 ≤ sizeLine; decide), fun L3 hL3 => ?_⟩
      have sL3 := sameUpd (o := .lst (odd1 p1 p2 p3 p5 ++ odd2 (("a" : Str) ++ (toString r : Str)) p6 p7 p9)) hL3
      have F5 := ((F3.same s4).same sL2)
      have F6 := F5.same sL3
      refine ⟨a, L3, _, rfl, F6, .inl (.inl upd_same), F5.ne hL3, (by show 0 < 15 + 8; decide), (by show 15 + 8 < 1000; decide), fun i v' H7 hv7 k7 F7 => q v' H7 ?_ (((((k1.trans (Kp.same s1)).trans (Kp.same sL1)).trans k3).trans ((Kp.same s4).trans ((Kp.same sL2).trans (Kp.same sL3)))).trans k7) F7⟩
      have hm := List.mem_of_getElem? hv7
      have hres : Vw K 2 2 H7 v' := by
        rcases List.mem_append.mp hm with y | y
        · exact ((((v1 v' y).kt (.same sL1)).kt (KT.kp F2 k3)).kt (.same ((s4.trans sL2).trans sL3))).kt (KT.kp F6 k7)
        · exact ((v4 v' y).kt (.same (sL2.trans sL3))).kt (KT.kp F6 k7)
      exact hres.up hw2 (by omega)
end
end K2.La

set_option Elab.async false
set_option linter.all false
set_option maxRecDepth 100000
set_option maxHeartbeats 16000000
namespace K2.La
open PySem PySem.Spec PyProof.Rows L2
/-- a list made by turns that draw, over whatever -/
theorem lcFeedJ {K : PySem.W.Frag} {J : It} {f D : Addr} {j w n m : Nat} {te : TE} {σ : L2.St} {H1 : Hp} {Qd : Hp → Prop} (hD : H1 D = none) (hF : Fd H1 f) (hm : m ≤ 100) (hw : ∀ v, wipe ((wipe σ [j]).set j (some v)) [j] = wipe σ [j])
    (hgo : ∀ i H, i < m → Kp f H1 H → J.go i H) (hst : ∀ H, Kp f H1 H → J.stop m H)
    (hs : ∀ i x H H', i < m → Kp f H1 H → Fd H f → J.yld i H x H' → H' = H ∧ ∀ R : VK, (∀ v H2, Vw K w n H2 v → Kp f H H2 → Fd H2 f → R v H2) → te ((wipe σ [j]).set j (some x)) H R)
    (hd : ∀ H xs, H D = some (.lst xs) → xs.length = m → (∀ v ∈ xs, Vw K w n H v) → Kp f H1 H → Fd H f → Qd H) :
    ∃ W : Nat → Nat → Hp → Prop, (∃ m, W 0 m (upd H1 D (.lst []))) ∧ ∀ i k H, W i k H →
      (J.stop i H ∧ Qd H) ∨ (J.go i H ∧ ∃ Nx : Hp → Prop, (∀ H', Nx H' → ∃ m', m' < k ∧ W (i + 1) m' H') ∧ ∀ x H', J.yld i H x H' → gName j x (wipe σ [j]) H' fun σ2 H2 => wipe σ2 [j] = wipe σ [j] ∧ tYes σ2 H2 fun b H3 =>
        if b = true then te σ2 H3 fun y H4 => ∃ acc, H4 D = some (.lst acc) ∧ acc.length < sizeLine ∧ Nx (upd H4 D (.lst (acc ++ [y]))) else Nx H3) := by
  have nD := hF.ne hD
  refine lcJ (n := m) (fun i H => ∃ xs, H D = some (.lst xs) ∧ xs.length = i ∧ (∀ v ∈ xs, Vw K w n H v) ∧ Kp f H1 H ∧ Fd H f) ⟨[], upd_same, rfl, fun v hv => absurd hv (by simp), Kp.new hD, hF.other nD⟩ (fun i H lt h => hgo i H lt h.choose_spec.2.2.2.1) (fun H h => hst H h.choose_spec.2.2.2.1) (fun i H x H' lt h y => ?_) (fun H h => ?_)
  · obtain ⟨xs, e, el, hv, kp, fd⟩ := h
    obtain ⟨rfl, hs2⟩ := hs i x H H' lt kp fd y
    refine ⟨hw _, ?_⟩
    unfold tYes
    dsimp only
    rw [if_pos rfl]
    refine hs2 _ fun v H2 hv2 k2 f2 => ?_
    have e2 := k2 D _ nD e
    refine ⟨xs, e2, by rw [sizeLine_eq]; omega, xs ++ [v], upd_same, by rw [List.length_append, el]; rfl, fun u hu => ?_, fun b o nb hb => ?_, f2.other nD⟩
    · have kt : KT H2 (upd H2 D (.lst (xs ++ [v]))) := KT.put e2
      rcases List.mem_append.mp hu with z | z
      · exact ((hv u z).kt (KT.kp fd k2)).kt kt
      · rw [List.mem_singleton.mp z]
        exact hv2.kt kt
    · rw [upd_ne (ne_of_none hb hD)]
      exact k2 _ _ nb (kp _ _ nb hb)
  · obtain ⟨xs, e, el, hv, kp, fd⟩ := h
    exact hd H xs e el hv kp fd
def spLaw (K : PySem.W.Frag) : Sp := fun vs H Q _ => ∃ (a : Addr) (ns : List Int), vs = [.ref a] ∧ SqL K H a (ns.map V.int) ∧ ns.length ≤ 63 ∧ ∀ H', Q (.bl true) H'
abbrev stt (s : Addr) (x1 x2 x3 x4 x5 x6 x7 : Option V) : L2.St := [some (.ref s), x1, x2, x3, x4, x5, x6, x7]
section
variable {P : Program} {w : World} {K : PySem.W.Frag} {mg : Str → Option Value} {base : Heap} {f : Addr} {fd : FuncData}
abbrev nLaw : List Str := ["_law_script", "_law_k", "_law_feed", "_law_things_here", "_law_thing", "_law_value", "_law_due", "_law_one"]
theorem scLaw : FnScope nLaw ["_law_script"] (defScope (top 32)) := ⟨rfl, rfl, rfl, by decide +kernel, rfl, by decide +kernel, by decide +kernel⟩
theorem threeSame {H : Hp} {a b : Addr} {x y z : Bool} (ha : H a = some (.lst [.bl x, .bl y, .bl z])) (hb : H b = some (.lst [.bl x, .bl y, .bl z])) : Sv K H 1 (.ref a) (.ref b) := by
  refine .lst (.inl (.inl ha)) (.inl (.inl hb)) rfl (by show 3 ≤ 1000; omega) fun i v w h1 h2 => ?_
  rw [h1] at h2
  obtain rfl := Option.some.inj h2
  match i, h1 with
  | 0, h1 => cases h1; exact .flat (.bl _)
  | 1, h1 => cases h1; exact .flat (.bl _)
  | 2, h1 => cases h1; exact .flat (.bl _)
theorem okLaw {n : Nat} (F : FnP K "law" (top 32) f fd) (B : Bn mg) (Fe : Has P w K mg base n "_law_feed_of" ["_law_script", "_law_k"] (spFeed K)) (Th : Has P w K mg base n "_law_things" ["_law_feed"] (spThings K))
    (O1 : Has P w K mg base n "_law_odd" ["_law_feed", "_law_value"] (spOdd K 5 3)) (O2 : Has P w K mg base n "_law_odd" ["_law_feed", "_law_value"] (spOdd K 6 6))
    (Ka : Has P w K mg base n "_law_is_key" ["_law_value"] (spIs K isKy)) (Sa : Has P w K mg base n "_law_is_step" ["_law_value"] (spIs K isSt)) (Pa : Has P w K mg base n "_law_is_place" ["_law_value"] (spIs K isPl))
    (Kb : Has P w K mg base n "is_key" ["value"] (spIs K isKy)) (Sb : Has P w K mg base n "is_step" ["value"] (spIs K isSt)) (Pb : Has P w K mg base n "is_place" ["value"] (spIs K isPl))
    (Sm : Has P w K mg base n "_law_same" ["_law_found", "_law_due"] (spSame K 1)) : FnOk P w K mg base CX0 (n + 1) f fd ["_law_script"] (spLaw K) := by
  obtain ⟨f1, d1, g1, k1, b1, G1⟩ := Fe.ex
  obtain ⟨f2, d2, g2, k2, b2, G2⟩ := Th.ex
  obtain ⟨f3, d3, g3, k3, b3, G3⟩ := O1.ex
  obtain ⟨f4, d4, g4, k4, b4, G4⟩ := O2.ex
  obtain ⟨f5, d5, g5, k5, b5, G5⟩ := Ka.ex
  obtain ⟨f6, d6, g6, k6, b6, G6⟩ := Sa.ex
  obtain ⟨f7, d7, g7, k7, b7, G7⟩ := Pa.ex
  obtain ⟨f8, d8, g8, k8, b8, G8⟩ := Kb.ex
  obtain ⟨f9, d9, g9, k9, b9, G9⟩ := Sb.ex
  obtain ⟨f10, d10, g10, k10, b10, G10⟩ := Pb.ex
  obtain ⟨f11, d11, g11, k11, b11, G11⟩ := Sm.ex
  refine F.ok scLaw (fun vs H Q E h => ?_) (fun cdv A outer s H vs Q E hr h => ?_)
  · obtain ⟨a, ns, rfl, _⟩ := h
    rfl
  · obtain ⟨sc, ns, rfl, hS, hlen, q⟩ := h
    refine ⟨_, PSs.nox (pss_cons (ps_for PassesOwn.never rfl (pi_range1 (by rfl) B.range (pa_cons (pe_callB (call_max2 rfl) (by rfl) B.max (by decide +kernel) (pa_cons (pe_int) (pa_cons (pe_callB (call_min2 rfl) (by rfl) B.min (by decide +kernel) (pa_cons (pe_int) (pa_cons (pe_callB call_len_seq (by rfl) B.len PySem.boot_len (pa_cons (pv 0) pa_nil)) pa_nil))) pa_nil))) pa_nil)) (pg_name (i := 1) scLaw.nd rfl (.inl rfl))
      (C8.pss_cut (ps_set (i := 2) scLaw.nd rfl (.inr rfl) (pe_call G1 hr (by rfl) g1 k1 b1 .nil pass0 (pa_cons (pv 0) (pa_cons (pv 1) pa_nil)))) (C8.pss_cut (ps_set (i := 3) scLaw.nd rfl (.inl rfl) (pe_call G2 hr (by rfl) g2 k2 b2 .nil pass0 (pa_cons (pv 2) pa_nil))) (pss_one (ps_for PassesOwn.never rfl (pi_list (pe_op op_cat (pv 3) (pe_lc (own := [("_law_one", 7)]) (g := gName 7) rfl scLaw.nd (pi_list (pe_op op_cat (pe_op op_cat (pv 3) (pv 3)) (pv 3))) (blkOk_by (N := nLaw) (sc := defScope (top 32)) (by decide +kernel))
            (fun _ _ _ _ _ => pg_name (i := 7) scLaw.nd rfl (.inl rfl) (hf := .inr rfl)) (fun _ _ _ _ _ => pts_nil) (fun _ _ _ _ _ => pe_call G3 hr (by rfl) g3 k3 b3 .nil pass0 (pa_cons (pv 2) (pa_cons (pv 7) pa_nil)))))) (pg_name (i := 4) scLaw.nd rfl (.inl rfl))
          (pss_one (ps_for PassesOwn.never rfl (pi_tup (pe_tup (pa_cons (pv 4) (pa_cons (pe_call G4 hr (by rfl) g4 k4 b4 .nil pass0 (pa_cons (pv 2) (pa_cons (pv 4) pa_nil))) pa_nil)))) (pg_name (i := 5) scLaw.nd rfl (.inl rfl))
            (pss_cons (ps_set (i := 6) scLaw.nd rfl (.inl rfl) (pe_lst (pa_cons (pe_call G5 hr (by rfl) g5 k5 b5 .nil pass0 (pa_cons (pv 5) pa_nil)) (pa_cons (pe_call G6 hr (by rfl) g6 k6 b6 .nil pass0 (pa_cons (pv 5) pa_nil)) (pa_cons (pe_call G7 hr (by rfl) g7 k7 b7 .nil pass0 (pa_cons (pv 5) pa_nil)) pa_nil))))) (pss_one (ps_if (pt_not (pt_val (pe_call G11 hr (by rfl) g11 k11 b11 .nil pass0 (pa_cons (pe_lst (pa_cons (pe_call G8 hr (by rfl) g8 k8 b8 .nil pass0 (pa_cons (pv 5) pa_nil)) (pa_cons (pe_call G9 hr (by rfl) g9 k9 b9 .nil pass0 (pa_cons (pv 5) pa_nil)) (pa_cons (pe_call G10 hr (by rfl) g10 k10 b10 .nil pass0 (pa_cons (pv 5) pa_nil)) pa_nil)))) (pa_cons (pv 6) pa_nil))))) (pss_one (ps_ret pe_bl)) pss_nil)))))))))) (pss_one (ps_ret pe_bl))), ?_⟩
    refine ⟨.ref sc, rfl, sc, _, rfl, .inl hS, 5, _, rfl, 2, _, rfl, _, rfl, ?b1, ?b2, ?main⟩
    case b1 => split <;> (try split) <;> omega
    case b2 => split <;> (try split) <;> omega
    case main =>
    have hN : ∀ L : Int, 0 ≤ L → (if (if L < 5 then L else 5) > 2 then (if L < 5 then L else 5) else 2).toNat ≤ 5 := fun L hL => by split <;> (try split) <;> omega
    refine forJ (n := _) (fun i σ' H' => (∃ x1 x2 x3 x4 x5 x6 x7, σ' = stt sc x1 x2 x3 x4 x5 x6 x7) ∧ SqL K H' sc (ns.map V.int)) ⟨⟨none, none, none, none, none, none, none, rfl⟩, hS⟩ (fun i σ' H' lt _ => lt) (fun σ' H' _ => Nat.le_refl _) (fun i σ' H0 x H1 lt h y => ?_) (fun σ' H' h => q H')
    obtain ⟨rfl, rfl⟩ := y
    obtain ⟨⟨x1, x2, x3, x4, x5, x6, x7, rfl⟩, hT⟩ := h
    have li : i < 5 := Nat.lt_of_lt_of_le lt (hN _ (Int.natCast_nonneg _))
    -- the feed
    refine ⟨fun σ' H2 => ∃ f, σ' = stt sc (some (.int (0 + i))) (some (.ref f)) x3 x4 x5 x6 x7 ∧ Same H1 H2 ∧ Fd H2 f ∧ H1 f = none, ?_, ?_⟩
    · exact ⟨.ref sc, rfl, .int (0 + i), rfl, sc, ns, 0 + i, rfl, hT, hlen, by omega, by omega, fun p Hp sm np fd => ⟨p, rfl, sm, fd, np⟩⟩
    rintro _ H2 ⟨f, rfl, s2, F2, nf⟩
    -- the things
    refine ⟨fun σ' H3 => ∃ p xs, σ' = stt sc (some (.int (0 + i))) (some (.ref f)) (some (.ref p)) x4 x5 x6 x7 ∧ H3 p = some (.lst xs) ∧ xs.length = 5 ∧ (∀ v ∈ xs, Vw K 5 3 H3 v) ∧ Kp f H2 H3 ∧ Fd H3 f, ?_, ?_⟩
    · exact ⟨.ref f, rfl, f, rfl, F2, fun p xs H3 e el hv k F3 => ⟨p, xs, rfl, e, el, hv, k, F3⟩⟩
    rintro _ H3 ⟨p, xs, rfl, ep, lp, hv3, k3, F3⟩
    have np : p ≠ f := fun y => by
      obtain ⟨u, v, e, _⟩ := F3
      rw [y, e] at ep
      have e2 := Option.some.inj ep
      injection e2 with e2
      rw [← e2] at lp
      cases lp
    have script : ∀ {H' : Hp}, Kp f H2 H' → SqL K H' sc (ns.map V.int) := fun k => Same.seq (fun b o hb => k b o (ne_of_none hb nf) (s2 b o hb)) hT
    -- the odd ones
    refine ⟨.ref p, rfl, .ref p, rfl, .ref p, rfl, p, p, xs, xs, rfl, rfl, ep, ep, by rw [sizeLine_eq]; omega, fun q1 hq1 => ⟨.ref p, rfl, q1, p, xs ++ xs, xs, rfl, rfl, upd_same, sameUpd hq1 _ _ ep, by rw [List.length_append, sizeLine_eq]; omega, fun q2 hq2 => ?_⟩⟩
    have t1 := sameUpd (o := .lst (xs ++ xs)) hq1
    have t2 := sameUpd (o := .lst (xs ++ xs ++ xs)) hq2
    have e2 : upd (upd H3 q1 (.lst (xs ++ xs))) q2 (.lst (xs ++ xs ++ xs)) q2 = some (.lst (xs ++ xs ++ xs)) := upd_same
    have F4 := (F3.same t1).same t2
    have nq2 := (F3.same t1).ne hq2
    generalize upd (upd H3 q1 (.lst (xs ++ xs))) q2 (.lst (xs ++ xs ++ xs)) = H4 at t2 e2 F4 ⊢
    have k4 : Kp f H3 H4 := Kp.same (t1.trans t2)
    have hv4 : ∀ v ∈ xs, Vw K 5 3 H4 v := fun v hv => (hv3 v hv).kt (.same (t1.trans t2))
    have ep4 := (t1.trans t2) _ _ ep
    have l15 : (xs ++ xs ++ xs).length = 15 := by rw [List.length_append, List.length_append, lp]
    refine ⟨q2, rfl, ⟨_, .inl (.inl e2)⟩, fun D hD => ?_⟩
    refine lcFeedJ (K := K) (w := 6) (n := 6) (m := 15) hD F4 (by omega) (fun v => rfl) (fun i H lt k => ⟨xs ++ xs ++ xs, _, .inl (.inl (k _ _ nq2 e2)), List.getElem?_eq_getElem (by omega)⟩) (fun H k => ⟨xs ++ xs ++ xs, .inl (.inl (k _ _ nq2 e2)), by omega⟩) (fun i x H5 H6 lt k5 F5 y => ?_) (fun H5 zs e5 el5 hv5 k5 F5 => ?_)
    · obtain ⟨rfl, y⟩ := y
      refine ⟨rfl, fun R hR => ?_⟩
      have hm := List.mem_of_getElem? (y _ (.inl (.inl (k5 _ _ nq2 e2))))
      have hm2 : x ∈ xs := by
        simp only [List.mem_append] at hm
        rcases hm with (h | h) | h <;> exact h
      exact ⟨.ref f, rfl, x, rfl, f, x, rfl, F5, (hv4 x hm2).kt (KT.kp F4 k5), fun v' H7 hv7 k7 F7 => hR v' H7 hv7 k7 F7⟩
    refine ⟨p, D, xs, zs, rfl, rfl, k5 _ _ np ep4, e5, by rw [sizeLine_eq]; omega, fun L hL => ?_⟩
    have tL := sameUpd (o := .lst (xs ++ zs)) hL
    have eL : upd H5 L (.lst (xs ++ zs)) L = some (.lst (xs ++ zs)) := upd_same
    have F6 := F5.same tL
    have nL := F5.ne hL
    have hv6 : ∀ v ∈ xs ++ zs, Vw K 6 6 (upd H5 L (.lst (xs ++ zs))) v := fun v hv => by
      rcases List.mem_append.mp hv with y | y
      · exact (((hv4 v y).kt (KT.kp F4 k5)).kt (.same tL)).up (by omega) (by omega)
      · exact (hv5 v y).kt (.same tL)
    have k6 : Kp f H2 (upd H5 L (.lst (xs ++ zs))) := ((k3.trans k4).trans k5).trans (Kp.same tL)
    generalize upd H5 L (.lst (xs ++ zs)) = H6 at eL F6 hv6 k6 ⊢
    have lL : (xs ++ zs).length = 20 := by rw [List.length_append, lp, el5]
    refine ⟨L, rfl, ⟨_, .inl (.inl eL)⟩, ?_⟩
    refine forJ (n := 20) (fun j σ' H' => (∃ x4 x5 x6 x7, σ' = stt sc (some (.int (0 + i))) (some (.ref f)) (some (.ref p)) x4 x5 x6 x7) ∧ Kp f H6 H' ∧ Fd H' f) ⟨⟨x4, x5, x6, x7, rfl⟩, Kp.refl _ _, F6⟩
      (fun j σ' H' lt h => ⟨xs ++ zs, _, .inl (.inl (h.2.1 _ _ nL eL)), List.getElem?_eq_getElem (by omega)⟩) (fun σ' H' h => ⟨xs ++ zs, .inl (.inl (h.2.1 _ _ nL eL)), by omega⟩) (fun j σ' H7 x H8 lt h y => ?_) (fun σ' H' h => ?_)
    · obtain ⟨rfl, y⟩ := y
      obtain ⟨⟨x4, x5, x6, x7, rfl⟩, k7, F7⟩ := h
      have hm := List.mem_of_getElem? (y _ (.inl (.inl (k7 _ _ nL eL))))
      have hx := (hv6 x hm).kt (KT.kp F6 k7)
      refine ⟨x, rfl, .ref f, rfl, x, rfl, f, x, rfl, F7, hx, fun v' H9 hv9 k9 F9 => ⟨(by show 2 ≤ sizeLine; decide), fun T hT9 => ?_⟩⟩
      have tT := sameUpd (o := .tup [x, v']) hT9
      have hxs : ∀ u ∈ [x, v'], Vw K 7 9 (upd H9 T (.tup [x, v'])) u := vwTwo (((hx.kt (KT.kp F7 k9)).kt (.same tT)).up (by omega) (by omega)) (hv9.kt (.same tT))
      have eT : upd H9 T (.tup [x, v']) T = some (.tup [x, v']) := upd_same
      have F10 := F9.same tT
      have k10 := (k7.trans k9).trans (Kp.same tT)
      generalize upd H9 T (.tup [x, v']) = H10 at hxs eT F10 k10 ⊢
      refine ⟨T, rfl, ⟨_, .inl (.inl eT)⟩, ?_⟩
      refine forJ (n := 2) (fun m σ' H' => (∃ x5 x6 x7, σ' = stt sc (some (.int (0 + i))) (some (.ref f)) (some (.ref p)) (some x) x5 x6 x7) ∧ Same H10 H') ⟨⟨x5, x6, x7, rfl⟩, Same.refl _⟩
        (fun m σ' H' lt h => ⟨[x, v'], _, .inl (.inl (h.2 _ _ eT)), List.getElem?_eq_getElem lt⟩) (fun σ' H' h => ⟨[x, v'], .inl (.inl (h.2 _ _ eT)), Nat.le_refl _⟩) (fun m σ' H11 u H12 lt h y => ?_) (fun σ' H' h => ?_)
      · obtain ⟨rfl, y⟩ := y
        obtain ⟨⟨x5, x6, x7, rfl⟩, s11⟩ := h
        have hmu := List.mem_of_getElem? (y _ (.inl (.inl (s11 _ _ eT))))
        obtain ⟨d, hd, od⟩ := (hxs u hmu).kt (.same s11)
        have o60 : Od 60 d := (od.od (by omega)).up (by omega)
        refine ⟨u, rfl, u, d, rfl, hd, o60, fun Ha sa => ⟨u, rfl, u, d, rfl, dpSame sa _ _ hd, o60, fun Hb sb => ⟨u, rfl, u, d, rfl, dpSame (sa.trans sb) _ _ hd, o60, fun Hc sd => ⟨(by show 3 ≤ sizeLine; decide), fun L1 hL1 => ?_⟩⟩⟩⟩
        have t1 := sameUpd (o := .lst [.bl (isKy d), .bl (isSt d), .bl (isPl d)]) hL1
        have sA := ((sa.trans sb).trans sd).trans t1
        have eL1 : upd Hc L1 (.lst [.bl (isKy d), .bl (isSt d), .bl (isPl d)]) L1 = some (.lst [.bl (isKy d), .bl (isSt d), .bl (isPl d)]) := upd_same
        generalize upd Hc L1 (.lst [.bl (isKy d), .bl (isSt d), .bl (isPl d)]) = Hd at t1 sA eL1 ⊢
        refine ⟨u, rfl, u, d, rfl, dpSame sA _ _ hd, o60, fun He se => ⟨u, rfl, u, d, rfl, dpSame (sA.trans se) _ _ hd, o60, fun Hf sf => ⟨u, rfl, u, d, rfl, dpSame ((sA.trans se).trans sf) _ _ hd, o60, fun Hg sg => ⟨(by show 3 ≤ sizeLine; decide), fun L2 hL2 => ?_⟩⟩⟩⟩
        have t2 := sameUpd (o := .lst [.bl (isKy d), .bl (isSt d), .bl (isPl d)]) hL2
        have sB := ((se.trans sf).trans sg).trans t2
        exact ⟨.ref L1, rfl, .ref L2, .ref L1, rfl, threeSame upd_same (sB _ _ eL1), fun Hh sh => ⟨_, rfl, iteF ⟨⟨_, _, _, rfl⟩, ((s11.trans sA).trans sB).trans sh⟩⟩⟩
      · obtain ⟨⟨x5, x6, x7, rfl⟩, s11⟩ := h
        exact ⟨⟨_, _, _, _, rfl⟩, k10.trans (Kp.same s11), F10.same s11⟩
    · obtain ⟨⟨x4, x5, x6, x7, rfl⟩, k7, F7⟩ := h
      exact ⟨⟨_, _, _, _, _, _, _, rfl⟩, script (k6.trans k7)⟩
end
end K2.La

set_option Elab.async false
set_option linter.all false
set_option maxRecDepth 100000
set_option maxHeartbeats 0
namespace K2
open PySem PySem.Spec PyProof.Rows L2
open He (ga ma)
abbrev R : PySem.W.OpenRow := PySem.W.OpenLaw.row PySem.Challenge.rw_farenough_k02_keys_steps_and_places
def dOf (x : Str) (i : Nat) : He.DefD := ⟨(x, none), x, x, defArgs (top i), defBody (top i), defScope (top i), [], []⟩
def fn : List He.DefD := [
  dOf "is_integer" 5,
  dOf "is_text" 6,
  dOf "is_name" 7,
    dOf "is_key" 8,
  dOf "are_keys" 9,
  dOf "are_answers" 10,
  dOf "are_arguments" 11,
  dOf "is_step" 12,
  dOf "is_place" 13,
  dOf "_law_feed_of" 15,
  dOf "_law_draw" 16,
  dOf "_law_pick" 17,
  dOf "_law_calls" 18,
  dOf "_law_some_text" 19,
  dOf "_law_some_answer" 20,
  dOf "_law_same" 21,
  dOf "_law_is_text" 22,
  dOf "_law_signs" 23,
  dOf "_law_is_name" 24,
  dOf "_law_is_key" 25,
  dOf "_law_is_step" 26,
  dOf "_law_is_row" 27,
  dOf "_law_is_place" 28,
  dOf "_law_word" 29,
  dOf "_law_things" 30,
  dOf "_law_odd" 31,
  dOf "law" 32]
def frees : List Str := ["isinstance", "len", "zip", "all", "list", "tuple", "bool", "int", "str", "range", "ord", "set", "max", "min"]
def loose : List Str := ["LONGEST_TEXT", "LONGEST_NAME", "MOST_ARGUMENTS", "MOST_KEYS", "is_integer", "is_text", "is_name", "is_key", "are_keys", "are_answers", "are_arguments", "is_step", "is_place", "_law_feed_of", "_law_draw", "_law_pick", "_law_calls", "_law_some_text", "_law_some_answer", "_law_same", "_law_is_text", "_law_signs", "_law_is_name", "_law_is_key", "_law_is_step", "_law_is_row", "_law_is_place", "_law_word", "_law_things", "_law_odd"]
def glos : List Str := loose.drop 4 ++ (["law"] : List Str)
def numG : List (Str × Int) := [("LONGEST_TEXT", 400), ("LONGEST_NAME", 8), ("MOST_ARGUMENTS", 4), ("MOST_KEYS", 4)]
def fa : List He.Fa := glos.map He.Fa.glo ++ (frees.map He.Fa.free ++ numG.map fun q => He.Fa.int q.1 q.2)
/-- the head's look: defs, names, numbers -/
def obsM (n : Nat) (g : Addr → Option Obj) : He.AlD := He.obsD fa fn (He.frG g (He.asD g n))
def hk : PySem.W.Hook where
  α := He.AlD
  obs := fun s => obsM 5 s.heap.get?
  val := fun _ => He.valD fn
  says := fun _ h => ∃ K : PySem.W.Frag, K.In h ∧ He.SaysD fa fn K
  of := fun _ _ e => ⟨_, He.frG_in, e⟩
  keeps := fun _ _ _ ⟨K, hK, c⟩ k => ⟨K, PySem.W.Frag.In.keeps hK k, c⟩
def ob (s : PySem.W.SharedT) : He.AlD := obsM 5 (HandSHeadRun.getT s)
theorem ob_eq (s : PySem.W.SharedT) : ob s = hk.obs s.abs := by
  have e : HandSHeadRun.getT s = s.abs.heap.get? := funext (HandSHeadRun.getT_eq s)
  unfold ob
  rw [e] <;> rfl
theorem run (w : World) : HandSHeadRun.RunEq R (PySem.W.view R.prog [32]) hk ob 20000 loose w := by
  intro os
  kernel_rfl
end K2

set_option Elab.async false
set_option linter.all false
set_option maxRecDepth 100000
set_option maxHeartbeats 0
namespace K2.La
open PySem PySem.Spec PyProof.Rows L2
open He (ga ma)
section
variable {P : Program} {w : World} {K : PySem.W.Frag} {mg : Str → Option Value} {base h : Heap}
theorem _root_.K2.Has.mono {j k : Nat} {x : Str} {ps : List Str} {sp : Sp} (A : Has P w K mg base j x ps sp) (h : j ≤ k) : Has P w K mg base k x ps sp := by
  obtain ⟨f, fd, a, b, c, F⟩ := A.ex
  exact ⟨f, fd, a, b, c, F.mono h⟩
theorem factM (c : He.SaysD fa fn K) {f : He.Fa} (hm : f ∈ fa) : f.ok K = true := by
  obtain ⟨i, hi, e⟩ := List.mem_iff_getElem.mp hm
  exact c.fact i (f := f) (by rw [List.getElem?_eq_getElem hi, e])
theorem facts {f : Addr} (X : K.In h) (G : h.Ns mainGlobals mg) (hfa : mg ("law" : Str) = some (.ref f)) (c : He.SaysD fa fn K) :
    ∃ fd : FuncData, (∀ (s : Shared) (v : Value), BindsTo s fd ⟨[v], []⟩ [("_law_script", v)]) ∧ ∀ base : Heap, K.In base → base.Ns mainGlobals mg → FnOk P w K mg base CX0 11 f fd ["_law_script"] (spLaw K) := by
  have glo : ∀ x ∈ glos, mg x = some (.ref (ga K x)) := fun x hx => He.glo_ok X G (factM c (f := .glo x) (List.mem_append_left _ (List.mem_map_of_mem hx)))
  have fre : ∀ x ∈ frees, mg x = none := fun x hx => He.free_ok X G (factM c (f := .free x) (List.mem_append_right _ (List.mem_append_left _ (List.mem_map_of_mem hx))))
  have num : ∀ q ∈ numG, IntG mg q.1 q.2 := fun q hq => He.int_ok X G (factM c (f := .int q.1 q.2) (List.mem_append_right _ (List.mem_append_right _ (List.mem_map.mpr ⟨q, hq, rfl⟩))))
  have B : Bn mg := ⟨fre _ (by decide +kernel), fre _ (by decide +kernel), fre _ (by decide +kernel), fre _ (by decide +kernel), fre _ (by decide +kernel), fre _ (by decide +kernel), fre _ (by decide +kernel), fre _ (by decide +kernel), fre _ (by decide +kernel), fre _ (by decide +kernel), fre _ (by decide +kernel), fre _ (by decide +kernel), fre _ (by decide +kernel), fre _ (by decide +kernel)⟩
  have gT : IntG mg "LONGEST_TEXT" 400 := num ("LONGEST_TEXT", 400) (by decide +kernel)
  have gN : IntG mg "LONGEST_NAME" 8 := num ("LONGEST_NAME", 8) (by decide +kernel)
  have gA : IntG mg "MOST_ARGUMENTS" 4 := num ("MOST_ARGUMENTS", 4) (by decide +kernel)
  have gK : IntG mg "MOST_KEYS" 4 := num ("MOST_KEYS", 4) (by decide +kernel)
  obtain ⟨fd, F⟩ := c.def_ 26 (d := dOf "law" 32) rfl
  have ef := hfa.symm.trans (glo "law" (by decide +kernel))
  cases ef
  have b := FunD.bindsA (ps := ["_law_script"]) F fun _ _ _ _ _ _ us hl => match us, hl with | [_], _ => rfl
  refine ⟨fd, fun s v => b s [v] rfl, fun base hb hg => ?_⟩
  obtain ⟨d0, F0⟩ := c.def_ 0 (d := dOf "is_integer" 5) rfl
  obtain ⟨d1, F1⟩ := c.def_ 1 (d := dOf "is_text" 6) rfl
  obtain ⟨d2, F2⟩ := c.def_ 2 (d := dOf "is_name" 7) rfl
  obtain ⟨d4, F4⟩ := c.def_ 3 (d := dOf "is_key" 8) rfl
  obtain ⟨d5, F5⟩ := c.def_ 4 (d := dOf "are_keys" 9) rfl
  obtain ⟨d6, F6⟩ := c.def_ 5 (d := dOf "are_answers" 10) rfl
  obtain ⟨d7, F7⟩ := c.def_ 6 (d := dOf "are_arguments" 11) rfl
  obtain ⟨d8, F8⟩ := c.def_ 7 (d := dOf "is_step" 12) rfl
  obtain ⟨d9, F9⟩ := c.def_ 8 (d := dOf "is_place" 13) rfl
  obtain ⟨d10, F10⟩ := c.def_ 9 (d := dOf "_law_feed_of" 15) rfl
  obtain ⟨d11, F11⟩ := c.def_ 10 (d := dOf "_law_draw" 16) rfl
  obtain ⟨d12, F12⟩ := c.def_ 11 (d := dOf "_law_pick" 17) rfl
  obtain ⟨d13, F13⟩ := c.def_ 12 (d := dOf "_law_calls" 18) rfl
  obtain ⟨d14, F14⟩ := c.def_ 13 (d := dOf "_law_some_text" 19) rfl
  obtain ⟨d15, F15⟩ := c.def_ 14 (d := dOf "_law_some_answer" 20) rfl
  obtain ⟨d16, F16⟩ := c.def_ 15 (d := dOf "_law_same" 21) rfl
  obtain ⟨d17, F17⟩ := c.def_ 16 (d := dOf "_law_is_text" 22) rfl
  obtain ⟨d18, F18⟩ := c.def_ 17 (d := dOf "_law_signs" 23) rfl
  obtain ⟨d19, F19⟩ := c.def_ 18 (d := dOf "_law_is_name" 24) rfl
  obtain ⟨d20, F20⟩ := c.def_ 19 (d := dOf "_law_is_key" 25) rfl
  obtain ⟨d21, F21⟩ := c.def_ 20 (d := dOf "_law_is_step" 26) rfl
  obtain ⟨d22, F22⟩ := c.def_ 21 (d := dOf "_law_is_row" 27) rfl
  obtain ⟨d23, F23⟩ := c.def_ 22 (d := dOf "_law_is_place" 28) rfl
  obtain ⟨d24, F24⟩ := c.def_ 23 (d := dOf "_law_word" 29) rfl
  obtain ⟨d25, F25⟩ := c.def_ 24 (d := dOf "_law_things" 30) rfl
  obtain ⟨d26, F26⟩ := c.def_ 25 (d := dOf "_law_odd" 31) rfl
  have pInt : Has P w K mg base 1 "is_integer" ["value"] (spIs K isIn) := ⟨_, d0, glo _ (by decide +kernel), F0.kp, F0.bindsN (fun _ _ _ _ _ _ us hl => match us, hl with | [_], _ => rfl), K2.okInt (k := 0) F0 B⟩
  have pText : Has P w K mg base 1 "is_text" ["value"] (spIs K isTx) := ⟨_, d1, glo _ (by decide +kernel), F1.kp, F1.bindsN (fun _ _ _ _ _ _ us hl => match us, hl with | [_], _ => rfl), K2.okText (k := 0) F1 B gT⟩
  have pName : Has P w K mg base 2 "is_name" ["value"] (spIs K isNm) := ⟨_, d2, glo _ (by decide +kernel), F2.kp, F2.bindsN (fun _ _ _ _ _ _ us hl => match us, hl with | [_], _ => rfl), K2.okName (k := 1) F2 B gN⟩
  have pKey : Has P w K mg base 3 "is_key" ["value"] (spIs K isKy) := ⟨_, d4, glo _ (by decide +kernel), F4.kp, F4.bindsN (fun _ _ _ _ _ _ us hl => match us, hl with | [_], _ => rfl), K2.okKey (k := 0) F4 B pName⟩
  have pKeys : Has P w K mg base 4 "are_keys" ["value"] (spIs K areKy) := ⟨_, d5, glo _ (by decide +kernel), F5.kp, F5.bindsN (fun _ _ _ _ _ _ us hl => match us, hl with | [_], _ => rfl), K2.okKeys (k := 0) F5 B gK pKey⟩
  have pAns : Has P w K mg base 2 "are_answers" ["value"] (spIs K areAn) := ⟨_, d6, glo _ (by decide +kernel), F6.kp, F6.bindsN (fun _ _ _ _ _ _ us hl => match us, hl with | [_], _ => rfl), K2.okAns (k := 0) F6 B gK pText⟩
  have pArg : Has P w K mg base 2 "are_arguments" ["value"] (spIs K areAr) := ⟨_, d7, glo _ (by decide +kernel), F7.kp, F7.bindsN (fun _ _ _ _ _ _ us hl => match us, hl with | [_], _ => rfl), K2.okArg (k := 0) F7 B gA pText⟩
  have pStep : Has P w K mg base 5 "is_step" ["value"] (spIs K isSt) := ⟨_, d8, glo _ (by decide +kernel), F8.kp, F8.bindsN (fun _ _ _ _ _ _ us hl => match us, hl with | [_], _ => rfl), K2.okStep (k := 0) F8 B (pName.mono (by decide)) (pText.mono (by decide)) pKeys⟩
  have pPlace : Has P w K mg base 3 "is_place" ["value"] (spIs K isPl) := ⟨_, d9, glo _ (by decide +kernel), F9.kp, F9.bindsN (fun _ _ _ _ _ _ us hl => match us, hl with | [_], _ => rfl), K2.okPlace (k := 0) F9 B (pText.mono (by decide)) pAns pArg (pInt.mono (by decide))⟩
  have aFeed : Has P w K mg base 1 "_law_feed_of" ["_law_script", "_law_k"] (spFeed K) := ⟨_, d10, glo _ (by decide +kernel), F10.kp, F10.bindsN (fun _ _ _ _ _ _ us hl => match us, hl with | [_, _], _ => rfl), okFeed (k := 0) F10 B.len⟩
  have aDraw : Has P w K mg base 1 "_law_draw" ["_law_feed", "_law_many"] (spDraw) := ⟨_, d11, glo _ (by decide +kernel), F11.kp, F11.bindsN (fun _ _ _ _ _ _ us hl => match us, hl with | [_, _], _ => rfl), okDraw (k := 0) F11⟩
  have aPick : Has P w K mg base 2 "_law_pick" ["_law_feed", "_law_items"] (spPick K) := ⟨_, d12, glo _ (by decide +kernel), F12.kp, F12.bindsN (fun _ _ _ _ _ _ us hl => match us, hl with | [_, _], _ => rfl), okPick (k := 0) F12 B.len aDraw⟩
  have aPickS : Has P w K mg base 2 "_law_pick" ["_law_feed", "_law_items"] (spPickS) := ⟨_, d12, glo _ (by decide +kernel), F12.kp, F12.bindsN (fun _ _ _ _ _ _ us hl => match us, hl with | [_, _], _ => rfl), okPickS (k := 0) F12 B.len aDraw⟩
  have aCalls : Has P w K mg base 1 "_law_calls" [] (spCalls) := ⟨_, d13, glo _ (by decide +kernel), F13.kp, F13.bindsN (fun _ _ _ _ _ _ us hl => match us, hl with | [], _ => rfl), okCalls (k := 0) F13⟩
  have aTxt : Has P w K mg base 3 "_law_some_text" ["_law_feed"] (spText) := ⟨_, d14, glo _ (by decide +kernel), F14.kp, F14.bindsN (fun _ _ _ _ _ _ us hl => match us, hl with | [_], _ => rfl), okTxt (k := 0) F14 aDraw aPick aCalls⟩
  have aAns : Has P w K mg base 4 "_law_some_answer" ["_law_feed"] (spAns) := ⟨_, d15, glo _ (by decide +kernel), F15.kp, F15.bindsN (fun _ _ _ _ _ _ us hl => match us, hl with | [_], _ => rfl), La.okAns (k := 0) F15 aDraw aTxt⟩
  have aSame : Has P w K mg base 2 "_law_same" ["_law_found", "_law_due"] (spSame K 1) := ⟨_, d16, glo _ (by decide +kernel), F16.kp, F16.bindsN (fun _ _ _ _ _ _ us hl => match us, hl with | [_, _], _ => rfl), okSame F16 (glo _ (by decide +kernel)) B 1 0⟩
  have aSigns : Has P w K mg base 1 "_law_signs" [] (spSigns) := ⟨_, d18, glo _ (by decide +kernel), F18.kp, F18.bindsN (fun _ _ _ _ _ _ us hl => match us, hl with | [], _ => rfl), okSigns (k := 0) F18⟩
  have aText : Has P w K mg base 2 "_law_is_text" ["_law_value"] (spIs K isTx) := ⟨_, d17, glo _ (by decide +kernel), F17.kp, F17.bindsN (fun _ _ _ _ _ _ us hl => match us, hl with | [_], _ => rfl), La.okText (k := 0) F17 B aSigns⟩
  have aName : Has P w K mg base 1 "_law_is_name" ["_law_value"] (spIs K isNm) := ⟨_, d19, glo _ (by decide +kernel), F19.kp, F19.bindsN (fun _ _ _ _ _ _ us hl => match us, hl with | [_], _ => rfl), La.okName (k := 0) F19 B⟩
  have aKey : Has P w K mg base 2 "_law_is_key" ["_law_value"] (spIs K isKy) := ⟨_, d20, glo _ (by decide +kernel), F20.kp, F20.bindsN (fun _ _ _ _ _ _ us hl => match us, hl with | [_], _ => rfl), La.okKey (k := 0) F20 B aName⟩
  have aStep : Has P w K mg base 4 "_law_is_step" ["_law_value"] (spIs K isSt) := ⟨_, d21, glo _ (by decide +kernel), F21.kp, F21.bindsN (fun _ _ _ _ _ _ us hl => match us, hl with | [_], _ => rfl), La.okStep (k := 0) F21 B (aKey.mono (by decide)) (aName.mono (by decide)) (aText.mono (by decide))⟩
  have aRow : Has P w K mg base 3 "_law_is_row" ["_law_value"] (spIs K areAn) := ⟨_, d22, glo _ (by decide +kernel), F22.kp, F22.bindsN (fun _ _ _ _ _ _ us hl => match us, hl with | [_], _ => rfl), okRow (k := 0) F22 B aText⟩
  have aPlace : Has P w K mg base 4 "_law_is_place" ["_law_value"] (spIs K isPl) := ⟨_, d23, glo _ (by decide +kernel), F23.kp, F23.bindsN (fun _ _ _ _ _ _ us hl => match us, hl with | [_], _ => rfl), La.okPlace (k := 0) F23 B (aText.mono (by decide)) aRow⟩
  have aWord : Has P w K mg base 3 "_law_word" ["_law_feed"] (spWord) := ⟨_, d24, glo _ (by decide +kernel), F24.kp, F24.bindsN (fun _ _ _ _ _ _ us hl => match us, hl with | [_], _ => rfl), okWord (k := 0) F24 B aDraw aPickS (aSigns.mono (by decide))⟩
  have aThings : Has P w K mg base 5 "_law_things" ["_law_feed"] (spThings K) := ⟨_, d25, glo _ (by decide +kernel), F25.kp, F25.bindsN (fun _ _ _ _ _ _ us hl => match us, hl with | [_], _ => rfl), okThings (k := 0) F25 B (aDraw.mono (by decide)) (aWord.mono (by decide)) aAns (aTxt.mono (by decide))⟩
  have aOdd1 : Has P w K mg base 7 "_law_odd" ["_law_feed", "_law_value"] (spOdd K 5 3) := ⟨_, d26, glo _ (by decide +kernel), F26.kp, F26.bindsN (fun _ _ _ _ _ _ us hl => match us, hl with | [_, _], _ => rfl), okOdd 5 (by decide) (by decide) F26 (glo _ (by decide +kernel)) B (aDraw.mono (by decide)) (aPick.mono (by decide)) 3 (by decide) 0⟩
  have aOdd2 : Has P w K mg base 10 "_law_odd" ["_law_feed", "_law_value"] (spOdd K 6 6) := ⟨_, d26, glo _ (by decide +kernel), F26.kp, F26.bindsN (fun _ _ _ _ _ _ us hl => match us, hl with | [_, _], _ => rfl), okOdd 6 (by decide) (by decide) F26 (glo _ (by decide +kernel)) B (aDraw.mono (by decide)) (aPick.mono (by decide)) 6 (by decide) 0⟩
  exact okLaw F B (aFeed.mono (by decide)) (aThings.mono (by decide)) (aOdd1.mono (by decide)) aOdd2 (aKey.mono (by decide)) (aStep.mono (by decide)) (aPlace.mono (by decide)) (pKey.mono (by decide)) (pStep.mono (by decide)) (pPlace.mono (by decide)) (aSame.mono (by decide))
end
end K2.La

set_option Elab.async false
set_option linter.all false
set_option maxRecDepth 100000
set_option maxHeartbeats 0
open PySem PySem.W PySem.Calls PyProof.Rows
theorem PySem.Challenge.cw_farenough_k02_keys_steps_and_places_holds : PySem.Challenge.rw_farenough_k02_keys_steps_and_places.Holds := by
  w_on; o_law
  refine HandSHeadRun.head_any (r := OpenLaw.row PySem.Challenge.rw_farenough_k02_keys_steps_and_places) (q := view (OpenLaw.row PySem.Challenge.rw_farenough_k02_keys_steps_and_places).prog [32]) (H := K2.hk) (ob := K2.ob) (M := 20000) (loose := K2.loose)
    (d := HandSHeadRun.topDef (OpenLaw.row PySem.Challenge.rw_farenough_k02_keys_steps_and_places).prog 32) (kwd := []) K2.ob_eq
    (by kernel_rfl) (fun s => by kernel_rfl) K2.run (by kernel_rfl) (by kernel_rfl) (by kernel_rfl) (by rfl) (by first | assumption | decide +kernel) (by decide +kernel) ⟨rfl, rfl, rfl, rfl, rfl, by decide +kernel⟩ ?hw ?hc
  case hw => w_witness2
  case hc =>
    refine L2.walk_ofE (l := PySem.Challenge.rw_farenough_k02_keys_steps_and_places) (n := 63) (k := 11) (x := "_law_script") (CX := L2.CX0) rfl (by decide) (by kernel_rfl) ⟨rfl, by decide, by decide⟩ ?F (fun _ _ _ _ z => z)
    intro w mg fa h Y G hmg0
    obtain ⟨K, KX, c⟩ := Y
    have hmg : mg ("law" : PySem.Str) = some (.ref fa) := by
      have e : (HandSHeadRun.topDef (OpenLaw.row PySem.Challenge.rw_farenough_k02_keys_steps_and_places).prog 32).name = ("law" : PySem.Str) := by kernel_rfl
      rw [← e]
      exact hmg0
    obtain ⟨fd, hb, hF⟩ := K2.La.facts (P := (PySem.Challenge.rw_farenough_k02_keys_steps_and_places).prog) (w := w) KX G hmg c
    exact ⟨K, fd, K2.La.spLaw K, KX, hb, fun H a ns hl _ hS => ⟨a, ns, rfl, hS, hl, fun _ => rfl⟩, hF⟩


import PyProof.Rows.All
import HandS.ForMost
import HandS.Style
import HandS.IsInst
import HandS.Zip
import HandS.TupAny
import HandS.Codes
import HandS.Words
import HandS.Defaults
import HandS.Strs
import PySem.Challenge.RW_farenough_k03_places_after_and_in_order
import PyProof.Rows.StrJoinRep
import Wide.All
import OpenK.AllK
import Wide.FinOn
import HandS.Base
import HandS.Call
import HandS.List
import HandS.Comp
import HandS.Dict
import HandS.DictComp
import HandS.More
import KE.KDictKeyed
import KE.KDictWalk
import KE.KDictSum
import KE.SortData
import KE.SortKeyHeap
import KE.KSortKey
import HandS.SortKw
import HandS.ExcOwn
import KE.SortLaws
import HandS.Star
import KE.KStateDown
import HandS.Head0
import HandS.Head1
import HandS.Head2
import HandS.HeadEnd
import HandS.HeadHook2
set_option Elab.async false
set_option linter.all false
set_option maxRecDepth 100000
set_option maxHeartbeats 4000000
namespace KS
open PySem PySem.Spec PyProof.Rows L2
def top (i : Nat) : Stmt := PySem.Challenge.pw_farenough_k03_places_after_and_in_order.main.body.getD i (.Pass ⟨0, 0, 0, 0⟩)
abbrev FnP (K : PySem.W.Frag) (x : Str) (st : Stmt) (f : Addr) (fd : FuncData) : Prop := FunD K x x (defArgs st) (defBody st) (defScope st) [] [] f fd

abbrev lFeed : Stmt := top 9
abbrev lDraw : Stmt := top 10
abbrev lPick : Stmt := top 12
abbrev lCalls : Stmt := top 13
abbrev lText : Stmt := top 14
abbrev lAnswer : Stmt := top 15
abbrev lSame : Stmt := top 17
end KS

set_option Elab.async false
set_option linter.all false
set_option maxRecDepth 100000
set_option maxHeartbeats 4000000
namespace KS
open PySem PySem.Spec PyProof.Rows L2
theorem sameUpd {H : Hp} {p : Addr} {o : HO} (h : H p = none) : Same H (upd H p o) := fun b u e => by
  rw [upd_ne (ne_of_none e h)]
  exact e
theorem sameTup {K : PySem.W.Frag} {H H' : Hp} {a : Addr} {xs : List V} (e : Same H H') (h : SqT K H a xs) : SqT K H' a xs := by
  rcases h with (h | ⟨o, h⟩) | h
  · exact .inl (.inl (e _ _ h))
  · exact .inl (.inr ⟨o, e _ _ h⟩)
  · exact .inr h
mutual
theorem dpSame {K : PySem.W.Frag} {H H' : Hp} (e : Same H H') : ∀ (d : PyData) (v : V), Dp K H v d → Dp K H' v d
  | .none, _, h => by cases h; exact .non
  | .bool b, _, h => by cases h; exact .bl b
  | .int i, _, h => by cases h; exact .int i
  | .str x, _, h => by cases h; exact .str x
  | .list ds, _, h => by
    cases h with
    | lst ha hd => exact .lst (e.seq ha) (dpAllSame e ds _ hd)
  | .tuple ds, _, h => by
    cases h with
    | tup ha hd => exact .tup (sameTup e ha) (dpAllSame e ds _ hd)
  | .dict _, _, h => nomatch h
theorem dpAllSame {K : PySem.W.Frag} {H H' : Hp} (e : Same H H') : ∀ (ds : List PyData) (vs : List V), DpAll K H vs ds → DpAll K H' vs ds
  | [], _, h => by cases h; exact .nil
  | d :: ds, _, h => by
    cases h with
    | cons h1 h2 => exact .cons (dpSame e d _ h1) (dpAllSame e ds _ h2)
end
theorem dpLen {K : PySem.W.Frag} {H : Hp} : ∀ {vs : List V} {ds : List PyData}, DpAll K H vs ds → vs.length = ds.length
  | _, _, .nil => rfl
  | _, _, .cons _ r => by rw [List.length_cons, List.length_cons, dpLen r]
theorem dpAt {K : PySem.W.Frag} {H : Hp} : ∀ {vs : List V} {ds : List PyData}, DpAll K H vs ds → ∀ {i : Nat} {d : PyData}, ds[i]? = some d → ∃ v, vs[i]? = some v ∧ Dp K H v d
  | _, _, .nil, _, _, h => by simp at h
  | _, _, .cons h1 r, 0, _, h => by
    cases h
    exact ⟨_, rfl, h1⟩
  | _, _, .cons h1 r, i + 1, _, h => dpAt r (by simpa using h)
def SOk (z : Str) : Prop := z.cps.all (· < 0x110000) = true
/-- data down to the depth n: texts not too long, tuples not too wide, no lists -/
inductive Od : Nat → PyData → Prop
  | non (n : Nat) : Od n .none
  | bl (n : Nat) (b : Bool) : Od n (.bool b)
  | int (n : Nat) (i : Int) : Od n (.int i)
  | str (n : Nat) {z : Str} (h : SOk z) (h2 : z.length ≤ 2000) : Od n (.str z)
  | tup {n : Nat} {ds : List PyData} (h : ds.length ≤ 100) (h2 : ∀ d ∈ ds, Od n d) : Od (n + 1) (.tuple ds)
theorem Od.up {n : Nat} {d : PyData} (h : Od n d) : ∀ {m : Nat}, n ≤ m → Od m d := by
  induction h with
  | non n => exact fun _ => .non _
  | bl n b => exact fun _ => .bl _ b
  | int n i => exact fun _ => .int _ i
  | str n h h2 => exact fun _ => .str _ h h2
  | @tup n ds h h2 ih =>
    intro m hm
    obtain ⟨k, rfl⟩ : ∃ k, m = k + 1 := ⟨m - 1, by omega⟩
    exact .tup h fun d hd => ih d hd (by omega)
theorem allLay : ∀ {ds : List PyData} {n : Nat}, (∀ d ∈ ds, d.canLay0 = true ∧ d.depth ≤ n) → PyData.canLayAll0 ds = true ∧ PyData.depthAll ds ≤ n
  | [], n, _ => ⟨rfl, Nat.zero_le _⟩
  | d :: ds, n, h => by
    obtain ⟨h1, h2⟩ := h d List.mem_cons_self
    obtain ⟨h3, h4⟩ := allLay (n := n) fun x hx => h x (List.mem_cons_of_mem _ hx)
    constructor
    · simp only [PyData.canLayAll0, h1, h3, Bool.and_self]
    · simp only [PyData.depthAll]
      exact Nat.max_le.mpr ⟨h2, h4⟩
theorem Od.lay {n : Nat} {d : PyData} (h : Od n d) : d.canLay0 = true ∧ d.depth ≤ n := by
  induction h with
  | non n => exact ⟨rfl, Nat.zero_le _⟩
  | bl n b => exact ⟨rfl, Nat.zero_le _⟩
  | int n i => exact ⟨rfl, Nat.zero_le _⟩
  | str n h h2 => exact ⟨h, Nat.zero_le _⟩
  | @tup n ds h h2 ih =>
    obtain ⟨a, b⟩ := allLay (n := n) ih
    refine ⟨a, ?_⟩
    simp only [PyData.depth]
    omega
theorem Od.shaped {n : Nat} {d : PyData} (h : Od n d) (hn : n ≤ 64) : SeqAt.shaped d = true := by
  obtain ⟨a, b⟩ := h.lay
  unfold SeqAt.shaped
  rw [a, Bool.true_and]
  exact decide_eq_true (by omega)
/-! kinds -/
def tyD : PyData → String
  | .none => "NoneType" | .bool _ => "bool" | .int _ => "int" | .str _ => "str" | .list _ => "list" | .tuple _ => "tuple" | .dict _ => "dict"
def isT (t c : String) : Bool := t == c || (t == "bool" && c == "int")
def isD (d : PyData) (c : String) : Bool := isT (tyD d) c
theorem kitAll : ∀ t ∈ ["NoneType", "bool", "int", "str", "list", "tuple"], ∀ c ∈ ["tuple", "str", "int", "bool", "list"], kitB t c = some (isT t c) := by decide +kernel
theorem dpTy {K : PySem.W.Frag} {H : Hp} {v : V} {d : PyData} (h : Dp K H v d) : TyX K H v (.type (tyD d)) := by
  cases h with
  | non => exact .base .non
  | bl b => exact .base (.bl b)
  | int i => exact .base (.int i)
  | str x => exact .base (.str x)
  | lst h _ =>
    rcases h with (h | ⟨o, h⟩) | ⟨o, its, n, h, c, _⟩
    · exact .base (.lst h)
    · exact .base (.frz h)
    · exact .kList h c
  | tup h _ =>
    rcases h with (h | ⟨o, h⟩) | ⟨o, its, n, h, c, _⟩
    · exact .base (.tup h)
    · exact .fTuple h
    · exact .kTuple h c
theorem dpKit {K : PySem.W.Frag} {H : Hp} {v : V} {d : PyData} (h : Dp K H v d) {c : String} (hc : c = "tuple" ∨ c = "str" ∨ c = "int" ∨ c = "bool" ∨ c = "list") : PySem.W.kitOne K (.type (tyD d)) (.type c) = some (isD d c) := by
  have hc' : c ∈ ["tuple", "str", "int", "bool", "list"] := by rcases hc with rfl | rfl | rfl | rfl | rfl <;> simp
  refine kit_ty (kitAll _ ?_ _ hc')
  cases h <;> simp [tyD]
theorem isi {K : PySem.W.Frag} {H : Hp} {v : V} {d : PyData} (h : Dp K H v d) {c : String} (hc : c = "tuple" ∨ c = "str" ∨ c = "int" ∨ c = "bool" ∨ c = "list") {Q : VK} (q : Q (.bl (isD d c)) H) : rIsi K [v, .ty c] H Q :=
  ⟨v, .ty c, _, _, _, rfl, .ty c, dpTy h, dpKit h hc, q⟩
/-- the built-in names that are read -/
structure Bn (mg : Str → Option Value) : Prop where
  isi : mg "isinstance" = none
  len : mg "len" = none
  zip : mg "zip" = none
  all : mg "all" = none
  list : mg "list" = none
  tuple : mg "tuple" = none
  bool : mg "bool" = none
  int : mg "int" = none
  str : mg "str" = none
  range : mg "range" = none
  ord : mg "ord" = none
  set : mg "set" = none
  max : mg "max" = none
  min : mg "min" = none
/-! comprehensions with one name -/
theorem lcJ {J : It} {n : Nat} {g : TG} {tt : TT} {te : TE} {vs : List Nat} {σ : L2.St} {H1 : Hp} {D : Addr} {Qd : Hp → Prop} (Pv : Nat → Hp → Prop) (h0 : Pv 0 (upd H1 D (.lst [])))
    (hgo : ∀ i H, i < n → Pv i H → J.go i H) (hst : ∀ H, Pv n H → J.stop n H)
    (hs : ∀ i H x H', i < n → Pv i H → J.yld i H x H' → g x (wipe σ vs) H' fun σ2 H2 => wipe σ2 vs = wipe σ vs ∧ tt σ2 H2 fun b H3 =>
      if b = true then te σ2 H3 fun y H4 => ∃ acc, H4 D = some (.lst acc) ∧ acc.length < sizeLine ∧ Pv (i + 1) (upd H4 D (.lst (acc ++ [y]))) else Pv (i + 1) H3)
    (hd : ∀ H, Pv n H → Qd H) :
    ∃ W : Nat → Nat → Hp → Prop, (∃ m, W 0 m (upd H1 D (.lst []))) ∧ ∀ i m H, W i m H →
      (J.stop i H ∧ Qd H) ∨ (J.go i H ∧ ∃ Nx : Hp → Prop, (∀ H', Nx H' → ∃ m', m' < m ∧ W (i + 1) m' H') ∧ ∀ x H', J.yld i H x H' → g x (wipe σ vs) H' fun σ2 H2 => wipe σ2 vs = wipe σ vs ∧ tt σ2 H2 fun b H3 =>
        if b = true then te σ2 H3 fun y H4 => ∃ acc, H4 D = some (.lst acc) ∧ acc.length < sizeLine ∧ Nx (upd H4 D (.lst (acc ++ [y]))) else Nx H3) := by
  refine ⟨fun i m H => m = n - i ∧ i ≤ n ∧ Pv i H, ⟨n, by simp, Nat.zero_le _, h0⟩, fun i m H hW => ?_⟩
  obtain ⟨rfl, hi, p⟩ := hW
  by_cases lt : i < n
  · refine .inr ⟨hgo i H lt p, Pv (i + 1), fun H' p' => ⟨n - (i + 1), by omega, rfl, lt, p'⟩, fun x H' y => ?_⟩
    exact hs i H x H' lt p y
  · have e : i = n := by omega
    subst e
    exact .inl ⟨hst H p, hd H p⟩
/-- the list at D, all else as it was -/
def At (H1 : Hp) (D : Addr) (xs : List V) (H : Hp) : Prop := Same H1 H ∧ H D = some (.lst xs)
theorem At.put {H1 H H' : Hp} {D : Addr} {xs ys : List V} (hD : H1 D = none) (h : At H1 D xs H) (s : Same H H') : H' D = some (.lst xs) ∧ At H1 D ys (upd H' D (.lst ys)) := by
  obtain ⟨a, b⟩ := h
  refine ⟨s _ _ b, fun c o e => ?_, upd_same⟩
  rw [upd_ne (ne_of_none e hD)]
  exact s _ _ (a _ _ e)
theorem dpSnoc {K : PySem.W.Frag} {H : Hp} {y : V} {e : PyData} (hy : Dp K H y e) : ∀ {xs : List V} {ds : List PyData}, DpAll K H xs ds → DpAll K H (xs ++ [y]) (ds ++ [e])
  | _, _, .nil => .cons hy .nil
  | _, _, .cons h r => .cons h (dpSnoc hy r)
/-- every item answers a Bool -/
theorem lcAll {J : It} {n j : Nat} {te : TE} {σ : L2.St} {H1 : Hp} {D : Addr} {Qd : Hp → Prop} (b : Nat → Bool) (hD : H1 D = none) (hn : n ≤ 1000000) (hw : ∀ v, wipe ((wipe σ [j]).set j (some v)) [j] = wipe σ [j])
    (hgo : ∀ i H, i < n → Same H1 H → J.go i H) (hst : ∀ H, Same H1 H → J.stop n H)
    (hs : ∀ i H x H', i < n → Same H1 H → J.yld i H x H' → Same H H' ∧ ∀ (R : VK), (∀ H2, Same H' H2 → R (.bl (b i)) H2) → te ((wipe σ [j]).set j (some x)) H' R)
    (hd : ∀ H, Same H1 H → H D = some (.lst (((List.range n).map b).map V.bl)) → Qd H) :
    ∃ W : Nat → Nat → Hp → Prop, (∃ m, W 0 m (upd H1 D (.lst []))) ∧ ∀ i m H, W i m H →
      (J.stop i H ∧ Qd H) ∨ (J.go i H ∧ ∃ Nx : Hp → Prop, (∀ H', Nx H' → ∃ m', m' < m ∧ W (i + 1) m' H') ∧ ∀ x H', J.yld i H x H' → gName j x (wipe σ [j]) H' fun σ2 H2 => wipe σ2 [j] = wipe σ [j] ∧ tYes σ2 H2 fun b H3 =>
        if b = true then te σ2 H3 fun y H4 => ∃ acc, H4 D = some (.lst acc) ∧ acc.length < sizeLine ∧ Nx (upd H4 D (.lst (acc ++ [y]))) else Nx H3) := by
  refine lcJ (n := n) (fun i H => At H1 D (((List.range i).map b).map V.bl) H) ⟨sameUpd hD, upd_same⟩ (fun i H lt h => hgo i H lt h.1) (fun H h => hst H h.1) (fun i H x H' lt h y => ?_) (fun H h => hd H h.1 h.2)
  obtain ⟨s1, s2⟩ := hs i H x H' lt h.1 y
  refine ⟨hw x, ?_⟩
  unfold tYes
  dsimp only
  rw [if_pos rfl]
  refine s2 _ fun H2 s3 => ?_
  obtain ⟨e1, e2⟩ := h.put (ys := ((List.range (i + 1)).map b).map V.bl) hD (s1.trans s3)
  refine ⟨_, e1, ?_, ?_⟩
  · rw [List.length_map, List.length_map, List.length_range, sizeLine_eq]
    omega
  · have e3 : ((List.range (i + 1)).map b).map V.bl = ((List.range i).map b).map V.bl ++ [V.bl (b i)] := by
      rw [List.range_succ, List.map_append, List.map_append]
      rfl
    rw [← e3]
    exact e2
/-- the ones that answer true are kept -/
theorem lcSome {K : PySem.W.Frag} {J : It} {n j : Nat} {tt : TT} {te : TE} {σ : L2.St} {H1 : Hp} {D : Addr} {Qd : Hp → Prop} (b : Nat → Bool) (hD : H1 D = none) (hn : n ≤ 1000000) (hw : ∀ v, wipe ((wipe σ [j]).set j (some v)) [j] = wipe σ [j])
    (hgo : ∀ i H, i < n → Same H1 H → J.go i H) (hst : ∀ H, Same H1 H → J.stop n H)
    (hs : ∀ i H x H', i < n → Same H1 H → J.yld i H x H' → Same H H' ∧ (∀ (F : Bool → Hp → Prop), (∀ H2, Same H' H2 → F (b i) H2) → tt ((wipe σ [j]).set j (some x)) H' F) ∧ ∃ y d, (∀ H, Dp K H y d) ∧ Od 0 d ∧ ∀ (R : VK) H2, R y H2 → te ((wipe σ [j]).set j (some x)) H2 R)
    (hd : ∀ H xs, Same H1 H → H D = some (.lst xs) → (xs = [] ↔ ∀ i, i < n → b i = false) → (∃ ds, (∀ H, DpAll K H xs ds) ∧ (∀ d ∈ ds, Od 0 d) ∧ ds.length ≤ n) → Qd H) :
    ∃ W : Nat → Nat → Hp → Prop, (∃ m, W 0 m (upd H1 D (.lst []))) ∧ ∀ i m H, W i m H →
      (J.stop i H ∧ Qd H) ∨ (J.go i H ∧ ∃ Nx : Hp → Prop, (∀ H', Nx H' → ∃ m', m' < m ∧ W (i + 1) m' H') ∧ ∀ x H', J.yld i H x H' → gName j x (wipe σ [j]) H' fun σ2 H2 => wipe σ2 [j] = wipe σ [j] ∧ tt σ2 H2 fun b H3 =>
        if b = true then te σ2 H3 fun y H4 => ∃ acc, H4 D = some (.lst acc) ∧ acc.length < sizeLine ∧ Nx (upd H4 D (.lst (acc ++ [y]))) else Nx H3) := by
  refine lcJ (n := n) (fun i H => ∃ xs, At H1 D xs H ∧ (xs = [] ↔ ∀ k, k < i → b k = false) ∧ xs.length ≤ i ∧ ∃ ds, (∀ H, DpAll K H xs ds) ∧ ∀ d ∈ ds, Od 0 d) ⟨[], ⟨sameUpd hD, upd_same⟩, ⟨fun _ k hk => absurd hk (Nat.not_lt_zero _), fun _ => rfl⟩, Nat.le_refl _, [], fun _ => .nil, fun d hd => absurd hd (by simp)⟩ (fun i H lt h => hgo i H lt h.choose_spec.1.1) (fun H h => hst H h.choose_spec.1.1) (fun i H x H' lt h y => ?_)
    (fun H h => by obtain ⟨xs, h1, h2, h3, h4⟩ := h; obtain ⟨ds, g1, g2⟩ := h4; exact hd H xs h1.1 h1.2 h2 ⟨ds, g1, g2, by have := dpLen (g1 H); omega⟩)
  obtain ⟨xs, h, e0, hl, ds, hda, hod⟩ := h
  obtain ⟨s1, s2, z, zd, z1, z2, s4⟩ := hs i H x H' lt h.1 y
  refine ⟨hw x, s2 _ fun H2 s3 => ?_⟩
  cases hb : b i with
  | true =>
    refine iteT (s4 _ _ ?_)
    obtain ⟨e1, e2⟩ := h.put (ys := xs ++ [z]) hD (s1.trans s3)
    refine ⟨_, e1, by rw [sizeLine_eq]; omega, _, e2, ⟨fun q => absurd q (by simp), fun q => ?_⟩, by rw [List.length_append]; exact Nat.succ_le_succ hl, ds ++ [zd], fun H => dpSnoc (z1 H) (hda H), fun d hd => ?_⟩
    · rw [q i (Nat.lt_succ_self _)] at hb
      cases hb
    · rcases List.mem_append.mp hd with y | y
      · exact hod d y
      · rw [List.mem_singleton.mp y]
        exact z2
  | false =>
    refine iteF ⟨xs, ⟨(h.1.trans s1).trans s3, s3 _ _ (s1 _ _ h.2)⟩, ⟨fun q k hk => ?_, fun q => e0.mpr fun k hk => q k (by omega)⟩, by omega, ds, hda, hod⟩
    rcases Nat.lt_succ_iff_lt_or_eq.mp hk with c | c
    · exact e0.mp q k c
    · rw [c]
      exact hb
/-- all(..) over a tuple -/
theorem lcAllT {K : PySem.W.Frag} {a : Addr} {xs : List V} {ds : List PyData} {j : Nat} {te : TE} {σ : L2.St} {H1 : Hp} {D : Addr} {Qd : Hp → Prop} (p : PyData → Bool) (ha : SqT K H1 a xs) (hx : DpAll K H1 xs ds) (hn : ds.length ≤ 1000) (hD : H1 D = none) (hw : ∀ v, wipe ((wipe σ [j]).set j (some v)) [j] = wipe σ [j])
    (hs : ∀ v d H, d ∈ ds → Same H1 H → Dp K H v d → ∀ (R : VK), (∀ H2, Same H H2 → R (.bl (p d)) H2) → te ((wipe σ [j]).set j (some v)) H R)
    (hd : ∀ H, Same H1 H → H D = some (.lst ((ds.map p).map V.bl)) → Qd H) :
    ∃ W : Nat → Nat → Hp → Prop, (∃ m, W 0 m (upd H1 D (.lst []))) ∧ ∀ i m H, W i m H →
      ((Itt K a).stop i H ∧ Qd H) ∨ ((Itt K a).go i H ∧ ∃ Nx : Hp → Prop, (∀ H', Nx H' → ∃ m', m' < m ∧ W (i + 1) m' H') ∧ ∀ x H', (Itt K a).yld i H x H' → gName j x (wipe σ [j]) H' fun σ2 H2 => wipe σ2 [j] = wipe σ [j] ∧ tYes σ2 H2 fun b H3 =>
        if b = true then te σ2 H3 fun y H4 => ∃ acc, H4 D = some (.lst acc) ∧ acc.length < sizeLine ∧ Nx (upd H4 D (.lst (acc ++ [y]))) else Nx H3) := by
  have hl := dpLen hx
  refine lcAll (n := ds.length) (fun i => p (ds.getD i .none)) hD (by omega) hw (fun i H lt s => ?_) (fun H s => ⟨xs, sameTup s ha, by omega⟩) (fun i H x H' lt s y => ?_) (fun H s e => hd H s ?_)
  · exact ⟨xs, xs[i], sameTup s ha, List.getElem?_eq_getElem (by omega)⟩
  · obtain ⟨rfl, y⟩ := y
    refine ⟨Same.refl _, fun R hR => ?_⟩
    have e := y xs (sameTup s ha)
    have e2 : ds[i]? = some ds[i] := List.getElem?_eq_getElem lt
    obtain ⟨v, h1, h2⟩ := dpAt hx e2
    obtain rfl : v = x := Option.some.inj (h1.symm.trans e)
    rw [List.getD_eq_getElem?_getD, e2] at hR
    exact hs v ds[i] _ (List.getElem_mem lt) s (dpSame s _ _ h2) R hR
  · rw [e]
    have : (List.range ds.length).map (fun i => p (ds.getD i .none)) = ds.map p := by
      refine List.ext_getElem (by simp) fun i h1 h2 => ?_
      simp only [List.getElem_map, List.getElem_range]
      rw [List.getD_eq_getElem?_getD, List.getElem?_eq_getElem (by simpa using h1)]
      rfl
    rw [this]
/-- the kept ones of a tuple -/
theorem lcSomeT {K : PySem.W.Frag} {a : Addr} {xs : List V} {ds : List PyData} {j : Nat} {tt : TT} {te : TE} {σ : L2.St} {H1 : Hp} {D : Addr} {Qd : Hp → Prop} (p : PyData → Bool) (ha : SqT K H1 a xs) (hx : DpAll K H1 xs ds) (hn : ds.length ≤ 1000) (hD : H1 D = none) (hw : ∀ v, wipe ((wipe σ [j]).set j (some v)) [j] = wipe σ [j])
    (hs : ∀ v d H, d ∈ ds → Same H1 H → Dp K H v d → (∀ (F : Bool → Hp → Prop), (∀ H2, Same H H2 → F (p d) H2) → tt ((wipe σ [j]).set j (some v)) H F) ∧ ∃ y d, (∀ H, Dp K H y d) ∧ Od 0 d ∧ ∀ (R : VK) H2, R y H2 → te ((wipe σ [j]).set j (some v)) H2 R)
    (hd : ∀ H zs, Same H1 H → H D = some (.lst zs) → (zs = [] ↔ ∀ d ∈ ds, p d = false) → (∃ es, (∀ H, DpAll K H zs es) ∧ (∀ d ∈ es, Od 0 d) ∧ es.length ≤ ds.length) → Qd H) :
    ∃ W : Nat → Nat → Hp → Prop, (∃ m, W 0 m (upd H1 D (.lst []))) ∧ ∀ i m H, W i m H →
      ((Itt K a).stop i H ∧ Qd H) ∨ ((Itt K a).go i H ∧ ∃ Nx : Hp → Prop, (∀ H', Nx H' → ∃ m', m' < m ∧ W (i + 1) m' H') ∧ ∀ x H', (Itt K a).yld i H x H' → gName j x (wipe σ [j]) H' fun σ2 H2 => wipe σ2 [j] = wipe σ [j] ∧ tt σ2 H2 fun b H3 =>
        if b = true then te σ2 H3 fun y H4 => ∃ acc, H4 D = some (.lst acc) ∧ acc.length < sizeLine ∧ Nx (upd H4 D (.lst (acc ++ [y]))) else Nx H3) := by
  have hl := dpLen hx
  refine lcSome (K := K) (n := ds.length) (fun i => p (ds.getD i .none)) hD (by omega) hw (fun i H lt s => ?_) (fun H s => ⟨xs, sameTup s ha, by omega⟩) (fun i H x H' lt s y => ?_) (fun H zs s e e0 es => hd H zs s e (e0.trans ?_) es)
  · exact ⟨xs, xs[i], sameTup s ha, List.getElem?_eq_getElem (by omega)⟩
  · obtain ⟨rfl, y⟩ := y
    have e := y xs (sameTup s ha)
    have e2 : ds[i]? = some ds[i] := List.getElem?_eq_getElem lt
    obtain ⟨v, h1, h2⟩ := dpAt hx e2
    obtain rfl : v = x := Option.some.inj (h1.symm.trans e)
    rw [List.getD_eq_getElem?_getD, e2]
    exact ⟨Same.refl _, hs v ds[i] _ (List.getElem_mem lt) s (dpSame s _ _ h2)⟩
  · constructor
    · intro h d hd
      obtain ⟨i, hi, e⟩ := List.getElem_of_mem hd
      have := h i hi
      rw [List.getD_eq_getElem?_getD, List.getElem?_eq_getElem hi] at this
      rw [← e]
      exact this
    · intro h i hi
      rw [List.getD_eq_getElem?_getD, List.getElem?_eq_getElem hi]
      exact h _ (List.getElem_mem hi)
/-- a kept list against [] -/
theorem eqNil {K : PySem.W.Frag} {H : Hp} {D e : Addr} {zs : List V} {Q : VK} {n : Nat} (hD : H D = some (.lst zs)) (he : H e = some (.lst [])) (es : ∃ es, (∀ H, DpAll K H zs es) ∧ (∀ d ∈ es, Od 0 d) ∧ es.length ≤ n) (h : Q (.bl (decide (zs = []))) H) : rEqD K (.ref D) (.ref e) H Q := by
  obtain ⟨ds, h1, h2, _⟩ := es
  refine ⟨.list ds, .list [], .lst (.inl (.inl hD)) (h1 H), .lst (.inl (.inl he)) .nil, ?_, rfl, ?_⟩
  · obtain ⟨a, b⟩ := allLay (ds := ds) (n := 0) fun d hd => (h2 d hd).lay
    have e1 : (PyData.list ds).canLay0 = true := a
    unfold SeqAt.shaped
    rw [e1, Bool.true_and]
    refine decide_eq_true ?_
    simp only [PyData.depth]
    omega
  · have hl := dpLen (h1 H)
    cases ds with
    | nil =>
      have : zs = [] := List.eq_nil_of_length_eq_zero hl
      subst this
      exact h
    | cons d ds =>
      have : ¬ zs = [] := fun z => by rw [z] at hl; cases hl
      rw [decide_eq_false this] at h
      exact h
theorem neNil {K : PySem.W.Frag} {H : Hp} {D e : Addr} {zs : List V} {Q : VK} {n : Nat} (hD : H D = some (.lst zs)) (he : H e = some (.lst [])) (es : ∃ es, (∀ H, DpAll K H zs es) ∧ (∀ d ∈ es, Od 0 d) ∧ es.length ≤ n) (h : Q (.bl (!decide (zs = []))) H) : rNeD K (.ref D) (.ref e) H Q := by
  obtain ⟨d, e, h1, h2, h3, h4, h5⟩ := eqNil (Q := fun x H => Q (match x with | .bl b => .bl (!b) | _ => x) H) hD he es h
  exact ⟨d, e, h1, h2, h3, h4, h5⟩
end KS

set_option Elab.async false
set_option linter.all false
set_option maxRecDepth 100000
set_option maxHeartbeats 4000000
namespace KS
open PySem PySem.Spec PyProof.Rows L2
structure Has (P : Program) (w : World) (K : PySem.W.Frag) (mg : Str → Option Value) (base : Heap) (k : Nat) (x : Str) (ps : List Str) (sp : Sp) : Prop where
  ex : ∃ (f : Addr) (fd : FuncData), mg x = some (.ref f) ∧ PySem.W.keepIn K (.ref f) = true ∧ Binds K fd ps [] ∧ FnOk P w K mg base CX0 k f fd ps sp
end KS

set_option Elab.async false
set_option linter.all false
set_option maxRecDepth 100000
set_option maxHeartbeats 4000000
namespace KS.La
open PySem PySem.Spec PyProof.Rows L2
/-! ### the feed -/
/-- all but the list at f stands -/
def Kp (f : Addr) (H H' : Hp) : Prop := ∀ b o, b ≠ f → H b = some o → H' b = some o
def Fd (H : Hp) (f : Addr) : Prop := ∃ x y : Int, H f = some (.lst [.int x, .int y]) ∧ 0 ≤ x ∧ 0 ≤ y
theorem Kp.refl (f : Addr) (H : Hp) : Kp f H H := fun _ _ _ h => h
theorem Kp.trans {f : Addr} {H H1 H2 : Hp} (a : Kp f H H1) (b : Kp f H1 H2) : Kp f H H2 := fun c o n h => b c o n (a c o n h)
theorem Kp.put {f : Addr} {H : Hp} {o : HO} : Kp f H (upd H f o) := fun b u n h => by
  rw [upd_ne n]
  exact h
theorem Kp.new {f p : Addr} {H : Hp} {o : HO} (h : H p = none) : Kp f H (upd H p o) := fun b u _ e => by
  rw [upd_ne (ne_of_none e h)]
  exact e
theorem Kp.same {f : Addr} {H H' : Hp} (s : Same H H') : Kp f H H' := fun b o _ h => s b o h
theorem Fd.same {f : Addr} {H H' : Hp} (s : Same H H') : Fd H f → Fd H' f := fun ⟨x, y, h, a, b⟩ => ⟨x, y, s _ _ h, a, b⟩
theorem Fd.new {f p : Addr} {H : Hp} {o : HO} (h : H p = none) (e : Fd H f) : Fd (upd H p o) f := e.same (sameUpd h)
theorem Fd.put {f : Addr} {H : Hp} {x y : Int} (hx : 0 ≤ x) (hy : 0 ≤ y) : Fd (upd H f (.lst [.int x, .int y])) f := ⟨x, y, upd_same, hx, hy⟩
/-! ### promises -/
def spFeed (K : PySem.W.Frag) : Sp := fun vs H Q _ => ∃ (a : Addr) (ns : List Int) (k : Int), vs = [.ref a, .int k] ∧ SqL K H a (ns.map V.int) ∧ ns.length ≤ 63 ∧ 0 ≤ k ∧ k < 1000 ∧ ∀ p H', Same H H' → H p = none → Fd H' p → Q (.ref p) H'
def spDraw : Sp := fun vs H Q _ => ∃ (f : Addr) (n : Int), vs = [.ref f, .int n] ∧ Fd H f ∧ 0 < n ∧ n < 1000000 ∧ ∀ (r : Int) H', 0 ≤ r → r < n → Kp f H H' → Fd H' f → Q (.int r) H'
def spPick (K : PySem.W.Frag) : Sp := fun vs H Q _ => ∃ (f l : Addr) (xs : List V), vs = [.ref f, .ref l] ∧ Fd H f ∧ SqL K H l xs ∧ l ≠ f ∧ 0 < xs.length ∧ xs.length < 1000 ∧ ∀ (i : Nat) (v : V) H', xs[i]? = some v → Kp f H H' → Fd H' f → Q v H'
def spCalls : Sp := fun vs H Q _ => vs = [] ∧ ∀ p, H p = none → Q (.ref p) (upd H p (.lst [.str "make", .str "", .str "r 2", .str "Mend!", .str "m"]))
def TOk (z : Str) : Prop := SOk z ∧ z.length ≤ 1000
instance (z : Str) : Decidable (TOk z) := by unfold TOk SOk; infer_instance
theorem sokFold : ∀ (l : List (Array Nat)) (a : Array Nat), a.all (· < 0x110000) = true → (∀ b ∈ l, b.all (· < 0x110000) = true) → (l.foldl (· ++ ·) a).all (· < 0x110000) = true
  | [], _, h, _ => h
  | b :: l, a, h, k => sokFold l (a ++ b) (by rw [Array.all_append, h, k b (List.mem_cons_self ..)]; rfl) fun c hc => k c (List.mem_cons_of_mem _ hc)
theorem sokMul {z : Str} {n : Int} (h : SOk z) : SOk (Txt.mul z n) := by
  unfold Txt.mul
  split
  · (show Str.empty.cps.all (· < 0x110000) = true; decide +kernel)
  · split
    · exact h
    · exact sokFold _ #[] (by simp) fun b hb => by rw [List.eq_of_mem_replicate hb]; exact h
theorem tokMul {z : Str} {n : Int} {c : Nat} (h : SOk z) (e : z = ⟨#[c]⟩) (m : n ≤ 1000) : TOk (Txt.mul z n) := ⟨sokMul h, len_mul_one (N := 1000) e m⟩
def spText : Sp := fun vs H Q _ => ∃ f : Addr, vs = [.ref f] ∧ Fd H f ∧ ∀ (z : Str) H', TOk z → Kp f H H' → Fd H' f → Q (.str z) H'
section
variable {P : Program} {w : World} {K : PySem.W.Frag} {mg : Str → Option Value} {base : Heap} {f : Addr} {fd : FuncData}
theorem scFeed : FnScope ["_law_script", "_law_k", "_law_cell", "_law_great"] ["_law_script", "_law_k"] (defScope lFeed) := ⟨rfl, rfl, rfl, by decide +kernel, rfl, by decide +kernel, by decide +kernel⟩
theorem seqNat {ns : List Int} {k : Int} (h0 : 0 ≤ k) (h : k < (ns.length : Int)) : ∃ n : Int, atI (ns.map V.int) k = some (.int n) := by
  obtain ⟨j, rfl⟩ : ∃ j : Nat, k = (j : Int) := ⟨k.toNat, by omega⟩
  have hj : j < ns.length := by omega
  refine ⟨ns[j], atI_nat ?_⟩
  rw [List.getElem?_map, List.getElem?_eq_getElem hj]
  rfl
theorem okFeed {k : Nat} (F : FnP K "_law_feed_of" lFeed f fd) (ml : mg "len" = none) : FnOk P w K mg base CX0 (k + 1) f fd ["_law_script", "_law_k"] (spFeed K) := by
  refine F.ok scFeed (fun vs H Q E h => ?_) (fun cdv A outer s H vs Q E hr h => ?_)
  · obtain ⟨a, ns, k, rfl, _⟩ := h
    rfl
  · obtain ⟨a, ns, n, rfl, hS, hlen, hn0, hn1, q⟩ := h
    refine ⟨_, PSs.nox (pss_cons (ps_set (i := 2) scFeed.nd rfl (.inl rfl) (pe_op op_add (pe_op op_mul pe_int (pv 1)) pe_int))
      (C8.pss_cut (ps_if (pt_cmpR op_lt (pv 1) (pe_callB call_len_seq (by rfl) ml PySem.boot_len (pa_cons (pv 0) pa_nil)) (nomark _)) (pss_one (ps_set (i := 2) scFeed.nd rfl (.inl rfl) (pe_ix ix_list (pv 0) (pv 1) (fun _ _ => rfl)))) pss_nil)
      (C8.pss_cut (ps_if (pt_cmpR op_lt (pv 2) pe_int (nomark _)) (pss_one (ps_set (i := 2) scFeed.nd rfl (.inl rfl) (pe_op op_sub pe_int (pe_op op_mul pe_int (pv 2))))) pss_nil)
      (C8.pss_cut (ps_set (i := 3) scFeed.nd rfl (.inl rfl) (pe_ifExp (pt_cmpR op_ge (pv 2) (pe_op op_pow pe_int pe_int) (nomark _)) (pv 2) pe_int))
      (pss_one (ps_ret (pe_lst (pa_cons (pv 3) (pa_cons (pe_op op_add (pe_op op_add (pe_op op_mod (pv 2) pe_int) (pe_op op_mul pe_int (pv 1))) pe_int) pa_nil))))))))), ?_⟩
    refine ⟨.int n, rfl, 9029, n, rfl, rfl, .inl ⟨by decide, by decide⟩, 9029 * n, 31, rfl, rfl, ?_⟩
    refine ⟨fun σ' H' => H' = H ∧ ∃ c : Int, σ' = [some (.ref a), some (.int n), some (.int c), none], ?_, ?_⟩
    · refine ⟨.int n, rfl, .ref a, rfl, a, _, rfl, .inl hS, n, _, rfl, rfl, _, rfl, ite2 (fun e => ?_) (fun _ => ?_)⟩
      · have e1 : n < ((ns.map V.int).length : Int) := of_decide_eq_true e
        rw [List.length_map] at e1
        obtain ⟨c, hc⟩ := seqNat hn0 e1
        exact ⟨.ref a, rfl, .int n, rfl, a, _, n, _, rfl, rfl, hS, hc, rfl, c, rfl⟩
      · exact ⟨rfl, _, rfl⟩
    rintro σ' H' ⟨rfl, c, rfl⟩
    refine ⟨fun σ' H2 => H2 = H' ∧ ∃ c : Int, 0 ≤ c ∧ σ' = [some (.ref a), some (.int n), some (.int c), none], ?_, ?_⟩
    · refine ⟨.int c, rfl, c, 0, rfl, rfl, _, rfl, ite2 (fun e => ?_) (fun e => ?_)⟩
      · have e1 : c < 0 := of_decide_eq_true e
        exact ⟨.int c, rfl, 7, c, rfl, rfl, .inl ⟨by decide, by decide⟩, 5, 7 * c, rfl, rfl, rfl, 5 - 7 * c, by omega, rfl⟩
      · have e1 : ¬ c < 0 := fun z => e (decide_eq_true z)
        exact ⟨rfl, c, by omega, rfl⟩
    rintro σ' H2 ⟨rfl, d, hd, rfl⟩
    refine ⟨fun σ' H3 => H3 = H2 ∧ ∃ g : Int, 0 ≤ g ∧ σ' = [some (.ref a), some (.int n), some (.int d), some (.int g)], ?_, ?_⟩
    · refine ⟨.int d, rfl, 10, 18, rfl, rfl, ⟨by decide, by decide, by decide⟩, d, _, rfl, rfl, _, rfl, ite2 (fun _ => ?_) (fun _ => ?_)⟩
      · exact ⟨.int d, rfl, rfl, d, hd, rfl⟩
      · exact ⟨rfl, 0, by decide, rfl⟩
    rintro σ' H3 ⟨rfl, g, hg, rfl⟩
    refine ⟨.int g, rfl, .int d, rfl, d, 1000003, rfl, rfl, (by show (0 : Int) < 1000003; decide), .int n, rfl, 11, n, rfl, rfl, .inl ⟨by decide, by decide⟩, _, _, rfl, rfl, _, _, rfl, rfl, (by show 2 ≤ sizeLine; decide), fun p hp => ?_⟩
    refine q p _ (sameUpd hp) hp ⟨_, _, upd_same, hg, ?_⟩
    have := Int.emod_nonneg d (show (1000003 : Int) ≠ 0 by decide)
    omega
theorem scDraw : FnScope ["_law_feed", "_law_many", "_law_digit"] ["_law_feed", "_law_many"] (defScope lDraw) := ⟨rfl, rfl, rfl, by decide +kernel, rfl, by decide +kernel, by decide +kernel⟩
theorem okDraw {k : Nat} (F : FnP K "_law_draw" lDraw f fd) : FnOk P w K mg base CX0 (k + 1) f fd ["_law_feed", "_law_many"] spDraw := by
  refine F.ok scDraw (fun vs H Q E h => ?_) (fun cdv A outer s H vs Q E hr h => ?_)
  · obtain ⟨a, n, rfl, _⟩ := h
    rfl
  · obtain ⟨a, n, rfl, ⟨x, y, hf, hx, hy⟩, hn0, hn1, q⟩ := h
    have hS : ∀ {x y : Int} {H : Hp}, H a = some (.lst [.int x, .int y]) → SqL K H a [.int x, .int y] := fun h => .inl (.inl h)
    refine ⟨_, PSs.nox (pss_cons (ps_if (pt_cmpR op_gt (pe_ix ix_list (pv 0) pe_int (fun _ _ => rfl)) pe_int (nomark _))
        (pss_cons (ps_set (i := 2) scDraw.nd rfl (.inl rfl) (pe_op op_modN (pe_ix ix_list (pv 0) pe_int (fun _ _ => rfl)) (pv 1)))
        (pss_cons (ps_asg (pe_op op_fdivN (pe_ix ix_list (pv 0) pe_int (fun _ _ => rfl)) (pv 1)) (pg_sub (pv 0) pe_int set_list))
        (pss_one (ps_ret (pv 2))))) pss_nil)
      (pss_cons (ps_asg (pe_op op_mod (pe_op op_add (pe_op op_mul (pe_ix ix_list (pv 0) pe_int (fun _ _ => rfl)) pe_int) pe_int) pe_int) (pg_sub (pv 0) pe_int set_list))
      (pss_one (ps_ret (pe_op op_modN (pe_op op_fdiv (pe_ix ix_list (pv 0) pe_int (fun _ _ => rfl)) pe_int) (pv 1)))))), ?_⟩
    refine ⟨.ref a, rfl, a, _, 0, .int x, rfl, rfl, hS hf, atI_nat (j := 0) rfl, x, 0, rfl, rfl, _, rfl, ite2 (fun e => ?_) (fun e => ?_)⟩
    · refine ⟨.ref a, rfl, a, _, 0, .int x, rfl, rfl, hS hf, atI_nat (j := 0) rfl, .int n, rfl, x, n, rfl, rfl, (by show n ≠ 0; omega), ?_⟩
      refine ⟨.ref a, rfl, a, _, 0, .int x, rfl, rfl, hS hf, atI_nat (j := 0) rfl, .int n, rfl, x, n, rfl, rfl, ⟨(by omega), (by omega)⟩, ?_⟩
      refine ⟨.ref a, rfl, a, _, _, 0, rfl, rfl, hf, rfl, ?_⟩
      refine ⟨_, rfl, ?_⟩
      show Q (.int (x.fmod n)) (upd H a (.lst [.int (x.fdiv n), .int y]))
      rw [Int.fmod_eq_emod_of_nonneg x (by omega), Int.fdiv_eq_ediv_of_nonneg x (by omega)]
      exact q (x % n) _ (Int.emod_nonneg x (by omega)) (Int.emod_lt_of_pos x hn0) Kp.put (Fd.put (Int.ediv_nonneg hx (by omega)) hy)
    · refine ⟨.ref a, rfl, a, _, 1, .int y, rfl, rfl, hS hf, atI_nat (j := 1) rfl, y, 48271, rfl, rfl, .inr ⟨by decide, by decide⟩, _, 11, rfl, rfl, _, 2147483647, rfl, rfl, (by show (0 : Int) < 2147483647; decide), ?_⟩
      refine ⟨.ref a, rfl, a, _, _, 1, rfl, rfl, hf, rfl, ?_⟩
      have hm := Int.emod_nonneg (y * 48271 + 11) (show (2147483647 : Int) ≠ 0 by decide)
      refine ⟨.ref a, rfl, a, [.int x, .int ((y * 48271 + 11) % 2147483647)], 1, .int ((y * 48271 + 11) % 2147483647), rfl, rfl, hS upd_same, atI_nat (j := 1) rfl, (y * 48271 + 11) % 2147483647, 127, rfl, rfl, ⟨by decide, by decide⟩, ?_⟩
      refine ⟨.int n, rfl, _, n, rfl, rfl, (by show n ≠ 0; omega), ?_⟩
      show Q (.int (((y * 48271 + 11) % 2147483647 / 127).fmod n)) (upd H a (.lst [.int x, .int ((y * 48271 + 11) % 2147483647)]))
      rw [Int.fmod_eq_emod_of_nonneg _ (by omega)]
      exact q _ _ (Int.emod_nonneg _ (by omega)) (Int.emod_lt_of_pos _ hn0) Kp.put (Fd.put hx hm)
theorem scPick : FnScope ["_law_feed", "_law_items"] ["_law_feed", "_law_items"] (defScope lPick) := ⟨rfl, rfl, rfl, by decide +kernel, rfl, by decide +kernel, by decide +kernel⟩
theorem okPick {k : Nat} (F : FnP K "_law_pick" lPick f fd) (ml : mg "len" = none) (D : Has P w K mg base (k + 1) "_law_draw" ["_law_feed", "_law_many"] spDraw) : FnOk P w K mg base CX0 (k + 2) f fd ["_law_feed", "_law_items"] (spPick K) := by
  obtain ⟨fD, fdD, gD, kD, bD, GD⟩ := D.ex
  refine F.ok scPick (fun vs H Q E h => ?_) (fun cdv A outer s H vs Q E hr h => ?_)
  · obtain ⟨a, l, xs, rfl, _⟩ := h
    rfl
  · obtain ⟨a, l, xs, rfl, hF, hL, ne, h0, h1, q⟩ := h
    refine ⟨_, PSs.nox (pss_one (ps_ret (pe_ix ix_list (pv 1) (pe_call GD hr (by rfl) gD kD bD .nil pass0 (pa_cons (pv 0) (pa_cons (pe_callB call_len_seq (by rfl) ml PySem.boot_len (pa_cons (pv 1) pa_nil)) pa_nil))) (fun _ _ => rfl)))), ?_⟩
    refine ⟨.ref l, rfl, .ref a, rfl, .ref l, rfl, l, xs, rfl, .inl hL, ?_⟩
    refine ⟨a, (xs.length : Int), rfl, hF, by omega, by omega, fun r H' r0 r1 kp fd' => ?_⟩
    obtain ⟨j, rfl⟩ : ∃ j : Nat, r = (j : Int) := ⟨r.toNat, by omega⟩
    have hj : j < xs.length := by omega
    have hv : xs[j]? = some xs[j] := List.getElem?_eq_getElem hj
    have hL' : SqL K H' l xs := by
      rcases hL with (h | ⟨o, h⟩) | h
      · exact .inl (.inl (kp _ _ ne h))
      · exact .inl (.inr ⟨o, kp _ _ ne h⟩)
      · exact .inr h
    exact ⟨l, xs, _, _, rfl, rfl, hL', atI_nat hv, q j _ H' hv kp fd'⟩
theorem scCalls : FnScope [] [] (defScope lCalls) := ⟨rfl, rfl, rfl, by decide +kernel, rfl, by decide +kernel, by decide +kernel⟩
theorem okCalls {k : Nat} (F : FnP K "_law_calls" lCalls f fd) : FnOk P w K mg base CX0 (k + 1) f fd [] spCalls := by
  refine F.ok scCalls (fun vs H Q E h => ?_) (fun cdv A outer s H vs Q E hr h => ?_)
  · obtain ⟨rfl, _⟩ := h
    rfl
  · obtain ⟨rfl, q⟩ := h
    refine ⟨_, PSs.nox (pss_one (ps_ret (pe_lst (pa_cons pe_str (pa_cons pe_str (pa_cons pe_str (pa_cons pe_str (pa_cons pe_str pa_nil)))))))), ?_⟩
    exact ⟨(by show 5 ≤ sizeLine; decide), fun p hp => q p hp⟩
/-- z * n, z one sign -/
def rRepX : R2 := fun x y H Q => ∃ (z : Str) (n : Int), x = .str z ∧ y = .int n ∧ z.length = 1 ∧ 0 ≤ n ∧ n ≤ 1000 ∧ Q (.str (Txt.mul z n)) H
theorem opRepX {X : Cx} : OpR X (binaryOp .Mult) rRepX := by
  intro pins s σ H x y v u Q I rx ry h
  obtain ⟨z, n, rfl, rfl, hz, h0, h1, q⟩ := h
  obtain ⟨t, rfl⟩ := rx
  obtain ⟨t', rfl⟩ := ry
  refine SB.mul ⟨?_, fun g _ => ?_, fun _ _ => ?_⟩ fun t2 k => ⟨.str (Txt.mul z n), H, I.tok k, ⟨t2, rfl⟩, q⟩
  · simp
    omega
  · rw [hz]
    have hn : 0 < n := by omega
    have hle : (1 : Int) ≤ (2 ^ 63 - 1) / n := by
      rw [Int.le_ediv_iff_mul_le hn]
      omega
    show ¬ ((1 : Nat) : Int) > (2 ^ 63 - 1) / n
    omega
  · rw [hz]
    unfold Builtin.Str.tooLong
    rw [decide_eq_false_iff_not, sizeLine_eq]
    omega
theorem scTxt : FnScope ["_law_feed", "_law_form", "_law_many"] ["_law_feed"] (defScope lText) := ⟨rfl, rfl, rfl, by decide +kernel, rfl, by decide +kernel, by decide +kernel⟩
theorem okTxt {k : Nat} (F : FnP K "_law_some_text" lText f fd) (D : Has P w K mg base (k + 1) "_law_draw" ["_law_feed", "_law_many"] spDraw) (Pk : Has P w K mg base (k + 2) "_law_pick" ["_law_feed", "_law_items"] (spPick K))
    (Ca : Has P w K mg base (k + 1) "_law_calls" [] spCalls) : FnOk P w K mg base CX0 (k + 3) f fd ["_law_feed"] spText := by
  obtain ⟨fD, fdD, gD, kD, bD, GD⟩ := D.ex
  obtain ⟨fP, fdP, gP, kP, bP, GP⟩ := Pk.ex
  obtain ⟨fC, fdC, gC, kC, bC, GC⟩ := Ca.ex
  refine F.ok scTxt (fun vs H Q E h => ?_) (fun cdv A outer s H vs Q E hr h => ?_)
  · obtain ⟨a, rfl, _⟩ := h
    rfl
  · obtain ⟨a, rfl, hF, q⟩ := h
    have hr1 : Room (k + 1) _ := hr.mono (by omega)
    refine ⟨_, PSs.nox (pss_cons (ps_set (i := 1) scTxt.nd rfl (.inl rfl) (pe_call GD hr1 (by rfl) gD kD bD .nil pass0 (pa_cons (pv 0) (pa_cons (pe_int) pa_nil)))) (pss_cons (ps_if (pt_cmpR op_eq (pv 1) pe_int (nomark _)) (pss_one (ps_ret (pe_call GP hr (by rfl) gP kP bP .nil pass0 (pa_cons (pv 0) (pa_cons (pe_call0 GC hr1 (by rfl) gC kC bC .nil pass0) pa_nil))))) pss_nil) (pss_cons (ps_if (pt_cmpR op_eq (pv 1) pe_int (nomark _))
        (pss_cons (ps_set (i := 2) scTxt.nd rfl (.inl rfl) (pe_ix ix_list (pe_lst (pa_cons (pe_op op_add pe_int (pe_call GD hr1 (by rfl) gD kD bD .nil pass0 (pa_cons (pv 0) (pa_cons (pe_int) pa_nil)))) (pa_cons (pe_int) pa_nil)))
          (pe_op op_fdiv (pe_call GD hr1 (by rfl) gD kD bD .nil pass0 (pa_cons (pv 0) (pa_cons (pe_int) pa_nil))) pe_int) (fun _ _ => rfl))) (pss_one (ps_ret (pe_call GP hr (by rfl) gP kP bP .nil pass0 (pa_cons (pv 0) (pa_cons (pe_lst (pa_cons (pe_str) (pa_cons (pe_str) (pa_cons (pe_str) (pa_cons (pe_str) (pa_cons (pe_str) (pa_cons (pe_op opRepX pe_str (pv 2)) (pa_cons (pe_str) (pa_cons (pe_str) (pa_cons (pe_str) (pa_cons (pe_str) pa_nil))))))))))) pa_nil)))))) pss_nil) (pss_one (ps_ret (pe_ix ix_list (pe_lst (pa_cons (pe_str) (pa_cons (pe_str) (pa_cons (pe_str) (pa_cons (pe_str) (pa_cons (pe_str) (pa_cons (pe_str) pa_nil))))))) (pv 1) (fun _ _ => rfl))))))), ?_⟩
    have neF : ∀ {H : Hp} {p : Addr}, Fd H a → H p = none → p ≠ a := fun ⟨x, y, e, _⟩ hp z => by
      rw [z, e] at hp
      cases hp
    refine ⟨.ref a, rfl, a, 8, rfl, hF, by decide, by decide, fun r H1 r0 r1 k1 F1 => ?_⟩
    refine ⟨.int r, rfl, rfl, _, rfl, ite2 (fun e => ?_) (fun e7 => ?_)⟩
    · -- the names of calls
      refine ⟨.ref a, rfl, rfl, fun p hp => ?_⟩
      refine ⟨a, p, _, rfl, F1.new hp, .inl (.inl upd_same), neF F1 hp, by decide, by decide, fun i v H2 hv k2 F2 => ?_⟩
      have kk : Kp a H H2 := (k1.trans (Kp.new hp)).trans k2
      match i, hv with
      | 0, hv => cases hv; exact q _ H2 (by decide +kernel) kk F2
      | 1, hv => cases hv; exact q _ H2 (by decide +kernel) kk F2
      | 2, hv => cases hv; exact q _ H2 (by decide +kernel) kk F2
      | 3, hv => cases hv; exact q _ H2 (by decide +kernel) kk F2
      | 4, hv => cases hv; exact q _ H2 (by decide +kernel) kk F2
    refine ⟨.int r, rfl, rfl, _, rfl, ite2 (fun e => ?_) (fun e6 => ?_)⟩
    · -- one of ten
      refine ⟨.ref a, rfl, a, 90, rfl, F1, by decide, by decide, fun r2 H2 r20 r21 k2 F2 => ⟨1, r2, rfl, rfl, ?_⟩⟩
      refine ⟨(by show 2 ≤ sizeLine; decide), fun p hp => ?_⟩
      refine ⟨.ref a, rfl, a, 7, rfl, F2.new hp, by decide, by decide, fun r3 H3 r30 r31 k3 F3 => ⟨r3, 6, rfl, rfl, ⟨by decide, by decide⟩, ?_⟩⟩
      have hp3 : H3 p = some (.lst [.int (1 + r2), .int 400]) := k3 _ _ (neF F2 hp) upd_same
      obtain ⟨m, hm, m0, m1⟩ : ∃ m : Int, atI [V.int (1 + r2), .int 400] (r3 / 6) = some (.int m) ∧ 0 ≤ m ∧ m ≤ 1000 := by
        by_cases hz : r3 < 6
        · have e0 : r3 / 6 = 0 := by omega
          rw [e0]
          exact ⟨1 + r2, rfl, by omega, by omega⟩
        · have e0 : r3 / 6 = 1 := by omega
          rw [e0]
          exact ⟨400, rfl, by decide, by decide⟩
      refine ⟨p, _, _, .int m, rfl, rfl, .inl (.inl hp3), hm, ?_⟩
      refine ⟨.ref a, rfl, .int m, rfl, _, m, rfl, rfl, rfl, m0, m1, (by show 10 ≤ sizeLine; decide), fun p2 hp2 => ?_⟩
      refine ⟨a, p2, _, rfl, F3.new hp2, .inl (.inl upd_same), neF F3 hp2, (by show 0 < 10; decide), (by show 10 < 1000; decide), fun i v H4 hv k4 F4 => ?_⟩
      have kk : Kp a H H4 := ((((k1.trans k2).trans (Kp.new hp)).trans k3).trans (Kp.new hp2)).trans k4
      match i, hv with
      | 0, hv => cases hv; exact q _ H4 (by decide +kernel) kk F4
      | 1, hv => cases hv; exact q _ H4 (by decide +kernel) kk F4
      | 2, hv => cases hv; exact q _ H4 (by decide +kernel) kk F4
      | 3, hv => cases hv; exact q _ H4 (by decide +kernel) kk F4
      | 4, hv => cases hv; exact q _ H4 (by decide +kernel) kk F4
      | 5, hv => cases hv; exact q _ H4 (tokMul (c := 120) (by unfold SOk; decide +kernel) (by decide +kernel) m1) kk F4
      | 6, hv => cases hv; exact q _ H4 (by decide +kernel) kk F4
      | 7, hv => cases hv; exact q _ H4 (by decide +kernel) kk F4
      | 8, hv => cases hv; exact q _ H4 (by decide +kernel) kk F4
      | 9, hv => cases hv; exact q _ H4 (by decide +kernel) kk F4
    · have n7 : r ≠ 7 := fun z => e7 (by rw [z]; rfl)
      have n6 : r ≠ 6 := fun z => e6 (by rw [z]; rfl)
      refine ⟨(by show 6 ≤ sizeLine; decide), fun p hp => ?_⟩
      obtain ⟨z, sz, hz⟩ : ∃ z : Str, TOk z ∧ atI [V.str "0", .str "1", .str "0", .str "1", .str "", .str "10"] r = some (.str z) := by
        have hc : r = 0 ∨ r = 1 ∨ r = 2 ∨ r = 3 ∨ r = 4 ∨ r = 5 := by omega
        rcases hc with h | h | h | h | h | h <;> (rw [h]; first | exact ⟨"0", by decide +kernel, rfl⟩ | exact ⟨"1", by decide +kernel, rfl⟩ | exact ⟨"", by decide +kernel, rfl⟩ | exact ⟨"10", by decide +kernel, rfl⟩)
      exact ⟨.int r, rfl, p, _, _, .str z, rfl, rfl, .inl (.inl upd_same), hz, q z _ sz (k1.trans (Kp.new hp)) (F1.new hp)⟩
end
/-! ### values that are alike -/
inductive Fl : V → String → Prop
  | non : Fl .non "NoneType"
  | bl (b : Bool) : Fl (.bl b) "bool"
  | int (i : Int) : Fl (.int i) "int"
  | str (z : Str) : Fl (.str z) "str"
section
variable {K : PySem.W.Frag} {H : Hp}
theorem Fl.tyX {v : V} {t : String} (h : Fl v t) : TyX K H v (.type t) := by
  cases h
  · exact .base .non
  · exact .base (.bl _)
  · exact .base (.int _)
  · exact .base (.str _)
theorem Fl.noSeq {v : V} {t : String} (h : Fl v t) : PySem.W.kitAny K (.type t) [.type "list", .type "tuple"] = some false := by
  cases h <;> exact kitAny_cons (b := false) (kit_ty (by decide +kernel)) (fun _ => kitAny_cons (b := false) (kit_ty (by decide +kernel)) (fun _ => kitAny_nil) (fun z => z)) (fun z => z)
theorem Fl.kit {v : V} {t : String} (h : Fl v t) (c : String) (hc : c = "bool" ∨ c = "int" ∨ c = "str") : ∃ b, PySem.W.kitOne K (.type t) (.type c) = some b := by
  rcases hc with rfl | rfl | rfl <;> cases h <;> first | exact ⟨true, kit_ty (by decide +kernel)⟩ | exact ⟨false, kit_ty (by decide +kernel)⟩
theorem Fl.scal {v : V} {t : String} (h : Fl v t) : L2.scal v v = true := by
  cases h <;> rfl
theorem kitSeqL : PySem.W.kitAny K (.type "list") [.type "list", .type "tuple"] = some true := kitAny_cons (b := true) (kit_ty (by decide +kernel)) (fun z => by cases z) (fun _ => rfl)
theorem kitSeqT : PySem.W.kitAny K (.type "tuple") [.type "list", .type "tuple"] = some true := kitAny_cons (b := false) (kit_ty (by decide +kernel)) (fun _ => kitAny_cons (b := true) (kit_ty (by decide +kernel)) (fun z => by cases z) (fun _ => rfl)) (fun _ => rfl)
theorem SqL.tyX {a : Addr} {xs : List V} (h : SqL K H a xs) : TyX K H (.ref a) (.type "list") := by
  rcases h with (h | ⟨o, h⟩) | ⟨o, its, n, h, c, _⟩
  · exact .base (.lst h)
  · exact .base (.frz h)
  · exact .kList h c
theorem SqT.tyX {a : Addr} {xs : List V} (h : SqT K H a xs) : TyX K H (.ref a) (.type "tuple") := by
  rcases h with (h | ⟨o, h⟩) | ⟨o, its, n, h, c, _⟩
  · exact .base (.tup h)
  · exact .fTuple h
  · exact .kTuple h c
end
/-- alike down to the depth n -/
inductive Sv (K : PySem.W.Frag) (H : Hp) : Nat → V → V → Prop
  | flat {n : Nat} {v : V} {t : String} (h : Fl v t) : Sv K H n v v
  | lst {n : Nat} {a b : Addr} {xs ys : List V} (ha : SqL K H a xs) (hb : SqL K H b ys) (hl : xs.length = ys.length) (hz : xs.length ≤ 1000) (h : ∀ (i : Nat) v w, xs[i]? = some v → ys[i]? = some w → Sv K H n v w) : Sv K H (n + 1) (.ref a) (.ref b)
  | tup {n : Nat} {a b : Addr} {xs ys : List V} (ha : SqT K H a xs) (hb : SqT K H b ys) (hl : xs.length = ys.length) (hz : xs.length ≤ 1000) (h : ∀ (i : Nat) v w, xs[i]? = some v → ys[i]? = some w → Sv K H n v w) : Sv K H (n + 1) (.ref a) (.ref b)
theorem Sv.same {K : PySem.W.Frag} {H H' : Hp} (e : Same H H') {n : Nat} {v w : V} (h : Sv K H n v w) : Sv K H' n v w := by
  induction h with
  | flat h => exact .flat h
  | lst ha hb hl hz _ ih => exact .lst (e.seq ha) (e.seq hb) hl hz ih
  | tup ha hb hl hz _ ih => exact .tup (sameTup e ha) (sameTup e hb) hl hz ih
def spSame (K : PySem.W.Frag) (n : Nat) : Sp := fun vs H Q _ => ∃ v w : V, vs = [v, w] ∧ Sv K H n v w ∧ ∀ H', Same H H' → Q (.bl true) H'
section
variable {P : Program} {w : World} {K : PySem.W.Frag} {mg : Str → Option Value} {base : Heap} {f : Addr} {fd : FuncData}
theorem scSame : FnScope ["_law_found", "_law_due", "_law_a", "_law_b"] ["_law_found", "_law_due"] (defScope lSame) := ⟨rfl, rfl, rfl, by decide +kernel, rfl, by decide +kernel, by decide +kernel⟩
theorem okSame (F : FnP K "_law_same" lSame f fd) (gS : mg "_law_same" = some (.ref f)) (B : Bn mg) : ∀ (n k : Nat), FnOk P w K mg base CX0 (k + n + 1) f fd ["_law_found", "_law_due"] (spSame K n) := by
  have bS : Binds K fd ["_law_found", "_law_due"] [] := F.bindsN fun _ _ _ _ _ _ us hl => match us, hl with | [_, _], _ => rfl
  intro n
  induction n with
  | zero =>
    intro k
    refine F.ok scSame (fun vs H Q E h => ?_) (fun cdv A outer s H vs Q E hr h => ?_)
    · obtain ⟨v, w, rfl, _⟩ := h
      rfl
    · obtain ⟨v, w', rfl, hv, q⟩ := h
      obtain ⟨t, hf, rfl⟩ : ∃ t, Fl v t ∧ v = w' := by
        cases hv with
        | flat h => exact ⟨_, h, rfl⟩
      refine ⟨_, PSs.nox (pss_cons (ps_if (pt_val (pe_callB call_isiT (by rfl) B.isi (by decide +kernel) (pa_cons (pv 1) (pa_cons (pe_tup (pa_cons (pe_bltn (v := .ty "list") (by rfl) B.list (by decide +kernel) rfl) (pa_cons (pe_bltn (v := .ty "tuple") (by rfl) B.tuple (by decide +kernel) rfl) pa_nil))) pa_nil))))
        (pss_cons (ps_never) (pss_one (ps_never))) pss_nil) (pss_cons (ps_if (PW.pt (pw_or (pt_cmpR op_ne (pe_callB call_isi (by rfl) B.isi (by decide +kernel) (pa_cons (pv 0) (pa_cons (pe_bltn (v := .ty "bool") (by rfl) B.bool (by decide +kernel) rfl) pa_nil))) (pe_callB call_isi (by rfl) B.isi (by decide +kernel) (pa_cons (pv 1) (pa_cons (pe_bltn (v := .ty "bool") (by rfl) B.bool (by decide +kernel) rfl) pa_nil))) (nomark _))
            (pw_or1 (pt_cmpR op_ne (pe_callB call_isi (by rfl) B.isi (by decide +kernel) (pa_cons (pv 0) (pa_cons (pe_bltn (v := .ty "int") (by rfl) B.int (by decide +kernel) rfl) pa_nil))) (pe_callB call_isi (by rfl) B.isi (by decide +kernel) (pa_cons (pv 1) (pa_cons (pe_bltn (v := .ty "int") (by rfl) B.int (by decide +kernel) rfl) pa_nil))) (nomark _)))))
          (pss_one (ps_ret pe_bl)) pss_nil) (pss_one (ps_ret (pe_and (pe_cmpR op_eq (pe_callB call_isi (by rfl) B.isi (by decide +kernel) (pa_cons (pv 0) (pa_cons (pe_bltn (v := .ty "str") (by rfl) B.str (by decide +kernel) rfl) pa_nil))) (pe_callB call_isi (by rfl) B.isi (by decide +kernel) (pa_cons (pv 1) (pa_cons (pe_bltn (v := .ty "str") (by rfl) B.str (by decide +kernel) rfl) pa_nil))) (nomark _))
          (pe_one (pe_cmpR op_eq (pv 0) (pv 1) (nomark _)))))))), ?_⟩
      obtain ⟨b1, e1⟩ := hf.kit (K := K) "bool" (.inl rfl)
      obtain ⟨b2, e2⟩ := hf.kit (K := K) "int" (.inr (.inl rfl))
      obtain ⟨b3, e3⟩ := hf.kit (K := K) "str" (.inr (.inr rfl))
      refine ⟨v, rfl, (by show 2 ≤ sizeLine; decide), fun p hp => ⟨v, p, [.ty "list", .ty "tuple"], .type t, [.type "list", .type "tuple"], false, rfl, upd_same, .cons (.ty _) (.cons (.ty _) .nil), hf.tyX, hf.noSeq, false, rfl, iteF ?_⟩⟩
      refine ⟨v, rfl, v, .ty "bool", .type t, .type "bool", b1, rfl, .ty _, hf.tyX, e1, v, rfl, v, .ty "bool", .type t, .type "bool", b1, rfl, .ty _, hf.tyX, e1, rfl, _, rfl, iteNS rfl ?_⟩
      refine ⟨v, rfl, v, .ty "int", .type t, .type "int", b2, rfl, .ty _, hf.tyX, e2, v, rfl, v, .ty "int", .type t, .type "int", b2, rfl, .ty _, hf.tyX, e2, rfl, _, rfl, iteNS rfl ?_⟩
      refine ⟨v, rfl, v, .ty "str", .type t, .type "str", b3, rfl, .ty _, hf.tyX, e3, v, rfl, v, .ty "str", .type t, .type "str", b3, rfl, .ty _, hf.tyX, e3, rfl, _, rfl, ?_⟩
      rw [if_pos (decide_eq_true rfl)]
      refine ⟨v, rfl, v, rfl, hf.scal, ?_⟩
      rw [decide_eq_true (rfl : v = v)]
      exact q _ (sameUpd hp)
  | succ n ih =>
    intro k
    have G := ih k
    refine F.ok scSame (fun vs H Q E h => ?_) (fun cdv A outer s H vs Q E hr h => ?_)
    · obtain ⟨v, w, rfl, _⟩ := h
      rfl
    · have hr1 : Room (k + n + 1) _ := hr.mono (by omega)
      refine ⟨_, PSs.nox (pss_cons (ps_if (pt_val (pe_callB call_isiT (by rfl) B.isi (by decide +kernel) (pa_cons (pv 1) (pa_cons (pe_tup (pa_cons (pe_bltn (v := .ty "list") (by rfl) B.list (by decide +kernel) rfl) (pa_cons (pe_bltn (v := .ty "tuple") (by rfl) B.tuple (by decide +kernel) rfl) pa_nil))) pa_nil))))
        (pss_cons (ps_if (PW.pt (pw_or (pt_cmpR op_ne (pe_callB call_isi (by rfl) B.isi (by decide +kernel) (pa_cons (pv 0) (pa_cons (pe_bltn (v := .ty "list") (by rfl) B.list (by decide +kernel) rfl) pa_nil))) (pe_callB call_isi (by rfl) B.isi (by decide +kernel) (pa_cons (pv 1) (pa_cons (pe_bltn (v := .ty "list") (by rfl) B.list (by decide +kernel) rfl) pa_nil))) (nomark _))
            (pw_or1 (pt_not (pt_val (pe_callB call_isiT (by rfl) B.isi (by decide +kernel) (pa_cons (pv 0) (pa_cons (pe_tup (pa_cons (pe_bltn (v := .ty "list") (by rfl) B.list (by decide +kernel) rfl) (pa_cons (pe_bltn (v := .ty "tuple") (by rfl) B.tuple (by decide +kernel) rfl) pa_nil))) pa_nil))))))))
            (pss_one (ps_ret pe_bl)) pss_nil) (pss_one (ps_ret (pe_and (pe_cmpR op_eq (pe_callB call_len_seq (by rfl) B.len PySem.boot_len (pa_cons (pv 0) pa_nil)) (pe_callB call_len_seq (by rfl) B.len PySem.boot_len (pa_cons (pv 1) pa_nil)) (nomark _))
            (pe_one (pe_callB (cr_all rfl) (by rfl) B.all (by decide +kernel) (pa_cons (pe_lc (own := [("_law_a", 2), ("_law_b", 3)]) (g := gTup K 2 (gCons (gName 2) (gCons (gName 3) gNil))) rfl scSame.nd (RZ.pi_zipA (by rfl) B.zip (pa_cons (pv 0) (pa_cons (pv 1) pa_nil))) (blkOk_by (N := ["_law_found", "_law_due", "_law_a", "_law_b"]) (sc := defScope lSame) (by decide +kernel))
              (fun _ _ _ _ _ => pg_tup rfl (pgs_cons (pg_name (i := 2) scSame.nd rfl (.inl rfl) (hf := .inr rfl)) (pgs_cons (pg_name (i := 3) scSame.nd rfl (.inl rfl) (hf := .inr rfl)) pgs_nil))) (fun _ _ _ _ _ => pts_nil)
              (fun _ _ _ _ _ => pe_call G hr1 (by rfl) gS F.kp bS .nil pass0 (pa_cons (pv 2) (pa_cons (pv 3) pa_nil)))) pa_nil))))))) pss_nil) (pss_cons (ps_if (PW.pt (pw_or (pt_cmpR op_ne (pe_callB call_isi (by rfl) B.isi (by decide +kernel) (pa_cons (pv 0) (pa_cons (pe_bltn (v := .ty "bool") (by rfl) B.bool (by decide +kernel) rfl) pa_nil))) (pe_callB call_isi (by rfl) B.isi (by decide +kernel) (pa_cons (pv 1) (pa_cons (pe_bltn (v := .ty "bool") (by rfl) B.bool (by decide +kernel) rfl) pa_nil))) (nomark _))
            (pw_or1 (pt_cmpR op_ne (pe_callB call_isi (by rfl) B.isi (by decide +kernel) (pa_cons (pv 0) (pa_cons (pe_bltn (v := .ty "int") (by rfl) B.int (by decide +kernel) rfl) pa_nil))) (pe_callB call_isi (by rfl) B.isi (by decide +kernel) (pa_cons (pv 1) (pa_cons (pe_bltn (v := .ty "int") (by rfl) B.int (by decide +kernel) rfl) pa_nil))) (nomark _)))))
          (pss_one (ps_ret pe_bl)) pss_nil) (pss_one (ps_ret (pe_and (pe_cmpR op_eq (pe_callB call_isi (by rfl) B.isi (by decide +kernel) (pa_cons (pv 0) (pa_cons (pe_bltn (v := .ty "str") (by rfl) B.str (by decide +kernel) rfl) pa_nil))) (pe_callB call_isi (by rfl) B.isi (by decide +kernel) (pa_cons (pv 1) (pa_cons (pe_bltn (v := .ty "str") (by rfl) B.str (by decide +kernel) rfl) pa_nil))) (nomark _))
          (pe_one (pe_cmpR op_eq (pv 0) (pv 1) (nomark _)))))))), ?_⟩
      obtain ⟨v, w, rfl, hv, q⟩ := h
      cases hv with
      | @flat _ _ t hf =>
        obtain ⟨b1, e1⟩ := hf.kit (K := K) "bool" (.inl rfl)
        obtain ⟨b2, e2⟩ := hf.kit (K := K) "int" (.inr (.inl rfl))
        obtain ⟨b3, e3⟩ := hf.kit (K := K) "str" (.inr (.inr rfl))
        refine ⟨v, rfl, (by show 2 ≤ sizeLine; decide), fun p hp => ⟨v, p, [.ty "list", .ty "tuple"], .type t, [.type "list", .type "tuple"], false, rfl, upd_same, .cons (.ty _) (.cons (.ty _) .nil), hf.tyX, hf.noSeq, false, rfl, iteF ?_⟩⟩
        refine ⟨v, rfl, v, .ty "bool", .type t, .type "bool", b1, rfl, .ty _, hf.tyX, e1, v, rfl, v, .ty "bool", .type t, .type "bool", b1, rfl, .ty _, hf.tyX, e1, rfl, _, rfl, iteNS rfl ?_⟩
        refine ⟨v, rfl, v, .ty "int", .type t, .type "int", b2, rfl, .ty _, hf.tyX, e2, v, rfl, v, .ty "int", .type t, .type "int", b2, rfl, .ty _, hf.tyX, e2, rfl, _, rfl, iteNS rfl ?_⟩
        refine ⟨v, rfl, v, .ty "str", .type t, .type "str", b3, rfl, .ty _, hf.tyX, e3, v, rfl, v, .ty "str", .type t, .type "str", b3, rfl, .ty _, hf.tyX, e3, rfl, _, rfl, ?_⟩
        rw [if_pos (decide_eq_true rfl)]
        refine ⟨v, rfl, v, rfl, hf.scal, ?_⟩
        rw [decide_eq_true (rfl : v = v)]
        exact q _ (sameUpd hp)
      | @lst _ a b xs ys ha hb hl hz hh =>
        refine ⟨.ref b, rfl, (by show 2 ≤ sizeLine; decide), fun p hp => ?_⟩
        have s1 : Same H (upd H p (.tup [.ty "list", .ty "tuple"])) := sameUpd hp
        have ha1 := (s1).seq ha
        have hb1 := (s1).seq hb
        refine ⟨.ref b, p, [.ty "list", .ty "tuple"], .type "list", [.type "list", .type "tuple"], true, rfl, upd_same, .cons (.ty _) (.cons (.ty _) .nil), SqL.tyX hb1, kitSeqL, true, rfl, iteT ?_⟩
        refine ⟨.ref a, rfl, .ref a, .ty "list", .type "list", .type "list", true, rfl, .ty _, SqL.tyX ha1, kit_ty (by decide +kernel), .ref b, rfl, .ref b, .ty "list", .type "list", .type "list", true, rfl, .ty _, SqL.tyX hb1, kit_ty (by decide +kernel), rfl, _, rfl, iteNS rfl ?_⟩
        refine ⟨.ref a, rfl, (by show 2 ≤ sizeLine; decide), fun p2 hp2 => ?_⟩
        have s2 : Same _ (upd (upd H p (.tup [.ty "list", .ty "tuple"])) p2 (.tup [.ty "list", .ty "tuple"])) := s1.trans (sameUpd hp2)
        have ha2 := (s2).seq ha
        have hb2 := (s2).seq hb
        refine ⟨.ref a, p2, [.ty "list", .ty "tuple"], .type "list", [.type "list", .type "tuple"], true, rfl, upd_same, .cons (.ty _) (.cons (.ty _) .nil), SqL.tyX ha2, kitSeqL, true, rfl, iteF ?_⟩
        refine ⟨.ref a, rfl, a, xs, rfl, .inl ha2, .ref b, rfl, b, ys, rfl, .inl hb2, rfl, _, rfl, ?_⟩
        rw [if_pos (decide_eq_true (by rw [hl]))]
        refine ⟨.ref a, rfl, .ref b, rfl, a, b, xs, ys, rfl, .inl ⟨ha2, hb2, fun D hD => ?_⟩⟩
        generalize upd (upd H p (.tup [.ty "list", .ty "tuple"])) p2 (.tup [.ty "list", .ty "tuple"]) = H2 at *
        refine lcJ (n := xs.length) (fun i H3 => Same H2 H3 ∧ H3 D = some (.lst ((List.replicate i true).map V.bl)) ∧ i ≤ xs.length) ⟨sameUpd hD, upd_same, Nat.zero_le _⟩ (fun i H3 lt h3 => ?_) (fun H3 h3 => ?_) (fun i H3 x H4 lt h3 y => ?_) (fun H3 h3 => ?_)
        · exact ⟨xs, ys, xs[i], ys[i], (h3.1).seq ha2, (h3.1).seq hb2, List.getElem?_eq_getElem lt, List.getElem?_eq_getElem (by omega)⟩
        · exact ⟨xs, ys, (h3.1).seq ha2, (h3.1).seq hb2, .inl (Nat.le_refl _)⟩
        · obtain ⟨s3, eD, _⟩ := h3
          obtain ⟨T, x1, y1, rfl, nT, rfl, fx, fy⟩ := y
          have e1 := fx _ ((s3).seq ha2)
          have e2 := fy _ ((s3).seq hb2)
          refine ⟨T, [x1, y1], rfl, .inl (.inl upd_same), rfl, x1, [y1], rfl, y1, [], rfl, rfl, rfl, ?_⟩
          refine ⟨x1, rfl, y1, rfl, x1, y1, rfl, (hh i _ _ e1 e2).same (s2.trans (s3.trans (sameUpd nT))), fun H5 s5 => ?_⟩
          have s4 : Same H2 H5 := s3.trans ((sameUpd nT).trans s5)
          have eD5 : H5 D = some (.lst ((List.replicate i true).map V.bl)) := s5 _ _ (sameUpd nT _ _ eD)
          refine ⟨_, eD5, ?_, fun b o hb => ?_, ?_, lt⟩
          · rw [List.length_map, List.length_replicate]
            exact small1000 (by omega)
          · rw [upd_ne (ne_of_none hb hD)]
            exact s4 _ _ hb
          · rw [upd_same, List.replicate_succ', List.map_append]
            rfl
        · obtain ⟨s3, eD, _⟩ := h3
          refine ⟨D, List.replicate xs.length true, rfl, .inl (.inl eD), ?_⟩
          rw [show (List.replicate xs.length true).all id = true by simp]
          exact q _ (s2.trans s3)
      | @tup _ a b xs ys ha hb hl hz hh =>
        refine ⟨.ref b, rfl, (by show 2 ≤ sizeLine; decide), fun p hp => ?_⟩
        have s1 : Same H (upd H p (.tup [.ty "list", .ty "tuple"])) := sameUpd hp
        have ha1 := sameTup (s1) ha
        have hb1 := sameTup (s1) hb
        refine ⟨.ref b, p, [.ty "list", .ty "tuple"], .type "tuple", [.type "list", .type "tuple"], true, rfl, upd_same, .cons (.ty _) (.cons (.ty _) .nil), SqT.tyX hb1, kitSeqT, true, rfl, iteT ?_⟩
        refine ⟨.ref a, rfl, .ref a, .ty "list", .type "tuple", .type "list", false, rfl, .ty _, SqT.tyX ha1, kit_ty (by decide +kernel), .ref b, rfl, .ref b, .ty "list", .type "tuple", .type "list", false, rfl, .ty _, SqT.tyX hb1, kit_ty (by decide +kernel), rfl, _, rfl, iteNS rfl ?_⟩
        refine ⟨.ref a, rfl, (by show 2 ≤ sizeLine; decide), fun p2 hp2 => ?_⟩
        have s2 : Same _ (upd (upd H p (.tup [.ty "list", .ty "tuple"])) p2 (.tup [.ty "list", .ty "tuple"])) := s1.trans (sameUpd hp2)
        have ha2 := sameTup (s2) ha
        have hb2 := sameTup (s2) hb
        refine ⟨.ref a, p2, [.ty "list", .ty "tuple"], .type "tuple", [.type "list", .type "tuple"], true, rfl, upd_same, .cons (.ty _) (.cons (.ty _) .nil), SqT.tyX ha2, kitSeqT, true, rfl, iteF ?_⟩
        refine ⟨.ref a, rfl, a, xs, rfl, .inr ha2, .ref b, rfl, b, ys, rfl, .inr hb2, rfl, _, rfl, ?_⟩
        rw [if_pos (decide_eq_true (by rw [hl]))]
        refine ⟨.ref a, rfl, .ref b, rfl, a, b, xs, ys, rfl, .inr ⟨ha2, hb2, fun D hD => ?_⟩⟩
        generalize upd (upd H p (.tup [.ty "list", .ty "tuple"])) p2 (.tup [.ty "list", .ty "tuple"]) = H2 at *
        refine lcJ (n := xs.length) (fun i H3 => Same H2 H3 ∧ H3 D = some (.lst ((List.replicate i true).map V.bl)) ∧ i ≤ xs.length) ⟨sameUpd hD, upd_same, Nat.zero_le _⟩ (fun i H3 lt h3 => ?_) (fun H3 h3 => ?_) (fun i H3 x H4 lt h3 y => ?_) (fun H3 h3 => ?_)
        · exact ⟨xs, ys, xs[i], ys[i], sameTup (h3.1) ha2, sameTup (h3.1) hb2, List.getElem?_eq_getElem lt, List.getElem?_eq_getElem (by omega)⟩
        · exact ⟨xs, ys, sameTup (h3.1) ha2, sameTup (h3.1) hb2, .inl (Nat.le_refl _)⟩
        · obtain ⟨s3, eD, _⟩ := h3
          obtain ⟨T, x1, y1, rfl, nT, rfl, fx, fy⟩ := y
          have e1 := fx _ (sameTup (s3) ha2)
          have e2 := fy _ (sameTup (s3) hb2)
          refine ⟨T, [x1, y1], rfl, .inl (.inl upd_same), rfl, x1, [y1], rfl, y1, [], rfl, rfl, rfl, ?_⟩
          refine ⟨x1, rfl, y1, rfl, x1, y1, rfl, (hh i _ _ e1 e2).same (s2.trans (s3.trans (sameUpd nT))), fun H5 s5 => ?_⟩
          have s4 : Same H2 H5 := s3.trans ((sameUpd nT).trans s5)
          have eD5 : H5 D = some (.lst ((List.replicate i true).map V.bl)) := s5 _ _ (sameUpd nT _ _ eD)
          refine ⟨_, eD5, ?_, fun b o hb => ?_, ?_, lt⟩
          · rw [List.length_map, List.length_replicate]
            exact small1000 (by omega)
          · rw [upd_ne (ne_of_none hb hD)]
            exact s4 _ _ hb
          · rw [upd_same, List.replicate_succ', List.map_append]
            rfl
        · obtain ⟨s3, eD, _⟩ := h3
          refine ⟨D, List.replicate xs.length true, rfl, .inl (.inl eD), ?_⟩
          rw [show (List.replicate xs.length true).all id = true by simp]
          exact q _ (s2.trans s3)
end
end KS.La

set_option Elab.async false
set_option linter.all false
set_option maxRecDepth 100000
set_option maxHeartbeats 4000000
namespace KS.La
open PySem PySem.Spec PyProof.Rows L2
/-- all but lists stand -/
def KT (H H' : Hp) : Prop := ∀ a o, H a = some o → (∀ xs, o ≠ .lst xs) → H' a = some o
theorem KT.refl (H : Hp) : KT H H := fun _ _ e _ => e
theorem KT.trans {H H1 H2 : Hp} (a : KT H H1) (b : KT H1 H2) : KT H H2 := fun c o e n => b c o (a c o e n) n
theorem KT.same {H H' : Hp} (s : Same H H') : KT H H' := fun a o e _ => s a o e
theorem KT.kp {f : Addr} {H H' : Hp} (hf : Fd H f) (k : Kp f H H') : KT H H' := fun a o e n => by
  refine k a o (fun z => ?_) e
  obtain ⟨x, y, h, _⟩ := hf
  rw [z, h] at e
  exact n _ (Option.some.inj e).symm
theorem KT.put {H : Hp} {D : Addr} {xs ys : List V} (h : H D = some (.lst xs)) : KT H (upd H D (.lst ys)) := fun a o e n => by
  rw [upd_ne fun z => ?_]
  · exact e
  · rw [z, h] at e
    exact n _ (Option.some.inj e).symm
theorem KT.tup {K : PySem.W.Frag} {H H' : Hp} (k : KT H H') {a : Addr} {xs : List V} (h : SqT K H a xs) : SqT K H' a xs := by
  rcases h with (h | ⟨o, h⟩) | h
  · exact .inl (.inl (k _ _ h fun xs z => nomatch z))
  · exact .inl (.inr ⟨o, k _ _ h fun xs z => nomatch z⟩)
  · exact .inr h
/-- data to the depth n, tuples of at most w items -/
inductive Ow (w : Nat) : Nat → PyData → Prop
  | non (n : Nat) : Ow w n .none
  | bl (n : Nat) (b : Bool) : Ow w n (.bool b)
  | int (n : Nat) (i : Int) : Ow w n (.int i)
  | str (n : Nat) {z : Str} (h : TOk z) : Ow w n (.str z)
  | tup {n : Nat} {ds : List PyData} (h : ds.length ≤ w) (h2 : ∀ d ∈ ds, Ow w n d) : Ow w (n + 1) (.tuple ds)
theorem Ow.od {w n : Nat} {d : PyData} (hw : w ≤ 100) (h : Ow w n d) : Od n d := by
  induction h with
  | non n => exact .non _
  | bl n b => exact .bl _ b
  | int n i => exact .int _ i
  | str n h => exact .str _ h.1 (by have := h.2; omega)
  | tup h h2 ih => exact .tup (by omega) ih
theorem Ow.up {w n : Nat} {d : PyData} (h : Ow w n d) : ∀ {w' m : Nat}, w ≤ w' → n ≤ m → Ow w' m d := by
  induction h with
  | non n => exact fun _ _ => .non _
  | bl n b => exact fun _ _ => .bl _ b
  | int n i => exact fun _ _ => .int _ i
  | str n h => exact fun _ _ => .str _ h
  | @tup n ds h h2 ih =>
    intro w' m hw hm
    obtain ⟨k, rfl⟩ : ∃ k, m = k + 1 := ⟨m - 1, by omega⟩
    exact .tup (by omega) fun d hd => ih d hd hw (by omega)
theorem allKT {K : PySem.W.Frag} {H H' : Hp} : ∀ {ds : List PyData} {xs : List V}, (∀ d ∈ ds, ∀ v, Dp K H v d → Dp K H' v d) → DpAll K H xs ds → DpAll K H' xs ds
  | _, _, _, .nil => .nil
  | _, _, k, .cons h r => .cons (k _ List.mem_cons_self _ h) (allKT (fun d hd => k d (List.mem_cons_of_mem _ hd)) r)
theorem dpKT {K : PySem.W.Frag} {H H' : Hp} (k : KT H H') {w n : Nat} {d : PyData} (o : Ow w n d) : ∀ v, Dp K H v d → Dp K H' v d := by
  induction o with
  | non n => exact fun v h => by cases h; exact .non
  | bl n b => exact fun v h => by cases h; exact .bl _
  | int n i => exact fun v h => by cases h; exact .int _
  | str n h => exact fun v h => by cases h; exact .str _
  | tup h h2 ih =>
    intro v hv
    cases hv with
    | tup hx hd => exact .tup (k.tup hx) (allKT ih hd)
/-- v is such data -/
def Vw (K : PySem.W.Frag) (w n : Nat) (H : Hp) (v : V) : Prop := ∃ d, Dp K H v d ∧ Ow w n d
theorem Vw.kt {K : PySem.W.Frag} {w n : Nat} {H H' : Hp} {v : V} (k : KT H H') (h : Vw K w n H v) : Vw K w n H' v := let ⟨d, a, b⟩ := h; ⟨d, dpKT k b _ a, b⟩
theorem Vw.up {K : PySem.W.Frag} {w n w' n' : Nat} {H : Hp} {v : V} (h : Vw K w n H v) (a : w ≤ w') (b : n ≤ n') : Vw K w' n' H v := let ⟨d, x, y⟩ := h; ⟨d, x, y.up a b⟩
theorem vwAll {K : PySem.W.Frag} {w n : Nat} {H : Hp} : ∀ {xs : List V}, (∀ v ∈ xs, Vw K w n H v) → ∃ ds, DpAll K H xs ds ∧ ∀ d ∈ ds, Ow w n d
  | [], _ => ⟨[], .nil, fun d hd => absurd hd (by simp)⟩
  | x :: xs, h => by
    obtain ⟨d, a, b⟩ := h x List.mem_cons_self
    obtain ⟨ds, c, e⟩ := vwAll fun v hv => h v (List.mem_cons_of_mem _ hv)
    refine ⟨d :: ds, .cons a c, fun y hy => ?_⟩
    rcases List.mem_cons.mp hy with z | z
    · rw [z]; exact b
    · exact e y z
theorem Vw.tup {K : PySem.W.Frag} {w n : Nat} {H : Hp} {a : Addr} {xs : List V} (ha : SqT K H a xs) (hl : xs.length ≤ w) (h : ∀ v ∈ xs, Vw K w n H v) : Vw K w (n + 1) H (.ref a) := by
  obtain ⟨ds, c, e⟩ := vwAll h
  exact ⟨.tuple ds, .tup ha c, .tup (by have := dpLen c; omega) e⟩
theorem Vw.str {K : PySem.W.Frag} {w n : Nat} {H : Hp} {z : Str} (h : TOk z) : Vw K w n H (.str z) := ⟨.str z, .str z, .str _ h⟩
theorem Vw.int {K : PySem.W.Frag} {w n : Nat} {H : Hp} {i : Int} : Vw K w n H (.int i) := ⟨.int i, .int i, .int _ i⟩
theorem Vw.non {K : PySem.W.Frag} {w n : Nat} {H : Hp} : Vw K w n H .non := ⟨.none, .non, .non _⟩
theorem Vw.bl {K : PySem.W.Frag} {w n : Nat} {H : Hp} {b : Bool} : Vw K w n H (.bl b) := ⟨.bool b, .bl b, .bl _ b⟩
theorem forJ {J : It} {n : Nat} {g : TG} {tb : TS} {D : Ends} {σ : L2.St} {H : Hp} (Pv : Nat → L2.St → Hp → Prop) (h0 : Pv 0 σ H) (hgo : ∀ i σ H, i < n → Pv i σ H → J.go i H) (hst : ∀ σ H, Pv n σ H → J.stop n H)
    (hs : ∀ i σ H x H', i < n → Pv i σ H → J.yld i H x H' → g x σ H' fun σ2 H2 => tb { D with nx := Pv (i + 1), ct := Pv (i + 1), bk := D.nx } σ2 H2) (hd : ∀ σ H, Pv n σ H → D.nx σ H) :
    ∃ W : Nat → Nat → L2.St → Hp → Prop, (∃ m, W 0 m σ H) ∧ ∀ i m σ H, W i m σ H →
      (J.stop i H ∧ D.nx σ H) ∨ (J.go i H ∧ ∃ N : L2.St → Hp → Prop, (∀ σ' H', N σ' H' → ∃ m', m' < m ∧ W (i + 1) m' σ' H') ∧ ∀ x H', J.yld i H x H' → g x σ H' fun σ2 H2 => tb { D with nx := N, ct := N, bk := D.nx } σ2 H2) := by
  refine ⟨fun i m σ H => m = n - i ∧ i ≤ n ∧ Pv i σ H, ⟨n, by simp, Nat.zero_le _, h0⟩, fun i m σ H hW => ?_⟩
  obtain ⟨rfl, hi, p⟩ := hW
  by_cases lt : i < n
  · exact .inr ⟨hgo i σ H lt p, Pv (i + 1), fun σ' H' p' => ⟨n - (i + 1), by omega, rfl, lt, p'⟩, fun x H' y => hs i σ H x H' lt p y⟩
  · have e : i = n := by omega
    subst e
    exact .inl ⟨hst σ H p, hd σ H p⟩
def spAns : Sp := fun vs H Q _ => ∃ f : Addr, vs = [.ref f] ∧ Fd H f ∧ ∀ (v : V) H', (v = .non ∨ ∃ z, v = .str z ∧ TOk z) → Kp f H H' → Fd H' f → Q v H'
def spPickS : Sp := fun vs H Q _ => ∃ (f : Addr) (z : Str), vs = [.ref f, .str z] ∧ Fd H f ∧ 0 < z.length ∧ z.length < 1000 ∧ ∀ (c : Nat) H', c ∈ z.cps.toList → Kp f H H' → Fd H' f → Q (.str ⟨#[c]⟩) H'
/-- a text as words are -/
def spWord : Sp := fun vs H Q _ => ∃ f : Addr, vs = [.ref f] ∧ Fd H f ∧ ∀ (z : Str) H', TOk z → Kp f H H' → Fd H' f → Q (.str z) H'
theorem sokCut {z : Str} (h : SOk z) (lo hi : Option Int) : SOk (cutS z lo hi) := by
  unfold SOk cutS
  rw [List.all_toArray, List.all_eq_true]
  intro x hx
  have h1 := List.mem_of_mem_drop (List.mem_of_mem_take hx)
  exact Array.all_eq_true'.mp h x (by simpa using h1)
theorem lenCut (z : Str) (lo hi : Option Int) : (cutS z lo hi).length ≤ z.length := by
  show ((z.cps.toList.drop _).take _).toArray.size ≤ z.cps.size
  rw [List.size_toArray, List.length_take, List.length_drop, Array.length_toList]
  omega
theorem sokCat {a b : Str} (h : SOk a) (k : SOk b) : SOk (a ++ b) := by
  show (a.cps ++ b.cps).all _ = true
  rw [Array.all_append, Bool.and_eq_true]
  exact ⟨h, k⟩
theorem lenCat (a b : Str) : (a ++ b).length = a.length + b.length := by
  show (a.cps ++ b.cps).size = _
  rw [Array.size_append]
  rfl
theorem sokMem {z : Str} (h : SOk z) {c : Nat} (hc : c ∈ z.cps.toList) : SOk ⟨#[c]⟩ := by
  have h1 := Array.all_eq_true'.mp h c (by simpa using hc)
  unfold SOk
  simpa using h1
section
variable {P : Program} {w : World} {K : PySem.W.Frag} {mg : Str → Option Value} {base : Heap} {f : Addr} {fd : FuncData}
theorem scAns : FnScope ["_law_feed"] ["_law_feed"] (defScope lAnswer) := ⟨rfl, rfl, rfl, by decide +kernel, rfl, by decide +kernel, by decide +kernel⟩
theorem okAns {k : Nat} (F : FnP K "_law_some_answer" lAnswer f fd) (D : Has P w K mg base (k + 1) "_law_draw" ["_law_feed", "_law_many"] spDraw) (T : Has P w K mg base (k + 3) "_law_some_text" ["_law_feed"] spText) : FnOk P w K mg base CX0 (k + 4) f fd ["_law_feed"] spAns := by
  obtain ⟨fD, fdD, gD, kD, bD, GD⟩ := D.ex
  obtain ⟨fT, fdT, gT, kT, bT, GT⟩ := T.ex
  refine F.ok scAns (fun vs H Q E h => ?_) (fun cdv A outer s H vs Q E hr h => ?_)
  · obtain ⟨a, rfl, _⟩ := h
    rfl
  · obtain ⟨a, rfl, hF, q⟩ := h
    have hr1 : Room (k + 1) _ := hr.mono (by omega)
    refine ⟨_, PSs.nox (pss_one (ps_ret (pe_ifExp (pt_cmpR op_eq (pe_call GD hr1 (by rfl) gD kD bD .nil pass0 (pa_cons (pv 0) (pa_cons (pe_int) pa_nil))) pe_int (nomark _)) pe_non (pe_call GT hr (by rfl) gT kT bT .nil pass0 (pa_cons (pv 0) pa_nil))))), ?_⟩
    refine ⟨.ref a, rfl, a, 5, rfl, hF, by decide, by decide, fun r H1 r0 r1 k1 F1 => ⟨rfl, _, rfl, ite2 (fun e => ?_) (fun e => ?_)⟩⟩
    · exact q .non H1 (.inl rfl) k1 F1
    · exact ⟨.ref a, rfl, a, rfl, F1, fun z H2 tz k2 F2 => q _ H2 (.inr ⟨z, rfl, tz⟩) (k1.trans k2) F2⟩
theorem okPickS {k : Nat} (F : FnP K "_law_pick" lPick f fd) (ml : mg "len" = none) (D : Has P w K mg base (k + 1) "_law_draw" ["_law_feed", "_law_many"] spDraw) : FnOk P w K mg base CX0 (k + 2) f fd ["_law_feed", "_law_items"] spPickS := by
  obtain ⟨fD, fdD, gD, kD, bD, GD⟩ := D.ex
  refine F.ok scPick (fun vs H Q E h => ?_) (fun cdv A outer s H vs Q E hr h => ?_)
  · obtain ⟨a, z, rfl, _⟩ := h
    rfl
  · obtain ⟨a, z, rfl, hF, h0, h1, q⟩ := h
    refine ⟨_, PSs.nox (pss_one (ps_ret (pe_ix ix_str (pv 1) (pe_call GD hr (by rfl) gD kD bD .nil pass0 (pa_cons (pv 0) (pa_cons (pe_callB call_len_str (by rfl) ml PySem.boot_len (pa_cons (pv 1) pa_nil)) pa_nil))) (fun _ _ => rfl)))), ?_⟩
    refine ⟨.str z, rfl, .ref a, rfl, .str z, rfl, z, rfl, by rw [sizeLine_eq]; omega, ?_⟩
    refine ⟨a, (z.length : Int), rfl, hF, by omega, by omega, fun r H' r0 r1 kp fd' => ?_⟩
    obtain ⟨j, rfl⟩ : ∃ j : Nat, r = (j : Int) := ⟨r.toNat, by omega⟩
    have hj : j < z.cps.toList.length := by show j < z.length; omega
    exact ⟨z, _, _, rfl, rfl, by rw [sizeLine_eq]; omega, atI_nat (List.getElem?_eq_getElem hj), q _ H' (List.getElem_mem hj) kp fd'⟩
end
end KS.La

set_option Elab.async false
set_option linter.all false
set_option maxRecDepth 100000
set_option maxHeartbeats 4000000
/-! dicts whose keys are data (tuples of None, numbers, texts and such tuples), over the layer: the dict is a thing told by its one object, the keys' tuples stand in the layer's heap -/
namespace ND
open PySem PySem.Spec PyProof.Rows L2
/-- None, numbers, texts, tuples of such, n deep -/
inductive Pl : Nat → PyData → Prop
  | non (n : Nat) : Pl n .none
  | int (n : Nat) (i : Int) : Pl n (.int i)
  | str (n : Nat) (z : Str) : Pl n (.str z)
  | tup {n : Nat} {ds : List PyData} (h : ∀ d ∈ ds, Pl n d) : Pl (n + 1) (.tuple ds)
theorem Pl.up {n : Nat} {d : PyData} (h : Pl n d) : ∀ {m : Nat}, n ≤ m → Pl m d := by
  induction h with
  | non => exact fun _ => .non _
  | int n i => exact fun _ => .int _ i
  | str n z => exact fun _ => .str _ z
  | tup h ih =>
    intro m hm
    obtain ⟨k, rfl⟩ : ∃ k, m = k + 1 := ⟨m - 1, by omega⟩
    exact .tup fun d hd => ih d hd (by omega)
mutual
def keyD : PyData → NestedKey
  | .int i => .num i
  | .str x => .text x
  | .tuple ds => .tup (keyDs ds)
  | .bool b => .num (if b = true then 1 else 0)
  | .none => .none
  | .list _ => .none
  | .dict _ => .none
def keyDs : List PyData → List NestedKey
  | [] => []
  | d :: ds => keyD d :: keyDs ds
end
theorem keyDepth {n : Nat} {d : PyData} (h : Pl n d) : (keyD d).depth ≤ n := by
  induction h with
  | non => simp [keyD, NestedKey.depth]
  | int => simp [keyD, NestedKey.depth]
  | str => simp [keyD, NestedKey.depth]
  | @tup n ds h ih =>
    have all : ∀ l : List PyData, (∀ d ∈ l, (keyD d).depth ≤ n) → NestedKey.depthAll (keyDs l) ≤ n := by
      intro l
      induction l with
      | nil => intro _; simp [keyDs, NestedKey.depthAll]
      | cons x l il =>
        intro hl
        have h1 := hl x List.mem_cons_self
        have h2 := il fun d hd => hl d (List.mem_cons_of_mem _ hd)
        simp only [keyDs, NestedKey.depthAll]
        omega
    have := all ds ih
    simp only [keyD, NestedKey.depth]
    omega
theorem keyInj {n : Nat} {d : PyData} (h : Pl n d) : ∀ {m : Nat} {e : PyData}, Pl m e → keyD d = keyD e → d = e := by
  induction h with
  | non => intro m e he q; cases he <;> simp [keyD] at q; rfl
  | int n i => intro m e he q; cases he <;> simp [keyD] at q; rw [q]
  | str n z => intro m e he q; cases he <;> simp [keyD] at q; rw [q]
  | @tup n ds h ih =>
    intro m e he q
    cases he with
    | @tup m es he =>
      have all : ∀ (l r : List PyData), (∀ d ∈ l, ∀ {m : Nat} {e : PyData}, Pl m e → keyD d = keyD e → d = e) → (∀ e ∈ r, Pl m e) → keyDs l = keyDs r → l = r := by
        intro l
        induction l with
        | nil =>
          intro r _ _ q
          cases r with
          | nil => rfl
          | cons => simp [keyDs] at q
        | cons x l il =>
          intro r hl hr q
          cases r with
          | nil => simp [keyDs] at q
          | cons y r =>
            simp only [keyDs, List.cons.injEq] at q
            rw [hl x List.mem_cons_self (hr y List.mem_cons_self) q.1, il r (fun d hd => hl d (List.mem_cons_of_mem _ hd)) (fun e he => hr e (List.mem_cons_of_mem _ he)) q.2]
      have q2 : keyDs ds = keyDs es := by simpa [keyD] using q
      rw [all ds es ih he q2]
    | non => simp [keyD] at q
    | int => simp [keyD] at q
    | str => simp [keyD] at q
/-- what stands in the layer's heap as data is such a key -/
theorem nestedIs {X : Cx} {pins : List (Addr × Obj)} {σ : L2.St} {H : Hp} {s : Shared} (I : Inv X pins σ H s) {n : Nat} {d : PyData} (h : Pl n d) : ∀ (v : V) (u : Value), Dp X.K H v d → RelV v u → NestedIs s.heap (keyD d) u := by
  induction h with
  | non => intro v u hd r; cases hd; cases r; exact .none
  | int n i => intro v u hd r; cases hd; obtain ⟨t, rfl⟩ := r; exact .int i t
  | str n z => intro v u hd r; cases hd; obtain ⟨t, rfl⟩ := r; exact .text z t
  | @tup n ds h ih =>
    intro v u hd r
    cases hd with
    | tup hs ha =>
      cases r
      obtain ⟨its, rv, ⟨o, ho, hc, n', hdt⟩, _⟩ := I.tuple hs
      have all : ∀ (l : List PyData) (vs : List V) (us : List Value), (∀ d ∈ l, ∀ (v : V) (u : Value), Dp X.K H v d → RelV v u → NestedIs s.heap (keyD d) u) → DpAll X.K H vs l → Vals vs us → NestedAll s.heap (keyDs l) us := by
        intro l
        induction l with
        | nil => intro vs us _ ha r; cases ha; cases r; exact .nil
        | cons x l il =>
          intro vs us hl ha r
          cases ha with
          | cons h1 h2 =>
            cases r with
            | cons r1 r2 => exact .cons (hl x List.mem_cons_self _ _ h1 r1) (il _ _ (fun d hd => hl d (List.mem_cons_of_mem _ hd)) h2 r2)
      exact .tup ho hc hdt (by simpa using all ds _ its ih ha rv)
/-! ### the dict -/
abbrev KvN := NestedKey × Addr × V
abbrev KvD := PyData × Addr × V
def kn (q : KvD) : KvN := (keyD q.1, q.2.1, q.2.2)
abbrev rKv (p : KvN) (q : NestedKey × Addr × Value) : Prop := p.1 = q.1 ∧ p.2.1 = q.2.1 ∧ RelV p.2.2 q.2.2
def NdR (P : Program) (w : World) (d : Addr) (ks : List KvN) (h : Heap) : Prop := ks.length ≤ sizeLine ∧ (d == sysModules) = false ∧ ∃ xs : List (NestedKey × Addr × Value), Paired rKv ks xs ∧
  ∃ o es ep, h.get? d = some o ∧ o.ExactDict ∧ o.data = .dict es ep ∧ es.toList = xs.map (entryOfKey (nestedKind P w)) ∧ (xs.map (·.1)).Nodup
def ndO (P : Program) (w : World) (d : Addr) (ks : List KvN) : HO := .ext (NdR P w d ks)
structure Nd (P : Program) (w : World) (K : PySem.W.Frag) (H : Hp) (d : Addr) (kvs : List KvD) : Prop where
  o : H d = some (ndO P w d (kvs.map kn))
  k : ∀ q ∈ kvs, Pl 8 q.1 ∧ Dp K H (.ref q.2.1) q.1
theorem ndOk {P : Program} {w : World} {H : Hp} {h : Heap} {d : Addr} {ks : List KvN} (r : NdR P w d ks h) : ObjOk P w H h d (ndO P w d ks) := by
  obtain ⟨z, hs, xs, pr, o, es, ep, ho, rest⟩ := r
  refine ⟨⟨z, hs, xs, pr, o, es, ep, ho, rest⟩, ⟨o, ho⟩, fun h1 h2 q keep => ?_⟩
  obtain ⟨z, hs, xs, pr, o, es, ep, ho, rest⟩ := q
  exact ⟨z, hs, xs, pr, o, es, ep, keep o ho, rest⟩
theorem ndNew {P : Program} {w : World} {H : Hp} (h : Heap) (hb : sysModules < h.objs.size) : ObjOk P w H (h.push { cls := .type "dict", data := .dict #[] }) h.objs.size (ndO P w h.objs.size []) := by
  refine ndOk ⟨Nat.zero_le _, ?_, [], .nil, ?_⟩
  · exact beq_eq_false_iff_ne.mpr (Nat.ne_of_gt hb)
  · obtain ⟨o, es, ep, h1, h2, h3, h4, _, h6⟩ := Heap.DictOfH.new (knd := nestedKind P w) h
    exact ⟨o, es, ep, h1, h2, h3, h4, h6⟩
section
variable {X : Cx} {pins : List (Addr × Obj)} {σ : L2.St} {H : Hp} {s : Shared}
theorem keyIs (I : Inv X pins σ H s) {a : Addr} {e : PyData} (he : Dp X.K H (.ref a) e) (pl : Pl 8 e) : (nestedKind X.prog X.w).is s.heap (keyD e) a := ⟨nestedIs I pl _ _ he rfl, keyDepth pl⟩
theorem pairedMem {α β : Type} {F : α → β → Prop} : ∀ {l : List α} {r : List β}, Paired F l r → ∀ y ∈ r, ∃ x ∈ l, F x y
  | _, _, .nil, y, hy => absurd hy (by simp)
  | _, _, .cons h t, y, hy => by
    rcases List.mem_cons.mp hy with z | z
    · subst z; exact ⟨_, List.mem_cons_self, h⟩
    · obtain ⟨x, hx, f⟩ := pairedMem t y z
      exact ⟨x, List.mem_cons_of_mem _ hx, f⟩
theorem pairedLen {α β : Type} {F : α → β → Prop} : ∀ {l : List α} {r : List β}, Paired F l r → l.length = r.length
  | _, _, .nil => rfl
  | _, _, .cons _ t => by simp [pairedLen t]
theorem Nd.heap {d : Addr} {kvs : List KvD} (n : Nd X.prog X.w X.K H d kvs) (I : Inv X pins σ H s) : kvs.length ≤ sizeLine ∧ (d == sysModules) = false ∧ ∃ xs, Paired rKv (kvs.map kn) xs ∧ s.heap.DictOfH (nestedKind X.prog X.w) d xs := by
  have ok : ObjOk X.prog X.w H s.heap d (ndO X.prog X.w d (kvs.map kn)) := I.hok d _ n.o
  obtain ⟨⟨z, hs, xs, pr, o, es, ep, ho, hx, hd, he, nd⟩, _⟩ := ok
  refine ⟨by simpa using z, hs, xs, pr, o, es, ep, ho, hx, hd, he, fun y hy => ?_, nd⟩
  obtain ⟨x, hx, e1, e2, _⟩ := pairedMem pr y hy
  obtain ⟨q, hq, rfl⟩ := List.mem_map.mp hx
  obtain ⟨pl, dp⟩ := n.k q hq
  have := keyIs I dp pl
  rw [← e1, ← e2]
  exact this
end
end ND

set_option Elab.async false
set_option linter.all false
set_option maxRecDepth 100000
set_option maxHeartbeats 4000000
namespace ND
open PySem PySem.Spec PyProof.Rows L2
/-- tuples stand -/
def TS (H H' : Hp) : Prop := ∀ a o, H a = some o → ((∃ xs, o = .tup xs) ∨ ∃ p xs, o = .frz p (.tup xs)) → H' a = some o
theorem TS.refl (H : Hp) : TS H H := fun _ _ e _ => e
theorem TS.trans {H H1 H2 : Hp} (a : TS H H1) (b : TS H1 H2) : TS H H2 := fun x o e t => b x o (a x o e t) t
theorem TS.same {H H' : Hp} (s : ∀ a o, H a = some o → H' a = some o) : TS H H' := fun a o e _ => s a o e
theorem TS.put {P : Program} {w : World} {H : Hp} {d : Addr} {ks : List KvN} {o : HO} (h : H d = some (ndO P w d ks)) : TS H (upd H d o) := fun a u e t => by
  rw [upd_ne fun z => ?_]
  · exact e
  · rw [z, h] at e
    have e2 := Option.some.inj e
    rcases t with ⟨xs, rfl⟩ | ⟨p, xs, rfl⟩ <;> cases e2
theorem TS.tup {K : PySem.W.Frag} {H H' : Hp} (k : TS H H') {a : Addr} {xs : List V} (h : SqT K H a xs) : SqT K H' a xs := by
  rcases h with (h | ⟨o, h⟩) | h
  · exact .inl (.inl (k _ _ h (.inl ⟨_, rfl⟩)))
  · exact .inl (.inr ⟨o, k _ _ h (.inr ⟨_, _, rfl⟩)⟩)
  · exact .inr h
theorem allTS {K : PySem.W.Frag} {H H' : Hp} : ∀ {ds : List PyData} {xs : List V}, (∀ d ∈ ds, ∀ v, Dp K H v d → Dp K H' v d) → DpAll K H xs ds → DpAll K H' xs ds
  | _, _, _, .nil => .nil
  | _, _, k, .cons h r => .cons (k _ List.mem_cons_self _ h) (allTS (fun d hd => k d (List.mem_cons_of_mem _ hd)) r)
theorem dpTS {K : PySem.W.Frag} {H H' : Hp} (k : TS H H') {n : Nat} {d : PyData} (o : Pl n d) : ∀ v, Dp K H v d → Dp K H' v d := by
  induction o with
  | non n => intro v h; cases h; exact .non
  | int n i => intro v h; cases h; exact .int _
  | str n z => intro v h; cases h; exact .str _
  | tup h ih =>
    intro v hv
    cases hv with
    | tup hx hd => exact .tup (k.tup hx) (allTS ih hd)
/-! ### storing -/
def storeN (ks : List KvN) (k : NestedKey) (a : Addr) (v : V) : List KvN := if (ks.any fun q => decide (q.1 = k)) = true then ks.map (fun q => if q.1 = k then (q.1, q.2.1, v) else q) else ks ++ [(k, a, v)]
def storeD (kvs : List KvD) (e : PyData) (a : Addr) (v : V) : List KvD := if (kvs.any fun q => decide (keyD q.1 = keyD e)) = true then kvs.map (fun q => if keyD q.1 = keyD e then (q.1, q.2.1, v) else q) else kvs ++ [(e, a, v)]
theorem store_kn (kvs : List KvD) (e : PyData) (a : Addr) (v : V) : (storeD kvs e a v).map kn = storeN (kvs.map kn) (keyD e) a v := by
  have h : ((kvs.map kn).any fun q => decide (q.1 = keyD e)) = kvs.any fun q => decide (keyD q.1 = keyD e) := by
    rw [List.any_map]
    rfl
  unfold storeD storeN
  rw [h]
  split
  · rw [List.map_map, List.map_map]
    refine List.map_congr_left fun q _ => ?_
    show kn (if keyD q.1 = keyD e then (q.1, q.2.1, v) else q) = if keyD q.1 = keyD e then (keyD q.1, q.2.1, v) else kn q
    split <;> rfl
  · rw [List.map_append]
    rfl
theorem storeLen (kvs : List KvD) (e : PyData) (a : Addr) (v : V) : (storeD kvs e a v).length ≤ kvs.length + 1 := by
  unfold storeD
  split
  · rw [List.length_map]; omega
  · rw [List.length_append]; exact Nat.le_refl _
theorem storeKeys {kvs : List KvD} {e : PyData} {a : Addr} {v : V} {q : KvD} (h : q ∈ storeD kvs e a v) : (∃ p ∈ kvs, p.1 = q.1 ∧ p.2.1 = q.2.1) ∨ (q.1 = e ∧ q.2.1 = a) := by
  unfold storeD at h
  split at h
  · obtain ⟨p, hp, rfl⟩ := List.mem_map.mp h
    refine .inl ⟨p, hp, ?_⟩
    split <;> exact ⟨rfl, rfl⟩
  · rcases List.mem_append.mp h with z | z
    · exact .inl ⟨q, z, rfl, rfl⟩
    · rw [List.mem_singleton.mp z]
      exact .inr ⟨rfl, rfl⟩
theorem atSome {ks : List KvN} {xs : List (NestedKey × Addr × Value)} (p : Paired rKv ks xs) (k : NestedKey) : (atKey xs k).isSome = ks.any fun q => decide (q.1 = k) := by
  induction p with
  | nil => rfl
  | @cons x y l r h t ih =>
    unfold atKey at ih ⊢
    rw [List.any_cons, List.find?_cons, ← h.1]
    cases hd : decide (x.1 = k) with
    | true => rfl
    | false => simpa using ih
theorem pairedStore {ks : List KvN} {xs : List (NestedKey × Addr × Value)} (p : Paired rKv ks xs) (k : NestedKey) (a : Addr) {v : V} {u : Value} (r : RelV v u) : Paired rKv (storeN ks k a v) (storedH xs k a u) := by
  have e := atSome p k
  unfold storeN storedH
  rw [e]
  split
  · have all : ∀ {ks : List KvN} {xs : List (NestedKey × Addr × Value)}, Paired rKv ks xs → Paired rKv (ks.map fun q => if q.1 = k then (q.1, q.2.1, v) else q) (xs.map (putAt k u)) := by
      intro ks xs p
      induction p with
      | nil => exact .nil
      | @cons x y l r' h t ih =>
        refine .cons ?_ ih
        show rKv (if x.1 = k then (x.1, x.2.1, v) else x) (if y.1 = k then (y.1, y.2.1, u) else y)
        rw [← h.1]
        split
        · exact ⟨rfl, h.2.1, r⟩
        · exact h
    exact all p
  · exact p.snoc ⟨rfl, rfl, r⟩
section
variable {X : Cx} {pins : List (Addr × Obj)} {σ : L2.St} {H : Hp} {s : Shared}
theorem ndStored {kvs : List KvD} {d a : Addr} {e : PyData} {v : V} {u : Value} {h' : Heap} {t' : Nat} (I : Inv X pins σ H s) (n : Nd X.prog X.w X.K H d kvs) (rv : RelV v u) (hl : kvs.length < sizeLine) {xs : List (NestedKey × Addr × Value)} (pr : Paired rKv (kvs.map kn) xs) (hs : (d == sysModules) = false)
    (dd : h'.DictOfH (nestedKind X.prog X.w) d (storedH xs (keyD e) a u)) (sb : Heap.SameBut d s.heap h') : Inv X pins σ (upd H d (ndO X.prog X.w d ((storeD kvs e a v).map kn))) { s with heap := h', toks := t' } := by
  obtain ⟨o, es, ep, h1, h2, h3, h4, _, h6⟩ := dd
  refine d_write I (by rw [n.o]; exact True.intro) sb ⟨o, h1⟩ (ndOk ⟨?_, hs, _, ?_, o, es, ep, h1, h2, h3, h4, h6⟩)
  · rw [List.length_map]
    have := storeLen kvs e a v
    omega
  · rw [store_kn]
    exact pairedStore pr _ _ rv
/-- d[k] = v within a comprehension -/
theorem nd_dictSet {E : Value → Shared → Prop} {kvs : List KvD} {d a : Addr} {e : PyData} {v : V} {u : Value} {Q : Unit → Shared → Prop} (hu : X.A.units + 8 < cLine) (I : Inv X pins σ H s) (n : Nd X.prog X.w X.K H d kvs) (he : Dp X.K H (.ref a) e) (pl : Pl 8 e) (rv : RelV v u) (hl : kvs.length < sizeLine)
    (h : ∀ s', Inv X pins σ (upd H d (ndO X.prog X.w d ((storeD kvs e a v).map kn))) s' → Q () s') : wpAny (model X.prog X.w) X.A (dictSet d (.ref a) u) Q E s := by
  obtain ⟨hz, hs, xs, pr, dd⟩ := n.heap I
  have hxl : xs.length ≤ sizeLine := by
    rw [← pairedLen pr, List.length_map]
    exact hz
  refine wpAny_dictSet_heap (knd := nestedKind X.prog X.w) hu (keyIs I he pl) dd (fun h' dd' sb => h _ (ndStored I n rv hl pr hs dd' sb)) hxl
/-- d[k] = v -/
def rSetN (P : Program) (w : World) (K : PySem.W.Frag) : TSet := fun o i v H Q => ∃ (d a : Addr) (e : PyData) (kvs : List KvD), o = .ref d ∧ i = .ref a ∧ Nd P w K H d kvs ∧ Dp K H (.ref a) e ∧ Pl 8 e ∧ kvs.length < sizeLine ∧ Q (upd H d (ndO P w d ((storeD kvs e a v).map kn)))
theorem set_nd (hu : X.A.units + 9 < cLine) : PSet X (rSetN X.prog X.w X.K) := by
  intro pins s σ H o i v ov iv u Q I ro ri rv h
  obtain ⟨d, a, e, kvs, rfl, rfl, n, he, pl, hl, q⟩ := h
  cases ro
  cases ri
  obtain ⟨hz, hs, xs, pr, dd⟩ := n.heap I
  have hxl : xs.length ≤ sizeLine := by
    rw [← pairedLen pr, List.length_map]
    exact hz
  refine wpAny_setItem_heap (knd := nestedKind X.prog X.w) (by show X.A.in1.units + 8 < cLine; rw [Around.in1_units]; omega) (keyIs I he pl) dd (fun h' dd' sb => ⟨_, ndStored I n rv hl pr hs dd' sb, q⟩) hxl
/-! ### looking up -/
def valN (ks : List KvN) (k : NestedKey) : Option V := (ks.find? fun q => decide (q.1 = k)).map fun q => q.2.2
theorem pairedFind {ks : List KvN} {xs : List (NestedKey × Addr × Value)} (p : Paired rKv ks xs) (k : NestedKey) {v : V} (h : valN ks k = some v) : ∃ q u, atKey xs k = some (q, u) ∧ RelV v u := by
  induction p with
  | nil => cases h
  | @cons x y l r hxy t ih =>
    unfold valN at h ih
    unfold atKey at ih ⊢
    rw [List.find?_cons] at h ⊢
    rw [← hxy.1]
    cases hd : decide (x.1 = k) with
    | true =>
      rw [hd] at h
      have h2 : some x.2.2 = some v := h
      rw [← Option.some.inj h2]
      exact ⟨y.2.1, y.2.2, rfl, hxy.2.2⟩
    | false =>
      rw [hd] at h
      exact ih h
def rIxN (P : Program) (w : World) (K : PySem.W.Frag) : R2 := fun x y H Q => ∃ (d a : Addr) (e : PyData) (kvs : List KvD) (v : V), x = .ref d ∧ y = .ref a ∧ Nd P w K H d kvs ∧ Dp K H (.ref a) e ∧ Pl 8 e ∧ valN (kvs.map kn) (keyD e) = some v ∧ Q v H
theorem ix_nd (hu : X.A.units + 9 < cLine) : IxR X (rIxN X.prog X.w X.K) := by
  intro value slice pins s σ H x y v u Q I rx ry h hs
  obtain ⟨d, a, e, kvs, z, rfl, rfl, n, he, pl, hv, q⟩ := h
  cases rx
  cases ry
  obtain ⟨_, _, xs, pr, dd⟩ := n.heap I
  obtain ⟨b, t, e1, r1⟩ := pairedFind pr _ hv
  have fin : ∀ tk, EP X pins σ Q t { s with toks := tk } := fun tk => ⟨z, H, I.tok tk, r1, q⟩
  exact subscriptTail_builtinR (x := t) (Q := fun r s' => EP X pins σ Q r s') dd.typeIs PySem.slot_dict_getitem.lookup (wpAny_getItem_heap (knd := nestedKind X.prog X.w) (by show X.A.in1.units + 8 < cLine; rw [Around.in1_units]; omega) (keyIs I he pl) dd e1 ⟨rfl, fin _⟩) hs
/-- {} -/
def tDNewN (P : Program) (w : World) : TE := fun _ H Q => ∀ p, H p = none → Q (.ref p) (upd H p (ndO P w p []))
theorem pe_dnewN {pos : Pos} : PE X (.Dict [] [] pos) (tDNewN X.prog X.w) := ⟨fun pins s σ H Q I h =>
  wpAny_Dict_empty ⟨.ref s.heap.objs.size, _, I.laid (a := s.heap.objs.size) (o := ndO X.prog X.w s.heap.objs.size []) (t' := s.toks) (fun _ _ q => Heap.get?_push_of_some _ q) (Nat.le_refl _) (ndNew s.heap I.big), rfl, h _ (I.hok.fresh (Nat.le_refl _))⟩⟩
end
end ND

set_option Elab.async false
set_option linter.all false
set_option maxRecDepth 100000
set_option maxHeartbeats 4000000
/-! {k: v for x in xs}, the keys data -/
namespace ND
open PySem PySem.Spec PyProof.Rows L2
/-- a promise that holds in each block of such a scope -/
def InBlk (X : Cx) (sc : Scope) (F : Cx → Prop) : Prop := ∀ (t : Shared) (G : Hp) (E : Addr) (ces : List (Str × Addr)) (ps : List Addr), F (X.blk t G sc (compEnvC sc ces E X.env) ps)
/-- one turn: what comes of it stands for the next one -/
def turnN (P : Program) (w : World) (K : PySem.W.Frag) (D : Addr) (g : TG) (tk tv : TE) (vs : List Nat) (σ : L2.St) (x : V) (Nx : Hp → Prop) : Hp → Prop := fun G => g x (wipe σ vs) G fun ρ G2 => wipe ρ vs = wipe σ vs ∧ tk ρ G2 fun y G3 => tv ρ G3 fun z G4 =>
  ∃ (kvs : List KvD) (a : Addr) (e : PyData), y = .ref a ∧ Nd P w K G4 D kvs ∧ Dp K G4 (.ref a) e ∧ Pl 8 e ∧ kvs.length < sizeLine ∧ Nx (upd G4 D (ndO P w D ((storeD kvs e a z).map kn)))
def tNdc (P : Program) (w : World) (K : PySem.W.Frag) (wi : TI) (g : TG) (tk tv : TE) (vs : List Nat) : TE := fun σ H Q => wi σ H fun J G => ∀ D, G D = none → ∃ W : Nat → Nat → Hp → Prop, (∃ m, W 0 m (upd G D (ndO P w D []))) ∧ ∀ i m T, W i m T →
  (J.stop i T ∧ Q (.ref D) T) ∨ (J.go i T ∧ ∃ Nx : Hp → Prop, (∀ T', Nx T' → ∃ m', m' < m ∧ W (i + 1) m' T') ∧ ∀ x T', J.yld i T x T' → turnN P w K D g tk tv vs σ x Nx T')
section
variable {X : Cx}
theorem ndc_core {pins : List (Addr × Obj)} {s : Shared} {σ : L2.St} {H : Hp} {Q : VK} {kx vx tg iter : Expr} {sc : Scope} {own : List (Str × Nat)} {pos pos' : Pos} {wi : TI} {g : TG} {tk tv : TE} {use : Option (Value → Sem Unit)} {Qf : Value → Shared → Prop}
    (hu : X.A.units + 8 < cLine) (calm : X.calm = true) (nd : X.N.Nodup) (I : Inv X pins σ H s) (it0 : PI X tg iter wi) (bk : BlkOk X.N X.env.scope sc own) (pG : InBlk X sc fun Y => PG Y tg g) (pK : InBlk X sc fun Y => PE Y kx tk) (pV : InBlk X sc fun Y => PE Y vx tv)
    (fold : ∀ x, foldedSetIterable iter X.env x = pure x) (hq : tNdc X.prog X.w X.K wi g tk tv (own.map (·.2)) σ H Q)
    (out : ∀ D C t m G, Inv X pins σ G t → Q (.ref D) G → t.heap.Ns C m → FpOk X pins G C → compPost (model X.prog X.w) X.A X.xe use Qf (.ref D) C (.ok .next) t) :
    wpAny (model X.prog X.w) X.A (comprehension (.DictComp kx vx [⟨tg, iter, [], 0⟩] sc pos) sc X.env pos' newDict false (eval iter X.env) use) Qf X.xe s := by
  have cells : ∀ y ∈ sc.names, y.2 = .free → ∃ c, X.env.cells.lookup y.1 = some c := by
    intro y hy e
    exact (bk.free y hy e).elim (fun z => I.ok.has _ (.inl z)) fun z => I.ok.has _ (.inr z)
  refine wpAny_comprehension_free (use := use) rfl fold (closure_ok cells) bk.kind (fun y hy e => by rw [bk.uniq y hy, e]) ?_
  refine thn (it0.run pins s σ H _ I hq) fun xv s1 hx => thn hx fun itv s2 ⟨it, fp, tn, J, G, eit, I2, T, st2, f2, q⟩ => ?_
  subst eit
  refine wpAny_newObj_type (newEnv_comp ?_)
  obtain ⟨D, hD⟩ : ∃ D, D = s2.heap.objs.size := ⟨_, rfl⟩
  rw [← hD]
  have free : G D = none := I2.hok.fresh (Nat.le_of_eq hD.symm)
  obtain ⟨W, ⟨m0, w0⟩, turn⟩ := q D free
  obtain ⟨s3, hs3⟩ : ∃ t : Shared, t = { s2 with heap := s2.heap.push { cls := .type "dict", data := .dict #[] } } := ⟨_, rfl⟩
  rw [← hs3]
  have I3 : Inv X pins σ (upd G D (ndO X.prog X.w D [])) s3 := by
    rw [hs3, hD]
    exact I2.laid (t' := s2.toks) (fun b o e => Heap.get?_push_of_some _ e) (Nat.le_refl _) (ndNew s2.heap I2.big)
  have grow : s3.heap = s2.heap.push { cls := .type "dict", data := .dict #[] } := by rw [hs3]
  have below : ∀ b ∈ fp, b < s2.heap.objs.size := fun b hb => (T.obj _ _ st2 b hb).elim fun o e => Heap.lt_size e.1
  have f3 : ∀ b ∈ fp, FpOk X pins (upd G D (ndO X.prog X.w D [])) b ∧ b < s3.heap.objs.size := by
    intro b hb
    have lt := below b hb
    constructor
    · exact ⟨by rw [upd_ne (by rw [hD]; exact Nat.ne_of_lt lt)]; exact (f2 b hb).1, (f2 b hb).2⟩
    · rw [grow, Heap.size_push]
      exact Nat.lt_succ_of_lt lt
  have st3 : tn 0 s3.heap := by
    refine T.keep _ _ _ st2 fun b _ o e => ?_
    rw [grow]
    exact Heap.get?_push_of_some _ e
  have I4 := block_start I3 bk nd f3
  obtain ⟨ce, hce⟩ : ∃ c, c = compEnvC sc (cellsFrom (s3.heap.objs.size + 1) sc.names (cloFrom X.env.cells sc.names [])) s3.heap.objs.size X.env := ⟨_, rfl⟩
  obtain ⟨G3, hG3⟩ : ∃ G3, G3 = upd G D (ndO X.prog X.w D []) := ⟨_, rfl⟩
  have qG : PG (X.blk s3 G3 sc ce fp) tg g := by rw [hce]; exact pG _ _ _ _ _
  have qK : PE (X.blk s3 G3 sc ce fp) kx tk := by rw [hce]; exact pK _ _ _ _ _
  have qV : PE (X.blk s3 G3 sc ce fp) vx tv := by rw [hce]; exact pV _ _ _ _ _
  have loc : ce.locals = s3.heap.objs.size := by rw [hce]; rfl
  obtain ⟨s4, hs4⟩ : ∃ t : Shared, t = { s3 with heap := pushCells (s3.heap.push { cls := .type "dict", data := .dict #[] }) sc.names } := ⟨_, rfl⟩
  rw [← hce, ← hG3, ← hs4] at I4
  rw [← hG3] at I3 w0 f3
  show codeAny _ _ (.compStart (.DictComp kx vx [⟨tg, iter, [], 0⟩] sc pos) 0 (.ref it) (.ref D) (compEnvC sc (cellsFrom (s3.heap.objs.size + 1) sc.names (cloFrom X.env.cells sc.names [])) s3.heap.objs.size X.env)) _ _
  rw [← hce, ← hs4]
  have none3 : ∀ b ∈ fp, G3 b = none := fun b hb => (f3 b hb).1.1
  have st4 : tn 0 s4.heap := by
    refine T.keep _ _ _ st3 fun b _ o e => ?_
    rw [hs4]
    exact pushCells_keeps _ _ _ _ (Heap.get?_push_of_some _ e)
  have fps : ∀ {ρ : L2.St} {G' : Hp} {t : Shared}, Inv (X.blk s3 G3 sc ce fp) [] ρ G' t → (∀ b ∈ fp, G' b = none) → ∀ b ∈ fp, FpOk (X.blk s3 G3 sc ce fp) [] G' b := by
    intro ρ G' t J' hn b hb
    refine ⟨hn b hb, (J'.ok.exf b hb).1, J'.ok.exfs b hb, .inl hb, fun x c e => (J'.ok.exf b hb).2 x c e, fun p hp => ?_⟩
    exact absurd (show p ∈ ([] : List (Addr × Obj)) ++ [] from hp) (by simp)
  suffices loop : codeAny (model X.prog X.w) X.A (.compLoop (.DictComp kx vx [⟨tg, iter, [], 0⟩] sc pos) 0 (.ref it) (.ref D) ce) (compPost (model X.prog X.w) X.A X.xe use Qf (.ref D) s3.heap.objs.size) s4 from codeAny_compStart_dict loop (T.self X.A 0 _ _ _ st4 loop)
  refine compLoop_anyD (fun n t => ∃ i G', Inv (X.blk s3 G3 sc ce fp) [] (wipe σ (own.map (·.2))) G' t ∧ tn i t.heap ∧ (∀ b ∈ fp, G' b = none) ∧ W i n G') (fun n s5 ⟨i, G5, I5, st5, n5, w5⟩ => ?_) m0 ⟨0, G3, I4, st4, none3, w0⟩
  rcases turn i n G5 w5 with ⟨stop, qq⟩ | ⟨go, Nx, hNx, step⟩
  · refine thnF (T.done (X.blk s3 G3 sc ce fp) rfl rfl rfl calm i [] s5 _ G5 (fun _ _ => False) I5 (fps I5 n5) st5 stop) fun r s6 ⟨er, I6⟩ => ?_
    subst er
    have I7 : Inv X pins σ G5 s6 := I3.call' (ch := fp) I6.os I6.base I6.hok I6.bare fun b hb => by
      obtain ⟨⟨_, a1, a2, a3, a4, a5⟩, _⟩ := f3 b hb
      exact ⟨a3, a1, a4, a5⟩
    have nC : G5 s3.heap.objs.size = none := by
      rw [← loc]
      exact I6.free
    obtain ⟨m, hm, _⟩ := I6.loc
    have hm : s6.heap.Ns ce.locals m := hm
    rw [loc] at hm
    exact out D _ s6 m G5 I7 qq hm (I3.fpOk (Nat.le_refl _) nC)
  · refine thnF (T.item (X.blk s3 G3 sc ce fp) rfl rfl rfl calm i [] s5 _ G5 (fun _ _ => False) I5 (fps I5 n5) st5 go) fun r s6 ⟨u, er, h6⟩ => ?_
    subst er
    refine thnF h6 fun _ s7 ⟨x, G7, I7, r7, y7, st7, n7⟩ => ?_
    refine thnF (qG.run _ s7 _ G7 x u _ (I7.pinned (fps I7 n7) (T.obj _ _ st7)) r7 (step x G7 y7)) fun _ s8 ⟨ρ, G8, I8, hw8, q8⟩ => ?_
    refine wpAny_pure ?_
    show wpAny _ _ _ _ _ _
    refine thnF (qK.run _ s8 ρ G8 _ I8 q8) fun kv s9 ⟨y, G9, I9, r9, q9⟩ => ?_
    refine thnF (qV.run _ s9 ρ G9 _ I9 q9) fun vv s10 h10 => ?_
    obtain ⟨z, G10, I10, r10, kvs, a, e, rfl, nN, he, pl, hl, nx⟩ := h10
    cases r9
    refine nd_dictSet (X := X.blk s3 G3 sc ce fp) hu I10 nN he pl r10 hl fun s11 I11 => ?_
    obtain ⟨m', hm, w'⟩ := hNx _ nx
    have pin' : ∀ b ∈ fp, ∀ o, s7.heap.get? b = some o → s11.heap.get? b = some o ∧ upd G10 D (ndO X.prog X.w D ((storeD kvs e a z).map kn)) b = none := fun b hb o e =>
      let c := I11.pin (b, o) (List.mem_append_right _ (List.mem_append_right _ (mem_pinsAt hb e)))
      ⟨c.1, c.2.1⟩
    refine ⟨m', hm, i + 1, _, (I11.unpinned (pins := [])).weak (by rw [← hw8, wipe_length]) (fun j v e => ?_), T.keep _ _ _ st7 fun b hb o e => (pin' b hb o e).1, fun b hb => ?_, w'⟩
    · rw [← hw8] at e
      exact (wipe_some e).1
    · obtain ⟨o, e, _⟩ := T.obj _ _ st7 b hb
      exact (pin' b hb o e).2
theorem pe_ndc {kx vx tg iter : Expr} {sc : Scope} {own : List (Str × Nat)} {pos : Pos} {wi : TI} {g : TG} {tk tv : TE} (hu : X.A.units + 8 < cLine) (calm : X.calm = true) (nd : X.N.Nodup) (it0 : PI X tg iter wi) (bk : BlkOk X.N X.env.scope sc own)
    (pG : InBlk X sc fun Y => PG Y tg g) (pK : InBlk X sc fun Y => PE Y kx tk) (pV : InBlk X sc fun Y => PE Y vx tv) (fold : ∀ x, foldedSetIterable iter X.env x = pure x := by intro _; rfl) :
    PE X (.DictComp kx vx [⟨tg, iter, [], 0⟩] sc pos) (tNdc X.prog X.w X.K wi g tk tv (own.map (·.2))) := by
  refine ⟨fun pins s σ H Q I h => ?_⟩
  rw [arm_eval_DictComp]
  refine ndc_core hu calm nd I it0 bk pG pK pV fold h fun D C t m G I' q hm f => ⟨m, hm, fun h2 sb => ?_⟩
  obtain ⟨f0, f1, f2, f3, f4, f5⟩ := f
  exact ⟨.ref D, G, I'.turned (t' := t.toks) (fun b o hb e => (sb.2 b hb).trans e) f0 f1 f3 f4 f5, rfl, q⟩
end
end ND

set_option Elab.async false
set_option linter.all false
set_option maxRecDepth 100000
set_option maxHeartbeats 4000000
/-! list(d), sorted(xs) of data -/
namespace ND
open PySem PySem.Spec PyProof.Rows L2
theorem rawSrc {prog : Program} {w : World} {d : Addr} {es : Array DictEntry} {ep : Nat} (lo : (d == sysModules) = false) : PySem.W.KdlSrc prog w "dict" d d es.size (fun i v => ∃ hi : i < es.size, v = es[i].key) (fun h => h.DictRaw d es ep) where
  type := fun _ m => m.typeIs
  there := fun h m => by
    obtain ⟨o, ho, _⟩ := m
    exact ⟨Heap.lt_size ho, Heap.lt_size ho⟩
  keep := fun h h' m k => m.at fun o e => k d (.inl rfl) o e
  notList := by decide
  notTuple := by decide
  hint := fun A E s Q m q => PySem.W.kdl_hint_dict m.typeIs q
  iter := fun A s hh m => by
    have lt : d < s.heap.objs.size := by
      obtain ⟨o, ho, _⟩ := m
      exact Heap.lt_size ho
    refine ⟨_, _, fun E Q q => wpAny_pyIter_dict_raw lo m q, Walks.rawKeys hh s.heap.objs.size d (Nat.ne_of_lt lt) es ep, ?_⟩
    exact ⟨⟨_, Heap.get?_push_size _ rfl, rfl, rfl⟩, m.at fun o e => Heap.get?_push_of_some _ e⟩
theorem refsVals : ∀ {l : List Addr} {us : List Value}, us.length = l.length → (∀ (j : Nat) (v : Value), us[j]? = some v → ∃ a, l[j]? = some a ∧ v = .ref a) → Vals (l.map V.ref) us
  | [], [], _, _ => .nil
  | a :: l, u :: us, hl, h => by
    obtain ⟨b, e, rfl⟩ := h 0 u rfl
    cases e
    exact .cons rfl (refsVals (by simpa using hl) fun j v e => by simpa using h (j + 1) v (by simpa using e))
  | [], _ :: _, hl, _ => by simp at hl
  | _ :: _, [], hl, _ => by simp at hl
section
variable {X : Cx}
/-- the keys that a walk over the dict gives -/
theorem keyVals {P : Program} {w : World} {kvs : List KvD} {h : Heap} {xs : List (NestedKey × Addr × Value)} {es : Array DictEntry} {acc : List Value} (pr : Paired rKv (kvs.map kn) xs) (hsz : es.size = xs.length) (hx : ∀ i (hi : i < es.size), ∃ y, xs[i]? = some y ∧ es[i].key = .ref y.2.1 ∧ es[i].val = y.2.2 ∧ (nestedKind P w).is h y.1 y.2.1)
    (hl : acc.length = es.size) (ha : ∀ (j : Nat) (v : Value), acc[j]? = some v → ∃ hi : j < es.size, v = es[j].key) : Vals (kvs.map fun q => V.ref q.2.1) acc := by
  have at1 : ∀ {ks : List KvN} {xs : List (NestedKey × Addr × Value)}, Paired rKv ks xs → ∀ (j : Nat) (y : NestedKey × Addr × Value), xs[j]? = some y → ∃ q, ks[j]? = some q ∧ q.2.1 = y.2.1 := by
    intro ks xs p
    induction p with
    | nil => intro j y e; cases j <;> cases e
    | cons h t ih =>
      intro j y e
      cases j with
      | zero => cases e; exact ⟨_, rfl, h.2.1⟩
      | succ j => exact ih j y (by simpa using e)
  have e : (kvs.map fun q => V.ref q.2.1) = (kvs.map fun q => q.2.1).map V.ref := by rw [List.map_map]; rfl
  rw [e]
  refine refsVals ?_ fun j v hv => ?_
  · have := pairedLen pr
    rw [List.length_map] at this ⊢
    omega
  · obtain ⟨hi, rfl⟩ := ha j v hv
    obtain ⟨y, e1, e2, _, _⟩ := hx j hi
    obtain ⟨q, e3, e4⟩ := at1 pr j y e1
    rw [List.getElem?_map] at e3
    cases e5 : kvs[j]? with
    | none => rw [e5] at e3; cases e3
    | some p =>
      rw [e5] at e3
      have e6 : kn p = q := Option.some.inj e3
      refine ⟨p.2.1, by rw [List.getElem?_map, e5]; rfl, ?_⟩
      rw [e2, ← e4, ← e6]
      rfl
theorem call_listN (calm : X.calm = true) : CallR X (.type "list") (fun xs H Q => ∃ (a : Addr) (kvs : List KvD), xs = [.ref a] ∧ Nd X.prog X.w X.K H a kvs ∧ ∀ p, H p = none → Q (.ref p) (upd H p (.lst (kvs.map fun q => .ref q.2.1)))) := by
  intro pins s σ H xs us Q I r q
  obtain ⟨a, kvs, rfl, n, q⟩ := q
  obtain ⟨u, rfl, rx⟩ := vals1 r
  cases rx
  obtain ⟨hz, lo, ys, pr, dd⟩ := n.heap I
  obtain ⟨es, ep, raw, hsz, hx⟩ := dd.raw
  have hy : ys.length = kvs.length := by
    have := pairedLen pr
    rw [List.length_map] at this
    omega
  refine PySem.W.kdl_call (rawSrc (es := es) (ep := ep) lo) (I.ok.hd calm) raw (by omega) fun h' tk acc c' hk hD hacc => ?_
  have hv := keyVals (acc := acc.toList) pr hsz hx (by rw [Array.length_toList]; exact hacc.1) fun j v e => hacc.2 j v (by rw [← Array.getElem?_toList]; exact e)
  refine ⟨.ref s.heap.objs.size, upd H s.heap.objs.size (.lst (kvs.map fun q => .ref q.2.1)), I.laid (t' := tk) hk (Nat.le_refl _) ?_, rfl, q _ (I.hok.fresh (Nat.le_refl _))⟩
  exact ⟨by rw [List.length_map]; exact hz, acc.toList, c', hv, by rw [Array.toArray_toList]; exact hD⟩
/-! ### sorted(xs), xs data -/
abbrev Bd := V × PyData
theorem valsEach : ∀ {bs : List Bd} {us : List Value}, Vals (bs.map (·.1)) us → PySem.W.EachIs (fun u (b : Bd) => RelV b.1 u) us bs
  | [], [], _ => .nil
  | b :: bs, u :: us, .cons r t => .cons r (valsEach t)
theorem eachVals : ∀ {bs : List Bd} {us : List Value}, PySem.W.EachIs (fun u (b : Bd) => RelV b.1 u) us bs → Vals (bs.map (·.1)) us
  | [], [], _ => .nil
  | b :: bs, u :: us, .cons r t => .cons r (eachVals t)
theorem eachReads {pins : List (Addr × Obj)} {σ : L2.St} {H : Hp} {s : Shared} (I : Inv X pins σ H s) : ∀ {bs : List Bd} {us : List Value}, (∀ b ∈ bs, Dp X.K H b.1 b.2) → Vals (bs.map (·.1)) us → PySem.W.EachIs (fun u (b : Bd) => ∃ as, Reads s.heap u b.2 as) us bs
  | [], [], _, _ => .nil
  | b :: bs, u :: us, h, .cons r t => .cons (Dp.reads I b.2 b.1 u (h b List.mem_cons_self) r) (eachReads I (fun c hc => h c (List.mem_cons_of_mem _ hc)) t)
def sortB (bs : List Bd) : List Bd := bs.mergeSort (PySem.W.dataLe false fun b : Bd => b.2)
def rSortedDt (K : PySem.W.Frag) : List V → Hp → VK → Prop := fun vs H Q => ∃ (a : Addr) (bs : List Bd), vs = [.ref a] ∧ SqL K H a (bs.map (·.1)) ∧ (∀ b ∈ bs, Dp K H b.1 b.2) ∧ PySem.W.AllAlike (bs.map (·.2)) ∧ PySem.W.Sortable (bs.map (·.2)) ∧ (∀ b ∈ bs, b.2.depth ≤ 8) ∧
  ∀ p, H p = none → Q (.ref p) (upd H p (.lst ((sortB bs).map (·.1))))
theorem cr_sortedDt (hu : X.A.units + 12 < cLine) : CallR X (.builtin "sorted") (rSortedDt X.K) := by
  intro pins s σ H vs us Q I r h
  obtain ⟨a, bs, rfl, hs, hd, al, so, dp, q⟩ := h
  obtain rfl := Vals.ref1 r
  obtain ⟨its, rv, hl, hz⟩ := I.list hs
  rw [List.length_map] at hz
  refine PySem.W.sorted_data (enc := fun b : Bd => b.2) (R := fun u (b : Bd) => RelV b.1 u) hl.isList (valsEach rv) (eachReads I hd rv) al so hz (fun b hb => by have := dp b hb; omega) fun out ol oe => ?_
  obtain ⟨ep, he⟩ := PyProof.Rows.sortedAll_at s.heap its (List.toArray out)
  refine ⟨.ref _, upd H (s.heap.objs.size + 1) (.lst ((sortB bs).map (·.1))), I.laid (t' := s.toks) (fun _ _ => PyProof.Rows.sortedAll_old) (Nat.le_succ _) ⟨?_, out, ep, eachVals oe, he⟩, rfl, q _ (I.hok.fresh (Nat.le_succ _))⟩
  rw [List.length_map]
  unfold sortB
  rw [List.length_mergeSort]
  exact hz
end
end ND

set_option Elab.async false
set_option linter.all false
set_option maxRecDepth 100000
set_option maxHeartbeats 4000000
/-! sorted(.., key=f), f a def of one's own: its calls may touch the slots of the frames that wait -/
namespace ND
open PySem PySem.W PySem.Calls PyProof.Rows
/-- all but a stands, of the frames fs all but the slots -/
def SkB (fs : List Addr) (a : Addr) (h h' : Heap) : Prop := ∀ b o, b ≠ a → h.get? b = some o → (b ∉ fs → h'.get? b = some o) ∧ ∃ sl, h'.get? b = some { o with slots := sl }
def Sk (fs : List Addr) (h h' : Heap) : Prop := ∀ b o, h.get? b = some o → (b ∉ fs → h'.get? b = some o) ∧ ∃ sl, h'.get? b = some { o with slots := sl }
theorem Sk.of {fs : List Addr} {h h' : Heap} (k : ∀ b o, h.get? b = some o → h'.get? b = some o) : Sk fs h h' := fun b o e => ⟨fun _ => k b o e, o.slots, k b o e⟩
theorem SkB.of {fs : List Addr} {a : Addr} {h h' : Heap} (k : ∀ b o, b ≠ a → h.get? b = some o → h'.get? b = some o) : SkB fs a h h' := fun b o n e => ⟨fun _ => k b o n e, o.slots, k b o n e⟩
theorem Sk.trans {fs : List Addr} {h h1 h2 : Heap} (x : Sk fs h h1) (y : Sk fs h1 h2) : Sk fs h h2 := fun b o e => by
  obtain ⟨k, sl, e1⟩ := x b o e
  obtain ⟨_, sl2, e2⟩ := y b _ e1
  exact ⟨fun nb => (y b o (k nb)).1 nb, sl2, e2⟩
theorem SkB.trans {fs : List Addr} {a : Addr} {h h1 h2 : Heap} (x : SkB fs a h h1) (y : Sk fs h1 h2) : SkB fs a h h2 := fun b o n e => by
  obtain ⟨k, sl, e1⟩ := x b o n e
  obtain ⟨_, sl2, e2⟩ := y b _ e1
  exact ⟨fun nb => (y b o (k nb)).1 nb, sl2, e2⟩
theorem SkB.but {fs : List Addr} {a c : Addr} {h h1 h2 : Heap} (x : SkB fs a h h1) (y : ∀ b o, b ≠ c → h1.get? b = some o → h2.get? b = some o) (hc : h.get? c = none ∨ c = a) : SkB fs a h h2 := fun b o n e => by
  have bc : b ≠ c := fun z => by
    rcases hc with hc | hc
    · rw [z, hc] at e; cases e
    · exact n (z.trans hc)
  obtain ⟨k, sl, e1⟩ := x b o n e
  exact ⟨fun nb => y b o bc (k nb), sl, y b _ bc e1⟩
/-- data without lists reads on while the tuples stand but for slots -/
theorem readsMv {h h' : Heap} (k : ∀ b o, h.get? b = some o → o.cls = .type "tuple" → ∃ sl, h'.get? b = some { o with slots := sl }) {n : Nat} {d : PyData} (pl : Pl n d) : ∀ (v : Value) (as : List Addr), Reads h v d as → Reads h' v d as := by
  induction pl with
  | non => intro v as r; cases r; exact .none
  | int => intro v as r; cases r; exact .int _ _
  | str => intro v as r; cases r; exact .str _ _
  | @tup n ds hd ih =>
    intro v as r
    cases r with
    | @tuple a o vs m xs as h1 h2 h3 h4 =>
      obtain ⟨sl, e⟩ := k _ _ h1 h2
      have all : ∀ (l : List PyData) (us : List Value) (as : List Addr), (∀ d ∈ l, ∀ (v : Value) (as : List Addr), Reads h v d as → Reads h' v d as) → ReadsAll h us l as → ReadsAll h' us l as := by
        intro l
        induction l with
        | nil => intro us as _ r; cases r; exact .nil
        | cons x l il =>
          intro us as hl r
          cases r with
          | cons r1 r2 => exact .cons (hl x List.mem_cons_self _ _ r1) (il _ _ (fun d hd => hl d (List.mem_cons_of_mem _ hd)) r2)
      exact .tuple e h2 h3 (all ds _ _ ih h4)
/-- a heap without the object at k -/
def gone (h : Heap) (k : Addr) : Heap := { h with objs := h.objs.setIfInBounds k { cls := .none, data := .freed } }
theorem gone_self (h : Heap) (k : Addr) : (gone h k).get? k = none := by
  unfold gone Heap.get?
  by_cases hk : k < h.objs.size
  · simp [hk]
  · simp [hk]
theorem gone_ne (h : Heap) {k b : Addr} (n : b ≠ k) : (gone h k).get? b = h.get? b := by
  unfold gone Heap.get?
  simp [Array.getElem?_setIfInBounds, Ne.symm n]
section
variable {prog : Program} {w : World} {A : Around} {E : Value → Shared → Prop} {s : Shared} {a kS : Addr} {vs : List Value} {kz : List PyData} {b : Bool} {f : Value} {e1 : Nat} {P : PySem.Fin → Shared → Prop} {fs : List Addr}
/-- what a call of f at k gives -/
def KeyAt (fs : List Addr) (s s0 : Shared) (k : PyData) (r : Value) (s1 : Shared) : Prop := s1.os = s.os ∧ AllBare s1.gens ∧ Sk fs s0.heap s1.heap ∧ Reads s1.heap r k []
theorem keyFold {h1 : Heap} (bare : AllBare s.gens) (sk : SkB fs a h1 s.heap) (hkS : h1.get? kS = none) (nk : s.heap.get? kS = some (seqObj "list" #[] 0)) (na : s.heap.get? a = some (seqObj "list" #[] e1)) (hka : kS ≠ a) (afs : a ∉ fs) (kfs : kS ∉ fs)
    (hlen : kz.length = vs.length) (hZ : vs.length ≤ sizeLine) (hal : AllAlike kz) (hsk : Sortable kz) (hpl : ∀ k ∈ kz, ∃ n, Pl n k) (hu : ∀ d, d ∈ kz → A.units + d.depth < cLine)
    (turn : ∀ (i : Nat) (v : Value) (k : PyData), vs[i]? = some v → kz[i]? = some k → ∀ s0 : Shared, s0.os = s.os → AllBare s0.gens → SkB fs a h1 s0.heap → wpAny (model prog w) A (call f [v]) (KeyAt fs s s0 k) (fun _ _ => False) s0)
    (fin : ∀ (s1 : Shared) (out : List Value) (c : Nat), s1.os = s.os → AllBare s1.gens → SkB fs a h1 s1.heap → s1.heap.get? a = some (seqObj "list" (List.toArray out) c) → KeyedOut b kz vs out → P (.done (.ret .none)) s1) :
    wpAny (model prog w) A (ksk_rest a f b vs.toArray e1 (.ref kS)) P E s := by
  unfold ksk_rest
  refine wpAny_bind (wpAny_rule ?_)
  first
    | rw [List.forIn_toArray]
    | (rw [← Array.forIn_toList]; simp only [List.toList_toArray])
  refine wpAny_bind (ksk_fold (fun i t => t.os = s.os ∧ AllBare t.gens ∧ SkB fs a h1 t.heap ∧ ∃ kA e, t.heap.get? kS = some (seqObj "list" kA e) ∧ t.heap.get? a = some (seqObj "list" #[] e1) ∧ EachIs (fun v k => Reads t.heap v k []) kA.toList (kz.take i)) vs 0 s
    ⟨rfl, bare, sk, #[], 0, nk, na, by rw [List.take_zero]; exact EachIs.nil⟩ (fun j x t hx inv => ?_) fun t inv => ?_)
  · obtain ⟨os, bg, kp, kA, e, nk', na', hk⟩ := inv
    simp only [Nat.zero_add] at hk ⊢
    have hj : j < vs.length := (List.getElem?_eq_some_iff.mp hx).1
    have hj2 : j < kz.length := by omega
    have hkj : kz[j]? = some kz[j] := List.getElem?_eq_getElem hj2
    have hz : kA.size ≤ vs.length := by
      have h1 := hk.length
      rw [Array.length_toList, List.length_take] at h1
      omega
    refine wpAny_bind (wpAny_attempt (wpAny_mono (turn j x kz[j] hx hkj t os bg kp) (fun v t2 he => ?_) fun _ _ hF => hF.elim))
    obtain ⟨os2, bg2, sk2, hr⟩ := he
    try dsimp only
    have nk2 : t2.heap.get? kS = some (seqObj "list" kA e) := (sk2 _ _ nk').1 kfs
    have na2 : t2.heap.get? a = some (seqObj "list" #[] e1) := (sk2 _ _ na').1 afs
    have sb := Heap.SameBut.update t2.heap kS (Obj.mapSeq (·.push v))
    obtain ⟨c2, hc2⟩ : ∃ c2, (t2.heap.update kS (Obj.mapSeq (·.push v))).get? kS = some (seqObj "list" (kA.push v) c2) := ⟨_, get?_update_seq nk2 (·.push v)⟩
    refine wpAny_bind (listUpdate_at nk2 rfl ?_ (Nat.le_trans hz hZ) (Nat.le_trans (Nat.le_of_eq (Array.size_push ..)) (Nat.succ_le_succ (Nat.le_trans hz hZ))))
    have stay : ∀ b o, b ≠ kS → t2.heap.get? b = some o → (t2.heap.update kS (Obj.mapSeq (·.push v))).get? b = some o := fun b o nb e => (sb.2 b nb).trans e
    have tupS : ∀ b o, t2.heap.get? b = some o → o.cls = .type "tuple" → ∃ sl, (t2.heap.update kS (Obj.mapSeq (·.push v))).get? b = some { o with slots := sl } := fun b o e ct => by
      refine ⟨o.slots, stay b o (fun z => ?_) e⟩
      rw [z, nk2] at e
      rw [← Option.some.inj e] at ct
      have c2 : Value.type "list" = Value.type "tuple" := ct
      injection c2 with c3
      exact absurd c3 (by decide)
    have all : ∀ k ∈ kz, ∀ u, Reads t2.heap u k [] → Reads (t2.heap.update kS (Obj.mapSeq (·.push v))) u k [] := fun k hk u r => (hpl k hk).elim fun n pl => readsMv tupS pl u [] r
    refine wpAny_pure ⟨rfl, os2, bg2, (kp.trans sk2).but stay (.inl hkS), kA.push v, c2, hc2, stay _ _ hka.symm na2, ?_⟩
    have ek : kz.take (j + 1) = kz.take j ++ [kz[j]] := by rw [List.take_add_one, hkj]; simp
    have ea : (kA.push v).toList = kA.toList ++ [v] := by simp
    rw [ea, ek]
    have old : ∀ {us : List Value} {ks : List PyData}, (∀ k ∈ ks, k ∈ kz) → EachIs (fun v k => Reads t.heap v k []) us ks → EachIs (fun u k => Reads (t2.heap.update kS (Obj.mapSeq (·.push v))) u k []) us ks := by
      intro us ks hm h
      induction h with
      | nil => exact .nil
      | cons r _ ih =>
        refine .cons ?_ (ih fun k hk => hm k (List.mem_cons_of_mem _ hk))
        have mk := hm _ List.mem_cons_self
        refine all _ mk _ ?_
        obtain ⟨n, pl⟩ := hpl _ mk
        exact readsMv (fun b o e _ => (sk2 b o e).2) pl _ [] r
    exact each_snoc (R := fun (u : Value) (d : PyData) => Reads (t2.heap.update kS (Obj.mapSeq (·.push v))) u d []) (all _ (List.getElem_mem hj2) _ hr) (old (fun k hk => List.mem_of_mem_take hk) hk)
  · obtain ⟨os, bg, kp, kA, e, nk', na', hk⟩ := inv
    have e3 : kz.take (0 + vs.length) = kz := List.take_of_length_le (by omega)
    rw [e3] at hk
    have hk2 : EachIs (fun v k => ∃ as, Reads t.heap v k as) kA.toList kz := hk.mono fun v k q => ⟨[], q⟩
    have hsz : kA.size = vs.length := by
      have h1 := hk2.length
      rw [Array.length_toList] at h1
      omega
    try dsimp only
    refine wpAny_bind (listItems_at nk' rfl ?_)
    refine keyH_end (s := t) (κ := dataKind t.heap kz) (h₁ := gone t.heap kS) (fun b o nb q => ?_) (gone_self _ _) nk' na' hka (SortsAt.data (s := t) hk2 hal hsk hu) hsz hZ fun h3 tk3 c k3 n3 => ?_
    · by_cases z : b = kS
      · rw [z, gone_self] at q; cases q
      · rw [gone_ne _ z] at q; exact q
    · refine fin { t with heap := h3, toks := tk3 } _ c os bg ?_ n3 ⟨t.heap, kA.toList, hal, rfl, hk2⟩
      intro b o nb q
      have nbk : b ≠ kS := fun z => by rw [z, hkS] at q; cases q
      obtain ⟨k, sl, q1⟩ := kp b o nb q
      refine ⟨fun nf => k3 b o nb (by rw [gone_ne _ nbk]; exact k nf), sl, k3 b _ nb (by rw [gone_ne _ nbk]; exact q1)⟩
theorem keyTree {n : Nat} (bare : AllBare s.gens) (ho : s.heap.get? a = some (seqObj "list" vs.toArray n)) (afs : a ∉ fs) (old : ∀ b ∈ fs, b < s.heap.objs.size) (hlen : kz.length = vs.length) (hZ : vs.length ≤ sizeLine) (hal : AllAlike kz) (hsk : Sortable kz) (hpl : ∀ k ∈ kz, ∃ n, Pl n k)
    (hu : ∀ d, d ∈ kz → A.units + d.depth < cLine)
    (turn : ∀ (i : Nat) (v : Value) (k : PyData), vs[i]? = some v → kz[i]? = some k → ∀ s0 : Shared, s0.os = s.os → AllBare s0.gens → SkB fs a s.heap s0.heap → wpAny (model prog w) A (call f [v]) (KeyAt fs s s0 k) (fun _ _ => False) s0)
    (fin : ∀ (s1 : Shared) (out : List Value) (c : Nat), s1.os = s.os → AllBare s1.gens → SkB fs a s.heap s1.heap → s1.heap.get? a = some (seqObj "list" (List.toArray out) c) → KeyedOut b kz vs out → P (.done (.ret .none)) s1) :
    wpAny (model prog w) A (ksk_tree a f b) P E s := by
  have lt : a < s.heap.objs.size := Heap.lt_size ho
  obtain ⟨e1, ho1⟩ : ∃ e1, (s.heap.update a (Obj.mapSeq fun _ => (#[] : Array Value))).get? a = some (seqObj "list" #[] e1) := ⟨_, get?_update_seq ho fun _ => #[]⟩
  have big : ((s.heap.update a (Obj.mapSeq fun _ => (#[] : Array Value))).push (seqObj "tuple" vs.toArray 0)).objs.size = s.heap.objs.size + 1 := by rw [size_push', Heap.size_update]
  unfold ksk_tree
  refine wpAny_bind (listItems_at ho rfl (wpAny_bind (listUpdate_at ho rfl ?_ (by rw [List.size_toArray]; exact hZ) (Nat.zero_le _))))
  refine wpAny_bind (seqEpoch_at ho1 rfl (wpAny_bind (wpAny_newTuple ?_ (by show vs.length ≤ _; exact hZ))))
  refine wpAny_bind (wpAny_newList (wpAny_holding ?_) (Nat.zero_le _))
  refine keyFold (s := { s with heap := sortingHeap s.heap a vs }) (h1 := s.heap) bare (SkB.of fun b o nb q => sortingHeap_old nb q) ?_ (Heap.get?_push_size _ rfl) (Heap.get?_push_of_some _ (Heap.get?_push_of_some _ ho1)) ?_ afs ?_ hlen hZ hal hsk hpl hu turn fin
  · exact Heap.get?_none_of_le (by rw [big]; exact Nat.le_succ _)
  · rw [big]; exact Nat.ne_of_gt (Nat.lt_succ_of_lt lt)
  · intro z
    have := old _ z
    rw [big] at this
    exact absurd (Nat.lt_of_succ_lt this) (Nat.lt_irrefl _)
end
end ND

set_option Elab.async false
set_option linter.all false
set_option maxRecDepth 100000
set_option maxHeartbeats 4000000
/-! sorted(d, key=f) over the layer: d a dict whose keys are data, f a def of one's own that looks at a key and gives data -/
namespace ND
open PySem PySem.Spec PyProof.Rows L2
/-- the tuples of H as they stand, all else unknown -/
def frzT (H : Hp) (h : Heap) : Hp := fun b => match H b with
  | some (.tup xs) => (h.get? b).map fun o => .frz o (.tup xs)
  | some (.frz o (.tup xs)) => some (.frz o (.tup xs))
  | _ => none
theorem frzT_some {H : Hp} {h : Heap} {b : Addr} {u : HO} (e : frzT H h b = some u) : ∃ o xs, u = .frz o (.tup xs) ∧ ((H b = some (.tup xs) ∧ h.get? b = some o) ∨ H b = some (.frz o (.tup xs))) := by
  unfold frzT at e
  split at e
  · next xs hb =>
    cases hg : h.get? b with
    | none => rw [hg] at e; cases e
    | some o =>
      rw [hg] at e
      exact ⟨o, xs, (Option.some.inj e).symm, .inl ⟨hb, rfl⟩⟩
  · next o xs hb => exact ⟨o, xs, (Option.some.inj e).symm, .inr hb⟩
  · cases e
theorem frzT_none {H : Hp} {h : Heap} {b : Addr} (e : H b = none) : frzT H h b = none := by
  unfold frzT
  rw [e]
section
variable {P : Program} {w : World} {H : Hp} {h : Heap}
theorem frzT_ok (hok : HOk P w H h) : HOk P w (frzT H h) h := fun b u e => by
  obtain ⟨o, xs, rfl, ⟨e1, e2⟩ | e1⟩ := frzT_some e
  · exact ⟨e2, hok b _ e1⟩
  · obtain ⟨q1, q2⟩ := hok b _ e1
    exact ⟨q1, q2⟩
theorem frzT_sq {K : PySem.W.Frag} (hok : HOk P w H h) {a : Addr} {xs : List V} (q : SqT K H a xs) : SqT K (frzT H h) a xs := by
  rcases q with (q | ⟨o, q⟩) | q
  · obtain ⟨_, _, _, o, ho, _⟩ := hok a _ q
    refine .inl (.inr ⟨o, ?_⟩)
    unfold frzT
    rw [q, ho]
    rfl
  · refine .inl (.inr ⟨o, ?_⟩)
    unfold frzT
    rw [q]
  · exact .inr q
end
theorem allSq {K : PySem.W.Frag} {H H' : Hp} : ∀ {ds : List PyData} {xs : List V}, (∀ d ∈ ds, ∀ v, Dp K H v d → Dp K H' v d) → DpAll K H xs ds → DpAll K H' xs ds
  | _, _, _, .nil => .nil
  | _, _, k, .cons h r => .cons (k _ List.mem_cons_self _ h) (allSq (fun d hd => k d (List.mem_cons_of_mem _ hd)) r)
theorem dpSq {K : PySem.W.Frag} {H H' : Hp} (k : ∀ a xs, SqT K H a xs → SqT K H' a xs) {n : Nat} {d : PyData} (o : Pl n d) : ∀ v, Dp K H v d → Dp K H' v d := by
  induction o with
  | non n => intro v h; cases h; exact .non
  | int n i => intro v h; cases h; exact .int _
  | str n z => intro v h; cases h; exact .str _
  | tup h ih =>
    intro v hv
    cases hv with
    | tup hx hd => exact .tup (k _ _ hx) (allSq ih hd)
/-- data of the layer reads, without an Inv -/
theorem readsOf {P : Program} {w : World} {K : PySem.W.Frag} {H : Hp} {h : Heap} (kin : K.In h) (hok : HOk P w H h) {n : Nat} {d : PyData} (pl : Pl n d) : ∀ (v : V) (u : Value), Dp K H v d → RelV v u → Reads h u d [] := by
  induction pl with
  | non => intro v u hd r; cases hd; cases r; exact .none
  | int n i => intro v u hd r; cases hd; obtain ⟨t, rfl⟩ := r; exact .int i t
  | str n z => intro v u hd r; cases hd; obtain ⟨t, rfl⟩ := r; exact .str z t
  | @tup n ds hl ih =>
    intro v u hd r
    cases hd with
    | @tup a xs _ hs ha =>
      cases r
      have tup : ∃ its : List Value, Vals xs its ∧ ∃ o n, h.get? a = some o ∧ o.cls = .type "tuple" ∧ o.data = .seq its.toArray n := by
        rcases hs with q | ⟨o, its, n, hk, hc, hs, hz, r⟩
        · obtain ⟨z, its, r, o, ho, hc, n, hd⟩ := q.ok hok
          exact ⟨its, r, o, n, ho, hc, hd⟩
        · exact ⟨its.toList, r, o, n, kin a o hk, hc, by simpa using hs⟩
      obtain ⟨its, rv, o, m, ho, hc, hdt⟩ := tup
      have all : ∀ (l : List PyData) (vs : List V) (us : List Value), (∀ d ∈ l, ∀ (v : V) (u : Value), Dp K H v d → RelV v u → Reads h u d []) → DpAll K H vs l → Vals vs us → ReadsAll h us l [] := by
        intro l
        induction l with
        | nil => intro vs us _ ha r; cases ha; cases r; exact .nil
        | cons x l il =>
          intro vs us hl ha r
          cases ha with
          | cons h1 h2 =>
            cases r with
            | cons r1 r2 => exact ReadsAll.cons (as := []) (bs := []) (hl x List.mem_cons_self _ _ h1 r1) (il _ _ (fun d hd => hl d (List.mem_cons_of_mem _ hd)) h2 r2)
      exact .tuple ho hc hdt (by simpa using all ds _ its ih ha rv)
/-- a look at data that gives data -/
def spKey (K : PySem.W.Frag) (p : PyData → Prop) (k : PyData → PyData) : Sp := fun vs H Q _ => ∃ v d, vs = [v] ∧ Dp K H v d ∧ p d ∧ ∀ r H', (∀ a o, H a = some o → H' a = some o) → Dp K H' r (k d) → Q r H'
section
variable {X : Cx} {pins : List (Addr × Obj)} {σ : L2.St} {H : Hp} {s : Shared}
/-- the frames that wait are no part of the base, the layer's heap -/
theorem baseFree (I : Inv X pins σ H s) {b : Addr} {o : Obj} (e : X.base.get? b = some o) : b ∉ frs X.stack := fun hb => by
  have := (I.stack.mem hb).1
  rw [e] at this
  cases this
theorem invAt (I : Inv X pins σ H s) {s0 : Shared} (os : s0.os = s.os) (bare : AllBare s0.gens) (sk : Sk (frs X.stack) s.heap s0.heap) : Inv X pins σ H s0 := by
  refine I.call' (ch := []) os ⟨fun b o e n nf _ => (sk b o e).1 nf, fun b o e n hf _ => (sk b o e).2, fun b o e n _ => n, fun b o e _ => ?_, fun _ _ e => e, fun _ _ _ e => e, fun b ps e => ⟨#[], by rw [Array.append_empty]; exact e⟩⟩ (fun a u e => ?_) bare (fun b z => absurd z (by simp))
  · obtain ⟨sl, q⟩ := (sk b o e).2
    exact ⟨_, q⟩
  · refine (I.hok a u e).stay (fun b q hb eb => (sk b q eb).1 fun z => ?_) (fun _ q => q) fun _ _ q => q
    have nb := I.stkFree b z
    rcases hb with rfl | hb
    · rw [e] at nb; cases nb
    · rw [hb] at nb; cases nb
theorem keyCall {P0 : Shared} {n m : Nat} {f : Addr} {fd : FuncData} {x : Str} {p : PyData → Prop} {k : PyData → PyData} (F : FnOk X.prog X.w X.K X.mg X.base CX0 n f fd [x] (spKey X.K p k)) (hr : Room n X.A.in1.in1) (hb : Binds X.K fd [x] []) (I : Inv X pins σ H s) (os : s.os = P0.os)
    {v : V} {u : Value} {d : PyData} (dp : Dp X.K H v d) (pl : Pl 8 d) (hp : p d) (pk : Pl m (k d)) (r : RelV v u) : wpAny (model X.prog X.w) X.A.in1.in1 (call (.ref f) [u]) (KeyAt (frs X.stack) P0 s (k d)) (fun _ _ => False) s := by
  have e0 := I.env0
  have ok := frzT_ok I.hok
  have env : Env0 X.prog X.w X.K X.mg X.base X.A.in1.in1 X.stack s (frzT H s.heap) := ⟨e0.frames, e0.mod, fun b o e => ⟨(e0.bs b o e).1, frzT_none (e0.bs b o e).2⟩, e0.bsz, e0.funs, fun b hb => frzT_none (e0.frf b hb), ok, e0.bare⟩
  have dp2 := dpSq (fun a xs q => frzT_sq (K := X.K) I.hok q) pl _ dp
  have run := F.run X.A.in1.in1 X.stack s (frzT H s.heap) ⟨[u], []⟩ [u] [v] (fun r H' => (∀ a o, frzT H s.heap a = some o → H' a = some o) ∧ Dp X.K H' r (k d)) (fun _ _ _ => False) hr env (hb s [u] I.kIn rfl) (.cons r .nil) ⟨v, d, rfl, dp2, hp, fun r H' same dr => ⟨same, dr⟩⟩
  refine wpAny_call (codeAny_mono run fun res s1 hq => ?_)
  cases res with
  | error e => exact False.elim hq
  | ok fl =>
    cases fl with
    | ret y =>
      obtain ⟨z, H', os1, bare, un, hok, rz, same, dz⟩ := hq
      have sk : Sk (frs X.stack) s.heap s1.heap := fun b o e => by
        cases hf : frzT H s.heap b with
        | none =>
          refine ⟨fun nf => un.keep b o e hf nf (by simp), ?_⟩
          by_cases hb : b ∈ frs X.stack
          · exact un.slot b o e hf hb (by simp)
          · exact ⟨o.slots, un.keep b o e hf hb (by simp)⟩
        | some q =>
          obtain ⟨o', xs, rfl, _⟩ := frzT_some hf
          have e1 := (hok b _ (un.frzs _ _ _ hf)).1
          have e2 := (ok b _ hf).1
          rw [e] at e2
          have e3 := Option.some.inj e2
          subst e3
          exact ⟨fun _ => e1, o.slots, e1⟩
      have kin : X.K.In s1.heap := fun a o hk => by
        have hbase := I.ok.mod.kin a o hk
        exact (sk a o (I.kIn a o hk)).1 (baseFree I hbase)
      exact ⟨os1.trans os, bare, sk, readsOf kin hok pk z y dz rz⟩
    | next => exact False.elim hq
    | brk => exact False.elim hq
    | cont => exact False.elim hq
end
end ND

set_option Elab.async false
set_option linter.all false
set_option maxRecDepth 100000
set_option maxHeartbeats 4000000
namespace ND
open PySem PySem.Spec PyProof.Rows L2
def sortK (k : PyData → PyData) (kvs : List KvD) : List KvD := kvs.mergeSort (PySem.W.dataLe false fun q : KvD => k q.1)
def rSortNK (P : Program) (w : World) (K : PySem.W.Frag) (f : Addr) (p : PyData → Prop) (k : PyData → PyData) : List V → List V → Hp → VK → Prop := fun vs zs H Q => ∃ (d : Addr) (kvs : List KvD), vs = [.ref d] ∧ zs = [.ref f] ∧ Nd P w K H d kvs ∧ (∀ q ∈ kvs, p q.1) ∧ (∀ q ∈ kvs, Pl 8 (k q.1)) ∧
  PySem.W.AllAlike (kvs.map fun q => k q.1) ∧ PySem.W.Sortable (kvs.map fun q => k q.1) ∧ ∀ l, H l = none → Q (.ref l) (upd H l (.lst ((sortK k kvs).map fun q => .ref q.2.1)))
theorem plDepth {n : Nat} {d : PyData} (h : Pl n d) : d.depth ≤ n := by
  induction h with
  | non => simp [PyData.depth]
  | int => simp [PyData.depth]
  | str => simp [PyData.depth]
  | @tup n ds h ih =>
    have all : ∀ l : List PyData, (∀ d ∈ l, d.depth ≤ n) → PyData.depthAll l ≤ n := by
      intro l
      induction l with
      | nil => intro _; simp [PyData.depthAll]
      | cons x l il =>
        intro hl
        have h1 := hl x List.mem_cons_self
        have h2 := il fun d hd => hl d (List.mem_cons_of_mem _ hd)
        simp only [PyData.depthAll]
        omega
    have := all ds ih
    simp only [PyData.depth]
    omega
theorem eachKv : ∀ {kvs : List KvD} {us : List Value}, Vals (kvs.map fun q => V.ref q.2.1) us → PySem.W.EachIs (fun u (q : KvD) => RelV (.ref q.2.1) u) us kvs
  | [], [], _ => .nil
  | q :: kvs, u :: us, .cons r t => .cons r (eachKv t)
theorem kvEach : ∀ {kvs : List KvD} {us : List Value}, PySem.W.EachIs (fun u (q : KvD) => RelV (.ref q.2.1) u) us kvs → Vals (kvs.map fun q => V.ref q.2.1) us
  | [], [], _ => .nil
  | q :: kvs, u :: us, .cons r t => .cons r (kvEach t)
theorem valsAt {α : Type} {g : α → V} : ∀ {l : List α} {us : List Value}, Vals (l.map g) us → ∀ (i : Nat) (v : Value), us[i]? = some v → ∃ q, l[i]? = some q ∧ RelV (g q) v
  | [], [], _, i, v, e => by cases i <;> cases e
  | q :: l, u :: us, .cons r t, 0, v, e => by cases e; exact ⟨q, rfl, r⟩
  | q :: l, u :: us, .cons r t, i + 1, v, e => valsAt t i v (by simpa using e)
theorem HOk_get {P : Program} {w : World} {H : Hp} {h : Heap} (hok : HOk P w H h) {a : Addr} {u : HO} (e : H a = some u) : ∃ o, h.get? a = some o := by
  have lt := hok.lt e
  by_cases hn : h.get? a = none
  · exact absurd (L2.HOk.gone hok hn) (by rw [e]; simp)
  · exact Option.ne_none_iff_exists'.mp hn
section
variable {X : Cx}
/-- a thing that came to be while all else stood -/
theorem layAt {pins : List (Addr × Obj)} {σ : L2.St} {H : Hp} {s s1 : Shared} {L : Addr} {o : HO} (I : Inv X pins σ H s) (os : s1.os = s.os) (bare : AllBare s1.gens) (sk : Sk (frs X.stack) s.heap s1.heap) (hn : s.heap.get? L = none) (Hn : H L = none) (new : ObjOk X.prog X.w (upd H L o) s1.heap L o) :
    Inv X pins σ (upd H L o) s1 := by
  have I1 := invAt I os bare sk
  have ne : ∀ {b : Addr} {u : HO}, H b = some u → b ≠ L := fun e z => by rw [z, Hn] at e; cases e
  refine I.call' (ch := []) os ⟨fun b q e n nf _ => (sk b q e).1 nf, fun b q e n hf _ => (sk b q e).2, fun b q e n _ => ?_, fun b q e _ => ?_, fun b xs e => by rw [upd_ne (ne e)]; exact e, fun b q u e => by rw [upd_ne (ne e)]; exact e, fun b ps e => ⟨#[], by rw [upd_ne (ne e), Array.append_empty]; exact e⟩⟩ (fun a u e => ?_) bare (fun b z => absurd z (by simp))
  · rw [upd_ne fun z => by rw [z, hn] at e; cases e]
    exact n
  · obtain ⟨sl, q1⟩ := (sk b q e).2
    exact ⟨_, q1⟩
  · by_cases z : a = L
    · subst z
      rw [upd_same] at e
      rw [← Option.some.inj e]
      exact new
    · rw [upd_ne z] at e
      exact (I1.hok a u e).stay (fun _ _ _ q => q) (fun b q => by rw [upd_ne (ne q)]; exact q) fun b xs q => by rw [upd_ne (ne q)]; exact q
theorem cr_sortedNK {n : Nat} {f : Addr} {fd : FuncData} {x : Str} {p : PyData → Prop} {k : PyData → PyData} (F : FnOk X.prog X.w X.K X.mg X.base CX0 n f fd [x] (spKey X.K p k)) (hr : Room (n + 2) X.A) (hb : Binds X.K fd [x] []) (hu : X.A.units + 12 < cLine) (calm : X.calm = true) :
    CallRK X (.builtin "sorted") [Str.ofString "key"] (rSortNK X.prog X.w X.K f p k) := by
  intro pins s σ H vs zs us ws Q I r rz h
  obtain ⟨d, kvs, rfl, rfl, nn, hp, pk, al, so, q⟩ := h
  obtain rfl := Vals.ref1 r
  obtain rfl := Vals.ref1 rz
  obtain ⟨hz, lo, ys, pr, dd⟩ := nn.heap I
  obtain ⟨es, ep, raw, hsz, hx⟩ := dd.raw
  have hy : ys.length = kvs.length := by
    have := pairedLen pr
    rw [List.length_map] at this
    omega
  show wpAny _ _ (call (.builtin "sorted") [.ref d] [(Str.ofString "key", .ref f)]) _ _ s
  refine PyProof.Rows.call_function_entry_kw PyProof.Rows.kind_sorted PyProof.Rows.plain_sorted PyProof.Rows.entry_sorted (PyProof.Rows.ksk_s1 _ _) ?_
  unfold Builtin.«sorted»
  refine wpAny_bind (m := checkCount "sorted" 1 1 _) (wpAny_pure ?_)
  refine wpAny_bind (PySem.W.kdu_collect (A := X.A.in1) (rawSrc (es := es) (ep := ep) lo) (I.ok.hd calm) raw (by omega) fun h' tk acc hk hacc => ?_)
  have hv := keyVals (acc := acc.toList) pr hsz hx (by rw [Array.length_toList]; exact hacc.1) fun j v e => hacc.2 j v (by rw [← Array.getElem?_toList]; exact e)
  have hal : acc.toList.length = kvs.length := by
    have := hv.length
    rw [List.length_map] at this
    exact this.symm
  refine wpAny_bind (wpAny_newList ?_ (by rw [hal]; exact hz))
  obtain ⟨L, hL⟩ : ∃ L, L = h'.objs.size := ⟨_, rfl⟩
  have hoL : (h'.push (seqObj "list" acc.toList.toArray 0)).get? L = some (seqObj "list" acc.toList.toArray 0) := by
    rw [hL]
    exact Heap.get?_push_size _ rfl
  have hLn : s.heap.get? L = none := by
    cases e : s.heap.get? L with
    | none => rfl
    | some o =>
      have := Heap.lt_size (hk _ _ e)
      exact absurd this (by rw [hL]; exact Nat.lt_irrefl _)
  have old : ∀ b ∈ frs X.stack, ∃ o, s.heap.get? b = some o := fun b hb => by
    obtain ⟨_, o, ho, _⟩ := I.stack.mem hb
    exact ⟨o, ho⟩
  have keepL : ∀ b o, s.heap.get? b = some o → (h'.push (seqObj "list" acc.toList.toArray 0)).get? b = some o := fun b o e => Heap.get?_push_of_some _ (hk b o e)
  show wpAny _ _ _ _ _ { s with heap := h'.push (seqObj "list" acc.toList.toArray 0), toks := tk }
  rw [← hL]
  refine wpAny_bind (wpAny_holding (PyProof.Rows.wpAny_call_entry_kw PyProof.Rows.slot_list_sort ⟨_, hoL, rfl⟩ PyProof.Rows.entry_list_sort ?_ (PyProof.Rows.ksk_l1 _ _)))
  show wpAny (model X.prog X.w) X.A.in1.in1 (Builtin.«list.sort» ⟨[.ref L], [(Str.ofString "key", .ref f)]⟩) _ _ _
  rw [PyProof.Rows.ksk_t1]
  refine keyTree (fs := frs X.stack) (kz := kvs.map fun q => k q.1) (s := { s with heap := h'.push (seqObj "list" acc.toList.toArray 0), toks := tk }) I.bare hoL (fun z => ?_) (fun b hb => ?_) (by rw [List.length_map]; exact hal.symm) (by rw [hal]; exact hz) al so (fun y hy => ?_) (fun y hy => ?_)
    (fun i v y hv1 hy1 s0 os bare sk => ?_) fun s1 out c os bare sk ho ko => ?_
  · obtain ⟨o, ho⟩ := old _ z
    rw [hLn] at ho
    cases ho
  · obtain ⟨o, ho⟩ := old _ hb
    exact Heap.lt_size (keepL _ _ ho)
  · obtain ⟨z, hz, rfl⟩ := List.mem_map.mp hy
    exact ⟨8, pk z hz⟩
  · obtain ⟨z, hz, rfl⟩ := List.mem_map.mp hy
    have := plDepth (pk z hz)
    show X.A.units + 1 + 1 + _ < _
    omega
  · obtain ⟨z, e1, rv⟩ := valsAt hv i v hv1
    rw [List.getElem?_map, e1] at hy1
    obtain rfl := Option.some.inj hy1
    have hm := List.mem_of_getElem? e1
    obtain ⟨pl, dp⟩ := nn.k z hm
    have I0 : Inv X pins σ H s0 := invAt I os bare fun b o e => sk b o (fun y => by rw [y, hLn] at e; cases e) (keepL b o e)
    exact keyCall F hr.in1.in1 hb I0 os dp pl (hp z hm) (pk z hm) rv
  · refine ⟨.none, rfl, wpAny_pure ⟨_, rfl, ?_⟩⟩
    have sk2 : Sk (frs X.stack) s.heap s1.heap := fun b o e => sk b o (fun y => by rw [y, hLn] at e; cases e) (keepL b o e)
    have I1 : Inv X pins σ H s1 := invAt I os bare sk2
    have each := PySem.W.keyedOut_each (bs := kvs) (R := fun u (q : KvD) => RelV (.ref q.2.1) u) (fun q => k q.1) ko (eachKv hv)
    have hv2 := kvEach each
    have HLn : H L = none := by
      cases e : H L with
      | none => rfl
      | some o =>
        obtain ⟨u, hu⟩ := HOk_get I.hok e
        rw [hLn] at hu
        cases hu
    refine ⟨.ref L, upd H L (.lst ((sortK k kvs).map fun q => .ref q.2.1)), layAt I os bare sk2 hLn HLn ⟨?_, out, c, hv2, ho⟩, rfl, q L HLn⟩
    rw [List.length_map]
    unfold sortK
    rw [List.length_mergeSort]
    exact hz
end
end ND

set_option Elab.async false
set_option linter.all false
set_option maxRecDepth 100000
set_option maxHeartbeats 4000000
/-! name = {k: v for ..} on one row -/
namespace ND
open PySem PySem.Spec PyProof.Rows L2
theorem swD {kx vx : Expr} {gs : List Comprehension} {sc : Scope} {pos py : Pos} {y : Str} {l : Nat} {env : Env} (h1 : env.scope.kind = .function) (h2 : env.scope.names.lookup y = some .local) (h3 : (py.line == pos.line) = true) (h4 : (sc.names.any fun (n, k) => n == y && (k == .local || k == .cell)) = false) :
    swapsWith (.DictComp kx vx gs sc pos) (some (.Name y py)) l env = pure true := by
  have b : env.blockKind = .function := by
    unfold Env.blockKind
    rw [h1] <;> rfl
  have c : env.kindOf y = some .local := h2
  unfold swapsWith
  simp only [b, c, h4, Expr.pos, h3]
  rfl
section
variable {X : Cx}
theorem ps_setNdc {i : Nat} {y : Str} {py : Pos} {kx vx tg iter : Expr} {sc : Scope} {own : List (Str × Nat)} {pos spos : Pos} {wi : TI} {g : TG} {tk tv : TE} (hu : X.A.units + 8 < cLine) (calm : X.calm = true) (nd : X.N.Nodup) (hy : X.N[i]? = some y) (loc : X.env.scope.names.lookup y = some .local)
    (sw : swapsWith (.DictComp kx vx [⟨tg, iter, [], 0⟩] sc pos) (some (.Name y py)) spos.line X.env = pure true) (it0 : PI X tg iter wi) (bk : BlkOk X.N X.env.scope sc own) (pG : InBlk X sc fun Y => PG Y tg g) (pK : InBlk X sc fun Y => PE Y kx tk) (pV : InBlk X sc fun Y => PE Y vx tv)
    (fold : ∀ x, foldedSetIterable iter X.env x = pure x := by intro _; rfl) : PS X (.Assign [.Name y py] (.DictComp kx vx [⟨tg, iter, [], 0⟩] sc pos) spos) (tAsg (tNdc X.prog X.w X.K wi g tk tv (own.map (·.2))) (gName i)) := by
  refine ⟨fun pins s σ H D I h => ?_⟩
  rw [exec_Assign_Name_used _ _ _ _ sw]
  refine wpAny_bind (wpAny_standAt (wpAny_bind ?_))
  show wpAny _ X.A (comprehension (.DictComp kx vx [⟨tg, iter, [], 0⟩] sc pos) sc X.env (firstIterPos [⟨tg, iter, [], 0⟩] pos) newDict false (eval iter X.env) (some (assign (.Name y py) X.env)) >>= fun _ => pure ()) _ _ s
  have q : tNdc X.prog X.w X.K wi g tk tv (own.map (·.2)) σ H (fun x T => gName i x σ T D.nx) := h
  refine wpAny_bind (thn (ndc_core (Qf := fun _ t => SP X pins D .next t) hu calm nd I it0 bk pG pK pV fold q fun L C t m G I' r hm f => ?_) fun _ t ht => wpAny_pure (wpAny_pure ht))
  show wpAny _ _ (assign (.Name y py) X.env (.ref L)) _ _ _
  refine wpAny_assign_Name (store_ok2 (v := V.ref L) I' nd hy (.inl loc) rfl (fun t2 I2 ⟨a, sb, ha⟩ => ?_) (.inr loc))
  obtain ⟨f0, f1, f2, f3, f4, f5⟩ := f
  have ne : C ≠ a := by
    rcases ha with z | z
    · exact fun e => f1 (e.trans z)
    · exact fun e => f4 y a z e.symm
  exact ⟨m, hm.sameBut sb ne, fun t3 sb3 => ⟨_, G, I2.turned (t' := t2.toks) (fun b o hb e => (sb3.2 b hb).trans e) f0 f1 f3 f4 f5, r⟩⟩
end
end ND

set_option Elab.async false
set_option linter.all false
set_option maxRecDepth 100000
set_option maxHeartbeats 4000000
/-! sorted(xs, key=f), xs a list of data -/
namespace ND
open PySem PySem.Spec PyProof.Rows L2
def sortL (k : PyData → PyData) (bs : List Bd) : List Bd := bs.mergeSort (PySem.W.dataLe false fun b : Bd => k b.2)
def rSortLK (K : PySem.W.Frag) (f : Addr) (p : PyData → Prop) (k : PyData → PyData) : List V → List V → Hp → VK → Prop := fun vs zs H Q => ∃ (a : Addr) (bs : List Bd), vs = [.ref a] ∧ zs = [.ref f] ∧ SqL K H a (bs.map (·.1)) ∧ (∀ b ∈ bs, Dp K H b.1 b.2) ∧ (∀ b ∈ bs, Pl 8 b.2) ∧ (∀ b ∈ bs, p b.2) ∧
  (∀ b ∈ bs, Pl 8 (k b.2)) ∧ PySem.W.AllAlike (bs.map fun b => k b.2) ∧ PySem.W.Sortable (bs.map fun b => k b.2) ∧ ∀ l, H l = none → Q (.ref l) (upd H l (.lst ((sortL k bs).map (·.1))))
section
variable {X : Cx}
theorem cr_sortedLK {n : Nat} {f : Addr} {fd : FuncData} {x : Str} {p : PyData → Prop} {k : PyData → PyData} (F : FnOk X.prog X.w X.K X.mg X.base CX0 n f fd [x] (spKey X.K p k)) (hr : Room (n + 2) X.A) (hb : Binds X.K fd [x] []) (hu : X.A.units + 12 < cLine) :
    CallRK X (.builtin "sorted") [Str.ofString "key"] (rSortLK X.K f p k) := by
  intro pins s σ H vs zs us ws Q I r rz h
  obtain ⟨d, bs, rfl, rfl, hs, hd, hpl, hp, pk, al, so, q⟩ := h
  obtain rfl := Vals.ref1 r
  obtain rfl := Vals.ref1 rz
  obtain ⟨its, hv, hl, hz⟩ := I.list hs
  have hil : its.length = bs.length := by
    have := hv.length
    rw [List.length_map] at this
    exact this.symm
  have hz2 : bs.length ≤ sizeLine := by rw [List.length_map] at hz; exact hz
  show wpAny _ _ (call (.builtin "sorted") [.ref d] [(Str.ofString "key", .ref f)]) _ _ s
  refine PyProof.Rows.call_function_entry_kw PyProof.Rows.kind_sorted PyProof.Rows.plain_sorted PyProof.Rows.entry_sorted (PyProof.Rows.ksk_s1 _ _) ?_
  unfold Builtin.«sorted»
  refine wpAny_bind (m := checkCount "sorted" 1 1 _) (wpAny_pure ?_)
  refine wpAny_bind (collect_list (vs := its) hl.isList ?_ (by rw [hil]; exact hz2))
  generalize hh' : (s.heap.push (seqObj "list" #[] 0)).update s.heap.objs.size (Obj.mapSeq (· ++ its.toArray)) = h'
  have hk : ∀ b o, s.heap.get? b = some o → h'.get? b = some o := fun b o e => by
    rw [← hh', Heap.get?_update_ne]
    · exact Heap.get?_push_of_some _ e
    · exact fun z => Nat.lt_irrefl _ (by have := Heap.lt_size e; rw [z] at this; exact this)
  refine wpAny_bind (wpAny_newList ?_ (by rw [hil]; exact hz2))
  obtain ⟨L, hL⟩ : ∃ L, L = h'.objs.size := ⟨_, rfl⟩
  have hoL : (h'.push (seqObj "list" its.toArray 0)).get? L = some (seqObj "list" its.toArray 0) := by
    rw [hL]
    exact Heap.get?_push_size _ rfl
  have hLn : s.heap.get? L = none := by
    cases e : s.heap.get? L with
    | none => rfl
    | some o =>
      have := Heap.lt_size (hk _ _ e)
      exact absurd this (by rw [hL]; exact Nat.lt_irrefl _)
  have old : ∀ b ∈ frs X.stack, ∃ o, s.heap.get? b = some o := fun b hb => by
    obtain ⟨_, o, ho, _⟩ := I.stack.mem hb
    exact ⟨o, ho⟩
  have keepL : ∀ b o, s.heap.get? b = some o → (h'.push (seqObj "list" its.toArray 0)).get? b = some o := fun b o e => Heap.get?_push_of_some _ (hk b o e)
  show wpAny _ _ _ _ _ { s with heap := h'.push (seqObj "list" its.toArray 0) }
  rw [← hL]
  refine wpAny_bind (wpAny_holding (PyProof.Rows.wpAny_call_entry_kw PyProof.Rows.slot_list_sort ⟨_, hoL, rfl⟩ PyProof.Rows.entry_list_sort ?_ (PyProof.Rows.ksk_l1 _ _)))
  show wpAny (model X.prog X.w) X.A.in1.in1 (Builtin.«list.sort» ⟨[.ref L], [(Str.ofString "key", .ref f)]⟩) _ _ _
  rw [PyProof.Rows.ksk_t1]
  refine keyTree (fs := frs X.stack) (kz := bs.map fun b => k b.2) (s := { s with heap := h'.push (seqObj "list" its.toArray 0) }) I.bare hoL (fun z => ?_) (fun b hb => ?_) (by rw [List.length_map]; exact hil.symm) (by rw [hil]; exact hz2) al so (fun y hy => ?_) (fun y hy => ?_)
    (fun i v y hv1 hy1 s0 os bare sk => ?_) fun s1 out c os bare sk ho ko => ?_
  · obtain ⟨o, ho⟩ := old _ z
    rw [hLn] at ho
    cases ho
  · obtain ⟨o, ho⟩ := old _ hb
    exact Heap.lt_size (keepL _ _ ho)
  · obtain ⟨z, hz, rfl⟩ := List.mem_map.mp hy
    exact ⟨8, pk z hz⟩
  · obtain ⟨z, hz, rfl⟩ := List.mem_map.mp hy
    have := plDepth (pk z hz)
    show X.A.units + 1 + 1 + _ < _
    omega
  · obtain ⟨z, e1, rv⟩ := valsAt hv i v hv1
    rw [List.getElem?_map, e1] at hy1
    obtain rfl := Option.some.inj hy1
    have hm := List.mem_of_getElem? e1
    have I0 : Inv X pins σ H s0 := invAt I os bare fun b o e => sk b o (fun y => by rw [y, hLn] at e; cases e) (keepL b o e)
    exact keyCall F hr.in1.in1 hb I0 os (hd z hm) (hpl z hm) (hp z hm) (pk z hm) rv
  · refine ⟨.none, rfl, wpAny_pure ⟨_, rfl, ?_⟩⟩
    have sk2 : Sk (frs X.stack) s.heap s1.heap := fun b o e => sk b o (fun y => by rw [y, hLn] at e; cases e) (keepL b o e)
    have I1 : Inv X pins σ H s1 := invAt I os bare sk2
    have each := PySem.W.keyedOut_each (bs := bs) (R := fun u (b : Bd) => RelV b.1 u) (fun b => k b.2) ko (valsEach hv)
    have hv2 := eachVals each
    have HLn : H L = none := by
      cases e : H L with
      | none => rfl
      | some o =>
        obtain ⟨u, hu⟩ := HOk_get I.hok e
        rw [hLn] at hu
        cases hu
    refine ⟨.ref L, upd H L (.lst ((sortL k bs).map (·.1))), layAt I os bare sk2 hLn HLn ⟨?_, out, c, hv2, ho⟩, rfl, q L HLn⟩
    rw [List.length_map]
    unfold sortL
    rw [List.length_mergeSort]
    exact hz2
end
end ND

set_option Elab.async false
set_option linter.all false
set_option maxRecDepth 100000
set_option maxHeartbeats 4000000
/-! places: the record, its data, its two ranks -/
namespace PLC
open PySem PySem.Spec PyProof.Rows L2 ND
open PySem.W (dataLt dataLe alike alikeAll keyToksAll)
structure Pc where
  c : Str
  as : List Str
  rs : List (List (Option Str))
  n : Int
def ansD : Option Str → PyData
  | none => .none
  | some z => .str z
def rowD (r : List (Option Str)) : PyData := .tuple (r.map ansD)
def argsD (as : List Str) : PyData := .tuple (as.map .str)
def rowsD (rs : List (List (Option Str))) : PyData := .tuple (rs.map rowD)
def pcD (p : Pc) : PyData := .tuple [.str p.c, argsD p.as, rowsD p.rs, .int p.n]
def dot (z : Str) : Str := ("." : Str) ++ z
def rankA : Option Str → PyData
  | none => .str ""
  | some z => .str (dot z)
def lkA : Option Str → PyData
  | none => .tuple [.int 0, .str ""]
  | some z => .tuple [.int 1, .str z]
def rankRow (r : List (Option Str)) : PyData := .tuple (r.map rankA)
def lkRow (r : List (Option Str)) : PyData := .tuple (r.map lkA)
def rankP (p : Pc) : PyData := .tuple [.str p.c, argsD p.as, .tuple (p.rs.map rankRow), .int p.n]
def lkP (p : Pc) : PyData := .tuple [.str p.c, argsD p.as, .tuple (p.rs.map lkRow), .int p.n]
/-- the rank of data -/
def aRank : PyData → PyData
  | .none => .str ""
  | .str z => .str (dot z)
  | d => d
def rRank : PyData → PyData
  | .tuple xs => .tuple (xs.map aRank)
  | d => d
def rankD : PyData → PyData
  | .tuple [c, a, .tuple rs, n] => .tuple [c, a, .tuple (rs.map rRank), n]
  | d => d
theorem aRank_eq (a : Option Str) : aRank (ansD a) = rankA a := by cases a <;> rfl
theorem rRank_eq (r : List (Option Str)) : rRank (rowD r) = rankRow r := by
  show PyData.tuple ((r.map ansD).map aRank) = .tuple (r.map rankA)
  rw [List.map_map]
  congr 1
  exact List.map_congr_left fun a _ => aRank_eq a
theorem rankD_eq (p : Pc) : rankD (pcD p) = rankP p := by
  show PyData.tuple [.str p.c, argsD p.as, .tuple ((p.rs.map rowD).map rRank), .int p.n] = _
  rw [List.map_map]
  have e : p.rs.map (rRank ∘ rowD) = p.rs.map rankRow := List.map_congr_left fun r _ => rRank_eq r
  rw [e]
  rfl
/-! ### they are told apart by what they are -/
theorem ansD_inj {a b : Option Str} (h : ansD a = ansD b) : a = b := by
  cases a <;> cases b <;> simp [ansD] at h ⊢
  exact h
theorem mapInj {α β : Type} {f : α → β} (hf : ∀ {x y}, f x = f y → x = y) : ∀ {l r : List α}, l.map f = r.map f → l = r
  | [], [], _ => rfl
  | [], _ :: _, h => by simp at h
  | _ :: _, [], h => by simp at h
  | x :: l, y :: r, h => by
    simp only [List.map_cons, List.cons.injEq] at h
    rw [hf h.1, mapInj hf h.2]
theorem rowD_inj {a b : List (Option Str)} (h : rowD a = rowD b) : a = b := mapInj ansD_inj (PyData.tuple.inj h)
theorem lkA_inj {a b : Option Str} (h : lkA a = lkA b) : a = b := by
  cases a <;> cases b <;> simp [lkA] at h ⊢
  exact h
theorem lkRow_inj {a b : List (Option Str)} (h : lkRow a = lkRow b) : a = b := mapInj lkA_inj (PyData.tuple.inj h)
theorem argsD_inj {a b : List Str} (h : argsD a = argsD b) : a = b := mapInj (fun h => PyData.str.inj h) (PyData.tuple.inj h)
theorem pcD_inj {p q : Pc} (h : pcD p = pcD q) : p = q := by
  have h2 := PyData.tuple.inj h
  simp only [List.cons.injEq, and_true] at h2
  obtain ⟨h3, h4, h5, h6⟩ := h2
  cases p; cases q
  have a := PyData.str.inj h3
  have b := argsD_inj h4
  have c := mapInj rowD_inj (PyData.tuple.inj h5)
  have d := PyData.int.inj h6
  simp only at a b c d
  subst a b c d
  rfl
theorem lkP_inj {p q : Pc} (h : lkP p = lkP q) : p = q := by
  have h2 := PyData.tuple.inj h
  simp only [List.cons.injEq, and_true] at h2
  obtain ⟨h3, h4, h5, h6⟩ := h2
  cases p; cases q
  have a := PyData.str.inj h3
  have b := argsD_inj h4
  have c := mapInj lkRow_inj (PyData.tuple.inj h5)
  have d := PyData.int.inj h6
  simp only at a b c d
  subst a b c d
  rfl
/-! ### plain -/
theorem plAns (a : Option Str) : Pl 1 (ansD a) := by cases a; exact .non _; exact .str _ _
theorem plRow (r : List (Option Str)) : Pl 2 (rowD r) := .tup fun d hd => by obtain ⟨a, _, rfl⟩ := List.mem_map.mp hd; exact plAns a
theorem plArgs (as : List Str) : Pl 1 (argsD as) := .tup fun d hd => by obtain ⟨a, _, rfl⟩ := List.mem_map.mp hd; exact .str _ _
theorem plRows (rs : List (List (Option Str))) : Pl 3 (rowsD rs) := .tup fun d hd => by obtain ⟨a, _, rfl⟩ := List.mem_map.mp hd; exact plRow a
theorem plPc (p : Pc) : Pl 4 (pcD p) := .tup fun d hd => by
  simp only [List.mem_cons, List.not_mem_nil, or_false] at hd
  rcases hd with rfl | rfl | rfl | rfl
  · exact .str _ _
  · exact (plArgs _).up (by omega)
  · exact plRows _
  · exact .int _ _
theorem plRankA (a : Option Str) : Pl 1 (rankA a) := by
  cases a <;> exact .str _ _
theorem plRank (p : Pc) : Pl 4 (rankP p) := .tup fun d hd => by
  simp only [List.mem_cons, List.not_mem_nil, or_false] at hd
  rcases hd with rfl | rfl | rfl | rfl
  · exact .str _ _
  · exact (plArgs _).up (by omega)
  · exact .tup fun d hd => by
      obtain ⟨r, _, rfl⟩ := List.mem_map.mp hd
      exact .tup fun d hd => by obtain ⟨a, _, rfl⟩ := List.mem_map.mp hd; exact plRankA a
  · exact .int _ _
theorem plLkA (a : Option Str) : Pl 1 (lkA a) := by
  cases a <;> exact .tup fun d hd => by
    simp only [List.mem_cons, List.not_mem_nil, or_false] at hd
    rcases hd with rfl | rfl
    · exact .int _ _
    · exact .str _ _
theorem plLk (p : Pc) : Pl 4 (lkP p) := .tup fun d hd => by
  simp only [List.mem_cons, List.not_mem_nil, or_false] at hd
  rcases hd with rfl | rfl | rfl | rfl
  · exact .str _ _
  · exact (plArgs _).up (by omega)
  · exact .tup fun d hd => by
      obtain ⟨r, _, rfl⟩ := List.mem_map.mp hd
      exact .tup fun d hd => by obtain ⟨a, _, rfl⟩ := List.mem_map.mp hd; exact plLkA a
  · exact .int _ _
/-! ### the two orders are one -/
section
variable {α : Type} {f g : α → PyData}
theorem alikeMap (h : ∀ x y, alike (f x) (f y) = true) : ∀ xs ys : List α, alikeAll (xs.map f) (ys.map f) = true
  | [], _ => by simp [alikeAll]
  | _ :: _, [] => by simp [alikeAll]
  | x :: xs, y :: ys => by
    show alikeAll (f x :: xs.map f) (f y :: ys.map f) = true
    rw [alikeAll, h x y, alikeMap h xs ys]
    rfl
theorem eqvMap (h : ∀ x y, PyData.eqv (f x) (f y) = PyData.eqv (g x) (g y)) : ∀ xs ys : List α, PyData.eqvAll (xs.map f) (ys.map f) = PyData.eqvAll (xs.map g) (ys.map g)
  | [], [] => rfl
  | [], _ :: _ => by simp [PyData.eqvAll]
  | _ :: _, [] => by simp [PyData.eqvAll]
  | x :: xs, y :: ys => by
    show PyData.eqvAll (f x :: xs.map f) (f y :: ys.map f) = PyData.eqvAll (g x :: xs.map g) (g y :: ys.map g)
    rw [PySem.W.eqv_all_cons, PySem.W.eqv_all_cons, h x y, eqvMap h xs ys]
theorem ltMap (h1 : ∀ x y, alike (f x) (f y) = true) (h2 : ∀ x y, alike (g x) (g y) = true) (he : ∀ x y, PyData.eqv (f x) (f y) = PyData.eqv (g x) (g y)) (hl : ∀ x y, dataLt (f x) (f y) = dataLt (g x) (g y)) :
    ∀ xs ys : List α, PyProof.Rows.lexLt itemOrd (keyToksAll (xs.map f)) (keyToksAll (ys.map f)) = PyProof.Rows.lexLt itemOrd (keyToksAll (xs.map g)) (keyToksAll (ys.map g))
  | [], [] => rfl
  | [], y :: ys => by
    show PyProof.Rows.lexLt itemOrd (keyToksAll []) (keyToksAll (f y :: ys.map f)) = PyProof.Rows.lexLt itemOrd (keyToksAll []) (keyToksAll (g y :: ys.map g))
    simp only [keyToksAll]
    exact (PySem.W.lex_atom (by decide) _ _).trans (PySem.W.lex_atom (by decide) _ _).symm
  | x :: xs, [] => by
    show PyProof.Rows.lexLt itemOrd (keyToksAll (f x :: xs.map f)) (keyToksAll []) = PyProof.Rows.lexLt itemOrd (keyToksAll (g x :: xs.map g)) (keyToksAll [])
    simp only [keyToksAll]
    exact (PySem.W.lex_atom (by decide) _ _).trans (PySem.W.lex_atom (by decide) _ _).symm
  | x :: xs, y :: ys => by
    show PyProof.Rows.lexLt itemOrd (keyToksAll (f x :: xs.map f)) (keyToksAll (f y :: ys.map f)) = PyProof.Rows.lexLt itemOrd (keyToksAll (g x :: xs.map g)) (keyToksAll (g y :: ys.map g))
    rw [PySem.W.dataLt_cons (h1 x y), PySem.W.dataLt_cons (h2 x y), he x y, hl x y, ltMap h1 h2 he hl xs ys]
end
theorem irr (l : List PyData) : PyProof.Rows.lexLt itemOrd (keyToksAll l) (keyToksAll l) = false := PyProof.Rows.lex_irrefl _
theorem alRank (x y : Option Str) : alike (rankA x) (rankA y) = true := by cases x <;> cases y <;> simp [rankA, alike]
theorem dotL (z : Str) : (dot z).cps.toList = 46 :: z.cps.toList := by
  show ((#[46] : Array Nat) ++ z.cps).toList = _
  simp
theorem strIff (a b : Str) : a = b ↔ a.cps.toList = b.cps.toList := ⟨fun e => by rw [e], fun e => PySem.W.str_of_cps e⟩
theorem dotInj (a b : Str) : dot a = dot b ↔ a = b := by
  rw [strIff, strIff, dotL, dotL]
  simp
theorem dotNot (a : Str) : ("" : Str) ≠ dot a := fun e => by
  have := congrArg (fun z : Str => z.cps.toList) e
  rw [dotL] at this
  cases this
theorem alLk (x y : Option Str) : alike (lkA x) (lkA y) = true := by cases x <;> cases y <;> simp [lkA, alike, alikeAll]
theorem eqS (a b : Str) : PyData.eqv (.str a) (.str b) = decide (a = b) := by
  rw [PyData.eqv, Bool.eq_iff_iff, beq_iff_eq, decide_eq_true_eq]
theorem ltSelf (a b : Str) : (if PyData.eqv (.str a) (.str b) = true then false else dataLt (.str a) (.str b)) = dataLt (.str a) (.str b) := by
  rw [eqS]
  by_cases e : a = b
  · subst e
    rw [if_pos (decide_eq_true rfl), PySem.W.dataLt_str]
    exact (decide_eq_false (List.lt_irrefl _)).symm
  · rw [if_neg (by simp [e])]
theorem eqA (x y : Option Str) : PyData.eqv (rankA x) (rankA y) = PyData.eqv (lkA x) (lkA y) := by
  cases x <;> cases y
  · show PyData.eqv (.str "") (.str "") = PyData.eqv (.tuple [.int 0, .str ""]) (.tuple [.int 0, .str ""])
    simp [PyData.eqv, PyData.eqvAll]
  · next b =>
    show PyData.eqv (.str "") (.str (dot b)) = PyData.eqv (.tuple [.int 0, .str ""]) (.tuple [.int 1, .str b])
    rw [eqS, decide_eq_false (dotNot b)]
    simp [PyData.eqv, PyData.eqvAll]
  · next a =>
    show PyData.eqv (.str (dot a)) (.str "") = PyData.eqv (.tuple [.int 1, .str a]) (.tuple [.int 0, .str ""])
    rw [eqS, decide_eq_false (fun e => dotNot a e.symm)]
    simp [PyData.eqv, PyData.eqvAll]
  · next a b =>
    show PyData.eqv (.str (dot a)) (.str (dot b)) = PyData.eqv (.tuple [.int 1, .str a]) (.tuple [.int 1, .str b])
    rw [eqS, show decide (dot a = dot b) = decide (a = b) from decide_eq_decide.mpr (dotInj a b), ← eqS]
    simp [PyData.eqv, PyData.eqvAll]
theorem ltA (x y : Option Str) : dataLt (rankA x) (rankA y) = dataLt (lkA x) (lkA y) := by
  have e0 : alike (.int 0) (.int 0) = true := by simp [alike]
  have e1 : alike (.int 0) (.int 1) = true := by simp [alike]
  have e2 : alike (.int 1) (.int 0) = true := by simp [alike]
  have e3 : alike (.int 1) (.int 1) = true := by simp [alike]
  have es : ∀ a b : Str, alike (.str a) (.str b) = true := fun a b => by simp [alike]
  have n0 : (("" : Str).cps.toList) = [] := rfl
  cases x with
  | none =>
    cases y with
    | none =>
      show dataLt (.str "") (.str "") = dataLt (.tuple [.int 0, .str ""]) (.tuple [.int 0, .str ""])
      rw [PySem.W.dataLt_tuple, irr, PySem.W.dataLt_str, n0]
      rfl
    | some b =>
      show dataLt (.str "") (.str (dot b)) = dataLt (.tuple [.int 0, .str ""]) (.tuple [.int 1, .str b])
      rw [PySem.W.dataLt_pair e1 (es _ _), if_neg (by simp [PyData.eqv]), PySem.W.dataLt_int, PySem.W.dataLt_str, n0, dotL]
      rfl
  | some a =>
    cases y with
    | none =>
      show dataLt (.str (dot a)) (.str "") = dataLt (.tuple [.int 1, .str a]) (.tuple [.int 0, .str ""])
      rw [PySem.W.dataLt_pair e2 (es _ _), if_neg (by simp [PyData.eqv]), PySem.W.dataLt_int, PySem.W.dataLt_str, n0, dotL]
      rfl
    | some b =>
      show dataLt (.str (dot a)) (.str (dot b)) = dataLt (.tuple [.int 1, .str a]) (.tuple [.int 1, .str b])
      rw [PySem.W.dataLt_pair e3 (es _ _), if_pos (by simp [PyData.eqv]), ltSelf, PySem.W.dataLt_str, PySem.W.dataLt_str, dotL, dotL]
      refine decide_eq_decide.mpr ?_
      rw [List.cons_lt_cons_iff]
      simp
theorem lt4 {α : Type} {f g : α → PyData} (al1 : ∀ x y, alike (f x) (f y) = true) (al2 : ∀ x y, alike (g x) (g y) = true) (er : ∀ x y, PyData.eqv (f x) (f y) = PyData.eqv (g x) (g y)) (lr : ∀ x y, dataLt (f x) (f y) = dataLt (g x) (g y))
    (c d : Str) (as bs : List Str) (m n : Int) (xs ys : List α) : dataLt (.tuple [.str c, argsD as, .tuple (xs.map f), .int m]) (.tuple [.str d, argsD bs, .tuple (ys.map f), .int n]) = dataLt (.tuple [.str c, argsD as, .tuple (xs.map g), .int m]) (.tuple [.str d, argsD bs, .tuple (ys.map g), .int n]) := by
  have es : ∀ a b : Str, alike (.str a) (.str b) = true := fun a b => by simp [alike]
  have aa : alike (argsD as) (argsD bs) = true := by unfold argsD; rw [alike]; exact alikeMap es _ _
  have r1 : alike (.tuple (xs.map f)) (.tuple (ys.map f)) = true := by rw [alike]; exact alikeMap al1 _ _
  have r2 : alike (.tuple (xs.map g)) (.tuple (ys.map g)) = true := by rw [alike]; exact alikeMap al2 _ _
  have r3 : PyData.eqv (.tuple (xs.map f)) (.tuple (ys.map f)) = PyData.eqv (.tuple (xs.map g)) (.tuple (ys.map g)) := by rw [PyData.eqv, PyData.eqv]; exact eqvMap er _ _
  have r4 : dataLt (.tuple (xs.map f)) (.tuple (ys.map f)) = dataLt (.tuple (xs.map g)) (.tuple (ys.map g)) := by rw [PySem.W.dataLt_tuple, PySem.W.dataLt_tuple]; exact ltMap al1 al2 er lr _ _
  rw [PySem.W.dataLt_tuple, PySem.W.dataLt_tuple, PySem.W.dataLt_cons (es _ _), PySem.W.dataLt_cons (es _ _), PySem.W.dataLt_cons aa, PySem.W.dataLt_cons aa, PySem.W.dataLt_cons r1, PySem.W.dataLt_cons r2, r3, r4]
theorem ltP (p q : Pc) : dataLt (rankP p) (rankP q) = dataLt (lkP p) (lkP q) :=
  lt4 (fun x y => by unfold rankRow; rw [alike]; exact alikeMap alRank x y) (fun x y => by unfold lkRow; rw [alike]; exact alikeMap alLk x y) (fun x y => by unfold rankRow lkRow; rw [PyData.eqv, PyData.eqv]; exact eqvMap eqA x y)
    (fun x y => by unfold rankRow lkRow; rw [PySem.W.dataLt_tuple, PySem.W.dataLt_tuple]; exact ltMap alRank alLk eqA ltA x y) _ _ _ _ _ _ _ _
/-! ### where None is nowhere among the answers, the places themselves are compared -/
def noN (p : Pc) : Prop := ∀ r ∈ p.rs, none ∉ r
def sRow (r : List Str) : PyData := .tuple (r.map .str)
def lkS (z : Str) : PyData := .tuple [.int 1, .str z]
def lkSRow (r : List Str) : PyData := .tuple (r.map lkS)
theorem noneFree : ∀ {r : List (Option Str)}, none ∉ r → ∃ r' : List Str, r = r'.map some
  | [], _ => ⟨[], rfl⟩
  | none :: _, h => absurd List.mem_cons_self h
  | some z :: r, h => by
    obtain ⟨r', e⟩ := noneFree (r := r) fun y => h (List.mem_cons_of_mem _ y)
    exact ⟨z :: r', by rw [e]; rfl⟩
theorem noneFrees : ∀ {rs : List (List (Option Str))}, (∀ r ∈ rs, none ∉ r) → ∃ rs' : List (List Str), rs = rs'.map fun r => r.map some
  | [], _ => ⟨[], rfl⟩
  | r :: rs, h => by
    obtain ⟨r', e1⟩ := noneFree (h r List.mem_cons_self)
    obtain ⟨rs', e2⟩ := noneFrees (rs := rs) fun y hy => h y (List.mem_cons_of_mem _ hy)
    exact ⟨r' :: rs', by rw [e1, e2]; rfl⟩
theorem noNForm {p : Pc} (h : noN p) : ∃ rs' : List (List Str), pcD p = .tuple [.str p.c, argsD p.as, .tuple (rs'.map sRow), .int p.n] ∧ lkP p = .tuple [.str p.c, argsD p.as, .tuple (rs'.map lkSRow), .int p.n] := by
  obtain ⟨rs', e⟩ := noneFrees h
  refine ⟨rs', ?_, ?_⟩
  · have : p.rs.map rowD = rs'.map sRow := by
      rw [e, List.map_map]
      refine List.map_congr_left fun r _ => ?_
      show PyData.tuple ((r.map some).map ansD) = .tuple (r.map .str)
      rw [List.map_map]
      rfl
    show PyData.tuple [.str p.c, argsD p.as, .tuple (p.rs.map rowD), .int p.n] = _
    rw [this]
  · have : p.rs.map lkRow = rs'.map lkSRow := by
      rw [e, List.map_map]
      refine List.map_congr_left fun r _ => ?_
      show PyData.tuple ((r.map some).map lkA) = .tuple (r.map lkS)
      rw [List.map_map]
      rfl
    show PyData.tuple [.str p.c, argsD p.as, .tuple (p.rs.map lkRow), .int p.n] = _
    rw [this]
theorem alStr (x y : Str) : alike (.str x) (.str y) = true := by simp [alike]
theorem alLkS (x y : Str) : alike (lkS x) (lkS y) = true := by simp [lkS, alike, alikeAll]
theorem alSRow (x y : List Str) : alike (sRow x) (sRow y) = true := by unfold sRow; rw [alike]; exact alikeMap alStr x y
theorem eqLkS (x y : Str) : PyData.eqv (.str x) (.str y) = PyData.eqv (lkS x) (lkS y) := by simp [lkS, PyData.eqv, PyData.eqvAll]
theorem ltLkS (x y : Str) : dataLt (.str x) (.str y) = dataLt (lkS x) (lkS y) := by
  unfold lkS
  rw [PySem.W.dataLt_pair (by simp [alike]) (alStr _ _), if_pos (by simp [PyData.eqv]), ltSelf]
theorem ltN {p q : Pc} (hp : noN p) (hq : noN q) : dataLt (pcD p) (pcD q) = dataLt (lkP p) (lkP q) := by
  obtain ⟨r1, e1, e2⟩ := noNForm hp
  obtain ⟨r2, e3, e4⟩ := noNForm hq
  rw [e1, e2, e3, e4]
  exact lt4 alSRow (fun x y => by unfold lkSRow; rw [alike]; exact alikeMap alLkS x y) (fun x y => by unfold sRow lkSRow; rw [PyData.eqv, PyData.eqv]; exact eqvMap eqLkS x y)
    (fun x y => by unfold sRow lkSRow; rw [PySem.W.dataLt_tuple, PySem.W.dataLt_tuple]; exact ltMap alStr alLkS eqLkS ltLkS x y) _ _ _ _ _ _ _ _
theorem alN {p q : Pc} (hp : noN p) (hq : noN q) : alike (pcD p) (pcD q) = true := by
  obtain ⟨r1, e1, _⟩ := noNForm hp
  obtain ⟨r2, e3, _⟩ := noNForm hq
  have aa : alike (argsD p.as) (argsD q.as) = true := by unfold argsD; rw [alike]; exact alikeMap alStr _ _
  have a1 : alike (.tuple (r1.map sRow)) (.tuple (r2.map sRow)) = true := by rw [alike]; exact alikeMap alSRow _ _
  rw [e1, e3]
  simp only [alike, alikeAll, Bool.and_true, Bool.true_and]
  simp only [alike] at aa a1
  rw [Bool.and_eq_true]
  exact ⟨aa, a1⟩
theorem leP : dataLe false rankP = dataLe false lkP := by
  rw [PySem.W.dataLe_eq, PySem.W.dataLe_eq]
  funext a b
  show (!dataLt (rankP b) (rankP a)) = !dataLt (lkP b) (lkP a)
  rw [ltP]
theorem alRankP (p q : Pc) : alike (rankP p) (rankP q) = true := by
  have es : ∀ a b : Str, alike (.str a) (.str b) = true := fun a b => by simp [alike]
  have al1 : ∀ x y, alike (rankRow x) (rankRow y) = true := fun x y => by unfold rankRow; rw [alike]; exact alikeMap alRank x y
  have aa : alike (argsD p.as) (argsD q.as) = true := by unfold argsD; rw [alike]; exact alikeMap es _ _
  have r1 : alike (.tuple (p.rs.map rankRow)) (.tuple (q.rs.map rankRow)) = true := by rw [alike]; exact alikeMap al1 _ _
  unfold rankP
  simp only [alike, alikeAll, Bool.and_true, Bool.true_and]
  simp only [alike] at aa r1
  rw [Bool.and_eq_true]
  exact ⟨aa, r1⟩
theorem alLkP (p q : Pc) : alike (lkP p) (lkP q) = true := by
  have es : ∀ a b : Str, alike (.str a) (.str b) = true := fun a b => by simp [alike]
  have al1 : ∀ x y, alike (lkRow x) (lkRow y) = true := fun x y => by unfold lkRow; rw [alike]; exact alikeMap alLk x y
  have aa : alike (argsD p.as) (argsD q.as) = true := by unfold argsD; rw [alike]; exact alikeMap es _ _
  have r1 : alike (.tuple (p.rs.map lkRow)) (.tuple (q.rs.map lkRow)) = true := by rw [alike]; exact alikeMap al1 _ _
  unfold lkP
  simp only [alike, alikeAll, Bool.and_true, Bool.true_and]
  simp only [alike] at aa r1
  rw [Bool.and_eq_true]
  exact ⟨aa, r1⟩
/-- the places in order -/
def srt (D : List Pc) : List Pc := D.mergeSort (dataLe false lkP)
theorem sortOf {α : Type} {l : List α} {g : α → PyData} {D : List Pc} {k : Pc → PyData} {e : Pc → PyData} {r : PyData → PyData} (hg : l.map g = D.map e) (hr : ∀ p, r (e p) = k p) (hk : dataLe false k = dataLe false lkP) :
    (l.mergeSort (dataLe false fun x => r (g x))).map g = (srt D).map e := by
  have h1 : (l.mergeSort (dataLe false fun x => r (g x))).map g = (l.map g).mergeSort (dataLe false r) := List.map_mergeSort fun a _ b _ => by
    rw [PySem.W.dataLe_eq, PySem.W.dataLe_eq]
  have h2 : (D.mergeSort (dataLe false k)).map e = (D.map e).mergeSort (dataLe false r) := List.map_mergeSort fun a _ b _ => by
    rw [PySem.W.dataLe_eq, PySem.W.dataLe_eq]
    show cond false _ (!dataLt (k b) (k a)) = cond false _ (!dataLt (r (e b)) (r (e a)))
    rw [hr, hr]
  rw [h1, hg, ← h2, hk]
  rfl
theorem sortOfN {α : Type} {l : List α} {g : α → PyData} {D : List Pc} (hg : l.map g = D.map pcD) (hn : ∀ p ∈ D, noN p) : (l.mergeSort (dataLe false g)).map g = (srt D).map pcD := by
  have h1 : (l.mergeSort (dataLe false g)).map g = (l.map g).mergeSort (dataLe false id) := List.map_mergeSort fun a _ b _ => by
    rw [PySem.W.dataLe_eq, PySem.W.dataLe_eq]
    rfl
  have h2 : (srt D).map pcD = (D.map pcD).mergeSort (dataLe false id) := List.map_mergeSort fun a ha b hb => by
    rw [PySem.W.dataLe_eq, PySem.W.dataLe_eq]
    show (!dataLt (lkP b) (lkP a)) = !dataLt (pcD b) (pcD a)
    rw [ltN (hn b hb) (hn a ha)]
  rw [h1, hg, h2]
end PLC

set_option Elab.async false
set_option linter.all false
set_option maxRecDepth 100000
set_option maxHeartbeats 4000000
/-! places in the layer's heap -/
namespace PLC
open PySem PySem.Spec PyProof.Rows L2 ND KS KS.La
structure Ok (p : Pc) : Prop where
  c : TOk p.c
  as : ∀ a ∈ p.as, TOk a
  al : p.as.length ≤ 4
  rs : ∀ r ∈ p.rs, r.length ≤ 4 ∧ ∀ z, some z ∈ r → TOk z
  rl : p.rs.length ≤ 100
theorem TOk.odS {z : Str} (h : TOk z) : SOk z ∧ z.length ≤ 2000 := ⟨h.1, by have := h.2; omega⟩
theorem odAns {a : Option Str} (h : ∀ z, a = some z → TOk z) : Od 0 (ansD a) := by
  cases a with
  | none => exact .non _
  | some z => exact .str _ (TOk.odS (h z rfl)).1 (TOk.odS (h z rfl)).2
theorem odRow {r : List (Option Str)} (h : r.length ≤ 4 ∧ ∀ z, some z ∈ r → TOk z) : Od 1 (rowD r) := .tup (by rw [List.length_map]; omega) fun d hd => by
  obtain ⟨a, ha, rfl⟩ := List.mem_map.mp hd
  exact odAns fun z e => h.2 z (by rw [← e]; exact ha)
theorem odArgs {as : List Str} (h : ∀ a ∈ as, TOk a) (hl : as.length ≤ 100) : Od 1 (argsD as) := .tup (by rw [List.length_map]; exact hl) fun d hd => by
  obtain ⟨a, ha, rfl⟩ := List.mem_map.mp hd
  exact .str _ (TOk.odS (h a ha)).1 (TOk.odS (h a ha)).2
theorem odRows {rs : List (List (Option Str))} (h : ∀ r ∈ rs, r.length ≤ 4 ∧ ∀ z, some z ∈ r → TOk z) (hl : rs.length ≤ 100) : Od 2 (rowsD rs) := .tup (by rw [List.length_map]; exact hl) fun d hd => by
  obtain ⟨r, hr, rfl⟩ := List.mem_map.mp hd
  exact odRow (h r hr)
theorem odPc {p : Pc} (h : Ok p) : Od 3 (pcD p) := .tup (by show 4 ≤ 100; omega) fun d hd => by
  simp only [List.mem_cons, List.not_mem_nil, or_false] at hd
  rcases hd with rfl | rfl | rfl | rfl
  · exact .str _ (TOk.odS h.c).1 (TOk.odS h.c).2
  · exact (odArgs h.as (by have := h.al; omega)).up (by omega)
  · exact odRows h.rs h.rl
  · exact .int _ _
/-! ### == of plain data is being the same -/
theorem eqvPl {n : Nat} {d : PyData} (h : Pl n d) : ∀ {m : Nat} {e : PyData}, Pl m e → (PyData.eqv d e = true ↔ d = e) := by
  induction h with
  | non => intro m e he; cases he <;> simp [PyData.eqv]
  | int n i => intro m e he; cases he <;> simp [PyData.eqv]
  | str n z => intro m e he; cases he <;> simp [PyData.eqv]
  | @tup n ds h ih =>
    intro m e he
    cases he with
    | @tup m es he =>
      have all : ∀ (l r : List PyData), (∀ d ∈ l, ∀ {m : Nat} {e : PyData}, Pl m e → (PyData.eqv d e = true ↔ d = e)) → (∀ e ∈ r, Pl m e) → (PyData.eqvAll l r = true ↔ l = r) := by
        intro l
        induction l with
        | nil => intro r _ _; cases r <;> simp [PyData.eqvAll]
        | cons x l il =>
          intro r hl hr
          cases r with
          | nil => simp [PyData.eqvAll]
          | cons y r =>
            rw [PySem.W.eqv_all_cons, Bool.and_eq_true, hl x List.mem_cons_self (hr y List.mem_cons_self), il r (fun d hd => hl d (List.mem_cons_of_mem _ hd)) (fun e he => hr e (List.mem_cons_of_mem _ he)), List.cons.injEq]
      rw [PyData.eqv, all ds es ih he, PyData.tuple.injEq]
    | non => simp [PyData.eqv]
    | int => simp [PyData.eqv]
    | str => simp [PyData.eqv]
theorem eqArgs (a b : List Str) : PyData.eqv (argsD a) (argsD b) = decide (a = b) := by
  rw [Bool.eq_iff_iff, eqvPl (plArgs a) (plArgs b), decide_eq_true_eq]
  exact ⟨argsD_inj, fun h => by rw [h]⟩
theorem eqRows (a b : List (List (Option Str))) : PyData.eqv (rowsD a) (rowsD b) = decide (a = b) := by
  rw [Bool.eq_iff_iff, eqvPl (plRows a) (plRows b), decide_eq_true_eq]
  exact ⟨fun h => mapInj rowD_inj (PyData.tuple.inj h), fun h => by rw [h]⟩
theorem eqPc (a b : Pc) : PyData.eqv (pcD a) (pcD b) = true ↔ a = b := by
  rw [eqvPl (plPc a) (plPc b)]
  exact ⟨pcD_inj, fun h => by rw [h]⟩
/-! ### taking a place apart -/
section
variable {K : PySem.W.Frag} {H : Hp}
theorem dpStrs : ∀ {as : List Str} {xs : List V}, DpAll K H xs (as.map .str) → xs = as.map V.str
  | [], _, h => by cases h; rfl
  | a :: as, _, h => by
    cases h with
    | cons h1 h2 =>
      cases h1
      rw [dpStrs h2]
      rfl
theorem strsDp : ∀ (as : List Str), DpAll K H (as.map V.str) (as.map .str)
  | [] => .nil
  | a :: as => .cons (.str a) (strsDp as)
def vA : Option Str → V
  | none => .non
  | some z => .str z
theorem dpAns {a : Option Str} {v : V} (h : Dp K H v (ansD a)) : v = vA a := by
  cases a <;> cases h <;> rfl
theorem ansDp (a : Option Str) : Dp K H (vA a) (ansD a) := by
  cases a
  · exact .non
  · exact .str _
theorem dpRowA : ∀ {r : List (Option Str)} {xs : List V}, DpAll K H xs (r.map ansD) → xs = r.map vA
  | [], _, h => by cases h; rfl
  | a :: r, _, h => by
    cases h with
    | cons h1 h2 =>
      rw [dpAns h1, dpRowA h2]
      rfl
theorem rowADp : ∀ (r : List (Option Str)), DpAll K H (r.map vA) (r.map ansD)
  | [] => .nil
  | a :: r => .cons (ansDp a) (rowADp r)
theorem argsAt {v : V} {as : List Str} (h : Dp K H v (argsD as)) : ∃ b, v = .ref b ∧ SqT K H b (as.map V.str) := by
  cases h with
  | tup hs ha => exact ⟨_, rfl, by rw [← dpStrs ha]; exact hs⟩
theorem argsDp {b : Addr} {as : List Str} (h : SqT K H b (as.map V.str)) : Dp K H (.ref b) (argsD as) := .tup h (strsDp as)
theorem rowAt {v : V} {r : List (Option Str)} (h : Dp K H v (rowD r)) : ∃ b, v = .ref b ∧ SqT K H b (r.map vA) := by
  cases h with
  | tup hs ha => exact ⟨_, rfl, by rw [← dpRowA ha]; exact hs⟩
theorem rowDp {b : Addr} {r : List (Option Str)} (h : SqT K H b (r.map vA)) : Dp K H (.ref b) (rowD r) := .tup h (rowADp r)
theorem rowsAt {v : V} {rs : List (List (Option Str))} (h : Dp K H v (rowsD rs)) : ∃ b xs, v = .ref b ∧ SqT K H b xs ∧ DpAll K H xs (rs.map rowD) := by
  cases h with
  | tup hs ha => exact ⟨_, _, rfl, hs, ha⟩
theorem pcAt {v : V} {p : Pc} (h : Dp K H v (pcD p)) : ∃ a va vr, v = .ref a ∧ SqT K H a [.str p.c, va, vr, .int p.n] ∧ Dp K H va (argsD p.as) ∧ Dp K H vr (rowsD p.rs) := by
  cases h with
  | tup hs ha =>
    cases ha with
    | cons h1 r =>
      cases r with
      | cons h2 r =>
        cases r with
        | cons h3 r =>
          cases r with
          | cons h4 r =>
            cases r
            cases h1
            cases h4
            exact ⟨_, _, _, rfl, hs, h2, h3⟩
theorem pcMk {a : Addr} {p : Pc} {va vr : V} (hs : SqT K H a [.str p.c, va, vr, .int p.n]) (ha : Dp K H va (argsD p.as)) (hr : Dp K H vr (rowsD p.rs)) : Dp K H (.ref a) (pcD p) := .tup hs (.cons (.str _) (.cons ha (.cons hr (.cons (.int _) .nil))))
end
theorem TS.lst {H : Hp} {D : Addr} {xs : List V} {o : HO} (h : H D = some (.lst xs)) : TS H (upd H D o) := fun a u e t => by
  rw [upd_ne fun z => ?_]
  · exact e
  · rw [z, h] at e
    have e2 := Option.some.inj e
    rcases t with ⟨xs, rfl⟩ | ⟨p, xs, rfl⟩ <;> cases e2
theorem allPl {K : PySem.W.Frag} {H H' : Hp} {n : Nat} {ds : List PyData} {xs : List V} (pl : ∀ d ∈ ds, Pl n d) (k : TS H H') (h : DpAll K H xs ds) : DpAll K H' xs ds := allTS (fun d hd => dpTS k (pl d hd)) h
/-- [e for x in t], t a tuple: each item gives new data -/
theorem lcMapN {K : PySem.W.Frag} {a : Addr} {xs : List V} {ds : List PyData} {j n : Nat} {te : TE} {σ : L2.St} {H1 : Hp} {D : Addr} {Qd : Hp → Prop} (g : PyData → PyData) (ha : SqT K H1 a xs) (hx : DpAll K H1 xs ds) (pl : ∀ d ∈ ds, Pl n (g d)) (hn : ds.length ≤ 1000) (hD : H1 D = none) (hw : ∀ v, wipe ((wipe σ [j]).set j (some v)) [j] = wipe σ [j])
    (hs : ∀ v d H, d ∈ ds → Same H1 H → Dp K H v d → ∀ (R : VK), (∀ y H2, Same H H2 → Dp K H2 y (g d) → R y H2) → te ((wipe σ [j]).set j (some v)) H R)
    (hd : ∀ H ys, Same H1 H → H D = some (.lst ys) → DpAll K H ys (ds.map g) → Qd H) :
    ∃ W : Nat → Nat → Hp → Prop, (∃ m, W 0 m (upd H1 D (.lst []))) ∧ ∀ i m H, W i m H →
      ((Itt K a).stop i H ∧ Qd H) ∨ ((Itt K a).go i H ∧ ∃ Nx : Hp → Prop, (∀ H', Nx H' → ∃ m', m' < m ∧ W (i + 1) m' H') ∧ ∀ x H', (Itt K a).yld i H x H' → gName j x (wipe σ [j]) H' fun σ2 H2 => wipe σ2 [j] = wipe σ [j] ∧ tYes σ2 H2 fun b H3 =>
        if b = true then te σ2 H3 fun y H4 => ∃ acc, H4 D = some (.lst acc) ∧ acc.length < sizeLine ∧ Nx (upd H4 D (.lst (acc ++ [y]))) else Nx H3) := by
  have hl := dpLen hx
  refine lcJ (n := ds.length) (fun i H => ∃ ys, At H1 D ys H ∧ DpAll K H ys ((ds.take i).map g)) ⟨[], ⟨sameUpd hD, upd_same⟩, .nil⟩ (fun i H lt h => ⟨xs, xs[i], sameTup h.choose_spec.1.1 ha, List.getElem?_eq_getElem (by omega)⟩)
    (fun H h => ⟨xs, sameTup h.choose_spec.1.1 ha, by omega⟩) (fun i H x H' lt h y => ?_) (fun H h => ?_)
  · obtain ⟨ys, hat, hys⟩ := h
    obtain ⟨rfl, y⟩ := y
    have e := y xs (sameTup hat.1 ha)
    obtain ⟨v, h1, h2⟩ := dpAt hx (List.getElem?_eq_getElem lt)
    obtain rfl : v = x := Option.some.inj (h1.symm.trans e)
    refine ⟨hw v, ?_⟩
    unfold tYes
    dsimp only
    rw [if_pos rfl]
    refine hs v ds[i] _ (List.getElem_mem lt) hat.1 (dpSame hat.1 _ _ h2) _ fun z H2 s2 hz => ?_
    obtain ⟨e3, e4⟩ := hat.put (ys := ys ++ [z]) hD s2
    have hly := dpLen hys
    refine ⟨_, e3, ?_, _, e4, ?_⟩
    · rw [hly, List.length_map, List.length_take, sizeLine_eq]
      omega
    · rw [List.take_succ_eq_append_getElem lt, List.map_append]
      have t := TS.lst (o := .lst (ys ++ [z])) e3
      refine dpSnoc (dpTS t (pl _ (List.getElem_mem lt)) _ hz) (allPl (n := n) (fun d hd => ?_) t (dpAllSame s2 _ _ hys))
      obtain ⟨c, hc, rfl⟩ := List.mem_map.mp hd
      exact pl c (List.mem_of_mem_take hc)
  · obtain ⟨ys, hat, hys⟩ := h
    rw [List.take_length] at hys
    exact hd H ys hat.1 hat.2 hys
end PLC

set_option Elab.async false
set_option linter.all false
set_option maxRecDepth 100000
set_option maxHeartbeats 4000000
namespace PLC
open PySem PySem.Spec PyProof.Rows L2 ND KS KS.La
abbrev sAW : Stmt := top 1
abbrev sAR : Stmt := top 2
abbrev sBeh : Stmt := top 3
abbrev sOrd : Stmt := top 4
abbrev sOrdered : Stmt := top 5
abbrev sRank : Stmt := top 6
abbrev sRankA : Stmt := top 7
def spAW (K : PySem.W.Frag) : Sp := fun vs H Q _ => ∃ v p, vs = [v] ∧ Dp K H v (pcD p) ∧ ∀ r H', Same H H' → Dp K H' r (pcD { p with n := p.n + 1 }) → Q r H'
def spAR (K : PySem.W.Frag) : Sp := fun vs H Q _ => ∃ v u p row, vs = [v, u] ∧ Dp K H v (pcD p) ∧ p.rs.length ≤ 100 ∧ Dp K H u (rowD row) ∧ ∀ r H', Same H H' → Dp K H' r (pcD { p with rs := p.rs ++ [row], n := 0 }) → Q r H'
def beh (p q : Pc) : Bool := if p.c = q.c ∧ p.as = q.as then (if p.rs = q.rs then decide (q.n < p.n) else decide (p.rs.take q.rs.length = q.rs)) else false
def spBeh (K : PySem.W.Frag) : Sp := fun vs H Q _ => ∃ v u p q, vs = [v, u] ∧ Dp K H v (pcD p) ∧ Ok p ∧ Dp K H u (pcD q) ∧ Ok q ∧ ∀ H', Same H H' → Q (.bl (beh p q)) H'
theorem cutAny {K : PySem.W.Frag} {H : Hp} {a : Addr} {xs : List V} {lo hi : Option Int} {Q : VK} (ha : SqT K H a xs) (q : ∀ p H', SqT K H' p (cutV xs lo hi) → Same H H' → Q (.ref p) H') : rSlA K (.ref a) lo hi H Q := by
  refine ⟨a, xs, rfl, ha, fun h => ?_, fun _ p hp => q p _ (.inl (.inl upd_same)) (sameUpd hp)⟩
  refine q a H ?_ (Same.refl H)
  unfold cutV
  rw [h.1, h.2, List.drop_zero, Nat.sub_zero, List.take_length]
  exact ha
theorem cutTake (xs : List V) (j : Nat) : cutV xs none (some (j : Int)) = xs.take j := by
  unfold cutV
  rw [HT.sIx_nat, HT.sIx_none, List.drop_zero, Nat.sub_zero]
  rcases Nat.le_total j xs.length with h | h
  · rw [Nat.min_eq_left h]
  · rw [Nat.min_eq_right h, List.take_of_length_le h, List.take_of_length_le (Nat.le_refl _)]
theorem allTake {K : PySem.W.Frag} {H : Hp} : ∀ (j : Nat) {xs : List V} {ds : List PyData}, DpAll K H xs ds → DpAll K H (xs.take j) (ds.take j)
  | 0, _, _, _ => .nil
  | j + 1, _, _, .nil => by rw [List.take_nil, List.take_nil]; exact .nil
  | j + 1, _, _, .cons h r => .cons h (allTake j r)
section
variable {P : Program} {w : World} {K : PySem.W.Frag} {mg : Str → Option Value} {base : Heap} {f : Addr} {fd : FuncData}
theorem scAW : FnScope ["place", "recipe", "arguments", "answers", "count"] ["place"] (defScope sAW) := ⟨rfl, rfl, rfl, by decide +kernel, rfl, by decide +kernel, by decide +kernel⟩
theorem okAW {k : Nat} (F : FnP K "after_write" sAW f fd) : FnOk P w K mg base CX0 (k + 1) f fd ["place"] (spAW K) := by
  refine F.ok scAW (fun vs H Q E h => ?_) (fun cdv A outer s H vs Q E hr h => ?_)
  · obtain ⟨v, p, rfl, _⟩ := h
    rfl
  · obtain ⟨v, p, rfl, hd, q⟩ := h
    obtain ⟨a, va, vr, rfl, hs, ha, hv⟩ := pcAt hd
    refine ⟨_, PSs.nox (pss_cons (ps_asg (pv 0) (pg_tup rfl (pgs_cons (pg_name (i := 1) scAW.nd rfl (.inl rfl)) (pgs_cons (pg_name (i := 2) scAW.nd rfl (.inl rfl)) (pgs_cons (pg_name (i := 3) scAW.nd rfl (.inl rfl)) (pgs_cons (pg_name (i := 4) scAW.nd rfl (.inl rfl)) pgs_nil)))))) (pss_one (ps_ret (pe_tup (pa_cons (pv 1) (pa_cons (pv 2) (pa_cons (pv 3) (pa_cons (pe_op op_add (pv 4) pe_int) pa_nil)))))))), ?_⟩
    refine ⟨.ref a, rfl, a, _, rfl, hs, rfl, _, _, rfl, _, _, rfl, _, _, rfl, _, _, rfl, rfl, ?_⟩
    refine ⟨.str p.c, rfl, va, rfl, vr, rfl, .int p.n, rfl, p.n, 1, rfl, rfl, (by show 4 ≤ sizeLine; decide), fun t ht => ?_⟩
    have s1 := sameUpd (o := .tup [.str p.c, va, vr, .int (p.n + 1)]) ht
    exact q _ _ s1 (pcMk (p := { p with n := p.n + 1 }) (.inl (.inl upd_same)) (dpSame s1 _ _ ha) (dpSame s1 _ _ hv))
abbrev nAR : List Str := ["place", "answers", "recipe", "arguments", "rows", "_"]
theorem scAR : FnScope nAR ["place", "answers"] (defScope sAR) := ⟨rfl, rfl, rfl, by decide +kernel, rfl, by decide +kernel, by decide +kernel⟩
theorem okAR {k : Nat} (F : FnP K "after_read" sAR f fd) : FnOk P w K mg base CX0 (k + 1) f fd ["place", "answers"] (spAR K) := by
  refine F.ok scAR (fun vs H Q E h => ?_) (fun cdv A outer s H vs Q E hr h => ?_)
  · obtain ⟨v, u, p, row, rfl, _⟩ := h
    rfl
  · obtain ⟨v, u, p, row, rfl, hd, hl, hu, q⟩ := h
    obtain ⟨a, va, vr, rfl, hs, ha, hv⟩ := pcAt hd
    obtain ⟨b, xs, rfl, hb, hx⟩ := rowsAt hv
    refine ⟨_, PSs.nox (pss_cons (ps_asg (pv 0) (pg_tup rfl (pgs_cons (pg_name (i := 2) scAR.nd rfl (.inl rfl)) (pgs_cons (pg_name (i := 3) scAR.nd rfl (.inl rfl)) (pgs_cons (pg_name (i := 4) scAR.nd rfl (.inl rfl)) (pgs_cons (pg_name (i := 5) scAR.nd rfl (.inl rfl)) pgs_nil)))))) (pss_one (ps_ret (pe_tup (pa_cons (pv 2) (pa_cons (pv 3) (pa_cons (pe_tup (StX.pa_star (pv 4) (pa_cons (pv 1) pa_nil))) (pa_cons (pe_int) pa_nil)))))))), ?_⟩
    refine ⟨.ref a, rfl, a, _, rfl, hs, rfl, _, _, rfl, _, _, rfl, _, _, rfl, _, _, rfl, rfl, ?_⟩
    have hlx := dpLen hx
    rw [List.length_map] at hlx
    refine ⟨.str p.c, rfl, va, rfl, .ref b, rfl, b, xs, rfl, .inl hb, u, rfl, by rw [List.length_append, sizeLine_eq]; show xs.length + 1 ≤ _; omega, fun t ht => ⟨(by show 4 ≤ sizeLine; decide), fun t2 ht2 => ?_⟩⟩
    have s1 := sameUpd (o := .tup (xs ++ [u])) ht
    have s2 := sameUpd (o := .tup [.str p.c, va, .ref t, .int 0]) ht2
    have sA := s1.trans s2
    refine q _ _ sA (pcMk (p := { p with rs := p.rs ++ [row], n := 0 }) (.inl (.inl upd_same)) (dpSame sA _ _ ha) (.tup (sameTup s2 (.inl (.inl upd_same))) ?_))
    rw [List.map_append]
    exact dpSnoc (dpSame sA _ _ hu) (dpAllSame sA _ _ hx)
abbrev nBeh : List Str := ["place", "other", "recipe", "arguments", "answers", "count", "other_recipe", "other_arguments", "other_answers", "other_count"]
theorem scBeh : FnScope nBeh ["place", "other"] (defScope sBeh) := ⟨rfl, rfl, rfl, by decide +kernel, rfl, by decide +kernel, by decide +kernel⟩
theorem okBeh {k : Nat} (F : FnP K "is_behind" sBeh f fd) (B : Bn mg) : FnOk P w K mg base CX0 (k + 1) f fd ["place", "other"] (spBeh K) := by
  refine F.ok scBeh (fun vs H Q E h => ?_) (fun cdv A outer s H vs Q E hr h => ?_)
  · obtain ⟨v, u, p, q, rfl, _⟩ := h
    rfl
  · obtain ⟨v, u, p, q, rfl, hd, hp, he, hq, qq⟩ := h
    obtain ⟨a, va, vr, rfl, hs, ha, hv⟩ := pcAt hd
    obtain ⟨a2, va2, vr2, rfl, hs2, ha2, hv2⟩ := pcAt he
    obtain ⟨b, xs, rfl, hb, hx⟩ := rowsAt hv
    obtain ⟨b2, xs2, rfl, hb2, hx2⟩ := rowsAt hv2
    refine ⟨_, PSs.nox (pss_cons (ps_asg (pv 0) (pg_tup rfl (pgs_cons (pg_name (i := 2) scBeh.nd rfl (.inl rfl)) (pgs_cons (pg_name (i := 3) scBeh.nd rfl (.inl rfl)) (pgs_cons (pg_name (i := 4) scBeh.nd rfl (.inl rfl)) (pgs_cons (pg_name (i := 5) scBeh.nd rfl (.inl rfl)) pgs_nil)))))) (pss_cons (ps_asg (pv 1) (pg_tup rfl (pgs_cons (pg_name (i := 6) scBeh.nd rfl (.inl rfl)) (pgs_cons (pg_name (i := 7) scBeh.nd rfl (.inl rfl)) (pgs_cons (pg_name (i := 8) scBeh.nd rfl (.inl rfl)) (pgs_cons (pg_name (i := 9) scBeh.nd rfl (.inl rfl)) pgs_nil)))))) (pss_cons (ps_if (PW.pt (pw_or (pt_cmpR op_ne (pv 2) (pv 6) (nomark _)) (pw_or1 (pt_cmpR (r := rNeD K) (op_neD hr.units) (pv 3) (pv 7) (nomark _))))) (pss_one (ps_ret pe_bl)) pss_nil) (pss_cons (ps_if (pt_cmpR (r := rEqD K) (op_eqD hr.units) (pv 4) (pv 8) (nomark _)) (pss_one (ps_ret (pe_cmpR op_lt (pv 9) (pv 5) (nomark _)))) pss_nil) (pss_one (ps_ret (pe_cmpR (r := rEqD K) (op_eqD hr.units) (pe_slice sl_tupA (pv 4) po_none (po_some (pe_callB call_len_seq (by rfl) B.len PySem.boot_len (pa_cons (pv 8) pa_nil)))) (pv 8) (nomark _)))))))), ?_⟩
    refine ⟨.ref a, rfl, a, _, rfl, hs, rfl, _, _, rfl, _, _, rfl, _, _, rfl, _, _, rfl, rfl, ?_⟩
    refine ⟨.ref a2, rfl, a2, _, rfl, hs2, rfl, _, _, rfl, _, _, rfl, _, _, rfl, _, _, rfl, rfl, ?_⟩
    have sa := (odArgs hp.as (by have := hp.al; omega)).shaped (by omega)
    have sa2 := (odArgs hq.as (by have := hq.al; omega)).shaped (by omega)
    have sr := (odRows hp.rs hp.rl).shaped (by omega)
    have sr2 := (odRows hq.rs hq.rl).shaped (by omega)
    refine ⟨.str p.c, rfl, .str q.c, rfl, rfl, _, rfl, ?_⟩
    rcases (Decidable.em (p.c = q.c)).symm with hc | hc
    · have e1 : (!decide (V.str p.c = V.str q.c)) = true := by rw [decide_eq_false (fun z => hc (V.str.inj z))]; rfl
      rw [e1]
      refine iteT (iteT ?_)
      have : beh p q = false := if_neg fun z => hc z.1
      rw [← this]
      exact qq H (Same.refl H)
    have e1 : (!decide (V.str p.c = V.str q.c)) = false := by rw [decide_eq_true (congrArg V.str hc)]; rfl
    rw [e1]
    refine iteF ⟨va, rfl, va2, rfl, argsD p.as, argsD q.as, ha, ha2, sa, sa2, _, rfl, ?_⟩
    rw [eqArgs]
    rcases (Decidable.em (p.as = q.as)).symm with has | has
    · rw [decide_eq_false has]
      refine iteT ?_
      have : beh p q = false := if_neg fun z => has z.2
      rw [← this]
      exact qq H (Same.refl H)
    rw [decide_eq_true has]
    refine iteF ⟨.ref b, rfl, .ref b2, rfl, rowsD p.rs, rowsD q.rs, hv, hv2, sr, sr2, _, rfl, ?_⟩
    have hb0 : beh p q = if p.rs = q.rs then decide (q.n < p.n) else decide (p.rs.take q.rs.length = q.rs) := if_pos ⟨hc, has⟩
    rw [eqRows]
    by_cases hrs : p.rs = q.rs
    · rw [decide_eq_true hrs]
      rw [if_pos hrs] at hb0
      refine iteT ⟨.int q.n, rfl, .int p.n, rfl, q.n, p.n, rfl, rfl, ?_⟩
      show Q (.bl (decide (q.n < p.n))) H
      rw [← hb0]
      exact qq H (Same.refl H)
    · rw [decide_eq_false hrs]
      rw [if_neg hrs] at hb0
      have hl2 := dpLen hx2
      rw [List.length_map] at hl2
      refine iteF ⟨.ref b, rfl, .ref b2, rfl, b2, xs2, rfl, .inr hb2, (xs2.length : Int), rfl, cutAny hb fun t H1 ht s1 => ?_⟩
      rw [cutTake] at ht
      have dt : Dp K H1 (.ref t) (rowsD (p.rs.take xs2.length)) := by
        refine .tup ht ?_
        rw [List.map_take]
        exact allTake _ (dpAllSame s1 _ _ hx)
      refine ⟨.ref b2, rfl, _, _, dt, dpSame s1 _ _ hv2, (odRows (fun r hr => hp.rs r (List.mem_of_mem_take hr)) (by rw [List.length_take]; have := hp.rl; omega)).shaped (by omega), sr2, ?_⟩
      show Q (.bl (PyData.eqv (rowsD (p.rs.take xs2.length)) (rowsD q.rs))) H1
      rw [eqRows, hl2, ← hb0]
      exact qq H1 s1
end
end PLC

set_option Elab.async false
set_option linter.all false
set_option maxRecDepth 100000
set_option maxHeartbeats 4000000
namespace PLC
open PySem PySem.Spec PyProof.Rows L2 ND KS KS.La
instance : DecidableEq Pc := fun a b => if h : a.c = b.c ∧ a.as = b.as ∧ a.rs = b.rs ∧ a.n = b.n then isTrue (by
    cases a
    cases b
    obtain ⟨h1, h2, h3, h4⟩ := h
    simp only at h1 h2 h3 h4
    subst h1 h2 h3 h4
    rfl) else isFalse fun e => h (by rw [e]; exact ⟨rfl, rfl, rfl, rfl⟩)
def ins (l : List Pc) (p : Pc) : List Pc := if p ∈ l then l else l ++ [p]
/-- each once, as they come -/
def dd (ds : List Pc) : List Pc := ds.foldl ins []
theorem dd_snoc (ds : List Pc) (p : Pc) : dd (ds ++ [p]) = ins (dd ds) p := by
  unfold dd
  rw [List.foldl_append]
  rfl
theorem storeIns {e : Pc → PyData} (pe : ∀ p, Pl 8 (e p)) (inj : ∀ {p q : Pc}, e p = e q → p = q) {kvs : List KvD} {l : List Pc} (h : kvs.map (·.1) = l.map e) (p : Pc) (a : Addr) (v : V) : (storeD kvs (e p) a v).map (·.1) = (ins l p).map e := by
  have h1 : (kvs.any fun q => decide (keyD q.1 = keyD (e p))) = decide (p ∈ l) := by
    have h2 : (kvs.any fun q => decide (keyD q.1 = keyD (e p))) = (kvs.map (·.1)).any fun d => decide (keyD d = keyD (e p)) := by rw [List.any_map]; rfl
    rw [h2, h, Bool.eq_iff_iff, List.any_eq_true, decide_eq_true_eq]
    constructor
    · rintro ⟨d, hd, hk⟩
      obtain ⟨q, hq, rfl⟩ := List.mem_map.mp hd
      rw [← inj (keyInj (pe q) (pe p) (of_decide_eq_true hk))]
      exact hq
    · intro hp
      exact ⟨e p, List.mem_map_of_mem hp, decide_eq_true rfl⟩
  unfold storeD ins
  rw [h1]
  by_cases hp : p ∈ l
  · rw [decide_eq_true hp, if_pos rfl, if_pos hp, List.map_map, ← h]
    refine List.map_congr_left fun q _ => ?_
    show (if keyD q.1 = keyD (e p) then (q.1, q.2.1, v) else q).1 = q.1
    split <;> rfl
  · rw [decide_eq_false hp, if_neg (by simp), if_neg hp, List.map_append, List.map_append, h]
    rfl
theorem ndStep {P : Program} {w : World} {K : PySem.W.Frag} {G : Hp} {D a : Addr} {kvs : List KvD} {e : PyData} {v : V} (n : Nd P w K G D kvs) (he : Dp K G (.ref a) e) (pl : Pl 8 e) : Nd P w K (upd G D (ndO P w D ((storeD kvs e a v).map kn))) D (storeD kvs e a v) := by
  refine ⟨upd_same, fun q hq => ?_⟩
  have t : TS G (upd G D (ndO P w D ((storeD kvs e a v).map kn))) := TS.put n.o
  rcases storeKeys hq with ⟨p, hp, e1, e2⟩ | ⟨e1, e2⟩
  · obtain ⟨p1, p2⟩ := n.k p hp
    rw [← e1, ← e2]
    exact ⟨p1, dpTS t p1 _ p2⟩
  · rw [e1, e2]
    exact ⟨pl, dpTS t pl _ he⟩
section
variable {P : Program} {w : World} {K : PySem.W.Frag} {mg : Str → Option Value} {base : Heap} {f : Addr} {fd : FuncData}
def spRA (K : PySem.W.Frag) : Sp := fun vs H Q _ => ∃ v r, vs = [v] ∧ Dp K H v (rowD r) ∧ r.length ≤ 100 ∧ (∀ z, some z ∈ r → z.length ≤ 2000) ∧ ∀ y H', Same H H' → Dp K H' y (rankRow r) → Q y H'
abbrev nRA : List Str := ["answers", "answer"]
theorem scRA : FnScope nRA ["answers"] (defScope sRankA) := ⟨rfl, rfl, rfl, by decide +kernel, rfl, by decide +kernel, by decide +kernel⟩
theorem okRA {k : Nat} (F : FnP K "_rank_of_answers" sRankA f fd) (B : Bn mg) : FnOk P w K mg base CX0 (k + 1) f fd ["answers"] (spRA K) := by
  refine F.ok scRA (fun vs H Q E h => ?_) (fun cdv A outer s H vs Q E hr h => ?_)
  · obtain ⟨v, r, rfl, _⟩ := h
    rfl
  · obtain ⟨v, r, rfl, hd, hl, hz, q⟩ := h
    refine ⟨_, PSs.nox (pss_one (ps_ret (pe_callTy call_tuple_of (by rfl) B.tuple (by decide +kernel) (pa_cons (pe_lc (own := [("answer", 1)]) (g := gName 1) rfl scRA.nd (pi_tup (pv 0)) (blkOk_by (N := nRA) (sc := defScope sRankA) (by decide +kernel))
      (fun _ _ _ _ _ => pg_name (i := 1) scRA.nd rfl (.inl rfl) (hf := .inr rfl)) (fun _ _ _ _ _ => pts_nil) (fun _ _ _ _ _ => pe_ifExp (pt_cmpR op_isN (pv 1) pe_non (nomark _)) pe_str (pe_op op_add_str pe_str (pv 1)))) pa_nil)))), ?_⟩
    cases hd with
    | @tup b xs _ hs ha =>
      refine ⟨.ref b, rfl, b, rfl, ⟨_, hs⟩, fun D hD => ?_⟩
      refine lcMapN (n := 1) aRank hs ha (fun d hd => ?_) (by rw [List.length_map]; omega) hD (fun v => rfl) (fun v d H1 hd s1 hv R hR => ?_) (fun H1 ys s1 e1 hys => ?_)
      · obtain ⟨a, _, rfl⟩ := List.mem_map.mp hd
        rw [aRank_eq]
        exact plRankA a
      · obtain ⟨a, ha, rfl⟩ := List.mem_map.mp hd
        rw [aRank_eq] at hR
        cases a with
        | none =>
          cases hv
          exact ⟨.non, rfl, rfl, _, rfl, iteT (hR _ _ (Same.refl _) (.str _))⟩
        | some z =>
          cases hv
          have lz := hz z ha
          exact ⟨.str z, rfl, rfl, _, rfl, iteF ⟨.str z, rfl, ".", z, rfl, rfl, by rw [sizeLine_eq]; show 1 + z.length ≤ _; omega, hR _ _ (Same.refl _) (.str (dot z))⟩⟩
      · refine ⟨D, ys, rfl, .inl ⟨.inl (.inl e1), fun T hT => ?_⟩⟩
        have s2 := sameUpd (o := .tup ys) hT
        refine q _ _ (s1.trans s2) (.tup (.inl (.inl upd_same)) ?_)
        have e2 : (r.map ansD).map aRank = r.map rankA := by
          rw [List.map_map]
          exact List.map_congr_left fun a _ => aRank_eq a
        rw [← e2]
        exact dpAllSame s2 _ _ hys
def isPc (d : PyData) : Prop := ∃ p, Ok p ∧ d = pcD p
abbrev nRank : List Str := ["place", "recipe", "arguments", "answers", "count", "row"]
theorem scRank : FnScope nRank ["place"] (defScope sRank) := ⟨rfl, rfl, rfl, by decide +kernel, rfl, by decide +kernel, by decide +kernel⟩
theorem okRank {k : Nat} (F : FnP K "_rank" sRank f fd) (B : Bn mg) (Ra : Has P w K mg base (k + 1) "_rank_of_answers" ["answers"] (spRA K)) : FnOk P w K mg base CX0 (k + 2) f fd ["place"] (spKey K isPc rankD) := by
  obtain ⟨fR, fdR, gR, kR, bR, GR⟩ := Ra.ex
  refine F.ok scRank (fun vs H Q E h => ?_) (fun cdv A outer s H vs Q E hr h => ?_)
  · obtain ⟨v, d, rfl, _⟩ := h
    rfl
  · obtain ⟨v, d, rfl, hd, ⟨p, hp, rfl⟩, q⟩ := h
    obtain ⟨a, va, vr, rfl, hs, ha, hv⟩ := pcAt hd
    obtain ⟨b, xs, rfl, hb, hx⟩ := rowsAt hv
    refine ⟨_, PSs.nox (pss_cons (ps_asg (pv 0) (pg_tup rfl (pgs_cons (pg_name (i := 1) scRank.nd rfl (.inl rfl)) (pgs_cons (pg_name (i := 2) scRank.nd rfl (.inl rfl)) (pgs_cons (pg_name (i := 3) scRank.nd rfl (.inl rfl)) (pgs_cons (pg_name (i := 4) scRank.nd rfl (.inl rfl)) pgs_nil)))))) (pss_one (ps_ret (pe_tup (pa_cons (pv 1) (pa_cons (pv 2) (pa_cons (pe_callTy call_tuple_of (by rfl) B.tuple (by decide +kernel) (pa_cons (pe_lc (own := [("row", 5)]) (g := gName 5) rfl scRank.nd (pi_tup (pv 3)) (blkOk_by (N := nRank) (sc := defScope sRank) (by decide +kernel))
        (fun _ _ _ _ _ => pg_name (i := 5) scRank.nd rfl (.inl rfl) (hf := .inr rfl)) (fun _ _ _ _ _ => pts_nil) (fun _ _ _ _ _ => pe_call GR hr (by rfl) gR kR bR .nil pass0 (pa_cons (pv 5) pa_nil))) pa_nil)) (pa_cons (pv 4) pa_nil)))))))), ?_⟩
    refine ⟨.ref a, rfl, a, _, rfl, hs, rfl, _, _, rfl, _, _, rfl, _, _, rfl, _, _, rfl, rfl, ?_⟩
    refine ⟨.str p.c, rfl, va, rfl, .ref b, rfl, b, rfl, ⟨_, hb⟩, fun D hD => ?_⟩
    refine lcMapN (n := 2) rRank hb hx (fun d hd => ?_) (by rw [List.length_map]; have := hp.rl; omega) hD (fun v => rfl) (fun v d H1 hd s1 hv R hR => ?_) (fun H1 ys s1 e1 hys => ?_)
    · obtain ⟨r, _, rfl⟩ := List.mem_map.mp hd
      rw [rRank_eq]
      exact .tup fun d hd => by obtain ⟨a, _, rfl⟩ := List.mem_map.mp hd; exact plRankA a
    · obtain ⟨r, hr2, rfl⟩ := List.mem_map.mp hd
      rw [rRank_eq] at hR
      exact ⟨v, rfl, v, r, rfl, hv, by have := (hp.rs r hr2).1; omega, fun z hz => by have := ((hp.rs r hr2).2 z hz).2; omega, fun y H2 s2 hy => hR y H2 s2 hy⟩
    · refine ⟨D, ys, rfl, .inl ⟨.inl (.inl e1), fun T hT => ?_⟩⟩
      have s2 := sameUpd (o := .tup ys) hT
      refine ⟨.int p.n, rfl, (by show 4 ≤ sizeLine; decide), fun U hU => ?_⟩
      have s3 := sameUpd (o := .tup [.str p.c, va, .ref T, .int p.n]) hU
      have sA := (s1.trans s2).trans s3
      refine q _ _ sA ?_
      rw [rankD_eq]
      have e2 : (p.rs.map rowD).map rRank = p.rs.map rankRow := by
        rw [List.map_map]
        exact List.map_congr_left fun a _ => rRank_eq a
      rw [e2] at hys
      exact .tup (.inl (.inl upd_same)) (.cons (.str _) (.cons (dpSame sA _ _ ha) (.cons (.tup (sameTup s3 (.inl (.inl upd_same))) (dpAllSame (s2.trans s3) _ _ hys)) (.cons (.int _) .nil))))
/-! ### in order -/
def Ordered (K : PySem.W.Frag) (H : Hp) (ds : List Pc) (Q : VK) : Prop := ∀ r ys H', Same H H' → H r = none → H' r = some (.lst ys) → DpAll K H' ys ((srt (dd ds)).map pcD) → Q (.ref r) H'
def spOrd (K : PySem.W.Frag) (tup : Bool) : Sp := fun vs H Q _ => ∃ l xs ds, vs = [.ref l] ∧ (if tup = true then SqT K H l xs else SqL K H l xs) ∧ DpAll K H xs (ds.map pcD) ∧ (∀ p ∈ ds, Ok p) ∧ ds.length ≤ 1000 ∧ Ordered K H ds Q
/-- {place: True for place in places} -/
theorem ndcJ {J : It} {xs : List V} {ds : List Pc} {σ : L2.St} {H1 : Hp} {D : Addr} {Qd : Hp → Prop} {j : Nat} (hx : DpAll K H1 xs (ds.map pcD)) (hn : ds.length ≤ 1000) (hD : H1 D = none) (hw : ∀ v, wipe ((wipe σ [j]).set j (some v)) [j] = wipe σ [j]) (hj : ∀ v, ((wipe σ [j]).set j (some v))[j]? = some (some v))
    (hgo : ∀ i H, i < xs.length → Same H1 H → J.go i H) (hst : ∀ H, Same H1 H → J.stop xs.length H) (hy : ∀ i H x H', Same H1 H → J.yld i H x H' → H' = H ∧ xs[i]? = some x)
    (hd : ∀ H kvs, Same H1 H → Nd P w K H D kvs → kvs.map (·.1) = (dd ds).map pcD → Qd H) :
    ∃ W : Nat → Nat → Hp → Prop, (∃ m, W 0 m (upd H1 D (ndO P w D []))) ∧ ∀ i m T, W i m T → (J.stop i T ∧ Qd T) ∨ (J.go i T ∧ ∃ Nx : Hp → Prop, (∀ T', Nx T' → ∃ m', m' < m ∧ W (i + 1) m' T') ∧ ∀ x T', J.yld i T x T' → turnN P w K D (gName j) (tVar j) (tC (.bl true)) [j] σ x Nx T') := by
  have hl := dpLen hx
  rw [List.length_map] at hl
  refine ⟨fun i m T => m = xs.length - i ∧ i ≤ xs.length ∧ Same H1 T ∧ ∃ kvs, Nd P w K T D kvs ∧ kvs.map (·.1) = (dd (ds.take i)).map pcD ∧ kvs.length ≤ i, ⟨_, rfl, Nat.zero_le _, sameUpd hD, [], ⟨upd_same, fun q hq => absurd hq (by simp)⟩, rfl, Nat.le_refl _⟩, fun i m T hW => ?_⟩
  obtain ⟨rfl, hi, s1, kvs, n, ek, lk⟩ := hW
  rcases Nat.lt_or_ge i xs.length with lt | ge
  · refine .inr ⟨hgo i T lt s1, fun T' => Same H1 T' ∧ ∃ kvs, Nd P w K T' D kvs ∧ kvs.map (·.1) = (dd (ds.take (i + 1))).map pcD ∧ kvs.length ≤ i + 1, fun T' h => ⟨xs.length - (i + 1), by omega, rfl, lt, h⟩, fun x T' y => ?_⟩
    obtain ⟨rfl, ex⟩ := hy i T x T' s1 y
    have lt2 : i < ds.length := by omega
    have e2 : (ds.map pcD)[i]? = some (pcD ds[i]) := by rw [List.getElem?_map, List.getElem?_eq_getElem lt2]; rfl
    obtain ⟨v, h1, h2⟩ := dpAt hx e2
    obtain rfl : v = x := Option.some.inj (h1.symm.trans ex)
    have h3 := dpSame s1 _ _ h2
    obtain ⟨a, _, _, rfl, _⟩ := pcAt h3
    refine ⟨hw _, .ref a, hj _, kvs, a, pcD ds[i], rfl, n, h3, (plPc _).up (by omega), by rw [sizeLine_eq]; omega, fun b o hb => ?_, _, ndStep n h3 ((plPc _).up (by omega)), ?_, ?_⟩
    · rw [upd_ne (ne_of_none hb hD)]
      exact s1 _ _ hb
    · rw [List.take_succ_eq_append_getElem lt2, dd_snoc]
      exact storeIns (fun p => (plPc p).up (by omega)) pcD_inj ek _ _ _
    · have := storeLen kvs (pcD ds[i]) a (.bl true)
      omega
  · have e : i = xs.length := by omega
    subst e
    refine .inl ⟨hst T s1, hd T kvs s1 n ?_⟩
    rw [List.take_of_length_le (by omega)] at ek
    exact ek
end
end PLC

set_option Elab.async false
set_option linter.all false
set_option maxRecDepth 100000
set_option maxHeartbeats 4000000
namespace PLC
open PySem PySem.Spec PyProof.Rows L2 ND KS KS.La
theorem ddSub {ds : List Pc} {p : Pc} (hp : p ∈ dd ds) : p ∈ ds := by
  have all : ∀ (l acc : List Pc) (p : Pc), p ∈ l.foldl ins acc → p ∈ acc ∨ p ∈ l := by
    intro l
    induction l with
    | nil => intro acc p h; exact .inl h
    | cons x l ih =>
      intro acc p h
      rcases ih _ p h with h | h
      · unfold ins at h
        split at h
        · exact .inl h
        · rcases List.mem_append.mp h with z | z
          · exact .inl z
          · rw [List.mem_singleton.mp z]; exact .inr List.mem_cons_self
      · exact .inr (List.mem_cons_of_mem _ h)
  rcases all ds [] p hp with z | z
  · exact absurd z (by simp)
  · exact z
theorem ddLen (ds : List Pc) : (dd ds).length ≤ ds.length := by
  have all : ∀ (l acc : List Pc), (l.foldl ins acc).length ≤ acc.length + l.length := by
    intro l
    induction l with
    | nil => intro acc; exact Nat.le_refl _
    | cons x l ih =>
      intro acc
      have h1 := ih (ins acc x)
      have h2 : (ins acc x).length ≤ acc.length + 1 := by
        unfold ins
        split
        · omega
        · simp
      show (l.foldl ins (ins acc x)).length ≤ acc.length + (l.length + 1)
      omega
  have := all ds []
  rw [List.length_nil, Nat.zero_add] at this
  exact this
theorem ddFew : ∀ {ds : List Pc}, ds.length < 2 → dd ds = ds
  | [], _ => rfl
  | [p], _ => rfl
  | _ :: _ :: _, h => absurd h (by simp)
/-! ### is None anywhere among the answers? -/
def ansV : Option Str → V
  | none => .non
  | some z => .str z
theorem ansVs {K : PySem.W.Frag} {H : Hp} : ∀ {r : List (Option Str)} {xs : List V}, DpAll K H xs (r.map ansD) → xs = r.map ansV
  | [], _, .nil => rfl
  | none :: r, _, .cons h t => by cases h; rw [ansVs (r := r) t]; rfl
  | some z :: r, _, .cons h t => by cases h; rw [ansVs (r := r) t]; rfl
def hasN (r : List (Option Str)) : Bool := r.any fun a => a.isNone
theorem inNone (r : List (Option Str)) : inV .non (r.map ansV) = hasN r := by
  unfold inV hasN
  rw [List.any_map]
  congr 1
  funext a
  cases a <;> rfl
theorem flatAns (r : List (Option Str)) : (r.map ansV).all flatV = true := by
  rw [List.all_map, List.all_eq_true]
  intro a _
  cases a <;> rfl
def nones (ds : List Pc) : List Bool := ds.flatMap fun p => p.rs.map hasN
theorem nonesNone {ds : List Pc} (h : (nones ds).any id = false) : ∀ p ∈ ds, noN p := by
  intro p hp r hr hn
  rw [List.any_eq_false] at h
  refine h (hasN r) (List.mem_flatMap.mpr ⟨p, hp, List.mem_map_of_mem hr⟩) ?_
  exact List.any_eq_true.mpr ⟨none, hn, rfl⟩
theorem nonesLen {ds : List Pc} (h : ∀ p ∈ ds, p.rs.length ≤ 100) : (nones ds).length ≤ 100 * ds.length := by
  induction ds with
  | nil => exact Nat.zero_le _
  | cons p ds ih =>
    have := h p List.mem_cons_self
    have h2 := ih fun q hq => h q (List.mem_cons_of_mem _ hq)
    show ((p.rs.map hasN) ++ nones ds).length ≤ _
    rw [List.length_append, List.length_map, List.length_cons]
    omega
theorem nonesTake {ds : List Pc} {i : Nat} (lt : i < ds.length) : nones (ds.take (i + 1)) = nones (ds.take i) ++ ds[i].rs.map hasN := by
  unfold nones
  rw [List.take_succ_eq_append_getElem lt, List.flatMap_append]
  simp
theorem bdOf {K : PySem.W.Frag} {H : Hp} : ∀ {xs : List V} {ds : List PyData}, DpAll K H xs ds → ∃ bs : List Bd, bs.map (·.1) = xs ∧ bs.map (·.2) = ds ∧ ∀ b ∈ bs, Dp K H b.1 b.2
  | _, _, .nil => ⟨[], rfl, rfl, fun b hb => absurd hb (by simp)⟩
  | x :: xs, d :: ds, .cons h r => by
    obtain ⟨bs, e1, e2, e3⟩ := bdOf r
    refine ⟨(x, d) :: bs, by rw [List.map_cons, e1], by rw [List.map_cons, e2], fun b hb => ?_⟩
    rcases List.mem_cons.mp hb with rfl | hb
    · exact h
    · exact e3 b hb
theorem bdAll {K : PySem.W.Frag} {H : Hp} : ∀ {bs : List Bd}, (∀ b ∈ bs, Dp K H b.1 b.2) → DpAll K H (bs.map (·.1)) (bs.map (·.2))
  | [], _ => .nil
  | b :: bs, h => .cons (h b List.mem_cons_self) (bdAll fun c hc => h c (List.mem_cons_of_mem _ hc))
abbrev nOdd : List Str := ["places", "_", "answers", "row"]
theorem scOdd : FnScope nOdd ["places"] (defScope sOrdered) := ⟨rfl, rfl, rfl, by decide +kernel, rfl, by decide +kernel, by decide +kernel⟩
abbrev nOrd : List Str := ["places", "place"]
theorem scOrd : FnScope nOrd ["places"] (defScope sOrd) := ⟨rfl, rfl, rfl, by decide +kernel, rfl, by decide +kernel, by decide +kernel⟩
def spOdd (K : PySem.W.Frag) : Sp := fun vs H Q _ => ∃ l xs ds, vs = [.ref l] ∧ SqL K H l xs ∧ DpAll K H xs (ds.map pcD) ∧ (∀ p ∈ ds, Ok p) ∧ ds.length ≤ 1000 ∧ ∀ r ys H', Same H H' → H r = none → H' r = some (.lst ys) → DpAll K H' ys ((srt ds).map pcD) → Q (.ref r) H'
section
variable {P : Program} {w : World} {K : PySem.W.Frag} {mg : Str → Option Value} {base : Heap} {f : Addr} {fd : FuncData}
theorem okOdd {k fr : Nat} {fdr : FuncData} (F : FnP K "ordered" sOrdered f fd) (B : Bn mg) (my : mg "any" = none) (ms : mg "sorted" = none) (gR : mg "_rank" = some (.ref fr)) (bR : Binds K fdr ["place"] []) (GR : FnOk P w K mg base CX0 (k + 1) fr fdr ["place"] (spKey K isPc rankD)) : FnOk P w K mg base CX0 (k + 4) f fd ["places"] (spOdd K) := by
  refine F.ok scOdd (fun vs H Q E h => ?_) (fun cdv A outer s H vs Q E hr h => ?_)
  · obtain ⟨l, xs, ds, rfl, _⟩ := h
    rfl
  · obtain ⟨l, xs, ds, rfl, hL, hx, ok, hn, q⟩ := h
    have hu := hr.units
    have hl := dpLen hx
    rw [List.length_map] at hl
    refine ⟨_, PSs.nox (pss_cons (ps_if (pt_val (pe_callB (cr_any rfl) (by rfl) my (by decide +kernel) (pa_cons (pe_lc2 (own := [("_", 1), ("answers", 2), ("row", 3)]) (vs1 := [3]) (g := gTup K 4 (gCons (gName 1) (gCons (gName 1) (gCons (gName 2) (gCons (gName 1) gNil))))) (g1 := gName 3) (wi1 := iTup K (tVar 2)) rfl scOdd.nd (pi_list (pv 0)) (blkOk_by (N := nOdd) (sc := defScope sOrdered) (by decide +kernel)) (by decide)
        (fun _ _ _ _ _ => pg_tup rfl (pgs_cons (pg_name (i := 1) scOdd.nd rfl (.inl rfl) (hf := .inr rfl)) (pgs_cons (pg_name (i := 1) scOdd.nd rfl (.inl rfl) (hf := .inr rfl)) (pgs_cons (pg_name (i := 2) scOdd.nd rfl (.inl rfl) (hf := .inr rfl)) (pgs_cons (pg_name (i := 1) scOdd.nd rfl (.inl rfl) (hf := .inr rfl)) pgs_nil))))) (fun _ _ _ _ _ => pts_nil)
        (fun _ _ _ _ _ => pi_tup (pv 2)) (fun _ _ _ _ _ => pg_name (i := 3) scOdd.nd rfl (.inl rfl) (hf := .inr rfl)) (fun _ _ _ _ _ => pts_nil) (fun _ _ _ _ _ => pe_cmpR (r := rIn K false) op_in_seq pe_non (pv 3) (by rfl))) pa_nil)))
        (pss_one (ps_ret (pe_callBK (cr_sortedLK GR hr bR (Nat.lt_of_le_of_lt (Nat.add_le_add_left (by decide) _) hu)) (by rfl) ms (by decide +kernel) (pa_cons (pv 0) pa_nil) (pk_cons (pe_glob (v := .ref fr) (by rfl) gR rfl) pk_nil)))) pss_nil) (pss_one (ps_ret (pe_callB (cr_sortedDt (Nat.lt_of_le_of_lt (Nat.add_le_add_left (by decide) _) hu)) (by rfl) ms (by decide +kernel) (pa_cons (pv 0) pa_nil))))), ?_⟩
    refine ⟨.ref l, rfl, l, rfl, ⟨_, hL⟩, fun D hD => ?_⟩
    refine ⟨fun i m T => m = xs.length - i ∧ i ≤ xs.length ∧ At H D ((nones (ds.take i)).map V.bl) T, ⟨_, rfl, Nat.zero_le _, sameUpd hD, upd_same⟩, fun i m T hW => ?_⟩
    obtain ⟨rfl, hi, hat⟩ := hW
    rcases Nat.lt_or_ge i xs.length with lt | ge
    · refine .inr ⟨⟨xs, xs[i], hat.1.seq hL, List.getElem?_eq_getElem lt⟩, At H D ((nones (ds.take (i + 1))).map V.bl), fun T' h => ⟨xs.length - (i + 1), by omega, rfl, lt, h⟩, fun x T' y => ?_⟩
      obtain ⟨rfl, y⟩ := y
      have ex := y xs (hat.1.seq hL)
      have lt2 : i < ds.length := by omega
      have e2 : (ds.map pcD)[i]? = some (pcD ds[i]) := by rw [List.getElem?_map, List.getElem?_eq_getElem lt2]; rfl
      obtain ⟨v, h1, h2⟩ := dpAt hx e2
      obtain rfl : v = x := Option.some.inj (h1.symm.trans ex)
      have okp := ok _ (List.getElem_mem lt2)
      have lrs := okp.rl
      obtain ⟨a, va, vr, rfl, hs, ha, hv⟩ := pcAt h2
      obtain ⟨b, rows, rfl, hb, hrw⟩ := rowsAt hv
      have hlr := dpLen hrw
      rw [List.length_map] at hlr
      refine ⟨a, _, rfl, sameTup hat.1 hs, rfl, _, _, rfl, _, _, rfl, _, _, rfl, _, _, rfl, rfl, ?_⟩
      refine ⟨rfl, ?_⟩
      unfold tYes
      dsimp only
      rw [if_pos rfl]
      refine ⟨.ref b, rfl, b, rfl, ⟨_, sameTup hat.1 hb⟩, ?_⟩
      have lacc : (nones (ds.take i)).length ≤ 100 * 1000 := by
        have := nonesLen (ds := ds.take i) fun p hp => (ok p (List.mem_of_mem_take hp)).rl
        rw [List.length_take] at this
        omega
      refine ⟨fun j n T2 => n = rows.length - j ∧ j ≤ rows.length ∧ At H D ((nones (ds.take i) ++ (ds[i].rs.take j).map hasN).map V.bl) T2, ⟨_, rfl, Nat.zero_le _, ?_⟩, fun j n T2 hW => ?_⟩
      · rw [List.take_zero, List.map_nil, List.append_nil]
        exact hat
      · obtain ⟨rfl, hj, hat2⟩ := hW
        rcases Nat.lt_or_ge j rows.length with ltj | gej
        · have ltj2 : j < ds[i].rs.length := by omega
          refine .inr ⟨⟨rows, rows[j], sameTup hat2.1 hb, List.getElem?_eq_getElem ltj⟩, At H D ((nones (ds.take i) ++ (ds[i].rs.take (j + 1)).map hasN).map V.bl), fun T3 h => ⟨rows.length - (j + 1), by omega, rfl, ltj, h⟩, fun x T3 y2 => ?_⟩
          obtain ⟨rfl, y2⟩ := y2
          have ex2 := y2 rows (sameTup hat2.1 hb)
          have e3 : (ds[i].rs.map rowD)[j]? = some (rowD ds[i].rs[j]) := by rw [List.getElem?_map, List.getElem?_eq_getElem ltj2]; rfl
          obtain ⟨v2, g1, g2⟩ := dpAt hrw e3
          obtain rfl : v2 = x := Option.some.inj (g1.symm.trans ex2)
          obtain ⟨t, ys, rfl, ht, hys⟩ : ∃ t ys, v2 = .ref t ∧ SqT K H t ys ∧ DpAll K H ys (ds[i].rs[j].map ansD) := by
            cases g2 with
            | tup a b => exact ⟨_, _, rfl, a, b⟩
          have ey := ansVs hys
          refine ⟨rfl, ?_⟩
          rw [if_pos rfl]
          refine ⟨.ref t, rfl, t, ys, rfl, .inr (sameTup hat2.1 ht), rfl, by rw [ey]; exact flatAns _, ?_⟩
          rw [if_neg Bool.false_ne_true, ey, inNone]
          obtain ⟨e4, e5⟩ := hat2.put (ys := (nones (ds.take i) ++ (ds[i].rs.take (j + 1)).map hasN).map V.bl) hD (Same.refl _)
          refine ⟨_, e4, ?_, ?_⟩
          · rw [List.length_map, List.length_append, List.length_map, List.length_take, sizeLine_eq]
            omega
          · have e6 : (nones (ds.take i) ++ (ds[i].rs.take (j + 1)).map hasN).map V.bl = (nones (ds.take i) ++ (ds[i].rs.take j).map hasN).map V.bl ++ [V.bl (hasN ds[i].rs[j])] := by
              rw [List.take_succ_eq_append_getElem ltj2]
              simp only [List.map_append, List.append_assoc]
              rfl
            rw [← e6]
            exact e5
        · have e : j = ds[i].rs.length := by omega
          subst e
          rw [List.take_length] at hat2
          refine .inl ⟨⟨rows, sameTup hat2.1 hb, by omega⟩, ?_⟩
          rw [nonesTake lt2]
          exact hat2
    · have e : i = xs.length := by omega
      subst e
      rw [List.take_of_length_le (by omega)] at hat
      refine .inl ⟨⟨xs, hat.1.seq hL, Nat.le_refl _⟩, D, nones ds, rfl, .inl (.inl hat.2), _, rfl, ?_⟩
      have s1 := hat.1
      have hx1 := dpAllSame s1 _ _ hx
      obtain ⟨bs, b1, b2, b3⟩ := bdOf hx1
      have memb : ∀ b ∈ bs, ∃ p ∈ ds, b.2 = pcD p := fun b hb => by
        have : b.2 ∈ ds.map pcD := by rw [← b2]; exact List.mem_map_of_mem hb
        obtain ⟨p, hp, e⟩ := List.mem_map.mp this
        exact ⟨p, hp, e.symm⟩
      have fin : ∀ (cs : List Bd) (r : Addr), (∀ b ∈ cs, b ∈ bs) → cs.map (·.2) = (srt ds).map pcD → T r = none → Q (.ref r) (upd T r (.lst (cs.map (·.1)))) := fun cs r hc e4 hr => by
        have s2 := sameUpd (o := .lst (cs.map (·.1))) hr
        refine q r _ _ (s1.trans s2) ?_ upd_same ?_
        · cases e : H r with
          | none => rfl
          | some o => rw [s1 _ _ e] at hr; cases hr
        · rw [← e4]
          exact bdAll fun b hb => dpSame s2 _ _ (b3 b (hc b hb))
      cases hany : (nones ds).any id with
      | true =>
        refine iteT ⟨.ref l, rfl, l, bs, rfl, rfl, b1 ▸ s1.seq hL, b3, fun b hb => ?_, fun b hb => ?_, fun b hb => ?_, ?_, ?_, fun r hr => fin (sortL rankD bs) r (fun b hb => List.mem_mergeSort.mp hb) ?_ hr⟩
        · obtain ⟨p, _, e⟩ := memb b hb
          rw [e]
          exact (plPc p).up (by omega)
        · obtain ⟨p, hp, e⟩ := memb b hb
          exact ⟨p, ok p hp, e⟩
        · obtain ⟨p, _, e⟩ := memb b hb
          rw [e, rankD_eq]
          exact (plRank p).up (by omega)
        · have er : (bs.map fun b => rankD b.2) = ds.map rankP := by
            have e1 : (bs.map fun b => rankD b.2) = (bs.map (·.2)).map rankD := by rw [List.map_map]; rfl
            rw [e1, b2, List.map_map]
            exact List.map_congr_left fun p _ => rankD_eq p
          rw [er]
          exact PySem.W.AllAlike.of alRankP
        · have er : (bs.map fun b => rankD b.2) = ds.map rankP := by
            have e1 : (bs.map fun b => rankD b.2) = (bs.map (·.2)).map rankD := by rw [List.map_map]; rfl
            rw [e1, b2, List.map_map]
            exact List.map_congr_left fun p _ => rankD_eq p
          rw [er]
          exact PySem.W.Sortable.tuples fun p => ⟨_, _, rfl⟩
        · exact sortOf (g := fun b : Bd => b.2) (r := rankD) (k := rankP) b2 rankD_eq leP
      | false =>
        have free := nonesNone hany
        refine iteF ⟨.ref l, rfl, l, bs, rfl, b1 ▸ s1.seq hL, b3, ?_, ?_, fun b hb => ?_, fun r hr => fin (sortB bs) r (fun b hb => List.mem_mergeSort.mp hb) ?_ hr⟩
        · intro x hx2 y hy2
          rw [b2] at hx2 hy2
          obtain ⟨p, hp, rfl⟩ := List.mem_map.mp hx2
          obtain ⟨p2, hp2, rfl⟩ := List.mem_map.mp hy2
          exact alN (free p hp) (free p2 hp2)
        · rw [b2]
          exact PySem.W.Sortable.tuples fun p => ⟨_, _, rfl⟩
        · obtain ⟨p, _, e⟩ := memb b hb
          rw [e]
          have := plDepth (plPc p)
          omega
        · exact sortOfN (g := fun b : Bd => b.2) b2 free
theorem okOrdL {k : Nat} (F : FnP K "in_order" sOrd f fd) (B : Bn mg) (O : Has P w K mg base (k + 4) "ordered" ["places"] (spOdd K)) : FnOk P w K mg base CX0 (k + 5) f fd ["places"] (spOrd K false) := by
  obtain ⟨fO, fdO, gO, kO, bO, GO⟩ := O.ex
  refine F.ok scOrd (fun vs H Q E h => ?_) (fun cdv A outer s H vs Q E hr h => ?_)
  · obtain ⟨l, xs, ds, rfl, _⟩ := h
    rfl
  · obtain ⟨l, xs, ds, rfl, hL, hx, ok, hn, q⟩ := h
    have hL : SqL K H l xs := hL
    have hu := hr.units
    have hl := dpLen hx
    rw [List.length_map] at hl
    refine ⟨_, PSs.nox (pss_one (ps_ret (pe_call GO hr (by rfl) gO kO bO .nil pass0 (pa_cons (pe_ifExp (pt_cmpR op_lt (pe_callB call_len_seq (by rfl) B.len PySem.boot_len (pa_cons (pv 0) pa_nil)) pe_int (nomark _)) (pe_callTy call_list_of (by rfl) B.list (by decide +kernel) (pa_cons (pv 0) pa_nil))
        (pe_callTy (call_listN rfl) (by rfl) B.list (by decide +kernel) (pa_cons (pe_ndc (own := [("place", 1)]) (g := gName 1) (Nat.lt_of_le_of_lt (Nat.add_le_add_left (by decide) _) hu) rfl scOrd.nd (pi_list (pv 0)) (blkOk_by (N := nOrd) (sc := defScope sOrd) (by decide +kernel))
          (fun _ _ _ _ _ => pg_name (i := 1) scOrd.nd rfl (.inl rfl) (hf := .inr rfl)) (fun _ _ _ _ _ => pv 1) (fun _ _ _ _ _ => pe_bl)) pa_nil))) pa_nil)))), ?_⟩
    have fin : ∀ (r : Addr) (ys : List V) (H1 : Hp), Same H H1 → SqL K H1 r ys → DpAll K H1 ys ((dd ds).map pcD) → spOdd K [.ref r] H1 Q (fun _ _ _ => False) := fun r ys H1 s1 hr hy => by
      refine ⟨r, ys, dd ds, rfl, hr, hy, fun p hp => ok p (ddSub hp), Nat.le_trans (ddLen ds) hn, fun t zs H2 s2 ht h2 hz => q t zs H2 (s1.trans s2) ?_ h2 hz⟩
      cases e : H t with
      | none => rfl
      | some o => rw [s1 _ _ e] at ht; cases ht
    refine ⟨.ref l, rfl, l, xs, rfl, .inl hL, _, _, rfl, rfl, _, rfl, ite2 (fun e => ?_) (fun e => ?_)⟩
    · have few : ds.length < 2 := by have := of_decide_eq_true e; omega
      refine ⟨.ref l, rfl, l, xs, rfl, .inl hL, fun D hD => ?_⟩
      have s1 := sameUpd (o := .lst xs) hD
      exact fin D xs _ s1 (.inl (.inl upd_same)) (by rw [ddFew few]; exact dpAllSame s1 _ _ hx)
    · refine ⟨.ref l, rfl, l, rfl, ⟨_, hL⟩, fun D hD => ?_⟩
      refine ndcJ hx hn hD (fun v => rfl) (fun v => rfl) (fun i T lt s1 => ⟨xs, xs[i], s1.seq hL, List.getElem?_eq_getElem lt⟩) (fun T s1 => ⟨xs, s1.seq hL, Nat.le_refl _⟩) (fun i T x T' s1 y => ⟨y.1, y.2 xs (s1.seq hL)⟩) (fun T kvs s1 n ek => ?_)
      refine ⟨D, kvs, rfl, n, fun r hr => ?_⟩
      have s2 := sameUpd (o := .lst (kvs.map fun q => .ref q.2.1)) hr
      refine fin r _ _ (s1.trans s2) (.inl (.inl upd_same)) ?_
      rw [← ek]
      generalize upd T r (.lst (kvs.map fun q => .ref q.2.1)) = H2 at s2 ⊢
      have all : ∀ m : List KvD, (∀ q ∈ m, q ∈ kvs) → DpAll K H2 (m.map fun q => .ref q.2.1) (m.map (·.1)) := by
        intro m
        induction m with
        | nil => intro _; exact .nil
        | cons q m ih =>
          intro hm
          exact .cons (dpSame s2 _ _ (n.k q (hm q List.mem_cons_self)).2) (ih fun c hc => hm c (List.mem_cons_of_mem _ hc))
      exact all _ fun _ h => h
theorem okOrdT {k : Nat} (F : FnP K "in_order" sOrd f fd) (B : Bn mg) (O : Has P w K mg base (k + 4) "ordered" ["places"] (spOdd K)) : FnOk P w K mg base CX0 (k + 5) f fd ["places"] (spOrd K true) := by
  obtain ⟨fO, fdO, gO, kO, bO, GO⟩ := O.ex
  refine F.ok scOrd (fun vs H Q E h => ?_) (fun cdv A outer s H vs Q E hr h => ?_)
  · obtain ⟨l, xs, ds, rfl, _⟩ := h
    rfl
  · obtain ⟨l, xs, ds, rfl, hL, hx, ok, hn, q⟩ := h
    have hL : SqT K H l xs := hL
    have hu := hr.units
    have hl := dpLen hx
    rw [List.length_map] at hl
    refine ⟨_, PSs.nox (pss_one (ps_ret (pe_call GO hr (by rfl) gO kO bO .nil pass0 (pa_cons (pe_ifExp (pt_cmpR op_lt (pe_callB call_len_seq (by rfl) B.len PySem.boot_len (pa_cons (pv 0) pa_nil)) pe_int (nomark _)) (pe_callTy call_list_of (by rfl) B.list (by decide +kernel) (pa_cons (pv 0) pa_nil))
        (pe_callTy (call_listN rfl) (by rfl) B.list (by decide +kernel) (pa_cons (pe_ndc (own := [("place", 1)]) (g := gName 1) (Nat.lt_of_le_of_lt (Nat.add_le_add_left (by decide) _) hu) rfl scOrd.nd (pi_tup (pv 0)) (blkOk_by (N := nOrd) (sc := defScope sOrd) (by decide +kernel))
          (fun _ _ _ _ _ => pg_name (i := 1) scOrd.nd rfl (.inl rfl) (hf := .inr rfl)) (fun _ _ _ _ _ => pv 1) (fun _ _ _ _ _ => pe_bl)) pa_nil))) pa_nil)))), ?_⟩
    have fin : ∀ (r : Addr) (ys : List V) (H1 : Hp), Same H H1 → SqL K H1 r ys → DpAll K H1 ys ((dd ds).map pcD) → spOdd K [.ref r] H1 Q (fun _ _ _ => False) := fun r ys H1 s1 hr hy => by
      refine ⟨r, ys, dd ds, rfl, hr, hy, fun p hp => ok p (ddSub hp), Nat.le_trans (ddLen ds) hn, fun t zs H2 s2 ht h2 hz => q t zs H2 (s1.trans s2) ?_ h2 hz⟩
      cases e : H t with
      | none => rfl
      | some o => rw [s1 _ _ e] at ht; cases ht
    refine ⟨.ref l, rfl, l, xs, rfl, .inr hL, _, _, rfl, rfl, _, rfl, ite2 (fun e => ?_) (fun e => ?_)⟩
    · have few : ds.length < 2 := by have := of_decide_eq_true e; omega
      refine ⟨.ref l, rfl, l, xs, rfl, .inr hL, fun D hD => ?_⟩
      have s1 := sameUpd (o := .lst xs) hD
      exact fin D xs _ s1 (.inl (.inl upd_same)) (by rw [ddFew few]; exact dpAllSame s1 _ _ hx)
    · refine ⟨.ref l, rfl, l, rfl, ⟨_, hL⟩, fun D hD => ?_⟩
      refine ndcJ hx hn hD (fun v => rfl) (fun v => rfl) (fun i T lt s1 => ⟨xs, xs[i], sameTup s1 hL, List.getElem?_eq_getElem lt⟩) (fun T s1 => ⟨xs, sameTup s1 hL, Nat.le_refl _⟩) (fun i T x T' s1 y => ⟨y.1, y.2 xs (sameTup s1 hL)⟩) (fun T kvs s1 n ek => ?_)
      refine ⟨D, kvs, rfl, n, fun r hr => ?_⟩
      have s2 := sameUpd (o := .lst (kvs.map fun q => .ref q.2.1)) hr
      refine fin r _ _ (s1.trans s2) (.inl (.inl upd_same)) ?_
      rw [← ek]
      generalize upd T r (.lst (kvs.map fun q => .ref q.2.1)) = H2 at s2 ⊢
      have all : ∀ m : List KvD, (∀ q ∈ m, q ∈ kvs) → DpAll K H2 (m.map fun q => .ref q.2.1) (m.map (·.1)) := by
        intro m
        induction m with
        | nil => intro _; exact .nil
        | cons q m ih =>
          intro hm
          exact .cons (dpSame s2 _ _ (n.k q (hm q List.mem_cons_self)).2) (ih fun c hc => hm c (List.mem_cons_of_mem _ hc))
      exact all _ fun _ h => h
end
end PLC

set_option Elab.async false
set_option linter.all false
set_option maxRecDepth 100000
set_option maxHeartbeats 4000000
namespace PLC
open PySem PySem.Spec PyProof.Rows L2 ND KS KS.La
abbrev lOrdered : Stmt := top 16
def lcScope : Stmt → Scope
  | .Assign _ (.ListComp _ _ s _) _ => s
  | _ => default
def forBody : Stmt → List Stmt
  | .For _ _ b _ _ => b
  | _ => []
/-- the scope of the rows' comprehension -/
def scRows : Scope := lcScope ((forBody ((defBody lOrdered).getD 1 (.Pass ⟨0, 0, 0, 0⟩))).getD 0 (.Pass ⟨0, 0, 0, 0⟩))
def aLk : PyData → PyData
  | .none => .tuple [.int 0, .str ""]
  | d => .tuple [.int 1, d]
def rLk : PyData → PyData
  | .tuple xs => .tuple (xs.map aLk)
  | d => d
theorem aLk_eq (a : Option Str) : aLk (ansD a) = lkA a := by cases a <;> rfl
theorem rLk_eq (r : List (Option Str)) : rLk (rowD r) = lkRow r := by
  show PyData.tuple ((r.map ansD).map aLk) = .tuple (r.map lkA)
  rw [List.map_map]
  congr 1
  exact List.map_congr_left fun a _ => aLk_eq a
theorem storeVals {kvs : List KvD} {e : PyData} {a : Addr} {v : V} {q : KvD} (h : q ∈ storeD kvs e a v) : q ∈ kvs ∨ (keyD q.1 = keyD e ∧ q.2.2 = v) := by
  unfold storeD at h
  split at h
  · obtain ⟨p, hp, rfl⟩ := List.mem_map.mp h
    by_cases hk : keyD p.1 = keyD e
    · rw [if_pos hk]
      exact .inr ⟨hk, rfl⟩
    · rw [if_neg hk]
      exact .inl hp
  · rcases List.mem_append.mp h with z | z
    · exact .inl z
    · rw [List.mem_singleton.mp z]
      exact .inr ⟨rfl, rfl⟩
/-- the value that stands at the key of a place -/
theorem valAt {K : PySem.W.Frag} {H : Hp} {kvs : List KvD} (hv : ∀ q ∈ kvs, ∃ p, q.1 = lkP p ∧ Dp K H q.2.2 (pcD p)) {p : Pc} (hm : ∃ q ∈ kvs, q.1 = lkP p) : ∃ v, valN (kvs.map kn) (keyD (lkP p)) = some v ∧ Dp K H v (pcD p) := by
  unfold valN
  induction kvs with
  | nil => obtain ⟨q, hq, _⟩ := hm; exact absurd hq (by simp)
  | cons c kvs ih =>
    rw [List.map_cons, List.find?_cons]
    by_cases hk : keyD c.1 = keyD (lkP p)
    · have e : decide ((kn c).1 = keyD (lkP p)) = true := decide_eq_true hk
      rw [e]
      obtain ⟨p', e1, e2⟩ := hv c List.mem_cons_self
      rw [e1] at hk
      rw [← lkP_inj (keyInj (plLk p') (plLk p) hk)]
      exact ⟨c.2.2, rfl, e2⟩
    · have e : decide ((kn c).1 = keyD (lkP p)) = false := decide_eq_false hk
      rw [e]
      refine ih (fun q hq => hv q (List.mem_cons_of_mem _ hq)) ?_
      obtain ⟨q, hq, eq⟩ := hm
      rcases List.mem_cons.mp hq with z | z
      · exact absurd (by rw [← z, eq]) hk
      · exact ⟨q, z, eq⟩
def rTup (K : PySem.W.Frag) : List V → Hp → VK → Prop := fun xs H Q => ∃ p ys, xs = [V.ref p] ∧ ((SqL K H p ys ∧ ∀ (l : Addr), H l = none → Q (V.ref l) (upd H l (HO.tup ys))) ∨ SqT K H p ys ∧ Q (V.ref p) H)
section
variable {P : Program} {w : World} {K : PySem.W.Frag} {mg : Str → Option Value} {base : Heap} {f : Addr} {fd : FuncData}
abbrev nLO : List Str := ["_law_places", "_law_found", "_law_spot", "_law_rows", "_law_row", "_law_one"]
theorem scLO : FnScope nLO ["_law_places"] (defScope lOrdered) := ⟨rfl, rfl, rfl, by decide +kernel, rfl, by decide +kernel, by decide +kernel⟩
theorem okLO {k : Nat} (F : FnP K "_law_ordered" lOrdered f fd) (B : Bn mg) (ms : mg "sorted" = none) : FnOk P w K mg base CX0 (k + 1) f fd ["_law_places"] (spOrd K false) := by
  refine F.ok scLO (fun vs H Q E h => ?_) (fun cdv A outer s H vs Q E hr h => ?_)
  · obtain ⟨l, xs, ds, rfl, _⟩ := h
    rfl
  · obtain ⟨l, xs, ds, rfl, hL, hx, ok, hn, q⟩ := h
    have hL : SqL K H l xs := hL
    have hu := hr.units
    have hl := dpLen hx
    rw [List.length_map] at hl
    refine ⟨_, PSs.nox (pss_cons (ps_set (i := 1) scLO.nd rfl (.inr rfl) pe_dnewN) (C8.pss_cut (ps_for PassesOwn.never rfl (pi_list (pv 0)) (pg_name (i := 2) scLO.nd rfl (.inl rfl))
        (C8.pss_cut (ps_setLc (i := 3) (own := [("_law_row", 4)]) (g := gName 4) (by rfl) scLO.nd rfl rfl (sw_true rfl rfl (by decide +kernel) (by decide +kernel)) (pi_tup (pe_ix ix_tup (pv 2) pe_int (fun _ _ => rfl))) (blkOk_by (N := nLO) (sc := defScope lOrdered) (by decide +kernel))
            (fun _ _ _ _ _ => pg_name (i := 4) scLO.nd rfl (.inl rfl) (hf := .inr rfl)) (fun _ _ _ _ _ => pts_nil)
            (fun _ _ _ _ _ => pe_callTy (r := rTup K) (T := "tuple") call_tuple_of (by rfl) B.tuple (by decide +kernel) (pa_cons (pe_lc (own := [("_law_one", 5)]) (g := gName 5) (wi := iTup K (tVar 4)) rfl scLO.nd (pi_tup (pv 4)) (blkOk_by (N := nLO) (sc := scRows) (by decide +kernel))
              (fun _ _ _ _ _ => pg_name (i := 5) scLO.nd rfl (.inl rfl) (hf := .inr rfl)) (fun _ _ _ _ _ => pts_nil)
              (fun _ _ _ _ _ => pe_ifExp (pt_cmpR op_isN (pv 5) pe_non (nomark _)) (pe_tup (pa_cons (pe_int) (pa_cons (pe_str) pa_nil))) (pe_tup (pa_cons (pe_int) (pa_cons (pv 5) pa_nil))))) pa_nil))) (pss_one (ps_asg (pv 2) (pg_sub (pv 1) (pe_tup (pa_cons (pe_ix ix_tup (pv 2) pe_int (fun _ _ => rfl)) (pa_cons (pe_ix ix_tup (pv 2) pe_int (fun _ _ => rfl)) (pa_cons (pe_callTy call_tuple_of (by rfl) B.tuple (by decide +kernel) (pa_cons (pv 3) pa_nil)) (pa_cons (pe_ix ix_tup (pv 2) pe_int (fun _ _ => rfl)) pa_nil))))) (set_nd (Nat.lt_of_le_of_lt (Nat.add_le_add_left (by decide) _) hu))))))) (pss_one (ps_ret (pe_lc (own := [("_law_one", 5)]) (g := gName 5) rfl scLO.nd (pi_list (pe_callB (cr_sortedDt (Nat.lt_of_le_of_lt (Nat.add_le_add_left (by decide) _) hu)) (by rfl) ms (by decide +kernel) (pa_cons (pe_callTy (call_listN rfl) (by rfl) B.list (by decide +kernel) (pa_cons (pv 1) pa_nil)) pa_nil))) (blkOk_by (N := nLO) (sc := defScope lOrdered) (by decide +kernel))
        (fun _ _ _ _ _ => pg_name (i := 5) scLO.nd rfl (.inl rfl) (hf := .inr rfl)) (fun _ _ _ _ _ => pts_nil) (fun _ _ _ _ _ => pe_ix (r := rIxN P w K) (ix_nd (Nat.lt_of_le_of_lt (Nat.add_le_add_left (by decide) _) hu)) (pv 1) (pv 5) (fun _ _ => rfl))))))), ?_⟩
    refine fun D hD => ?_
    refine ⟨fun σ' H' => ∃ x2 x3 kvs, σ' = [some (.ref l), some (.ref D), x2, x3, none, none] ∧ Same H H' ∧ Nd P w K H' D kvs ∧ kvs.map (·.1) = (dd ds).map lkP ∧ (∀ q ∈ kvs, ∃ p, q.1 = lkP p ∧ Dp K H' q.2.2 (pcD p)), ?_, ?_⟩
    · refine ⟨.ref l, rfl, l, rfl, ⟨_, (sameUpd hD).seq hL⟩, ?_⟩
      refine forJ (n := xs.length) (fun i σ' H' => ∃ x2 x3 kvs, σ' = [some (.ref l), some (.ref D), x2, x3, none, none] ∧ Same H H' ∧ Nd P w K H' D kvs ∧ kvs.map (·.1) = (dd (ds.take i)).map lkP ∧ kvs.length ≤ i ∧ (∀ q ∈ kvs, ∃ p, q.1 = lkP p ∧ Dp K H' q.2.2 (pcD p)))
        ⟨none, none, [], rfl, sameUpd hD, ⟨upd_same, fun q hq => absurd hq (by simp)⟩, rfl, Nat.le_refl _, fun q hq => absurd hq (by simp)⟩
        (fun i σ' H' lt h => ⟨xs, xs[i], h.choose_spec.choose_spec.choose_spec.2.1.seq hL, List.getElem?_eq_getElem lt⟩) (fun σ' H' h => ⟨xs, h.choose_spec.choose_spec.choose_spec.2.1.seq hL, Nat.le_refl _⟩) (fun i σ' H1 x H2 lt h y => ?_) (fun σ' H' h => ?_)
      · obtain ⟨rfl, y⟩ := y
        obtain ⟨x2, x3, kvs, rfl, s1, n, ek, lk, hv⟩ := h
        have lt2 : i < ds.length := by omega
        have e2 : (ds.map pcD)[i]? = some (pcD ds[i]) := by rw [List.getElem?_map, List.getElem?_eq_getElem lt2]; rfl
        obtain ⟨v, h1, h2⟩ := dpAt hx e2
        obtain rfl : v = x := Option.some.inj (h1.symm.trans (y xs (s1.seq hL)))
        have hok := ok _ (List.getElem_mem lt2)
        have h3 := dpSame s1 _ _ h2
        generalize hp : ds[i] = p at *
        obtain ⟨a, va, vr, rfl, hs, ha, hvr⟩ := pcAt h3
        obtain ⟨b, ys, rfl, hb, hys⟩ := rowsAt hvr
        refine ⟨fun σ' H' => ∃ R zs, σ' = [some (.ref l), some (.ref D), some (.ref a), some (.ref R), none, none] ∧ Same H2 H' ∧ H' R = some (.lst zs) ∧ DpAll K H' zs (p.rs.map lkRow), ?_, ?_⟩
        · refine ⟨.ref a, rfl, a, _, 2, .ref b, rfl, rfl, hs, atI_nat (j := 2) rfl, b, rfl, ⟨_, hb⟩, fun R hR => ?_⟩
          refine lcMapN (n := 2) rLk hb hys (fun d hd => ?_) (by rw [List.length_map]; have := hok.rl; omega) hR (fun v => rfl) (fun v d H3 hd s3 hv3 R' hR' => ?_) (fun H3 zs s3 e3 hzs => ?_)
          · obtain ⟨r, _, rfl⟩ := List.mem_map.mp hd
            rw [rLk_eq]
            exact .tup fun d hd => by obtain ⟨a, _, rfl⟩ := List.mem_map.mp hd; exact plLkA a
          · obtain ⟨r, hr2, rfl⟩ := List.mem_map.mp hd
            rw [rLk_eq] at hR'
            cases hv3 with
            | @tup b2 us _ hs2 ha2 =>
              refine ⟨.ref b2, rfl, b2, rfl, ⟨_, hs2⟩, fun D2 hD2 => ?_⟩
              refine lcMapN (n := 1) aLk hs2 ha2 (fun d hd => ?_) (by rw [List.length_map]; have := (hok.rs r hr2).1; omega) hD2 (fun v => rfl) (fun v d H4 hd s4 hv4 R4 hR4 => ?_) (fun H4 ws s4 e4 hws => ?_)
              · obtain ⟨c, _, rfl⟩ := List.mem_map.mp hd
                rw [aLk_eq]
                exact plLkA c
              · obtain ⟨c, _, rfl⟩ := List.mem_map.mp hd
                rw [aLk_eq] at hR4
                cases c with
                | none =>
                  cases hv4
                  exact ⟨.non, rfl, rfl, _, rfl, iteT ⟨(by show 2 ≤ sizeLine; decide), fun p hp => hR4 _ _ (sameUpd hp) (.tup (.inl (.inl upd_same)) (.cons (.int _) (.cons (.str _) .nil)))⟩⟩
                | some z =>
                  cases hv4
                  exact ⟨.str z, rfl, rfl, _, rfl, iteF ⟨.str z, rfl, (by show 2 ≤ sizeLine; decide), fun p hp => hR4 _ _ (sameUpd hp) (.tup (.inl (.inl upd_same)) (.cons (.int _) (.cons (.str z) .nil)))⟩⟩
              · refine ⟨D2, ws, rfl, .inl ⟨.inl (.inl e4), fun T hT => ?_⟩⟩
                have s5 := sameUpd (o := .tup ws) hT
                refine hR' _ _ (s4.trans s5) (.tup (.inl (.inl upd_same)) ?_)
                have e5 : (r.map ansD).map aLk = r.map lkA := by
                  rw [List.map_map]
                  exact List.map_congr_left fun c _ => aLk_eq c
                rw [← e5]
                exact dpAllSame s5 _ _ hws
          · refine ⟨R, zs, rfl, s3, e3, ?_⟩
            have e5 : (p.rs.map rowD).map rLk = p.rs.map lkRow := by
              rw [List.map_map]
              exact List.map_congr_left fun c _ => rLk_eq c
            rw [← e5]
            exact hzs
        rintro _ H3 ⟨R, zs, rfl, s3, eR, hzs⟩
        have hs3 := sameTup s3 hs
        refine ⟨.ref a, rfl, .ref D, rfl, .ref a, rfl, a, _, 0, .str p.c, rfl, rfl, hs3, atI_nat (j := 0) rfl, .ref a, rfl, a, _, 1, va, rfl, rfl, hs3, atI_nat (j := 1) rfl, .ref R, rfl, R, zs, rfl, .inl ⟨.inl (.inl eR), fun T hT => ?_⟩⟩
        have s4 := sameUpd (o := .tup zs) hT
        refine ⟨.ref a, rfl, a, _, 3, .int p.n, rfl, rfl, sameTup s4 hs3, atI_nat (j := 3) rfl, (by show 4 ≤ sizeLine; decide), fun U hU => ?_⟩
        have s5 := sameUpd (o := .tup [.str p.c, va, .ref T, .int p.n]) hU
        have sA := (s3.trans s4).trans s5
        have dk : Dp K (upd (upd H3 T (.tup zs)) U (.tup [.str p.c, va, .ref T, .int p.n])) (.ref U) (lkP p) := .tup (.inl (.inl upd_same)) (.cons (.str _) (.cons (dpSame sA _ _ ha) (.cons (.tup (sameTup s5 (.inl (.inl upd_same))) (dpAllSame (s4.trans s5) _ _ hzs)) (.cons (.int _) .nil))))
        have n2 : Nd P w K (upd (upd H3 T (.tup zs)) U (.tup [.str p.c, va, .ref T, .int p.n])) D kvs := ⟨sA _ _ n.o, fun q hq => ⟨(n.k q hq).1, dpSame sA _ _ (n.k q hq).2⟩⟩
        have da := dpSame sA _ _ h3
        have hv2 : ∀ q ∈ kvs, ∃ p', q.1 = lkP p' ∧ Dp K (upd (upd H3 T (.tup zs)) U (.tup [.str p.c, va, .ref T, .int p.n])) q.2.2 (pcD p') := fun q hq => by
          obtain ⟨p', e1, e2⟩ := hv q hq
          exact ⟨p', e1, dpSame sA _ _ e2⟩
        have sB := s1.trans sA
        generalize upd (upd H3 T (.tup zs)) U (.tup [.str p.c, va, .ref T, .int p.n]) = H5 at *
        refine ⟨D, U, lkP p, kvs, rfl, rfl, n2, dk, (plLk p).up (by omega), by rw [sizeLine_eq]; omega, ?_⟩
        have keys : (storeD kvs (lkP p) U (.ref a)).map (·.1) = (dd (ds.take (i + 1))).map lkP := by
          rw [List.take_succ_eq_append_getElem lt2, dd_snoc, hp]
          exact storeIns (fun p => (plLk p).up (by omega)) lkP_inj ek _ _ _
        refine ⟨_, _, _, rfl, fun b o hb => ?_, ndStep n2 dk ((plLk p).up (by omega)), keys, ?_, fun q hq => ?_⟩
        · rw [upd_ne (ne_of_none hb hD)]
          exact sB _ _ hb
        · have := storeLen kvs (lkP p) U (.ref a)
          omega
        · have t : TS H5 (upd H5 D (ndO P w D ((storeD kvs (lkP p) U (.ref a)).map kn))) := TS.put n2.o
          rcases storeVals hq with z | ⟨z1, z2⟩
          · obtain ⟨p', e1, e2⟩ := hv2 q z
            exact ⟨p', e1, dpTS t (plPc p') _ e2⟩
          · have hm : q.1 ∈ (dd (ds.take (i + 1))).map lkP := by rw [← keys]; exact List.mem_map_of_mem hq
            obtain ⟨p', _, e1⟩ := List.mem_map.mp hm
            rw [← e1] at z1
            obtain rfl := lkP_inj (keyInj (plLk p') (plLk p) z1)
            exact ⟨p', e1.symm, by rw [z2]; exact dpTS t (plPc p') _ da⟩
      · obtain ⟨x2, x3, kvs, rfl, s1, n, ek, lk, hv⟩ := h
        rw [List.take_of_length_le (by omega)] at ek
        exact ⟨x2, x3, kvs, rfl, s1, n, ek, hv⟩
    rintro _ H1 ⟨x2, x3, kvs, rfl, s1, n, ek, hv⟩
    obtain ⟨bs, hbs⟩ : ∃ bs : List Bd, bs = kvs.map fun q => (.ref q.2.1, q.1) := ⟨_, rfl⟩
    have b1 : bs.map (·.1) = kvs.map fun q => V.ref q.2.1 := by rw [hbs, List.map_map]; rfl
    have b2 : bs.map (·.2) = (dd ds).map lkP := by rw [← ek, hbs, List.map_map]; rfl
    have bd : ∀ {H' : Hp}, Same H1 H' → ∀ b ∈ bs, Dp K H' b.1 b.2 := fun s b hb => by
      rw [hbs] at hb
      obtain ⟨q, hq, rfl⟩ := List.mem_map.mp hb
      exact dpSame s _ _ (n.k q hq).2
    have hmem : ∀ b ∈ bs, ∃ q ∈ kvs, (V.ref q.2.1, q.1) = b := fun b hb => by
      rw [hbs] at hb
      exact List.mem_map.mp hb
    have bp : ∀ b ∈ bs, ∃ p, b.2 = lkP p := fun b hb => by
      have : b.2 ∈ (dd ds).map lkP := by rw [← b2]; exact List.mem_map_of_mem hb
      obtain ⟨p, _, e⟩ := List.mem_map.mp this
      exact ⟨p, e.symm⟩
    refine ⟨.ref D, rfl, D, kvs, rfl, n, fun L hL2 => ?_⟩
    have s2 := sameUpd (o := .lst (kvs.map fun q => .ref q.2.1)) hL2
    refine ⟨L, bs, rfl, .inl (.inl (by rw [b1]; exact upd_same)), bd s2, ?_, ?_, fun b hb => ?_, fun M hM => ?_⟩
    · rw [b2]; exact PySem.W.AllAlike.of alLkP
    · rw [b2]; exact PySem.W.Sortable.tuples fun p => ⟨_, _, rfl⟩
    · obtain ⟨p, e⟩ := bp b hb
      rw [e]
      exact Nat.le_trans (plDepth (plLk p)) (by omega)
    have s3 := sameUpd (o := .lst ((sortB bs).map (·.1))) hM
    have eM : upd (upd H1 L (.lst (kvs.map fun q => .ref q.2.1))) M (.lst ((sortB bs).map (·.1))) M = some (.lst ((sortB bs).map (·.1))) := upd_same
    have sA := s2.trans s3
    have bd3 := bd sA
    have n3 : Nd P w K (upd (upd H1 L (.lst (kvs.map fun q => .ref q.2.1))) M (.lst ((sortB bs).map (·.1)))) D kvs := ⟨sA _ _ n.o, fun q hq => ⟨(n.k q hq).1, dpSame sA _ _ (n.k q hq).2⟩⟩
    have hv3 : ∀ q ∈ kvs, ∃ p, q.1 = lkP p ∧ Dp K (upd (upd H1 L (.lst (kvs.map fun q => .ref q.2.1))) M (.lst ((sortB bs).map (·.1)))) q.2.2 (pcD p) := fun q hq => by
      obtain ⟨p', e1, e2⟩ := hv q hq
      exact ⟨p', e1, dpSame sA _ _ e2⟩
    have sB := s1.trans sA
    generalize upd (upd H1 L (.lst (kvs.map fun q => .ref q.2.1))) M (.lst ((sortB bs).map (·.1))) = H3 at *
    have es : (sortB bs).map (·.2) = (srt (dd ds)).map lkP := sortOf (g := fun b : Bd => b.2) (r := fun d => d) (k := lkP) b2 (fun p => rfl) rfl
    have lS : (sortB bs).length = (srt (dd ds)).length := by
      have := congrArg List.length es
      rw [List.length_map, List.length_map] at this
      exact this
    have lB : (sortB bs).length ≤ 1000 := by
      unfold sortB
      rw [List.length_mergeSort]
      have h5 := congrArg List.length b2
      rw [List.length_map, List.length_map] at h5
      have h6 : (dd ds).length ≤ ds.length := by
        have all : ∀ (l acc : List Pc), (l.foldl ins acc).length ≤ acc.length + l.length := by
          intro l
          induction l with
          | nil => intro acc; exact Nat.le_refl _
          | cons x l ih =>
            intro acc
            have h7 := ih (ins acc x)
            have h8 : (ins acc x).length ≤ acc.length + 1 := by
              unfold ins
              split
              · omega
              · rw [List.length_append]; exact Nat.le_refl _
            simp only [List.foldl_cons, List.length_cons]
            omega
        simpa [dd] using all ds []
      omega
    refine ⟨M, rfl, ⟨_, .inl (.inl eM)⟩, fun R hR => ?_⟩
    refine lcJ (n := (sortB bs).length) (vs := [5]) (fun i H' => ∃ acc, At H3 R acc H' ∧ DpAll K H' acc (((srt (dd ds)).take i).map pcD)) ⟨[], ⟨sameUpd hR, upd_same⟩, .nil⟩
      (fun i H' lt h => ⟨_, ((sortB bs).map (·.1))[i]'(by rw [List.length_map]; exact lt), .inl (.inl (h.choose_spec.1.1 _ _ eM)), List.getElem?_eq_getElem _⟩) (fun H' h => ⟨_, .inl (.inl (h.choose_spec.1.1 _ _ eM)), by rw [List.length_map]; exact Nat.le_refl _⟩) (fun i H' x H5 lt h y => ?_) (fun H' h => ?_)
    · obtain ⟨rfl, y⟩ := y
      obtain ⟨acc, hat, hacc⟩ := h
      have e1 := y _ (.inl (.inl (hat.1 _ _ eM)))
      rw [List.getElem?_map, List.getElem?_eq_getElem lt] at e1
      have e2 : ((sortB bs)[i]).1 = x := Option.some.inj e1
      have mem : (sortB bs)[i] ∈ bs := by
        have : (sortB bs)[i] ∈ sortB bs := List.getElem_mem lt
        unfold sortB at this
        exact List.mem_mergeSort.mp this
      have lt2 : i < (srt (dd ds)).length := by omega
      have e3 : ((sortB bs)[i]).2 = lkP (srt (dd ds))[i] := by
        have e4 := congrArg (fun l => l[i]?) es
        simp only [List.getElem?_map, List.getElem?_eq_getElem lt, List.getElem?_eq_getElem lt2] at e4
        exact Option.some.inj e4
      have dx : Dp K H5 x (lkP (srt (dd ds))[i]) := by
        rw [← e2, ← e3]
        exact dpSame hat.1 _ _ (bd3 _ mem)
      have hm : ∃ q ∈ kvs, q.1 = lkP (srt (dd ds))[i] := by
        obtain ⟨q, hq, eq⟩ := hmem _ mem
        exact ⟨q, hq, by rw [← e3, ← eq]⟩
      obtain ⟨v, v1, v2⟩ := valAt (fun q hq => by
        obtain ⟨p', e1, e2⟩ := hv3 q hq
        exact ⟨p', e1, dpSame hat.1 _ _ e2⟩) hm
      have n5 : Nd P w K H5 D kvs := ⟨hat.1 _ _ n3.o, fun q hq => ⟨(n3.k q hq).1, dpSame hat.1 _ _ (n3.k q hq).2⟩⟩
      have tupx : ∃ u, x = .ref u := by
        generalize (srt (dd ds))[i] = p at dx
        cases dx with
        | tup _ _ => exact ⟨_, rfl⟩
      obtain ⟨u, rfl⟩ := tupx
      refine ⟨rfl, ?_⟩
      unfold tYes
      dsimp only
      rw [if_pos rfl]
      refine ⟨.ref D, rfl, .ref u, rfl, D, u, _, kvs, v, rfl, rfl, n5, dx, (plLk _).up (by omega), v1, ?_⟩
      obtain ⟨e6, e7⟩ := hat.put (ys := acc ++ [v]) hR (Same.refl _)
      have la := dpLen hacc
      rw [List.length_map, List.length_take] at la
      refine ⟨acc, e6, by rw [sizeLine_eq]; omega, _, e7, ?_⟩
      have t := TS.lst (o := .lst (acc ++ [v])) e6
      rw [List.take_succ_eq_append_getElem lt2, List.map_append]
      refine dpSnoc (dpTS t (plPc _) _ v2) (allPl (n := 4) (fun d hd => ?_) t hacc)
      obtain ⟨p', _, rfl⟩ := List.mem_map.mp hd
      exact plPc p'
    · obtain ⟨acc, hat, hacc⟩ := h
      rw [List.take_of_length_le (by omega)] at hacc
      refine q R acc H' (sB.trans hat.1) ?_ hat.2 hacc
      cases e : H R with
      | none => rfl
      | some o => rw [sB _ _ e] at hR; cases hR
end
end PLC

set_option Elab.async false
set_option linter.all false
set_option maxRecDepth 100000
set_option maxHeartbeats 4000000
namespace PLC
open PySem PySem.Spec PyProof.Rows L2 ND KS KS.La
abbrev lBehind : Stmt := top 20
abbrev lPlace : Stmt := top 18
section
variable {P : Program} {w : World} {K : PySem.W.Frag} {mg : Str → Option Value} {base : Heap} {f : Addr} {fd : FuncData}
theorem scLB : FnScope ["_law_place", "_law_other"] ["_law_place", "_law_other"] (defScope lBehind) := ⟨rfl, rfl, rfl, by decide +kernel, rfl, by decide +kernel, by decide +kernel⟩
theorem okLB {k : Nat} (F : FnP K "_law_behind" lBehind f fd) (B : Bn mg) : FnOk P w K mg base CX0 (k + 1) f fd ["_law_place", "_law_other"] (spBeh K) := by
  refine F.ok scLB (fun vs H Q E h => ?_) (fun cdv A outer s H vs Q E hr h => ?_)
  · obtain ⟨v, u, p, q, rfl, _⟩ := h
    rfl
  · obtain ⟨v, u, p, q, rfl, hd, hp, he, hq, qq⟩ := h
    obtain ⟨a, va, vr, rfl, hs, ha, hv⟩ := pcAt hd
    obtain ⟨a2, va2, vr2, rfl, hs2, ha2, hv2⟩ := pcAt he
    obtain ⟨b, xs, rfl, hb, hx⟩ := rowsAt hv
    obtain ⟨b2, xs2, rfl, hb2, hx2⟩ := rowsAt hv2
    refine ⟨_, PSs.nox (pss_cons (ps_if (PW.pt (pw_or (pt_cmpR op_ne (pe_ix ix_tup (pv 0) pe_int (fun _ _ => rfl)) (pe_ix ix_tup (pv 1) pe_int (fun _ _ => rfl)) (nomark _)) (pw_or1 (pt_cmpR (r := rNeD K) (op_neD hr.units) (pe_ix ix_tup (pv 0) pe_int (fun _ _ => rfl)) (pe_ix ix_tup (pv 1) pe_int (fun _ _ => rfl)) (nomark _))))) (pss_one (ps_ret pe_bl)) pss_nil) (pss_cons (ps_if (pt_cmpR op_eq (pe_callB call_len_seq (by rfl) B.len PySem.boot_len (pa_cons (pe_ix ix_tup (pv 0) pe_int (fun _ _ => rfl)) pa_nil)) (pe_callB call_len_seq (by rfl) B.len PySem.boot_len (pa_cons (pe_ix ix_tup (pv 1) pe_int (fun _ _ => rfl)) pa_nil)) (nomark _))
        (pss_one (ps_ret (pe_and (pe_cmpR (r := rEqD K) (op_eqD hr.units) (pe_ix ix_tup (pv 0) pe_int (fun _ _ => rfl)) (pe_ix ix_tup (pv 1) pe_int (fun _ _ => rfl)) (nomark _)) (pe_one (pe_cmpR op_gt (pe_ix ix_tup (pv 0) pe_int (fun _ _ => rfl)) (pe_ix ix_tup (pv 1) pe_int (fun _ _ => rfl)) (nomark _)))))) pss_nil) (pss_one (ps_ret (pe_and (pe_cmpR op_gt (pe_callB call_len_seq (by rfl) B.len PySem.boot_len (pa_cons (pe_ix ix_tup (pv 0) pe_int (fun _ _ => rfl)) pa_nil)) (pe_callB call_len_seq (by rfl) B.len PySem.boot_len (pa_cons (pe_ix ix_tup (pv 1) pe_int (fun _ _ => rfl)) pa_nil)) (nomark _))
        (pe_one (pe_cmpR (r := rEqD K) (op_eqD hr.units) (pe_slice sl_tupA (pe_ix ix_tup (pv 0) pe_int (fun _ _ => rfl)) po_none (po_some (pe_callB call_len_seq (by rfl) B.len PySem.boot_len (pa_cons (pe_ix ix_tup (pv 1) pe_int (fun _ _ => rfl)) pa_nil)))) (pe_ix ix_tup (pv 1) pe_int (fun _ _ => rfl)) (nomark _)))))))), ?_⟩
    have sa := (odArgs hp.as (by have := hp.al; omega)).shaped (by omega)
    have sa2 := (odArgs hq.as (by have := hq.al; omega)).shaped (by omega)
    have sr := (odRows hp.rs hp.rl).shaped (by omega)
    have sr2 := (odRows hq.rs hq.rl).shaped (by omega)
    have l1 := dpLen hx
    have l2 := dpLen hx2
    rw [List.length_map] at l1 l2
    refine ⟨.ref a, rfl, a, _, 0, .str p.c, rfl, rfl, hs, atI_nat (j := 0) rfl, .ref a2, rfl, a2, _, 0, .str q.c, rfl, rfl, hs2, atI_nat (j := 0) rfl, rfl, _, rfl, ?_⟩
    rcases (Decidable.em (p.c = q.c)).symm with hc | hc
    · have e1 : (!decide (V.str p.c = V.str q.c)) = true := by rw [decide_eq_false (fun z => hc (V.str.inj z))]; rfl
      rw [e1]
      refine iteT (iteT ?_)
      have : beh p q = false := if_neg fun z => hc z.1
      rw [← this]
      exact qq H (Same.refl H)
    have e1 : (!decide (V.str p.c = V.str q.c)) = false := by rw [decide_eq_true (congrArg V.str hc)]; rfl
    rw [e1]
    refine iteF ⟨.ref a, rfl, a, _, 1, va, rfl, rfl, hs, atI_nat (j := 1) rfl, .ref a2, rfl, a2, _, 1, va2, rfl, rfl, hs2, atI_nat (j := 1) rfl, argsD p.as, argsD q.as, ha, ha2, sa, sa2, _, rfl, ?_⟩
    rw [eqArgs]
    rcases (Decidable.em (p.as = q.as)).symm with has | has
    · rw [decide_eq_false has]
      refine iteT ?_
      have : beh p q = false := if_neg fun z => has z.2
      rw [← this]
      exact qq H (Same.refl H)
    rw [decide_eq_true has]
    have hb0 : beh p q = if p.rs = q.rs then decide (q.n < p.n) else decide (p.rs.take q.rs.length = q.rs) := if_pos ⟨hc, has⟩
    refine iteF ⟨.ref a, rfl, a, _, 2, .ref b, rfl, rfl, hs, atI_nat (j := 2) rfl, b, xs, rfl, .inr hb, .ref a2, rfl, a2, _, 2, .ref b2, rfl, rfl, hs2, atI_nat (j := 2) rfl, b2, xs2, rfl, .inr hb2, rfl, _, rfl, ite2 (fun el => ?_) (fun el => ?_)⟩
    · have el2 : p.rs.length = q.rs.length := by
        have := V.int.inj (of_decide_eq_true el)
        omega
      refine ⟨.ref a, rfl, a, _, 2, .ref b, rfl, rfl, hs, atI_nat (j := 2) rfl, .ref a2, rfl, a2, _, 2, .ref b2, rfl, rfl, hs2, atI_nat (j := 2) rfl, rowsD p.rs, rowsD q.rs, hv, hv2, sr, sr2, PyData.eqv (rowsD p.rs) (rowsD q.rs), rfl, ?_⟩
      rw [eqRows]
      by_cases hrs : p.rs = q.rs
      · rw [if_pos hrs] at hb0
        rw [decide_eq_true hrs]
        refine iteT ⟨.ref a, rfl, a, _, 3, .int p.n, rfl, rfl, hs, atI_nat (j := 3) rfl, .ref a2, rfl, a2, _, 3, .int q.n, rfl, rfl, hs2, atI_nat (j := 3) rfl, p.n, q.n, rfl, rfl, ?_⟩
        show Q (.bl (decide (q.n < p.n))) H
        rw [← hb0]
        exact qq H (Same.refl H)
      · rw [if_neg hrs] at hb0
        rw [decide_eq_false hrs]
        refine iteF ?_
        have : beh p q = false := by
          rw [hb0, ← el2, List.take_length]
          exact decide_eq_false hrs
        rw [← this]
        exact qq H (Same.refl H)
    · have el2 : ¬ p.rs.length = q.rs.length := fun z => el (decide_eq_true (by show V.int (xs.length : Int) = V.int (xs2.length : Int); rw [l1, l2, z]))
      have hrs : ¬ p.rs = q.rs := fun z => el2 (by rw [z])
      rw [if_neg hrs] at hb0
      refine ⟨.ref a, rfl, a, _, 2, .ref b, rfl, rfl, hs, atI_nat (j := 2) rfl, b, xs, rfl, .inr hb, .ref a2, rfl, a2, _, 2, .ref b2, rfl, rfl, hs2, atI_nat (j := 2) rfl, b2, xs2, rfl, .inr hb2, (xs.length : Int), (xs2.length : Int), rfl, rfl, _, rfl, ite2 (fun lt => ?_) (fun lt => ?_)⟩
      · refine ⟨.ref a, rfl, a, _, 2, .ref b, rfl, rfl, hs, atI_nat (j := 2) rfl, .ref a2, rfl, a2, _, 2, .ref b2, rfl, rfl, hs2, atI_nat (j := 2) rfl, b2, xs2, rfl, .inr hb2, (xs2.length : Int), rfl, cutAny hb fun t H1 ht s1 => ?_⟩
        rw [cutTake] at ht
        have dt : Dp K H1 (.ref t) (rowsD (p.rs.take xs2.length)) := by
          refine .tup ht ?_
          rw [List.map_take]
          exact allTake _ (dpAllSame s1 _ _ hx)
        refine ⟨.ref a2, rfl, a2, _, 2, .ref b2, rfl, rfl, sameTup s1 hs2, atI_nat (j := 2) rfl, _, _, dt, dpSame s1 _ _ hv2, (odRows (fun r hr => hp.rs r (List.mem_of_mem_take hr)) (by rw [List.length_take]; have := hp.rl; omega)).shaped (by omega), sr2, ?_⟩
        show Q (.bl (PyData.eqv (rowsD (p.rs.take xs2.length)) (rowsD q.rs))) H1
        rw [eqRows, l2, ← hb0]
        exact qq H1 s1
      · have le : p.rs.length ≤ q.rs.length := by
          have : ¬ ((xs2.length : Int) < (xs.length : Int)) := fun z => lt (decide_eq_true z)
          omega
        have : beh p q = false := by
          rw [hb0, List.take_of_length_le le]
          exact decide_eq_false hrs
        rw [← this]
        exact qq H (Same.refl H)
end
theorem _root_.KS.La.Fd.ne {H : Hp} {f p : Addr} (h : Fd H f) (hp : H p = none) : p ≠ f := fun z => by
  obtain ⟨x, y, e, _⟩ := h
  rw [z, e] at hp
  cases hp
theorem _root_.KS.La.Fd.other {H : Hp} {f p : Addr} {o : HO} (h : Fd H f) (n : p ≠ f) : Fd (upd H p o) f := by
  obtain ⟨x, y, e, a, b⟩ := h
  exact ⟨x, y, by rw [upd_ne (Ne.symm n)]; exact e, a, b⟩
theorem TS.kp {f : Addr} {H H' : Hp} (hf : Fd H f) (k : Kp f H H') : TS H H' := fun a o e t => by
  by_cases n : a = f
  · obtain ⟨x, y, h, _⟩ := hf
    rw [n, h] at e
    have e2 := Option.some.inj e
    rcases t with ⟨xs, rfl⟩ | ⟨p, xs, rfl⟩ <;> cases e2
  · exact k a o n e
/-- answers or texts, drawn -/
theorem lcFeedA {f D : Addr} {j m : Nat} {te : TE} {σ : L2.St} {H1 : Hp} {Qd : Hp → Prop} (pr : Option Str → Prop) (hD : H1 D = none) (hF : Fd H1 f) (hm : m ≤ 100) (hw : ∀ v, wipe ((wipe σ [j]).set j (some v)) [j] = wipe σ [j])
    (hs : ∀ x H, Kp f H1 H → Fd H f → ∀ R : VK, (∀ a H', pr a → Kp f H H' → Fd H' f → R (vA a) H') → te ((wipe σ [j]).set j (some x)) H R)
    (hd : ∀ H (r : List (Option Str)), H D = some (.lst (r.map vA)) → r.length = m → (∀ a ∈ r, pr a) → Kp f H1 H → Fd H f → Qd H) :
    ∃ W : Nat → Nat → Hp → Prop, (∃ m, W 0 m (upd H1 D (.lst []))) ∧ ∀ i k H, W i k H →
      ((Itr 0 m).stop i H ∧ Qd H) ∨ ((Itr 0 m).go i H ∧ ∃ Nx : Hp → Prop, (∀ H', Nx H' → ∃ m', m' < k ∧ W (i + 1) m' H') ∧ ∀ x H', (Itr 0 m).yld i H x H' → gName j x (wipe σ [j]) H' fun σ2 H2 => wipe σ2 [j] = wipe σ [j] ∧ tYes σ2 H2 fun b H3 =>
        if b = true then te σ2 H3 fun y H4 => ∃ acc, H4 D = some (.lst acc) ∧ acc.length < sizeLine ∧ Nx (upd H4 D (.lst (acc ++ [y]))) else Nx H3) := by
  have nD := hF.ne hD
  refine lcJ (n := m) (fun i H => ∃ r : List (Option Str), H D = some (.lst (r.map vA)) ∧ r.length = i ∧ (∀ a ∈ r, pr a) ∧ Kp f H1 H ∧ Fd H f) ⟨[], upd_same, rfl, fun v hv => absurd hv (by simp), Kp.new hD, hF.other nD⟩ (fun i H lt _ => lt) (fun H _ => Nat.le_refl _) (fun i H x H' lt h y => ?_) (fun H h => ?_)
  · obtain ⟨r, e, el, hv, kp, fd⟩ := h
    obtain ⟨rfl, rfl⟩ := y
    refine ⟨hw _, ?_⟩
    unfold tYes
    dsimp only
    rw [if_pos rfl]
    refine hs _ H' kp fd _ fun a H2 ha k2 f2 => ?_
    have e2 := k2 D _ nD e
    refine ⟨_, e2, by rw [sizeLine_eq, List.length_map]; omega, r ++ [a], ?_, by rw [List.length_append, el]; rfl, fun u hu => ?_, fun b o nb hb => ?_, f2.other nD⟩
    · rw [List.map_append]
      exact upd_same
    · rcases List.mem_append.mp hu with z | z
      · exact hv u z
      · rw [List.mem_singleton.mp z]
        exact ha
    · rw [upd_ne (ne_of_none hb hD)]
      exact k2 _ _ nb (kp _ _ nb hb)
  · obtain ⟨r, e, el, hv, kp, fd⟩ := h
    exact hd H r e el hv kp fd
def spPlace (K : PySem.W.Frag) : Sp := fun vs H Q _ => ∃ f : Addr, vs = [.ref f] ∧ Fd H f ∧ ∀ v p H', Ok p → p.rs.length ≤ 2 → Dp K H' v (pcD p) → Kp f H H' → Fd H' f → Q v H'
section
variable {P : Program} {w : World} {K : PySem.W.Frag} {mg : Str → Option Value} {base : Heap} {f : Addr} {fd : FuncData}
abbrev nPlace : List Str := ["_law_feed", "_law_rows", "_law_turn", "_law_part", "_law_arguments"]
theorem scPlace : FnScope nPlace ["_law_feed"] (defScope lPlace) := ⟨rfl, rfl, rfl, by decide +kernel, rfl, by decide +kernel, by decide +kernel⟩
theorem ansOk {v : V} (h : v = .non ∨ ∃ z, v = .str z ∧ TOk z) : ∃ a : Option Str, v = vA a ∧ ∀ z, a = some z → TOk z := by
  rcases h with rfl | ⟨z, rfl, hz⟩
  · exact ⟨none, rfl, fun z e => by cases e⟩
  · exact ⟨some z, rfl, fun z' e => by cases e; exact hz⟩
theorem txtsOf : ∀ {r : List (Option Str)}, (∀ a ∈ r, ∃ z, a = some z ∧ TOk z) → ∃ as : List Str, r.map vA = as.map V.str ∧ r.length = as.length ∧ ∀ z ∈ as, TOk z
  | [], _ => ⟨[], rfl, rfl, fun z h => absurd h (by simp)⟩
  | a :: r, h => by
    obtain ⟨z, rfl, hz⟩ := h a List.mem_cons_self
    obtain ⟨as, e1, e2, e3⟩ := txtsOf fun b hb => h b (List.mem_cons_of_mem _ hb)
    refine ⟨z :: as, ?_, by rw [List.length_cons, List.length_cons, e2], fun y hy => ?_⟩
    · rw [List.map_cons, List.map_cons, e1]
      rfl
    · rcases List.mem_cons.mp hy with rfl | hy
      · exact hz
      · exact e3 y hy
theorem okPlace {k : Nat} (F : FnP K "_law_some_place" lPlace f fd) (B : Bn mg) (D : Has P w K mg base (k + 1) "_law_draw" ["_law_feed", "_law_many"] spDraw) (T : Has P w K mg base (k + 3) "_law_some_text" ["_law_feed"] spText) (An : Has P w K mg base (k + 4) "_law_some_answer" ["_law_feed"] spAns) : FnOk P w K mg base CX0 (k + 5) f fd ["_law_feed"] (spPlace K) := by
  obtain ⟨fD, fdD, gD, kD, bD, GD⟩ := D.ex
  obtain ⟨fT, fdT, gT, kT, bT, GT⟩ := T.ex
  obtain ⟨fA, fdA, gA, kA, bA, GA⟩ := An.ex
  refine F.ok scPlace (fun vs H Q E h => ?_) (fun cdv A outer s H vs Q E hr h => ?_)
  · obtain ⟨a, rfl, _⟩ := h
    rfl
  · obtain ⟨a, rfl, hF, q⟩ := h
    have hr1 : Room (k + 1) _ := hr.mono (by omega)
    have hr3 : Room (k + 3) _ := hr.mono (by omega)
    refine ⟨_, PSs.nox (pss_cons (ps_set (i := 1) scPlace.nd rfl (.inl rfl) (pe_lst pa_nil)) (C8.pss_cut (ps_for PassesOwn.never rfl (pi_range1 (by rfl) B.range (pa_cons (pe_call GD hr1 (by rfl) gD kD bD .nil pass0 (pa_cons (pv 0) (pa_cons (pe_int) pa_nil))) pa_nil)) (pg_name (i := 2) scPlace.nd rfl (.inl rfl))
        (pss_one (ps_expr (pe_bm PySem.F.plainAttrs_list PySem.F.slot_list_append PySem.F.type_list_append mt_append (pv 1) (pa_cons (pe_callTy (r := rTup K) (T := "tuple") call_tuple_of (by rfl) B.tuple (by decide +kernel) (pa_cons (pe_lc (own := [("_law_part", 3)]) (g := gName 3) rfl scPlace.nd (pi_range1 (by rfl) B.range (pa_cons (pe_op op_add pe_int (pe_call GD hr1 (by rfl) gD kD bD .nil pass0 (pa_cons (pv 0) (pa_cons (pe_int) pa_nil)))) pa_nil)) (blkOk_by (N := nPlace) (sc := defScope lPlace) (by decide +kernel))
            (fun _ _ _ _ _ => pg_name (i := 3) scPlace.nd rfl (.inl rfl) (hf := .inr rfl)) (fun _ _ _ _ _ => pts_nil) (fun _ _ _ _ _ => pe_call GA hr (by rfl) gA kA bA .nil pass0 (pa_cons (pv 0) pa_nil))) pa_nil)) pa_nil))))) (pss_cons (ps_set (i := 4) scPlace.nd rfl (.inl rfl) (pe_callTy (r := rTup K) (T := "tuple") call_tuple_of (by rfl) B.tuple (by decide +kernel) (pa_cons (pe_lc (own := [("_law_turn", 2)]) (g := gName 2) rfl scPlace.nd (pi_range1 (by rfl) B.range (pa_cons (pe_call GD hr1 (by rfl) gD kD bD .nil pass0 (pa_cons (pv 0) (pa_cons (pe_int) pa_nil))) pa_nil)) (blkOk_by (N := nPlace) (sc := defScope lPlace) (by decide +kernel))
            (fun _ _ _ _ _ => pg_name (i := 2) scPlace.nd rfl (.inl rfl) (hf := .inr rfl)) (fun _ _ _ _ _ => pts_nil) (fun _ _ _ _ _ => pe_call GT hr3 (by rfl) gT kT bT .nil pass0 (pa_cons (pv 0) pa_nil))) pa_nil))) (pss_one (ps_ret (pe_tup (pa_cons (pe_call GT hr3 (by rfl) gT kT bT .nil pass0 (pa_cons (pv 0) pa_nil)) (pa_cons (pv 4) (pa_cons (pe_callTy call_tuple_of (by rfl) B.tuple (by decide +kernel) (pa_cons (pv 1) pa_nil)) (pa_cons (pe_ix ix_list (pe_lst (pa_cons (pe_int) (pa_cons (pe_int) (pa_cons (pe_int) (pa_cons (pe_int) (pa_cons (pe_int) (pa_cons (pe_int) (pa_cons (pe_int) pa_nil)))))))) (pe_call GD hr1 (by rfl) gD kD bD .nil pass0 (pa_cons (pv 0) (pa_cons (pe_int) pa_nil))) (fun _ _ => rfl)) pa_nil)))))))))), ?_⟩
    refine ⟨Nat.zero_le _, fun R hR => ?_⟩
    have nR := hF.ne hR
    have F1 := hF.new (o := .lst []) hR
    refine ⟨fun σ' H' => ∃ t rs, ∃ rr : List (List (Option Str)), σ' = [some (.ref a), some (.ref R), t, none, none] ∧ H' R = some (.lst rs) ∧ DpAll K H' rs (rr.map rowD) ∧ rr.length ≤ 2 ∧ (∀ r ∈ rr, r.length ≤ 4 ∧ ∀ z, some z ∈ r → TOk z) ∧ Kp a H H' ∧ Fd H' a, ?_, ?_⟩
    · refine ⟨.ref a, rfl, a, 3, rfl, F1, by decide, by decide, fun r H2 r0 r1 k2 F2 => ⟨r, rfl, by omega, by omega, ?_⟩⟩
      obtain ⟨m, rfl⟩ : ∃ m : Nat, r = (m : Int) := ⟨r.toNat, by omega⟩
      rw [Int.toNat_natCast]
      refine forJ (n := m) (fun i σ' H' => ∃ t rs, ∃ rr : List (List (Option Str)), σ' = [some (.ref a), some (.ref R), t, none, none] ∧ H' R = some (.lst rs) ∧ DpAll K H' rs (rr.map rowD) ∧ rr.length = i ∧ (∀ r ∈ rr, r.length ≤ 4 ∧ ∀ z, some z ∈ r → TOk z) ∧ Kp a H H' ∧ Fd H' a)
        ⟨none, [], [], rfl, k2 _ _ nR upd_same, .nil, rfl, fun v hv => absurd hv (by simp), (Kp.new hR).trans k2, F2⟩ (fun i σ' H' lt _ => lt) (fun σ' H' _ => Nat.le_refl _)
        (fun i σ' H3 x H4 lt h y => ?_) (fun σ' H' h => ?_)
      · obtain ⟨rfl, rfl⟩ := y
        obtain ⟨t, rs, rr, rfl, eR, hrs, lR, hv, k3, F3⟩ := h
        refine ⟨.ref R, rfl, .inl ⟨rfl, _, .inl (.inl eR)⟩, .ref a, rfl, a, 3, rfl, F3, by decide, by decide, fun x1 H5 a0 a1 k5 F5 => ⟨1, x1, rfl, rfl, 1 + x1, rfl, by omega, by omega, ?_⟩⟩
        obtain ⟨m1, em1⟩ : ∃ m : Nat, 1 + x1 = (m : Int) := ⟨(1 + x1).toNat, by omega⟩
        rw [em1, Int.toNat_natCast]
        intro D hD
        refine lcFeedA (m := m1) (fun o => ∀ z, o = some z → TOk z) hD F5 (by omega) (fun v => rfl) (fun x H6 k6 F6 R' hR' => ?_) (fun H6 r e6 el hpr k6 F6 => ?_)
        · refine ⟨.ref a, rfl, a, rfl, F6, fun v H7 hv7 k7 F7 => ?_⟩
          obtain ⟨o, rfl, ho⟩ := ansOk hv7
          exact hR' o H7 ho k7 F7
        · refine ⟨D, r.map vA, rfl, .inl ⟨.inl (.inl e6), fun U hU => ?_⟩⟩
          have s7 := sameUpd (o := .tup (r.map vA)) hU
          have eR6 := k6 _ _ nR (k5 _ _ nR eR)
          have eR7 := s7 _ _ eR6
          have F7 := F6.same s7
          have d7 : Dp K (upd H6 U (.tup (r.map vA))) (.ref U) (rowD r) := rowDp (.inl (.inl upd_same))
          have kA : Kp a H4 (upd H6 U (.tup (r.map vA))) := (k5.trans k6).trans (Kp.same s7)
          have tA := TS.kp F3 kA
          generalize upd H6 U (.tup (r.map vA)) = H7 at *
          have t8 := TS.lst (o := .lst (rs ++ [.ref U])) eR7
          have lrs := dpLen hrs
          rw [List.length_map] at lrs
          refine ⟨R, rs, .ref U, rfl, rfl, eR7, by rw [sizeLine_eq]; omega, ?_⟩
          refine ⟨_, rs ++ [.ref U], rr ++ [r], rfl, upd_same, ?_, by rw [List.length_append, lR, List.length_singleton], fun r' hr' => ?_, fun b o nb hb => ?_, F7.other nR⟩
          · rw [List.map_append]
            refine dpSnoc (dpTS t8 (plRow _) _ d7) (allPl (n := 2) (fun d hd => ?_) (tA.trans t8) hrs)
            obtain ⟨r', _, rfl⟩ := List.mem_map.mp hd
            exact plRow r'
          · rcases List.mem_append.mp hr' with z | z
            · exact hv r' z
            · rw [List.mem_singleton.mp z]
              exact ⟨by omega, fun z hz => hpr _ hz z rfl⟩
          · rw [upd_ne (ne_of_none hb hR)]
            exact kA _ _ nb (k3 _ _ nb hb)
      · obtain ⟨t, rs, rr, rfl, eR, hrs, lR, hv, k3, F3⟩ := h
        exact ⟨t, rs, rr, rfl, eR, hrs, by omega, hv, k3, F3⟩
    rintro _ H3 ⟨t, rs, rr, rfl, eR, hrs, lR, hv, k3, F3⟩
    refine ⟨.ref a, rfl, a, 3, rfl, F3, by decide, by decide, fun r H4 r0 r1 k4 F4 => ⟨r, rfl, by omega, by omega, ?_⟩⟩
    obtain ⟨m, rfl⟩ : ∃ m : Nat, r = (m : Int) := ⟨r.toNat, by omega⟩
    rw [Int.toNat_natCast]
    intro D hD
    refine lcFeedA (m := m) (fun o => ∃ z, o = some z ∧ TOk z) hD F4 (by omega) (fun v => rfl) (fun x H6 k6 F6 R' hR' => ?_) (fun H6 r e6 el hpr k6 F6 => ?_)
    · exact ⟨.ref a, rfl, a, rfl, F6, fun z H7 hz k7 F7 => hR' (some z) H7 ⟨z, rfl, hz⟩ k7 F7⟩
    · obtain ⟨as, e1, e2, e3⟩ := txtsOf hpr
      rw [e1] at e6
      refine ⟨D, as.map V.str, rfl, .inl ⟨.inl (.inl e6), fun U hU => ?_⟩⟩
      have s7 := sameUpd (o := .tup (as.map V.str)) hU
      have F7 := F6.same s7
      have d7 : Dp K (upd H6 U (.tup (as.map V.str))) (.ref U) (argsD as) := argsDp (.inl (.inl upd_same))
      have k7 : Kp a H3 (upd H6 U (.tup (as.map V.str))) := (k4.trans k6).trans (Kp.same s7)
      generalize upd H6 U (.tup (as.map V.str)) = H7 at *
      refine ⟨.ref a, rfl, a, rfl, F7, fun z H8 tz k8 F8 => ?_⟩
      have kA := k7.trans k8
      have eR8 := kA _ _ nR eR
      refine ⟨.ref U, rfl, .ref R, rfl, R, rs, rfl, .inl ⟨.inl (.inl eR8), fun Y hY => ?_⟩⟩
      have s9 := sameUpd (o := .tup rs) hY
      have d9 : Dp K (upd H8 Y (.tup rs)) (.ref Y) (rowsD rr) := .tup (.inl (.inl upd_same)) (dpAllSame s9 _ _ (allPl (n := 2) (fun d hd => by
        obtain ⟨r', _, rfl⟩ := List.mem_map.mp hd
        exact plRow r') (TS.kp F3 kA) hrs))
      have d9' : Dp K (upd H8 Y (.tup rs)) (.ref U) (argsD as) := dpSame s9 _ _ (dpTS (TS.kp F7 k8) (plArgs as) _ d7)
      have F9 := F8.same s9
      have k9 : Kp a H (upd H8 Y (.tup rs)) := (k3.trans kA).trans (Kp.same s9)
      generalize upd H8 Y (.tup rs) = H9 at *
      refine ⟨(by show 7 ≤ sizeLine; decide), fun L hL => ⟨.ref a, rfl, a, 7, rfl, F9.new hL, by decide, by decide, fun x HA x0 x1 kB FA => ?_⟩⟩
      obtain ⟨j, rfl⟩ : ∃ j : Nat, x = (j : Int) := ⟨x.toNat, by omega⟩
      have hj : j < 7 := by omega
      have nL := F9.ne hL
      have eL := kB _ _ nL upd_same
      have kC : Kp a H9 HA := (Kp.new hL).trans kB
      have tC := TS.kp F9 kC
      have fin : ∀ n : Int, ∀ p, HA p = none → Q (.ref p) (upd HA p (.tup [.str z, .ref U, .ref Y, .int n])) := fun n p hp => by
        have sB := sameUpd (o := .tup [.str z, .ref U, .ref Y, .int n]) hp
        exact q _ ⟨z, as, rr, n⟩ _ ⟨tz, fun y hy => e3 y hy, by show as.length ≤ 4; omega, hv, by show rr.length ≤ 100; omega⟩ lR (pcMk (p := ⟨z, as, rr, n⟩) (.inl (.inl upd_same)) (dpSame sB _ _ (dpTS tC (plArgs _) _ d9')) (dpSame sB _ _ (dpTS tC (plRows _) _ d9))) ((k9.trans kC).trans (Kp.new hp)) (FA.new hp)
      refine ⟨L, _, (j : Int), ([0, 1, 2, 9, 10, 11, 100].map V.int)[j]'(by simpa using hj), rfl, rfl, .inl (.inl eL), atI_nat (by exact List.getElem?_eq_getElem _), (by show 4 ≤ sizeLine; decide), fun p hp => ?_⟩
      rw [List.getElem_map]
      exact fin _ p hp
end
end PLC

set_option Elab.async false
set_option linter.all false
set_option maxRecDepth 100000
set_option maxHeartbeats 4000000
namespace PLC
open PySem PySem.Spec PyProof.Rows L2 ND KS KS.La
abbrev lNear : Stmt := top 19
abbrev lMixed : Stmt := top 11
/-- a place, of at most M rows -/
def Pc1 (K : PySem.W.Frag) (M : Nat) (H : Hp) (v : V) : Prop := ∃ p, Ok p ∧ p.rs.length ≤ M ∧ Dp K H v (pcD p)
theorem Pc1.ts {K : PySem.W.Frag} {M : Nat} {H H' : Hp} {v : V} (t : TS H H') (h : Pc1 K M H v) : Pc1 K M H' v := let ⟨p, a, b, c⟩ := h; ⟨p, a, b, dpTS t (plPc p) _ c⟩
theorem Pc1.up {K : PySem.W.Frag} {M N : Nat} {H : Hp} {v : V} (n : M ≤ N) (h : Pc1 K M H v) : Pc1 K N H v := let ⟨p, a, b, c⟩ := h; ⟨p, a, Nat.le_trans b n, c⟩
theorem pcsAll {K : PySem.W.Frag} {M : Nat} {H : Hp} : ∀ {xs : List V}, (∀ v ∈ xs, Pc1 K M H v) → ∃ ds : List Pc, DpAll K H xs (ds.map pcD) ∧ (∀ p ∈ ds, Ok p) ∧ ∀ p ∈ ds, p.rs.length ≤ M
  | [], _ => ⟨[], .nil, fun p h => absurd h (by simp), fun p h => absurd h (by simp)⟩
  | v :: xs, h => by
    obtain ⟨ds, a, b, c⟩ := pcsAll fun u hu => h u (List.mem_cons_of_mem _ hu)
    obtain ⟨p, x, y, z⟩ := h v List.mem_cons_self
    refine ⟨p :: ds, .cons z a, fun q hq => ?_, fun q hq => ?_⟩
    · rcases List.mem_cons.mp hq with rfl | hq
      · exact x
      · exact b q hq
    · rcases List.mem_cons.mp hq with rfl | hq
      · exact y
      · exact c q hq
theorem dpAppend {K : PySem.W.Frag} {H : Hp} {ys : List V} {es : List PyData} (hy : DpAll K H ys es) : ∀ {xs : List V} {ds : List PyData}, DpAll K H xs ds → DpAll K H (xs ++ ys) (ds ++ es)
  | _, _, .nil => hy
  | _, _, .cons h r => .cons h (dpAppend hy r)
theorem catD {K : PySem.W.Frag} {H : Hp} {v u : V} {ds es : List PyData} {Q : VK} (hv : Dp K H v (.tuple ds)) (hu : Dp K H u (.tuple es)) (hl : ds.length + es.length ≤ 1000) (q : ∀ y H', Same H H' → Dp K H' y (.tuple (ds ++ es)) → Q y H') : rCatA K v u H Q := by
  cases hv with
  | @tup a xs _ ha hx =>
    cases hu with
    | @tup b ys _ hb hy =>
      have l1 := dpLen hx
      have l2 := dpLen hy
      refine ⟨a, b, xs, ys, rfl, rfl, ha, hb, by rw [sizeLine_eq]; omega, fun e => ?_, fun _ e => ?_, fun _ _ p hp => ?_⟩
      · subst e
        have : ds = [] := List.eq_nil_of_length_eq_zero l1.symm
        subst this
        exact q _ H (Same.refl H) (.tup hb hy)
      · subst e
        have : es = [] := List.eq_nil_of_length_eq_zero l2.symm
        subst this
        rw [List.append_nil] at q
        exact q _ H (Same.refl H) (.tup ha hx)
      · have s1 := sameUpd (o := .tup (xs ++ ys)) hp
        exact q _ _ s1 (.tup (.inl (.inl upd_same)) (dpAppend (dpAllSame s1 _ _ hy) (dpAllSame s1 _ _ hx)))
theorem cutSome (xs : List V) (hi : Option Int) : ∃ j, cutV xs none hi = xs.take j := by
  unfold cutV
  rw [HT.sIx_none, List.drop_zero, Nat.sub_zero]
  exact ⟨_, rfl⟩
/-! what a part gives, and that it changes but the feed -/
structure Stb (a : Addr) (I : Hp → Prop) : Prop where
  f : ∀ {H}, I H → Fd H a
  kp : ∀ {H H'}, I H → Kp a H H' → Fd H' a → I H'
def EvP (a : Addr) (I : Hp → Prop) (te : TE) (σ : L2.St) (A : V → Hp → Prop) : Prop := ∀ H, I H → ∀ Q : VK, (∀ v H', A v H' → Kp a H H' → I H' → Q v H') → te σ H Q
section
variable {K : PySem.W.Frag} {a : Addr} {I : Hp → Prop} {σ : L2.St} {te te1 te2 te3 te4 : TE}
def A1 : V → Hp → Prop := fun v _ => ∃ z, v = .str z ∧ TOk z
def A2 (K : PySem.W.Frag) (N : Nat) : V → Hp → Prop := fun v H => ∃ as : List Str, (∀ z ∈ as, TOk z) ∧ as.length ≤ N ∧ Dp K H v (argsD as)
def A3 (K : PySem.W.Frag) (M : Nat) : V → Hp → Prop := fun v H => ∃ rs : List (List (Option Str)), (∀ r ∈ rs, r.length ≤ 4 ∧ ∀ z, some z ∈ r → TOk z) ∧ rs.length ≤ M ∧ Dp K H v (rowsD rs)
def A4 : V → Hp → Prop := fun v _ => ∃ n : Int, v = .int n
def AL (K : PySem.W.Frag) (a : Addr) (c M : Nat) : V → Hp → Prop := fun v H => ∃ p xs, v = .ref p ∧ H p = some (.lst xs) ∧ p ≠ a ∧ xs.length = c ∧ ∀ u ∈ xs, Pc1 K M H u
theorem A2.ts {N : Nat} {H H' : Hp} {v : V} (t : TS H H') (h : A2 K N v H) : A2 K N v H' := let ⟨p, x, b, c⟩ := h; ⟨p, x, b, dpTS t (plArgs p) _ c⟩
theorem A3.ts {M : Nat} {H H' : Hp} {v : V} (t : TS H H') (h : A3 K M v H) : A3 K M v H' := let ⟨p, x, b, c⟩ := h; ⟨p, x, b, dpTS t (plRows p) _ c⟩
theorem AL.kp {c M : Nat} {H H' : Hp} {v : V} (f : Fd H a) (k : Kp a H H') (h : AL K a c M v H) : AL K a c M v H' := let ⟨p, xs, e, x, y, z, w⟩ := h; ⟨p, xs, e, k _ _ y x, y, z, fun u hu => (w u hu).ts (TS.kp f k)⟩
theorem evVar {i : Nat} {v : V} {A : V → Hp → Prop} (e : σ[i]? = some (some v)) (h : ∀ H, I H → A v H) : EvP a I (tVar i) σ A := fun H hI Q q => ⟨v, e, q v H (h H hI) (Kp.refl _ _) hI⟩
theorem evInt {i : Int} : EvP a I (tC (.int i)) σ A4 := fun H hI Q q => q _ H ⟨i, rfl⟩ (Kp.refl _ _) hI
theorem evPlace {N M M2 : Nat} (S : Stb a I) (hN : N ≤ 4) (hM : M ≤ M2) (hM2 : M2 ≤ 100) (h1 : EvP a I te1 σ A1) (h2 : EvP a I te2 σ (A2 K N)) (h3 : EvP a I te3 σ (A3 K M)) (h4 : EvP a I te4 σ A4) : EvP a I (tTup (tCons te1 (tCons te2 (tCons te3 (tCons te4 tNil))))) σ (fun v H => Pc1 K M2 H v) := fun H hI Q q =>
  h1 H hI _ fun v1 H1 ⟨z, e1, hz⟩ k1 I1 => h2 H1 I1 _ fun v2 H2 b2 k2 I2 => h3 H2 I2 _ fun v3 H3 b3 k3 I3 => h4 H3 I3 _ fun v4 H4 ⟨n, e4⟩ k4 I4 => ⟨(by show 4 ≤ sizeLine; decide), fun p hp => by
    subst e1 e4
    have k5 : Kp a H4 (upd H4 p (.tup [.str z, v2, v3, .int n])) := Kp.new hp
    have F5 := (S.f I4).new (o := .tup [.str z, v2, v3, .int n]) hp
    obtain ⟨as, p1, p2, p3⟩ := A2.ts (TS.kp (S.f I2) ((k3.trans k4).trans k5)) b2
    obtain ⟨rs, r1, r2, r3⟩ := A3.ts (TS.kp (S.f I3) (k4.trans k5)) b3
    exact q _ _ ⟨⟨z, as, rs, n⟩, ⟨hz, p1, by show as.length ≤ 4; omega, r1, by show rs.length ≤ 100; omega⟩, by show rs.length ≤ M2; omega, pcMk (p := ⟨z, as, rs, n⟩) (.inl (.inl upd_same)) p3 r3⟩ ((((k1.trans k2).trans k3).trans k4).trans k5) (S.kp I4 k5 F5)⟩
theorem evLst1 {M : Nat} (S : Stb a I) (h1 : EvP a I te1 σ (fun v H => Pc1 K M H v)) : EvP a I (tLst (tCons te1 tNil)) σ (AL K a 1 M) := fun H hI Q q =>
  h1 H hI _ fun v1 H1 b1 k1 I1 => ⟨(by show 1 ≤ sizeLine; decide), fun p hp => by
    have k5 : Kp a H1 (upd H1 p (.lst [v1])) := Kp.new hp
    have F5 := (S.f I1).new (o := .lst [v1]) hp
    exact q _ _ ⟨p, [v1], rfl, upd_same, (S.f I1).ne hp, rfl, fun u hu => by
      rw [List.mem_singleton.mp hu]
      exact b1.ts (TS.kp (S.f I1) k5)⟩ (k1.trans k5) (S.kp I1 k5 F5)⟩
theorem evLst2 {M : Nat} (S : Stb a I) (h1 : EvP a I te1 σ (fun v H => Pc1 K M H v)) (h2 : EvP a I te2 σ (fun v H => Pc1 K M H v)) : EvP a I (tLst (tCons te1 (tCons te2 tNil))) σ (AL K a 2 M) := fun H hI Q q =>
  h1 H hI _ fun v1 H1 b1 k1 I1 => h2 H1 I1 _ fun v2 H2 b2 k2 I2 => ⟨(by show 2 ≤ sizeLine; decide), fun p hp => by
    have k5 : Kp a H2 (upd H2 p (.lst [v1, v2])) := Kp.new hp
    have F5 := (S.f I2).new (o := .lst [v1, v2]) hp
    exact q _ _ ⟨p, [v1, v2], rfl, upd_same, (S.f I2).ne hp, rfl, fun u hu => by
      simp only [List.mem_cons, List.not_mem_nil, or_false] at hu
      rcases hu with rfl | rfl
      · exact b1.ts (TS.kp (S.f I1) (k2.trans k5))
      · exact b2.ts (TS.kp (S.f I2) k5)⟩ ((k1.trans k2).trans k5) (S.kp I2 k5 F5)⟩
theorem evCatL {c d M : Nat} (S : Stb a I) (hc : c + d ≤ 1000) (h1 : EvP a I te1 σ (AL K a c M)) (h2 : EvP a I te2 σ (AL K a d M)) : EvP a I (tOp rCat te1 te2) σ (AL K a (c + d) M) := fun H hI Q q =>
  h1 H hI _ fun v1 H1 b1 k1 I1 => h2 H1 I1 _ fun v2 H2 b2 k2 I2 => by
    obtain ⟨p1, xs, rfl, e1, n1, l1, w1⟩ := AL.kp (S.f I1) k2 b1
    obtain ⟨p2, ys, rfl, e2, n2, l2, w2⟩ := b2
    refine ⟨p1, p2, xs, ys, rfl, rfl, e1, e2, by rw [sizeLine_eq]; omega, fun p hp => ?_⟩
    have k5 : Kp a H2 (upd H2 p (.lst (xs ++ ys))) := Kp.new hp
    have F5 := (S.f I2).new (o := .lst (xs ++ ys)) hp
    refine q _ _ ⟨p, xs ++ ys, rfl, upd_same, (S.f I2).ne hp, by rw [List.length_append]; omega, fun u hu => ?_⟩ ((k1.trans k2).trans k5) (S.kp I2 k5 F5)
    rcases List.mem_append.mp hu with z | z
    · exact (w1 u z).ts (TS.kp (S.f I2) k5)
    · exact (w2 u z).ts (TS.kp (S.f I2) k5)
theorem evCat3 {M N : Nat} (S : Stb a I) (hM : M + N ≤ 100) (h1 : EvP a I te1 σ (A3 K M)) (h2 : EvP a I te2 σ (A3 K N)) : EvP a I (tOp (rCatA K) te1 te2) σ (A3 K (M + N)) := fun H hI Q q =>
  h1 H hI _ fun v1 H1 b1 k1 I1 => h2 H1 I1 _ fun v2 H2 b2 k2 I2 => by
    obtain ⟨r1, x1, y1, z1⟩ := A3.ts (TS.kp (S.f I1) k2) b1
    obtain ⟨r2, x2, y2, z2⟩ := b2
    refine catD z1 z2 (by rw [List.length_map, List.length_map]; omega) fun y H3 s3 hy => ?_
    rw [← List.map_append] at hy
    have k3 : Kp a H2 H3 := Kp.same s3
    refine q _ _ ⟨r1 ++ r2, fun r hr => ?_, by rw [List.length_append]; omega, hy⟩ ((k1.trans k2).trans k3) (S.kp I2 k3 ((S.f I2).same s3))
    rcases List.mem_append.mp hr with z | z
    · exact x1 r z
    · exact x2 r z
theorem evCat2 {M N : Nat} (S : Stb a I) (hM : M + N ≤ 100) (h1 : EvP a I te1 σ (A2 K M)) (h2 : EvP a I te2 σ (A2 K N)) : EvP a I (tOp (rCatA K) te1 te2) σ (A2 K (M + N)) := fun H hI Q q =>
  h1 H hI _ fun v1 H1 b1 k1 I1 => h2 H1 I1 _ fun v2 H2 b2 k2 I2 => by
    obtain ⟨r1, x1, y1, z1⟩ := A2.ts (TS.kp (S.f I1) k2) b1
    obtain ⟨r2, x2, y2, z2⟩ := b2
    refine catD z1 z2 (by rw [List.length_map, List.length_map]; omega) fun y H3 s3 hy => ?_
    rw [← List.map_append] at hy
    have k3 : Kp a H2 H3 := Kp.same s3
    refine q _ _ ⟨r1 ++ r2, fun r hr => ?_, by rw [List.length_append]; omega, hy⟩ ((k1.trans k2).trans k3) (S.kp I2 k3 ((S.f I2).same s3))
    rcases List.mem_append.mp hr with z | z
    · exact x1 r z
    · exact x2 r z
theorem evCut3 {M : Nat} {hi : Option Int} {th : TO} (S : Stb a I) (ht : ∀ H F, F hi H → th σ H F) (h1 : EvP a I te1 σ (A3 K M)) : EvP a I (tSl (rSlA K) te1 (fun _ H F => F none H) th) σ (A3 K M) := fun H hI Q q =>
  h1 H hI _ fun v1 H1 b1 k1 I1 => by
    obtain ⟨rs, x1, y1, z1⟩ := b1
    obtain ⟨b, xs, rfl, hb, hx⟩ := rowsAt z1
    refine ht _ _ (cutAny hb fun t H2 h2 s2 => ?_)
    obtain ⟨j, ej⟩ := cutSome xs hi
    rw [ej] at h2
    have k2 : Kp a H1 H2 := Kp.same s2
    refine q _ _ ⟨rs.take j, fun r hr => x1 r (List.mem_of_mem_take hr), by rw [List.length_take]; omega, .tup h2 ?_⟩ (k1.trans k2) (S.kp I1 k2 ((S.f I1).same s2))
    rw [List.map_take]
    exact allTake _ (dpAllSame s2 _ _ hx)
theorem evCut2 {N : Nat} {hi : Option Int} {th : TO} (S : Stb a I) (ht : ∀ H F, F hi H → th σ H F) (h1 : EvP a I te1 σ (A2 K N)) (L : Nat) (hL : ∀ j : Nat, ∀ xs : List V, cutV xs none hi = xs.take j → xs.length ≤ N → (cutV xs none hi).length ≤ L) : EvP a I (tSl (rSlA K) te1 (fun _ H F => F none H) th) σ (A2 K L) := fun H hI Q q =>
  h1 H hI _ fun v1 H1 b1 k1 I1 => by
    obtain ⟨as, x1, y1, z1⟩ := b1
    obtain ⟨b, rfl, hb⟩ := argsAt z1
    refine ht _ _ (cutAny hb fun t H2 h2 s2 => ?_)
    obtain ⟨j, ej⟩ := cutSome (as.map V.str) hi
    have lj := hL j _ ej (by rw [List.length_map]; exact y1)
    rw [ej] at h2 lj
    have k2 : Kp a H1 H2 := Kp.same s2
    rw [← List.map_take] at h2 lj
    rw [List.length_map] at lj
    exact q _ _ ⟨as.take j, fun r hr => x1 r (List.mem_of_mem_take hr), lj, argsDp h2⟩ (k1.trans k2) (S.kp I1 k2 ((S.f I1).same s2))
theorem evRow1 {v : V} {i : Nat} {r : List (Option Str)} (S : Stb a I) (e : σ[i]? = some (some v)) (ok : r.length ≤ 4 ∧ ∀ z, some z ∈ r → TOk z) (h : ∀ H, I H → Dp K H v (rowD r)) : EvP a I (tTup (tCons (tVar i) tNil)) σ (A3 K 1) := fun H hI Q q =>
  ⟨v, e, (by show 1 ≤ sizeLine; decide), fun p hp => by
    have s5 := sameUpd (o := .tup [v]) hp
    have k5 : Kp a H (upd H p (.tup [v])) := Kp.same s5
    exact q _ _ ⟨[r], fun x hx => by rw [List.mem_singleton.mp hx]; exact ok, Nat.le_refl _, .tup (.inl (.inl upd_same)) (.cons (dpSame s5 _ _ (h H hI)) .nil)⟩ k5 (S.kp hI k5 ((S.f hI).same s5))⟩
theorem evRow2 {v : V} {i : Nat} {r : List (Option Str)} (S : Stb a I) (e : σ[i]? = some (some v)) (ok : r.length ≤ 4 ∧ ∀ z, some z ∈ r → TOk z) (h : ∀ H, I H → Dp K H v (rowD r)) : EvP a I (tTup (tCons (tVar i) (tCons (tVar i) tNil))) σ (A3 K 2) := fun H hI Q q =>
  ⟨v, e, v, e, (by show 2 ≤ sizeLine; decide), fun p hp => by
    have s5 := sameUpd (o := .tup [v, v]) hp
    have k5 : Kp a H (upd H p (.tup [v, v])) := Kp.same s5
    exact q _ _ ⟨[r, r], fun x hx => by
      simp only [List.mem_cons, List.not_mem_nil, or_false] at hx
      rcases hx with rfl | rfl <;> exact ok, Nat.le_refl _, .tup (.inl (.inl upd_same)) (.cons (dpSame s5 _ _ (h H hI)) (.cons (dpSame s5 _ _ (h H hI)) .nil))⟩ k5 (S.kp hI k5 ((S.f hI).same s5))⟩
theorem evArg1 {z : Str} (S : Stb a I) (hz : TOk z) : EvP a I (tTup (tCons (tC (.str z)) tNil)) σ (A2 K 1) := fun H hI Q q =>
  ⟨(by show 1 ≤ sizeLine; decide), fun p hp => by
    have s5 := sameUpd (o := .tup [V.str z]) hp
    have k5 : Kp a H (upd H p (.tup [V.str z])) := Kp.same s5
    exact q _ _ ⟨[z], fun x hx => by rw [List.mem_singleton.mp hx]; exact hz, Nat.le_refl _, .tup (.inl (.inl upd_same)) (.cons (.str z) .nil)⟩ k5 (S.kp hI k5 ((S.f hI).same s5))⟩
end
end PLC

set_option Elab.async false
set_option linter.all false
set_option maxRecDepth 100000
set_option maxHeartbeats 4000000
namespace PLC
open PySem PySem.Spec PyProof.Rows L2 ND KS KS.La
structure NI (K : PySem.W.Frag) (a : Addr) (va vr vw vp : V) (p : Pc) (row : List (Option Str)) (H : Hp) : Prop where
  f : Fd H a
  da : Dp K H va (argsD p.as)
  dr : Dp K H vr (rowsD p.rs)
  dw : Dp K H vw (rowD row)
  dp : Dp K H vp (pcD p)
theorem NI.ts {K : PySem.W.Frag} {a : Addr} {va vr vw vp : V} {p : Pc} {row : List (Option Str)} {H H' : Hp} (h : NI K a va vr vw vp p row H) (t : TS H H') (f : Fd H' a) : NI K a va vr vw vp p row H' :=
  ⟨f, dpTS t (plArgs _) _ h.da, dpTS t (plRows _) _ h.dr, dpTS t (plRow _) _ h.dw, dpTS t (plPc _) _ h.dp⟩
theorem NI.stb {K : PySem.W.Frag} {a : Addr} {va vr vw vp : V} {p : Pc} {row : List (Option Str)} : Stb a (NI K a va vr vw vp p row) := ⟨fun h => h.f, fun h k f => h.ts (TS.kp h.f k) f⟩
theorem Stb.al {K : PySem.W.Frag} {a : Addr} {I : Hp → Prop} {c M : Nat} {v : V} (S : Stb a I) : Stb a (fun H => I H ∧ AL K a c M v H) := ⟨fun h => S.f h.1, fun h k f => ⟨S.kp h.1 k f, AL.kp (S.f h.1) k h.2⟩⟩
def spNear (K : PySem.W.Frag) : Sp := fun vs H Q _ => ∃ (f : Addr) (v : V) (M : Nat), vs = [.ref f, v] ∧ M ≤ 90 ∧ Fd H f ∧ Pc1 K M H v ∧ ∀ r H', Pc1 K (M + 2) H' r → Kp f H H' → Fd H' f → Q r H'
def spMixed (K : PySem.W.Frag) (M : Nat) : Sp := fun vs H Q _ => ∃ (f l : Addr) (xs : List V), vs = [.ref f, .ref l] ∧ Fd H f ∧ SqL K H l xs ∧ xs.length ≤ 50 ∧ (∀ v ∈ xs, Pc1 K M H v) ∧
  ∀ p ys H', H p = none → Kp f H H' → Fd H' f → H' p = some (.lst ys) → ys.length = xs.length → (∀ v ∈ ys, Pc1 K M H' v) → Q (.ref p) H'
theorem kpNone {a p : Addr} {H H' : Hp} (f : Fd H' a) (k : Kp a H H') (h : H' p = none) : H p = none := by
  cases e : H p with
  | none => rfl
  | some o => rw [k p o (f.ne h) e] at h; cases h
theorem evAdd1 {a : Addr} {I : Hp → Prop} {σ : L2.St} {i : Nat} {n m : Int} (e : σ[i]? = some (some (.int n))) : EvP a I (tOp (rI0 fun i j => .int (i + j)) (tVar i) (tC (.int m))) σ A4 := fun H hI Q q => ⟨_, e, n, m, rfl, rfl, q _ H ⟨_, rfl⟩ (Kp.refl _ _) hI⟩
theorem lst2F {K : PySem.W.Frag} {M : Nat} {a : Addr} {I : Hp → Prop} {σ : L2.St} {te1 te2 : TE} {H : Hp} {Q : VK} (S : Stb a I) (hI : I H) (h1 : EvP a I te1 σ (fun v H => Pc1 K M H v)) (h2 : EvP a I te2 σ (fun v H => Pc1 K M H v))
    (q : ∀ L xs H', H L = none → H' L = some (.lst xs) → AL K a 2 M (.ref L) H' → Kp a H H' → I H' → Q (.ref L) H') : tLst (tCons te1 (tCons te2 tNil)) σ H Q :=
  h1 H hI _ fun v1 H1 b1 k1 I1 => h2 H1 I1 _ fun v2 H2 b2 k2 I2 => ⟨(by show 2 ≤ sizeLine; decide), fun p hp => by
    have k5 : Kp a H2 (upd H2 p (.lst [v1, v2])) := Kp.new hp
    have F5 := (S.f I2).new (o := .lst [v1, v2]) hp
    exact q p [v1, v2] _ (kpNone (S.f I2) (k1.trans k2) hp) upd_same ⟨p, [v1, v2], rfl, upd_same, (S.f I2).ne hp, rfl, fun u hu => by
      simp only [List.mem_cons, List.not_mem_nil, or_false] at hu
      rcases hu with rfl | rfl
      · exact b1.ts (TS.kp (S.f I1) (k2.trans k5))
      · exact b2.ts (TS.kp (S.f I2) k5)⟩ ((k1.trans k2).trans k5) (S.kp I2 k5 F5)⟩
theorem asgLst {i : Nat} {ta : TA} {D : Ends} {σ : L2.St} {H : Hp} (h : tLst ta σ H (fun v H1 => D.nx (σ.set i (some v)) H1)) : tAsg (tLst ta) (gName i) D σ H := h
theorem asgOp {i : Nat} {r : R2} {ta tb : TE} {D : Ends} {σ : L2.St} {H : Hp} (h : tOp r ta tb σ H (fun v H1 => D.nx (σ.set i (some v)) H1)) : tAsg (tOp r ta tb) (gName i) D σ H := h
theorem useOp {a : Addr} {I : Hp → Prop} {σ : L2.St} {r : R2} {ta tb : TE} {A : V → Hp → Prop} {H : Hp} {Q : VK} (hI : I H) (h : EvP a I (tOp r ta tb) σ A) (q : ∀ v H', A v H' → Kp a H H' → I H' → Q v H') : tOp r ta tb σ H Q := h H hI Q q
theorem useArg {a : Addr} {I : Hp → Prop} {σ : L2.St} {te : TE} {A : V → Hp → Prop} {H : Hp} {F : List V → Hp → Prop} (hI : I H) (h : EvP a I te σ A) (q : ∀ v H', A v H' → Kp a H H' → I H' → F [v] H') : tCons te tNil σ H F := h H hI _ q
theorem shapedList {ds : List PyData} {n : Nat} (hn : n ≤ 60) (h : ∀ d ∈ ds, Od n d) : SeqAt.shaped (.list ds) = true := by
  obtain ⟨a, b⟩ := allLay (ds := ds) (n := n) fun d hd => (h d hd).lay
  show ((PyData.list ds).canLay0 && decide ((PyData.list ds).depth ≤ 64)) = true
  rw [Bool.and_eq_true, decide_eq_true_eq]
  refine ⟨a, ?_⟩
  show PyData.depthAll ds + 1 ≤ 64
  omega
theorem eqvNilL (ds : List PyData) : PyData.eqv (.list ds) (.list []) = decide (ds = []) := by
  cases ds with
  | nil => rfl
  | cons d ds => exact (decide_eq_false (by simp)).symm
section
variable {P : Program} {w : World} {K : PySem.W.Frag} {mg : Str → Option Value} {base : Heap} {f : Addr} {fd : FuncData}
abbrev nNear : List Str := ["_law_feed", "_law_place", "_law_call", "_law_arguments", "_law_rows", "_law_count", "_law_row", "_law_part", "_law_found"]
theorem scNear : FnScope nNear ["_law_feed", "_law_place"] (defScope lNear) := ⟨rfl, rfl, rfl, by decide +kernel, rfl, by decide +kernel, by decide +kernel⟩
theorem okNear {k : Nat} (F : FnP K "_law_near" lNear f fd) (B : Bn mg) (D : Has P w K mg base (k + 1) "_law_draw" ["_law_feed", "_law_many"] spDraw) (Pk : Has P w K mg base (k + 2) "_law_pick" ["_law_feed", "_law_items"] (spPick K)) (T : Has P w K mg base (k + 3) "_law_some_text" ["_law_feed"] spText) (An : Has P w K mg base (k + 4) "_law_some_answer" ["_law_feed"] spAns) :
    FnOk P w K mg base CX0 (k + 5) f fd ["_law_feed", "_law_place"] (spNear K) := by
  obtain ⟨fD, fdD, gD, kD, bD, GD⟩ := D.ex
  obtain ⟨fP, fdP, gP, kP, bP, GP⟩ := Pk.ex
  obtain ⟨fT, fdT, gT, kT, bT, GT⟩ := T.ex
  obtain ⟨fA, fdA, gA, kA, bA, GA⟩ := An.ex
  refine F.ok scNear (fun vs H Q E h => ?_) (fun cdv A outer s H vs Q E hr h => ?_)
  · obtain ⟨a, v, M, rfl, _⟩ := h
    rfl
  · obtain ⟨a, v, M, rfl, hM, hF, ⟨p, hp, hpM, hd⟩, q⟩ := h
    have hr1 : Room (k + 1) _ := hr.mono (by omega)
    have hr2 : Room (k + 2) _ := hr.mono (by omega)
    have hr3 : Room (k + 3) _ := hr.mono (by omega)
    obtain ⟨ap, va, vr, rfl, hs, ha, hv⟩ := pcAt hd
    refine ⟨_, PSs.nox (pss_cons (ps_asg (pv 1) (pg_tup rfl (pgs_cons (pg_name (i := 2) scNear.nd rfl (.inl rfl)) (pgs_cons (pg_name (i := 3) scNear.nd rfl (.inl rfl)) (pgs_cons (pg_name (i := 4) scNear.nd rfl (.inl rfl)) (pgs_cons (pg_name (i := 5) scNear.nd rfl (.inl rfl)) pgs_nil)))))) (C8.pss_cut (ps_set (i := 6) scNear.nd rfl (.inl rfl) (pe_callTy (r := rTup K) (T := "tuple") call_tuple_of (by rfl) B.tuple (by decide +kernel) (pa_cons (pe_lc (own := [("_law_part", 7)]) (g := gName 7) rfl scNear.nd (pi_range1 (by rfl) B.range (pa_cons (pe_op op_add pe_int (pe_call GD hr1 (by rfl) gD kD bD .nil pass0 (pa_cons (pv 0) (pa_cons (pe_int) pa_nil)))) pa_nil)) (blkOk_by (N := nNear) (sc := defScope lNear) (by decide +kernel))
            (fun _ _ _ _ _ => pg_name (i := 7) scNear.nd rfl (.inl rfl) (hf := .inr rfl)) (fun _ _ _ _ _ => pts_nil) (fun _ _ _ _ _ => pe_call GA hr (by rfl) gA kA bA .nil pass0 (pa_cons (pv 0) pa_nil))) pa_nil))) (pss_cons (ps_set (i := 8) scNear.nd rfl (.inl rfl) (pe_lst (pa_cons (pe_tup (pa_cons (pv 2) (pa_cons (pv 3) (pa_cons (pv 4) (pa_cons (pe_op op_add (pv 5) pe_int) pa_nil))))) (pa_cons (pe_tup (pa_cons (pv 2) (pa_cons (pv 3) (pa_cons (pe_op op_catA (pv 4) (pe_tup (pa_cons (pv 6) pa_nil))) (pa_cons (pe_int) pa_nil))))) pa_nil)))) (C8.pss_cut (ps_expr (pe_bm PySem.F.plainAttrs_list PySem.F.slot_list_append PySem.F.type_list_append mt_append (pv 8) (pa_cons (pe_tup (pa_cons (pv 2) (pa_cons (pv 3) (pa_cons (pe_slice sl_tupA (pv 4) po_none (po_some (pe_un un_neg pe_int))) (pa_cons (pv 5) pa_nil))))) pa_nil))) (C8.pss_cut (ps_set (i := 8) scNear.nd rfl (.inl rfl) (pe_op op_cat (pv 8) (pe_lst (pa_cons (pe_tup (pa_cons (pv 2) (pa_cons (pv 3) (pa_cons (pe_op op_catA (pv 4) (pe_tup (pa_cons (pv 6) (pa_cons (pv 6) pa_nil)))) (pa_cons (pv 5) pa_nil))))) (pa_cons (pe_tup (pa_cons (pe_call GT hr3 (by rfl) gT kT bT .nil pass0 (pa_cons (pv 0) pa_nil)) (pa_cons (pv 3) (pa_cons (pv 4) (pa_cons (pv 5) pa_nil))))) pa_nil))))) (C8.pss_cut (ps_set (i := 8) scNear.nd rfl (.inl rfl) (pe_op op_cat (pv 8) (pe_lst (pa_cons (pe_tup (pa_cons (pv 2) (pa_cons (pe_op op_catA (pe_slice sl_tupA (pv 3) po_none (po_some pe_int)) (pe_tup (pa_cons (pe_str) pa_nil))) (pa_cons (pv 4) (pa_cons (pv 5) pa_nil))))) (pa_cons (pe_tup (pa_cons (pv 2) (pa_cons (pe_slice sl_tupA (pv 3) po_none (po_some (pe_un un_neg pe_int))) (pa_cons (pe_op op_catA (pv 4) (pe_tup (pa_cons (pv 6) pa_nil))) (pa_cons (pv 5) pa_nil))))) pa_nil))))) (pss_one (ps_ret (pe_call GP hr2 (by rfl) gP kP bP .nil pass0 (pa_cons (pv 0) (pa_cons (pe_op op_cat (pv 8) (pe_lst (pa_cons (pe_tup (pa_cons (pv 2) (pa_cons (pv 3) (pa_cons (pe_op op_catA (pe_slice sl_tupA (pv 4) po_none (po_some (pe_un un_neg pe_int))) (pe_tup (pa_cons (pv 6) pa_nil))) (pa_cons (pv 5) pa_nil))))) (pa_cons (pv 1) pa_nil)))) pa_nil))))))))))), ?_⟩
    refine ⟨.ref ap, rfl, ap, _, rfl, hs, rfl, _, _, rfl, _, _, rfl, _, _, rfl, _, _, rfl, rfl, ?_⟩
    refine ⟨fun σ' H' => ∃ U r, σ' = [some (.ref a), some (.ref ap), some (.str p.c), some va, some vr, some (.int p.n), some (.ref U), none, none] ∧ NI K a va vr (.ref U) (.ref ap) p r H' ∧ Kp a H H' ∧ (r.length ≤ 4 ∧ ∀ z, some z ∈ r → TOk z), ?_, ?_⟩
    · refine ⟨.ref a, rfl, a, 2, rfl, hF, by decide, by decide, fun x1 H5 a0 a1 k5 F5 => ⟨1, x1, rfl, rfl, 1 + x1, rfl, by omega, by omega, ?_⟩⟩
      obtain ⟨m1, em1⟩ : ∃ m : Nat, 1 + x1 = (m : Int) := ⟨(1 + x1).toNat, by omega⟩
      rw [em1, Int.toNat_natCast]
      intro D hD
      refine lcFeedA (m := m1) (fun o => ∀ z, o = some z → TOk z) hD F5 (by omega) (fun v => rfl) (fun x H6 k6 F6 R' hR' => ?_) (fun H6 r e6 el hpr k6 F6 => ?_)
      · refine ⟨.ref a, rfl, a, rfl, F6, fun v H7 hv7 k7 F7 => ?_⟩
        obtain ⟨o, rfl, ho⟩ := ansOk hv7
        exact hR' o H7 ho k7 F7
      refine ⟨D, r.map vA, rfl, .inl ⟨.inl (.inl e6), fun U hU => ?_⟩⟩
      have s7 := sameUpd (o := .tup (r.map vA)) hU
      have F7 := F6.same s7
      have d7 : Dp K (upd H6 U (.tup (r.map vA))) (.ref U) (rowD r) := rowDp (.inl (.inl upd_same))
      have k7 : Kp a H (upd H6 U (.tup (r.map vA))) := (k5.trans k6).trans (Kp.same s7)
      have t7 := TS.kp hF k7
      exact ⟨U, r, rfl, ⟨F7, dpTS t7 (plArgs _) _ ha, dpTS t7 (plRows _) _ hv, d7, dpTS t7 (plPc _) _ hd⟩, k7, by omega, fun z hz => hpr _ hz z rfl⟩
    rintro _ H7 ⟨U, r, rfl, I7, k7, rok⟩
    have F7 := I7.f
    have S := @NI.stb K a va vr (.ref U) (.ref ap) p r
    have a3 : ∀ {H : Hp}, NI K a va vr (.ref U) (.ref ap) p r H → A3 K M vr H := fun h => ⟨p.rs, hp.rs, hpM, h.dr⟩
    have a2 : ∀ {H : Hp}, NI K a va vr (.ref U) (.ref ap) p r H → A2 K 4 va H := fun h => ⟨p.as, hp.as, hp.al, h.da⟩
    refine asgLst ?_
    refine lst2F (M := M + 2) S I7 (evPlace S (M2 := M + 2) (N := 4) (M := M) (by omega) (by omega) (by omega) (evVar (v := .str p.c) rfl fun _ _ => ⟨_, rfl, hp.c⟩) (evVar rfl fun _ h => a2 h) (evVar rfl fun _ h => a3 h) (evAdd1 rfl))
      (evPlace S (M2 := M + 2) (N := 4) (M := M + 1) (by omega) (by omega) (by omega) (evVar (v := .str p.c) rfl fun _ _ => ⟨_, rfl, hp.c⟩) (evVar rfl fun _ h => a2 h) (evCat3 S (by omega) (evVar rfl fun _ h => a3 h) (evRow1 S rfl rok fun _ h => h.dw)) evInt) fun L xs0 HA hL0' eL al kL IL => ?_
    have hL0 : H L = none := kpNone F7 k7 hL0'
    have nL : L ≠ a := hF.ne hL0
    have kA : Kp a H HA := k7.trans kL
    refine ⟨fun σ' H' => ∃ v, σ' = [some (.ref a), some (.ref ap), some (.str p.c), some va, some vr, some (.int p.n), some (.ref U), none, some v] ∧ NI K a va vr (.ref U) (.ref ap) p r H' ∧ AL K a 3 (M + 2) v H' ∧ Kp a H H', ?_, ?_⟩
    · refine ⟨.ref L, rfl, .inl ⟨rfl, _, .inl (.inl eL)⟩, ?_⟩
      refine useArg (I := fun H => NI K a va vr (.ref U) (.ref ap) p r H ∧ AL K a 2 (M + 2) (.ref L) H) ⟨IL, al⟩ (evPlace S.al (M2 := M + 2) (N := 4) (M := M) (by omega) (by omega) (by omega) (evVar (v := .str p.c) rfl fun _ _ => ⟨_, rfl, hp.c⟩) (evVar rfl fun _ h => a2 h.1) (evCut3 (hi := some (-1)) S.al (fun _ _ h => ⟨1, rfl, -1, rfl, h⟩) (evVar rfl fun _ h => a3 h.1))
        (evVar (v := .int p.n) rfl fun _ _ => ⟨_, rfl⟩)) fun u3 HB b3 kB IB => ?_
      obtain ⟨IB, L', ys, eL', eB, _, lB, wB⟩ := IB
      obtain rfl : L = L' := V.ref.inj eL'
      refine ⟨L, ys, u3, rfl, rfl, eB, by rw [sizeLine_eq]; omega, ?_⟩
      have tB := TS.lst (o := .lst (ys ++ [u3])) eB
      have alC : AL K a 3 (M + 2) (.ref L) (upd HB L (.lst (ys ++ [u3]))) := ⟨L, _, rfl, upd_same, nL, by rw [List.length_append, lB]; rfl, fun u hu => by
        rcases List.mem_append.mp hu with z | z
        · exact (wB u z).ts tB
        · rw [List.mem_singleton.mp z]
          exact b3.ts tB⟩
      have IC := IB.ts tB ((S.f IB).other nL)
      have kC : Kp a H (upd HB L (.lst (ys ++ [u3]))) := fun b o nb hb => by
        rw [upd_ne (ne_of_none hb hL0)]
        exact (kA.trans kB) _ _ nb hb
      generalize upd HB L (.lst (ys ++ [u3])) = HC at *
      exact ⟨_, rfl, IC, alC, kC⟩
    rintro _ HC ⟨v3, rfl, IC, alC, kC⟩
    refine ⟨fun σ' H' => ∃ v, σ' = [some (.ref a), some (.ref ap), some (.str p.c), some va, some vr, some (.int p.n), some (.ref U), none, some v] ∧ NI K a va vr (.ref U) (.ref ap) p r H' ∧ AL K a 5 (M + 2) v H' ∧ Kp a H H', ?_, ?_⟩
    · refine asgOp ?_
      refine useOp (I := fun H => NI K a va vr (.ref U) (.ref ap) p r H ∧ AL K a 3 (M + 2) v3 H) ⟨IC, alC⟩ (evCatL (M := M + 2) S.al (c := 3) (d := 2) (by omega) (evVar rfl fun _ h => h.2) (evLst2 S.al
      (evPlace S.al (N := 4) (M := M + 2) (by omega) (by omega) (by omega) (evVar (v := .str p.c) rfl fun _ _ => ⟨_, rfl, hp.c⟩) (evVar rfl fun _ h => a2 h.1) (evCat3 S.al (by omega) (evVar rfl fun _ h => a3 h.1) (evRow2 S.al rfl rok fun _ h => h.1.dw)) (evVar (v := .int p.n) rfl fun _ _ => ⟨_, rfl⟩))
      (evPlace S.al (N := 4) (M := M) (by omega) (by omega) (by omega) (fun H hI Q q => ⟨.ref a, rfl, a, rfl, S.f hI.1, fun z H' hz k f' => q _ H' ⟨z, rfl, hz⟩ k (S.al.kp hI k f')⟩) (evVar rfl fun _ h => a2 h.1) (evVar rfl fun _ h => a3 h.1) (evVar (v := .int p.n) rfl fun _ _ => ⟨_, rfl⟩)))) fun v5 HD al5 kD5 I5 => ⟨_, rfl, I5.1, al5, kC.trans kD5⟩
    rintro _ HD ⟨v5, rfl, I5, al5, kD5⟩
    refine ⟨fun σ' H' => ∃ v, σ' = [some (.ref a), some (.ref ap), some (.str p.c), some va, some vr, some (.int p.n), some (.ref U), none, some v] ∧ NI K a va vr (.ref U) (.ref ap) p r H' ∧ AL K a 7 (M + 2) v H' ∧ Kp a H H', ?_, ?_⟩
    · refine asgOp ?_
      refine useOp (I := fun H => NI K a va vr (.ref U) (.ref ap) p r H ∧ AL K a 5 (M + 2) (v5) H) ⟨I5, al5⟩ (evCatL (M := M + 2) S.al (c := 5) (d := 2) (by omega) (evVar rfl fun _ h => h.2) (evLst2 S.al
      (evPlace S.al (N := 4) (M := M) (by omega) (by omega) (by omega) (evVar (v := .str p.c) rfl fun _ _ => ⟨_, rfl, hp.c⟩) (evCat2 (M := 3) (N := 1) S.al (by omega) (evCut2 (hi := some (3 : Nat)) S.al (fun _ _ h => ⟨3, rfl, h⟩) (evVar rfl fun _ h => a2 h.1) 3 fun j xs _ _ => by rw [cutTake, List.length_take]; omega) (evArg1 S.al (by decide +kernel))) (evVar rfl fun _ h => a3 h.1) (evVar (v := .int p.n) rfl fun _ _ => ⟨_, rfl⟩))
      (evPlace S.al (N := 4) (M := M + 1) (by omega) (by omega) (by omega) (evVar (v := .str p.c) rfl fun _ _ => ⟨_, rfl, hp.c⟩) (evCut2 (hi := some (-1)) S.al (fun _ _ h => ⟨1, rfl, -1, rfl, h⟩) (evVar rfl fun _ h => a2 h.1) 4 fun j xs e hx => by rw [e, List.length_take]; omega) (evCat3 S.al (by omega) (evVar rfl fun _ h => a3 h.1) (evRow1 S.al rfl rok fun _ h => h.1.dw)) (evVar (v := .int p.n) rfl fun _ _ => ⟨_, rfl⟩)))) fun v7 HE al7 kE I7' => ⟨_, rfl, I7'.1, al7, kD5.trans kE⟩
    rintro _ HE ⟨v7, rfl, I7', al7, kE⟩
    refine ⟨.ref a, rfl, ?_⟩
    refine useArg (I := fun H => NI K a va vr (.ref U) (.ref ap) p r H ∧ AL K a 7 (M + 2) (v7) H) ⟨I7', al7⟩ (evCatL (M := M + 2) S.al (c := 7) (d := 2) (by omega) (evVar rfl fun _ h => h.2) (evLst2 S.al
      (evPlace S.al (N := 4) (M := M + 1) (by omega) (by omega) (by omega) (evVar (v := .str p.c) rfl fun _ _ => ⟨_, rfl, hp.c⟩) (evVar rfl fun _ h => a2 h.1) (evCat3 S.al (by omega) (evCut3 (hi := some (-1)) S.al (fun _ _ h => ⟨1, rfl, -1, rfl, h⟩) (evVar rfl fun _ h => a3 h.1)) (evRow1 S.al rfl rok fun _ h => h.1.dw)) (evVar (v := .int p.n) rfl fun _ _ => ⟨_, rfl⟩))
      (evVar rfl fun _ h => ⟨p, hp, by omega, h.1.dp⟩))) fun v9 HF al9 kF I9' => ?_
    obtain ⟨L9, zs, rfl, e9, n9, l9, w9⟩ := al9
    have kZ := kE.trans kF
    refine ⟨a, L9, zs, rfl, S.f I9'.1, .inl (.inl e9), n9, by omega, by omega, fun i u HG hu kG FG => ?_⟩
    exact q u HG ((w9 u (List.mem_of_getElem? hu)).ts (TS.kp (S.f I9'.1) kG)) (kZ.trans kG) FG
theorem scMixed : FnScope ["_law_feed", "_law_items", "_law_left", "_law_found"] ["_law_feed", "_law_items"] (defScope lMixed) := ⟨rfl, rfl, rfl, by decide +kernel, rfl, by decide +kernel, by decide +kernel⟩
theorem okMixed {k mx : Nat} (F : FnP K "_law_mixed" lMixed f fd) (B : Bn mg) (D : Has P w K mg base (k + 1) "_law_draw" ["_law_feed", "_law_many"] spDraw) : FnOk P w K mg base CX0 (k + 2) f fd ["_law_feed", "_law_items"] (spMixed K mx) := by
  obtain ⟨fD, fdD, gD, kD, bD, GD⟩ := D.ex
  refine F.ok scMixed (fun vs H Q E h => ?_) (fun cdv A outer s H vs Q E hr h => ?_)
  · obtain ⟨a, l, xs, rfl, _⟩ := h
    rfl
  · obtain ⟨a, l, xs, rfl, hF, hL, hlen, hv, q⟩ := h
    refine ⟨_, PSs.nox (pss_cons (ps_par (i := 2) (j := 3) (by rfl) scMixed.nd rfl rfl (by decide) rfl rfl (pa_cons (pe_callTy call_list_of (by rfl) B.list (by decide +kernel) (pa_cons (pv 1) pa_nil)) (pa_cons (pe_lst pa_nil) pa_nil)) (by rfl)) (pss_cons (ps_while PassesOwn.never (pt_cmpR (r := rNeD K) (op_neD hr.units) (pv 2) (pe_lst pa_nil) (nomark _))
        (pss_one (ps_expr (pe_bm PySem.F.plainAttrs_list PySem.F.slot_list_append PySem.F.type_list_append mt_append (pv 3) (pa_cons (pe_bm PySem.F.plainAttrs_list PySem.F.slot_list_pop PySem.F.type_list_pop mt_popAt (pv 2) (pa_cons (pe_call GD hr (by rfl) gD kD bD .nil pass0 (pa_cons (pv 0) (pa_cons (pe_callB call_len_seq (by rfl) B.len PySem.boot_len (pa_cons (pv 2) pa_nil)) pa_nil))) pa_nil)) pa_nil))))) (pss_one (ps_ret (pv 3))))), ?_⟩
    refine ⟨.ref l, rfl, l, xs, rfl, .inl hL, fun L hLn => ⟨(by show 0 ≤ sizeLine; exact Nat.zero_le _), fun M hMn => ⟨_, _, rfl, ?_⟩⟩⟩
    have s1 := sameUpd (o := .lst xs) hLn
    have s2 := sameUpd (o := .lst []) hMn
    have neLM : L ≠ M := fun z => by rw [z] at hMn; rw [upd_same] at hMn; cases hMn
    have hMn0 : H M = none := by
      cases e : H M with
      | none => rfl
      | some o => rw [s1 _ _ e] at hMn; cases hMn
    have neLa := hF.ne hLn
    have neMa := hF.ne hMn0
    have eL : upd (upd H L (.lst xs)) M (.lst []) L = some (.lst xs) := s2 _ _ upd_same
    have eM : upd (upd H L (.lst xs)) M (.lst []) M = some (.lst []) := upd_same
    have F2 := (hF.same s1).same s2
    have k2 : Kp a H (upd (upd H L (.lst xs)) M (.lst [])) := Kp.same (s1.trans s2)
    generalize upd (upd H L (.lst xs)) M (.lst []) = H2 at *
    refine ⟨fun m σ' H' => ∃ zs ys, σ' = [some (.ref a), some (.ref l), some (.ref L), some (.ref M)] ∧ m = zs.length ∧ zs.length + ys.length = xs.length ∧ H' L = some (.lst zs) ∧ H' M = some (.lst ys) ∧ (∀ v ∈ zs, Pc1 K mx H' v) ∧ (∀ v ∈ ys, Pc1 K mx H' v) ∧ Kp a H H' ∧ Fd H' a,
      ⟨_, xs, [], rfl, rfl, by simp, eL, eM, fun v hv' => (hv v hv').ts (TS.kp hF k2), fun v hv' => absurd hv' (by simp), k2, F2⟩, fun m σ' H' hw => ?_⟩
    obtain ⟨zs, ys, rfl, rfl, hl, eL', eM', hz, hy, k', F'⟩ := hw
    refine ⟨.ref L, rfl, Nat.zero_le _, fun p hp => ?_⟩
    have sp := sameUpd (o := .lst []) hp
    obtain ⟨ps, hds, od, _⟩ := pcsAll hz
    obtain ⟨ds, eds⟩ : ∃ ds, ds = ps.map pcD := ⟨_, rfl⟩
    rw [← eds] at hds
    have oz : ∀ d ∈ ds, Od 3 d := fun d hd => by
      rw [eds] at hd
      obtain ⟨x, hx, rfl⟩ := List.mem_map.mp hd
      exact odPc (od x hx)
    refine ⟨.list ds, .list [], .lst (.inl (.inl (sp _ _ eL'))) (dpAllSame sp _ _ hds), .lst (.inl (.inl upd_same)) .nil, shapedList (n := 3) (by omega) oz, rfl, _, rfl, ?_⟩
    rw [eqvNilL]
    have el := dpLen hds
    have kp' : Kp a H (upd H' p (.lst [])) := k'.trans (Kp.same sp)
    have F3 := F'.same sp
    have eL3 := sp _ _ eL'
    have eM3 := sp _ _ eM'
    have hz3 : ∀ v ∈ zs, Pc1 K mx (upd H' p (.lst [])) v := fun v hv' => (hz v hv').ts (TS.same sp)
    have hy3 : ∀ v ∈ ys, Pc1 K mx (upd H' p (.lst [])) v := fun v hv' => (hy v hv').ts (TS.same sp)
    generalize upd H' p (.lst []) = H3 at *
    by_cases e0 : ds = []
    · rw [decide_eq_true e0]
      refine iteF ?_
      rw [e0] at el
      refine ⟨.ref M, rfl, q M ys H3 hMn0 kp' F3 eM3 (by simp at el; rw [el] at hl; simpa using hl) hy3⟩
    · rw [decide_eq_false e0]
      refine iteT ⟨fun σ2 H4 => ∃ m', m' < zs.length ∧ ∃ zs ys, σ2 = [some (.ref a), some (.ref l), some (.ref L), some (.ref M)] ∧ m' = zs.length ∧ zs.length + ys.length = xs.length ∧ H4 L = some (.lst zs) ∧ H4 M = some (.lst ys) ∧ (∀ v ∈ zs, Pc1 K mx H4 v) ∧ (∀ v ∈ ys, Pc1 K mx H4 v) ∧ Kp a H H4 ∧ Fd H4 a, fun _ _ z => z, ?_⟩
      have pos : 0 < zs.length := by
        rw [el]
        exact List.length_pos_iff.mpr e0
      refine ⟨.ref M, rfl, .inl ⟨rfl, _, .inl (.inl eM3)⟩, .ref L, rfl, .inl ⟨rfl, _, .inl (.inl eL3)⟩, .ref a, rfl, .ref L, rfl, L, zs, rfl, .inl (.inl (.inl eL3)), a, (zs.length : Int), rfl, F3, by omega, by omega, fun r H4 r0 r1 k4 F4 => ?_⟩
      obtain ⟨j, rfl⟩ : ∃ j : Nat, r = (j : Int) := ⟨r.toNat, by omega⟩
      have hj : j < zs.length := by omega
      have eL4 := k4 _ _ neLa eL3
      have eM4 := k4 _ _ neMa eM3
      have hsi : seqIndex? (j : Int) zs.length = some j := by
        unfold seqIndex?
        rw [if_neg (show ¬ ((j : Int) < 0) by omega)]
        show (if (decide ((0 : Int) ≤ (j : Int)) && decide ((j : Int) < (zs.length : Int))) = true then some ((j : Int).toNat) else none) = some j
        rw [if_pos (by rw [Bool.and_eq_true, decide_eq_true_eq, decide_eq_true_eq]; omega)]
        rfl
      refine ⟨L, zs, (j : Int), j, zs[j], rfl, rfl, eL4, by omega, by omega, hsi, List.getElem?_eq_getElem hj, ?_⟩
      have kt4 : TS H3 H4 := TS.kp F3 k4
      have kt5 : TS H4 (upd H4 L (.lst (zs.eraseIdx j))) := TS.lst eL4
      have eM5 : upd H4 L (.lst (zs.eraseIdx j)) M = some (.lst ys) := by rw [upd_ne (Ne.symm neLM)]; exact eM4
      refine ⟨M, ys, zs[j], rfl, rfl, eM5, by rw [sizeLine_eq]; omega, ?_⟩
      have kt6 := TS.lst (o := .lst (ys ++ [zs[j]])) eM5
      have ktA := (kt4.trans kt5).trans kt6
      refine ⟨(zs.eraseIdx j).length, by rw [List.length_eraseIdx_of_lt hj]; omega, zs.eraseIdx j, ys ++ [zs[j]], rfl, rfl, by rw [List.length_eraseIdx_of_lt hj, List.length_append]; show zs.length - 1 + (ys.length + 1) = _; omega, ?_, upd_same, fun v hv' => (hz3 v (List.mem_of_mem_eraseIdx hv')).ts ktA, fun v hv' => ?_, fun b o nb hb => ?_, (F4.other neLa).other neMa⟩
      · rw [upd_ne neLM]
        exact upd_same
      · rcases List.mem_append.mp hv' with z | z
        · exact (hy3 v z).ts ktA
        · rw [List.mem_singleton.mp z]
          exact (hz3 _ (List.getElem_mem hj)).ts ktA
      · rw [upd_ne (ne_of_none hb hMn0), upd_ne (ne_of_none hb hLn)]
        exact k4 _ _ nb (kp' _ _ nb hb)
end
end PLC

set_option Elab.async false
set_option linter.all false
set_option maxRecDepth 100000
set_option maxHeartbeats 8000000
namespace PLC
open PySem PySem.Spec PyProof.Rows L2 ND KS KS.La
abbrev lLaw : Stmt := top 21
def spLaw (K : PySem.W.Frag) : Sp := fun vs H Q _ => ∃ (a : Addr) (ns : List Int), vs = [.ref a] ∧ SqL K H a (ns.map V.int) ∧ ns.length ≤ 63 ∧ ∀ H', Q (.bl true) H'
def spOrdA (K : PySem.W.Frag) : Sp := fun vs H Q _ => ∃ l xs ds, vs = [.ref l] ∧ (SqT K H l xs ∨ SqL K H l xs) ∧ DpAll K H xs (ds.map pcD) ∧ (∀ p ∈ ds, Ok p) ∧ ds.length ≤ 1000 ∧ Ordered K H ds Q
theorem ddMem {ds : List Pc} : ∀ p ∈ dd ds, p ∈ ds := by
  have all : ∀ (l acc : List Pc) (p : Pc), p ∈ l.foldl ins acc → p ∈ acc ∨ p ∈ l := by
    intro l
    induction l with
    | nil => intro acc p h; exact .inl h
    | cons x l ih =>
      intro acc p h
      rcases ih _ p h with h | h
      · unfold ins at h
        split at h
        · exact .inl h
        · rcases List.mem_append.mp h with z | z
          · exact .inl z
          · rw [List.mem_singleton.mp z]; exact .inr List.mem_cons_self
      · exact .inr (List.mem_cons_of_mem _ h)
  intro p hp
  rcases all ds [] p hp with z | z
  · exact absurd z (by simp)
  · exact z
theorem srtMem {ds : List Pc} : ∀ p ∈ srt (dd ds), p ∈ ds := fun p hp => by
  unfold srt at hp
  exact ddMem p (List.mem_mergeSort.mp hp)
theorem srtLen (ds : List Pc) : (srt (dd ds)).length ≤ ds.length := by
  unfold srt
  rw [List.length_mergeSort]
  exact ddLen ds
theorem srtNil : srt (dd []) = [] := by
  unfold srt dd
  simp
theorem odAll {ds : List Pc} (h : ∀ p ∈ ds, Ok p) : ∀ d ∈ ds.map pcD, Od 3 d := fun d hd => by
  obtain ⟨p, hp, rfl⟩ := List.mem_map.mp hd
  exact odPc (h p hp)
theorem eqvL (ds : List Pc) : PyData.eqv (.list (ds.map pcD)) (.list (ds.map pcD)) = true := by
  have all : ∀ ds : List Pc, PyData.eqvAll (ds.map pcD) (ds.map pcD) = true := by
    intro ds
    induction ds with
    | nil => rfl
    | cons p ds ih =>
      rw [List.map_cons, PySem.W.eqv_all_cons, (eqPc p p).mpr rfl, ih]
      rfl
  rw [PyData.eqv]
  exact all ds
/-- lists of the same places are alike -/
theorem neSame {K : PySem.W.Frag} {H : Hp} {a b : Addr} {xs ys : List V} {ds : List Pc} {Q : VK} (ha : H a = some (.lst xs)) (hb : H b = some (.lst ys)) (hx : DpAll K H xs (ds.map pcD)) (hy : DpAll K H ys (ds.map pcD)) (ok : ∀ p ∈ ds, Ok p) (q : Q (.bl false) H) : rNeD K (.ref a) (.ref b) H Q := by
  refine ⟨.list (ds.map pcD), .list (ds.map pcD), .lst (.inl (.inl ha)) hx, .lst (.inl (.inl hb)) hy, shapedList (n := 3) (by omega) (odAll ok), shapedList (n := 3) (by omega) (odAll ok), ?_⟩
  rw [eqvL]
  exact q
theorem eqSame {K : PySem.W.Frag} {H : Hp} {a b : Addr} {xs ys : List V} {ds : List Pc} {Q : VK} (ha : H a = some (.lst xs)) (hb : H b = some (.lst ys)) (hx : DpAll K H xs (ds.map pcD)) (hy : DpAll K H ys (ds.map pcD)) (ok : ∀ p ∈ ds, Ok p) (q : Q (.bl true) H) : rEqD K (.ref a) (.ref b) H Q := by
  refine ⟨.list (ds.map pcD), .list (ds.map pcD), .lst (.inl (.inl ha)) hx, .lst (.inl (.inl hb)) hy, shapedList (n := 3) (by omega) (odAll ok), shapedList (n := 3) (by omega) (odAll ok), ?_⟩
  rw [eqvL]
  exact q
theorem dpAtV {K : PySem.W.Frag} {H : Hp} : ∀ {vs : List V} {ds : List PyData}, DpAll K H vs ds → ∀ {i : Nat} {v : V}, vs[i]? = some v → ∃ d, ds[i]? = some d ∧ Dp K H v d
  | _, _, .nil, i, v, e => by simp at e
  | _, _, .cons h r, 0, v, e => ⟨_, rfl, by obtain rfl := Option.some.inj e; exact h⟩
  | _, _, .cons h r, i + 1, v, e => dpAtV r e
theorem svDp {K : PySem.W.Frag} {H : Hp} {n : Nat} {d : PyData} (o : Od n d) : ∀ {v w : V}, Dp K H v d → Dp K H w d → Sv K H n v w := by
  induction o with
  | non n => intro v w a b; cases a; cases b; exact .flat .non
  | bl n b => intro v w a b; cases a; cases b; exact .flat (.bl _)
  | int n i => intro v w a b; cases a; cases b; exact .flat (.int _)
  | str n h h2 => intro v w a b; cases a; cases b; exact .flat (.str _)
  | @tup n ds h h2 ih =>
    intro v w a b
    cases a with
    | @tup a1 xs _ ha hx =>
      cases b with
      | @tup b1 ys _ hb hy =>
        have l1 := dpLen hx
        have l2 := dpLen hy
        refine .tup ha hb (by omega) (by omega) fun i v w e1 e2 => ?_
        obtain ⟨d, hd, h3⟩ := dpAtV hx e1
        obtain ⟨d', hd', h4⟩ := dpAtV hy e2
        obtain rfl := Option.some.inj (hd.symm.trans hd')
        exact ih d (List.mem_of_getElem? hd) h3 h4
theorem svLst {K : PySem.W.Frag} {H : Hp} {n : Nat} {ds : List PyData} {a b : Addr} {xs ys : List V} (o : ∀ d ∈ ds, Od n d) (hl : ds.length ≤ 1000) (ha : H a = some (.lst xs)) (hb : H b = some (.lst ys)) (hx : DpAll K H xs ds) (hy : DpAll K H ys ds) : Sv K H (n + 1) (.ref a) (.ref b) := by
  have l1 := dpLen hx
  have l2 := dpLen hy
  refine .lst (.inl (.inl ha)) (.inl (.inl hb)) (by omega) (by omega) fun i v w e1 e2 => ?_
  obtain ⟨d, hd, h3⟩ := dpAtV hx e1
  obtain ⟨d', hd', h4⟩ := dpAtV hy e2
  obtain rfl := Option.some.inj (hd.symm.trans hd')
  exact svDp (o d (List.mem_of_getElem? hd)) h3 h4
theorem okOrd {P : Program} {w : World} {K : PySem.W.Frag} {mg : Str → Option Value} {base : Heap} {k : Nat} {f : Addr} {fd : FuncData} {ps : List Str} (a : FnOk P w K mg base CX0 k f fd ps (spOrd K false)) (b : FnOk P w K mg base CX0 k f fd ps (spOrd K true)) : FnOk P w K mg base CX0 k f fd ps (spOrdA K) := by
  have two : ∀ vs H Q E, spOrdA K vs H Q E → spOrd K false vs H Q E ∨ spOrd K true vs H Q E := fun vs H Q E ⟨l, xs, ds, e, h, r⟩ => by
    rcases h with h | h
    · exact .inr ⟨l, xs, ds, e, h, r⟩
    · exact .inl ⟨l, xs, ds, e, h, r⟩
  refine ⟨fun vs H Q E h => ?_, fun A outer s H args us vs Q E hr he hb hv hs => ?_⟩
  · rcases two _ _ _ _ h with h | h
    · exact a.len _ _ _ _ h
    · exact b.len _ _ _ _ h
  · rcases two _ _ _ _ hs with h | h
    · exact a.run A outer s H args us vs Q E hr he hb hv h
    · exact b.run A outer s H args us vs Q E hr he hb hv h
abbrev stt (s : Addr) (x1 x2 x3 x4 x5 x6 x7 x8 x9 x10 x11 x12 x13 x14 x15 x16 x17 x18 : Option V) : L2.St := [some (.ref s), x1, x2, x3, x4, x5, x6, x7, x8, x9, x10, x11, x12, x13, x14, x15, x16, x17, x18]
abbrev nLaw : List Str := ["_law_script", "_law_k", "_law_feed", "_law_places", "_law_turn", "_law_place", "_law_call", "_law_arguments", "_law_rows", "_law_count", "_law_row", "_law_part", "_law_other", "_law_told", "_law_kept", "_law_items", "_law_few", "_law_same_here", "_law_found"]
theorem scLaw : FnScope nLaw ["_law_script"] (defScope lLaw) := ⟨rfl, rfl, rfl, by decide +kernel, rfl, by decide +kernel, by decide +kernel⟩
end PLC

set_option Elab.async false
set_option linter.all false
set_option maxRecDepth 100000
set_option maxHeartbeats 8000000
namespace PLC
open PySem PySem.Spec PyProof.Rows L2 ND KS KS.La
section
variable {P : Program} {w : World} {K : PySem.W.Frag} {mg : Str → Option Value} {base : Heap} {f : Addr} {fd : FuncData}
theorem okLaw {n : Nat} (F : FnP K "law" lLaw f fd) (B : Bn mg) (Fe : Has P w K mg base n "_law_feed_of" ["_law_script", "_law_k"] (spFeed K)) (Dr : Has P w K mg base n "_law_draw" ["_law_feed", "_law_many"] spDraw) (Pk : Has P w K mg base n "_law_pick" ["_law_feed", "_law_items"] (spPick K))
    (Plc : Has P w K mg base n "_law_some_place" ["_law_feed"] (spPlace K)) (Nr : Has P w K mg base n "_law_near" ["_law_feed", "_law_place"] (spNear K)) (An : Has P w K mg base n "_law_some_answer" ["_law_feed"] spAns)
    (AW : Has P w K mg base n "after_write" ["place"] (spAW K)) (AR : Has P w K mg base n "after_read" ["place", "answers"] (spAR K)) (Be : Has P w K mg base n "is_behind" ["place", "other"] (spBeh K)) (LB : Has P w K mg base n "_law_behind" ["_law_place", "_law_other"] (spBeh K))
    (Mx : Has P w K mg base n "_law_mixed" ["_law_feed", "_law_items"] (spMixed K 20)) (Sm : Has P w K mg base n "_law_same" ["_law_found", "_law_due"] (spSame K 4)) (Io : Has P w K mg base n "in_order" ["places"] (spOrdA K)) (LO : Has P w K mg base n "_law_ordered" ["_law_places"] (spOrd K false)) :
    FnOk P w K mg base CX0 (n + 1) f fd ["_law_script"] (spLaw K) := by
  obtain ⟨f1, d1, g1, k1, b1, G1⟩ := Fe.ex
  obtain ⟨f2, d2, g2, k2, b2, G2⟩ := Dr.ex
  obtain ⟨f3, d3, g3, k3, b3, G3⟩ := Pk.ex
  obtain ⟨f4, d4, g4, k4, b4, G4⟩ := Plc.ex
  obtain ⟨f5, d5, g5, k5, b5, G5⟩ := Nr.ex
  obtain ⟨f6, d6, g6, k6, b6, G6⟩ := An.ex
  obtain ⟨f7, d7, g7, k7, b7, G7⟩ := AW.ex
  obtain ⟨f8, d8, g8, k8, b8, G8⟩ := AR.ex
  obtain ⟨f9, d9, g9, k9, b9, G9⟩ := Be.ex
  obtain ⟨fA, dA, gA, kA, bA, GA⟩ := LB.ex
  obtain ⟨fB, dB, gB, kB, bB, GB⟩ := Mx.ex
  obtain ⟨fC, dC, gC, kC, bC, GC⟩ := Sm.ex
  obtain ⟨fD, dD, gD, kD, bD, GD⟩ := Io.ex
  obtain ⟨fE, dE, gE, kE, bE, GE⟩ := LO.ex
  refine F.ok scLaw (fun vs H Q E h => ?_) (fun cdv A outer s H vs Q E hr h => ?_)
  · obtain ⟨a, ns, rfl, _⟩ := h
    rfl
  · obtain ⟨sc, ns, rfl, hS, hlen, q⟩ := h
    refine ⟨_, PSs.nox (C8.pss_cut (ps_for PassesOwn.never rfl (pi_range1 (by rfl) B.range (pa_cons (pe_callB (call_max2 rfl) (by rfl) B.max (by decide +kernel) (pa_cons (pe_int) (pa_cons (pe_callB (call_min2 rfl) (by rfl) B.min (by decide +kernel) (pa_cons (pe_int) (pa_cons (pe_callB call_len_seq (by rfl) B.len PySem.boot_len (pa_cons (pv 0) pa_nil)) pa_nil))) pa_nil))) pa_nil)) (pg_name (i := 1) scLaw.nd rfl (.inl rfl))
      (C8.pss_cut (ps_set (i := 2) scLaw.nd rfl (.inr rfl) (pe_call G1 hr (by rfl) g1 k1 b1 .nil pass0 (pa_cons (pv 0) (pa_cons (pv 1) pa_nil)))) (C8.pss_cut (ps_set (i := 3) scLaw.nd rfl (.inl rfl) (pe_lst (pa_cons (pe_call G4 hr (by rfl) g4 k4 b4 .nil pass0 (pa_cons (pv 2) pa_nil)) pa_nil))) (C8.pss_cut (ps_for PassesOwn.never rfl (pi_range1 (by rfl) B.range (pa_cons (pe_int) pa_nil)) (pg_name (i := 4) scLaw.nd rfl (.inl rfl))
          (pss_one (ps_expr (pe_bm PySem.F.plainAttrs_list PySem.F.slot_list_append PySem.F.type_list_append mt_append (pv 3) (pa_cons (pe_call G5 hr (by rfl) g5 k5 b5 .nil pass0 (pa_cons (pv 2) (pa_cons (pe_call G3 hr (by rfl) g3 k3 b3 .nil pass0 (pa_cons (pv 2) (pa_cons (pv 3) pa_nil))) pa_nil))) pa_nil))))) (C8.pss_cut (ps_for PassesOwn.never rfl (pi_list (pv 3)) (pg_name (i := 5) scLaw.nd rfl (.inl rfl))
          (C8.pss_cut (ps_asg (pv 5) (pg_tup rfl (pgs_cons (pg_name (i := 6) scLaw.nd rfl (.inl rfl)) (pgs_cons (pg_name (i := 7) scLaw.nd rfl (.inl rfl)) (pgs_cons (pg_name (i := 8) scLaw.nd rfl (.inl rfl)) (pgs_cons (pg_name (i := 9) scLaw.nd rfl (.inl rfl)) pgs_nil)))))) (C8.pss_cut (ps_set (i := 10) scLaw.nd rfl (.inl rfl) (pe_callTy (r := rTup K) (T := "tuple") call_tuple_of (by rfl) B.tuple (by decide +kernel) (pa_cons (pe_lc (own := [("_law_part", 11)]) (g := gName 11) rfl scLaw.nd (pi_range1 (by rfl) B.range (pa_cons (pe_op op_add pe_int (pe_call G2 hr (by rfl) g2 k2 b2 .nil pass0 (pa_cons (pv 2) (pa_cons (pe_int) pa_nil)))) pa_nil)) (blkOk_by (N := nLaw) (sc := defScope lLaw) (by decide +kernel))
              (fun _ _ _ _ _ => pg_name (i := 11) scLaw.nd rfl (.inl rfl) (hf := .inr rfl)) (fun _ _ _ _ _ => pts_nil) (fun _ _ _ _ _ => pe_call G6 hr (by rfl) g6 k6 b6 .nil pass0 (pa_cons (pv 2) pa_nil))) pa_nil))) (C8.pss_cut (ps_if (pt_not (pt_val (pe_call GC hr (by rfl) gC kC bC .nil pass0 (pa_cons (pe_call G7 hr (by rfl) g7 k7 b7 .nil pass0 (pa_cons (pv 5) pa_nil)) (pa_cons (pe_tup (pa_cons (pv 6) (pa_cons (pv 7) (pa_cons (pv 8) (pa_cons (pe_op op_add (pv 9) pe_int) pa_nil))))) pa_nil))))) (pss_one (ps_ret pe_bl)) pss_nil) (C8.pss_cut (ps_if (pt_not (pt_val (pe_call GC hr (by rfl) gC kC bC .nil pass0 (pa_cons (pe_call G8 hr (by rfl) g8 k8 b8 .nil pass0 (pa_cons (pv 5) (pa_cons (pv 10) pa_nil))) (pa_cons (pe_tup (pa_cons (pv 6) (pa_cons (pv 7) (pa_cons (pe_op op_catA (pv 8) (pe_tup (pa_cons (pv 10) pa_nil))) (pa_cons (pe_int) pa_nil))))) pa_nil))))) (pss_one (ps_ret pe_bl)) pss_nil) (pss_one (ps_for PassesOwn.never rfl (pi_list (pv 3)) (pg_name (i := 12) scLaw.nd rfl (.inl rfl))
              (pss_one (ps_if (pt_not (pt_val (pe_call GC hr (by rfl) gC kC bC .nil pass0 (pa_cons (pe_call G9 hr (by rfl) g9 k9 b9 .nil pass0 (pa_cons (pv 5) (pa_cons (pv 12) pa_nil))) (pa_cons (pe_call GA hr (by rfl) gA kA bA .nil pass0 (pa_cons (pv 5) (pa_cons (pv 12) pa_nil))) pa_nil))))) (pss_one (ps_ret pe_bl)) pss_nil))))))))) (C8.pss_cut (ps_set (i := 13) scLaw.nd rfl (.inl rfl) (pe_op op_cat (pv 3) (pe_lst (pa_cons (pe_call G3 hr (by rfl) g3 k3 b3 .nil pass0 (pa_cons (pv 2) (pa_cons (pv 3) pa_nil))) (pa_cons (pe_call G3 hr (by rfl) g3 k3 b3 .nil pass0 (pa_cons (pv 2) (pa_cons (pv 3) pa_nil))) pa_nil))))) (C8.pss_cut (ps_set (i := 13) scLaw.nd rfl (.inl rfl) (pe_call GB hr (by rfl) gB kB bB .nil pass0 (pa_cons (pv 2) (pa_cons (pv 13) pa_nil)))) (C8.pss_cut (ps_set (i := 14) scLaw.nd rfl (.inl rfl) (pe_callTy call_list_of (by rfl) B.list (by decide +kernel) (pa_cons (pv 13) pa_nil))) (C8.pss_cut (ps_for PassesOwn.never rfl (pi_tup (pe_tup (pa_cons (pv 13) (pa_cons (pe_callTy call_tuple_of (by rfl) B.tuple (by decide +kernel) (pa_cons (pv 13) pa_nil)) pa_nil)))) (pg_name (i := 15) scLaw.nd rfl (.inl rfl))
          (pss_one (ps_if (PW.pt (pw_or (pt_not (pt_val (pe_call GC hr (by rfl) gC kC bC .nil pass0 (pa_cons (pe_call GD hr (by rfl) gD kD bD .nil pass0 (pa_cons (pv 15) pa_nil)) (pa_cons (pe_call GE hr (by rfl) gE kE bE .nil pass0 (pa_cons (pv 14) pa_nil)) pa_nil))))) (pw_or1 (pt_cmpR (r := rNeD K) (op_neD hr.units) (pv 13) (pv 14) (nomark _))))) (pss_one (ps_ret pe_bl)) pss_nil))) (C8.pss_cut (ps_set (i := 16) scLaw.nd rfl (.inl rfl) (pe_slice sl_list (pv 14) po_none (po_some (pe_call G2 hr (by rfl) g2 k2 b2 .nil pass0 (pa_cons (pv 2) (pa_cons (pe_int) pa_nil)))))) (C8.pss_cut (ps_par (i := 17) (j := 18) (by rfl) scLaw.nd rfl rfl (by decide) rfl rfl (pa_cons (pe_callTy call_list_of (by rfl) B.list (by decide +kernel) (pa_cons (pv 16) pa_nil)) (pa_cons (pe_call GD hr (by rfl) gD kD bD .nil pass0 (pa_cons (pv 16) pa_nil)) pa_nil)) (by rfl)) (C8.pss_cut (ps_expr (pe_bm PySem.F.plainAttrs_list PySem.F.slot_list_append PySem.F.type_list_append mt_append (pv 18) (pa_cons (pe_str) pa_nil))) (pss_one (ps_if (PW.pt (pw_or (pt_cmpR (r := rNeD K) (op_neD hr.units) (pv 16) (pv 17) (nomark _)) (pw_or1 (pt_cmpR (r := rNeD K) (op_neD hr.units) (pe_call GD hr (by rfl) gD kD bD .nil pass0 (pa_cons (pv 16) pa_nil)) (pe_call GE hr (by rfl) gE kE bE .nil pass0 (pa_cons (pv 17) pa_nil)) (nomark _))))) (pss_one (ps_ret pe_bl)) pss_nil)))))))))))))) (pss_one (ps_ret (pe_and (pe_cmpR (r := rEqD K) (op_eqD hr.units) (pe_call GD hr (by rfl) gD kD bD .nil pass0 (pa_cons (pe_lst pa_nil) pa_nil)) (pe_lst pa_nil) (nomark _)) (pe_one (pe_cmpR (r := rEqD K) (op_eqD hr.units) (pe_call GD hr (by rfl) gD kD bD .nil pass0 (pa_cons (pe_tup pa_nil) pa_nil)) (pe_lst pa_nil) (nomark _))))))), ?_⟩
    refine ⟨fun σ' H' => True, ?_, ?_⟩
    · refine ⟨.ref sc, rfl, sc, _, rfl, .inl hS, 5, _, rfl, 2, _, rfl, _, rfl, ?b1, ?b2, ?main⟩
      case b1 => split <;> (try split) <;> omega
      case b2 => split <;> (try split) <;> omega
      case main =>
      have hN : ∀ L : Int, 0 ≤ L → (if (if L < 5 then L else 5) > 2 then (if L < 5 then L else 5) else 2).toNat ≤ 5 := fun L hL => by split <;> (try split) <;> omega
      refine forJ (n := _) (fun i σ' H' => (∃ x1 x2 x3 x4 x5 x6 x7 x8 x9 x10 x11 x12 x13 x14 x15 x16 x17 x18, σ' = stt sc x1 x2 x3 x4 x5 x6 x7 x8 x9 x10 x11 x12 x13 x14 x15 x16 x17 x18) ∧ SqL K H' sc (ns.map V.int)) ⟨⟨none, none, none, none, none, none, none, none, none, none, none, none, none, none, none, none, none, none, rfl⟩, hS⟩ (fun i σ' H' lt _ => lt) (fun σ' H' _ => Nat.le_refl _) (fun i σ' H0 x H1 lt h y => ?_) (fun σ' H' h => trivial)
      obtain ⟨rfl, rfl⟩ := y
      obtain ⟨⟨x1, x2, x3, x4, x5, x6, x7, x8, x9, x10, x11, x12, x13, x14, x15, x16, x17, x18, rfl⟩, hT⟩ := h
      have li : i < 5 := Nat.lt_of_lt_of_le lt (hN _ (Int.natCast_nonneg _))
      -- the feed
      refine ⟨fun σ' H2 => ∃ f, σ' = stt sc (some (.int (0 + i))) (some (.ref f)) x3 x4 x5 x6 x7 x8 x9 x10 x11 x12 x13 x14 x15 x16 x17 x18 ∧ Same H1 H2 ∧ Fd H2 f ∧ H1 f = none, ?_, ?_⟩
      · exact ⟨.ref sc, rfl, .int (0 + i), rfl, sc, ns, 0 + i, rfl, hT, hlen, by omega, by omega, fun p Hp sm np fd => ⟨p, rfl, sm, fd, np⟩⟩
      rintro _ H2 ⟨f, rfl, s2, F2, nf⟩
      have script : ∀ {H' : Hp}, Kp f H2 H' → SqL K H' sc (ns.map V.int) := fun k => Same.seq (fun b o hb => k b o (ne_of_none hb nf) (s2 b o hb)) hT
      -- the first place
      refine ⟨fun σ' H3 => ∃ R v, σ' = stt sc (some (.int (0 + i))) (some (.ref f)) (some (.ref R)) x4 x5 x6 x7 x8 x9 x10 x11 x12 x13 x14 x15 x16 x17 x18 ∧ H3 R = some (.lst [v]) ∧ H2 R = none ∧ Pc1 K 2 H3 v ∧ Kp f H2 H3 ∧ Fd H3 f, ?_, ?_⟩
      · refine ⟨.ref f, rfl, f, rfl, F2, fun v p Ha ok lp dp ka Fa => ⟨(by show 1 ≤ sizeLine; decide), fun R hR => ⟨R, v, rfl, upd_same, kpNone Fa ka hR, Pc1.ts (TS.kp Fa (Kp.new hR)) ⟨p, ok, lp, dp⟩, ka.trans (Kp.new hR), Fa.new hR⟩⟩⟩
      rintro _ H3 ⟨R, v0, rfl, eR3, nR2, hv0, k3', F3⟩
      have nR : R ≠ f := F2.ne nR2
      -- nine more
      refine ⟨fun σ' H4 => ∃ x4 xs, σ' = stt sc (some (.int (0 + i))) (some (.ref f)) (some (.ref R)) x4 x5 x6 x7 x8 x9 x10 x11 x12 x13 x14 x15 x16 x17 x18 ∧ H4 R = some (.lst xs) ∧ xs.length = 10 ∧ (∀ v ∈ xs, Pc1 K 20 H4 v) ∧ Kp f H2 H4 ∧ Fd H4 f, ?_, ?_⟩
      · refine ⟨9, rfl, by omega, by omega, ?_⟩
        refine forJ (n := 9) (fun j σ' H4 => ∃ x4 xs, σ' = stt sc (some (.int (0 + i))) (some (.ref f)) (some (.ref R)) x4 x5 x6 x7 x8 x9 x10 x11 x12 x13 x14 x15 x16 x17 x18 ∧ H4 R = some (.lst xs) ∧ xs.length = 1 + j ∧ (∀ v ∈ xs, Pc1 K (2 + 2 * j) H4 v) ∧ Kp f H2 H4 ∧ Fd H4 f) ⟨x4, [v0], rfl, eR3, rfl, fun v hv => by rw [List.mem_singleton.mp hv]; exact hv0, k3', F3⟩
          (fun i σ' H' lt _ => lt) (fun σ' H' _ => Nat.le_refl _) (fun j σ' H5 x H6 lt h y => ?_) (fun σ' H' h => ?_)
        · obtain ⟨rfl, rfl⟩ := y
          obtain ⟨x4, xs, rfl, eR, lx, hx, k4, F4⟩ := h
          refine ⟨.ref R, rfl, .inl ⟨rfl, _, .inl (.inl eR)⟩, .ref f, rfl, .ref f, rfl, .ref R, rfl, f, R, xs, rfl, F4, .inl (.inl eR), nR, by omega, by omega, fun m v H7 ev k7 F7 => ?_⟩
          refine ⟨f, v, 2 + 2 * j, rfl, by omega, F7, (hx v (List.mem_of_getElem? ev)).ts (TS.kp F4 k7), fun r H8 hr8 k8 F8 => ?_⟩
          have eR8 := k8 _ _ nR (k7 _ _ nR eR)
          have t9 := TS.lst (o := .lst (xs ++ [r])) eR8
          refine ⟨R, xs, r, rfl, rfl, eR8, by rw [sizeLine_eq]; omega, _, xs ++ [r], rfl, upd_same, by rw [List.length_append, lx]; show 1 + j + 1 = _; omega, fun u hu => ?_, fun b o nb hb => ?_, F8.other nR⟩
          · rcases List.mem_append.mp hu with z | z
            · exact ((hx u z).ts ((TS.kp F4 (k7.trans k8)).trans t9)).up (by omega)
            · rw [List.mem_singleton.mp z]
              exact (hr8.ts t9).up (by omega)
          · rw [upd_ne (ne_of_none hb nR2)]
            exact k8 _ _ nb (k7 _ _ nb (k4 _ _ nb hb))
        · obtain ⟨x4, xs, rfl, eR, lx, hx, k4, F4⟩ := h
          exact ⟨x4, xs, rfl, eR, by omega, fun v hv => (hx v hv).up (by omega), k4, F4⟩
      rintro _ H4 ⟨x4, xs, rfl, eR, lx, hx, k4', F4⟩
      -- each place
      refine ⟨fun σ' H5 => ∃ x5 x6 x7 x8 x9 x10 x11 x12, σ' = stt sc (some (.int (0 + i))) (some (.ref f)) (some (.ref R)) x4 x5 x6 x7 x8 x9 x10 x11 x12 x13 x14 x15 x16 x17 x18 ∧ Kp f H4 H5 ∧ Fd H5 f, ?_, ?_⟩
      · refine ⟨.ref R, rfl, R, rfl, ⟨_, .inl (.inl eR)⟩, ?_⟩
        refine forJ (n := 10) (fun j σ' H5 => ∃ x5 x6 x7 x8 x9 x10 x11 x12, σ' = stt sc (some (.int (0 + i))) (some (.ref f)) (some (.ref R)) x4 x5 x6 x7 x8 x9 x10 x11 x12 x13 x14 x15 x16 x17 x18 ∧ Kp f H4 H5 ∧ Fd H5 f) ⟨x5, x6, x7, x8, x9, x10, x11, x12, rfl, Kp.refl _ _, F4⟩
          (fun j σ' H5 lt h => by obtain ⟨_, _, _, _, _, _, _, _, _, k, _⟩ := h; exact ⟨xs, xs[j], .inl (.inl (k _ _ nR eR)), List.getElem?_eq_getElem (by omega)⟩) (fun σ' H5 h => by obtain ⟨_, _, _, _, _, _, _, _, _, k, _⟩ := h; exact ⟨xs, .inl (.inl (k _ _ nR eR)), by omega⟩) (fun j σ' H5 x H6 lt h y => ?_) (fun σ' H' h => h)
        obtain ⟨rfl, y⟩ := y
        obtain ⟨x5, x6, x7, x8, x9, x10, x11, x12, rfl, k5', F5⟩ := h
        have ex := y xs (.inl (.inl (k5' _ _ nR eR)))
        obtain ⟨p, okp, lp, dp⟩ := (hx x (List.mem_of_getElem? ex)).ts (TS.kp F4 k5')
        obtain ⟨a, va, vr, rfl, hs, ha, hv⟩ := pcAt dp
        refine ⟨fun σ' H' => σ' = stt sc (some (.int (0 + i))) (some (.ref f)) (some (.ref R)) x4 (some (.ref a)) (some (.str p.c)) (some va) (some vr) (some (.int p.n)) x10 x11 x12 x13 x14 x15 x16 x17 x18 ∧ H6 = H', ?_, ?_⟩
        · exact ⟨.ref a, rfl, a, _, rfl, hs, rfl, _, _, rfl, _, _, rfl, _, _, rfl, _, _, rfl, rfl, rfl, rfl⟩
        rintro _ _ ⟨rfl, rfl⟩
        refine ⟨fun σ' H' => ∃ U r, σ' = stt sc (some (.int (0 + i))) (some (.ref f)) (some (.ref R)) x4 (some (.ref a)) (some (.str p.c)) (some va) (some vr) (some (.int p.n)) (some (.ref U)) x11 x12 x13 x14 x15 x16 x17 x18 ∧ Dp K H' (.ref U) (rowD r) ∧ (r.length ≤ 4 ∧ ∀ z, some z ∈ r → TOk z) ∧ Kp f H6 H' ∧ Fd H' f, ?_, ?_⟩
        · refine ⟨.ref f, rfl, f, 4, rfl, F5, by decide, by decide, fun y1 H7 a0 a1 k7 F7 => ⟨1, y1, rfl, rfl, 1 + y1, rfl, by omega, by omega, ?_⟩⟩
          obtain ⟨m1, em1⟩ : ∃ m : Nat, 1 + y1 = (m : Int) := ⟨(1 + y1).toNat, by omega⟩
          rw [em1, Int.toNat_natCast]
          intro D hD
          refine lcFeedA (m := m1) (fun o => ∀ z, o = some z → TOk z) hD F7 (by omega) (fun v => rfl) (fun x H8 k8 F8 R' hR' => ?_) (fun H8 r e8 el hpr k8 F8 => ?_)
          · refine ⟨.ref f, rfl, f, rfl, F8, fun v H9 hv9 k9 F9 => ?_⟩
            obtain ⟨o, rfl, ho⟩ := ansOk hv9
            exact hR' o H9 ho k9 F9
          refine ⟨D, r.map vA, rfl, .inl ⟨.inl (.inl e8), fun U hU => ?_⟩⟩
          have s9 := sameUpd (o := .tup (r.map vA)) hU
          exact ⟨U, r, rfl, rowDp (.inl (.inl upd_same)), ⟨by omega, fun z hz => hpr _ hz z rfl⟩, (k7.trans k8).trans (Kp.same s9), F8.same s9⟩
        rintro _ H7 ⟨U, r, rfl, dU, rok, k7', F7⟩
        have t7 := TS.kp F5 k7'
        have dp7 := dpTS t7 (plPc p) _ dp
        have da7 := dpTS t7 (plArgs p.as) _ ha
        have dr7 := dpTS t7 (plRows p.rs) _ hv
        have okW : Ok { p with n := p.n + 1 } := ⟨okp.c, okp.as, okp.al, okp.rs, okp.rl⟩
        have okR : Ok { p with rs := p.rs ++ [r], n := 0 } := ⟨okp.c, okp.as, okp.al, fun r' hr' => by
          rcases List.mem_append.mp hr' with z | z
          · exact okp.rs r' z
          · rw [List.mem_singleton.mp z]; exact rok, by show (p.rs ++ [r]).length ≤ 100; rw [List.length_append]; show p.rs.length + 1 ≤ 100; omega⟩
        -- after_write
        refine ⟨fun σ' H' => σ' = stt sc (some (.int (0 + i))) (some (.ref f)) (some (.ref R)) x4 (some (.ref a)) (some (.str p.c)) (some va) (some vr) (some (.int p.n)) (some (.ref U)) x11 x12 x13 x14 x15 x16 x17 x18 ∧ Same H7 H', ?_, ?_⟩
        · refine ⟨.ref a, rfl, .ref a, p, rfl, dp7, fun y1 H8 s8 dy => ⟨.str p.c, rfl, va, rfl, vr, rfl, .int p.n, rfl, p.n, 1, rfl, rfl, (by show 4 ≤ sizeLine; decide), fun T hT => ?_⟩⟩
          have s9 := sameUpd (o := .tup [.str p.c, va, vr, .int (p.n + 1)]) hT
          have sA := s8.trans s9
          have dT : Dp K (upd H8 T (.tup [.str p.c, va, vr, .int (p.n + 1)])) (.ref T) (pcD { p with n := p.n + 1 }) := pcMk (p := { p with n := p.n + 1 }) (.inl (.inl upd_same)) (dpSame sA _ _ da7) (dpSame sA _ _ dr7)
          exact ⟨y1, .ref T, rfl, svDp ((odPc okW).up (by omega)) (dpSame s9 _ _ dy) dT, fun H9 sB => ⟨_, rfl, iteF ⟨rfl, sA.trans sB⟩⟩⟩
        rintro _ H8 ⟨rfl, s8⟩
        have dp8 := dpSame s8 _ _ dp7
        have da8 := dpSame s8 _ _ da7
        have dr8 := dpSame s8 _ _ dr7
        have dU8 := dpSame s8 _ _ dU
        -- after_read
        refine ⟨fun σ' H' => σ' = stt sc (some (.int (0 + i))) (some (.ref f)) (some (.ref R)) x4 (some (.ref a)) (some (.str p.c)) (some va) (some vr) (some (.int p.n)) (some (.ref U)) x11 x12 x13 x14 x15 x16 x17 x18 ∧ Same H8 H', ?_, ?_⟩
        · refine ⟨.ref a, rfl, .ref U, rfl, .ref a, .ref U, p, r, rfl, dp8, okp.rl, dU8, fun y1 H9 s9 dy => ⟨.str p.c, rfl, va, rfl, vr, rfl, .ref U, rfl, (by show 1 ≤ sizeLine; decide), fun T hT => ?_⟩⟩
          have sT := sameUpd (o := .tup [V.ref U]) hT
          have d1 : Dp K (upd H9 T (.tup [V.ref U])) (.ref T) (.tuple [rowD r]) := .tup (.inl (.inl upd_same)) (.cons (dpSame (s9.trans sT) _ _ dU8) .nil)
          refine catD (dpSame (s9.trans sT) _ _ dr8) d1 (by rw [List.length_map]; show p.rs.length + 1 ≤ 1000; omega) fun y2 H10 s10 dz => ⟨(by show 4 ≤ sizeLine; decide), fun T2 hT2 => ?_⟩
          have dz2 : Dp K H10 y2 (rowsD (p.rs ++ [r])) := by
            unfold rowsD
            rw [List.map_append]
            exact dz
          have s11 := sameUpd (o := .tup [.str p.c, va, y2, .int 0]) hT2
          have sA := ((s9.trans sT).trans s10).trans s11
          have dT : Dp K (upd H10 T2 (.tup [.str p.c, va, y2, .int 0])) (.ref T2) (pcD { p with rs := p.rs ++ [r], n := 0 }) := pcMk (p := { p with rs := p.rs ++ [r], n := 0 }) (.inl (.inl upd_same)) (dpSame sA _ _ da8) (dpSame s11 _ _ dz2)
          exact ⟨y1, .ref T2, rfl, svDp ((odPc okR).up (by omega)) (dpSame ((sT.trans s10).trans s11) _ _ dy) dT, fun H11 sB => ⟨_, rfl, iteF ⟨rfl, sA.trans sB⟩⟩⟩
        rintro _ H9 ⟨rfl, s9⟩
        have k9' : Kp f H4 H9 := (k5'.trans k7').trans (Kp.same (s8.trans s9))
        have F9 := F7.same (s8.trans s9)
        -- behind
        refine ⟨.ref R, rfl, R, rfl, ⟨_, .inl (.inl (k9' _ _ nR eR))⟩, ?_⟩
        refine forJ (n := 10) (fun m σ' H' => ∃ x12, σ' = stt sc (some (.int (0 + i))) (some (.ref f)) (some (.ref R)) x4 (some (.ref a)) (some (.str p.c)) (some va) (some vr) (some (.int p.n)) (some (.ref U)) x11 x12 x13 x14 x15 x16 x17 x18 ∧ Same H9 H') ⟨x12, rfl, Same.refl _⟩
          (fun m σ' H' lt h => ⟨xs, xs[m], .inl (.inl (h.choose_spec.2 _ _ (k9' _ _ nR eR))), List.getElem?_eq_getElem (by omega)⟩) (fun σ' H' h => ⟨xs, .inl (.inl (h.choose_spec.2 _ _ (k9' _ _ nR eR))), by omega⟩) (fun m σ' H10 x H11 lt h y => ?_) (fun σ' H10 h => ?_)
        · obtain ⟨rfl, y⟩ := y
          obtain ⟨x12, rfl, s10⟩ := h
          have ex2 := y xs (.inl (.inl (s10 _ _ (k9' _ _ nR eR))))
          obtain ⟨q2, okq, _, dq⟩ := (hx x (List.mem_of_getElem? ex2)).ts ((TS.kp F4 k9').trans (TS.same s10))
          have dp11 := dpSame ((s9.trans s10)) _ _ dp8
          refine ⟨.ref a, rfl, x, rfl, .ref a, x, p, q2, rfl, dp11, okp, dq, okq, fun H12 s12 => ⟨.ref a, rfl, x, rfl, .ref a, x, p, q2, rfl, dpSame s12 _ _ dp11, okp, dpSame s12 _ _ dq, okq, fun H13 s13 => ⟨.bl (beh p q2), .bl (beh p q2), rfl, .flat (.bl _), fun H14 s14 => ⟨_, rfl, iteF ⟨_, rfl, ((s10.trans s12).trans s13).trans s14⟩⟩⟩⟩⟩
        · obtain ⟨x12, rfl, s10⟩ := h
          exact ⟨_, _, _, _, _, _, _, _, rfl, k9'.trans (Kp.same s10), F9.same s10⟩
      rintro _ H5 ⟨x5, x6, x7, x8, x9, x10, x11, x12, rfl, k5', F5⟩
      have eR5 := k5' _ _ nR eR
      have hx5 : ∀ v ∈ xs, Pc1 K 20 H5 v := fun v hv => (hx v hv).ts (TS.kp F4 k5')
      -- told
      refine ⟨fun σ' H6 => ∃ T ys, σ' = stt sc (some (.int (0 + i))) (some (.ref f)) (some (.ref R)) x4 x5 x6 x7 x8 x9 x10 x11 x12 (some (.ref T)) x14 x15 x16 x17 x18 ∧ H6 T = some (.lst ys) ∧ T ≠ f ∧ ys.length = 12 ∧ (∀ v ∈ ys, Pc1 K 20 H6 v) ∧ Kp f H5 H6 ∧ Fd H6 f, ?_, ?_⟩
      · refine ⟨.ref R, rfl, .ref f, rfl, .ref R, rfl, f, R, xs, rfl, F5, .inl (.inl eR5), nR, by omega, by omega, fun m1 v1 H7 e1 k7 F7 => ⟨.ref f, rfl, .ref R, rfl, f, R, xs, rfl, F7, .inl (.inl (k7 _ _ nR eR5)), nR, by omega, by omega, fun m2 v2 H8 e2 k8 F8 => ⟨(by show 2 ≤ sizeLine; decide), fun p hp => ?_⟩⟩⟩
        have s9 := sameUpd (o := .lst [v1, v2]) hp
        have eR9 := s9 _ _ (k8 _ _ nR (k7 _ _ nR eR5))
        refine ⟨R, p, xs, [v1, v2], rfl, rfl, eR9, upd_same, by rw [sizeLine_eq, lx]; show 10 + 2 ≤ _; omega, fun T hT => ?_⟩
        have F9 := F8.same s9
        have kA' := ((k7.trans k8).trans (Kp.same s9)).trans (Kp.new (o := .lst (xs ++ [v1, v2])) hT)
        have tA := TS.kp F5 kA'
        refine ⟨T, _, rfl, upd_same, F9.ne hT, by rw [List.length_append, lx]; rfl, fun u hu => (hx5 u ?_).ts tA, kA', F9.new hT⟩
        rcases List.mem_append.mp hu with z | z
        · exact z
        · simp only [List.mem_cons, List.not_mem_nil, or_false] at z
          rcases z with rfl | rfl
          · exact List.mem_of_getElem? e1
          · exact List.mem_of_getElem? e2
      rintro _ H6 ⟨T0, ys0, rfl, eT0, nT0, ly0, hy0, k6', F6⟩
      -- mixed
      refine ⟨fun σ' H7 => ∃ T ys, σ' = stt sc (some (.int (0 + i))) (some (.ref f)) (some (.ref R)) x4 x5 x6 x7 x8 x9 x10 x11 x12 (some (.ref T)) x14 x15 x16 x17 x18 ∧ H7 T = some (.lst ys) ∧ T ≠ f ∧ ys.length = 12 ∧ (∀ v ∈ ys, Pc1 K 20 H7 v) ∧ Kp f H5 H7 ∧ Fd H7 f, ?_, ?_⟩
      · exact ⟨.ref f, rfl, .ref T0, rfl, f, T0, ys0, rfl, F6, .inl (.inl eT0), by omega, hy0, fun p ys H7 np k7 F7 e7 l7 h7 => ⟨p, ys, rfl, e7, F6.ne np, by omega, h7, k6'.trans k7, F7⟩⟩
      rintro _ H7 ⟨T, ys, rfl, eT, nT, ly, hy, k7', F7⟩
      obtain ⟨ds, hds, okd, _⟩ := pcsAll hy
      have lds := dpLen hds
      rw [List.length_map] at lds
      -- kept
      refine ⟨fun σ' H8 => ∃ N, σ' = stt sc (some (.int (0 + i))) (some (.ref f)) (some (.ref R)) x4 x5 x6 x7 x8 x9 x10 x11 x12 (some (.ref T)) (some (.ref N)) x15 x16 x17 x18 ∧ H8 N = some (.lst ys) ∧ N ≠ f ∧ Same H7 H8, ?_, ?_⟩
      · exact ⟨.ref T, rfl, T, ys, rfl, .inl (.inl (.inl eT)), fun N hN => ⟨N, rfl, upd_same, F7.ne hN, sameUpd hN⟩⟩
      rintro _ H8 ⟨N, rfl, eN, nN, s8⟩
      have eT8 := s8 _ _ eT
      have hds8 := dpAllSame s8 _ _ hds
      -- both
      refine ⟨fun σ' H9 => ∃ x15, σ' = stt sc (some (.int (0 + i))) (some (.ref f)) (some (.ref R)) x4 x5 x6 x7 x8 x9 x10 x11 x12 (some (.ref T)) (some (.ref N)) x15 x16 x17 x18 ∧ Same H8 H9, ?_, ?_⟩
      · refine ⟨.ref T, rfl, .ref T, rfl, T, ys, rfl, .inl ⟨.inl (.inl eT8), fun Y hY => ⟨(by show 2 ≤ sizeLine; decide), fun W hW => ?_⟩⟩⟩
        have s9 := sameUpd (o := .tup ys) hY
        have s10 := sameUpd (o := .tup [.ref T, .ref Y]) hW
        have eY : SqT K (upd (upd H8 Y (.tup ys)) W (.tup [.ref T, .ref Y])) Y ys := sameTup s10 (.inl (.inl upd_same))
        have eW : upd (upd H8 Y (.tup ys)) W (.tup [.ref T, .ref Y]) W = some (.tup [.ref T, .ref Y]) := upd_same
        have sA := s9.trans s10
        generalize upd (upd H8 Y (.tup ys)) W (.tup [.ref T, .ref Y]) = HA at *
        refine ⟨W, rfl, ⟨_, .inl (.inl eW)⟩, ?_⟩
        refine forJ (n := 2) (fun m σ' H' => ∃ x15, σ' = stt sc (some (.int (0 + i))) (some (.ref f)) (some (.ref R)) x4 x5 x6 x7 x8 x9 x10 x11 x12 (some (.ref T)) (some (.ref N)) x15 x16 x17 x18 ∧ Same HA H') ⟨x15, rfl, Same.refl _⟩
          (fun m σ' H' lt h => ⟨[.ref T, .ref Y], _, .inl (.inl (h.choose_spec.2 _ _ eW)), List.getElem?_eq_getElem lt⟩) (fun σ' H' h => ⟨[.ref T, .ref Y], .inl (.inl (h.choose_spec.2 _ _ eW)), Nat.le_refl _⟩) (fun m σ' H9 u H10 lt h y => ?_) (fun σ' H9 h => ?_)
        · obtain ⟨rfl, y⟩ := y
          obtain ⟨x15, rfl, sB⟩ := h
          have hmu := List.mem_of_getElem? (y _ (.inl (.inl (sB _ _ eW))))
          have sC := sA.trans sB
          obtain ⟨l, rfl, hl⟩ : ∃ l, u = .ref l ∧ (SqT K H10 l ys ∨ SqL K H10 l ys) := by
            simp only [List.mem_cons, List.not_mem_nil, or_false] at hmu
            rcases hmu with rfl | rfl
            · exact ⟨T, rfl, .inr (.inl (.inl (sC _ _ eT8)))⟩
            · exact ⟨Y, rfl, .inl (sameTup sB eY)⟩
          have dd10 := dpAllSame sC _ _ hds8
          refine ⟨.ref l, rfl, l, ys, ds, rfl, hl, dd10, okd, by omega, fun r1 zs1 H11 s11 _ e1 h1 => ?_⟩
          have sD := sC.trans s11
          refine ⟨.ref N, rfl, N, ys, ds, rfl, (show SqL K H11 N ys from .inl (.inl (sD _ _ eN))), dpAllSame s11 _ _ dd10, okd, by omega, fun r2 zs2 H12 s12 _ e2 h2 => ?_⟩
          refine ⟨.ref r1, .ref r2, rfl, svLst (n := 3) (odAll fun p hp => okd p (srtMem p hp)) (by rw [List.length_map]; have := srtLen ds; omega) (s12 _ _ e1) e2 (dpAllSame s12 _ _ h1) h2, fun H13 s13 => ⟨_, rfl, iteF ?_⟩⟩
          have sE := (s11.trans s12).trans s13
          have sF := sC.trans sE
          refine ⟨.ref T, rfl, .ref N, rfl, neSame (sF _ _ eT8) (sF _ _ eN) (dpAllSame sE _ _ dd10) (dpAllSame sE _ _ dd10) okd ⟨_, rfl, iteF ⟨_, rfl, sB.trans sE⟩⟩⟩
        · obtain ⟨x15, rfl, sB⟩ := h
          exact ⟨x15, rfl, sA.trans sB⟩
      rintro _ H9 ⟨x15, rfl, s9⟩
      have sN := s8.trans s9
      have F9 := F7.same sN
      have eN9 := s9 _ _ eN
      have hds9 := dpAllSame s9 _ _ hds8
      -- few
      refine ⟨fun σ' H10 => ∃ L fs es, σ' = stt sc (some (.int (0 + i))) (some (.ref f)) (some (.ref R)) x4 x5 x6 x7 x8 x9 x10 x11 x12 (some (.ref T)) (some (.ref N)) x15 (some (.ref L)) x17 x18 ∧ H10 L = some (.lst fs) ∧ DpAll K H10 fs (List.map pcD es) ∧ (∀ p ∈ es, Ok p) ∧ es.length ≤ 12 ∧ Kp f H9 H10 ∧ Fd H10 f, ?_, ?_⟩
      · refine ⟨.ref N, rfl, .ref f, rfl, f, 3, rfl, F9, by decide, by decide, fun r H10 r0 r1 k10 F10 => ?_⟩
        obtain ⟨m, rfl⟩ : ∃ m : Nat, r = (m : Int) := ⟨r.toNat, by omega⟩
        refine ⟨_, rfl, N, ys, rfl, .inl (.inl (k10 _ _ nN eN9)), fun p hp => ?_⟩
        rw [cutTake]
        have s11 := sameUpd (o := .lst (ys.take m)) hp
        have d10 : DpAll K H10 ys (ds.map pcD) := allPl (n := 4) (fun d hd => by
          obtain ⟨p', _, rfl⟩ := List.mem_map.mp hd
          exact plPc p') (TS.kp F9 k10) hds9
        have d11 := allTake m (dpAllSame s11 _ _ d10)
        rw [← List.map_take] at d11
        exact ⟨p, _, ds.take m, rfl, upd_same, d11, fun p' hp' => okd p' (List.mem_of_mem_take hp'), by rw [List.length_take]; omega, k10.trans (Kp.same s11), F10.same s11⟩
      rintro _ H10 ⟨L, fs, es, rfl, eL, hfs, oke, les, k10, F10⟩
      -- found
      refine ⟨fun σ' H11 => ∃ M r zs, σ' = stt sc (some (.int (0 + i))) (some (.ref f)) (some (.ref R)) x4 x5 x6 x7 x8 x9 x10 x11 x12 (some (.ref T)) (some (.ref N)) x15 (some (.ref L)) (some (.ref M)) (some (.ref r)) ∧ H11 M = some (.lst fs) ∧ H11 r = some (.lst zs) ∧ zs.length ≤ 12 ∧ r ≠ L ∧ r ≠ M ∧ H10 r = none ∧ Same H10 H11, ?_, ?_⟩
      · refine ⟨.ref L, rfl, L, fs, rfl, .inl (.inl (.inl eL)), fun M hM => ?_⟩
        have s11 := sameUpd (o := .lst fs) hM
        have eM : upd H10 M (.lst fs) M = some (.lst fs) := upd_same
        generalize upd H10 M (.lst fs) = H11 at *
        refine ⟨.ref L, rfl, L, fs, es, rfl, .inr (.inl (.inl (s11 _ _ eL))), dpAllSame s11 _ _ hfs, oke, by omega, fun r zs H12 s12 hr e12 h12 => ⟨_, _, rfl, M, r, zs, rfl, s12 _ _ eM, e12, ?_, fun z => ?_, fun z => ?_, ?_, s11.trans s12⟩⟩
        · have := dpLen h12
          rw [List.length_map] at this
          have := srtLen es
          omega
        · rw [z, s11 _ _ eL] at hr
          cases hr
        · rw [z, eM] at hr
          cases hr
        · cases e : H10 r with
          | none => rfl
          | some o => rw [s11 _ _ e] at hr; cases hr
      rintro _ H11 ⟨M, r, zs, rfl, eM, er, lzs, nrL, nrM, hr0, s11⟩
      -- spoilt
      refine ⟨fun σ' H12 => σ' = stt sc (some (.int (0 + i))) (some (.ref f)) (some (.ref R)) x4 x5 x6 x7 x8 x9 x10 x11 x12 (some (.ref T)) (some (.ref N)) x15 (some (.ref L)) (some (.ref M)) (some (.ref r)) ∧ H12 L = some (.lst fs) ∧ H12 M = some (.lst fs) ∧ DpAll K H12 fs (List.map pcD es) ∧ Kp f H9 H12, ?_, ?_⟩
      · refine ⟨.ref r, rfl, .inl ⟨rfl, _, .inl (.inl er)⟩, r, zs, _, rfl, rfl, er, by rw [sizeLine_eq]; omega, rfl, ?_, ?_, ?_, ?_⟩
        · rw [upd_ne (Ne.symm nrL)]
          exact s11 _ _ eL
        · rw [upd_ne (Ne.symm nrM)]
          exact eM
        · exact allPl (n := 4) (fun d hd => by
            obtain ⟨p', _, rfl⟩ := List.mem_map.mp hd
            exact plPc p') (TS.lst er) (dpAllSame s11 _ _ hfs)
        · intro b o nb hb
          have h1 := k10 b o nb hb
          rw [upd_ne (ne_of_none h1 hr0)]
          exact s11 _ _ h1
      rintro _ H12 ⟨rfl, eL2, eM2, hfs2, k12⟩
      refine ⟨.ref L, rfl, .ref M, rfl, neSame eL2 eM2 hfs2 hfs2 oke ⟨_, rfl, iteF ?_⟩⟩
      refine ⟨.ref L, rfl, L, fs, es, rfl, .inr (.inl (.inl eL2)), hfs2, oke, by omega, fun r1 z1 H13 s13 _ e1 h1 => ?_⟩
      refine ⟨.ref M, rfl, M, fs, es, rfl, (show SqL K H13 M fs from .inl (.inl (s13 _ _ eM2))), dpAllSame s13 _ _ hfs2, oke, by omega, fun r2 z2 H14 s14 _ e2 h2 => ?_⟩
      refine neSame (s14 _ _ e1) e2 (dpAllSame s14 _ _ h1) h2 (fun p hp => oke p (srtMem p hp)) ⟨_, rfl, iteF ?_⟩
      have kF := ((((k4'.trans k5').trans k7').trans (Kp.same sN)).trans k12).trans (Kp.same (s13.trans s14))
      exact ⟨⟨_, _, _, _, _, _, _, _, _, _, _, _, _, _, _, _, _, _, rfl⟩, script kF⟩
    rintro σ' H' _
    refine ⟨Nat.zero_le _, fun p hp => ⟨p, [], [], rfl, .inr (.inl (.inl upd_same)), .nil, fun p h => absurd h (by simp), Nat.zero_le _, fun r ys H1 s1 _ e1 h1 => ⟨Nat.zero_le _, fun p2 hp2 => ?_⟩⟩⟩
    rw [srtNil] at h1
    have sa := sameUpd (o := .lst []) hp2
    refine eqSame (ds := []) (sa _ _ e1) upd_same (dpAllSame sa _ _ h1) .nil (fun p h => absurd h (by simp)) ⟨_, rfl, iteT ?_⟩
    refine ⟨Nat.zero_le _, fun p hp => ⟨p, [], [], rfl, .inl (.inl (.inl upd_same)), .nil, fun p h => absurd h (by simp), Nat.zero_le _, fun r ys H1 s1 _ e1 h1 => ⟨Nat.zero_le _, fun p2 hp2 => ?_⟩⟩⟩
    rw [srtNil] at h1
    have sa := sameUpd (o := .lst []) hp2
    exact eqSame (ds := []) (sa _ _ e1) upd_same (dpAllSame sa _ _ h1) .nil (fun p h => absurd h (by simp)) (q _)
end
end PLC

set_option Elab.async false
set_option linter.all false
set_option maxRecDepth 100000
set_option maxHeartbeats 0
namespace PLC
open PySem PySem.Spec PyProof.Rows L2 ND KS KS.La
open He (ga ma)
abbrev R : PySem.W.OpenRow := PySem.W.OpenLaw.row PySem.Challenge.rw_farenough_k03_places_after_and_in_order
def dOf (x : Str) (i : Nat) : He.DefD := ⟨(x, none), x, x, defArgs (top i), defBody (top i), defScope (top i), [], []⟩
def fn : List He.DefD := [
  dOf "after_write" 1,
  dOf "after_read" 2,
  dOf "is_behind" 3,
  dOf "in_order" 4,
  dOf "ordered" 5,
  dOf "_rank" 6,
  dOf "_rank_of_answers" 7,
  dOf "_law_feed_of" 9,
  dOf "_law_draw" 10,
  dOf "_law_mixed" 11,
  dOf "_law_pick" 12,
  dOf "_law_calls" 13,
  dOf "_law_some_text" 14,
  dOf "_law_some_answer" 15,
  dOf "_law_ordered" 16,
  dOf "_law_same" 17,
  dOf "_law_some_place" 18,
  dOf "_law_near" 19,
  dOf "_law_behind" 20,
  dOf "law" 21]
def frees : List Str := ["isinstance", "len", "zip", "all", "list", "tuple", "bool", "int", "str", "range", "ord", "set", "max", "min", "sorted", "any"]
def loose : List Str := ["after_write", "after_read", "is_behind", "in_order", "ordered", "_rank", "_rank_of_answers", "_law_feed_of", "_law_draw", "_law_mixed", "_law_pick", "_law_calls", "_law_some_text", "_law_some_answer", "_law_ordered", "_law_same", "_law_some_place", "_law_near", "_law_behind"]
def glos : List Str := loose ++ (["law"] : List Str)
def fa : List He.Fa := glos.map He.Fa.glo ++ frees.map He.Fa.free
/-- the head's look: defs, names -/
def obsM (n : Nat) (g : Addr → Option Obj) : He.AlD := He.obsD fa fn (He.frG g (He.asD g n))
def hk : PySem.W.Hook where
  α := He.AlD
  obs := fun s => obsM 5 s.heap.get?
  val := fun _ => He.valD fn
  says := fun _ h => ∃ K : PySem.W.Frag, K.In h ∧ He.SaysD fa fn K
  of := fun _ _ e => ⟨_, He.frG_in, e⟩
  keeps := fun _ _ _ ⟨K, hK, c⟩ k => ⟨K, PySem.W.Frag.In.keeps hK k, c⟩
def ob (s : PySem.W.SharedT) : He.AlD := obsM 5 (HandSHeadRun.getT s)
theorem ob_eq (s : PySem.W.SharedT) : ob s = hk.obs s.abs := by
  have e : HandSHeadRun.getT s = s.abs.heap.get? := funext (HandSHeadRun.getT_eq s)
  unfold ob
  rw [e] <;> rfl
theorem run (w : World) : HandSHeadRun.RunEq R (PySem.W.view R.prog [21]) hk ob 20000 loose w := by
  intro os
  kernel_rfl
end PLC

set_option Elab.async false
set_option linter.all false
set_option maxRecDepth 100000
set_option maxHeartbeats 0
namespace PLC
open PySem PySem.Spec PyProof.Rows L2 ND KS KS.La
open He (ga ma)
section
variable {P : Program} {w : World} {K : PySem.W.Frag} {mg : Str → Option Value} {base h : Heap}
theorem hasMono {j k : Nat} {x : Str} {ps : List Str} {sp : Sp} (A : Has P w K mg base j x ps sp) (h : j ≤ k) : Has P w K mg base k x ps sp := by
  obtain ⟨f, fd, a, b, c, F⟩ := A.ex
  exact ⟨f, fd, a, b, c, F.mono h⟩
theorem factM (c : He.SaysD fa fn K) {f : He.Fa} (hm : f ∈ fa) : f.ok K = true := by
  obtain ⟨i, hi, e⟩ := List.mem_iff_getElem.mp hm
  exact c.fact i (f := f) (by rw [List.getElem?_eq_getElem hi, e])
theorem facts {f : Addr} (X : K.In h) (G : h.Ns mainGlobals mg) (hfa : mg ("law" : Str) = some (.ref f)) (c : He.SaysD fa fn K) :
    ∃ fd : FuncData, (∀ (s : Shared) (v : Value), BindsTo s fd ⟨[v], []⟩ [("_law_script", v)]) ∧ ∀ base : Heap, K.In base → base.Ns mainGlobals mg → FnOk P w K mg base CX0 7 f fd ["_law_script"] (spLaw K) := by
  have glo : ∀ x ∈ glos, mg x = some (.ref (ga K x)) := fun x hx => He.glo_ok X G (factM c (f := .glo x) (List.mem_append_left _ (List.mem_map_of_mem hx)))
  have fre : ∀ x ∈ frees, mg x = none := fun x hx => He.free_ok X G (factM c (f := .free x) (List.mem_append_right _ (List.mem_map_of_mem hx)))
  have B : Bn mg := ⟨fre _ (by decide +kernel), fre _ (by decide +kernel), fre _ (by decide +kernel), fre _ (by decide +kernel), fre _ (by decide +kernel), fre _ (by decide +kernel), fre _ (by decide +kernel), fre _ (by decide +kernel), fre _ (by decide +kernel), fre _ (by decide +kernel), fre _ (by decide +kernel), fre _ (by decide +kernel), fre _ (by decide +kernel), fre _ (by decide +kernel)⟩
  obtain ⟨fd, F⟩ := c.def_ 19 (d := dOf "law" 21) rfl
  have ef := hfa.symm.trans (glo "law" (by decide +kernel))
  cases ef
  have b := FunD.bindsA (ps := ["_law_script"]) F fun _ _ _ _ _ _ us hl => match us, hl with | [_], _ => rfl
  refine ⟨fd, fun s v => b s [v] rfl, fun base hb hg => ?_⟩
  obtain ⟨d0, F0⟩ := c.def_ 0 (d := dOf "after_write" 1) rfl
  have g0 : mg "after_write" = some (.ref (ga K "after_write")) := glo _ (by decide +kernel)
  have b0 : Binds K d0 ["place"] [] := F0.bindsN (fun _ _ _ _ _ _ us hl => match us, hl with | [_], _ => rfl)
  obtain ⟨d1, F1⟩ := c.def_ 1 (d := dOf "after_read" 2) rfl
  have g1 : mg "after_read" = some (.ref (ga K "after_read")) := glo _ (by decide +kernel)
  have b1 : Binds K d1 ["place", "answers"] [] := F1.bindsN (fun _ _ _ _ _ _ us hl => match us, hl with | [_, _], _ => rfl)
  obtain ⟨d2, F2⟩ := c.def_ 2 (d := dOf "is_behind" 3) rfl
  have g2 : mg "is_behind" = some (.ref (ga K "is_behind")) := glo _ (by decide +kernel)
  have b2 : Binds K d2 ["place", "other"] [] := F2.bindsN (fun _ _ _ _ _ _ us hl => match us, hl with | [_, _], _ => rfl)
  obtain ⟨d3, F3⟩ := c.def_ 3 (d := dOf "in_order" 4) rfl
  have g3 : mg "in_order" = some (.ref (ga K "in_order")) := glo _ (by decide +kernel)
  have b3 : Binds K d3 ["places"] [] := F3.bindsN (fun _ _ _ _ _ _ us hl => match us, hl with | [_], _ => rfl)
  obtain ⟨d4, F4⟩ := c.def_ 4 (d := dOf "ordered" 5) rfl
  have g4 : mg "ordered" = some (.ref (ga K "ordered")) := glo _ (by decide +kernel)
  have b4 : Binds K d4 ["places"] [] := F4.bindsN (fun _ _ _ _ _ _ us hl => match us, hl with | [_], _ => rfl)
  obtain ⟨d5, F5⟩ := c.def_ 5 (d := dOf "_rank" 6) rfl
  have g5 : mg "_rank" = some (.ref (ga K "_rank")) := glo _ (by decide +kernel)
  have b5 : Binds K d5 ["place"] [] := F5.bindsN (fun _ _ _ _ _ _ us hl => match us, hl with | [_], _ => rfl)
  obtain ⟨d6, F6⟩ := c.def_ 6 (d := dOf "_rank_of_answers" 7) rfl
  have g6 : mg "_rank_of_answers" = some (.ref (ga K "_rank_of_answers")) := glo _ (by decide +kernel)
  have b6 : Binds K d6 ["answers"] [] := F6.bindsN (fun _ _ _ _ _ _ us hl => match us, hl with | [_], _ => rfl)
  obtain ⟨d7, F7⟩ := c.def_ 7 (d := dOf "_law_feed_of" 9) rfl
  have g7 : mg "_law_feed_of" = some (.ref (ga K "_law_feed_of")) := glo _ (by decide +kernel)
  have b7 : Binds K d7 ["_law_script", "_law_k"] [] := F7.bindsN (fun _ _ _ _ _ _ us hl => match us, hl with | [_, _], _ => rfl)
  obtain ⟨d8, F8⟩ := c.def_ 8 (d := dOf "_law_draw" 10) rfl
  have g8 : mg "_law_draw" = some (.ref (ga K "_law_draw")) := glo _ (by decide +kernel)
  have b8 : Binds K d8 ["_law_feed", "_law_many"] [] := F8.bindsN (fun _ _ _ _ _ _ us hl => match us, hl with | [_, _], _ => rfl)
  obtain ⟨d9, F9⟩ := c.def_ 9 (d := dOf "_law_mixed" 11) rfl
  have g9 : mg "_law_mixed" = some (.ref (ga K "_law_mixed")) := glo _ (by decide +kernel)
  have b9 : Binds K d9 ["_law_feed", "_law_items"] [] := F9.bindsN (fun _ _ _ _ _ _ us hl => match us, hl with | [_, _], _ => rfl)
  obtain ⟨d10, F10⟩ := c.def_ 10 (d := dOf "_law_pick" 12) rfl
  have g10 : mg "_law_pick" = some (.ref (ga K "_law_pick")) := glo _ (by decide +kernel)
  have b10 : Binds K d10 ["_law_feed", "_law_items"] [] := F10.bindsN (fun _ _ _ _ _ _ us hl => match us, hl with | [_, _], _ => rfl)
  obtain ⟨d11, F11⟩ := c.def_ 11 (d := dOf "_law_calls" 13) rfl
  have g11 : mg "_law_calls" = some (.ref (ga K "_law_calls")) := glo _ (by decide +kernel)
  have b11 : Binds K d11 [] [] := F11.bindsN (fun _ _ _ _ _ _ us hl => match us, hl with | [], _ => rfl)
  obtain ⟨d12, F12⟩ := c.def_ 12 (d := dOf "_law_some_text" 14) rfl
  have g12 : mg "_law_some_text" = some (.ref (ga K "_law_some_text")) := glo _ (by decide +kernel)
  have b12 : Binds K d12 ["_law_feed"] [] := F12.bindsN (fun _ _ _ _ _ _ us hl => match us, hl with | [_], _ => rfl)
  obtain ⟨d13, F13⟩ := c.def_ 13 (d := dOf "_law_some_answer" 15) rfl
  have g13 : mg "_law_some_answer" = some (.ref (ga K "_law_some_answer")) := glo _ (by decide +kernel)
  have b13 : Binds K d13 ["_law_feed"] [] := F13.bindsN (fun _ _ _ _ _ _ us hl => match us, hl with | [_], _ => rfl)
  obtain ⟨d14, F14⟩ := c.def_ 14 (d := dOf "_law_ordered" 16) rfl
  have g14 : mg "_law_ordered" = some (.ref (ga K "_law_ordered")) := glo _ (by decide +kernel)
  have b14 : Binds K d14 ["_law_places"] [] := F14.bindsN (fun _ _ _ _ _ _ us hl => match us, hl with | [_], _ => rfl)
  obtain ⟨d15, F15⟩ := c.def_ 15 (d := dOf "_law_same" 17) rfl
  have g15 : mg "_law_same" = some (.ref (ga K "_law_same")) := glo _ (by decide +kernel)
  have b15 : Binds K d15 ["_law_found", "_law_due"] [] := F15.bindsN (fun _ _ _ _ _ _ us hl => match us, hl with | [_, _], _ => rfl)
  obtain ⟨d16, F16⟩ := c.def_ 16 (d := dOf "_law_some_place" 18) rfl
  have g16 : mg "_law_some_place" = some (.ref (ga K "_law_some_place")) := glo _ (by decide +kernel)
  have b16 : Binds K d16 ["_law_feed"] [] := F16.bindsN (fun _ _ _ _ _ _ us hl => match us, hl with | [_], _ => rfl)
  obtain ⟨d17, F17⟩ := c.def_ 17 (d := dOf "_law_near" 19) rfl
  have g17 : mg "_law_near" = some (.ref (ga K "_law_near")) := glo _ (by decide +kernel)
  have b17 : Binds K d17 ["_law_feed", "_law_place"] [] := F17.bindsN (fun _ _ _ _ _ _ us hl => match us, hl with | [_, _], _ => rfl)
  obtain ⟨d18, F18⟩ := c.def_ 18 (d := dOf "_law_behind" 20) rfl
  have g18 : mg "_law_behind" = some (.ref (ga K "_law_behind")) := glo _ (by decide +kernel)
  have b18 : Binds K d18 ["_law_place", "_law_other"] [] := F18.bindsN (fun _ _ _ _ _ _ us hl => match us, hl with | [_, _], _ => rfl)
  have aFeed : Has P w K mg base 1 "_law_feed_of" ["_law_script", "_law_k"] (spFeed K) := ⟨_, d7, g7, F7.kp, b7, okFeed (k := 0) F7 B.len⟩
  have aDraw : Has P w K mg base 1 "_law_draw" ["_law_feed", "_law_many"] (spDraw) := ⟨_, d8, g8, F8.kp, b8, okDraw (k := 0) F8⟩
  have aMixed : Has P w K mg base 2 "_law_mixed" ["_law_feed", "_law_items"] (spMixed K 20) := ⟨_, d9, g9, F9.kp, b9, okMixed (k := 0) F9 B aDraw⟩
  have aPick : Has P w K mg base 2 "_law_pick" ["_law_feed", "_law_items"] (spPick K) := ⟨_, d10, g10, F10.kp, b10, okPick (k := 0) F10 B.len aDraw⟩
  have aCalls : Has P w K mg base 1 "_law_calls" [] (spCalls) := ⟨_, d11, g11, F11.kp, b11, okCalls (k := 0) F11⟩
  have aText : Has P w K mg base 3 "_law_some_text" ["_law_feed"] (spText) := ⟨_, d12, g12, F12.kp, b12, okTxt (k := 0) F12 aDraw aPick aCalls⟩
  have aAns : Has P w K mg base 4 "_law_some_answer" ["_law_feed"] (spAns) := ⟨_, d13, g13, F13.kp, b13, KS.La.okAns (k := 0) F13 aDraw aText⟩
  have aPlace : Has P w K mg base 5 "_law_some_place" ["_law_feed"] (spPlace K) := ⟨_, d16, g16, F16.kp, b16, okPlace (k := 0) F16 B aDraw aText aAns⟩
  have aNear : Has P w K mg base 5 "_law_near" ["_law_feed", "_law_place"] (spNear K) := ⟨_, d17, g17, F17.kp, b17, okNear (k := 0) F17 B aDraw aPick aText aAns⟩
  have aSame : Has P w K mg base 5 "_law_same" ["_law_found", "_law_due"] (spSame K 4) := ⟨_, d15, g15, F15.kp, b15, okSame F15 g15 B 4 0⟩
  have aLB : Has P w K mg base 1 "_law_behind" ["_law_place", "_law_other"] (spBeh K) := ⟨_, d18, g18, F18.kp, b18, okLB (k := 0) F18 B⟩
  have aBeh : Has P w K mg base 1 "is_behind" ["place", "other"] (spBeh K) := ⟨_, d2, g2, F2.kp, b2, okBeh (k := 0) F2 B⟩
  have aAW : Has P w K mg base 1 "after_write" ["place"] (spAW K) := ⟨_, d0, g0, F0.kp, b0, okAW (k := 0) F0⟩
  have aAR : Has P w K mg base 1 "after_read" ["place", "answers"] (spAR K) := ⟨_, d1, g1, F1.kp, b1, okAR (k := 0) F1⟩
  have aRA : Has P w K mg base 1 "_rank_of_answers" ["answers"] (spRA K) := ⟨_, d6, g6, F6.kp, b6, okRA (k := 0) F6 B⟩
  have aRank := okRank (k := 0) F5 B aRA
  have ms : mg "sorted" = none := fre _ (by decide +kernel)
  have my : mg "any" = none := fre _ (by decide +kernel)
  have aOdd : Has P w K mg base 5 "ordered" ["places"] (spOdd K) := ⟨_, d4, g4, F4.kp, b4, okOdd (k := 1) F4 B my ms g5 b5 aRank⟩
  have aOrd : Has P w K mg base 6 "in_order" ["places"] (spOrdA K) := ⟨_, d3, g3, F3.kp, b3, okOrd (okOrdL (k := 1) F3 B aOdd) (okOrdT (k := 1) F3 B aOdd)⟩
  have aLO : Has P w K mg base 1 "_law_ordered" ["_law_places"] (spOrd K false) := ⟨_, d14, g14, F14.kp, b14, okLO (k := 0) F14 B ms⟩
  exact okLaw (n := 6) F B (hasMono aFeed (by decide)) (hasMono aDraw (by decide)) (hasMono aPick (by decide)) (hasMono aPlace (by decide)) (hasMono aNear (by decide)) (hasMono aAns (by decide)) (hasMono aAW (by decide)) (hasMono aAR (by decide)) (hasMono aBeh (by decide)) (hasMono aLB (by decide)) (hasMono aMixed (by decide)) (hasMono aSame (by decide)) (hasMono aOrd (by decide)) (hasMono aLO (by decide))
end
end PLC

set_option Elab.async false
set_option linter.all false
set_option maxRecDepth 100000
set_option maxHeartbeats 0
open PySem PySem.W PySem.Calls PyProof.Rows
theorem PySem.Challenge.cw_farenough_k03_places_after_and_in_order_holds : PySem.Challenge.rw_farenough_k03_places_after_and_in_order.Holds := by
  w_on; o_law
  refine HandSHeadRun.head_any (r := OpenLaw.row PySem.Challenge.rw_farenough_k03_places_after_and_in_order) (q := view (OpenLaw.row PySem.Challenge.rw_farenough_k03_places_after_and_in_order).prog [21]) (H := PLC.hk) (ob := PLC.ob) (M := 20000) (loose := PLC.loose)
    (d := HandSHeadRun.topDef (OpenLaw.row PySem.Challenge.rw_farenough_k03_places_after_and_in_order).prog 21) (kwd := []) PLC.ob_eq
    (by kernel_rfl) (fun s => by kernel_rfl) PLC.run (by kernel_rfl) (by kernel_rfl) (by kernel_rfl) (by rfl) (by first | assumption | decide +kernel) (by decide +kernel) ⟨rfl, rfl, rfl, rfl, rfl, by decide +kernel⟩ ?hw ?hc
  case hw => w_witness2
  case hc =>
    refine L2.walk_ofE (l := PySem.Challenge.rw_farenough_k03_places_after_and_in_order) (n := 63) (k := 7) (x := "_law_script") (CX := L2.CX0) rfl (by decide) (by kernel_rfl) ⟨rfl, by decide, by decide⟩ ?F (fun _ _ _ _ z => z)
    intro w mg fa h Y G hmg0
    obtain ⟨K, KX, c⟩ := Y
    have hmg : mg ("law" : PySem.Str) = some (.ref fa) := by
      have e : (HandSHeadRun.topDef (OpenLaw.row PySem.Challenge.rw_farenough_k03_places_after_and_in_order).prog 21).name = ("law" : PySem.Str) := by kernel_rfl
      rw [← e]
      exact hmg0
    obtain ⟨fd, hb, hF⟩ := PLC.facts (P := (PySem.Challenge.rw_farenough_k03_places_after_and_in_order).prog) (w := w) KX G hmg c
    exact ⟨K, fd, PLC.spLaw K, KX, hb, fun H a ns hl _ hS => ⟨a, ns, rfl, hS, hl, fun _ => rfl⟩, hF⟩


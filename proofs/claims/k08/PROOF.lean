import PyProof.Rows.All
import Wide.All
import OpenK.AllK
import Wide.FinOn
import HandS.ForMost
import HandS.IsInst
import HandS.WideBits
import HandS.TupLe
import HandS.TupAny
import KE.KDictPairs
import KE.KDictWalk
import HandS.Dict
import HandS.Keys
import HandS.DictTup
import HandS.SortInts
import HandS.SortRule
import HandS.Iter
import HandS.Strs
import HandS.SetBool
import HandS.Zip
import HandS.TupSets
import HandS.Conv
import HandS.DictComp
import HandS.SetFor
import HandS.Small
import HandS.Star
import HandS.NoneIn
import HandS.Deep
import HandS.Exc
import HandS.TryOnly
import HandS.ExcInit
import HandS.Lambda
import HandS.EndTab
import KE.KTryMore
import KE.KExcIs
import HandS.ExcValue
import KE.KExcInit
import HandS.Defaults
import HandS.MakeKwOnly
import PySem.Challenge.RW_allscreens_k08_mirrors_great_and_refused
set_option Elab.async false
set_option linter.all false
set_option maxRecDepth 100000
set_option maxHeartbeats 4000000
/-! ## tables of pairs: what they turn -/
namespace Tb
open PySem PySem.Spec PyProof.Rows L2
abbrev Tb := List (Int × Int)
def look : Tb → Int → Int
  | [], c => c
  | p :: L, c => if p.1 = c then p.2 else look L c
abbrev Asc (L : Tb) : Prop := L.Pairwise fun p q => p.1 < q.1
def Col (c : Int) : Prop := 0 ≤ c ∧ c ≤ 1000000000
def Good (L : Tb) : Prop := Asc L ∧ ∀ p ∈ L, Col p.1 ∧ Col p.2
theorem look_mem : ∀ {L : Tb}, Asc L → ∀ {p : Int × Int}, p ∈ L → look L p.1 = p.2
  | q :: L, h, p, m => by
    obtain ⟨h1, h2⟩ := List.pairwise_cons.mp h
    rcases List.mem_cons.mp m with e | m
    · rw [e]; exact if_pos rfl
    · have := h1 p m
      exact (if_neg (by omega)).trans (look_mem h2 m)
theorem look_out : ∀ {L : Tb} {c : Int}, (∀ p ∈ L, p.1 ≠ c) → look L c = c
  | [], _, _ => rfl
  | q :: L, c, h => (if_neg (h q (List.mem_cons_self ..))).trans (look_out fun p m => h p (List.mem_cons_of_mem _ m))
theorem look_col : ∀ {L : Tb}, (∀ p ∈ L, Col p.1 ∧ Col p.2) → ∀ {c : Int}, Col c → Col (look L c)
  | [], _, _, hc => hc
  | q :: L, h, c, hc => by
    unfold look
    split
    · exact (h q (List.mem_cons_self ..)).2
    · exact look_col (fun p m => h p (List.mem_cons_of_mem _ m)) hc
theorem asc_ext : ∀ {L M : Tb}, Asc L → Asc M → (∀ p, p ∈ L ↔ p ∈ M) → L = M
  | [], [], _, _, _ => rfl
  | [], q :: M, _, _, h => absurd ((h q).mpr (List.mem_cons_self ..)) (by simp)
  | p :: L, [], _, _, h => absurd ((h p).mp (List.mem_cons_self ..)) (by simp)
  | p :: L, q :: M, hl, hm, h => by
    obtain ⟨a1, a2⟩ := List.pairwise_cons.mp hl
    obtain ⟨b1, b2⟩ := List.pairwise_cons.mp hm
    have e : p = q := by
      rcases List.mem_cons.mp ((h p).mp (List.mem_cons_self ..)) with e | m
      · exact e
      · rcases List.mem_cons.mp ((h q).mpr (List.mem_cons_self ..)) with e | m'
        · exact e.symm
        · have := b1 p m
          have := a1 q m'
          omega
    subst e
    rw [asc_ext a2 b2 fun r => ?_]
    constructor
    · intro m
      rcases List.mem_cons.mp ((h r).mp (List.mem_cons_of_mem _ m)) with e | m'
      · have := a1 r m
        rw [e] at this
        omega
      · exact m'
    · intro m
      rcases List.mem_cons.mp ((h r).mpr (List.mem_cons_of_mem _ m)) with e | m'
      · have := b1 r m
        rw [e] at this
        omega
      · exact m'
/-! ### as dicts -/
def kvT (L : Tb) : List (Key × V) := L.map fun p => (.inl p.1, .int p.2)
theorem val_merge (c : Int) : ∀ (L : Tb) (acc : List (Key × V)), Asc L → valV (mergeK acc (kvT L)) (.inl c) = if (∃ p ∈ L, p.1 = c) then some (.int (look L c)) else valV acc (.inl c)
  | [], acc, _ => by
    rw [if_neg (by simp)]
    rfl
  | q :: L, acc, h => by
    obtain ⟨h1, h2⟩ := List.pairwise_cons.mp h
    show valV (mergeK (putK acc (.inl q.1) (.int q.2)) (kvT L)) (.inl c) = _
    rw [val_merge c L _ h2, valV_put]
    by_cases e : q.1 = c
    · have n : ¬ ∃ p ∈ L, p.1 = c := fun ⟨p, m, z⟩ => by have := h1 p m; omega
      rw [if_neg n, if_pos (by rw [e]), if_pos ⟨q, List.mem_cons_self .., e⟩]
      show _ = some (V.int (if q.1 = c then q.2 else look L c))
      rw [if_pos e]
    · have k : (∃ p ∈ q :: L, p.1 = c) ↔ ∃ p ∈ L, p.1 = c := ⟨fun ⟨p, m, z⟩ => by
        rcases List.mem_cons.mp m with y | m
        · exact absurd (y ▸ z) e
        · exact ⟨p, m, z⟩, fun ⟨p, m, z⟩ => ⟨p, List.mem_cons_of_mem _ m, z⟩⟩
      rw [if_neg (c := (Sum.inl c : Key) = Sum.inl q.1) (fun z => e (Sum.inl.inj z).symm)]
      have lk : look (q :: L) c = look L c := if_neg e
      rw [lk]
      by_cases m : ∃ p ∈ L, p.1 = c
      · rw [if_pos m, if_pos (k.mpr m)]
      · rw [if_neg m, if_neg fun z => m (k.mp z)]
theorem dict_look {L : Tb} (h : Asc L) (c : Int) : (valV (mergeK [] (kvT L)) (.inl c)).getD (.int c) = .int (look L c) := by
  rw [val_merge c L [] h]
  by_cases m : ∃ p ∈ L, p.1 = c
  · rw [if_pos m]; rfl
  · rw [if_neg m, look_out fun p mp e => m ⟨p, mp, e⟩]; rfl
theorem put_kvT (F : Int → Int) (c : Int) (acc : Tb) (hv : ∀ p ∈ acc, p.2 = F p.1) : putK (kvT acc) (.inl c) (.int (F c)) = if c ∈ acc.map (·.1) then kvT acc else kvT (acc ++ [(c, F c)]) := by
  unfold putK
  by_cases m : c ∈ acc.map (·.1)
  · rw [if_pos m, if_pos]
    · unfold kvT
      rw [List.map_map]
      refine List.map_congr_left fun p mp => ?_
      show (if (Sum.inl p.1 : Key) = Sum.inl c then _ else _) = _
      by_cases e : p.1 = c
      · rw [if_pos (by rw [e])]
        show ((Sum.inl p.1 : Key), V.int (F c)) = (Sum.inl p.1, V.int p.2)
        rw [hv p mp, e]
      · rw [if_neg fun z => e (Sum.inl.inj z)]
    · obtain ⟨p, mp, e⟩ := List.mem_map.mp m
      exact List.any_eq_true.mpr ⟨_, List.mem_map.mpr ⟨p, mp, rfl⟩, decide_eq_true (by rw [← e])⟩
  · rw [if_neg m, if_neg]
    · unfold kvT
      rw [List.map_append]
      rfl
    · intro z
      obtain ⟨kv, mk, e⟩ := List.any_eq_true.mp z
      obtain ⟨p, mp, rfl⟩ := List.mem_map.mp mk
      exact m (List.mem_map.mpr ⟨p, mp, Sum.inl.inj (of_decide_eq_true e)⟩)
theorem items_of (F : Int → Int) : ∀ (T : List Int) (acc : Tb), (acc.map (·.1)).Nodup → (∀ p ∈ acc, p.2 = F p.1) →
    ∃ R : Tb, mergeK (kvT acc) (kvT (T.map fun h => (h, F h))) = kvT R ∧ (R.map (·.1)).Nodup ∧ (∀ p ∈ R, p.2 = F p.1) ∧ (∀ c, c ∈ R.map (·.1) ↔ c ∈ acc.map (·.1) ∨ c ∈ T) ∧ R.length ≤ acc.length + T.length
  | [], acc, nd, hv => ⟨acc, rfl, nd, hv, fun c => by simp, by simp⟩
  | h :: T, acc, nd, hv => by
    have e : mergeK (kvT acc) (kvT ((h :: T).map fun h => (h, F h))) = mergeK (putK (kvT acc) (.inl h) (.int (F h))) (kvT (T.map fun h => (h, F h))) := rfl
    rw [e, put_kvT F h acc hv]
    by_cases m : h ∈ acc.map (·.1)
    · rw [if_pos m]
      obtain ⟨R, r1, r2, r3, r4, r5⟩ := items_of F T acc nd hv
      refine ⟨R, r1, r2, r3, fun c => ?_, by simp; omega⟩
      rw [r4 c, List.mem_cons]
      constructor
      · rintro (z | z)
        · exact .inl z
        · exact .inr (.inr z)
      · rintro (z | z | z)
        · exact .inl z
        · exact .inl (z ▸ m)
        · exact .inr z
    · rw [if_neg m]
      obtain ⟨R, r1, r2, r3, r4, r5⟩ := items_of F T (acc ++ [(h, F h)]) (by
        rw [List.map_append]
        refine List.nodup_append.mpr ⟨nd, by simp, fun a ma b mb e => ?_⟩
        have : b = h := by simpa using mb
        exact m (this ▸ e ▸ ma)) (fun p mp => by
        rcases List.mem_append.mp mp with z | z
        · exact hv p z
        · rw [List.mem_singleton.mp z])
      refine ⟨R, r1, r2, r3, fun c => ?_, by simp at r5 ⊢; omega⟩
      rw [r4 c, List.map_append, List.mem_append, List.mem_cons]
      constructor
      · rintro ((z | z) | z)
        · exact .inl z
        · exact .inr (.inl (by simpa using z))
        · exact .inr (.inr z)
      · rintro (z | z | z)
        · exact .inl (.inl z)
        · exact .inl (.inr (by simpa using z))
        · exact .inr z
/-- ascending by the pairs, the first ones different: ascending by the first ones -/
theorem asc_of {R : Tb} (h : R.Pairwise fun p q => p.1 < q.1 ∨ p.1 = q.1 ∧ p.2 ≤ q.2) (nd : (R.map (·.1)).Nodup) : Asc R := by
  have nd' : R.Pairwise fun p q => p.1 ≠ q.1 := List.pairwise_map.mp nd
  refine (h.and nd').imp fun {p q} z => ?_
  omega
/-! ### joined -/
def comb (F : Int → Int) (ns : List Int) : Tb := (ns.filter fun c => decide (F c ≠ c)).map fun c => (c, F c)
theorem mem_comb {F : Int → Int} {ns : List Int} {p : Int × Int} : p ∈ comb F ns ↔ p.1 ∈ ns ∧ p.2 = F p.1 ∧ F p.1 ≠ p.1 := by
  unfold comb
  rw [List.mem_map]
  constructor
  · rintro ⟨c, mc, rfl⟩
    obtain ⟨m, d⟩ := List.mem_filter.mp mc
    exact ⟨m, rfl, of_decide_eq_true d⟩
  · rintro ⟨m, e, d⟩
    exact ⟨p.1, List.mem_filter.mpr ⟨m, decide_eq_true d⟩, by rw [← e]⟩
theorem comb_asc {F : Int → Int} {ns : List Int} (h : ns.Pairwise (· < ·)) : Asc (comb F ns) := List.pairwise_map.mpr (h.filter _)
end Tb
/-! ## tuples that are known to be bare; dict of such a tuple of pairs; the items of a dict, sorted -/
namespace Tb
open PySem PySem.Spec PyProof.Rows L2
section
variable {X : Cx}
/-- tuple of a list: the new one has no dict of its own -/
theorem call_tupleF : CallR X (.type "tuple") (fun vs H Q => ∃ p ys, vs = [.ref p] ∧ SqL X.K H p ys ∧ ∀ l o, H l = none → o.dict = none → Q (.ref l) (upd H l (.frz o (.tup ys)))) := by
  intro pins s σ H vs us Q I rv ⟨p, ys, ev, sq, k⟩
  subst ev
  obtain ⟨u, rfl, ru⟩ := vals1 rv
  cases ru
  obtain ⟨its, vis, pl, hz⟩ := I.list sq
  have hln := vis.length
  refine call_tuple_list pl.isList (fun g kp => ?_) (by simp only [List.size_toArray]; omega)
  have J : Inv X pins σ H { s with heap := g } := I.kept (t' := s.toks) kp
  have J2 : Inv X pins σ (upd H g.objs.size (.frz { cls := .type "tuple", data := .seq its.toArray } (.tup ys))) { s with heap := g.push { cls := .type "tuple", data := .seq its.toArray } } :=
    J.laid (t' := s.toks) (fun b o e => Heap.get?_push_of_some _ e) (Nat.le_refl _) ⟨Heap.get?_push_size _ rfl, hz, its, vis, IsTup.new _ _⟩
  exact ⟨.ref g.objs.size, _, J2, rfl, k _ _ (J.hok.fresh (Nat.le_refl _)) rfl⟩
/-- what dict() finds in a tuple of pairs -/
theorem prs_of {pins : List (Addr × Obj)} {σ : L2.St} {H : Hp} {s : Shared} (I : Inv X pins σ H s) : ∀ {ps : List Addr} {kvs : List (Key × V)}, Paired (fun p kv => SqT X.K H p [kV kv.1, kv.2]) ps kvs →
    ∃ (prs : List (Key × Value)) (us : List (Value × Value)), KV kvs prs ∧ us.length = ps.length ∧ prs.length = ps.length ∧
      ∀ (j : Nat) (k v : Value), us[j]? = some (k, v) → ∃ (b : Addr) (kk : Key), ps[j]? = some b ∧ s.heap.IsTuple b #[k, v] ∧ prs[j]? = some (kk, v) ∧ keyIs kk k = true
  | _, _, .nil => ⟨[], [], .nil, rfl, rfl, fun j k v e => by simp at e⟩
  | _, _, .cons (a := p) (b := kv) h t => by
    obtain ⟨prs, us, r, l1, l2, at'⟩ := prs_of I t
    obtain ⟨its, rv, pt, _⟩ := I.tuple h
    obtain ⟨u, y, rfl, ru, ry⟩ := vals2 rv
    refine ⟨(kv.1, y) :: prs, (u, y) :: us, .cons ⟨rfl, ry⟩ r, by simp [l1], by simp [l2], fun j k v e => ?_⟩
    cases j with
    | zero =>
      obtain ⟨rfl, rfl⟩ := Prod.mk.inj (Option.some.inj e)
      exact ⟨p, kv.1, rfl, pt, rfl, kV_is (P := X.prog) (w := X.w) ru⟩
    | succ j =>
      obtain ⟨b, kk, e1, e2, e3, e4⟩ := at' j k v (by simpa using e)
      exact ⟨b, kk, by simpa using e1, e2, by simpa using e3, e4⟩
/-- dict(t), t a bare tuple of pairs -/
theorem call_dictT (hcalm : X.calm = true) : CallR X (.type "dict") (fun vs H Q => ∃ (a : Addr) (o : Obj) (ps : List Addr) (kvs : List (Key × V)), vs = [.ref a] ∧ o.dict = none ∧ H a = some (.frz o (.tup (ps.map V.ref))) ∧
    Paired (fun p kv => SqT X.K H p [kV kv.1, kv.2]) ps kvs ∧ ∀ p, H p = none → Q (.ref p) (upd H p (.dK (mergeK [] kvs)))) := by
  intro pins s σ H vs us Q I rv ⟨a, o, ps, kvs, ev, od, ha, hp, q⟩
  subst ev
  obtain ⟨u, rfl, ru⟩ := vals1 rv
  cases ru
  obtain ⟨ho, hz, its, vis, o', ho', hc, n, hd⟩ := I.hok a _ ha
  rw [ho] at ho'
  cases ho'
  have ei := refs_at vis
  subst ei
  rw [List.length_map] at hz
  obtain ⟨prs, us, r, l1, l2, at'⟩ := prs_of I hp
  refine PySem.call_dict_pairs (knd := mixKind X.prog X.w) (kvs := prs) (PairArg.tuple (prog := X.prog) (w := X.w) a (ps.map Value.ref).toArray (fun j => ps.getD j 0) us) (I.ok.hd hcalm) ⟨⟨o, n, ho, hc, od, hd⟩, by simp [l1], fun j k v e => ?_⟩ ⟨by rw [l1, l2], fun i k v e => ?_⟩ (by rw [l1]; exact hz) fun g tk hg kp => ?_
  · obtain ⟨b, kk, e1, e2, _, _⟩ := at' j k v e
    have eb : ps.getD j 0 = b := by rw [List.getD_eq_getElem?_getD, e1]; rfl
    exact ⟨(by simp [e1] : (ps.map Value.ref).toArray[j]? = some (.ref b)).trans (by show _ = some (Value.ref (ps.getD j 0)); rw [eb]), .inl (show s.heap.IsTuple (ps.getD j 0) #[k, v] from eb.symm ▸ e2)⟩
  · obtain ⟨b, kk, _, _, e3, e4⟩ := at' i k v e
    exact ⟨kk, e3, e4⟩
  · have big : (s.heap.objs.size == sysModules) = false := beq_eq_false_iff_ne.mpr (Nat.ne_of_gt I.big)
    have ln : (mergeK [] kvs).length ≤ sizeLine := by
      have e1 := length_mergeK kvs []
      have e2 := r.length
      simp only [List.length_nil] at e1
      omega
    exact ⟨.ref s.heap.objs.size, _, I.laid (t' := tk) (fun b o e => kp b o (by simp) e) (Nat.le_refl _) (show ObjOk X.prog X.w _ _ _ (.dK (mergeK [] kvs)) from ⟨ln, big, merged [] prs, KV.merge r .nil, hg⟩), rfl, q _ (I.hok.fresh (Nat.le_refl _))⟩
end
end Tb
namespace Tb
open PySem PySem.Spec PyProof.Rows L2 L2.DX
section
variable {X : Cx}
/-- d.items(), the keys numbers or texts -/
theorem mt_itemsK : MtR X "dict.items" (fun x vs H Q => ∃ (a : Addr) (kvs : List (Key × V)), x = .ref a ∧ vs = [] ∧ H a = some (.dK kvs) ∧ ∀ p, H p = none → Q (.ref p) (upd H p (itemsO p a))) := by
  intro pins s σ H x vs v us Q I rx rv ⟨a, kvs, ex, ev, ha, q⟩
  subst ex ev
  cases rx
  cases rv
  obtain ⟨z, nd, vs, _, o, es, ep, ho, hx, hdat, _⟩ := I.hok a _ ha
  exact DT.callItems (es := es) (ep := ep) nd ⟨o, ho, hx, hdat⟩
    ⟨.ref s.heap.objs.size, _, I.laid (t' := s.toks) (fun b u e => Heap.get?_push_of_some _ e) (Nat.le_refl _) (itemsO_ok (Heap.get?_push_size _ rfl)), rfl, q _ (I.hok.fresh (Nat.le_refl _))⟩
/-- what the entries of a dict of numbers are -/
theorem ent_of {P : Program} {w : World} : ∀ {R : Tb} {vs : List (Key × Value)} {es : List DictEntry}, KV (kvT R) vs → Pairs (mixKind P w) es vs →
    es.length = R.length ∧ ∀ (j : Nat) (e : DictEntry), es[j]? = some e → ∃ (p : Int × Int) (t t' : Tok), R[j]? = some p ∧ e.key = .int p.1 t ∧ e.val = .int p.2 t'
  | [], _, _, kv, ps => by
    cases kv
    cases ps
    exact ⟨rfl, fun j e h => by simp at h⟩
  | p :: R, _, _, kv, ps => by
    cases kv with
    | cons h t =>
      cases ps with
      | cons h1 h2 h3 =>
        obtain ⟨l, at'⟩ := ent_of t h3
        refine ⟨by simp [l], fun j e he => ?_⟩
        cases j with
        | zero =>
          obtain rfl := Option.some.inj he
          obtain ⟨tv, ev⟩ := h.2
          have ek := h1
          rw [← h.1] at ek
          obtain ⟨tk, e2⟩ := relV_key (show keyIs (Sum.inl p.1) _ = true from ek)
          exact ⟨p, tk, tv, rfl, e2, h2.trans ev⟩
        | succ j => exact at' j e (by simpa using he)

theorem LiI_refs : ∀ as : List Addr, Vals (as.map V.ref) (as.map Value.ref)
  | [] => .nil
  | _ :: as => .cons rfl (LiI_refs as)
def numb (as : List Addr) (R : Tb) : Value → Int × Int
  | .ref b => ((as.zip R).lookup b).getD (0, 0)
  | _ => (0, 0)
theorem look_zip : ∀ {as : List Addr} {R : Tb} {j : Nat} {b : Addr} {p : Int × Int}, as.Nodup → as[j]? = some b → R[j]? = some p → (as.zip R).lookup b = some p
  | a :: as, r :: R, 0, b, p, _, h1, h2 => by
    cases h1
    cases h2
    simp
  | a :: as, r :: R, j + 1, b, p, nd, h1, h2 => by
    have n := List.nodup_cons.mp nd
    have m : b ∈ as := List.mem_of_getElem? (by simpa using h1)
    have ne : (b == a) = false := beq_eq_false_iff_ne.mpr fun e => n.1 (e ▸ m)
    rw [List.zip_cons_cons, List.lookup_cons, ne]
    exact look_zip (j := j) n.2 (by simpa using h1) (by simpa using h2)
  | [], _, j, _, _, _, h1, _ => by simp at h1
  | _ :: _, [], j, _, _, _, _, h2 => by simp at h2
abbrev rItSorted : List V → Hp → VK → Prop := fun vs H Q => ∃ (p a : Addr) (R : Tb), vs = [.ref p] ∧ H p = some (itemsO p a) ∧ H a = some (.dK (kvT R)) ∧
  ∀ (G : Hp) (l : Addr) (zs : List (Addr × (Int × Int))), (∀ b o, H b = some o → G b = some o) → H l = none → (zs.map (·.2)).Perm R → (zs.map (·.2)).Pairwise (fun p q => p.1 < q.1 ∨ p.1 = q.1 ∧ p.2 ≤ q.2) →
    G l = some (.lst (zs.map fun z => V.ref z.1)) → (∀ z ∈ zs, G z.1 = some (.tup [.int z.2.1, .int z.2.2])) → Q (.ref l) G
theorem cr_itSorted (hc : X.calm = true) : CallR X (.builtin "sorted") rItSorted := by
  intro pins s σ H vs us Q I rv ⟨p, a, R, ev, hp, ha, q⟩
  subst ev
  obtain rfl := Vals.ref1 rv
  have view : s.heap.IsItemsView p a := (show ObjOk X.prog X.w H s.heap p (itemsO p a) from I.hok p _ hp).1
  obtain ⟨hz, nd, vs', kv, o, es, ep, ho, hx, hdat, _, hps, _⟩ := I.hok a _ ha
  obtain ⟨elen, eat⟩ := ent_of kv hps
  rw [Array.length_toList] at elen
  have Rz : R.length ≤ sizeLine := by
    have := hz
    unfold kvT at this
    rwa [List.length_map] at this
  refine DT.sortedI (es := es) (ep := ep) (I.ok.hd hc) view ⟨o, ho, hx, hdat⟩ (by rw [elen]; exact Rz) fun g tk as gk glt al gm => ?_
  have alen : as.length = R.length := al.trans elen
  have and' : as.Nodup := List.Pairwise.imp (fun h => Nat.ne_of_lt h) gm.rise
  have mk : ∀ (j : Nat) (b : Addr), as[j]? = some b → ∃ (r : Int × Int) (t t' : Tok), R[j]? = some r ∧ g.get? b = some { cls := .type "tuple", data := .seq #[.int r.1 t, .int r.2 t'] } := fun j b hj => by
    obtain ⟨e, he, hg⟩ := gm.pairs j b hj
    obtain ⟨r, t, t', h1, h2, h3⟩ := eat j e (by rw [Array.getElem?_toList]; exact he)
    exact ⟨r, t, t', h1, by rw [hg, h2, h3]⟩
  have num : ∀ (j : Nat) (b : Addr) (r : Int × Int), as[j]? = some b → R[j]? = some r → numb as R (.ref b) = r := fun j b r h1 h2 => by
    show ((as.zip R).lookup b).getD (0, 0) = r
    rw [look_zip and' h1 h2]
    rfl
  -- the heap with the list
  generalize hg2 : g.push { cls := .type "list", data := .seq (as.map Value.ref).toArray } = g2
  have old : ∀ b u, g.get? b = some u → g2.get? b = some u := fun b u e => by rw [← hg2]; exact Heap.get?_push_of_some _ e
  have off : ∀ b u, g.get? b = some u → b ≠ g.objs.size := fun b u e => Nat.ne_of_lt (Heap.lt_size e)
  have hob : g2.get? g.objs.size = some (seqObj "list" (as.map Value.ref).toArray 0) := by rw [← hg2]; exact Heap.get?_push_size _ rfl
  have I0 : Inv X pins σ H { s with heap := g2, toks := tk } := I.kept (t' := tk) fun b u e => old b u (gk b u e)
  have hl0 : H g.objs.size = none := I.hok.fresh (Nat.le_of_lt glt)
  have I1 : Inv X pins σ (upd H g.objs.size (.lst (as.map V.ref))) { s with heap := g2, toks := tk } :=
    I0.take (h' := g2) (t' := tk) (fun b ob _ e => e) (I.fpOk (Nat.le_of_lt glt) hl0) ⟨by rw [List.length_map, alen]; exact Rz, as.map Value.ref, 0, LiI_refs as, hob⟩
  obtain ⟨G, I2, gr, gt⟩ := takeT (P := fun b ws => ∃ (j : Nat) (r : Int × Int), as[j]? = some b ∧ R[j]? = some r ∧ ws = [.int r.1, .int r.2]) I as _ I1 and' fun b hb => by
    obtain ⟨j, hj⟩ := List.mem_iff_getElem?.mp hb
    obtain ⟨r, t, t', h1, h2⟩ := mk j b hj
    have up : s.heap.objs.size ≤ b := Nat.le_of_lt (gm.above b hb)
    refine ⟨up, (upd_ne (off _ _ h2)).trans (I.hok.fresh up), [.int r.1, .int r.2], ⟨j, r, hj, h1, rfl⟩, fun H3 => ⟨by rw [sizeLine_eq]; show 2 ≤ 16777216; omega, [.int r.1 t, .int r.2 t'], .cons ⟨t, rfl⟩ (.cons ⟨t', rfl⟩ .nil), ⟨_, old _ _ h2, rfl, 0, rfl⟩⟩⟩
  have hGl : G g.objs.size = some (.lst (as.map V.ref)) := gr _ _ upd_same
  have ip : ∀ v ∈ as.map Value.ref, Srt.IsPair g2 v (numb as R v).1 (numb as R v).2 := fun v hv => by
    obtain ⟨b, hb, rfl⟩ := List.mem_map.mp hv
    obtain ⟨j, hj⟩ := List.mem_iff_getElem?.mp hb
    obtain ⟨r, t, t', h1, h2⟩ := mk j b hj
    rw [num j b r hj h1]
    exact ⟨b, _, t, t', 0, rfl, old _ _ h2, rfl, rfl⟩
  refine wpAny_call_entry PyProof.Rows.slot_list_sort ⟨_, hob, rfl⟩ PyProof.Rows.entry_list_sort (SrtO.list_sort_ord (SrtO.swo_lex (numb as R)) hob (by rw [List.length_map, alen]; exact Rz)
    (fun h2 => SrtO.pairs_sortableO (by omega) ip fun ob e => ?_) fun out h1 h2 => ⟨.none, rfl, ?_⟩) (PyProof.Rows.args_list_sort _)
  · obtain rfl := Option.some.inj (e.symm.trans hob)
    exact fun c => absurd (Value.type.inj c) (by decide)
  · obtain ⟨zs, zp, ez⟩ := perm_lift (fun z : Addr × (Int × Int) => Value.ref z.1) h2.perm (as.zip R) (by have e := congrArg (List.map Value.ref) (List.map_fst_zip (l₁ := as) (l₂ := R) (Nat.le_of_eq alen)); rw [List.map_map] at e; exact e)
    have idx : ∀ z ∈ zs, ∃ j : Nat, as[j]? = some z.1 ∧ R[j]? = some z.2 := fun z hz' => by
      obtain ⟨j, hj⟩ := List.mem_iff_getElem?.mp (zp.mem_iff.mp hz')
      exact ⟨j, List.getElem?_zip_eq_some.mp hj⟩
    have zn : ∀ z ∈ zs, numb as R (Value.ref z.1) = z.2 := fun z hz' => by
      obtain ⟨j, j1, j2⟩ := idx z hz'
      exact num j _ _ j1 j2
    have zperm : (zs.map (·.2)).Perm R := by
      have e := zp.map (·.2)
      rwa [List.map_snd_zip (Nat.le_of_eq alen.symm)] at e
    have zord : (zs.map (·.2)).Pairwise fun p q => p.1 < q.1 ∨ p.1 = q.1 ∧ p.2 ≤ q.2 := by
      have o3 : out.Pairwise fun v u => SrtO.lexB (numb as R u) (numb as R v) = false := h1
      rw [← ez, List.pairwise_map] at o3
      rw [List.pairwise_map]
      refine List.Pairwise.imp_of_mem (fun {x y} hx' hy h => ?_) o3
      have h' := SrtO.lexB_no.mp h
      rw [zn x hx', zn y hy] at h'
      omega
    obtain ⟨c, hat⟩ := PyProof.Rows.sortedHeap_at (vs := as.map Value.ref) (out := out.toArray) hob
    have rvz : Vals (zs.map fun z => V.ref z.1) out := by
      rw [← ez]
      exact vals_maps (fun z : Addr × (Int × Int) => V.ref z.1) (fun z => Value.ref z.1) zs fun _ _ => rfl
    have zl : (zs.map fun z => V.ref z.1).length ≤ sizeLine := by
      have e := zperm.length_eq
      rw [List.length_map] at e
      rw [List.length_map]
      omega
    have I3 : Inv X pins σ (upd G g.objs.size (.lst (zs.map fun z => V.ref z.1))) { s with heap := sortedHeap g2 g.objs.size (as.map Value.ref) out.toArray, toks := tk } :=
      I2.write (e := g.objs.size) (t' := tk) (by rw [hGl]; trivial) (.inl rfl) (fun b u hb hu => (PyProof.Rows.sortedHeap_old hb (Heap.lt_size hu)).trans hu) ⟨_, hat⟩ ⟨zl, out, c, rvz, hat⟩
    have ne0 : ∀ b u, H b = some u → b ≠ g.objs.size := fun b u e z => by rw [z, hl0] at e; cases e
    refine ⟨.ref g.objs.size, _, I3, rfl, q _ g.objs.size zs (fun b u e => (upd_ne (ne0 b u e)).trans (gr b u ((upd_ne (ne0 b u e)).trans e))) hl0 zperm zord upd_same fun z hz' => ?_⟩
    obtain ⟨j, j1, j2⟩ := idx z hz'
    obtain ⟨ws, ⟨i, r, i1, i2, ew⟩, hG⟩ := gt z.1 (List.mem_of_getElem? j1)
    have eij : j = i := (List.getElem?_inj (List.getElem?_eq_some_iff.mp j1).1 and').mp (j1.trans i1.symm)
    subst eij
    obtain rfl := Option.some.inj (j2.symm.trans i2)
    obtain ⟨r', t, t', k1, k2⟩ := mk j _ j1
    rw [upd_ne (off _ _ k2), hG, ew]
end
end Tb
/-! ## {e for x in ..}, e an int -/
namespace Tb
open PySem PySem.Spec PyProof.Rows L2 L2.DX
section
variable {X : Cx}
/-- one more member -/
abbrev grown (S : Int → Bool) (k : Int) : Int → Bool := fun j => S j || decide (j = k)
abbrev grownN (S : Int → Bool) (k : Int) (n : Nat) : Nat := if S k = true then n else n + 1
theorem add_int {pns : List (Addr × Obj)} {σ : L2.St} {H : Hp} {s : Shared} {E : Value → Shared → Prop} {D : Addr} {S : Int → Bool} {n : Nat} {k : Int} {t : Tok} {Q : Value → Shared → Prop} (J : Inv X pns σ H s) (e : H D = some (SetO X.w D S n)) (few : n + 1 < scanBound)
    (q : ∀ z, Inv X pns σ (upd H D (SetO X.w D (grown S k) (grownN S k n))) z → Q .none z) : wpAny (model X.prog X.w) X.A (call (.builtin "set.add") [.ref D, .int k t]) Q E s :=
  setR_add (setO_get J e) few fun g sb r => q _ (J.write (e := D) (t' := s.toks + 1) (by rw [e]; trivial) (.inl rfl) (fun b u nb hu => (sb.2 b nb).trans hu) (let ⟨o, _, _, _, ho, _⟩ := r; ⟨o, ho⟩) (setO_new r))
/-- what a turn asks of its item: Next is what the next turn begins with -/
def turnS (w : World) (D : Addr) (g : TG) (tt : TT) (te : TE) (vs : List Nat) (σ : L2.St) (Next : Hp → Prop) (x : V) (H : Hp) : Prop :=
  g x (wipe σ vs) H fun σ2 H2 => wipe σ2 vs = wipe σ vs ∧ tt σ2 H2 fun b H3 => if b = true then te σ2 H3 fun y H4 => ∃ (k : Int) (S : Int → Bool) (n : Nat), y = .int k ∧ H4 D = some (SetO w D S n) ∧ n + 1 < scanBound ∧ Next (upd H4 D (SetO w D (grown S k) (grownN S k n))) else Next H3
def tSci (w : World) (wi : TI) (g : TG) (tt : TT) (te : TE) (vs : List Nat) : TE := fun σ H Q => wi σ H fun J H1 => ∀ D, H1 D = none → ∃ W : Nat → Nat → Hp → Prop, (∃ m, W 0 m (upd H1 D (SetO w D (fun _ => false) 0))) ∧
  ∀ i m H, W i m H → (J.stop i H ∧ Q (.ref D) H) ∨ (J.go i H ∧ ∃ Nx : Hp → Prop, (∀ H', Nx H' → ∃ m', m' < m ∧ W (i + 1) m' H') ∧ ∀ x H', J.yld i H x H' → turnS w D g tt te vs σ Nx x H')
theorem pe_sci {elt tg iter : Expr} {ifs : List Expr} {scope : Scope} {own : List (PySem.Str × Nat)} {pos : Pos} {wi : TI} {g : TG} {tt : TT} {te : TE} (hc : X.calm = true) (hN : X.N.Nodup) (hi : PI X tg iter wi) (ok : BlkOk X.N X.env.scope scope own)
    (hg : ∀ (s : Shared) (H : Hp) (C : Addr) (cl : List (PySem.Str × Addr)) (fp : List Addr), PG (X.blk s H scope (compEnvC scope cl C X.env) fp) tg g)
    (ht : ∀ (s : Shared) (H : Hp) (C : Addr) (cl : List (PySem.Str × Addr)) (fp : List Addr), PTs (X.blk s H scope (compEnvC scope cl C X.env) fp) ifs tt)
    (he : ∀ (s : Shared) (H : Hp) (C : Addr) (cl : List (PySem.Str × Addr)) (fp : List Addr), PE (X.blk s H scope (compEnvC scope cl C X.env) fp) elt te) (hs : ∀ x, foldedSetIterable iter X.env x = pure x := by intro _; rfl) :
    PE X (.SetComp elt [⟨tg, iter, ifs, 0⟩] scope pos) (tSci X.w wi g tt te (own.map (·.2))) := by
  refine ⟨fun pns s σ H Q J h => ?_⟩
  rw [PpSet.eval_SetComp]
  have clo : closureFor scope X.env = pure (cloFrom X.env.cells scope.names []) := closure_ok fun y m e => (ok.free y m e).elim (fun k => J.ok.has _ (.inl k)) fun k => J.ok.has _ (.inr k)
  refine wpAny_comprehension_free (use := none) rfl hs clo ok.kind (fun y m e => (ok.uniq y m).trans (by rw [e])) (thn (hi.run pns s σ H _ J h) fun v0 z0 k0 => thn k0 fun v1 s2 ⟨it, fp, tn, G, H2, ev, J2, T, on, off, q⟩ => ?_)
  subst ev
  refine PpSet.newSet_ok (newEnv_comp ?_)
  -- the set, at the heap's end
  have free : H2 s2.heap.objs.size = none := J2.hok.fresh (Nat.le_refl _)
  obtain ⟨W, ⟨m0, w0⟩, turn⟩ := q _ free
  have J3 := J2.laid (a := s2.heap.objs.size) (t' := s2.toks) (fun b o e => Heap.get?_push_of_some { cls := .type "set", dict := none, data := .set #[] 0 (.fresh 0 0 (!X.w.params.followText "set-order")) } e) (Nat.le_refl _) (setO_new (setR_fresh X.w))
  generalize eD : s2.heap.objs.size = D at free w0 turn J3 ⊢
  generalize e3 : ({ s2 with heap := s2.heap.push { cls := .type "set", dict := none, data := .set #[] 0 (.fresh 0 0 (!X.w.params.followText "set-order")) } } : Shared) = s3 at J3 ⊢
  have up3 : ∀ b o, s2.heap.get? b = some o → s3.heap.get? b = some o := fun b o e => by rw [← e3]; exact Heap.get?_push_of_some _ e
  generalize eH : upd H2 D (SetO X.w D (fun _ => false) 0) = H3 at w0 J3 ⊢
  have fp3 : ∀ b ∈ fp, FpOk X pns H3 b ∧ b < s3.heap.objs.size := fun b hb => by
    obtain ⟨o, e, _⟩ := T.obj _ _ on b hb
    have lt := Heap.lt_size e
    exact ⟨⟨by rw [← eH, upd_ne (by rw [← eD]; exact Nat.ne_of_lt lt)]; exact (off b hb).1, (off b hb).2⟩, Heap.lt_size (up3 b o e)⟩
  have on3 : tn 0 s3.heap := T.keep _ _ _ on fun b _ o e => up3 b o e
  -- the block's own context
  have B0 := block_start J3 ok hN fp3
  have gg := hg s3 H3 s3.heap.objs.size (cellsFrom (s3.heap.objs.size + 1) scope.names (cloFrom X.env.cells scope.names [])) fp
  have gt := ht s3 H3 s3.heap.objs.size (cellsFrom (s3.heap.objs.size + 1) scope.names (cloFrom X.env.cells scope.names [])) fp
  have ge := he s3 H3 s3.heap.objs.size (cellsFrom (s3.heap.objs.size + 1) scope.names (cloFrom X.env.cells scope.names [])) fp
  show codeAny _ _ (.compStart (.SetComp elt [⟨tg, iter, ifs, 0⟩] scope pos) 0 (.ref it) (.ref D) (compEnvC scope (cellsFrom (s3.heap.objs.size + 1) scope.names (cloFrom X.env.cells scope.names [])) s3.heap.objs.size X.env)) (compPost (model X.prog X.w) X.A X.xe none (EP X pns σ Q) (.ref D) s3.heap.objs.size) { s3 with heap := pushCells (s3.heap.push { cls := .type "dict", data := .dict #[] }) scope.names }
  generalize eC : compEnvC scope (cellsFrom (s3.heap.objs.size + 1) scope.names (cloFrom X.env.cells scope.names [])) s3.heap.objs.size X.env = env at B0 gg gt ge ⊢
  have eL : env.locals = s3.heap.objs.size := by rw [← eC]; rfl
  generalize e4 : ({ s3 with heap := pushCells (s3.heap.push { cls := .type "dict", data := .dict #[] }) scope.names } : Shared) = s4 at B0 ⊢
  have on4 : tn 0 s4.heap := T.keep _ _ _ on3 fun b _ o e => by rw [← e4]; exact pushCells_keeps _ _ _ _ (Heap.get?_push_of_some _ e)
  have fpB : ∀ {τ : L2.St} {G' : Hp} {z : Shared}, Inv (X.blk s3 H3 scope env fp) [] τ G' z → (∀ b ∈ fp, G' b = none) → ∀ b ∈ fp, FpOk (X.blk s3 H3 scope env fp) [] G' b := fun {τ G' z} B n b hb =>
    ⟨n b hb, (B.ok.exf b hb).1, B.ok.exfs b hb, .inl hb, fun x c e => (B.ok.exf b hb).2 x c e, fun p hp => absurd (show p ∈ ([] : List (Addr × Obj)) ++ [] from hp) (by simp)⟩
  have main : codeAny (model X.prog X.w) X.A (.compLoop (.SetComp elt [⟨tg, iter, ifs, 0⟩] scope pos) 0 (.ref it) (.ref D) env) (compPost (model X.prog X.w) X.A X.xe none (EP X pns σ Q) (.ref D) s3.heap.objs.size) s4 := by
    refine PpSet.compLoopS_any (fun n z => ∃ i G', Inv (X.blk s3 H3 scope env fp) [] (wipe σ (own.map (·.2))) G' z ∧ tn i z.heap ∧ (∀ b ∈ fp, G' b = none) ∧ W i n G') ?_ m0 ⟨0, H3, B0, on4, fun b hb => (fp3 b hb).1.1, w0⟩
    rintro n z ⟨i, G5, B5, on5, n5, w5⟩
    rcases turn i n G5 w5 with ⟨end', qe⟩ | ⟨more, Nx, less, step⟩
    · refine thnF (T.done (X.blk s3 H3 scope env fp) rfl rfl rfl hc i [] z _ G5 (fun _ _ => False) B5 (fpB B5 n5) on5 end') fun r z6 ⟨er, B6⟩ => ?_
      subst er
      have J6 : Inv X pns σ G5 z6 := J3.call' (ch := fp) B6.os B6.base B6.hok B6.bare fun b hb => ⟨(fp3 b hb).1.2.2.2.1, (fp3 b hb).1.2.1, (fp3 b hb).1.2.2.2.2.1, (fp3 b hb).1.2.2.2.2.2⟩
      have nC : G5 s3.heap.objs.size = none := eL ▸ (show G5 env.locals = none from B6.free)
      obtain ⟨mm, hn, _⟩ := B6.loc
      have hn' : z6.heap.Ns s3.heap.objs.size mm := eL ▸ (show z6.heap.Ns env.locals mm from hn)
      obtain ⟨c0, c1, c2, c3, c4, c5⟩ := J3.fpOk (Nat.le_refl _) nC
      exact ⟨mm, hn', fun g sb => ⟨.ref D, G5, J6.turned (t' := z6.toks) (fun b o nb e => (sb.2 b nb).trans e) c0 c1 c3 c4 c5, rfl, qe⟩⟩
    · refine thnF (T.item (X.blk s3 H3 scope env fp) rfl rfl rfl hc i [] z _ G5 (fun _ _ => False) B5 (fpB B5 n5) on5 more) fun r z6 ⟨u, er, k6⟩ => ?_
      subst er
      refine thnF k6 fun _ z7 ⟨x, G7, B7, r7, y7, on7, n7⟩ => ?_
      refine thnF (gg.run _ z7 _ G7 x u _ (B7.pinned (fpB B7 n7) (T.obj _ _ on7)) r7 (step x G7 y7)) fun _ z8 ⟨σ8, G8, B8, wp8, q8⟩ => ?_
      refine thnF (gt.run _ z8 σ8 G8 _ B8 q8) fun b z9 ⟨G9, B9, q9⟩ => ?_
      have next : ∀ {z' : Shared} {G' : Hp}, Inv (X.blk s3 H3 scope env fp) ([] ++ pinsAt fp z7.heap) σ8 G' z' → Nx G' → ∃ m, m < n ∧ ∃ i G', Inv (X.blk s3 H3 scope env fp) [] (wipe σ (own.map (·.2))) G' z' ∧ tn i z'.heap ∧ (∀ b ∈ fp, G' b = none) ∧ W i m G' := fun {z' G'} B nx => by
        obtain ⟨m', lt, w'⟩ := less G' nx
        have held : ∀ b ∈ fp, ∀ o, z7.heap.get? b = some o → z'.heap.get? b = some o ∧ G' b = none := fun b hb o e => let k := B.pin (b, o) (List.mem_append_right _ (List.mem_append_right _ (mem_pinsAt hb e))); ⟨k.1, k.2.1⟩
        refine ⟨m', lt, i + 1, G', (B.unpinned (pins := [])).weak (by rw [← wp8, wipe_length]) (fun j v e => (wipe_some (wp8 ▸ e)).1), T.keep _ _ _ on7 fun b hb o e => (held b hb o e).1, fun b hb => ?_, w'⟩
        obtain ⟨o, e, _⟩ := T.obj _ _ on7 b hb
        exact (held b hb o e).2
      cases b with
      | false => exact next B9 (by simpa using q9)
      | true =>
        rw [if_pos rfl] at q9
        refine thnF (ge.run _ z9 σ8 G9 _ B9 q9) fun a z10 ⟨yv, G10, B10, r10, k, S, nn, ey, eD', few, nx⟩ => ?_
        subst ey
        obtain ⟨t, rfl⟩ := r10
        exact add_int (X := X.blk s3 H3 scope env fp) B10 eD' few fun z11 B11 => next B11 nx
  exact PpSet.codeAny_compStart_set main (T.self X.A 0 _ _ _ on4 main)
end
end Tb
namespace Vk
open PySem PySem.Spec PyProof.Rows L2

/-! ## reading, one step at a time -/
section
variable {K : PySem.W.Frag} {D : Ends} {σ : L2.St} {H : Hp} {Q : VK} {t u : TS} {te ta tb tc : TE} {g : TG} {i : Nat} {v x y : V} {r r' : R2}
theorem rd_seq (h : t { D with nx := u D } σ H) : tSeq t u D σ H := h
theorem rd_asg (h : te σ H fun x H1 => g x σ H1 D.nx) : tAsg te g D σ H := h
theorem rd_ret (h : te σ H D.rt) : tRet te D σ H := h
theorem rd_drop (h : te σ H fun _ H1 => D.nx σ H1) : tDrop te D σ H := h
theorem rd_nx (h : D.nx σ H) : tNext D σ H := h
theorem rd_nm {Qg : L2.St → Hp → Prop} (h : Qg (σ.set i (some v)) H) : gName i v σ H Qg := h
theorem rd_var (h : σ[i]? = some (some v)) (q : Q v H) : tVar i σ H Q := ⟨v, h, q⟩
theorem rd_c (q : Q v H) : tC v σ H Q := q
theorem rd_op (h : ta σ H fun x H1 => tb σ H1 fun y H2 => r x y H2 Q) : tOp r ta tb σ H Q := h
theorem rd_un {ru : V → Hp → VK → Prop} (h : ta σ H fun x H1 => ru x H1 Q) : tUn ru ta σ H Q := h
theorem rd_i0 {g : Int → Int → V} {a b : Int} (q : Q (g a b) H) : rI0 g (.int a) (.int b) H Q := ⟨a, b, rfl, rfl, q⟩
theorem rd_i {C : Int → Int → Prop} {g : Int → Int → V} {a b : Int} (c : C a b) (q : Q (g a b) H) : rI C g (.int a) (.int b) H Q := ⟨a, b, rfl, rfl, c, q⟩
theorem rd_u {g : Int → V} {a : Int} (q : Q (g a) H) : rU g (.int a) H Q := ⟨a, rfl, q⟩
theorem rd_eq (h : scal x y = true) (q : Q (.bl (decide (x = y))) H) : rEq x y H Q := ⟨h, q⟩
theorem rd_ne (h : scal x y = true) (q : Q (.bl (!decide (x = y))) H) : rNe x y H Q := ⟨h, q⟩
theorem rd_test {Qt : Bool → Hp → Prop} (h : te σ H fun x H' => ∃ k, x = .bl k ∧ Qt k H') : tTest te σ H Qt := h
theorem rd_tb {Qt : Bool → Hp → Prop} (h : te σ H fun x H' => ∃ k, x = .bl k ∧ Qt k H') : tB te σ H Qt := h
theorem rd_bl {b : Bool} {R : Bool → Prop} (h : R b) : ∃ k, V.bl b = .bl k ∧ R k := ⟨b, rfl, h⟩
theorem rd_2 {b : Bool} {A B : Prop} (h1 : b = true → A) (h2 : b = false → B) : if b = true then A else B := by
  cases b with
  | true => exact iteT (h1 rfl)
  | false => exact iteF (h2 rfl)
theorem rd_chain (h : ta σ H fun x H1 => tb σ H1 fun y H2 => r x y H2 fun z H3 => ∃ k, z = .bl k ∧ (if k = true then tc σ H3 fun w' H4 => r' y w' H4 Q else Q (.bl false) H3)) : tChain r r' ta tb tc σ H Q := h
theorem rd_ifs {c : TT} (h : c σ H fun b H1 => if b = true then t D σ H1 else u D σ H1) : tIfS c t u D σ H := h
theorem rd_ife {c : TT} (h : c σ H fun b H1 => if b = true then ta σ H1 Q else tb σ H1 Q) : tIf c ta tb σ H Q := h
theorem rd_and {a b : TT} {Qt : Bool → Hp → Prop} (h : a σ H fun c H1 => if c = true then b σ H1 Qt else Qt false H1) : tAnd a b σ H Qt := h
theorem rd_or {a b : TT} {Qt : Bool → Hp → Prop} (h : a σ H fun c H1 => if c = true then Qt true H1 else b σ H1 Qt) : tOr a b σ H Qt := h
theorem rd_not {a : TT} {Qt : Bool → Hp → Prop} (h : a σ H fun c H1 => Qt (!c) H1) : tNot a σ H Qt := h
theorem rd_andV (h : ta σ H fun x H1 => ∃ c, x = .bl c ∧ if c = true then tb σ H1 Q else Q (.bl false) H1) : tAndV ta tb σ H Q := h
theorem rd_orV (h : ta σ H fun x H1 => ∃ c, x = .bl c ∧ if c = true then Q (.bl true) H1 else tb σ H1 Q) : tOrV ta tb σ H Q := h
theorem rd_notV (h : ta σ H fun x H1 => ∃ c, x = .bl c ∧ Q (.bl (!c)) H1) : tNotV ta σ H Q := h
theorem rd_yes {Qt : Bool → Hp → Prop} (h : Qt true H) : tYes σ H Qt := h
theorem rd_nil {Qa : List V → Hp → Prop} (q : Qa [] H) : tNil σ H Qa := q
theorem rd_cons {tr : TA} {Qa : List V → Hp → Prop} (h : ta σ H fun x H1 => tr σ H1 fun xs H2 => Qa (x :: xs) H2) : tCons ta tr σ H Qa := h
theorem rd_call {sp : Sp} {dvs : List V} {E : XK} {tl : TA} (h : tl σ H fun vs H1 => sp (vs ++ dvs) H1 Q E) : tCall sp dvs E tl σ H Q := h
theorem rd_cb {rc : List V → Hp → VK → Prop} {tl : TA} (h : tl σ H fun vs H1 => rc vs H1 Q) : tCB rc tl σ H Q := h
theorem rd_sub {to ti : TE} {ts : TSet} {Qg : L2.St → Hp → Prop} (h : to σ H fun o H1 => ti σ H1 fun i H2 => ts o i v H2 fun H3 => Qg σ H3) : gSub to ti ts v σ H Qg := h
theorem rd_tup {tl : TA} (h : tl σ H fun xs H1 => xs.length ≤ sizeLine ∧ ∀ p, H1 p = none → Q (.ref p) (upd H1 p (.tup xs))) : tTup tl σ H Q := h
theorem rd_lst {tl : TA} (h : tl σ H fun xs H1 => xs.length ≤ sizeLine ∧ ∀ p, H1 p = none → Q (.ref p) (upd H1 p (.lst xs))) : tLst tl σ H Q := h
theorem rd_ixl {p : Addr} {xs : List V} {a : Int} (h : SqL K H p xs) (e : atI xs a = some v) (q : Q v H) : rIxL K (.ref p) (.int a) H Q := ⟨p, xs, a, v, rfl, rfl, h, e, q⟩
theorem rd_ixt {p : Addr} {xs : List V} {a : Int} (h : SqT K H p xs) (e : atI xs a = some v) (q : Q v H) : rIxT K (.ref p) (.int a) H Q := ⟨p, xs, a, v, rfl, rfl, h, e, q⟩
theorem rd_setl {p : Addr} {xs : List V} {a : Int} {j : Nat} {Qh : Hp → Prop} (h : H p = some (.lst xs)) (e : ixN xs.length a = some j) (q : Qh (upd H p (.lst (xs.set j v)))) : rSetL (.ref p) (.int a) v H Qh := ⟨p, xs, a, j, rfl, rfl, h, e, q⟩
theorem rd_T {A B : Prop} (h : A) : if true = true then A else B := iteT h
theorem rd_Tt {b : Bool} {A B : Prop} (e : b = true) (h : A) : if b = true then A else B := (if_pos e).symm ▸ h
theorem rd_Ff {b : Bool} {A B : Prop} (e : b = false) (h : B) : if b = true then A else B := (if_neg (by rw [e]; exact Bool.false_ne_true) : (if b = true then A else B) = B).symm ▸ h
theorem rd_F {A B : Prop} (h : B) : if false = true then A else B := iteF h
end

/-! ## further rules -/
theorem room64 {k : Nat} {A : Around} {e : Env} (hr : Room k (A.deeper e)) : (A.deeper e).units + 64 < cLine := hr.units
section
variable {X : Cx}
theorem call_repr_bl : CallR X (.builtin "repr") (fun xs H Q => ∃ b : Bool, xs = [.bl b] ∧ Q (.str (if b then "True" else "False")) H) := by
  intro ps s σ H xs us Q I rel h
  obtain ⟨b, rfl, q⟩ := h
  obtain ⟨u0, rfl, e⟩ := vals1 rel
  cases (show u0 = Value.bool b from e)
  exact PySem.P.repr_of_bool ⟨.str (if b then "True" else "False"), H, I.tok _, ⟨_, rfl⟩, q⟩
/-- only keywords -/
theorem pe_callK0 {CX : CXT} {k : Nat} {f : Addr} {fd : FuncData} {ps ks : List Str} {sp : Sp} {E : XK} {nm : Str} {p0 pos : Pos} {kws : List Keyword} {tk : TA} {g : List Value → List Value → List Value} {gV : List V → List V → List V}
    (F : FnOk X.prog X.w X.K X.mg X.base CX k f fd ps sp) (room : Room k X.A) (isg : Gl X nm) (hm : X.mg nm = some (.ref f)) (kp : PySem.W.keepIn X.K (.ref f) = true) (kb : KBinds X.K fd ps ks g gV) (pa : Passes CX X E)
    (hkw : PK X kws tk) (h1 : (backToKw pos (keywordEach kws X.env)).all (·.1.isSome) = true := by rfl) (h2 : (backToKw pos (keywordEach kws X.env)).filterMap (·.1) = ks := by rfl)
    (h3 : (nm == ("__debug__" : Str)) = false := by decide) (h4 : ((backTo pos (starEach [] X.env)).any (·.1) || (backToKw pos (keywordEach kws X.env)).any (·.1.isNone)) = false := by rfl) :
    PE X (.Call (.Name nm p0) [] kws pos) (tCallK sp gV E tNil tk) :=
  ⟨fun pins s σ H Q I hw => wpAny_Call_Name_kw (ld_glob I isg hm (PySem.W.callWith_KW0 (h₀ := X.base) I.ok.mod.kin kp h1
    (thn (hkw.run pos pins s σ H _ I hw) fun ws s2 ⟨zs, H2, I2, rz, q2⟩ => ⟨I2.kIn, h2 ▸ run_fnk (us := []) (vs := []) F room kb pa I2 .nil rz q2⟩) h4) h3)⟩
end
theorem rd_callK {σ : L2.St} {H : Hp} {Q : VK} {sp : Sp} {gV : List V → List V → List V} {E : XK} {t tk : TA} (h : t σ H fun vs H1 => tk σ H1 fun zs H2 => sp (gV vs zs) H2 Q E) : tCallK sp gV E t tk σ H Q := h
abbrev kCat : List Value → List Value → List Value := fun us ws => us ++ ws
abbrev kCatV : List V → List V → List V := fun us ws => us ++ ws

/-! ## heaps: what a call that touches one list leaves -/
/-- all but the objects at B is as it was -/
def But (B : List Addr) (H H' : Hp) : Prop := ∀ b o, b ∉ B → H b = some o → H' b = some o
theorem But.refl {B : List Addr} {H : Hp} : But B H H := fun _ _ _ h => h
theorem But.trans {B : List Addr} {H H1 H2 : Hp} (e : But B H H1) (f : But B H1 H2) : But B H H2 := fun b o n h => f b o n (e b o n h)
theorem But.wide {B B' : List Addr} {H H' : Hp} (e : But B H H') (s : ∀ b, b ∉ B' → b ∉ B) : But B' H H' := fun b o n h => e b o (s b n) h
theorem But.of {B : List Addr} {H H' : Hp} (e : Same H H') : But B H H' := fun b o _ h => e b o h
theorem But.set {B : List Addr} {a : Addr} {H H' : Hp} {o : HO} (e : But B H H') (m : a ∈ B) : But B H (upd H' a o) := fun b u n h =>
  (upd_ne (fun z => n (by rw [z]; exact m))).trans (e b u n h)
theorem But.new {B : List Addr} {p : Addr} {H H' : Hp} {o : HO} (e : But B H H') (n : H' p = none) : But B H (upd H' p o) := fun b u nb h =>
  (upd_ne (ne_of_none (e b u nb h) n)).trans (e b u nb h)
/-- an object that H does not know may change -/
theorem But.mut {B : List Addr} {p : Addr} {H H' : Hp} {o : HO} (e : But B H H') (n : H p = none) : But B H (upd H' p o) := fun b u nb h =>
  (upd_ne (ne_of_none h n)).trans (e b u nb h)
theorem same_of_but {B : List Addr} {H H' : Hp} (e : But B H H') (n : ∀ p, p ∈ B → H p = none) : Same H H' := fun b o h => e b o (fun m => by rw [n b m] at h; cases h) h
theorem same_mut {H H' : Hp} {p : Addr} {o : HO} (e : Same H H') (n : H p = none) : Same H (upd H' p o) := fun b u h => (upd_ne (ne_of_none h n)).trans (e b u h)
theorem same_new {H : Hp} {p : Addr} {o : HO} (h : H p = none) : Same H (upd H p o) := fun b u e => (upd_ne (ne_of_none e h)).trans e
theorem But.seqL {K : PySem.W.Frag} {B : List Addr} {b : Addr} {H H' : Hp} {xs : List V} (e : But B H H') (n : b ∉ B) (h : SqL K H b xs) : SqL K H' b xs := by
  rcases h with (h | ⟨o, h⟩) | h
  · exact .inl (.inl (e _ _ n h))
  · exact .inl (.inr ⟨o, e _ _ n h⟩)
  · exact .inr h
/-- what stood is not among new objects -/
theorem But.seqL' {K : PySem.W.Frag} {B : List Addr} {b : Addr} {H H' : Hp} {xs : List V} (e : But B H H') (n : ∀ p, p ∈ B → H p = none) (h : SqL K H b xs) : SqL K H' b xs := by
  rcases h with (h | ⟨o, h⟩) | h
  · exact .inl (.inl (e _ _ (fun m => by rw [n _ m] at h; cases h) h))
  · exact .inl (.inr ⟨o, e _ _ (fun m => by rw [n _ m] at h; cases h) h⟩)
  · exact .inr h
theorem same_sqT {K : PySem.W.Frag} {H H' : Hp} {a : Addr} {xs : List V} (e : Same H H') (h : SqT K H a xs) : SqT K H' a xs := by
  rcases h with (h | ⟨o, h⟩) | h
  · exact .inl (.inl (e _ _ h))
  · exact .inl (.inr ⟨o, e _ _ h⟩)
  · exact .inr h
theorem But.free {B : List Addr} {H H' : Hp} {p : Addr} (e : But B H H') (n : p ∉ B) (h : H' p = none) : H p = none := by
  cases q : H p with
  | none => rfl
  | some o =>
    rw [e p o n q] at h
    cases h
/-- a pool of draws: three ints -/
def Pool (H : Hp) (a : Addr) : Prop := ∃ x d c : Int, H a = some (.lst [.int x, .int d, .int c])
theorem Pool.same {H H' : Hp} {a : Addr} (e : Same H H') (h : Pool H a) : Pool H' a := let ⟨x, d, c, h⟩ := h; ⟨x, d, c, e _ _ h⟩
theorem Pool.but {B : List Addr} {H H' : Hp} {a : Addr} (e : But B H H') (n : a ∉ B) (h : Pool H a) : Pool H' a := let ⟨x, d, c, h⟩ := h; ⟨x, d, c, e _ _ n h⟩
theorem Pool.ne {H : Hp} {a p : Addr} (h : Pool H a) (n : H p = none) : p ≠ a := fun e => by
  obtain ⟨x, d, c, h⟩ := h
  rw [e, h] at n
  cases n
theorem Pool.new {H : Hp} {a p : Addr} {o : HO} (h : Pool H a) (n : H p = none) : Pool (upd H p o) a := h.same (same_new n)
theorem Pool.upd {H : Hp} {a p : Addr} {o : HO} (h : Pool H a) (n : a ≠ p) : Pool (L2.upd H p o) a := let ⟨x, d, c, h⟩ := h; ⟨x, d, c, (upd_ne n).trans h⟩
theorem le_line {n : Nat} (h : n ≤ 1000) : n ≤ sizeLine := Nat.le_of_lt (small1000 h)
theorem atI_lt {α : Type} {xs : List α} {r : Int} (h0 : 0 ≤ r) (h1 : r < xs.length) : ∃ v, atI xs r = some v ∧ v ∈ xs := by
  obtain ⟨n, rfl⟩ := Int.eq_ofNat_of_zero_le h0
  have hn : n < xs.length := by omega
  exact ⟨xs[n], atI_nat (List.getElem?_eq_getElem hn), List.getElem_mem hn⟩
theorem ixN_lt {n : Nat} {r : Int} (h0 : 0 ≤ r) (h1 : r < n) : ixN n r = some r.toNat := by
  unfold ixN
  rw [if_pos h0, if_pos h1]
/-- some stretch of a list of ints is one -/
theorem cut_ints (ns : List Int) (lo hi : Option Int) : ∃ ms : List Int, cutV (ns.map V.int) lo hi = ms.map V.int :=
  ⟨_, by unfold cutV; rw [← List.map_drop, ← List.map_take]⟩
theorem mem_ints {ms : List Int} {i : Nat} {x : V} (h : (ms.map V.int)[i]? = some x) : ∃ n, x = .int n := by
  rw [List.getElem?_map] at h
  cases e : ms[i]? with
  | none => rw [e] at h; cases h
  | some n => rw [e] at h; cases h; exact ⟨n, rfl⟩
/-- a divisor below 2 ^ 64 is C's -/
theorem divp_small {i j : Int} (h0 : 0 < j) (h1 : j < 18446744073709551616) : CDivP i j := by
  refine ⟨h0, ?_⟩
  have hl : j.natAbs.log2 < 64 := by
    have hn : j.natAbs ≠ 0 := by omega
    exact (Nat.log2_lt hn).mpr (by omega)
  have hj : ¬ (j == 0) = true := by simpa using (show j ≠ 0 by omega)
  have hd : decide (j.natAbs.log2 / 30 + 1 > 300) = false := decide_eq_false (by omega)
  show (decide ((if (j == 0) = true then 0 else j.natAbs.log2 / 30 + 1) > 300) && _) = false
  rw [if_neg hj, hd, Bool.false_and]
end Vk
namespace Tb
open PySem PySem.Spec PyProof.Rows L2 Vk RZ
theorem ps_never {X : Cx} {st : Stmt} : PS X st (fun _ _ _ => False) := ⟨fun _ _ _ _ _ _ h => h.elim⟩
theorem ix_tupK {X : Cx} {K : PySem.W.Frag} (h : X.K = K) : IxR X (rIxT K) := h ▸ ix_tup
theorem ix_listK {X : Cx} {K : PySem.W.Frag} (h : X.K = K) : IxR X (rIxL K) := h ▸ ix_list
theorem pg_tupK {X : Cx} {K : PySem.W.Frag} {es : List Expr} {k : Nat} {pos : Pos} {t : TGs} {n : Nat} (e : X.K = K) (hc : X.calm = true) (h : PGs X es t) (hn : (assignEach es X.env).length = n := by rfl)
    (hst : (assignEach es X.env).findIdx? (·.1) = none := by rfl) : PG X (.Tuple es k pos) (gTup K n t) := e ▸ pg_tup hc h hn hst
/-- (..) known to be bare -/
def tTupF (t : TA) : TE := fun σ H Q => t σ H fun xs H1 => xs.length ≤ sizeLine ∧ ∀ p o, H1 p = none → o.dict = none → Q (.ref p) (upd H1 p (.frz o (.tup xs)))
theorem pe_tupF {X : Cx} {es : List Expr} {pos : Pos} {k : Nat} {t : TA} (h : PA X es t) : PE X (.Tuple es k pos) (tTupF t) :=
  ⟨fun pns s σ H Q I q => wpAny_Tuple_spliced (thn (h.run pos pns s σ H _ I q) fun us z ⟨xs, H1, I1, r, few, k⟩ =>
    ⟨by rw [← r.length]; exact few, .ref z.heap.objs.size, upd H1 z.heap.objs.size (.frz { cls := .type "tuple", data := .seq us.toArray } (.tup xs)), I1.laid (t' := z.toks) (fun b u e => Heap.get?_push_of_some _ e) (Nat.le_refl _) ⟨Heap.get?_push_size _ rfl, few, us, r, _, Heap.get?_push_size _ rfl, rfl, _, rfl⟩, rfl, k _ _ (I1.hok.fresh (Nat.le_refl _)) rfl⟩)⟩
theorem rd_tupF {σ : L2.St} {H : Hp} {Q : VK} {t : TA} (h : t σ H fun xs H1 => xs.length ≤ sizeLine ∧ ∀ p o, H1 p = none → o.dict = none → Q (.ref p) (upd H1 p (.frz o (.tup xs)))) : tTupF t σ H Q := h
/-- keywords in the other turn -/
abbrev kSw : List Value → List Value → List Value := fun us ws => us ++ ws.reverse
abbrev kSwV : List V → List V → List V := fun us ws => us ++ ws.reverse
theorem vals_rev : ∀ {xs : List V} {us : List Value}, Vals xs us → Vals xs.reverse us.reverse
  | _, _, .nil => .nil
  | _, _, .cons h t => by
    rw [List.reverse_cons, List.reverse_cons]
    exact (vals_rev t).append (.cons h .nil)
/-! ### a tuple of pairs of ints in the heap -/
def Rw (H : Hp) (t : Addr) (p : Int × Int) : Prop := H t = some (.tup [.int p.1, .int p.2])
structure PT (H : Hp) (a : Addr) (ts : List Addr) (L : Tb) : Prop where
  at' : ∃ o : Obj, o.dict = none ∧ H a = some (.frz o (.tup (ts.map V.ref)))
  rows : Paired (Rw H) ts L
theorem prd_same {H H' : Hp} (e : Same H H') : ∀ {ts : List Addr} {L : Tb}, Paired (Rw H) ts L → Paired (Rw H') ts L
  | _, _, .nil => .nil
  | _, _, .cons h t => .cons (e _ _ h) (prd_same e t)
theorem prd_len {α β : Type} {F : α → β → Prop} : ∀ {xs : List α} {ys : List β}, Paired F xs ys → xs.length = ys.length
  | _, _, .nil => rfl
  | _, _, .cons _ t => congrArg (· + 1) (prd_len t)
theorem prd_at {α β : Type} {F : α → β → Prop} : ∀ {xs : List α} {ys : List β}, Paired F xs ys → ∀ {i : Nat} {x : α}, xs[i]? = some x → ∃ y, ys[i]? = some y ∧ F x y
  | _, _, .cons h t, 0, x, e => ⟨_, rfl, (Option.some.inj e) ▸ h⟩
  | _, _, .cons h t, i + 1, x, e => prd_at t (i := i) (by simpa using e)
theorem prd_app {α β : Type} {F : α → β → Prop} {xs' : List α} {ys' : List β} : ∀ {xs : List α} {ys : List β}, Paired F xs ys → Paired F xs' ys' → Paired F (xs ++ xs') (ys ++ ys')
  | _, _, .nil, h => h
  | _, _, .cons a t, h => .cons a (prd_app t h)
theorem PT.same {H H' : Hp} {a : Addr} {ts : List Addr} {L : Tb} (e : Same H H') (p : PT H a ts L) : PT H' a ts L := ⟨let ⟨o, d, h⟩ := p.at'; ⟨o, d, e _ _ h⟩, prd_same e p.rows⟩
theorem PT.sq {K : PySem.W.Frag} {H : Hp} {a : Addr} {ts : List Addr} {L : Tb} (p : PT H a ts L) : SqT K H a (ts.map V.ref) := let ⟨o, _, h⟩ := p.at'; .inl (.inr ⟨o, h⟩)
theorem PT.len {H : Hp} {a : Addr} {ts : List Addr} {L : Tb} (p : PT H a ts L) : ts.length = L.length := prd_len p.rows
theorem PT.row {H : Hp} {a : Addr} {ts : List Addr} {L : Tb} (p : PT H a ts L) {i : Nat} {t : Addr} (h : ts[i]? = some t) : ∃ r, L[i]? = some r ∧ H t = some (.tup [.int r.1, .int r.2]) := prd_at p.rows h
/-- what only a pool may change -/
theorem PT.but {H H' : Hp} {a q : Addr} {ts : List Addr} {L : Tb} (e : But [q] H H') (hq : Pool H q) (p : PT H a ts L) : PT H' a ts L := by
  obtain ⟨x, d, c, hp⟩ := hq
  have ne : ∀ b u, H b = some u → (∀ zs, u ≠ .lst zs) → H' b = some u := fun b u h n => e b u (fun m => by rw [List.mem_singleton.mp m, hp] at h; exact n _ (Option.some.inj h).symm) h
  refine ⟨let ⟨o, d, h⟩ := p.at'; ⟨o, d, ne _ _ h fun zs z => by cases z⟩, ?_⟩
  have : ∀ {ts : List Addr} {L : Tb}, Paired (Rw H) ts L → Paired (Rw H') ts L := fun {ts L} r => by
    induction r with
    | nil => exact .nil
    | cons h _ ih => exact .cons (ne _ _ h fun zs z => by cases z) ih
  exact this p.rows
theorem prd_sq {K : PySem.W.Frag} {H : Hp} : ∀ {ts : List Addr} {L : Tb}, Paired (Rw H) ts L → Paired (fun p kv => SqT K H p [kV kv.1, kv.2]) ts (kvT L)
  | _, _, .nil => .nil
  | _, _, .cons h t => .cons (.inl (.inl h)) (prd_sq t)
/-- as data -/
def dat (L : Tb) : List PyData := L.map fun p => .tuple [.int p.1, .int p.2]
theorem prd_dp {K : PySem.W.Frag} {H : Hp} : ∀ {ts : List Addr} {L : Tb}, Paired (Rw H) ts L → DpAll K H (ts.map V.ref) (dat L)
  | _, _, .nil => .nil
  | _, _, .cons h t => .cons (.tup (.inl (.inl h)) (.cons (.int _) (.cons (.int _) .nil))) (prd_dp t)
theorem PT.dp {K : PySem.W.Frag} {H : Hp} {a : Addr} {ts : List Addr} {L : Tb} (p : PT H a ts L) : Dp K H (.ref a) (.tuple (dat L)) := .tup p.sq (prd_dp p.rows)
theorem wipe_at {σ : L2.St} {k : Nat} : (∀ x : V, wipe ((wipe σ [k]).set k (some x)) [k] = wipe σ [k]) := fun x => by simp [wipe, List.set_set]
/-! ### comprehensions -/
section
variable {K : PySem.W.Frag} {a : Addr} {xs ys : List V} {te : TE} {k : Nat} {σ : L2.St} {H1 : Hp} {D : Addr} {Qd : Hp → Prop}
theorem lcq_tup (nD : H1 D = none) (hL : SqT K H1 a xs) (hn : xs.length = ys.length) (small : ys.length ≤ 1000) (hte : ∀ (i : Nat) (x y : V) (H : Hp) (R : VK), xs[i]? = some x → ys[i]? = some y → Same H1 H → (∀ H2, Same H H2 → R y H2) → te ((wipe σ [k]).set k (some x)) H R)
    (hd : ∀ H, Same H1 H → H D = some (.lst ys) → Qd H) : ∃ W : Nat → Nat → Hp → Prop, (∃ m, W 0 m (upd H1 D (.lst []))) ∧ ∀ i m H, W i m H → ((Itt K a).stop i H ∧ Qd H) ∨ ((Itt K a).go i H ∧ ∃ Nx : Hp → Prop, (∀ H', Nx H' → ∃ m', m' < m ∧ W (i + 1) m' H') ∧
      ∀ x H', (Itt K a).yld i H x H' → gName k x (wipe σ [k]) H' fun σ2 H2 => wipe σ2 [k] = wipe σ [k] ∧ tYes σ2 H2 fun b H3 => if b = true then te σ2 H3 fun y H4 => ∃ acc, H4 D = some (.lst acc) ∧ acc.length < sizeLine ∧ Nx (upd H4 D (.lst (acc ++ [y]))) else Nx H3) := by
  refine lc_tup (xs := xs) (fun i H => Same H1 H ∧ H D = some (.lst (ys.take i))) ⟨same_new nD, by rw [upd_same]; rfl⟩ (fun i H _ h => same_sqT h.1 hL) (fun i x H hx h => ⟨wipe_at x, ?_⟩) (fun H h => ?_)
  · obtain ⟨s1, hD⟩ := h
    have hi : i < ys.length := hn ▸ (List.getElem?_eq_some_iff.mp hx).1
    refine rd_yes ?_
    rw [if_pos rfl]
    refine hte i x ys[i] H _ hx (List.getElem?_eq_getElem hi) s1 fun H2 s2 => ⟨ys.take i, s2 _ _ hD, small1000 (by rw [List.length_take]; omega), same_mut (s1.trans s2) nD, ?_⟩
    rw [upd_same, List.take_add_one, List.getElem?_eq_getElem hi]
    rfl
  · exact hd H h.1 (by rw [h.2, hn, List.take_length])
theorem lcq_list (nD : H1 D = none) (hL : SqL K H1 a xs) (hn : xs.length = ys.length) (small : ys.length ≤ 1000) (hte : ∀ (i : Nat) (x y : V) (H : Hp) (R : VK), xs[i]? = some x → ys[i]? = some y → Same H1 H → (∀ H2, Same H H2 → R y H2) → te ((wipe σ [k]).set k (some x)) H R)
    (hd : ∀ H, Same H1 H → H D = some (.lst ys) → Qd H) : ∃ W : Nat → Nat → Hp → Prop, (∃ m, W 0 m (upd H1 D (.lst []))) ∧ ∀ i m H, W i m H → ((Itl K a).stop i H ∧ Qd H) ∨ ((Itl K a).go i H ∧ ∃ Nx : Hp → Prop, (∀ H', Nx H' → ∃ m', m' < m ∧ W (i + 1) m' H') ∧
      ∀ x H', (Itl K a).yld i H x H' → gName k x (wipe σ [k]) H' fun σ2 H2 => wipe σ2 [k] = wipe σ [k] ∧ tYes σ2 H2 fun b H3 => if b = true then te σ2 H3 fun y H4 => ∃ acc, H4 D = some (.lst acc) ∧ acc.length < sizeLine ∧ Nx (upd H4 D (.lst (acc ++ [y]))) else Nx H3) := by
  refine lc_list (xs := xs) (fun i H => Same H1 H ∧ H D = some (.lst (ys.take i))) ⟨same_new nD, by rw [upd_same]; rfl⟩ (fun i H _ h => h.1.seq hL) (fun i x H hx h => ⟨wipe_at x, ?_⟩) (fun H h => ?_)
  · obtain ⟨s1, hD⟩ := h
    have hi : i < ys.length := hn ▸ (List.getElem?_eq_some_iff.mp hx).1
    refine rd_yes ?_
    rw [if_pos rfl]
    refine hte i x ys[i] H _ hx (List.getElem?_eq_getElem hi) s1 fun H2 s2 => ⟨ys.take i, s2 _ _ hD, small1000 (by rw [List.length_take]; omega), same_mut (s1.trans s2) nD, ?_⟩
    rw [upd_same, List.take_add_one, List.getElem?_eq_getElem hi]
    rfl
  · exact hd H h.1 (by rw [h.2, hn, List.take_length])
/-- a set of ints over a tuple -/
theorem sci_tup {w : World} {g : TG} {tt : TT} {vs : List Nat} (Pv : Nat → Hp → Prop) (h0 : Pv 0 (upd H1 D (SetO w D (fun _ => false) 0))) (hl : ∀ i H, i ≤ xs.length → Pv i H → SqT K H a xs) (hs : ∀ i x H, xs[i]? = some x → Pv i H → turnS w D g tt te vs σ (Pv (i + 1)) x H)
    (hd : ∀ H, Pv xs.length H → Qd H) : ∃ W : Nat → Nat → Hp → Prop, (∃ m, W 0 m (upd H1 D (SetO w D (fun _ => false) 0))) ∧ ∀ i m H, W i m H → ((Itt K a).stop i H ∧ Qd H) ∨ ((Itt K a).go i H ∧ ∃ Nx : Hp → Prop, (∀ H', Nx H' → ∃ m', m' < m ∧ W (i + 1) m' H') ∧
      ∀ x H', (Itt K a).yld i H x H' → turnS w D g tt te vs σ Nx x H') := by
  refine ⟨fun i m H => m + i = xs.length ∧ Pv i H, ⟨xs.length, rfl, h0⟩, fun i m H ⟨e, p⟩ => ?_⟩
  have q := hl i H (by omega) p
  by_cases lt : i < xs.length
  · refine .inr ⟨⟨xs, xs[i], q, List.getElem?_eq_getElem lt⟩, Pv (i + 1), fun H' p' => ⟨xs.length - (i + 1), by omega, by omega, p'⟩, fun x H' y => ?_⟩
    obtain ⟨rfl, y⟩ := y
    exact hs i x _ (y xs q) p
  · have : i = xs.length := by omega
    exact .inl ⟨⟨xs, q, by omega⟩, hd H (this ▸ p)⟩
end
end Tb
namespace Tb
open PySem PySem.Spec PyProof.Rows L2 Vk RZ
/-- over zip of two tuples, the second not longer -/
theorem lc_zT {K : PySem.W.Frag} {a b : Addr} {xs ys : List V} {g : TG} {tt : TT} {te : TE} {vs : List Nat} {σ : L2.St} {H1 : Hp} {D : Addr} {Qd : Hp → Prop} (sh : ys.length ≤ xs.length) (Pv : Nat → Hp → Prop) (h0 : Pv 0 (upd H1 D (.lst []))) (hq : ∀ i H, Pv i H → SqT K H a xs ∧ SqT K H b ys)
    (hs : ∀ (i : Nat) (x y : V) (T : Addr) (H : Hp), xs[i]? = some x → ys[i]? = some y → Pv i H → H T = none → g (.ref T) (wipe σ vs) (upd H T (.tup [x, y])) fun σ2 H2 => wipe σ2 vs = wipe σ vs ∧ tt σ2 H2 fun c H3 =>
      if c = true then te σ2 H3 fun z H4 => ∃ acc, H4 D = some (.lst acc) ∧ acc.length < sizeLine ∧ Pv (i + 1) (upd H4 D (.lst (acc ++ [z]))) else Pv (i + 1) H3) (hd : ∀ H, Pv ys.length H → Qd H) :
    ∃ W : Nat → Nat → Hp → Prop, (∃ m, W 0 m (upd H1 D (.lst []))) ∧ ∀ i m H, W i m H → ((ItzT K a b).stop i H ∧ Qd H) ∨ ((ItzT K a b).go i H ∧ ∃ Nx : Hp → Prop, (∀ H', Nx H' → ∃ m', m' < m ∧ W (i + 1) m' H') ∧
      ∀ x H', (ItzT K a b).yld i H x H' → g x (wipe σ vs) H' fun σ2 H2 => wipe σ2 vs = wipe σ vs ∧ tt σ2 H2 fun c H3 => if c = true then te σ2 H3 fun y H4 => ∃ acc, H4 D = some (.lst acc) ∧ acc.length < sizeLine ∧ Nx (upd H4 D (.lst (acc ++ [y]))) else Nx H3) := by
  refine ⟨fun i m H => m + i = ys.length ∧ Pv i H, ⟨ys.length, rfl, h0⟩, fun i m H ⟨e, p⟩ => ?_⟩
  obtain ⟨qx, qy⟩ := hq i H p
  by_cases lt : i < ys.length
  · have lx : i < xs.length := by omega
    refine .inr ⟨⟨xs, ys, _, _, qx, qy, List.getElem?_eq_getElem lx, List.getElem?_eq_getElem lt⟩, Pv (i + 1), fun H' p' => ⟨ys.length - (i + 1), by omega, by omega, p'⟩, fun v H' y => ?_⟩
    obtain ⟨T, x', y', rfl, hT, rfl, f1, f2⟩ := y
    exact hs i x' y' T H (f1 xs qx) (f2 ys qy) p hT
  · have : i = ys.length := by omega
    exact .inl ⟨⟨xs, ys, qx, qy, .inr (by omega)⟩, hd H (this ▸ p)⟩
theorem all_rep (n : Nat) : (List.replicate n true).all id = true := by
  rw [List.all_replicate]
  cases n <;> rfl
theorem any_rep (n : Nat) : (List.replicate n false).any id = false := by
  rw [List.any_replicate]
  cases n <;> rfl
theorem cut1 (xs : List V) : cutV xs (some 1) none = xs.drop 1 := by
  unfold cutV
  rw [HT.sIx_none, show (some (1 : Int)) = some ((1 : Nat) : Int) from rfl, HT.sIx_nat]
  rcases Nat.lt_or_ge 1 xs.length with h | h
  · rw [Nat.min_eq_left (by omega), List.take_of_length_le (by rw [List.length_drop]; omega)]
  · have : xs.drop 1 = [] := List.drop_eq_nil_of_le h
    rw [Nat.min_eq_right h, this, List.drop_length, List.take_nil]
end Tb
namespace Tb
open PySem PySem.Spec PyProof.Rows L2 Vk RZ
theorem rd_bm {K : PySem.W.Frag} {σ : L2.St} {H : Hp} {Q : VK} {T : String} {r : V → List V → Hp → VK → Prop} {to : TE} {tl : TA} (h : to σ H fun x H1 => tyV K T x H1 ∧ tl σ H1 fun xs H2 => r x xs H2 Q) : tBM K T r to tl σ H Q := h
/-- t + u, tables -/
theorem cat_ok {K : PySem.W.Frag} {H : Hp} {a b : Addr} {ts us : List Addr} {L M : Tb} {Q : VK} (p : PT H a ts L) (r : PT H b us M) (few : L.length + M.length ≤ 1000) (q : ∀ H' c, Same H H' → SqT K H' c ((ts ++ us).map V.ref) → Paired (Rw H') (ts ++ us) (L ++ M) → Q (.ref c) H') : rCatA K (.ref a) (.ref b) H Q := by
  have l1 := p.len
  have l2 := r.len
  refine ⟨a, b, _, _, rfl, rfl, p.sq, r.sq, le_line (by simp only [List.length_map]; omega), fun e => ?_, fun n e => ?_, fun n n' c nc => ?_⟩
  · have : ts = [] := List.map_eq_nil_iff.mp e
    subst this
    exact q _ _ (Same.refl _) r.sq (prd_app p.rows r.rows)
  · have : us = [] := List.map_eq_nil_iff.mp e
    subst this
    refine q _ _ (Same.refl _) (by rw [List.append_nil]; exact p.sq) (prd_app p.rows r.rows)
  · rw [← List.map_append]
    exact q _ c (same_new nc) (.inl (.inl upd_same)) (prd_same (same_new nc) (prd_app p.rows r.rows))
/-- the set of the first ones of a table's pairs -/
theorem keys_ok {w : World} {K : PySem.W.Frag} {c D : Addr} {ts : List Addr} {N : Tb} {k : Nat} {σ : L2.St} {H : Hp} {Qd : Hp → Prop} (hk : k < σ.length) (sq : SqT K H c (ts.map V.ref)) (rows : Paired (Rw H) ts N) (few : N.length ≤ 1000) (nD : H D = none)
    (hd : ∀ H' S n, Same H H' → H' D = some (SetO w D S n) → (∀ i, S i = true ↔ ∃ p ∈ N, p.1 = i) → n ≤ N.length → Qd H') :
    ∃ W : Nat → Nat → Hp → Prop, (∃ m, W 0 m (upd H D (SetO w D (fun _ => false) 0))) ∧ ∀ i m H, W i m H → ((Itt K c).stop i H ∧ Qd H) ∨ ((Itt K c).go i H ∧ ∃ Nx : Hp → Prop, (∀ H', Nx H' → ∃ m', m' < m ∧ W (i + 1) m' H') ∧
      ∀ x H', (Itt K c).yld i H x H' → turnS w D (gName k) tYes (tOp (rIxT K) (tVar k) (tC (V.int 0))) [k] σ Nx x H') := by
  have len := prd_len rows
  refine sci_tup (xs := ts.map V.ref) (fun i H' => Same H H' ∧ ∃ S n, H' D = some (SetO w D S n) ∧ (∀ j, S j = true ↔ ∃ p ∈ N.take i, p.1 = j) ∧ n ≤ i) ⟨same_new nD, _, _, upd_same, fun j => by simp, Nat.le_refl _⟩ (fun i H' _ h => same_sqT h.1 sq) (fun i x H' hx h => ?_) (fun H' h => ?_)
  · obtain ⟨s1, S, n, hD, hS, hn⟩ := h
    rw [List.getElem?_map] at hx
    obtain ⟨t, ht, rfl⟩ := Option.map_eq_some_iff.mp hx
    obtain ⟨r, hr, e⟩ := prd_at (prd_same s1 rows) ht
    have hi : i < ts.length := (List.getElem?_eq_some_iff.mp ht).1
    have hv : ((wipe σ [k]).set k (some (V.ref t)))[k]? = some (some (V.ref t)) := List.getElem?_set_self (by rw [wipe_length]; exact hk)
    refine ⟨wipe_at _, rd_yes (rd_T (rd_op (rd_var hv (rd_c (rd_ixt (.inl (.inl e)) (v := .int r.1) rfl ⟨r.1, S, n, rfl, hD, by unfold scanBound; omega, same_mut s1 nD, _, _, upd_same, fun j => ?_, ?_⟩)))))⟩
    · rw [Bool.or_eq_true, hS j, decide_eq_true_eq, List.take_add_one, hr]
      constructor
      · rintro (⟨p, m, z⟩ | z)
        · exact ⟨p, List.mem_append_left _ m, z⟩
        · exact ⟨r, List.mem_append_right _ (by simp), z.symm⟩
      · rintro ⟨p, m, z⟩
        rcases List.mem_append.mp m with m | m
        · exact .inl ⟨p, m, z⟩
        · have : p = r := by simpa using m
          exact .inr (by rw [← z, this])
    · show (if S r.1 = true then n else n + 1) ≤ i + 1
      split <;> omega
  · obtain ⟨s1, S, n, hD, hS, hn⟩ := h
    rw [List.length_map, len, List.take_length] at hS
    rw [List.length_map, len] at hn
    exact hd H' S n s1 hD hS hn
end Tb
namespace Tb
open PySem PySem.Spec PyProof.Rows L2 Vk RZ
theorem prd_but {H H' : Hp} (e : ∀ b u, H b = some u → (∀ zs, u ≠ .lst zs) → H' b = some u) : ∀ {ts : List Addr} {L : Tb}, Paired (Rw H) ts L → Paired (Rw H') ts L
  | _, _, .nil => .nil
  | _, _, .cons h t => .cons (e _ _ h fun zs z => by cases z) (prd_but e t)
theorem look_at : ∀ {L : Tb} {c : Int} {i : Nat} {r : Int × Int}, L[i]? = some r → r.1 = c → (∀ p ∈ L.take i, p.1 ≠ c) → look L c = r.2
  | q :: L, c, 0, r, h, e, _ => by
    obtain rfl := Option.some.inj h
    exact if_pos e
  | q :: L, c, i + 1, r, h, e, n => (if_neg (n q (by simp))).trans (look_at (i := i) (by simpa using h) e fun p m => n p (by simp [m]))
end Tb
namespace Tb
open PySem PySem.Spec PyProof.Rows L2 Vk RZ
theorem good_nil : Good [] := ⟨.nil, fun p h => by simp at h⟩
theorem lay_dat (L : Tb) : PyData.canLay0 (.tuple (dat L)) = true := by
  show PyData.canLayAll0 (dat L) = true
  induction L with
  | nil => rfl
  | cons p L ih =>
    show (PyData.canLay0 (.tuple [.int p.1, .int p.2]) && PyData.canLayAll0 (dat L)) = true
    rw [ih]
    rfl
theorem deep_dat (L : Tb) : PyData.depthAll (dat L) ≤ 2 := by
  induction L with
  | nil => simp [dat, PyData.depthAll]
  | cons p L ih =>
    have e : dat (p :: L) = .tuple [.int p.1, .int p.2] :: dat L := rfl
    rw [e]
    simp [PyData.depthAll, PyData.depth] at ih ⊢
    omega
theorem shaped_dat (L : Tb) : PySem.SeqAt.shaped (.tuple (dat L)) = true := by
  have h := deep_dat L
  have e : (PyData.tuple (dat L)).depth ≤ 64 := by
    simp [PyData.depth]
    omega
  unfold PySem.SeqAt.shaped
  rw [lay_dat L, decide_eq_true e]
  rfl
theorem eqv_dat (L : Tb) : PyData.eqv (.tuple (dat L)) (.tuple (dat L)) = true := PySem.SeqAt.eqv_refl _ (lay_dat L)
theorem shaped_ints (ns : List Int) : PySem.SeqAt.shaped (.list (ns.map PyData.int)) = true := by
  induction ns with
  | nil => rfl
  | cons n ns ih => exact ih
theorem eqv_ints (ns : List Int) : PyData.eqv (.list (ns.map PyData.int)) (.list (ns.map PyData.int)) = true := by
  induction ns with
  | nil => rfl
  | cons n ns ih =>
    simp only [List.map_cons, PyData.eqv, PyData.eqvAll] at ih ⊢
    simp [ih]
theorem dp_ints {K : PySem.W.Frag} {H : Hp} {p : Addr} (xs : List Int) (h : SqL K H p (xs.map V.int)) : Dp K H (.ref p) (.list (xs.map PyData.int)) := by
  refine .lst h ?_
  clear h
  induction xs with
  | nil => exact .nil
  | cons x r ih => exact .cons (.int x) ih
end Tb
namespace Tb
open PySem PySem.Spec PyProof.Rows L2 Vk RZ
theorem ints_ext : ∀ {l m : List Int}, l.Pairwise (· < ·) → m.Pairwise (· < ·) → (∀ c, c ∈ l ↔ c ∈ m) → l = m := fun {l m} hl hm h => by
  have e : (l.map fun c => (c, c)) = m.map fun c => (c, c) := asc_ext (List.pairwise_map.mpr hl) (List.pairwise_map.mpr hm) fun p => by
    rw [List.mem_map, List.mem_map]
    constructor
    · rintro ⟨c, m', rfl⟩
      exact ⟨c, (h c).mp m', rfl⟩
    · rintro ⟨c, m', rfl⟩
      exact ⟨c, (h c).mpr m', rfl⟩
  have e2 := congrArg (List.map (·.1)) e
  simpa [Function.comp_def] using e2
theorem comb_len {F : Int → Int} {ns : List Int} : (comb F ns).length ≤ ns.length := by
  unfold comb
  rw [List.length_map]
  exact List.length_filter_le _ _
/-- what the joined table does -/
theorem look_comb {F : Int → Int} {ns : List Int} (h : ns.Pairwise (· < ·)) (all : ∀ c, F c ≠ c → c ∈ ns) (c : Int) : look (comb F ns) c = F c := by
  by_cases e : F c = c
  · rw [look_out fun p m => ?_, e]
    obtain ⟨_, a, b⟩ := mem_comb.mp m
    intro z
    rw [z] at b
    exact b e
  · exact look_mem (comb_asc h) (p := (c, F c)) (mem_comb.mpr ⟨all c e, rfl, e⟩)
theorem comb_good {F : Int → Int} {ns : List Int} (h : ns.Pairwise (· < ·)) (k : ∀ c ∈ ns, Col c) (v : ∀ c, Col c → Col (F c)) : Good (comb F ns) := ⟨comb_asc h, fun p m => by
  obtain ⟨a, b, _⟩ := mem_comb.mp m
  exact ⟨k _ a, b ▸ v _ (k _ a)⟩⟩
theorem look_in {L : Tb} {c : Int} (h : look L c ≠ c) : ∃ p ∈ L, p.1 = c := by
  by_cases e : ∃ p ∈ L, p.1 = c
  · exact e
  · exact absurd (look_out fun p m z => e ⟨p, m, z⟩) h
/-- what is left of the sorted entries -/
theorem left_eq {F : Int → Int} {ns tr : List Int} {R zs : Tb} (asc : ns.Pairwise (· < ·)) (all : ∀ c, F c ≠ c → c ∈ ns) (sub : ∀ c ∈ ns, c ∈ tr) (nd : (R.map (·.1)).Nodup) (val : ∀ p ∈ R, p.2 = F p.1) (key : ∀ c, c ∈ R.map (·.1) ↔ c ∈ tr)
    (perm : zs.Perm R) (ord : zs.Pairwise fun p q => p.1 < q.1 ∨ p.1 = q.1 ∧ p.2 ≤ q.2) : zs.filter (fun p => decide (p.1 ≠ p.2)) = comb F ns := by
  have a : Asc zs := asc_of ord ((perm.map (·.1)).nodup_iff.mpr nd)
  refine asc_ext (a.filter _) (comb_asc asc) fun p => ?_
  rw [List.mem_filter, mem_comb, perm.mem_iff, decide_eq_true_eq]
  constructor
  · rintro ⟨m, e⟩
    have v := val p m
    exact ⟨all p.1 (fun z => e (by rw [v, z])), v, fun z => e (by rw [v, z])⟩
  · rintro ⟨m, v, e⟩
    obtain ⟨q, mq, eq⟩ := List.mem_map.mp ((key p.1).mpr (sub _ m))
    have vq := val q mq
    have : q = p := by
      refine Prod.ext eq ?_
      rw [vq, eq, v]
    exact ⟨this ▸ mq, fun z => e (by rw [← v, z])⟩
end Tb
/-! ## comprehensions of several clauses: one clause's loop, whatever it does behind its store -/
namespace Cl
open PySem PySem.Spec PyProof.Rows L2 Vk Tb
/-- a clause's turn without tests: B is what it does behind its store -/
def step (e : Expr) (k : Nat) (t i0 : Expr) (B : Value → Env → Sem Unit) (it acc : Value) (env : Env) : Sem PySem.Fin := do
  standAt i0.pos
  match ← pyNext it with
  | none => pure (.done .next)
  | some v =>
    letOwnedTupleGo t it v
    assign t env v
    let mut ok := true
    for c in ([] : List Expr) do
      if ok then ok ← isTrue c env (eval c env)
    if ok then
      B acc env
    again (.compLoop e k it acc env)
section
variable {prog : Program} {w : World} {A : Around} {R : Result → Shared → Prop} {s : Shared} {elt t i0 : Expr} {gens : List Comprehension} {scope : Scope} {cpos : Pos} {k : Nat} {B : Value → Env → Sem Unit} {it acc : Value} {env : Env}
theorem loop_any (ht : compTurn (.SetComp elt gens scope cpos) k it acc env = step (.SetComp elt gens scope cpos) k t i0 B it acc env) (I : Nat → Shared → Prop)
    (turn : ∀ n s, I n s → wpAny (model prog w) A (pyNext it) (fun r s₁ => match r with
      | none => R (.ok .next) s₁
      | some v => wpAny (model prog w) A (letOwnedTupleGo t it v) (fun _ s₂ => wpAny (model prog w) A (assign t env v) (fun _ s₃ => wpAny (model prog w) A (B acc env) (fun _ s₄ => ∃ m, m < n ∧ I m s₄) (fun _ _ => False) s₃) (fun _ _ => False) s₂) (fun _ _ => False) s₁) (fun _ _ => False) s)
    (n : Nat) (h : I n s) : codeAny (model prog w) A (.compLoop (.SetComp elt gens scope cpos) k it acc env) R s := by
  refine codeAny_loop rfl I (fun n s hI => ?_) n h
  show wpAny _ A ((compTurn (.SetComp elt gens scope cpos) k it acc env).onRaise (fun x => do noteFrame x env; theTreesLotGoes x)) _ _ s
  refine wpAny_noted ?_
  rw [ht]
  unfold step
  refine wpAny_bind (wpAny_standAt (wpAny_bind (wpAny_mono (turn n s hI) (fun r s₁ h₁ => ?_) fun _ _ z => z.elim)))
  cases r with
  | none => exact wpAny_pure h₁
  | some v =>
    refine wpAny_bind (wpAny_mono h₁ (fun _ s₂ h₂ => ?_) fun _ _ z => z.elim)
    refine wpAny_bind (wpAny_mono h₂ (fun _ s₃ h₃ => ?_) fun _ _ z => z.elim)
    refine wpAny_bind (wpAny_tests_nil ?_)
    simp only [if_true]
    refine wpAny_bind (wpAny_mono h₃ (fun _ s₄ h₄ => ?_) fun _ _ z => z.elim)
    exact wpAny_pure ⟨rfl, h₄⟩
/-- what the clauses but the last do behind their store -/
def inner (e : Expr) (k : Nat) (i1 : Expr) (acc : Value) (env : Env) : Sem Unit := do
  let x ← eval i1 env
  standAt i1.pos
  let x ← foldedSetIterable i1 env x
  let _ ← runOwn (.compStart e k (← holding [x] (pyIter x)) acc env) env
/-- what the last one of a set does -/
def last (elt : Expr) (acc : Value) (env : Env) : Sem Unit := do
  let v ← eval elt env
  standAt elt.pos
  let _ ← call (.builtin "set.add") [acc, v]
theorem start_any {g : Comprehension} (hg : (clausesOf (.SetComp elt gens scope cpos))[k]? = some g) (ha : (g.is_async != 0) = false)
    (h0 : codeAny (model prog w) A (.compLoop (.SetComp elt gens scope cpos) k it acc env) R s)
    (h : wpAny (model prog w) A (pyIter it) (fun it' z => codeAny (model prog w) A (.compLoop (.SetComp elt gens scope cpos) k it' acc env) R z) (fun _ _ => False) s) :
    codeAny (model prog w) A (.compStart (.SetComp elt gens scope cpos) k it acc env) R s := by
  refine codeAny_of_tree ?_
  show wpAny _ _ ((compStart (.SetComp elt gens scope cpos) k it acc env).onRaise (fun x => do noteFrame x env; standAt theWindowsPlace)) _ _ s
  refine wpAny_notedAt ?_
  unfold compStart
  rw [hg]
  show wpAny _ _ (if (g.is_async != 0) = true then _ else _) _ _ s
  rw [if_neg (by rw [ha]; decide)]
  refine wpAny_bind (wpAny_askSetting (wpAny_ite ?_))
  split
  · exact wpAny_pure ⟨rfl, h0⟩
  · refine wpAny_bind (wpAny_rule (wpAny_bind (wpAny_standAt (wpAny_bind (wpAny_mono h (fun it' z h' => ?_) fun _ _ z => z.elim)))))
    exact wpAny_pure ⟨rfl, h'⟩
theorem inner_any {i1 : Expr} {Q : Unit → Shared → Prop} (hs : ∀ x, foldedSetIterable i1 env x = pure x)
    (h : wpAny (model prog w) A (eval i1 env) (fun x z => wpAny (model prog w) A (pyIter x) (fun it1 z1 => codeAny (model prog w) A (.compStart (.SetComp elt gens scope cpos) k it1 acc env) (fun r z2 => match r with | .ok _ => Q () z2 | .error _ => False) z1) (fun _ _ => False) z) (fun _ _ => False) s) :
    wpAny (model prog w) A (inner (.SetComp elt gens scope cpos) k i1 acc env) Q (fun _ _ => False) s := by
  unfold inner
  refine wpAny_bind (wpAny_mono h (fun x z h1 => ?_) fun _ _ z => z)
  refine wpAny_bind (wpAny_standAt (wpAny_bind (wpAny_of_eq (hs x) (wpAny_bind (wpAny_holding (wpAny_mono h1 (fun it1 z1 h2 => ?_) fun _ _ z => z))))))
  refine wpAny_bind (wpAny_runOwn ?_)
  rw [Around.mark_none]
  refine codeAny_mono h2 fun r z2 hr => ?_
  cases r with
  | ok f => exact wpAny_pure hr
  | error e => exact hr.elim
theorem last_any {Q : Unit → Shared → Prop} (h : wpAny (model prog w) A (eval elt env) (fun v z => wpAny (model prog w) A (call (.builtin "set.add") [acc, v]) (fun _ z1 => Q () z1) (fun _ _ => False) z) (fun _ _ => False) s) :
    wpAny (model prog w) A (last elt acc env) Q (fun _ _ => False) s := by
  unfold last
  exact wpAny_bind (wpAny_mono h (fun v z h1 => wpAny_bind (wpAny_standAt (wpAny_bind (wpAny_mono h1 (fun _ z1 h2 => wpAny_pure h2) fun _ _ z => z)))) fun _ _ z => z)
end
theorem wipe_get (σ : L2.St) : ∀ (vs : List Nat) (j : Nat), (wipe σ vs)[j]? = if j ∈ vs then σ[j]?.map fun _ => none else σ[j]?
  | [], j => by simp [wipe]
  | v :: vs, j => by
    unfold wipe
    rw [List.getElem?_set, wipe_length]
    by_cases e : v = j
    · subst e
      rw [if_pos rfl, if_pos (List.mem_cons_self ..)]
      by_cases l : v < σ.length
      · rw [if_pos l, List.getElem?_eq_getElem l]; rfl
      · rw [if_neg l, List.getElem?_eq_none (by omega)]; rfl
    · rw [if_neg e, wipe_get σ vs j]
      have : j ∈ v :: vs ↔ j ∈ vs := ⟨fun z => (List.mem_cons.mp z).resolve_left fun y => e y.symm, List.mem_cons_of_mem _⟩
      by_cases m : j ∈ vs
      · rw [if_pos m, if_pos (this.mpr m)]
      · rw [if_neg m, if_neg fun z => m (this.mp z)]
/-- names that are forgotten anyway -/
theorem wipe_sub (σ : L2.St) {us vs : List Nat} (h : ∀ i ∈ us, i ∈ vs) : wipe (wipe σ us) vs = wipe σ vs := by
  refine List.ext_getElem? fun j => ?_
  rw [wipe_get, wipe_get, wipe_get]
  by_cases m : j ∈ vs
  · rw [if_pos m, if_pos m]
    by_cases u : j ∈ us
    · rw [if_pos u]; cases σ[j]? <;> rfl
    · rw [if_neg u]
  · rw [if_neg m, if_neg m, if_neg fun z => m (h j z)]
theorem wipe_wipe (σ : L2.St) (vs : List Nat) : wipe (wipe σ vs) vs = wipe σ vs := wipe_sub σ fun _ h => h
/-- a clause's walk: body says what a turn asks behind the store, Next what it is to reach -/
def Lp (J : It) (vs : List Nat) (σ : L2.St) (g : TG) (body : (Hp → Prop) → L2.St → Hp → Prop) (Nx : Hp → Prop) (H : Hp) : Prop :=
  ∃ W : Nat → Nat → Hp → Prop, (∃ m, W 0 m H) ∧ ∀ i m H, W i m H → (J.stop i H ∧ Nx H) ∨ (J.go i H ∧ ∃ N : Hp → Prop, (∀ H', N H' → ∃ m', m' < m ∧ W (i + 1) m' H') ∧
    ∀ x H', J.yld i H x H' → g x (wipe σ vs) H' fun σ2 H2 => wipe σ2 vs = wipe σ vs ∧ body N σ2 H2)
section
variable {Y : Cx} {elt t i0 : Expr} {gens : List Comprehension} {scope : Scope} {cpos : Pos} {k : Nat} {B : Value → Env → Sem Unit} {J : It} {fp : List Addr} {it : Addr} {acc : Value} {tn : Nat → Heap → Prop} {vs : List Nat} {σ : L2.St} {g : TG} {body : (Hp → Prop) → L2.St → Hp → Prop} {Nx : Hp → Prop} {pns : List (Addr × Obj)} {R : Result → Shared → Prop} {s : Shared} {H : Hp}
/-- its loop -/
theorem lp_run (hx : ∀ e s, ¬ Y.xe e s) (hc : Y.calm = true) (ht : compTurn (.SetComp elt gens scope cpos) k (.ref it) acc Y.env = step (.SetComp elt gens scope cpos) k t i0 B (.ref it) acc Y.env) (T : Turn Y.prog Y.w Y.K t J fp it tn) (pg : PG Y t g)
    (hb : ∀ (N : Hp → Prop) (pns' : List (Addr × Obj)) (σ2 : L2.St) (H2 : Hp) (z : Shared), Inv Y (pns ++ pns') σ2 H2 z → wipe σ2 vs = wipe σ vs → body N σ2 H2 →
      wpAny (model Y.prog Y.w) Y.A (B acc Y.env) (fun _ z1 => ∃ σ3 H3, Inv Y (pns ++ pns') σ3 H3 z1 ∧ wipe σ3 vs = wipe σ2 vs ∧ N H3) (fun _ _ => False) z)
    (done : ∀ z H', Inv Y pns (wipe σ vs) H' z → Nx H' → R (.ok .next) z) (st : ∀ {H' : Hp}, (∀ b ∈ fp, H' b = none) → ∀ b ∈ fp, FpOk Y pns H' b)
    (I : Inv Y pns σ H s) (on : tn 0 s.heap) (off : ∀ b ∈ fp, H b = none) (h : Lp J vs σ g body Nx H) : codeAny (model Y.prog Y.w) Y.A (.compLoop (.SetComp elt gens scope cpos) k (.ref it) acc Y.env) R s := by
  obtain ⟨W, ⟨m0, w0⟩, turn⟩ := h
  refine loop_any ht (fun n z => ∃ i H', Inv Y pns (wipe σ vs) H' z ∧ tn i z.heap ∧ (∀ b ∈ fp, H' b = none) ∧ W i n H') ?_ m0 ⟨0, H, I.weak (wipe_length _ _) (fun j v e => (wipe_some e).1), on, off, w0⟩
  rintro n z ⟨i, H5, I5, on5, off5, w5⟩
  rcases turn i n H5 w5 with ⟨stop, nx⟩ | ⟨go, N, less, next⟩
  · refine thnF (T.done Y rfl rfl rfl hc i _ z _ H5 (fun _ _ => False) I5 (st off5) on5 stop) fun r z6 ⟨er, I6⟩ => ?_
    subst er
    exact done z6 H5 I6 nx
  · refine thnF (T.item Y rfl rfl rfl hc i _ z _ H5 (fun _ _ => False) I5 (st off5) on5 go) fun r z6 ⟨u, er, k6⟩ => ?_
    subst er
    refine thnF k6 fun _ z7 ⟨x, H7, I7, r7, y7, on7, off7⟩ => ?_
    refine thnF (wpAny_mono (pg.run _ z7 _ H7 x u _ (I7.pinned (st off7) (T.obj _ _ on7)) r7 (next x H7 y7)) (fun _ _ h => h) fun e z h => hx e z h) fun _ z8 ⟨σ8, H8, I8, wp8, q8⟩ => ?_
    refine thnF (hb N _ σ8 H8 z8 I8 wp8 q8) fun _ z9 ⟨σ9, H9, I9, wp9, n9⟩ => ?_
    obtain ⟨m', lt, w'⟩ := less H9 n9
    have held : ∀ b ∈ fp, ∀ o, z7.heap.get? b = some o → z9.heap.get? b = some o ∧ H9 b = none := fun b hb o e => let k := I9.pin (b, o) (List.mem_append_right _ (List.mem_append_right _ (mem_pinsAt hb e))); ⟨k.1, k.2.1⟩
    have wp : wipe σ9 vs = wipe σ vs := wp9.trans wp8
    refine ⟨m', lt, i + 1, H9, I9.unpinned.weak (by rw [← wp, wipe_length]) (fun j v e => (wipe_some (wp ▸ e)).1), T.keep _ _ _ on7 fun b hb o e => (held b hb o e).1, fun b hb => ?_, w'⟩
    obtain ⟨o, e, _⟩ := T.obj _ _ on7 b hb
    exact (held b hb o e).2
end
abbrev setObj (w : World) : Obj := { cls := .type "set", dict := none, data := .set #[] 0 (.fresh 0 0 (!w.params.followText "set-order")) }
section
variable {X : Cx}
/-- what is added, and what is asked of it -/
abbrev Ask := Addr → V → Hp → (Hp → Prop) → Prop
def AddOk (X : Cx) (ask : Ask) : Prop := ∀ (Y : Cx), Y.prog = X.prog → Y.w = X.w → Y.K = X.K → Y.A = X.A → ∀ (pns : List (Addr × Obj)) (σ : L2.St) (H : Hp) (z : Shared) (D : Addr) (y : V) (u : Value) (N : Hp → Prop), Inv Y pns σ H z → RelV y u → ask D y H N →
  wpAny (model Y.prog Y.w) Y.A (call (.builtin "set.add") [.ref D, u]) (fun _ z1 => ∃ H', Inv Y pns σ H' z1 ∧ N H') (fun _ _ => False) z
def NewOk (X : Cx) (o0 : Addr → HO) : Prop := ∀ (h : Heap) (H : Hp), ObjOk X.prog X.w H (h.push (setObj X.w)) h.objs.size (o0 h.objs.size)
/-- a set comprehension, by its first clause; B is what is behind its store -/
theorem pe_scG {elt tg iter : Expr} {rest : List Comprehension} {scope : Scope} {own : List (PySem.Str × Nat)} {pos : Pos} {wi : TI} {g : TG} {o0 : Addr → HO} {bodyD : Addr → (Hp → Prop) → L2.St → Hp → Prop} {B : Value → Env → Sem Unit} (hc : X.calm = true) (hN : X.N.Nodup) (hi : PI X tg iter wi) (ok : BlkOk X.N X.env.scope scope own)
    (hg : ∀ (s : Shared) (H : Hp) (C : Addr) (cl : List (PySem.Str × Addr)) (fp : List Addr), PG (X.blk s H scope (compEnvC scope cl C X.env) fp) tg g) (hnew : NewOk X o0)
    (ht : ∀ it acc env, compTurn (.SetComp elt (⟨tg, iter, [], 0⟩ :: rest) scope pos) 0 it acc env = step (.SetComp elt (⟨tg, iter, [], 0⟩ :: rest) scope pos) 0 tg iter B it acc env)
    (hB : ∀ (s : Shared) (H : Hp) (C : Addr) (cl : List (PySem.Str × Addr)) (fp : List Addr) (D : Addr) (N : Hp → Prop) (pns : List (Addr × Obj)) (σ2 : L2.St) (H2 : Hp) (z : Shared), Inv (X.blk s H scope (compEnvC scope cl C X.env) fp) pns σ2 H2 z → bodyD D N σ2 H2 →
      wpAny (model X.prog X.w) X.A (B (.ref D) (compEnvC scope cl C X.env)) (fun _ z1 => ∃ σ3 H3, Inv (X.blk s H scope (compEnvC scope cl C X.env) fp) pns σ3 H3 z1 ∧ wipe σ3 (own.map (·.2)) = wipe σ2 (own.map (·.2)) ∧ N H3) (fun _ _ => False) z)
    (hs : ∀ x, foldedSetIterable iter X.env x = pure x := by intro _; rfl) :
    PE X (.SetComp elt (⟨tg, iter, [], 0⟩ :: rest) scope pos) (fun σ H Q => wi σ H fun J H1 => ∀ D, H1 D = none → Lp J (own.map (·.2)) σ g (bodyD D) (fun H' => Q (.ref D) H') (upd H1 D (o0 D))) := by
  refine ⟨fun pns s σ H Q J h => ?_⟩
  rw [PpSet.eval_SetComp]
  have clo : closureFor scope X.env = pure (cloFrom X.env.cells scope.names []) := closure_ok fun y m e => (ok.free y m e).elim (fun k => J.ok.has _ (.inl k)) fun k => J.ok.has _ (.inr k)
  refine wpAny_comprehension_free (use := none) rfl hs clo ok.kind (fun y m e => (ok.uniq y m).trans (by rw [e])) (thn (hi.run pns s σ H _ J h) fun v0 z0 k0 => thn k0 fun v1 s2 ⟨it, fp, tn, G, H2, ev, J2, T, on, off, q⟩ => ?_)
  subst ev
  refine PpSet.newSet_ok (newEnv_comp ?_)
  have free : H2 s2.heap.objs.size = none := J2.hok.fresh (Nat.le_refl _)
  have lp := q _ free
  have J3 := J2.laid (a := s2.heap.objs.size) (t' := s2.toks) (fun b o e => Heap.get?_push_of_some (setObj X.w) e) (Nat.le_refl _) (hnew s2.heap (upd H2 s2.heap.objs.size (o0 s2.heap.objs.size)))
  generalize eD : s2.heap.objs.size = D at free lp J3 ⊢
  generalize e3 : ({ s2 with heap := s2.heap.push (setObj X.w) } : Shared) = s3 at J3 ⊢
  have up3 : ∀ b o, s2.heap.get? b = some o → s3.heap.get? b = some o := fun b o e => by rw [← e3]; exact Heap.get?_push_of_some _ e
  generalize eH : upd H2 D (o0 D) = H3 at lp J3 ⊢
  have fp3 : ∀ b ∈ fp, FpOk X pns H3 b ∧ b < s3.heap.objs.size := fun b hb => by
    obtain ⟨o, e, _⟩ := T.obj _ _ on b hb
    have lt := Heap.lt_size e
    exact ⟨⟨by rw [← eH, upd_ne (by rw [← eD]; exact Nat.ne_of_lt lt)]; exact (off b hb).1, (off b hb).2⟩, Heap.lt_size (up3 b o e)⟩
  have on3 : tn 0 s3.heap := T.keep _ _ _ on fun b _ o e => up3 b o e
  have B0 := block_start J3 ok hN fp3
  have gg := hg s3 H3 s3.heap.objs.size (cellsFrom (s3.heap.objs.size + 1) scope.names (cloFrom X.env.cells scope.names [])) fp
  have bb := hB s3 H3 s3.heap.objs.size (cellsFrom (s3.heap.objs.size + 1) scope.names (cloFrom X.env.cells scope.names [])) fp
  show codeAny _ _ (.compStart (.SetComp elt (⟨tg, iter, [], 0⟩ :: rest) scope pos) 0 (.ref it) (.ref D) (compEnvC scope (cellsFrom (s3.heap.objs.size + 1) scope.names (cloFrom X.env.cells scope.names [])) s3.heap.objs.size X.env)) (compPost (model X.prog X.w) X.A X.xe none (EP X pns σ Q) (.ref D) s3.heap.objs.size) { s3 with heap := pushCells (s3.heap.push { cls := .type "dict", data := .dict #[] }) scope.names }
  generalize eC : compEnvC scope (cellsFrom (s3.heap.objs.size + 1) scope.names (cloFrom X.env.cells scope.names [])) s3.heap.objs.size X.env = env at B0 gg bb ⊢
  have eL : env.locals = s3.heap.objs.size := by rw [← eC]; rfl
  generalize e4 : ({ s3 with heap := pushCells (s3.heap.push { cls := .type "dict", data := .dict #[] }) scope.names } : Shared) = s4 at B0 ⊢
  have on4 : tn 0 s4.heap := T.keep _ _ _ on3 fun b _ o e => by rw [← e4]; exact pushCells_keeps _ _ _ _ (Heap.get?_push_of_some _ e)
  have off3 : ∀ b ∈ fp, H3 b = none := fun b hb => (fp3 b hb).1.1
  have fpB : ∀ {G' : Hp}, (∀ b ∈ fp, G' b = none) → ∀ b ∈ fp, FpOk (X.blk s3 H3 scope env fp) [] G' b := fun {G'} n b hb =>
    ⟨n b hb, (B0.ok.exf b hb).1, B0.ok.exfs b hb, .inl hb, fun x c e => (B0.ok.exf b hb).2 x c e, fun p hp => absurd (show p ∈ ([] : List (Addr × Obj)) ++ [] from hp) (by simp)⟩
  have main : codeAny (model X.prog X.w) X.A (.compLoop (.SetComp elt (⟨tg, iter, [], 0⟩ :: rest) scope pos) 0 (.ref it) (.ref D) env) (compPost (model X.prog X.w) X.A X.xe none (EP X pns σ Q) (.ref D) s3.heap.objs.size) s4 := by
    have lp' : Lp G (own.map (·.2)) (wipe σ (own.map (·.2))) g (bodyD D) (fun H' => Q (.ref D) H') H3 := by
      unfold Lp
      rw [wipe_wipe]
      exact lp
    refine lp_run (Y := X.blk s3 H3 scope env fp) (fun _ _ h => h) hc (ht _ _ _) T gg (fun N pns' σ2 H2' z I wp b => bb D N _ σ2 H2' z I b) (fun z6 G5 B6 qe => ?_) fpB B0 on4 off3 lp'
    rw [wipe_wipe] at B6
    have J6 : Inv X pns σ G5 z6 := J3.call' (ch := fp) B6.os B6.base B6.hok B6.bare fun b hb => ⟨(fp3 b hb).1.2.2.2.1, (fp3 b hb).1.2.1, (fp3 b hb).1.2.2.2.2.1, (fp3 b hb).1.2.2.2.2.2⟩
    have nC : G5 s3.heap.objs.size = none := eL ▸ (show G5 env.locals = none from B6.free)
    obtain ⟨mm, hn, _⟩ := B6.loc
    have hn' : z6.heap.Ns s3.heap.objs.size mm := eL ▸ (show z6.heap.Ns env.locals mm from hn)
    obtain ⟨c0, c1, c2, c3, c4, c5⟩ := J3.fpOk (Nat.le_refl _) nC
    exact ⟨mm, hn', fun g sb => ⟨.ref D, G5, J6.turned (t' := z6.toks) (fun b o nb e => (sb.2 b nb).trans e) c0 c1 c3 c4 c5, rfl, qe⟩⟩
  exact PpSet.codeAny_compStart_set main (T.self X.A 0 _ _ _ on4 main)
end
section
variable {X : Cx}
/-- what a clause asks of the next one -/
def nx (wi : TI) (vs : List Nat) (g : TG) (body : (Hp → Prop) → L2.St → Hp → Prop) : (Hp → Prop) → L2.St → Hp → Prop := fun N σ H => wi σ H fun J H1 => Lp J vs σ g body N H1
/-- what the last one asks -/
def fin (te : TE) (ask : Ask) (D : Addr) : (Hp → Prop) → L2.St → Hp → Prop := fun N σ H => te σ H fun y H1 => ask D y H1 N
def tSc (o0 : Addr → HO) (wi : TI) (vs : List Nat) (g : TG) (bodyD : Addr → (Hp → Prop) → L2.St → Hp → Prop) : TE := fun σ H Q => wi σ H fun J H1 => ∀ D, H1 D = none → Lp J vs σ g (bodyD D) (fun H' => Q (.ref D) H') (upd H1 D (o0 D))
theorem last_ok {Y : Cx} {elt : Expr} {te : TE} {ask : Ask} {D : Addr} {N : Hp → Prop} {pns : List (Addr × Obj)} {σ : L2.St} {H : Hp} {z : Shared} (hx : ∀ e s, ¬ Y.xe e s) (he : PE Y elt te) (add : AddOk Y ask) (I : Inv Y pns σ H z) (h : fin te ask D N σ H) :
    wpAny (model Y.prog Y.w) Y.A (last elt (.ref D) Y.env) (fun _ z1 => ∃ H3, Inv Y pns σ H3 z1 ∧ N H3) (fun _ _ => False) z :=
  last_any (thnF (wpAny_mono (he.run pns z σ H _ I h) (fun _ _ h => h) fun e s h => hx e s h) fun u z1 ⟨y, H1, I1, r1, a⟩ => add Y rfl rfl rfl rfl pns σ H1 z1 D y u N I1 r1 a)
theorem pe_sc1 {elt tg iter : Expr} {scope : Scope} {own : List (PySem.Str × Nat)} {pos : Pos} {wi : TI} {g : TG} {te : TE} {o0 : Addr → HO} {ask : Ask} (hc : X.calm = true) (hN : X.N.Nodup) (hi : PI X tg iter wi) (ok : BlkOk X.N X.env.scope scope own)
    (hg : ∀ (s : Shared) (H : Hp) (C : Addr) (cl : List (PySem.Str × Addr)) (fp : List Addr), PG (X.blk s H scope (compEnvC scope cl C X.env) fp) tg g)
    (he : ∀ (s : Shared) (H : Hp) (C : Addr) (cl : List (PySem.Str × Addr)) (fp : List Addr), PE (X.blk s H scope (compEnvC scope cl C X.env) fp) elt te) (hnew : NewOk X o0) (add : AddOk X ask) (hs : ∀ x, foldedSetIterable iter X.env x = pure x := by intro _; rfl) :
    PE X (.SetComp elt [⟨tg, iter, [], 0⟩] scope pos) (tSc o0 wi (own.map (·.2)) g (fin te ask)) :=
  pe_scG hc hN hi ok hg hnew (fun _ _ _ => rfl) (fun s H C cl fp D N pns σ2 H2 z I h => wpAny_mono (last_ok (Y := X.blk s H scope (compEnvC scope cl C X.env) fp) (fun _ _ h => h) (he s H C cl fp) (fun Y' e1 e2 e3 e4 => add Y' e1 e2 e3 e4) I h) (fun _ z1 ⟨H3, I3, n⟩ => ⟨σ2, H3, I3, rfl, n⟩) fun _ _ h => h) hs
/-- a clause that is not the first, in the block -/
theorem clause_ok {Y : Cx} {elt t i1 : Expr} {gens : List Comprehension} {scope : Scope} {cpos : Pos} {k : Nat} {B : Value → Env → Sem Unit} {wi : TI} {vs ws : List Nat} {g : TG} {body : (Hp → Prop) → L2.St → Hp → Prop} {D : Addr} {N : Hp → Prop} {pns : List (Addr × Obj)} {σ : L2.St} {H : Hp} {z : Shared} (hx : ∀ e s, ¬ Y.xe e s) (hc : Y.calm = true)
    (hg : (clausesOf (.SetComp elt gens scope cpos))[k]? = some ⟨t, i1, [], 0⟩) (ht : ∀ it acc env, compTurn (.SetComp elt gens scope cpos) k it acc env = step (.SetComp elt gens scope cpos) k t i1 B it acc env) (hs : ∀ x, foldedSetIterable i1 Y.env x = pure x) (sub : ∀ i ∈ vs, i ∈ ws)
    (pi : PI Y t i1 wi) (pg : PG Y t g) (hb : ∀ (N : Hp → Prop) (pns' : List (Addr × Obj)) (σ2 : L2.St) (H2 : Hp) (z : Shared), Inv Y (pns ++ pns') σ2 H2 z → body N σ2 H2 →
      wpAny (model Y.prog Y.w) Y.A (B (.ref D) Y.env) (fun _ z1 => ∃ σ3 H3, Inv Y (pns ++ pns') σ3 H3 z1 ∧ wipe σ3 vs = wipe σ2 vs ∧ N H3) (fun _ _ => False) z)
    (I : Inv Y pns σ H z) (h : nx wi vs g body N σ H) :
    wpAny (model Y.prog Y.w) Y.A (inner (.SetComp elt gens scope cpos) k i1 (.ref D) Y.env) (fun _ z1 => ∃ σ3 H3, Inv Y pns σ3 H3 z1 ∧ wipe σ3 ws = wipe σ ws ∧ N H3) (fun _ _ => False) z := by
  refine inner_any hs (wpAny_mono (pi.run pns z σ H _ I h) (fun x z1 h1 => wpAny_mono h1 (fun itv z2 h2 => ?_) fun e s h => hx e s h) fun e s h => hx e s h)
  obtain ⟨it, fp, tn, J, H2, ev, I2, T, on, off, lp⟩ := h2
  subst ev
  have main : codeAny (model Y.prog Y.w) Y.A (.compLoop (.SetComp elt gens scope cpos) k (.ref it) (.ref D) Y.env) (fun r z2 => match r with | .ok _ => ∃ σ3 H3, Inv Y pns σ3 H3 z2 ∧ wipe σ3 ws = wipe σ ws ∧ N H3 | .error _ => False) z2 :=
    lp_run hx hc (ht _ _ _) T pg (fun N pns' σ2 H2 z I _ b => hb N pns' σ2 H2 z I b) (fun z6 H6 I6 n => ⟨_, H6, I6, wipe_sub _ sub, n⟩) (fun n b hb => ⟨n b hb, (off b hb).2⟩) I2 on (fun b hb => (off b hb).1) lp
  exact start_any hg rfl main (T.self Y.A 0 _ _ _ on main)
theorem turn3_1 (elt t0 i0 t1 i1 t2 i2 : Expr) (scope : Scope) (pos : Pos) (it acc : Value) (env : Env) : compTurn (.SetComp elt [⟨t0, i0, [], 0⟩, ⟨t1, i1, [], 0⟩, ⟨t2, i2, [], 0⟩] scope pos) 1 it acc env =
    step (.SetComp elt [⟨t0, i0, [], 0⟩, ⟨t1, i1, [], 0⟩, ⟨t2, i2, [], 0⟩] scope pos) 1 t1 i1 (inner (.SetComp elt [⟨t0, i0, [], 0⟩, ⟨t1, i1, [], 0⟩, ⟨t2, i2, [], 0⟩] scope pos) 2 i2) it acc env := by
  first
    | (simp [compTurn, Cl.step, Cl.inner]; rfl)
    | (simp [compTurn, Cl.step, Cl.inner]; congr 1; funext _; congr 1; funext r; cases r <;> rfl)
theorem turn3_0 (elt t0 i0 t1 i1 t2 i2 : Expr) (scope : Scope) (pos : Pos) (it acc : Value) (env : Env) : compTurn (.SetComp elt [⟨t0, i0, [], 0⟩, ⟨t1, i1, [], 0⟩, ⟨t2, i2, [], 0⟩] scope pos) 0 it acc env =
    step (.SetComp elt [⟨t0, i0, [], 0⟩, ⟨t1, i1, [], 0⟩, ⟨t2, i2, [], 0⟩] scope pos) 0 t0 i0 (inner (.SetComp elt [⟨t0, i0, [], 0⟩, ⟨t1, i1, [], 0⟩, ⟨t2, i2, [], 0⟩] scope pos) 1 i1) it acc env := by
  first
    | (simp [compTurn, Cl.step, Cl.inner, Cl.last]; rfl)
    | (simp [compTurn, Cl.step, Cl.inner, Cl.last]; congr 1; funext _; congr 1; funext r; cases r <;> rfl)
theorem turn3_2 (elt t0 i0 t1 i1 t2 i2 : Expr) (scope : Scope) (pos : Pos) (it acc : Value) (env : Env) : compTurn (.SetComp elt [⟨t0, i0, [], 0⟩, ⟨t1, i1, [], 0⟩, ⟨t2, i2, [], 0⟩] scope pos) 2 it acc env =
    step (.SetComp elt [⟨t0, i0, [], 0⟩, ⟨t1, i1, [], 0⟩, ⟨t2, i2, [], 0⟩] scope pos) 2 t2 i2 (last elt) it acc env := by
  first
    | (simp [compTurn, Cl.step, Cl.inner, Cl.last]; rfl)
    | (simp [compTurn, Cl.step, Cl.inner, Cl.last]; congr 1; funext _; congr 1; funext r; cases r <;> rfl)
theorem pe_sc3 {elt t0 i0 t1 i1 t2 i2 : Expr} {scope : Scope} {own : List (PySem.Str × Nat)} {vs1 vs2 : List Nat} {pos : Pos} {w0 w1 w2 : TI} {g0 g1 g2 : TG} {te : TE} {o0 : Addr → HO} {ask : Ask} (hc : X.calm = true) (hN : X.N.Nodup) (hi : PI X t0 i0 w0) (ok : BlkOk X.N X.env.scope scope own) (h1 : ∀ i ∈ vs1, i ∈ own.map (·.2)) (h2 : ∀ i ∈ vs2, i ∈ vs1)
    (hg : ∀ (s : Shared) (H : Hp) (C : Addr) (cl : List (PySem.Str × Addr)) (fp : List Addr), PG (X.blk s H scope (compEnvC scope cl C X.env) fp) t0 g0)
    (hi1 : ∀ (s : Shared) (H : Hp) (C : Addr) (cl : List (PySem.Str × Addr)) (fp : List Addr), PI (X.blk s H scope (compEnvC scope cl C X.env) fp) t1 i1 w1) (hg1 : ∀ (s : Shared) (H : Hp) (C : Addr) (cl : List (PySem.Str × Addr)) (fp : List Addr), PG (X.blk s H scope (compEnvC scope cl C X.env) fp) t1 g1)
    (hi2 : ∀ (s : Shared) (H : Hp) (C : Addr) (cl : List (PySem.Str × Addr)) (fp : List Addr), PI (X.blk s H scope (compEnvC scope cl C X.env) fp) t2 i2 w2) (hg2 : ∀ (s : Shared) (H : Hp) (C : Addr) (cl : List (PySem.Str × Addr)) (fp : List Addr), PG (X.blk s H scope (compEnvC scope cl C X.env) fp) t2 g2)
    (he : ∀ (s : Shared) (H : Hp) (C : Addr) (cl : List (PySem.Str × Addr)) (fp : List Addr), PE (X.blk s H scope (compEnvC scope cl C X.env) fp) elt te) (hnew : NewOk X o0) (add : AddOk X ask) (hs : ∀ x, foldedSetIterable i0 X.env x = pure x := by intro _; rfl) (hs1 : ∀ env x, foldedSetIterable i1 env x = pure x := by intro _ _; rfl) (hs2 : ∀ env x, foldedSetIterable i2 env x = pure x := by intro _ _; rfl) :
    PE X (.SetComp elt [⟨t0, i0, [], 0⟩, ⟨t1, i1, [], 0⟩, ⟨t2, i2, [], 0⟩] scope pos) (tSc o0 w0 (own.map (·.2)) g0 fun D => nx w1 vs1 g1 (nx w2 vs2 g2 (fin te ask D))) :=
  pe_scG (B := inner (.SetComp elt [⟨t0, i0, [], 0⟩, ⟨t1, i1, [], 0⟩, ⟨t2, i2, [], 0⟩] scope pos) 1 i1) hc hN hi ok hg hnew (fun _ _ _ => turn3_0 ..) (fun s H C cl fp D N pns σ2 H2 z I h =>
    clause_ok (Y := X.blk s H scope (compEnvC scope cl C X.env) fp) (B := inner (.SetComp elt [⟨t0, i0, [], 0⟩, ⟨t1, i1, [], 0⟩, ⟨t2, i2, [], 0⟩] scope pos) 2 i2) (fun _ _ h => h) hc rfl (fun _ _ _ => turn3_1 ..) (hs1 _) h1 (hi1 s H C cl fp) (hg1 s H C cl fp) (fun N1 pns1 σ3 H3 z1 I1 b1 =>
      clause_ok (Y := X.blk s H scope (compEnvC scope cl C X.env) fp) (B := last elt) (fun _ _ h => h) hc rfl (fun _ _ _ => turn3_2 ..) (hs2 _) h2 (hi2 s H C cl fp) (hg2 s H C cl fp) (fun N2 pns2 σ4 H4 z2 I2 b2 =>
        wpAny_mono (last_ok (Y := X.blk s H scope (compEnvC scope cl C X.env) fp) (fun _ _ h => h) (he s H C cl fp) (fun Y' e1 e2 e3 e4 => add Y' e1 e2 e3 e4) I2 b2) (fun _ z3 ⟨H5, I5, n⟩ => ⟨σ4, H5, I5, rfl, n⟩) fun _ _ h => h) I1 b1) I h) hs
/-- ints -/
def askI (w : World) : Ask := fun D y H N => ∃ (k : Int) (S : Int → Bool) (n : Nat), y = .int k ∧ H D = some (SetO w D S n) ∧ n + 1 < scanBound ∧ N (upd H D (SetO w D (grown S k) (grownN S k n)))
theorem add_I : AddOk X (askI X.w) := fun Y ep ew _ _ pns σ H z D y u N I r ⟨k, S, n, ey, hD, few, nx⟩ => by
  subst ey
  obtain ⟨t, rfl⟩ := r
  rw [← ew] at hD nx
  exact add_int (X := Y) I hD few fun z1 I1 => ⟨_, I1, nx⟩
theorem new_I : NewOk X (fun D => SetO X.w D (fun _ => false) 0) := fun h H => setO_new (setR_fresh X.w)
end
end Cl
/-! ## sets of tuples of ints that are filled one by one, and how many there are -/
namespace Cl
open PySem PySem.Spec PyProof.Rows L2 Vk Tb
section
variable {X : Cx}
theorem new_T : NewOk X (fun D => SetTO X.prog X.w D []) := fun h H => setTO_new (setTR_fresh (Heap.get?_push_size _ rfl)).t0
def askT (X : Cx) : Ask := fun D y H N => ∃ (x : Addr) (k : List Int) (L : List (Addr × List Int)), y = .ref x ∧ SqT X.K H x (k.map V.int) ∧ H D = some (SetTO X.prog X.w D L) ∧ (∀ p ∈ L, SqT X.K H p.1 (p.2.map V.int)) ∧ L.length + 1 < 64 ∧
  ∀ L', (k ∈ L.map (·.2) → L' = L) → (k ∉ L.map (·.2) → L'.Perm ((x, k) :: L)) → N (upd H D (SetTO X.prog X.w D L'))
theorem add_T (hu : X.A.units + 1 < cLine) : AddOk X (askT X) := fun Y ep ew ek ea pns σ H z D y u N I r ⟨x, k, L, ey, hx, hD, hL, few, nx⟩ => by
  subst ey
  cases r
  rw [← ep, ← ew] at hD
  rw [← ek] at hx
  have R0 : SetT0 Y.prog Y.w z.heap D L := (I.hok D _ hD).1
  obtain ⟨es, ep', t, R⟩ := R0.full fun p hp => I.isT (by rw [ek]; exact hL p hp)
  have hT := I.isT hx
  obtain ⟨o, ho, hex, hd⟩ := R.ob
  refine wpAny_call_entry PySem.F.slot_set_add (show z.TypeIs (.ref D) "set" from ⟨o, ho, hex.1⟩) PySem.F.entry_set_add ?_ (PySem.F.args_set_add_2 _ _)
  unfold Builtin.«set.add» Builtin.Frozenset.oneOther
  simp only [List.isEmpty_nil, bind_assoc]
  unfold Builtin.Frozenset.addrOf setAdd
  refine wpAny_bind (wpAny_pure ?_)
  try dsimp only
  refine wpAny_bind (wpAny_pure ?_)
  try dsimp only
  refine wpAny_bind (wpAny_holding (wpAny_bind (wpAny_pyHash_tuple (by rw [ea]; exact hu) hT ?_)))
  refine add_at (s := { z with toks := z.toks + (k.length + 1) }) R hT (by rw [ea]; exact hu) few fun b h' L' es' ep2 t' sb R' c1 c2 => ?_
  show wpAny _ _ (ret Value.none) _ _ _
  have he : ∃ v, h'.get? D = some v := let ⟨o, ho, _⟩ := R'.ob; ⟨o, ho⟩
  have I' : Inv Y pns σ (upd H D (SetTO Y.prog Y.w D L')) { z with heap := h', toks := z.toks + (k.length + 1) } := I.write (e := D) (t' := z.toks + (k.length + 1)) (by rw [hD]; trivial) (.inl rfl) (fun b v nb hv => (sb.2 b nb).trans hv) he (setTO_new R'.t0)
  refine wpAny_pure ⟨_, rfl, _, I', ?_⟩
  rw [ep, ew]
  exact nx L' c1 c2
/-- len of such a set -/
theorem call_lenT : CallR X (.builtin "len") (fun vs H Q => ∃ (a : Addr) (L : List (Addr × List Int)), vs = [.ref a] ∧ H a = some (SetTO X.prog X.w a L) ∧ (∀ p ∈ L, SqT X.K H p.1 (p.2.map V.int)) ∧ Q (.int (L.length : Nat)) H) := by
  intro pns s σ H vs us Q I rv ⟨a, L, ev, ha, hL, q⟩
  subst ev
  obtain rfl := Vals.ref1 rv
  have R0 : SetT0 X.prog X.w s.heap a L := (I.hok a _ ha).1
  obtain ⟨es, ep, t, R⟩ := R0.full fun p hp => I.isT (hL p hp)
  obtain ⟨o, ho, hex, hd⟩ := R.ob
  have sz := R.size
  have fw := R.few
  exact call_len_set ho hex hd R.fits (by omega) ⟨.int (L.length : Nat), H, I.tok _, ⟨_, by rw [sz]⟩, q⟩
end
end Cl
namespace Vg
open PySem PySem.Spec PyProof.Rows L2
/-! ## promises of defs that are called while nothing is being shown: room, and no repr under way -/
structure Gd (k : Nat) (A : Around) : Prop where
  rm : Room k A
  gd : A.guards = some []
theorem Gd.mono {j k : Nat} {A : Around} (g : Gd k A) (h : j ≤ k) : Gd j A := ⟨g.rm.mono h, g.gd⟩
structure FnG (P : Program) (w : World) (K : PySem.W.Frag) (mg : Str → Option Value) (base : Heap) (CX : CXT) (k : Nat) (f : Addr) (fd : FuncData) (ps : List Str) (sp : Sp) : Prop where
  len : ∀ vs H Q E, sp vs H Q E → vs.length = ps.length
  go : ∀ (A : Around) (outer : List Env) (s : Shared) (H : Hp) (args : Args) (us : List Value) (vs : List V) (Q : VK) (E : XK), Gd k A →
    Env0 P w K mg base A outer s H → BindsTo s fd args (ps.zip us) → Vals vs us → sp vs H Q E → codeAny (model P w) A (.call (.ref f) args) (CR CX outer P w H s Q E) s
section
variable {P : Program} {w : World} {K : PySem.W.Frag} {mg : Str → Option Value} {base : Heap} {CX : CXT}
theorem FnG.of {k : Nat} {f : Addr} {fd : FuncData} {ps : List Str} {sp : Sp} (F : FnOk P w K mg base CX k f fd ps sp) : FnG P w K mg base CX k f fd ps sp :=
  ⟨F.len, fun A outer s H args us vs Q E g => F.run A outer s H args us vs Q E g.rm⟩
def flowV : Flow → Value
  | .ret v => v
  | _ => .none
/-- a body's end is its call's end -/
theorem body_end {N : List Str} {qual : Str} {sc : Scope} {f : Addr} {cdv : Value} {A : Around} {outer : List Env} {s s' : Shared} {H : Hp} {Q : VK} {E : XK} {fl : Flow}
    (h : SP (cxOf CX P w K mg base N qual sc f cdv A outer s H E) [] { nx := fun _ H' => Q .non H', rt := Q } fl s') : CR CX outer P w H s Q E (.ok (.ret (flowV fl))) s' := by
  cases fl with
  | next => exact let ⟨_, H', J, q⟩ := h; ⟨.non, H', J.os, J.bare, J.base, J.hok, rfl, q⟩
  | ret u => exact let ⟨v, _, H', J, rv, q⟩ := h; ⟨v, H', J.os, J.bare, J.base, J.hok, rv, q⟩
  | brk => exact let ⟨_, _, _, q⟩ := h; q.elim
  | cont => exact let ⟨_, _, _, q⟩ := h; q.elim
/-- the body of a def, told of its room and that nothing is being shown -/
theorem okG {x qual : Str} {st : Stmt} {f : Addr} {fd : FuncData} {N ps : List Str} {k : Nat} {sp : Sp} (F : Fun K x qual st f fd) (S : FnScope N ps (defScope st)) (len : ∀ vs H Q E, sp vs H Q E → vs.length = ps.length)
    (body : ∀ (cdv : Value) (A : Around) (outer : List Env) (s : Shared) (H : Hp) (vs : List V) (Q : VK) (E : XK), Gd k (A.deeper (envOfC qual (defScope st) s.heap.objs.size f cdv)) → sp vs H Q E →
      ∃ t, PSs (cxOf CX P w K mg base N qual (defScope st) f cdv A outer s H E) (defBody st) t ∧ t { nx := fun _ H' => Q .non H', rt := Q } (L2.start N vs) H) : FnG P w K mg base CX (k + 1) f fd ps sp := by
  obtain ⟨oc, od, kV, doc, pm, an, cdv, ct, osl, rfl, lk, hcd⟩ := F.ex
  refine ⟨len, fun A outer s H args us vs Q E g e0 hb r hsp => ?_⟩
  have old : ∀ b o, base.get? b = some o → s.heap.get? b = some o := fun b o e => (e0.bs b o e).1
  have kinds : ∀ y ∈ ps.zip us, (defScope st).names.lookup y.1 = some .local ∨ ((defScope st).names.lookup y.1 = some .cell ∧ ((cellsFrom (s.heap.objs.size + 1) (defScope st).names []).lookup y.1).isSome = true) := by
    rintro ⟨n, v⟩ hy
    exact (S.par n (List.of_mem_zip hy).1).imp (fun q => q) fun q => ⟨q, PySem.W.cellsFrom_some _ _ _ (.inl q)⟩
  have bound := hb
  refine codeAny_call_function g.rm.depth (e0.mod.kin.keeps old _ _ lk) rfl S.co S.gen rfl (PySem.W.codeRec_of (e0.mod.kin.keeps old) hcd) (bound _ _ _ _ (wpAny_newFunctionEnv_cells S.kind kinds ?_))
  intro env he s1 x
  subst he
  obtain ⟨t, ht, hq⟩ := body cdv A outer s H vs Q E ⟨g.rm.deeper _, g.gd⟩ hsp
  exact ⟨(e0.mod.nolimit.keeps old).keeps x.toInCall.keep, codeAny_func (wpAny_mono (ht.run [] s1 _ H _ (inv_start S g.rm.hd e0 (len _ _ _ _ hsp) r x) hq) (fun fl s' hs => by
    have z := body_end hs
    cases fl <;> exact z) fun e s' hs => hs)⟩
end
section
variable {X : Cx} {CX : CXT} {k : Nat} {f : Addr} {fd : FuncData} {ps : List Str} {sp : Sp} {dvs : List V} {ds : List Value} {E : XK} {x : Str} {p pos : Pos} {e : Expr} {es : List Expr} {t : TA}
/-- such a def called by its name -/
theorem pe_callG (F : FnG X.prog X.w X.K X.mg X.base CX k f fd ps sp) (room : Gd k X.A) (isg : Gl X x) (hm : X.mg x = some (.ref f)) (kp : PySem.W.keepIn X.K (.ref f) = true) (hb : Binds X.K fd ps ds) (hd : Vals dvs ds) (pa : Passes CX X E)
    (ha : PA X (e :: es) t) (h3 : (x == ("__debug__" : Str)) = false := by decide) (h4 : starEach (e :: es) X.env = (false, eval e X.env) :: starEach es X.env := by rfl) (h5 : (backTo pos (starEach es X.env)).any (·.1) = false := by rfl) :
    PE X (.Call (.Name x p) (e :: es) [] pos) (tCall sp dvs E t) := by
  refine ⟨fun pins s σ H Q I h => wpAny_Call_Name_kw (ld_glob I isg hm (PySem.W.callWith_K (h₀ := X.base) I.ok.mod.kin kp (thn (ha.run pos pins s σ H _ I h) ?_) h4 h5) h3)⟩
  rintro us s1 ⟨vs, H1, I1, r, q⟩
  have r2 : Vals (vs ++ dvs) (us ++ ds) := r.append hd
  have hl : (us ++ ds).length = ps.length := by
    rw [← r2.length]
    exact F.len _ _ _ _ q
  refine ⟨I1.kIn, wpAny_call (codeAny_mono (F.go X.A X.stack s1 H1 ⟨us, []⟩ _ _ Q E room I1.env0 (hb s1 us I1.kIn hl) r2 q) ?_)⟩
  rintro (er | fl) s' hq
  · exact pa pins σ H1 s1 er s' I1 hq
  · cases fl with
    | ret u => exact I1.after hq
    | _ => exact hq.elim
end
end Vg
namespace Vx
open PySem PySem.Spec PyProof.Rows L2
/-! ## repr of data, while nothing is being shown -/
inductive Dr (K : PySem.W.Frag) (H : Hp) : V → PyData → Prop
  | dp {v : V} {d : PyData} (h : Dp K H v d) : Dr K H v d
  | em {p : Addr} (h : H p = some (.dK [])) : Dr K H (.ref p) (.dict [])
mutual
theorem dp_plain {K : PySem.W.Frag} {H : Hp} : ∀ (d : PyData) (v : V), Dp K H v d → d.hasDict = false
  | .none, _, h => rfl
  | .bool _, _, h => rfl
  | .int _, _, h => rfl
  | .str _, _, h => rfl
  | .list ds, _, h => by
    cases h with
    | lst _ ha => exact dp_plainAll ds _ ha
  | .tuple ds, _, h => by
    cases h with
    | tup _ ha => exact dp_plainAll ds _ ha
  | .dict _, _, h => by cases h
theorem dp_plainAll {K : PySem.W.Frag} {H : Hp} : ∀ (ds : List PyData) (vs : List V), DpAll K H vs ds → PyData.hasDictAll ds = false
  | [], _, h => rfl
  | d :: ds, _, h => by
    cases h with
    | cons h1 h2 =>
      have e1 := dp_plain d _ h1
      have e2 := dp_plainAll ds _ h2
      simp only [PyData.hasDictAll, e1, e2, Bool.or_false]
end
section
variable {X : Cx}
def rRepr (K : PySem.W.Frag) : List V → Hp → VK → Prop := fun xs H Q => ∃ (v : V) (d : PyData), xs = [v] ∧ Dr K H v d ∧ d.showable = true ∧ d.depth ≤ 60 ∧ d.shown.length ≤ sizeLine ∧ Q (.str d.shown) H
theorem call_repr_data {k : Nat} (hr : Room k X.A) (hg : X.A.guards = some []) : CallR X (.builtin "repr") (rRepr X.K) := by
  intro ps s σ H xs us Q I rel h
  obtain ⟨v, d, rfl, hd, hs, hdp, hl, q⟩ := h
  obtain ⟨u, rfl, ru⟩ := vals1 rel
  have hu := hr.units
  have more : ∀ (h' : Heap) (t : Tok) (tk : Nat), (∀ b o, s.heap.get? b = some o → h'.get? b = some o) → EP X ps σ Q (.str d.shown t) { s with heap := h', toks := tk } := fun h' t tk k =>
    ⟨.str d.shown, H, I.un (t' := tk) (Un.kept k) (I.hok.kept k), ⟨t, rfl⟩, q⟩
  have big : ∀ (a : Addr) (as : List Addr), u = .ref a → Reads s.heap (.ref a) d as → (d.hasDict = true → sysModules ∉ as) → wpAny (model X.prog X.w) X.A (call (.builtin "repr") [u]) (EP X ps σ Q) X.xe s := by
    rintro a as rfl hR hm
    exact repr_of_reads' hR hs hm hg (by omega) (fun b o z => z) (fun h' t tk k => more h' t tk k) hl
  cases hd with
  | em e =>
    rename_i p
    cases (show u = Value.ref p from ru)
    obtain ⟨_, hsys, vs, rv, o, es, ep, h1, h2, h3, _, h4, _⟩ := (show ObjOk X.prog X.w H s.heap p (.dK []) from I.hok p _ e)
    cases rv
    have he : es.toList = [] := by
      revert h4
      generalize es.toList = l
      intro h4
      cases h4
      rfl
    refine big p _ rfl (.dict h1 h2.1 h3 (as := []) (bs := []) (by rw [he]; exact .nil) (by rw [he]; exact .nil)) fun _ m => ?_
    rw [List.append_nil, List.mem_singleton] at m
    rw [m, beq_self_eq_true] at hsys
    cases hsys
  | dp e =>
    have hno := dp_plain d v e
    cases e with
    | non =>
      cases ru
      exact PySem.P.repr_of_none (more s.heap _ _ fun _ _ z => z)
    | bl b =>
      cases ru
      exact PySem.P.repr_of_bool (more s.heap _ _ fun _ _ z => z)
    | int i =>
      obtain ⟨t, rfl⟩ := ru
      exact PySem.P.repr_of_int (of_decide_eq_true hs) (more s.heap _ _ fun _ _ z => z)
    | str x =>
      obtain ⟨t, rfl⟩ := ru
      exact PySem.P.repr_of_str (more s.heap _ _ fun _ _ z => z) hl
    | lst hS ha =>
      rename_i p xs ds
      cases (show u = Value.ref p from ru)
      obtain ⟨as, hR⟩ := Dp.reads I _ _ _ (.lst hS ha) (show RelV (.ref p) (.ref p) from rfl)
      exact big p as rfl hR (by rw [hno]; exact fun z => by cases z)
    | tup hS ha =>
      rename_i p xs ds
      cases (show u = Value.ref p from ru)
      obtain ⟨as, hR⟩ := Dp.reads I _ _ _ (.tup hS ha) (show RelV (.ref p) (.ref p) from rfl)
      exact big p as rfl hR (by rw [hno]; exact fun z => by cases z)
end
end Vx
namespace Vg
open PySem PySem.Spec PyProof.Rows L2
/-- the law's call, by a promise for callers in whom nothing is being shown -/
theorem law_callG {P : Program} {w : World} {K : PySem.W.Frag} {mg mb : Str → Option Value} {k : Nat} {fa a : Addr} {fd : FuncData} {x : Str} {sp : Sp} {z : Shared} {vs : List Value} {ns : List Int} (inK : K.In z.heap) (g1 : z.heap.Ns mainGlobals mg) (g2 : z.heap.Ns builtinsNs mb) (g3 : ∀ x : Str, x ≠ "__name__" → mb x = bootBuiltins x) (g4 : z.heap.NoLimit) (g5 : z.gens = #[])
    (ha : z.heap.get? a = some { cls := .type "list", data := .seq vs.toArray }) (hi : IntsAre vs ns) (hl : ns.length ≤ sizeLine) (room : Gd k callerA) (F : ∀ base : Heap, K.In base → base.Ns mainGlobals mg → FnG P w K mg base CX0 k fa fd [x] sp) (bind : ∀ (s : Shared) (u : Value), BindsTo s fd ⟨[u], []⟩ [(x, u)])
    (hsp : ∀ H : Hp, SqL K H a (ns.map V.int) → sp [.ref a] H (fun v _ => v = .bl true) fun _ _ _ => False) :
    codeAny (model P w) callerA (.call (.ref fa) ⟨[.ref a], []⟩) (fun r s' => r = .ok (.ret (.bool true)) ∧ OldK z.heap s'.heap ∧ s'.os = z.os ∧ AllBare s'.gens) z := by
  have rv := vals_ints hi
  have lv := hi.length
  have go : ∀ H : Hp, SqL K H a (ns.map V.int) → HOk P w H z.heap → (∀ b u, H b = some u → b = a ∧ K.lookup a = none ∧ ∃ o xs, u = .frz o (.lst xs)) →
      codeAny (model P w) callerA (.call (.ref fa) ⟨[.ref a], []⟩) (fun r s' => r = .ok (.ret (.bool true)) ∧ OldK z.heap s'.heap ∧ s'.os = z.os ∧ AllBare s'.gens) z := fun H sq ok only => by
    have keepD : ∀ {b : Addr} {o : Obj} {es : Array DictEntry} {ep : Nat}, z.heap.get? b = some o → o.data = .dict es ep → (hidT z.heap H).get? b = some o := fun {b o es ep} e d => hidT_get e (by
      cases q : H b with
      | none => rfl
      | some u =>
        obtain ⟨rfl, _⟩ := only b u q
        rw [ha] at e
        cases e
        cases (show Data.seq vs.toArray _ = Data.dict es ep from d))
    have ns' : ∀ {b : Addr} {m : Str → Option Value}, z.heap.Ns b m → (hidT z.heap H).Ns b m := fun ⟨o, es, ep, e, d, r⟩ => ⟨o, es, ep, keepD e d, d, r⟩
    have kb : K.In (hidT z.heap H) := fun b o e => hidT_get (inK b o e) (by
      cases q : H b with
      | none => rfl
      | some u =>
        obtain ⟨rfl, n, _⟩ := only b u q
        rw [n] at e
        cases e)
    have e0 : Env0 P w K mg (hidT z.heap H) callerA [] z H := ⟨rfl, ⟨kb, ns' g1, ⟨mb, ns' g2, g3⟩, let ⟨mc, h1, h2⟩ := g4; ⟨mc, ns' h1, h2⟩⟩, fun b o e => of_hidT e, Nat.le_of_eq (hidT_size _ _), trivial, fun b m => absurd (show b ∈ ([] : List Addr) from m) (by simp), ok, .of_eq g5⟩
    refine codeAny_mono ((F _ kb (ns' g1)).go callerA [] z H ⟨[.ref a], []⟩ [.ref a] [.ref a] _ _ room e0 (bind z (.ref a)) (.cons rfl .nil) (hsp H sq)) fun r s' h => ?_
    rcases r with e | fl
    · exact False.elim h
    · cases fl with
      | ret u =>
        obtain ⟨v, H', os, bare, un, ok', r', q⟩ := h
        obtain rfl : v = .bl true := q
        obtain rfl : u = Value.bool true := r'
        refine ⟨rfl, OldK.of_keep fun b o e => ?_, os, bare⟩
        cases q : H b with
        | none => exact un.keep b o e q (fun m => absurd (show b ∈ ([] : List Addr) from m) (by simp)) (by simp)
        | some u =>
          obtain ⟨_, _, ob, xs, rfl⟩ := only b u q
          have e1 := (ok b _ q).1
          have e2 := (ok' b _ (un.frzs b ob _ q)).1
          rw [e] at e1
          cases e1
          exact e2
      | _ => exact False.elim h
  cases hk : K.lookup a with
  | some o =>
    obtain rfl := Option.some.inj ((inK a o hk).symm.trans ha)
    exact go (fun _ => none) (.inr ⟨_, vs.toArray, _, hk, rfl, rfl, rfl, by rw [List.size_toArray, lv]; exact hl, by simpa using rv⟩) (fun b u h => nomatch h) fun b u h => nomatch h
  | none =>
    have only : ∀ b u, (if b = a then some (HO.frz { cls := .type "list", data := .seq vs.toArray } (.lst (ns.map V.int))) else none) = some u → b = a ∧ u = .frz { cls := .type "list", data := .seq vs.toArray } (.lst (ns.map V.int)) := fun b u h => by
      by_cases e : b = a
      · rw [if_pos e] at h
        exact ⟨e, (Option.some.inj h).symm⟩
      · rw [if_neg e] at h
        cases h
    refine go (fun b => if b = a then some (.frz { cls := .type "list", data := .seq vs.toArray } (.lst (ns.map V.int))) else none) (.inl (.inr ⟨_, if_pos rfl⟩)) (fun b u h => ?_) fun b u h => ⟨(only b u h).1, hk, _, _, (only b u h).2⟩
    obtain ⟨rfl, rfl⟩ := only b u h
    exact ⟨ha, by rw [List.length_map]; exact hl, vs, _, rv, ha⟩
/-- the end of a law's row, by such a promise -/
theorem walk_ofG {l : PySem.W.OpenLaw} {n k : Nat} {q : Program} {loose : List Str} {XP : (Str → Option Value) → Heap → Prop} {YP : World → Heap → Prop} {d : DefRec} {K : Params → PySem.W.Frag} {sp : World → Sp} {x : Str} (hn : l.most = some n) (hn2 : n ≤ sizeLine) (hdf : d.params.defaults = []) (room : Gd k callerA) (hY : ∀ (w : World) (h : Heap), YP w h → (K w.params).In h)
    (F : ∀ (w : World) (mg : Str → Option Value) (fa : Addr) (h : Heap), (K w.params).In h → h.Ns mainGlobals mg → mg d.name = some (.ref fa) → ∃ fd : FuncData, (∀ (s : Shared) (u : Value), BindsTo s fd ⟨[u], []⟩ [(x, u)]) ∧ ∀ base : Heap, (K w.params).In base → base.Ns mainGlobals mg → FnG l.prog w (K w.params) mg base CX0 k fa fd [x] (sp w))
    (hsp : ∀ (w : World) (H : Hp) (a : Addr) (ns : List Int), ns.length ≤ n → SqL (K w.params) H a (ns.map V.int) → sp w [.ref a] H (fun v _ => v = .bl true) fun _ _ _ => False) : PySem.W.WalkO q loose XP YP l.row.toRowW d [] (fun f vs => PySem.call f vs) := by
  refine Att.attach_call hn hdf fun w s₀ s₁ mg mb fa o pm cd doc a vs ns G Y ho hd hcd hmg hobj hints hlen hg => ?_
  obtain ⟨fd, hb, hF⟩ := F w mg fa _ (hY w _ Y) G.T.g hmg
  exact law_callG (hY w _ Y) G.T.g G.T.b G.T.builtins G.T.nolimit hg hobj hints (Nat.le_trans hlen hn2) room hF hb fun H hS => hsp w H a ns hlen hS
end Vg
namespace Cl
open PySem PySem.Spec PyProof.Rows L2 Vk Tb
/-! ### defs with a star -/
section
variable {X : Cx} {CX : CXT} {k : Nat} {f : Addr} {sp : Sp} {E : XK} {x : Str} {p pos : Pos} {e : Expr} {es : List Expr} {t : TA}
theorem pe_callR (F : FnR X.prog X.w X.K X.mg X.base CX k f sp) (room : Room k X.A) (isg : Gl X x) (hm : X.mg x = some (.ref f)) (kp : PySem.W.keepIn X.K (.ref f) = true) (pa : Passes CX X E) (ha : PA X (e :: es) t) (h3 : (x == ("__debug__" : Str)) = false := by decide)
    (h4 : starEach (e :: es) X.env = (false, eval e X.env) :: starEach es X.env := by rfl) (h5 : (backTo pos (starEach es X.env)).any (·.1) = false := by rfl) : PE X (.Call (.Name x p) (e :: es) [] pos) (tCall sp [] E t) :=
  ⟨fun pins s σ H Q I h => wpAny_Call_Name_kw (ld_glob I isg hm (PySem.W.callWith_K (h₀ := X.base) I.ok.mod.kin kp (thn (ha.run pos pins s σ H _ I h) fun us s1 ⟨vs, H1, I1, r, q⟩ => ⟨I1.kIn, wpAny_call (run_fnR F room pa I1 r (show sp vs H1 Q E from (List.append_nil vs) ▸ q))⟩) h4 h5) h3)⟩
theorem pe_callR0 (F : FnR X.prog X.w X.K X.mg X.base CX k f sp) (room : Room k X.A) (isg : Gl X x) (hm : X.mg x = some (.ref f)) (kp : PySem.W.keepIn X.K (.ref f) = true) (pa : Passes CX X E) (h3 : (x == ("__debug__" : Str)) = false := by decide) : PE X (.Call (.Name x p) [] [] pos) (tCall sp [] E tNil) :=
  ⟨fun pins s σ H Q I h => wpAny_Call_Name_kw (ld_glob I isg hm (PySem.W.callWith_K0 I.kIn kp (wpAny_call (run_fnR (us := []) (vs := []) F room pa I .nil h))) h3)⟩
end
theorem fun_star {P : Program} {w : World} {K : PySem.W.Frag} {mg : Str → Option Value} {base : Heap} {x qual pv : Str} {st : Stmt} {f : Addr} {fd : FuncData} {N : List Str} {k : Nat} {sp : Sp} (F : Fun K x qual st f fd) (S : FnScope N [pv] (defScope st))
    (hb : ∀ (kV doc pm : Value) (an : Option Addr) (cdv ct : Value) (rest : List Value), bindArgs (PySem.W.fnOf x qual (defArgs st) (defBody st) (defScope st) .none kV doc pm an cdv ct) ⟨rest, []⟩ = (newTuple rest >>= fun t => pure [(pv, t)]))
    (body : ∀ (cdv : Value) (A : Around) (outer : List Env) (s : Shared) (H : Hp) (vs : List V) (Q : VK) (E : XK), Room k (A.deeper (envOfC qual (defScope st) s.heap.objs.size f cdv)) → sp vs H Q E →
      ∃ t, PSs (cxOf CX0 P w K mg base N qual (defScope st) f cdv A outer s H E).nox (defBody st) t ∧ t { nx := fun _ H' => Q .non H', rt := Q } (L2.start N vs) H) :
    FnR P w K mg base CX0 (k + 1) f (fun vs H Q E => vs.length ≤ sizeLine ∧ ∀ p, H p = none → sp [V.ref p] (upd H p (.tup vs)) Q E) := by
  obtain ⟨oc, od, kV, doc, pm, an, cdv, ct, osl, rfl, lk, hcd⟩ := F.ex
  refine FnR.imp (StX.fn_star (ps := []) (pv := pv) lk hcd S StX.cxUp_none (fun us rest h => ?_) fun A outer s H vs Q E hr hsp => ?_) fun vs H Q E ⟨h1, h2⟩ => ⟨[], vs, rfl, rfl, h1, h2⟩
  · obtain rfl := List.eq_nil_of_length_eq_zero h
    exact hb kV doc pm an cdv ct rest
  · obtain ⟨t, h, q⟩ := body cdv A outer s H vs Q E hr hsp
    exact ⟨t, h.nox, q⟩
end Cl
namespace Cl
open PySem PySem.Spec PyProof.Rows L2 Vk Tb
theorem call_dictTK {X : Cx} {K : PySem.W.Frag} (e : X.K = K) (hcalm : X.calm = true) : CallR X (.type "dict") (fun vs H Q => ∃ (a : Addr) (o : Obj) (ps : List Addr) (kvs : List (Key × V)), vs = [.ref a] ∧ o.dict = none ∧ H a = some (.frz o (.tup (ps.map V.ref))) ∧
    Paired (fun p kv => SqT K H p [kV kv.1, kv.2]) ps kvs ∧ ∀ p, H p = none → Q (.ref p) (upd H p (.dK (mergeK [] kvs)))) := e ▸ call_dictT hcalm
theorem call_tupleFK {X : Cx} {K : PySem.W.Frag} (e : X.K = K) : CallR X (.type "tuple") (fun vs H Q => ∃ p ys, vs = [.ref p] ∧ SqL K H p ys ∧ ∀ l o, H l = none → o.dict = none → Q (.ref l) (upd H l (.frz o (.tup ys)))) := e ▸ call_tupleF
theorem pi_tupK {X : Cx} {K : PySem.W.Frag} {tg l : Expr} {tl : TE} (e : X.K = K) (h : PE X l tl) : PI X tg l (iTup K tl) := e ▸ pi_tup h
theorem pi_listK {X : Cx} {K : PySem.W.Frag} {tg l : Expr} {tl : TE} (e : X.K = K) (h : PE X l tl) : PI X tg l (iList K tl) := e ▸ pi_list h
end Cl
namespace Tb
open PySem PySem.Spec PyProof.Rows L2 Vk RZ
/-! ## tables that keep colours apart -/
def vec (Ls : List Tb) (c : Int) : List Int := Ls.map fun L => look L c
def Sep (Ls : List Tb) : Prop := ∀ c d, vec Ls c = vec Ls d → c = d
def flat (Ls : List Tb) : List Int := Ls.flatMap fun L => L.flatMap fun p => [p.1, p.2]
theorem look_pair : ∀ {L : Tb} {d : Int}, look L d ≠ d → ∃ p ∈ L, p.1 = d ∧ p.2 = look L d
  | [], d, h => absurd rfl h
  | q :: L, d, h => by
    by_cases e : q.1 = d
    · exact ⟨q, List.mem_cons_self .., e, (if_pos e).symm⟩
    · have lk : look (q :: L) d = look L d := if_neg e
      rw [lk] at h ⊢
      obtain ⟨p, m, r⟩ := look_pair h
      exact ⟨p, List.mem_cons_of_mem _ m, r⟩
theorem mem_flat {Ls : List Tb} {L : Tb} {p : Int × Int} (h1 : L ∈ Ls) (h2 : p ∈ L) : p.1 ∈ flat Ls ∧ p.2 ∈ flat Ls :=
  ⟨List.mem_flatMap.mpr ⟨L, h1, List.mem_flatMap.mpr ⟨p, h2, by simp⟩⟩, List.mem_flatMap.mpr ⟨L, h1, List.mem_flatMap.mpr ⟨p, h2, by simp⟩⟩⟩
theorem vec_at {Ls : List Tb} {c d : Int} (h : vec Ls c = vec Ls d) {L : Tb} (m : L ∈ Ls) : look L c = look L d := by
  induction Ls with
  | nil => cases m
  | cons M Ls ih =>
    obtain ⟨h1, h2⟩ := List.cons.inj (show look M c :: vec Ls c = look M d :: vec Ls d from h)
    rcases List.mem_cons.mp m with rfl | m
    · exact h1
    · exact ih h2 m
theorem vec_out {Ls : List Tb} {c d : Int} {ns : List Int} (ne : Ls ≠ []) (cover : ∀ x ∈ flat Ls, x ∈ ns) (h : vec Ls c = vec Ls d) (hc : c ∉ ns) : c = d := by
  obtain ⟨L, Ls', rfl⟩ : ∃ L Ls', Ls = L :: Ls' := by
    cases Ls with
    | nil => exact absurd rfl ne
    | cons L Ls' => exact ⟨L, Ls', rfl⟩
  have m : L ∈ L :: Ls' := List.mem_cons_self ..
  have e := vec_at h m
  have ec : look L c = c := by
    by_cases z : look L c = c
    · exact z
    · obtain ⟨p, mp, e1, _⟩ := look_pair z
      exact absurd (cover _ (e1 ▸ (mem_flat m mp).1)) hc
  rw [ec] at e
  by_cases z : look L d = d
  · rw [e, z]
  · obtain ⟨p, mp, _, e2⟩ := look_pair z
    exact absurd (cover _ ((e2.trans e.symm) ▸ (mem_flat m mp).2)) hc
theorem sep_of {Ls : List Tb} {ns : List Int} (ne : Ls ≠ []) (cover : ∀ x ∈ flat Ls, x ∈ ns) (inj : (ns.map (vec Ls)).Nodup) : Sep Ls := fun c d h => by
  by_cases hc : c ∈ ns
  · by_cases hd : d ∈ ns
    · obtain ⟨i, hi, ei⟩ := List.mem_iff_getElem.mp hc
      obtain ⟨j, hj, ej⟩ := List.mem_iff_getElem.mp hd
      have : i = j := by
        refine (List.getElem_inj (h₀ := by rw [List.length_map]; exact hi) (h₁ := by rw [List.length_map]; exact hj) inj).mp ?_
        rw [List.getElem_map, List.getElem_map, ei, ej]
        exact h
      subst this
      rw [← ei, ← ej]
    · exact (vec_out ne cover h.symm hd).symm
  · exact vec_out ne cover h hc
theorem nodup_sep {Ls : List Tb} {ns : List Int} (h : Sep Ls) (nd : ns.Nodup) : (ns.map (vec Ls)).Nodup := List.pairwise_map.mpr (nd.imp fun n e => n (h _ _ e))
theorem sep_iff {Ls : List Tb} {ns : List Int} (ne : Ls ≠ []) (cover : ∀ x ∈ flat Ls, x ∈ ns) (nd : ns.Nodup) : (ns.map (vec Ls)).Nodup ↔ Sep Ls := ⟨sep_of ne cover, fun h => nodup_sep h nd⟩
theorem sep_nil : ¬ Sep [] := fun h => absurd (h 0 1 rfl) (by decide)
theorem sep_perm {Ls Ms : List Tb} (h : ∀ L, L ∈ Ls ↔ L ∈ Ms) : Sep Ls ↔ Sep Ms := by
  have : ∀ {Ls Ms : List Tb}, (∀ L, L ∈ Ls ↔ L ∈ Ms) → Sep Ls → Sep Ms := fun {Ls Ms} h s c d e => s c d (List.map_congr_left fun L m => vec_at e ((h L).mp m))
  exact ⟨this h, this fun L => (h L).symm⟩
/-- tables in the heap -/
structure TbOk (H : Hp) (a : Addr) (L : Tb) : Prop where
  pt : ∃ ts, PT H a ts L
  good : Good L
  few : L.length ≤ 20
def Tbs (H : Hp) (as : List Addr) (Ls : List Tb) : Prop := Paired (TbOk H) as Ls
theorem TbOk.same {H H' : Hp} {a : Addr} {L : Tb} (e : Same H H') (h : TbOk H a L) : TbOk H' a L := ⟨let ⟨ts, p⟩ := h.pt; ⟨ts, p.same e⟩, h.good, h.few⟩
theorem TbOk.but {H H' : Hp} {a q : Addr} {L : Tb} (e : But [q] H H') (hq : Pool H q) (h : TbOk H a L) : TbOk H' a L := ⟨let ⟨ts, p⟩ := h.pt; ⟨ts, p.but e hq⟩, h.good, h.few⟩
theorem prd_imp {α β : Type} {F G : α → β → Prop} (h : ∀ a b, F a b → G a b) : ∀ {xs : List α} {ys : List β}, Paired F xs ys → Paired G xs ys
  | _, _, .nil => .nil
  | _, _, .cons a t => .cons (h _ _ a) (prd_imp h t)
theorem Tbs.same {H H' : Hp} {as : List Addr} {Ls : List Tb} (e : Same H H') (h : Tbs H as Ls) : Tbs H' as Ls := prd_imp (fun _ _ => TbOk.same e) h
theorem Tbs.but {H H' : Hp} {q : Addr} {as : List Addr} {Ls : List Tb} (e : But [q] H H') (hq : Pool H q) (h : Tbs H as Ls) : Tbs H' as Ls := prd_imp (fun _ _ => TbOk.but e hq) h
/-- how many of a row's images are different, one after another -/
theorem count_step {f : Int → List Int} {ns : List Int} {i : Nat} {c : Int} {L L' : List (Addr × List Int)} {x : Addr} (hc : ns[i]? = some c) (len : L.length ≤ i) (eq : L.length = i ↔ ((ns.take i).map f).Nodup) (mem : ∀ v, v ∈ L.map (·.2) ↔ v ∈ (ns.take i).map f)
    (c1 : f c ∈ L.map (·.2) → L' = L) (c2 : f c ∉ L.map (·.2) → L'.Perm ((x, f c) :: L)) :
    L'.length ≤ i + 1 ∧ (L'.length = i + 1 ↔ ((ns.take (i + 1)).map f).Nodup) ∧ (∀ v, v ∈ L'.map (·.2) ↔ v ∈ (ns.take (i + 1)).map f) := by
  have tk : (ns.take (i + 1)).map f = (ns.take i).map f ++ [f c] := by rw [List.take_add_one, hc, List.map_append]; rfl
  rw [tk]
  by_cases m : f c ∈ L.map (·.2)
  · obtain rfl := c1 m
    refine ⟨by omega, ⟨fun h => by omega, fun h => ?_⟩, fun v => ?_⟩
    · exact absurd rfl ((List.nodup_append.mp h).2.2 _ ((mem _).mp m) _ (by simp))
    · rw [List.mem_append, mem v]
      refine ⟨.inl, fun z => z.elim id fun y => ?_⟩
      have : v = f c := by simpa using y
      exact this ▸ (mem _).mp m
  · have p := c2 m
    have pl : L'.length = L.length + 1 := p.length_eq
    have n : f c ∉ (ns.take i).map f := fun z => m ((mem _).mpr z)
    refine ⟨by omega, ⟨fun h => ?_, fun h => ?_⟩, fun v => ?_⟩
    · refine List.nodup_append.mpr ⟨eq.mp (by omega), by simp, fun a ha b hb e => ?_⟩
      have : b = f c := by simpa using hb
      exact n (this ▸ e ▸ ha)
    · have := eq.mpr (List.nodup_append.mp h).1
      omega
    · rw [(p.map (·.2)).mem_iff, List.map_cons, List.mem_cons, mem v, List.mem_append]
      constructor
      · rintro (z | z)
        · exact .inr (by simp [z])
        · exact .inl z
      · rintro (z | z)
        · exact .inr z
        · exact .inl (by simpa using z)
end Tb
namespace Cl
open PySem PySem.Spec PyProof.Rows L2 Vk Tb RZ
section
variable {K : PySem.W.Frag} {a : Addr} {xs : List V} {vs : List Nat} {σ : L2.St} {g : TG} {body : (Hp → Prop) → L2.St → Hp → Prop} {Nx : Hp → Prop} {H : Hp}
theorem lp_tup (Pv : Nat → Hp → Prop) (h0 : Pv 0 H) (hl : ∀ i H, Pv i H → SqT K H a xs) (hs : ∀ i x H, xs[i]? = some x → Pv i H → g x (wipe σ vs) H fun σ2 H2 => wipe σ2 vs = wipe σ vs ∧ body (Pv (i + 1)) σ2 H2) (hd : ∀ H, Pv xs.length H → Nx H) : Lp (Itt K a) vs σ g body Nx H := by
  refine ⟨fun i m H => m + i = xs.length ∧ Pv i H, ⟨xs.length, rfl, h0⟩, fun i m H ⟨e, p⟩ => ?_⟩
  have q := hl i H p
  by_cases lt : i < xs.length
  · refine .inr ⟨⟨xs, xs[i], q, List.getElem?_eq_getElem lt⟩, Pv (i + 1), fun H' p' => ⟨xs.length - (i + 1), by omega, by omega, p'⟩, fun x H' y => ?_⟩
    obtain ⟨rfl, y⟩ := y
    exact hs i x _ (y xs q) p
  · have : i = xs.length := by omega
    exact .inl ⟨⟨xs, q, by omega⟩, hd H (this ▸ p)⟩
theorem lp_list (Pv : Nat → Hp → Prop) (h0 : Pv 0 H) (hl : ∀ i H, Pv i H → SqL K H a xs) (hs : ∀ i x H, xs[i]? = some x → Pv i H → g x (wipe σ vs) H fun σ2 H2 => wipe σ2 vs = wipe σ vs ∧ body (Pv (i + 1)) σ2 H2) (hd : ∀ H, Pv xs.length H → Nx H) : Lp (Itl K a) vs σ g body Nx H := by
  refine ⟨fun i m H => m + i = xs.length ∧ Pv i H, ⟨xs.length, rfl, h0⟩, fun i m H ⟨e, p⟩ => ?_⟩
  have q := hl i H p
  by_cases lt : i < xs.length
  · refine .inr ⟨⟨xs, xs[i], q, List.getElem?_eq_getElem lt⟩, Pv (i + 1), fun H' p' => ⟨xs.length - (i + 1), by omega, by omega, p'⟩, fun x H' y => ?_⟩
    obtain ⟨rfl, y⟩ := y
    exact hs i x _ (y xs q) p
  · have : i = xs.length := by omega
    exact .inl ⟨⟨xs, q, by omega⟩, hd H (this ▸ p)⟩
end
/-- a set of ints that has what is in W -/
def Has (w : World) (D : Addr) (H0 : Hp) (W : List Int) (H : Hp) : Prop := Same H0 H ∧ ∃ S n, H D = some (SetO w D S n) ∧ (∀ c, S c = true ↔ c ∈ W) ∧ n ≤ W.length
theorem Has.new {w : World} {D : Addr} {H : Hp} (n : H D = none) : Has w D H [] (upd H D (SetO w D (fun _ => false) 0)) := ⟨same_new n, _, _, upd_same, fun c => by simp, Nat.le_refl _⟩
theorem Has.put {w : World} {D : Addr} {H0 H : Hp} {W : List Int} {k : Int} {N : Hp → Prop} (n : H0 D = none) (few : W.length ≤ 1000) (h : Has w D H0 W H) (q : ∀ H', Has w D H0 (W ++ [k]) H' → N H') : askI w D (.int k) H N := by
  obtain ⟨s, S, m, hD, hS, hm⟩ := h
  refine ⟨k, S, m, rfl, hD, by unfold scanBound; omega, q _ ⟨same_mut s n, _, _, upd_same, fun c => ?_, ?_⟩⟩
  · rw [Bool.or_eq_true, hS c, decide_eq_true_eq, List.mem_append, List.mem_singleton]
  · rw [List.length_append]
    show (if S k = true then m else m + 1) ≤ W.length + 1
    split <;> omega
end Cl
namespace Tb
open PySem PySem.Spec PyProof.Rows L2 Vk RZ
/-- lists of ints, and lists of these, as data -/
def lis (v : List Int) : PyData := .list (v.map PyData.int)
theorem eqv_lis : ∀ a b : List Int, PyData.eqv (lis a) (lis b) = decide (a = b)
  | [], [] => rfl
  | [], b :: bs => by
    rw [decide_eq_false (by simp)]
    simp [lis, PyData.eqv, PyData.eqvAll]
  | a :: as, [] => by
    rw [decide_eq_false (by simp)]
    simp [lis, PyData.eqv, PyData.eqvAll]
  | a :: as, b :: bs => by
    have ih := eqv_lis as bs
    simp only [lis, List.map_cons, PyData.eqv, PyData.eqvAll] at ih ⊢
    rw [ih]
    by_cases e : a = b
    · subst e
      simp
    · have : ¬ a :: as = b :: bs := fun z => e (List.cons.inj z).1
      simp [e, this]
theorem lay_lls (vs : List (List Int)) : PyData.canLay0 (.list (vs.map lis)) = true := by
  show PyData.canLayAll0 (vs.map lis) = true
  induction vs with
  | nil => rfl
  | cons v vs ih =>
    show (PyData.canLay0 (lis v) && PyData.canLayAll0 (vs.map lis)) = true
    rw [ih, show PyData.canLay0 (lis v) = true from SeqAt.canLay_of_shaped (shaped_ints v)]
    rfl
theorem deep_ints (ns : List Int) : PyData.depthAll (ns.map PyData.int) ≤ 1 := by
  induction ns with
  | nil => simp [PyData.depthAll]
  | cons n ns ih => simp [PyData.depthAll, PyData.depth] at ih ⊢; omega
theorem deep_lls (vs : List (List Int)) : PyData.depthAll (vs.map lis) ≤ 2 := by
  induction vs with
  | nil => simp [PyData.depthAll]
  | cons v vs ih =>
    have := deep_ints v
    simp [PyData.depthAll, PyData.depth, lis] at ih ⊢
    omega
theorem shaped_lls (vs : List (List Int)) : SeqAt.shaped (.list (vs.map lis)) = true := by
  have h := deep_lls vs
  have e : (PyData.list (vs.map lis)).depth ≤ 64 := by
    simp [PyData.depth]
    omega
  unfold SeqAt.shaped
  rw [lay_lls vs, decide_eq_true e]
  rfl
/-- lists of ints in the heap -/
def Lr (f : Int → List Int) (H : Hp) (r : Addr) (c : Int) : Prop := H r = some (.lst ((f c).map V.int))
theorem lr_dp {K : PySem.W.Frag} {f : Int → List Int} {H : Hp} : ∀ {rs : List Addr} {cs : List Int}, Paired (Lr f H) rs cs → DpAll K H (rs.map V.ref) ((cs.map f).map lis)
  | _, _, .nil => .nil
  | _, _, .cons h t => .cons (dp_ints _ (.inl (.inl h))) (lr_dp t)
theorem any_lls (vs : List (List Int)) (u : List Int) : ((vs.map lis).any fun z => PyData.eqv z (lis u)) = decide (u ∈ vs) := by
  induction vs with
  | nil => rfl
  | cons v vs ih =>
    rw [List.map_cons, List.any_cons, ih, eqv_lis]
    by_cases e : v = u
    · subst e
      simp
    · have : (u ∈ v :: vs) ↔ u ∈ vs := by
        rw [List.mem_cons]
        exact ⟨fun z => z.resolve_left fun y => e y.symm, .inr⟩
      simp only [this, decide_eq_false e, Bool.false_or]
end Tb
namespace Tb
open PySem PySem.Spec PyProof.Rows L2 Vk RZ
theorem comb_ext {F G : Int → Int} {ns ms : List Int} (hn : ns.Pairwise (· < ·)) (hm : ms.Pairwise (· < ·)) (alln : ∀ c, F c ≠ c → c ∈ ns) (allm : ∀ c, G c ≠ c → c ∈ ms) (e : ∀ c, F c = G c) : comb F ns = comb G ms := by
  have : F = G := funext e
  subst this
  unfold comb
  refine congrArg _ (ints_ext (hn.filter _) (hm.filter _) fun c => ?_)
  rw [List.mem_filter, List.mem_filter, decide_eq_true_eq]
  exact ⟨fun h => ⟨allm c h.2, h.2⟩, fun h => ⟨alln c h.2, h.2⟩⟩
theorem sep1_iff {L : Tb} : Sep [L] ↔ ∀ c d, look L c = look L d → c = d :=
  ⟨fun h c d e => h c d (by show [look L c] = [look L d]; rw [e]), fun h c d e => h c d (List.cons.inj (show [look L c] = [look L d] from e)).1⟩
theorem sep_both {L M N : Tb} (e : ∀ c, look N c = look M (look L c)) (h : Sep [N]) : Sep [L] := sep1_iff.mpr fun c d z => sep1_iff.mp h c d (by rw [e, e, z])
theorem mem_swapped {L : Tb} {f : Tb → Tb} {p : Int × Int} (hf : f L = (L.filter fun p => decide (p.1 ≠ p.2)).map fun p => (p.2, p.1)) : p ∈ f L ↔ (p.2, p.1) ∈ L ∧ p.2 ≠ p.1 := by
  rw [hf, List.mem_map]
  constructor
  · rintro ⟨q, m, rfl⟩
    obtain ⟨m, d⟩ := List.mem_filter.mp m
    exact ⟨m, of_decide_eq_true d⟩
  · rintro ⟨m, d⟩
    exact ⟨(p.2, p.1), List.mem_filter.mpr ⟨m, decide_eq_true d⟩, rfl⟩
/-- the table back of a table that keeps colours apart -/
theorem back_good {L N : Tb} (g : Good L) (s : Sep [L]) (mem : ∀ p, p ∈ N ↔ (p.2, p.1) ∈ L ∧ p.2 ≠ p.1) (nd : N.Nodup) (ord : N.Pairwise fun p q => p.1 < q.1 ∨ p.1 = q.1 ∧ p.2 ≤ q.2) : Good N := by
  have s' := sep1_iff.mp s
  refine ⟨?_, fun p m => ?_⟩
  · refine (ord.and nd).imp_of_mem fun {p q} mp mq h => ?_
    obtain ⟨o, ne⟩ := h
    rcases o with o | ⟨o, _⟩
    · exact o
    · have e1 := look_mem g.1 ((mem p).mp mp).1
      have e2 := look_mem g.1 ((mem q).mp mq).1
      have : p.2 = q.2 := s' _ _ (by rw [e1, e2]; exact o)
      exact absurd (Prod.ext o this) ne
  · exact ((g.2 _ ((mem p).mp m).1)).symm
theorem back_all {L N : Tb} (g : Good L) (s : Sep [L]) (mem : ∀ p, p ∈ N ↔ (p.2, p.1) ∈ L ∧ p.2 ≠ p.1) (gN : Good N) (c : Int) : look N (look L c) = c := by
  have s' := sep1_iff.mp s
  by_cases e : look L c = c
  · rw [e]
    by_cases z : look N c = c
    · exact z
    · obtain ⟨p, mp, e1, _⟩ := look_pair z
      obtain ⟨m, ne⟩ := (mem p).mp mp
      have e2 := look_mem g.1 m
      have : p.2 = c := s' _ _ (by rw [e2, e]; exact e1)
      exact absurd (this.trans e1.symm) ne
  · obtain ⟨p, mp, e1, e2⟩ := look_pair e
    exact look_mem gN.1 (p := (look L c, c)) ((mem _).mpr ⟨by rw [← e2]; exact e1 ▸ mp, fun z => e z.symm⟩)
theorem comb_none {F : Int → Int} {ns : List Int} (h : ∀ c, F c = c) : comb F ns = [] := by
  unfold comb
  rw [List.filter_eq_nil_iff.mpr fun c _ => by simp [h c]]
  rfl
theorem swap_nodup {L : Tb} (g : Good L) : ((L.filter fun p => decide (p.1 ≠ p.2)).map fun p => (p.2, p.1)).Nodup := by
  refine List.pairwise_map.mpr ((g.1.filter _).imp fun {p q} h e => ?_)
  have := congrArg Prod.snd e
  dsimp only at this
  omega
theorem both_in {L M : Tb} {c : Int} (h : look M (look L c) ≠ c) : ∃ p ∈ L ++ M, p.1 = c := by
  by_cases z : look L c = c
  · rw [z] at h
    obtain ⟨p, m, e⟩ := look_in h
    exact ⟨p, List.mem_append_right _ m, e⟩
  · obtain ⟨p, m, e⟩ := look_in z
    exact ⟨p, List.mem_append_left _ m, e⟩
theorem sep_rot {L M N : Tb} : Sep [N, L, M] ↔ Sep [L, M, N] := sep_perm fun U => by
  simp only [List.mem_cons, List.not_mem_nil, or_false]
  constructor
  · rintro (h | h | h)
    · exact .inr (.inr h)
    · exact .inl h
    · exact .inr (.inl h)
  · rintro (h | h | h)
    · exact .inr (.inl h)
    · exact .inr (.inr h)
    · exact .inl h
theorem dp_bls {K : PySem.W.Frag} {H : Hp} {p : Addr} (bs : List Bool) (h : SqL K H p (bs.map V.bl)) : Dp K H (.ref p) (.list (bs.map PyData.bool)) := by
  refine .lst h ?_
  clear h
  induction bs with
  | nil => exact .nil
  | cons b bs ih => exact .cons (.bl b) ih
end Tb
namespace Vx
open PySem PySem.Spec PyProof.Rows L2
/-! ## an exception that was caught and kept -/
/-- at a: an exception of the class cls, its dict d -/
def ExH (cls : Value) (d : Option Addr) (a : Addr) : HO := .ext fun h => ∃ (oe : Obj) (vs : Array Value), h.get? a = some oe ∧ Zc cls d oe ∧ oe.data = .fields vs
theorem exh_ok {P : Program} {w : World} {H : Hp} {h : Heap} {a : Addr} {cls : Value} {d : Option Addr} {oe : Obj} {vs : Array Value} (e : h.get? a = some oe) (z : Zc cls d oe) (f : oe.data = .fields vs) : ObjOk P w H h a (ExH cls d a) :=
  ⟨⟨oe, vs, e, z, f⟩, ⟨oe, e⟩, fun _ _ ⟨o, v, q, r⟩ k => ⟨o, v, k o q, r⟩⟩
theorem exh_at {P : Program} {w : World} {H : Hp} {h : Heap} {a : Addr} {cls : Value} {d : Option Addr} (ok : HOk P w H h) (e : H a = some (ExH cls d a)) : ∃ (oe : Obj) (vs : Array Value), h.get? a = some oe ∧ Zc cls d oe ∧ oe.data = .fields vs := by
  have x : ObjOk P w H h a (.ext fun h => ∃ (oe : Obj) (vs : Array Value), h.get? a = some oe ∧ Zc cls d oe ∧ oe.data = .fields vs) := ok a _ e
  exact x.1
section
variable {X : Cx} {pins : List (Addr × Obj)} {σ : L2.St} {H : Hp} {s : Shared}
/-- an object that came in this call and was not spoken of is spoken of from now on -/
theorem track {a : Addr} {oe : Obj} {vs : Array Value} {cls : Value} {d : Option Addr} (I : Inv X pins σ H s) (new : X.s_0.heap.get? a = none) (ha : s.heap.get? a = some oe) (hz : Zc cls d oe) (hd : oe.data = .fields vs) (na : H a = none)
    (nL : a ≠ X.env.locals) (np : ∀ p ∈ X.pn ++ pins, p.1 ≠ a) : Inv X pins σ (upd H a (ExH cls d a)) s := by
  have old : ∀ {b : Addr} {o : Obj}, X.s_0.heap.get? b = some o → b ≠ a := fun {b o} q z => by
    rw [z, new] at q
    cases q
  have held : ∀ {b : Addr} {o : HO}, H b = some o → b ≠ a := fun q => ne_of_none q na
  exact {
    ok := I.ok
    os := I.os
    bare := I.bare
    base := {
      keep := I.base.keep
      slot := I.base.slot
      free := fun b o q n x => (upd_ne (old q)).trans (I.base.free b o q n x)
      there := I.base.there
      tups := fun b xs q => (upd_ne (held (I.base.tups b xs q))).trans (I.base.tups b xs q)
      frzs := fun b o u q => (upd_ne (held (I.base.frzs b o u q))).trans (I.base.frzs b o u q)
      tbls := fun b ps q => let ⟨more, z⟩ := I.base.tbls b ps q; ⟨more, (upd_ne (held z)).trans z⟩ }
    loc := I.loc
    cell := I.cell
    free := (upd_ne (Ne.symm nL)).trans I.free
    freeC := fun x c q => (upd_ne (fun z => by
      obtain ⟨v, o, ho, hv⟩ := I.cell x c q
      rw [z, ha] at ho
      cases ho
      rw [hd] at hv
      cases hv)).trans (I.freeC x c q)
    pin := fun p hp => let ⟨e, n, r⟩ := I.pin p hp; ⟨e, (upd_ne (np p hp)).trans n, r⟩
    hok := fun b o q => by
      by_cases hb : b = a
      · rw [hb, upd_same] at q
        cases q
        rw [hb]
        exact exh_ok ha hz hd
      · rw [upd_ne hb] at q
        exact (I.hok b o q).stay (fun _ _ _ r => r) (fun c r => (upd_ne (held r)).trans r) fun c xs r => (upd_ne (held r)).trans r
    len := I.len }
theorem flying_push {B h : Heap} {l : List Env} {a : Addr} {Z : Obj → Prop} (o : Obj) (x : HandSPX.FlyingZ B l a Z h) : HandSPX.FlyingZ B l a Z (h.push o) := by
  obtain ⟨x1, x2, x3, oe, vs, T, oT, ts, e1, z, e2, e3, e4, e5, e6, e7, e8⟩ := x
  exact ⟨fun b u q => Heap.get?_push_of_some _ (x1 b u q), x2, x3.of_keeps fun b u q _ => ⟨u, Heap.get?_push_of_some _ q, rfl⟩, oe, vs, T, oT, ts, Heap.get?_push_of_some _ e1, z, e2, e3, e4, e5, Heap.get?_push_of_some _ e6, e7, e8⟩
/-- an exception that flies is neither a frame nor a cell's object -/
theorem flying_apart {B h : Heap} {env : Env} {outer : List Env} {a L : Addr} {Z : Obj → Prop} (hf : env.frame = some L) (x : HandSPX.FlyingZ B (env :: outer) a Z h) : a ≠ L ∧ a ∉ frs outer := by
  obtain ⟨_, _, ff, oe, vs, _, _, _, e1, _, e2, _⟩ := x
  have out : a ∉ frs (env :: outer) := fun m => by
    obtain ⟨_, o, q, nf⟩ := ff.mem m
    rw [e1] at q
    cases q
    exact nf vs e2
  exact ⟨fun z => out (List.mem_filterMap.mpr ⟨env, List.mem_cons_self, by rw [hf, z]⟩), fun m => out (by
    obtain ⟨e, h1, h2⟩ := List.mem_filterMap.mp m
    exact List.mem_filterMap.mpr ⟨e, List.mem_cons_of_mem _ h1, h2⟩)⟩
/-- nor did it stand when the call began -/
theorem flying_new {B h : Heap} {l : List Env} {a : Addr} {Z : Obj → Prop} {sI : Shared} (hx : X.ex = []) (I : Inv X pins σ H sI) (nb : ∀ b o, sI.heap.get? b = some o → b ∉ frs X.stack → B.get? b = some o) (nf : a ∉ frs X.stack) (x : HandSPX.FlyingZ B l a Z h) :
    X.s_0.heap.get? a = none := by
  cases q : X.s_0.heap.get? a with
  | none => rfl
  | some o =>
    obtain ⟨o', q'⟩ := I.base.there a o q (by rw [hx]; exact List.not_mem_nil)
    have z := nb a o' q' nf
    rw [x.2.1] at z
    cases z
end
/-- what is wished of the body's exception: it is of one of the classes, and kept in the slot j it leads on -/
def wKept (K : PySem.W.Frag) (cs : List Value) (i j : Nat) (D : Ends) : WX := fun cls d σ H =>
  PySem.W.exmAny K cls cs = some true ∧ ∀ a, H a = none → D.nx (((σ.set i (some (.ref a))).set j (some (.ref a))).set i none) (upd H a (ExH cls d a))
end Vx
namespace Vx
open PySem PySem.Spec PyProof.Rows L2
abbrev lookBy (X : Cx) (pins : List (Addr × Obj)) (D : Ends) (hds : List ExceptHandler) : Value → Shared → Prop := fun e s1 =>
  wpAny (model X.prog X.w) X.A (noteFrame e X.env)
    (fun _ s2 => wpAny (model X.prog X.w) X.A (setFlight e none)
      (fun _ s3 => wpAny (model X.prog X.w) X.A (handleBy e X.env hds) (SP X pins D) X.xe s3) X.xe s2) X.xe s1
/-- try: body / except (x1, x2, x3) as n: y = n -/
theorem ps_kept {X : Cx} {x1 x2 x3 n y : Str} {c1 c2 c3 : Value} {i j kk : Nat} {body : List Stmt} {p1 p2 p3 tp py pn pa pos pos' : Pos} {tb : WX → TS}
    (hs : X.stack = X.env :: X.outer) (hf : X.env.frame = some X.env.locals) (hx : X.ex = []) (hN : X.N.Nodup) (hi : X.N[i]? = some n) (hln : X.env.kindOf n = some .local) (hj : X.N[j]? = some y) (hly : X.env.kindOf y = some .local)
    (k1 : Names X x1 c1) (k2 : Names X x2 c2) (k3 : Names X x3 c3)
    (hb : ∀ (W : WX) (q : List (Addr × Obj)) (xe : Value → Shared → Prop), Takes (X.tr q xe) W → PassesOwn (model X.prog X.w) X.A X.env xe → PSs (X.tr q xe) body (tb W))
    (hd0 : (n == ("__debug__" : Str)) = false := by decide) (hd1 : (n == ("__classdict__" : Str)) = false := by decide) :
    PS X (.Try body [.ExceptHandler (some (.Tuple [.Name x1 p1, .Name x2 p2, .Name x3 p3] kk tp)) (some n) [.Assign [.Name y py] (.Name n pn) pa] pos'] [] [] pos) (fun D σ H => tb (wKept X.K [c1, c2, c3] i j D) D σ H) := by
  refine ⟨fun pins s σ H D I h => wpAny_Try_except (wpAny_mono ((hb (wKept X.K [c1, c2, c3] i j D) (X.pn ++ pins)
    (lookBy X pins D [.ExceptHandler (some (.Tuple [.Name x1 p1, .Name x2 p2, .Name x3 p3] kk tp)) (some n) [.Assign [.Name y py] (.Name n pn) pa] pos'])
    (fun u s' xx => ?_) PassesOwn.looking).run [] s σ H D (I.toTry _) h) (fun fl s1 hsp => ?_) fun _ _ z => z)⟩
  · -- caught
    obtain ⟨a, B, sI, _, σ', H', cls, d, rfl, J', nb, up, sky, na, os, ag, hm, q⟩ := xx
    have ok := I.ok
    have J : Inv X pins σ' H' sI := J'.ofTry ok
    have hfr : X.A.frames = some (X.env :: X.outer) := ok.frames.trans (congrArg some hs)
    rw [show (X.tr (X.pn ++ pins) (lookBy X pins D [.ExceptHandler (some (.Tuple [.Name x1 p1, .Name x2 p2, .Name x3 p3] kk tp)) (some n) [.Assign [.Name y py] (.Name n pn) pa] pos'])).stack = X.env :: X.outer from hs] at sky
    show wpAny (model X.prog X.w) X.A (noteFrame (.ref a) X.env) _ _ _
    refine Sky.land Zc.steady hfr hf sky fun h3 fl3 up3 => ?_
    obtain ⟨nL, nF⟩ := flying_apart hf fl3
    have out : a ∉ frs X.stack := by
      rw [hs]
      intro m
      obtain ⟨e, m1, m2⟩ := List.mem_filterMap.mp m
      rcases List.mem_cons.mp m1 with rfl | m1
      · rw [hf] at m2
        exact nL (Option.some.inj m2).symm
      · exact nF (List.mem_filterMap.mpr ⟨e, m1, m2⟩)
    have young : X.s_0.heap.get? a = none := flying_new hx J nb out fl3
    have others : ∀ p ∈ X.pn ++ pins, p.1 ≠ a := fun p hp z => by
      obtain ⟨e1, _, e2, e3, _⟩ := J.pin p hp
      have w := nb p.1 p.2 e1 (by rw [z]; exact out)
      rw [z, fl3.2.1] at w
      cases w
    obtain ⟨oe3, vs3, he3, hz3, hd3⟩ := fl3.there
    have J3 : Inv X pins σ' H' { s' with heap := h3 } := J.landed nb fl3.1 (up.trans up3) os ag
    have S3 := J3.suite he3 hd3 na nL nF
    have nm : ∀ {x : Str} {c : Value} {p : Pos} {Q E}, Names X x c → Q c { s' with heap := h3 } → wpAny (model X.prog X.w) (X.A.mark (some (.ref a))) (eval (.Name x p) X.env) Q E { s' with heap := h3 } := by
      rintro x c p Q E ⟨hg, hdb, hm | ⟨hm, hv, hnn⟩⟩ hq
      · exact ld_glob (X := X.suite a ((a, oe3) :: (X.pn ++ pins))) S3 hg hm hq hdb
      · exact ld_blt (X := X.suite a ((a, oe3) :: (X.pn ++ pins))) S3 hg hm hv hq hnn hdb
    refine wpAny_handleBy_cons (codeAny_handlers_test (Tuple_ (spliced_more (nm k1 (spliced_more (nm k2 (spliced_more (nm k3 (spliced_none (wpAny_newObj_type ?_)))))))))) (fun z => by cases z)
    -- the tuple of the classes
    have fl4 := flying_push { cls := .type "tuple", dict := none, data := .seq [c1, c2, c3].toArray } fl3
    obtain ⟨oe4, vs4, he4, hz4, hd4⟩ := fl4.there
    have up4 : h3.UpToSlots (h3.push { cls := .type "tuple", dict := none, data := .seq [c1, c2, c3].toArray }) := Heap.UpToSlots.of_keeps fun b o z => Heap.get?_push_of_some _ z
    have J4 : Inv X pins σ' H' { s' with heap := h3.push { cls := .type "tuple", dict := none, data := .seq [c1, c2, c3].toArray } } := J.landed nb fl4.1 ((up.trans up3).trans up4) os ag
    have LT : PySem.W.Looks (model X.prog X.w) (h3.push { cls := .type "tuple", dict := none, data := .seq [c1, c2, c3].toArray }) (typeOf (.ref a)) cls := fun A Q E s k z => wpAny_typeOf_ref (k _ _ he4) (by rw [hz4.1]; exact z)
    refine (PySem.W.exm_tup3 J4.kIn LT (Heap.get?_push_size h3 rfl) hm).here ?_
    refine codeAny_handlers_suite_as (HandSPX.lands_againZ fl4 fun h5 fl5 up5 => ?_)
    obtain ⟨oe5, vs5, he5, hz5, hd5⟩ := fl5.there
    have J5 : Inv X pins σ' H' { s' with heap := h5 } := J.landed nb fl5.1 (((up.trans up3).trans up4).trans up5) os ag
    refine store_ok (X := X.suite a ((a, oe5) :: (X.pn ++ pins))) (v := .ref a) (J5.suite he5 hd5 na nL nF) hN hi (.inl hln) rfl (fun s6 S6 => ?_) (.inr hln)
    have put : PSs (X.suite a ((a, oe5) :: (X.pn ++ pins))) [.Assign [.Name y py] (.Name n pn) pa] (tAsg (tVar i) (gName j)) := pss_one (ps_set (hf := .inr hly) hN hj (.inl hly) (pe_var hi (.inl hln) hd0 hd1))
    · have il : i < σ'.length := by
        rw [J.len]
        exact (List.getElem?_eq_some_iff.mp hi).1
      refine wpAny_mono (put.run [] s6 _ H' ⟨fun σ7 H7 => σ7 = (σ'.set i (some (.ref a))).set j (some (.ref a)) ∧ H7 = H', fun _ _ => False, fun _ _ => False, fun _ _ => False⟩ S6 ⟨.ref a, List.getElem?_set_self il, rfl, rfl⟩) (fun fl s7 hsp => ?_) (fun _ _ z => False.elim z)
      cases fl with
      | next =>
        obtain ⟨σ7, H7, S7, e1, e2⟩ := hsp
        subst e1 e2
        have here := (S7.pin (a, oe5) (List.mem_cons_self ..)).1
        exact gone_ok (track (S7.unsuite ok) young here hz5 hd5 na nL others) hN hi hln fun s8 J8 => ⟨_, _, J8, q a na⟩
      | ret u => exact let ⟨_, _, _, _, _, z⟩ := hsp; z.elim
      | brk => exact let ⟨_, _, _, z⟩ := hsp; z.elim
      | cont => exact let ⟨_, _, _, z⟩ := hsp; z.elim
  · cases fl with
    | next => exact let ⟨σ', H', J', q⟩ := hsp; wpAny_execs_nil ⟨σ', H', J'.ofTry I.ok, q⟩
    | brk => exact let ⟨σ', H', J', q⟩ := hsp; ⟨σ', H', J'.ofTry I.ok, q⟩
    | cont => exact let ⟨σ', H', J', q⟩ := hsp; ⟨σ', H', J'.ofTry I.ok, q⟩
    | ret u => exact let ⟨v, σ', H', J', r, q⟩ := hsp; ⟨v, σ', H', J'.ofTry I.ok, r, q⟩
end Vx
namespace Vx
open PySem PySem.Spec PyProof.Rows L2
/-! ## what is asked of a kept exception: its class, its fields -/
structure ExF (K : PySem.W.Frag) (C : Addr) : Prop where
  hcl : (PySem.W.clsIn K C).isSome = true
  hga : PySem.W.findIn K (.ref C) "__getattribute__" = some (some (.builtin "BaseException.__getattribute__"))
  hgt : PySem.W.findIn K (.ref C) "__getattr__" = some none
  hsub : PySem.W.subIn K (.ref C) (.type "BaseException") = some true
  hdi : PySem.W.hasDictIn K C = true
  ha : PySem.W.findIn K (.ref C) "__class__" = some (some (.builtin "object.__class__"))
  hn : PySem.W.specialIn K (.builtin "object.__class__") "__get__" = some (some (.builtin "getset_descriptor.__get__"))
  htk : PySem.W.takesIn K (.builtin "object.__class__") = some true
  hm : PySem.W.mroIn K C (.type "object") = some true
section
variable {X : Cx} {pins : List (Addr × Obj)} {σ : L2.St} {H : Hp} {s : Shared}
theorem exh_inst {a C d : Addr} {fs : List (Str × V)} (I : Inv X pins σ H s) (e : H a = some (ExH (.ref C) (some d) a)) (ed : H d = some (.xd fs)) :
    ∃ (oe od : Obj) (mA : Str → Option Value), PySem.W.InstAt s.heap a oe C (some od) ∧ (∀ n, PySem.W.lookIn n od = some (mA n)) ∧ ∀ n, RelO (fs.lookup n) (mA n) := by
  obtain ⟨oe, vs, h1, hz, h2⟩ := exh_at I.hok e
  have x : ObjOk X.prog X.w H s.heap d (.xd fs) := I.hok d _ ed
  obtain ⟨mA, ns, r⟩ := x
  obtain ⟨od, ho, hl⟩ := lookIn_ns ns
  exact ⟨oe, od, mA, ⟨h1, hz.1, by unfold PySem.W.notCls; rw [h2] <;> rfl, by rw [hz.2]; exact ho⟩, hl, r⟩
end
section
variable {X : Cx}
/-- isinstance(e, c) of a kept exception -/
def rIsH (K : PySem.W.Frag) : List V → Hp → VK → Prop := fun xs H Q => ∃ (a C d : Addr) (fs : List (Str × V)) (c : V) (u : Value) (b : Bool), xs = [.ref a, c] ∧ ClsV c u ∧ H a = some (ExH (.ref C) (some d) a) ∧ H d = some (.xd fs) ∧ ExF K C ∧
  PySem.W.kitOne K (.ref C) u = some b ∧ Q (.bl b) H
theorem call_isH : CallR X (.builtin "isinstance") (rIsH X.K) := by
  intro ps s σ H xs us Q I rel h
  obtain ⟨a, C, d, fs, c, u, b, rfl, kc, e, ed, F, ek, q⟩ := h
  obtain ⟨u1, u2, rfl, r1, r2⟩ := vals2 rel
  cases (show u1 = Value.ref a from r1)
  cases kc.eq r2
  obtain ⟨oe, od, mA, J, _, _⟩ := exh_inst I e ed
  exact PySem.W.kia_one (PySem.W.kitx_exc F.hcl F.hga F.hgt F.hsub F.ha F.hn F.htk F.hm) I.kIn J ek (fun z => nomatch z) fun tk => ⟨.bl b, H, I.tok tk, rfl, q⟩
/-- e.f of a kept exception -/
def tHFld (K : PySem.W.Frag) (te : TE) (f : Str) : TE := fun σ H Q => te σ H fun x H1 => ∃ (a C d : Addr) (fs : List (Str × V)) (v : V), x = .ref a ∧ H1 a = some (ExH (.ref C) (some d) a) ∧ H1 d = some (.xd fs) ∧ ExF K C ∧
  PySem.W.findIn K (.ref C) f = some none ∧ fs.lookup f = some v ∧ Q v H1
theorem pe_hfld {e : Expr} {te : TE} {pos : Pos} {f : Str} (he : PE X e te) (hb : attributeBase e f X.env (eval e X.env) = eval e X.env := by rfl) : PE X (.Attribute e f pos) (tHFld X.K te f) := by
  refine ⟨fun pins s σ H Q I h => attr_of hb (thn (he.run pins s σ H _ I h) ?_)⟩
  rintro u s1 ⟨x, H1, I1, rx, a, C, d, fs, v, rfl, ea, ed, F, hno, hl, q⟩
  cases (show u = Value.ref a from rx)
  obtain ⟨oe, od, mA, J, hk, hr⟩ := exh_inst I1 ea ed
  obtain ⟨u, hu, ru⟩ := RelO.some_of (v := v) (o := mA f) (by rw [← hl]; exact hr f)
  exact HandSPX.exc_get I1.kIn J F.hga F.hgt F.hsub (PySem.W.findObj_own F.hdi hno rfl (by rw [hk, hu])) (handed_of ru) ⟨v, H1, I1.tok _, ru, q⟩
end
end Vx
namespace Vm
open PySem PySem.Spec PyProof.Rows PySem.Calls
/-! ## an own exception class whose `__init__` keeps its one argument: the machine's side -/
section
open Builtin Builtin.ObjectAttr
variable {pr : Program} {wo : World} {ar : Around} {Er : Value → Shared → Prop} {Re : Result → Shared → Prop} {he : Heap} {ge : Array GenState} {dr : Drawn} {tn : Nat} {ox : OsState}
variable {Bn newId initId : String} {up : List Value} {K : PySem.W.Frag} {C : Addr}
/-- the object's first field: its dict is made -/
theorem first_field {x : Addr} {fn : Str} {fk : Tok} {v : Value} {fv : Array Value} (SF : PySem.StoreFacts Bn up "object.__setattr__" "object") (KI : K.In he) (hx : he.get? x = some { cls := .ref C, data := .fields fv })
    (ho : PySem.W.excOver K C up = true) (ht : PySem.W.takerIn K C fn = some none) (hd : PySem.W.hasDictIn K C = true)
    (hq : ∀ h2 tk dx, (∀ b o, b ≠ x → he.get? b = some o → h2.get? b = some o) → he.objs.size ≤ dx → dx ≠ x → h2.get? x = some { cls := .ref C, dict := some dx, data := .fields fv } →
      h2.Ns1 dx (fun y => if y = fn then some v else none) → Re (.ok (.ret .none)) ⟨h2, ge, dr, tk, ox⟩) :
    codeAny (model pr wo) ar (.call (.builtin "object.__setattr__") ⟨[.ref x, .str fn fk, v], []⟩) Re ⟨he, ge, dr, tn, ox⟩ := by
  refine PySem.W.osa_openX (s := ⟨he, ge, dr, tn, ox⟩) (ox := { cls := .ref C, data := .fields fv }) (od := none) SF KI ⟨hx, rfl, rfl, trivial⟩ ho ht fun b => ?_
  obtain ⟨cd, hc, hd'⟩ : ∃ cd, PySem.W.clsIn K C = some cd ∧ cd.hasDict = true := by
    unfold PySem.W.hasDictIn at hd
    cases e : PySem.W.clsIn K C with
    | none =>
      rw [e] at hd
      cases hd
    | some cd =>
      rw [e] at hd
      exact ⟨cd, rfl, hd⟩
  have lk : PySem.W.Looks (model pr wo) he (classData C) cd := PySem.W.looks_clsIn KI hc
  have ne : x ≠ he.objs.size := Nat.ne_of_lt (Heap.lt_size hx)
  show wpAny _ _ (storeInOwnDict (.ref x) (.ref C) (.str fn fk) fn v b) _ _ _
  obtain ⟨n1, n2, n3, n4, n5, n6, n7, n8, n9, n10, n11⟩ := cd
  dsimp only at hd'
  subst hd'
  unfold storeInOwnDict ownDictForStores
  repeat (first | with_reducible refine HandSPX.store_in_new ?_ ?_ | with_reducible refine wpAny_loadPart_at hx ?_ | with_reducible refine lk.at ?_ | wp_step)
  · exact ⟨_, #[], _, (Heap.get?_update_ne _ _ _ _ ne.symm).trans (Heap.get?_push_at rfl rfl), rfl, fun e z => absurd z (by simp), fun _ => rfl⟩
  · intro h2 tk hn hs
    refine hq h2 tk he.objs.size (fun b o hb z => ?_) (Nat.le_refl _) ne.symm ?_ hn
    · exact (hs.2 b (Nat.ne_of_lt (Heap.lt_size z))).trans ((Heap.get?_update_ne _ _ _ _ hb).trans (Heap.get?_push_of_some _ z))
    · have z : (he.push { cls := .type "dict", data := .dict #[] }).get? x = some { cls := .ref C, data := .fields fv } := Heap.get?_push_of_some _ hx
      exact (hs.2 x ne).trans (Heap.get?_update_self _ z rfl)
end
end Vm
namespace Vm
open PySem PySem.Spec PySem.Calls
section
open Builtin Builtin.ObjectAttr
variable {mo : Model} {pr : Program} {wo : World} {ar : Around} {Er : Value → Shared → Prop} {Re : Result → Shared → Prop} {he : Heap} {ge : Array GenState} {dr : Drawn} {tn : Nat} {ox : OsState}
variable {n1 n2 : Str} {C N : Addr} {b1 bm up : List Value} {hdc : Bool} {sn : List Str} {su : List Value} {ab : Bool} {co : Option Bool} {dd : Option Addr} {k0 k1 k2 k3 k5 : Option Value} {Bn newId initId : String}
variable {rest : List Value} {kw : List (Str × Value)}
theorem see_new (F : ExcBaseFacts Bn newId initId up) (hT : ∀ X : String, bm.contains (.type X) = up.contains (.type X)) {Q : Unit → Shared → Prop}
    (hC : he.get? C = some (excClassObj n1 n2 C N b1 bm hdc sn su ab co dd k0 k1 k2 k3 k5 newId)) (hq : Q () ⟨he, ge, dr, tn, ox⟩) :
    wpAny mo ar (checkBuiltinCall newId ⟨.ref C :: rest, kw⟩) Q Er ⟨he, ge, dr, tn, ox⟩ := by
  have inB : (Value.ref C :: bm).contains (.type Bn) = true := by
    rw [List.contains_cons, hT, F.hasB, Bool.or_true]
  have st := F.noStar
  simp only [checkBuiltinCall, F.newKind, F.newSplit, F.newRow]
  repeat (first
    | refine wpAny_loadPart_at hC ?_
    | (refine wpAny_isSubtype_exc hC ?_; rw [inB])
    | refine wpAny_staticBase_exc hC ?_
    | refine wpAny_madeBy_exc hC ?_
    | simp only [bne_self_eq_false, Bool.false_eq_true, if_false]
    | wp_step)
  exact hq
theorem do_new (F : ExcBaseFacts Bn newId initId up) (hT : ∀ X : String, bm.contains (.type X) = up.contains (.type X))
    (hC : he.get? C = some (excClassObj n1 n2 C N b1 bm hdc sn su ab co dd k0 k1 k2 k3 k5 newId)) (hl : rest.length ≤ sizeLine)
    (hq : Re (.ok (.ret (.ref (he.objs.size + 1)))) ⟨(he.push (PySem.W.kdv_tup rest)).push (HandSPX.excO C he.objs.size), ge, dr, tn, ox⟩) :
    codeAny (model pr wo) ar (.builtin newId ⟨.ref C :: rest, kw⟩) Re ⟨he, ge, dr, tn, ox⟩ := by
  have ends := F.ends
  have inB : (Value.ref C :: bm).contains (.type Bn) = true := by
    rw [List.contains_cons, hT, F.hasB, Bool.or_true]
  have noA : (Value.ref C :: bm).contains (.type "AttributeError") = false := by
    rw [List.contains_cons, hT, F.noAttr]
    rfl
  have noN : (Value.ref C :: bm).contains (.type "NameError") = false := by
    rw [List.contains_cons, hT, F.noName]
    rfl
  refine codeAny_builtinAt F.entry ?_
  unfold Builtin.«BaseException.__new__»
  refine PySem.wpAt_bind ?_
  show wpAt _ _ _ (stack >>= _) _ _ _
  refine PySem.wpAt_bind (PySem.wpAt_stack fun p q => PySem.wpAt_of_wpAny ?_)
  wp_walk
  refine PySem.wpAt_of_wpAny ?_
  rw [F.owner]
  repeat (first
    | with_reducible refine wpAny_madeHere_exc F.canon hC ?_
    | with_reducible refine wpAny_loadPart_at hC ?_
    | (with_reducible refine wpAny_isSubtype_exc hC ?_; first | rw [inB] | rw [noA] | rw [noN])
    | wp_step)
  show Re _ _
  rw [Heap.size_push]
  exact hq
theorem see_call {Q : Unit → Shared → Prop} (hC : he.get? C = some (excClassObj n1 n2 C N b1 bm hdc sn su ab co dd k0 k1 k2 k3 k5 newId)) (hq : Q () ⟨he, ge, dr, tn, ox⟩) :
    wpAny mo ar (checkBuiltinCall "type.__call__" ⟨.ref C :: rest, kw⟩) Q Er ⟨he, ge, dr, tn, ox⟩ := by
  have sb := tc_sub
  have ty : (⟨he, ge, dr, tn, ox⟩ : Shared).TypeIs (.ref C) "type" := ⟨_, hC, rfl⟩
  simp only [checkBuiltinCall, tc_kind, tc_split]
  repeat (any_goals (first
    | assumption
    | with_reducible refine wpAny_loadPart_at hC ?_
    | with_reducible refine wpAny_onRaise ?_
    | with_reducible refine wpAny_map ?_
    | wp_step))
variable {fI : Addr}
theorem by_class (F : ExcBaseFacts Bn newId initId up) (hT : ∀ X : String, bm.contains (.type X) = up.contains (.type X))
    (hC : he.get? C = some (excClassObj n1 n2 C N b1 bm hdc sn su ab co dd k0 k1 k2 k3 k5 newId)) (hl : rest.length ≤ sizeLine)
    (hi : PySem.W.Looks (model pr wo) he (typeLookup (.ref C) "__init__") (some (.ref fI))) (hb : ∀ z, PySem.W.Looks (model pr wo) he (bindSpecial (.ref fI) z) (.ref fI, [z]))
    (hq : codeAny (model pr wo) (ar.under (.builtin "type.__call__" ⟨.ref C :: rest, kw⟩)) (.call (.ref fI) ⟨.ref (he.objs.size + 1) :: rest, kw⟩) (PySem.W.InitBack (he.objs.size + 1) Re)
      ⟨(he.push (PySem.W.kdv_tup rest)).push (HandSPX.excO C he.objs.size), ge, dr, tn, ox⟩) :
    codeAny (model pr wo) ar (.call (.ref C) ⟨rest, kw⟩) Re ⟨he, ge, dr, tn, ox⟩ := by
  have t1 := tc_lookup
  have t2 := tc_bind (.ref C)
  have ty : (⟨he, ge, dr, tn, ox⟩ : Shared).TypeIs (.ref C) "type" := ⟨_, hC, rfl⟩
  refine codeAny_of_tree ?_
  show wpAny _ _ (callAny (.ref C) _) _ _ _
  repeat (any_goals (first | assumption | with_reducible refine wpAny_loadPart_at hC ?_ | wp_step))
  refine ⟨rfl, ?_⟩
  refine codeAny_call_builtin_at (Code.quiet_builtin _ (by decide +kernel)) entry_typeCall (see_call hC ?_)
  show wpAny (model pr wo) _ (Builtin.«type.__call__» ⟨.ref C :: rest, kw⟩) _ _ _
  repeat (first
    | with_reducible refine wpAny_loadPart_at hC ?_
    | with_reducible refine wpAny_madeBy_exc hC ?_
    | wp_step)
  refine codeAny_call_builtin_code (Code.quiet_builtin _ F.quiet) (see_new F hT hC ?_)
  refine do_new F hT hC hl ?_
  show wpAny _ _ _ _ _ _
  have kp : ∀ b o, he.get? b = some o → ((he.push (PySem.W.kdv_tup rest)).push (HandSPX.excO C he.objs.size)).get? b = some o := fun b o e => Heap.get?_push_of_some _ (Heap.get?_push_of_some _ e)
  have C1 := kp _ _ hC
  have x1 : ((he.push (PySem.W.kdv_tup rest)).push (HandSPX.excO C he.objs.size)).get? (he.objs.size + 1) = some (HandSPX.excO C he.objs.size) := by
    heap_get
  have own : (Value.ref C :: bm).contains (.ref C) = true := by simp
  have i1 := hi.keeps kp
  have j1 := (hb (.ref (he.objs.size + 1))).keeps kp
  unfold isInstance
  repeat (first
    | with_reducible refine wpAny_loadPart_at x1 ?_
    | (with_reducible refine wpAny_isSubtype_exc C1 ?_; rw [own])
    | wp_step)
  show wpAny _ _ (typeLookup (.ref C) _) _ _ _
  refine i1.at ?_
  refine wpAny_holding (wpAny_bind (j1.at ?_))
  refine wpAny_bind (wpAny_call (codeAny_mono hq fun r s' z => ?_))
  rcases r with e | (v | _ | _ | _) <;> first | exact z | exact z.elim | skip
  obtain ⟨rfl, z⟩ := z
  first
    | exact wpAny_pure (wpAny_pure z)
    | (wp_walk; exact z)
end
end Vm
namespace Vm
open PySem PySem.Spec PyProof.Rows PySem.Calls L2
/-- the text of an `__init__` that keeps its one argument -/
def iPar (f : Str) (p1 p2 : Pos) : Arguments := { posonlyargs := [], args := [{ arg := "self", annotation := none, pos := p1 }, { arg := f, annotation := none, pos := p2 }], vararg := none, kwonlyargs := [], kw_defaults := [], kwarg := none, defaults := [] }
def iBod (f : Str) (q1 q2 q3 q4 : Pos) : List Stmt := [.Assign [.Attribute (.Name "self" q1) f q2] (.Name f q3) q4]
def iSco (f : Str) : Scope := { kind := .function, names := [("self", .local), (f, .local)], isGenerator := false, isCoroutine := false, more := [] }
def names6 : List Str := ["value", "index", "path", "line", "name", "found"]
/-- what is asked of the class, all at once -/
def clB (K : PySem.W.Frag) (up : List Value) (newId : String) (f : Str) (C fI : Addr) : Bool :=
  PySem.W.excInitIn K C up newId && (PySem.W.excOver K C up && (PySem.W.findIn K (.ref C) "__setattr__" == some (some (.builtin "object.__setattr__")) && (PySem.W.takerIn K C f == some none && (PySem.W.hasDictIn K C &&
  (PySem.W.findIn K (.ref C) "__init__" == some (some (.ref fI)) && (PySem.W.typeIn K (.ref fI) == some (.type "function") && (PySem.W.keepIn K (.ref C) && PySem.W.findIn K (.ref C) f == some none)))))))
structure Cl (K : PySem.W.Frag) (up : List Value) (newId : String) (f : Str) (C fI : Addr) : Prop where
  ini : PySem.W.excInitIn K C up newId = true
  ovr : PySem.W.excOver K C up = true
  sa : PySem.W.findIn K (.ref C) "__setattr__" = some (some (.builtin "object.__setattr__"))
  tk : PySem.W.takerIn K C f = some none
  hd : PySem.W.hasDictIn K C = true
  iC : PySem.W.findIn K (.ref C) "__init__" = some (some (.ref fI))
  tI : PySem.W.typeIn K (.ref fI) = some (.type "function")
  kC : PySem.W.keepIn K (.ref C) = true
  no : PySem.W.findIn K (.ref C) f = some none
theorem clB_ok {K : PySem.W.Frag} {up : List Value} {newId : String} {f : Str} {C fI : Addr} (h : clB K up newId f C fI = true) : Cl K up newId f C fI := by
  unfold clB at h
  simp only [Bool.and_eq_true] at h
  obtain ⟨h1, h2, h3, h4, h5, h6, h7, h8, h9⟩ := h
  exact ⟨h1, h2, eq_of_beq h3, eq_of_beq h4, h5, eq_of_beq h6, eq_of_beq h7, h8, eq_of_beq h9⟩
/-- where its `__init__` stands -/
def Ini (K : PySem.W.Frag) (f qual : Str) (fI : Addr) : Prop := ∃ (oc : Value) (od : Option Addr) (dv kv doc pm : Value) (an : Option Addr) (cdv ct : Value) (sl : Array (Option Value)) (p1 p2 q1 q2 q3 q4 : Pos),
    K.lookup fI = some ⟨oc, od, .func (PySem.W.fnOf "__init__" qual (iPar f p1 p2) (iBod f q1 q2 q3 q4) (iSco f) .none .none doc pm an cdv ct), sl⟩ ∧ PySem.W.codeIn K cdv qual = true
theorem at_name {mo : Model} {s : Shared} {nm : Str} {sc : Scope} {L a : Addr} {cd : Value} {m : Str → Option Value} {x : Str} {pos : Pos} {v : Value} {Q : Value → Shared → Prop} {ar : Around} {Er : Value → Shared → Prop}
    (hn : s.heap.Ns L m) (hv : m x = some v) (h : Q v s) (hk : sc.kind = .function := by rfl) (hl : (envOfC nm sc L a cd).kindOf x = some .local := by rfl) (hd : (x == ("__debug__" : Str)) = false := by decide) :
    wpAny mo ar (eval (.Name x pos) (envOfC nm sc L a cd)) Q Er s :=
  wpAny_Name (wpAny_loadName_local hk hl hn hv h) hd
section
variable {pr : Program} {wo : World} {ar : Around} {Re : Result → Shared → Prop} {s : Shared} {K : PySem.W.Frag} {C fI : Addr} {f qual : Str} {up : List Value} {Bn newId initId : String}
theorem init_runs (SF : PySem.StoreFacts Bn up "object.__setattr__" "object") (T : Cl K up newId f C fI) (hI : Ini K f qual fI) (hf : f ∈ names6) {x t0 : Addr} {v : Value} {args : Args} (hargs : args = ⟨[.ref x, v], []⟩ ∨ args = ⟨[.ref x], [(f, v)]⟩)
    (KI : K.In s.heap) (lim : s.heap.NoLimit) (hx : s.heap.get? x = some (HandSPX.excO C t0)) (room : ar.depth < recursionLimit)
    (hq : ∀ h2 tk dx, (∀ b o, b ≠ x → s.heap.get? b = some o → h2.get? b = some o) → s.heap.objs.size ≤ dx → dx ≠ x → h2.get? x = some { cls := .ref C, dict := some dx, data := .fields #[.ref t0, .none, .none, .none, .bool false, .none] } →
      h2.Ns1 dx (fun y => if y = f then some v else none) → Re (.ok (.ret .none)) { s with heap := h2, toks := tk }) :
    codeAny (model pr wo) ar (.call (.ref fI) args) Re s := by
  obtain ⟨oc, od, dv, kv, doc, pm, an, cdv, ct, sl, p1, p2, q1, q2, q3, q4, hl, hc⟩ := hI
  have go : (∀ (s' : Shared), BindsTo s' (PySem.W.fnOf "__init__" qual (iPar f p1 p2) (iBod f q1 q2 q3 q4) (iSco f) .none .none doc pm an cdv ct) args [("self", .ref x), (f, v)]) →
      (([("self", .ref x), (f, v)] : List (Str × Value)).all fun y => (iSco f).names.lookup y.1 == some .local || (iSco f).names.lookup y.1 == some .cell) = true →
      (∀ L cd, (envOfC qual (iSco f) L fI cd).kindOf "self" = some .local) → (∀ L cd, (envOfC qual (iSco f) L fI cd).kindOf f = some .local) → (f == ("__debug__" : Str)) = false →
      (∀ L cd, bindL (envOfC qual (iSco f) L fI cd).kindOf [("self", Value.ref x), (f, v)] (fun _ => none) "self" = some (Value.ref x)) → (∀ L cd, bindL (envOfC qual (iSco f) L fI cd).kindOf [("self", Value.ref x), (f, v)] (fun _ => none) f = some v) →
      codeAny (model pr wo) ar (.call (.ref fI) args) Re s := by
    intro b1 b2 b3 b4 b5 b6 b7
    refine Att.call_fn (binds := [("self", .ref x), (f, v)]) KI lim hl hc room (b1 s) b2 (fun s₁ IC => ?_) rfl rfl rfl
    obtain ⟨h₁, tk₁, rfl⟩ := IC.toInCall.same
    have kp : ∀ b o, s.heap.get? b = some o → h₁.get? b = some o := IC.toInCall.keep
    have hn := IC.toInCall.ns
    have K1 : K.In h₁ := KI.keeps kp
    have x1 := kp _ _ hx
    show wpAny _ _ (execs _ _) _ _ _
    refine wpAny_execs_cons (plainObj_wpAny_Assign_Attribute ?_)
    refine at_name (v := v) hn (b7 _ _) (at_name (v := .ref x) hn (b6 _ _) ?_ rfl (b3 _ _)) rfl (b4 _ _) b5
    refine PySem.W.set_plain K1 (ox := HandSPX.excO C t0) (od := none) ⟨x1, rfl, rfl, trivial⟩ T.sa ?_
    refine first_field SF K1 x1 T.ovr T.tk T.hd (fun h2 tk dx k2 dn dne x2 n2 => ?_)
    show wpAny _ _ (execs _ _) _ _ _
    have z : s.heap.objs.size < h₁.objs.size := hn.lt
    exact wpAny_execs_nil (hq h2 tk dx (fun b o hb e => k2 b o hb (kp b o e)) (Nat.le_of_lt (Nat.lt_of_lt_of_le z dn)) dne x2 n2)
  simp only [names6, List.mem_cons, List.not_mem_nil, or_false] at hf
  rcases hf with rfl | rfl | rfl | rfl | rfl | rfl <;> rcases hargs with rfl | rfl <;>
    exact go (fun s' => .of_eq (by first | rfl | with_unfolding_all rfl)) (by first | rfl | decide | with_unfolding_all rfl) (fun _ _ => by rfl) (fun _ _ => by rfl) (by decide) (fun _ _ => by first | rfl | with_unfolding_all rfl | kernel_rfl) (fun _ _ => by first | rfl | with_unfolding_all rfl | kernel_rfl)
end
end Vm
namespace Vm
open PySem PySem.Spec PyProof.Rows PySem.Calls L2 Vx
section
variable {X : Cx} {pins : List (Addr × Obj)} {σ : L2.St} {H : Hp} {s : Shared}
/-- two objects laid at once -/
theorem laid_two {h2 : Heap} {e d tk : Nat} {o1 o2 : HO} (I : Inv X pins σ H s) (kp : ∀ b o, s.heap.get? b = some o → h2.get? b = some o) (he : s.heap.objs.size ≤ e) (hd : s.heap.objs.size ≤ d)
    (k1 : ObjOk X.prog X.w (upd (upd H d o1) e o2) h2 d o1) (k2 : ObjOk X.prog X.w (upd (upd H d o1) e o2) h2 e o2) (de : d ≠ e) : Inv X pins σ (upd (upd H d o1) e o2) { s with heap := h2, toks := tk } := by
  have ne : H e = none := I.hok.fresh he
  have nd : H d = none := I.hok.fresh hd
  have oe : ∀ {b : Addr} {o : Obj}, s.heap.get? b = some o → b ≠ e := fun {b o} q => Nat.ne_of_lt (Nat.lt_of_lt_of_le (Heap.lt_size q) he)
  have od : ∀ {b : Addr} {o : Obj}, s.heap.get? b = some o → b ≠ d := fun {b o} q => Nat.ne_of_lt (Nat.lt_of_lt_of_le (Heap.lt_size q) hd)
  have st : ∀ {b : Addr} {o : HO}, H b = some o → upd (upd H d o1) e o2 b = some o := fun {b o} q => by
    rw [upd_ne (ne_of_none q ne), upd_ne (ne_of_none q nd)]
    exact q
  refine I.un (t' := tk) {
    keep := fun b o q _ _ _ => kp b o q
    slot := fun b o q _ _ _ => ⟨o.slots, kp b o q⟩
    free := fun b o q n _ => by
      rw [upd_ne (oe q), upd_ne (od q)]
      exact n
    there := fun b o q _ => ⟨o, kp b o q⟩
    tups := fun b xs q => st q
    frzs := fun b o u q => st q
    tbls := fun b ps q => ⟨#[], by
      rw [st q]
      simp⟩ } fun b o q => ?_
  by_cases hb : b = e
  · subst hb
    rw [upd_same] at q
    cases q
    exact k2
  · rw [upd_ne hb] at q
    by_cases hc : b = d
    · subst hc
      rw [upd_same] at q
      cases q
      exact k1
    · rw [upd_ne hc] at q
      exact (I.hok b o q).stay (fun c v _ z => kp c v z) (fun c z => st z) fun c xs z => st z
theorem one_fld {v : V} {u : Value} {f : Str} (r : RelV v u) (g : Str) : RelO (List.lookup g [(f, v)]) (if g = f then some u else none) := by
  by_cases hw : g = f
  · subst hw
    rw [if_pos rfl]
    have q : List.lookup g [(g, v)] = some v := by simp [List.lookup]
    rw [q]
    exact r
  · rw [if_neg hw]
    have q1 : (g == f) = false := by simpa using hw
    have q2 : List.lookup g [(f, v)] = none := by simp [List.lookup, q1]
    rw [q2]
    trivial
variable {C fI : Addr} {f qual : Str} {up : List Value} {Bn newId initId : String}
def rMkV (C : Addr) (f : Str) (v : V) : Hp → VK → Prop := fun H Q => ∀ e d, H e = none → H d = none → d ≠ e → Q (.ref e) (upd (upd H d (.xd [(f, v)])) e (ExH (.ref C) (some d) e))
theorem made {us : List Value} {kw : List (Str × Value)} {v : V} {u : Value} {Q : VK} {k : Nat} (F : ExcBaseFacts Bn newId initId up) (SF : PySem.StoreFacts Bn up "object.__setattr__" "object") (T : Cl X.K up newId f C fI) (hI : Ini X.K f qual fI) (hf : f ∈ names6)
    (hr : Room (k + 1) X.A) (I : Inv X pins σ H s) (ru : RelV v u) (sh : (us = [u] ∧ kw = []) ∨ (us = [] ∧ kw = [(f, u)])) (hq : rMkV C f v H Q) : wpAny (model X.prog X.w) X.A (call (.ref C) us kw) (EP X pins σ Q) X.xe s := by
  obtain ⟨nm, N, qn, bs, bm, hdct, sn, sub, ab, col, dd, k0, k1, k2, k3, k5, hC, hT⟩ := PySem.W.excInit_of I.kIn T.ini
  have lim := I.nolimit
  have hu : us.length ≤ sizeLine := by
    rw [sizeLine_eq]
    rcases sh with ⟨rfl, _⟩ | ⟨rfl, _⟩
    · exact (by decide : 1 ≤ 16777216)
    · exact (by decide : 0 ≤ 16777216)
  obtain ⟨hp, g, dr, tk, os⟩ := s
  have kp : ∀ b o, hp.get? b = some o → ((hp.push (PySem.W.kdv_tup us)).push (HandSPX.excO C hp.objs.size)).get? b = some o := fun b o e => Heap.get?_push_of_some _ (Heap.get?_push_of_some _ e)
  have hx : ((hp.push (PySem.W.kdv_tup us)).push (HandSPX.excO C hp.objs.size)).get? (hp.objs.size + 1) = some (HandSPX.excO C hp.objs.size) := by
    heap_get
  refine wpAny_call (by_class F hT hC hu (PySem.W.looks_findIn I.kIn T.iC) (fun z => PySem.W.bind_fn I.kIn z T.tI) ?_)
  refine init_runs (s := ⟨(hp.push (PySem.W.kdv_tup us)).push (HandSPX.excO C hp.objs.size), g, dr, tk, os⟩) (v := u) SF T hI hf ?_ (I.kIn.keeps kp) (lim.keeps kp) hx ?_ fun h2 tk2 dx k2 dn dne x2 n2 => ?_
  · rcases sh with ⟨rfl, rfl⟩ | ⟨rfl, rfl⟩
    · exact .inl rfl
    · exact .inr rfl
  · show X.A.depth + 1 < recursionLimit
    have := hr.dp
    omega
  · have old : ∀ b o, hp.get? b = some o → h2.get? b = some o := fun b o e => k2 b o (Nat.ne_of_lt (Nat.lt_succ_of_lt (Heap.lt_size e))) (kp b o e)
    have z : hp.objs.size ≤ dx := by
      have q : ((hp.push (PySem.W.kdv_tup us)).push (HandSPX.excO C hp.objs.size)).objs.size ≤ dx := dn
      rw [Heap.size_push, Heap.size_push] at q
      omega
    have q := hq (hp.objs.size + 1) dx (I.hok.fresh (Nat.le_succ _)) (I.hok.fresh z) dne
    have J : Inv X pins σ (upd (upd H dx (.xd [(f, v)])) (hp.objs.size + 1) (ExH (.ref C) (some dx) (hp.objs.size + 1))) ⟨h2, g, dr, tk2, os⟩ :=
      laid_two (s := ⟨hp, g, dr, tk, os⟩) (tk := tk2) I old (Nat.le_succ _) z ⟨_, n2, fun g => one_fld ru g⟩ (exh_ok x2 ⟨rfl, rfl⟩ rfl) dne
    exact ⟨rfl, .ref (hp.objs.size + 1), _, J, rfl, q⟩
end
section
variable {X : Cx} {C fI : Addr} {f qual nm : Str} {up : List Value} {Bn newId initId : String} {e : Expr} {te : TE} {ta tk : TA} {p pos : Pos} {k : Nat} {kws : List Keyword}
/-- C(e) -/
def tMkV (C : Addr) (f : Str) (ta : TA) : TE := fun σ H Q => ta σ H fun vs H1 => ∃ v, vs = [v] ∧ rMkV C f v H1 Q
theorem pe_mkv (F : ExcBaseFacts Bn newId initId up) (SF : PySem.StoreFacts Bn up "object.__setattr__" "object") (T : Cl X.K up newId f C fI) (hI : Ini X.K f qual fI) (hf : f ∈ names6) (hr : Room (k + 1) X.A) (hg : Gl X nm) (hm : X.mg nm = some (.ref C)) (ha : PA X [e] ta)
    (h1 : starEach [e] X.env = (false, eval e X.env) :: starEach [] X.env := by rfl) (h2 : (backTo pos (starEach [] X.env)).any (·.1) = false := by rfl) (h3 : (nm == ("__debug__" : Str)) = false := by decide) :
    PE X (.Call (.Name nm p) [e] [] pos) (tMkV C f ta) := by
  refine ⟨fun pins s σ H Q I h => ?_⟩
  refine wpAny_Call_Name_kw (ld_glob I hg hm ?_ h3)
  refine PySem.W.callWith_K (h₀ := X.base) I.ok.mod.kin T.kC (thn (ha.run pos pins s σ H _ I h) fun us s1 ⟨vs, H1, I1, r1, v, ev, q⟩ => ⟨I1.kIn, ?_⟩) h1 h2
  subst ev
  obtain ⟨u, rfl, ru⟩ := vals1 r1
  exact made F SF T hI hf hr I1 ru (.inl ⟨rfl, rfl⟩) q
/-- C(f = e) -/
theorem pe_mkvK (F : ExcBaseFacts Bn newId initId up) (SF : PySem.StoreFacts Bn up "object.__setattr__" "object") (T : Cl X.K up newId f C fI) (hI : Ini X.K f qual fI) (hf : f ∈ names6) (hr : Room (k + 1) X.A) (hg : Gl X nm) (hm : X.mg nm = some (.ref C)) (hkw : PK X kws tk)
    (h1 : (backToKw pos (keywordEach kws X.env)).all (·.1.isSome) = true := by rfl) (h2 : (backToKw pos (keywordEach kws X.env)).filterMap (·.1) = [f] := by rfl) (h3 : (nm == ("__debug__" : Str)) = false := by decide)
    (h4 : ((backTo pos (starEach [] X.env)).any (·.1) || (backToKw pos (keywordEach kws X.env)).any (·.1.isNone)) = false := by rfl) :
    PE X (.Call (.Name nm p) [] kws pos) (tMkV C f tk) := by
  refine ⟨fun pins s σ H Q I h => ?_⟩
  refine wpAny_Call_Name_kw (ld_glob I hg hm ?_ h3)
  refine PySem.W.callWith_KW0 (h₀ := X.base) I.ok.mod.kin T.kC h1 (thn (hkw.run pos pins s σ H _ I h) fun ws s1 ⟨zs, H1, I1, rz, v, ev, q⟩ => ⟨I1.kIn, ?_⟩) h4
  subst ev
  obtain ⟨u, rfl, ru⟩ := vals1 rz
  rw [h2]
  exact made F SF T hI hf hr I1 ru (.inr ⟨rfl, rfl⟩) q
/-- C(), a class without own `__init__` -/
def tMk0 (C : Addr) : TE := fun σ H Q => ∀ e, H e = none → Q (.ref e) (upd H e (ExH (.ref C) none e))
theorem pe_mk0 (F : ExcBaseFacts Bn newId initId up) (q : PySem.W.excIn X.K C up newId = true) (kC : PySem.W.keepIn X.K (.ref C) = true) (hg : Gl X nm) (hm : X.mg nm = some (.ref C)) (h3 : (nm == ("__debug__" : Str)) = false := by decide) :
    PE X (.Call (.Name nm p) [] [] pos) (tMk0 C) := by
  refine ⟨fun pins s σ H Q I h => ?_⟩
  refine wpAny_Call_Name_kw (ld_glob I hg hm ?_ h3)
  refine PySem.W.callWith_K0 I.kIn kC ?_
  show wpAny _ _ (call (.ref C) []) _ _ _
  obtain ⟨bm, N, n1, qn, bs, hdct, sn, sub, ab, col, dd, k0, k1, k2, k3, k5, mN, hC, hN, hni, T⟩ := exc_obj I.kIn q
  refine wpAny_call_exc_subT F T hC hN hni (fun h2 a hm2 => ?_) (by rw [sizeLine_eq]; exact (by decide : 0 ≤ 16777216))
  have hn : H a = none := I.hok.gone hm2.new
  obtain ⟨t, ht, _, _⟩ := hm2.there
  exact ⟨.ref a, upd H a (ExH (.ref C) none a), I.laidN (t' := s.toks) hm2.keeps hm2.new hn (exh_ok ht ⟨rfl, rfl⟩ rfl), rfl, h a hn⟩
end
end Vm
namespace Vm
open PySem PySem.Spec PyProof.Rows PySem.Calls L2 Vx
/-! ## what is asked of an exception that is held: its class -/
/-- at a stands an exception of the class C, with its fields or with none -/
def ExAt (H : Hp) (a C : Addr) : Prop := H a = some (ExH (.ref C) none a) ∨ ∃ d fs, H a = some (ExH (.ref C) (some d) a) ∧ H d = some (.xd fs)
theorem ExAt.same {H H' : Hp} {a C : Addr} (h : ExAt H a C) (s : Same H H') : ExAt H' a C := by
  rcases h with h | ⟨d, fs, h, g⟩
  · exact .inl (s _ _ h)
  · exact .inr ⟨d, fs, s _ _ h, s _ _ g⟩
section
variable {X : Cx} {pins : List (Addr × Obj)} {σ : L2.St} {H : Hp} {s : Shared}
theorem ExAt.inst {a C : Addr} (I : Inv X pins σ H s) (h : ExAt H a C) : ∃ oe od, PySem.W.InstAt s.heap a oe C od := by
  rcases h with h | ⟨d, fs, h, g⟩
  · obtain ⟨oe, vs, h1, hz, h2⟩ := exh_at I.hok h
    exact ⟨oe, none, h1, hz.1, by unfold PySem.W.notCls; rw [h2] <;> rfl, by rw [hz.2]; exact True.intro⟩
  · obtain ⟨oe, od, mA, J, _⟩ := exh_inst I h g
    exact ⟨oe, _, J⟩
def rIsX (K : PySem.W.Frag) : List V → Hp → VK → Prop := fun xs H Q => ∃ (a C : Addr) (c : V) (u : Value) (b : Bool), xs = [.ref a, c] ∧ ClsV c u ∧ ExAt H a C ∧ ExF K C ∧ PySem.W.kitOne K (.ref C) u = some b ∧ Q (.bl b) H
theorem call_isX : CallR X (.builtin "isinstance") (rIsX X.K) := by
  intro ps s σ H xs us Q I rel h
  obtain ⟨a, C, c, u, b, rfl, kc, e, F, ek, q⟩ := h
  obtain ⟨u1, u2, rfl, r1, r2⟩ := vals2 rel
  cases (show u1 = Value.ref a from r1)
  cases kc.eq r2
  obtain ⟨oe, od, J⟩ := e.inst I
  exact PySem.W.kia_one (PySem.W.kitx_exc F.hcl F.hga F.hgt F.hsub F.ha F.hn F.htk F.hm) I.kIn J ek (fun z => nomatch z) fun tk => ⟨.bl b, H, I.tok tk, rfl, q⟩
/-- how often: flat items -/
def rCntF (K : PySem.W.Frag) : V → List V → Hp → VK → Prop := fun x xs H Q => ∃ (p : Addr) (ys : List V) (y : V), x = .ref p ∧ xs = [y] ∧ SqL K H p ys ∧ flatV y = true ∧ ys.all flatV = true ∧ Q (.int ((ys.countP fun z => eqV z y : Nat) : Int)) H
theorem countU {y : V} : ∀ {ys : List V} {us : List Value}, Vals ys us → ys.all flatV = true → us.countP (eqU y) = ys.countP fun z => eqV z y
  | _, _, .nil, _ => rfl
  | z :: zs, u :: us, .cons r t, f => by
    rw [List.all_cons, Bool.and_eq_true] at f
    rw [List.countP_cons, List.countP_cons, countU t f.2, eqU_of r f.1]
theorem mt_countF : MtR X "list.count" (rCntF X.K) := by
  intro pins s σ H x xs v us Q I rx rxs h
  obtain ⟨p, ys, y, rfl, rfl, hs, fy, fys, q⟩ := h
  cases rx
  obtain ⟨u, rfl, ru⟩ := rxs.one
  obtain ⟨its, rv, ⟨⟨c1, d1, dat, s1⟩, n, ho, hc, hdn, hd⟩, hlen⟩ := I.list hs
  simp only at hc hd
  subst hc hd
  refine call_meets PySem.F.slot_list_count ⟨_, ho, rfl⟩ PySem.F.entry_list_count (PySem.F.args_list_count_2 _ _)
    (SeqAt.list_countAt p its.toArray n d1 s1 u (eqU y)) ⟨ho, fun z hz => mem_eqAt ru fy rv fys z (by simpa using hz), ?_⟩
  refine ⟨.int ((ys.countP fun z => eqV z y : Nat) : Int), H, I.tok _, ⟨s.toks, ?_⟩, q⟩
  show Value.int ((its.toArray.toList.countP (eqU y) : Nat) : Int) s.toks = _
  rw [← countU rv fys]
/-- two data, or two dicts -/
theorem op_eqE (hu : X.A.units + 64 < cLine) : OpR X (compareOp .Eq) (fun x y H Q => rEqD X.K x y H Q ∨ rEqDA x y H Q) := by
  intro ps s σ H x y v u Q I rx ry h
  rcases h with h | h
  · exact op_eqD hu ps s σ H x y v u Q I rx ry h
  · exact op_eq_dictA (by omega) ps s σ H x y v u Q I rx ry h
end
end Vm
namespace Vm
open PySem PySem.Spec PyProof.Rows PySem.Calls L2 Vx
def exfB (K : PySem.W.Frag) (C : Addr) : Bool :=
  (PySem.W.clsIn K C).isSome && (PySem.W.findIn K (.ref C) "__getattribute__" == some (some (.builtin "BaseException.__getattribute__")) && (PySem.W.findIn K (.ref C) "__getattr__" == some none && (PySem.W.subIn K (.ref C) (.type "BaseException") == some true &&
  (PySem.W.hasDictIn K C && (PySem.W.findIn K (.ref C) "__class__" == some (some (.builtin "object.__class__")) && (PySem.W.specialIn K (.builtin "object.__class__") "__get__" == some (some (.builtin "getset_descriptor.__get__")) &&
  (PySem.W.takesIn K (.builtin "object.__class__") == some true && PySem.W.mroIn K C (.type "object") == some true)))))))
theorem exfB_ok {K : PySem.W.Frag} {C : Addr} (h : exfB K C = true) : ExF K C := by
  unfold exfB at h
  simp only [Bool.and_eq_true] at h
  obtain ⟨h1, h2, h3, h4, h5, h6, h7, h8, h9⟩ := h
  exact ⟨h1, eq_of_beq h2, eq_of_beq h3, eq_of_beq h4, h5, eq_of_beq h6, eq_of_beq h7, eq_of_beq h8, eq_of_beq h9⟩
end Vm
namespace Vm
open PySem PySem.Spec PyProof.Rows PySem.Calls L2 Vx Vk
/-! ## in a comprehension: the written part by its name -/
section
variable {X : Cx} {K : PySem.W.Frag}
theorem op_eqEK (hu : X.A.units + 64 < cLine) (hK : X.K = K) : OpR X (compareOp .Eq) (fun x y H Q => rEqD K x y H Q ∨ rEqDA x y H Q) := by
  subst hK
  exact op_eqE hu
theorem pe_hfldK {e : Expr} {te : TE} {pos : Pos} {f : Str} (hK : X.K = K) (he : PE X e te) (hb : attributeBase e f X.env (eval e X.env) = eval e X.env := by rfl) : PE X (.Attribute e f pos) (tHFld K te f) := by
  subst hK
  exact pe_hfld he hb
end
/-! ## a row of exceptions that were made -/
structure En where
  a : Addr
  j : Nat
  o : Option (Str × V)
def En.on (K : PySem.W.Frag) (cl : Nat → Addr) (H : Hp) (x : En) : Prop := x.j < 27 ∧ match x.o with
  | some fv => PySem.W.findIn K (.ref (cl x.j)) fv.1 = some none ∧ ∃ d, H x.a = some (ExH (.ref (cl x.j)) (some d) x.a) ∧ H d = some (.xd [fv])
  | none => H x.a = some (ExH (.ref (cl x.j)) none x.a)
theorem En.on.same {K : PySem.W.Frag} {cl : Nat → Addr} {H H' : Hp} {x : En} (h : x.on K cl H) (s : Same H H') : x.on K cl H' := by
  obtain ⟨a, j, o⟩ := x
  cases o with
  | none => exact ⟨h.1, s _ _ h.2⟩
  | some fv =>
    obtain ⟨hj, hn, d, h1, h2⟩ := h
    exact ⟨hj, hn, d, s _ _ h1, s _ _ h2⟩
theorem En.on.ex {K : PySem.W.Frag} {cl : Nat → Addr} {H : Hp} {x : En} (h : x.on K cl H) : ExAt H x.a (cl x.j) := by
  obtain ⟨a, j, o⟩ := x
  cases o with
  | none => exact .inl h.2
  | some fv =>
    obtain ⟨_, _, d, h1, h2⟩ := h
    exact .inr ⟨d, _, h1, h2⟩
/-- the field of one that has it -/
theorem En.on.fld {K : PySem.W.Frag} {cl : Nat → Addr} {H : Hp} {x : En} {f : Str} {v : V} (h : x.on K cl H) (ho : x.o = some (f, v)) :
    ∃ d, H x.a = some (ExH (.ref (cl x.j)) (some d) x.a) ∧ H d = some (.xd [(f, v)]) ∧ PySem.W.findIn K (.ref (cl x.j)) f = some none ∧ List.lookup f [(f, v)] = some v := by
  obtain ⟨a, j, o⟩ := x
  dsimp only at ho
  subst ho
  obtain ⟨_, hn, d, h1, h2⟩ := h
  exact ⟨d, h1, h2, hn, by simp [List.lookup]⟩
structure Stt (K : PySem.W.Frag) (cl : Nat → Addr) (H0 : Hp) (L : List En) (M : List (Addr × HO)) (H : Hp) : Prop where
  sm : Same H0 H
  en : ∀ x ∈ L, x.on K cl H
  ls : ∀ p ∈ M, H p.1 = some p.2
section
variable {cl : Nat → Addr} {H0 H H' : Hp} {L : List En} {M : List (Addr × HO)} {Q : VK} {σ : L2.St} {K : PySem.W.Frag}
theorem Stt.start : Stt K cl H [] [] H := ⟨Same.refl _, fun _ z => (nomatch z), fun _ z => (nomatch z)⟩
theorem Stt.step (h : Stt K cl H0 L M H) (s : Same H H') : Stt K cl H0 L M H' := ⟨h.sm.trans s, fun x m => (h.en x m).same s, fun p m => s _ _ (h.ls p m)⟩
theorem Stt.put (h : Stt K cl H0 L M H) (s : Same H H') {x : En} (hx : x.on K cl H') : Stt K cl H0 (x :: L) M H' :=
  ⟨h.sm.trans s, fun y m => by
    rcases List.mem_cons.mp m with m | m
    · rw [m]
      exact hx
    · exact (h.en y m).same s, fun p m => s _ _ (h.ls p m)⟩
theorem Stt.obj (h : Stt K cl H0 L M H) {p : Addr} {o : HO} (np : H p = none) : Stt K cl H0 L (M ++ [(p, o)]) (upd H p o) :=
  ⟨h.sm.trans (same_new np), fun y m => (h.en y m).same (same_new np), fun q m => by
    rcases List.mem_append.mp m with m | m
    · exact same_new np _ _ (h.ls q m)
    · rw [List.mem_singleton.mp m]
      exact upd_same⟩
theorem Stt.also {D : Addr} {o : HO} (h : Stt K cl H0 L M H) (s : Same H H') (e : H' D = some o) : Stt K cl H0 L (M ++ [(D, o)]) H' :=
  ⟨h.sm.trans s, fun y m => (h.en y m).same s, fun p m => by
    rcases List.mem_append.mp m with m | m
    · exact s _ _ (h.ls p m)
    · rw [List.mem_singleton.mp m]
      exact e⟩
theorem Stt.noL (h : Stt K cl H0 L M H) : Stt K cl H0 [] M H := ⟨h.sm, fun _ z => (by cases z), h.ls⟩
theorem Stt.noM (h : Stt K cl H0 L M H) : Stt K cl H0 L [] H := ⟨h.sm, h.en, fun _ z => (by cases z)⟩
theorem rd_mkv {j : Nat} {f : Str} {v : V} (h : Stt K cl H0 L M H) (no : PySem.W.findIn K (.ref (cl j)) f = some none) (hj : j < 27) (q : ∀ e H', Stt K cl H0 (⟨e, j, some (f, v)⟩ :: L) M H' → Q (.ref e) H') : rMkV (cl j) f v H Q := fun e d he hd ne => by
  have hd' : upd H d (.xd [(f, v)]) e = none := (upd_ne (Ne.symm ne)).trans he
  refine q e _ (h.put ((same_new hd).trans (same_new hd')) (x := ⟨e, j, some (f, v)⟩) ⟨hj, no, d, upd_same, ?_⟩)
  rw [upd_ne ne]
  exact upd_same
theorem rd_mk0 {j : Nat} (h : Stt K cl H0 L M H) (hj : j < 27) (q : ∀ e H', Stt K cl H0 (⟨e, j, none⟩ :: L) M H' → Q (.ref e) H') : tMk0 (cl j) σ H Q := fun e he => q e _ (h.put (same_new he) (x := ⟨e, j, none⟩) ⟨hj, upd_same⟩)
theorem le1000 {n : Nat} (h : n ≤ 1000) : n ≤ sizeLine := Nat.le_of_lt (small1000 h)
def NewL (xs : List V) (H : Hp) (Q : VK) : Prop := xs.length ≤ sizeLine ∧ ∀ p, H p = none → Q (.ref p) (upd H p (.lst xs))
def NewT (xs : List V) (H : Hp) (Q : VK) : Prop := xs.length ≤ sizeLine ∧ ∀ p, H p = none → Q (.ref p) (upd H p (.tup xs))
def NewR (a b : Int) (H : Hp) (Q : VK) : Prop := RgOk a b ∧ ∀ p, H p = none → Q (.ref p) (upd H p (.lst (rgV a b)))
theorem rd_lstQ {tl : TA} (h : tl σ H fun xs H1 => NewL xs H1 Q) : tLst tl σ H Q := h
theorem rd_tupQ {tl : TA} (h : tl σ H fun xs H1 => NewT xs H1 Q) : tTup tl σ H Q := h
theorem rd_rgQ {te : L2.St → Hp → (Int → Int → Hp → Prop) → Prop} (h : te σ H fun a b H1 => NewR a b H1 Q) : tLstRg te σ H Q := h
theorem rd_mkt {C : Addr} {f : Str} {tl : TA} (h : tl σ H fun vs H1 => ∃ v, vs = [v] ∧ rMkV C f v H1 Q) : tMkV C f tl σ H Q := h
theorem rd_hf {te : TE} {f : Str} (h : te σ H fun x H1 => ∃ (a C d : Addr) (fs : List (Str × V)) (v : V), x = .ref a ∧ H1 a = some (ExH (.ref C) (some d) a) ∧ H1 d = some (.xd fs) ∧ ExF K C ∧ PySem.W.findIn K (.ref C) f = some none ∧ fs.lookup f = some v ∧ Q v H1) : tHFld K te f σ H Q := h
theorem rd_r1 {ta : TE} {R : Int → Int → Hp → Prop} (h : ta σ H fun x H1 => ∃ n, x = .int n ∧ R 0 n H1) : tRg1 ta σ H R := h
theorem rd_r2 {ta tb : TE} {R : Int → Int → Hp → Prop} (h : ta σ H fun x H1 => tb σ H1 fun y H2 => ∃ i j, x = .int i ∧ y = .int j ∧ R i j H2) : tRg2 ta tb σ H R := h
theorem rd_nm5 {i : Nat} {v : V} {b0 b1 b2 b3 b4 : Option V} {Qg : L2.St → Hp → Prop} (e : σ.set i (some v) = [b0, b1, b2, b3, b4]) (h : Qg [b0, b1, b2, b3, b4] H) : gName i v σ H Qg := (congrArg (fun z => Qg z H) e).mpr h
theorem rd_nm6 {i : Nat} {v : V} {b0 b1 b2 b3 b4 b5 : Option V} {Qg : L2.St → Hp → Prop} (e : σ.set i (some v) = [b0, b1, b2, b3, b4, b5]) (h : Qg [b0, b1, b2, b3, b4, b5] H) : gName i v σ H Qg := (congrArg (fun z => Qg z H) e).mpr h
theorem rd_nm7 {i : Nat} {v : V} {b0 b1 b2 b3 b4 b5 b6 : Option V} {Qg : L2.St → Hp → Prop} (e : σ.set i (some v) = [b0, b1, b2, b3, b4, b5, b6]) (h : Qg [b0, b1, b2, b3, b4, b5, b6] H) : gName i v σ H Qg := (congrArg (fun z => Qg z H) e).mpr h
theorem rd_nm8 {i : Nat} {v : V} {b0 b1 b2 b3 b4 b5 b6 b7 : Option V} {Qg : L2.St → Hp → Prop} (e : σ.set i (some v) = [b0, b1, b2, b3, b4, b5, b6, b7]) (h : Qg [b0, b1, b2, b3, b4, b5, b6, b7] H) : gName i v σ H Qg := (congrArg (fun z => Qg z H) e).mpr h
theorem rd_bm {T : String} {r : V → List V → Hp → VK → Prop} {to : TE} {tl : TA} (h : to σ H fun x H1 => tyV K T x H1 ∧ tl σ H1 fun xs H2 => r x xs H2 Q) : tBM K T r to tl σ H Q := h
theorem rd_lstS {xs : List V} (h : Stt K cl H0 L M H) (hl : xs.length ≤ 1000) (q : ∀ p H', Stt K cl H0 L (M ++ [(p, .lst xs)]) H' → Q (.ref p) H') : NewL xs H Q := ⟨le1000 hl, fun p np => q p _ (h.obj np)⟩
theorem rd_tupS {xs : List V} (h : Stt K cl H0 L M H) (hl : xs.length ≤ 1000) (q : ∀ p H', Stt K cl H0 L (M ++ [(p, .tup xs)]) H' → Q (.ref p) H') : NewT xs H Q := ⟨le1000 hl, fun p np => q p _ (h.obj np)⟩
theorem rd_catS {l b : Addr} {xs zs : List V} (h : Stt K cl H0 L M H) (m1 : (l, .lst xs) ∈ M) (m2 : (b, .lst zs) ∈ M) (hl : xs.length + zs.length ≤ 1000) (q : ∀ p H', Stt K cl H0 L (M ++ [(p, .lst (xs ++ zs))]) H' → Q (.ref p) H') : rCat (.ref l) (.ref b) H Q :=
  ⟨l, b, xs, zs, rfl, rfl, h.ls _ m1, h.ls _ m2, le1000 hl, fun p np => q p _ (h.obj np)⟩
theorem rd_catD {l b : Addr} {xs zs : List V} (h : Stt K cl H0 L M H) (m1 : (l, .lst xs) ∈ M) (m2 : (b, .lst zs) ∈ M) (hl : xs.length + zs.length ≤ 1000) (q : ∀ p H', Stt K cl H0 L [(p, .lst (xs ++ zs))] H' → Q (.ref p) H') : rCat (.ref l) (.ref b) H Q :=
  rd_catS h m1 m2 hl fun p H' s => q p H' ⟨s.sm, s.en, fun z m => s.ls z (List.mem_append_right _ m)⟩
theorem rd_repS {l : Addr} {xs : List V} {n : Int} (h : Stt K cl H0 L M H) (m1 : (l, .lst xs) ∈ M) (n0 : 0 ≤ n) (n1 : n ≤ 100) (hl : xs.length * n.toNat ≤ 1000) (q : ∀ p H', Stt K cl H0 L (M ++ [(p, .lst (List.replicate n.toNat xs).flatten)]) H' → Q (.ref p) H') : rRep (.ref l) (.int n) H Q :=
  ⟨l, n, xs, rfl, rfl, h.ls _ m1, by omega, by omega, le1000 hl, fun p np => q p _ (h.obj np)⟩
theorem rd_rgS {a b : Int} (h : Stt K cl H0 L M H) (ok : RgOk a b) (q : ∀ p H', Stt K cl H0 L (M ++ [(p, .lst (rgV a b))]) H' → Q (.ref p) H') : NewR a b H Q := ⟨ok, fun p np => q p _ (h.obj np)⟩
theorem rd_eqD {x y : V} {d e : PyData} {b : Bool} (h1 : Dp K H x d) (h2 : Dp K H y e) (s1 : SeqAt.shaped d = true) (s2 : SeqAt.shaped e = true) (hb : PyData.eqv d e = b) (q : Q (.bl b) H) : rEqD K x y H Q := ⟨d, e, h1, h2, s1, s2, by rw [hb]; exact q⟩
theorem rd_neD {x y : V} {d e : PyData} {b : Bool} (h1 : Dp K H x d) (h2 : Dp K H y e) (s1 : SeqAt.shaped d = true) (s2 : SeqAt.shaped e = true) (hb : PyData.eqv d e = b) (q : Q (.bl (!b)) H) : rNeD K x y H Q := ⟨d, e, h1, h2, s1, s2, by rw [hb]; exact q⟩
/-- a comprehension whose items leave the heap as it was -/
theorem lc_map {g : TG} {te : TE} {tt : TT} {n k : Nat} {p : Addr} (hσ : σ[n]? = some (some (.ref p))) {es ys : List V} (hL : SqL K H p es) (hn : es.length = ys.length) (small : ys.length ≤ 1000) (hw : ∀ x : V, wipe ((wipe σ [k]).set k (some x)) [k] = wipe σ [k])
    (hte : ∀ (i : Nat) (x y : V) (H1 : Hp) (Qd : VK), es[i]? = some x → ys[i]? = some y → Same H H1 → (∀ H2, Same H1 H2 → Qd y H2) → te ((wipe σ [k]).set k (some x)) H1 Qd)
    (hg : g = gName k) (ht : tt = tYes) (q : ∀ D H1, Same H H1 → H1 D = some (.lst ys) → Q (.ref D) H1) : tLc (iList K (tVar n)) g tt te [k] σ H Q := by
  subst hg
  subst ht
  refine ⟨.ref p, hσ, p, rfl, ⟨es, hL⟩, fun D nD => ?_⟩
  refine lc_list (xs := es) (fun i H1 => Same H H1 ∧ H1 D = some (.lst (ys.take i))) ⟨same_new nD, by rw [upd_same]; rfl⟩ (fun i H1 _ h => h.1.seq hL) (fun i x H1 hx h => ?_) (fun H1 h => ?_)
  · obtain ⟨s1, hD⟩ := h
    have hi : i < ys.length := by
      rw [← hn]
      exact (List.getElem?_eq_some_iff.mp hx).1
    have hy : ys[i]? = some ys[i] := List.getElem?_eq_getElem hi
    refine ⟨hw x, ?_⟩
    show (if true = true then te _ _ _ else (Same H H1 ∧ H1 D = some (.lst (ys.take (i + 1)))))
    rw [if_pos rfl]
    refine hte i x ys[i] H1 _ hx hy s1 fun H2 s2 => ⟨ys.take i, s2 _ _ hD, ?_, same_mut (s1.trans s2) nD, ?_⟩
    · have : (ys.take i).length ≤ i := by
        rw [List.length_take]
        omega
      exact small1000 (by omega)
    · rw [upd_same, List.take_add_one, hy]
      rfl
  · obtain ⟨s1, hD⟩ := h
    refine q D H1 s1 ?_
    rw [hD, hn, List.take_length]
theorem lc_en {te : TE} {g : TG} {tt : TT} {n k : Nat} {p : Addr} {L : List En} {y : En → V} (hσ : σ[n]? = some (some (.ref p))) (hL : SqL K H p (L.map fun x => V.ref x.a)) (small : L.length ≤ 1000) (hw : ∀ x : V, wipe ((wipe σ [k]).set k (some x)) [k] = wipe σ [k])
    (hte : ∀ x ∈ L, ∀ (H1 : Hp) (Qd : VK), Same H H1 → (∀ H2, Same H1 H2 → Qd (y x) H2) → te ((wipe σ [k]).set k (some (.ref x.a))) H1 Qd)
    (hg : g = gName k) (ht : tt = tYes) (q : ∀ D H1, Same H H1 → H1 D = some (.lst (L.map y)) → Q (.ref D) H1) : tLc (iList K (tVar n)) g tt te [k] σ H Q := by
  refine lc_map (ys := L.map y) hσ hL (by rw [List.length_map, List.length_map]) (by rw [List.length_map]; exact small) hw (fun i x z H1 Qd hx hz s1 q1 => ?_) hg ht q
  rw [List.getElem?_map] at hx hz
  obtain ⟨e, he, rfl⟩ := Option.map_eq_some_iff.mp hx
  rw [he] at hz
  cases hz
  exact hte e (List.mem_of_getElem? he) H1 Qd s1 q1
end
theorem sqT_same {K : PySem.W.Frag} {H H' : Hp} {a : Addr} {xs : List V} (e : Same H H') (h : SqT K H a xs) : SqT K H' a xs := by
  rcases h with (h | ⟨o, h⟩) | h
  · exact .inl (.inl (e _ _ h))
  · exact .inl (.inr ⟨o, e _ _ h⟩)
  · exact .inr h
mutual
theorem dp_same {K : PySem.W.Frag} {H H' : Hp} (s : Same H H') : ∀ (d : PyData) (v : V), Dp K H v d → Dp K H' v d
  | .none, _, h => by
    cases h
    exact .non
  | .bool b, _, h => by
    cases h
    exact .bl b
  | .int i, _, h => by
    cases h
    exact .int i
  | .str z, _, h => by
    cases h
    exact .str z
  | .list ds, _, h => by
    cases h with
    | lst hS ha => exact .lst (s.seq hS) (dp_sameAll s ds _ ha)
  | .tuple ds, _, h => by
    cases h with
    | tup hS ha => exact .tup (sqT_same s hS) (dp_sameAll s ds _ ha)
  | .dict _, _, h => by cases h
theorem dp_sameAll {K : PySem.W.Frag} {H H' : Hp} (s : Same H H') : ∀ (ds : List PyData) (vs : List V), DpAll K H vs ds → DpAll K H' vs ds
  | [], _, h => by
    cases h
    exact .nil
  | d :: ds, _, h => by
    cases h with
    | cons h1 h2 => exact .cons (dp_same s d _ h1) (dp_sameAll s ds _ h2)
end
end Vm
namespace Vy
open PySem PySem.Spec PyProof.Rows L2
/-! ## defs that let an exception of the program's own out -/
section
variable {P : Program} {w : World} {K : PySem.W.Frag} {mg : Str → Option Value} {base : Heap}
theorem okX {x qual : Str} {st : Stmt} {f : Addr} {fd : FuncData} {N ps : List Str} {k : Nat} {sp : Sp} (F : Fun K x qual st f fd) (S : FnScope N ps (defScope st)) (len : ∀ vs H Q E, sp vs H Q E → vs.length = ps.length)
    (body : ∀ (cdv : Value) (A : Around) (outer : List Env) (s : Shared) (H : Hp) (vs : List V) (Q : VK) (E : XK), Room k (A.deeper (envOfC qual (defScope st) s.heap.objs.size f cdv)) → sp vs H Q E →
      ∃ t, PSs (cxOf (L2.CX P w) P w K mg base N qual (defScope st) f cdv A outer s H E) (defBody st) t ∧ t { nx := fun _ H' => Q .non H', rt := Q } (L2.start N vs) H) : FnOk P w K mg base (L2.CX P w) (k + 1) f fd ps sp := by
  obtain ⟨oc, od, kV, doc, pm, an, cdv, ct, osl, rfl, lk, hcd⟩ := F.ex
  exact fn_of lk hcd S len fun A outer s H vs Q E hr h => body cdv A outer s H vs Q E hr h
theorem takesX {N : List Str} {qual : Str} {sc : Scope} {f : Addr} {cdv : Value} {A : Around} {outer : List Env} {s : Shared} {H : Hp} {E : XK} : Takes (cxOf (L2.CX P w) P w K mg base N qual sc f cdv A outer s H E) (fun cls d _ H => E cls d H) :=
  takes_of rfl rfl rfl rfl
theorem ownX {N : List Str} {qual : Str} {sc : Scope} {f : Addr} {cdv : Value} {A : Around} {outer : List Env} {s : Shared} {H : Hp} {E : XK} : PassesOwn (model P w) (cxOf (L2.CX P w) P w K mg base N qual sc f cdv A outer s H E).A (cxOf (L2.CX P w) P w K mg base N qual sc f cdv A outer s H E).env (cxOf (L2.CX P w) P w K mg base N qual sc f cdv A outer s H E).xe :=
  passes_of rfl
theorem passX {N : List Str} {qual : Str} {sc : Scope} {f : Addr} {cdv : Value} {A : Around} {outer : List Env} {s : Shared} {H : Hp} {E : XK} : Passes (L2.CX P w) (cxOf (L2.CX P w) P w K mg base N qual sc f cdv A outer s H E) E :=
  passes_call takesX fun _ _ _ _ h => h
end
/-- the exception's own beginning: its one argument is kept -/
def spIni (K : PySem.W.Frag) : Sp := fun vs H Q _ => ∃ (a C : Addr) (v : V), vs = [.ref a, v] ∧ OexC K C ∧ PySem.W.findIn K (.ref C) "value" = some none ∧ H a = some (exo a C none) ∧ ∀ dx, H dx = none → dx ≠ a → Q .non (upd (upd H dx (exd dx [("value", v)])) a (exo a C (some dx)))
def MkC (K : PySem.W.Frag) (C : Addr) (v : V) (H1 : Hp) (Q : XK) : Prop := [v].length ≤ 1000 ∧ ∀ a, H1 a = none → spIni K (.ref a :: ([v] ++ [])) (upd H1 a (exo a C none))
  (fun v H2 => v = .non ∧ ∃ (d : Addr) (fs : List (Str × V)), H2 a = some (exo a C (some d)) ∧ H2 d = some (exd d fs) ∧ H1 d = none ∧ Q (.ref C) (some d) (upd (del H2 a) d (.xd fs))) (fun _ _ _ => False)
theorem mk_ok {K : PySem.W.Frag} {C : Addr} {v : V} {H : Hp} {Q : XK} (T : OexC K C) (no : PySem.W.findIn K (.ref C) "value" = some none) (h : ∀ d, H d = none → Q (.ref C) (some d) (upd H d (.xd [("value", v)]))) : MkC K C v H Q := by
  refine ⟨Nat.le_of_ble_eq_true rfl, fun a ha => ⟨a, C, v, rfl, T, no, upd_same, fun dx hdx ne => ⟨rfl, dx, [("value", v)], upd_same, (upd_ne ne).trans upd_same, ?_, ?_⟩⟩⟩
  · rw [upd_ne ne] at hdx
    exact hdx
  · rw [upd_ne ne] at hdx
    have e : upd (del (upd (upd (upd H a (exo a C none)) dx (exd dx [("value", v)])) a (exo a C (some dx))) a) dx (.xd [("value", v)]) = upd H dx (.xd [("value", v)]) := by
      funext b
      by_cases h1 : b = dx
      · rw [h1, upd_same, upd_same]
      · rw [upd_ne h1, upd_ne h1]
        by_cases h2 : b = a
        · rw [h2, del_same, ha]
        · rw [del_ne h2, upd_ne h2, upd_ne h1, upd_ne h2]
    rw [e]
    exact h dx hdx
section
variable {X : Cx} {W : WX} {x : Str} {C fI : Addr} {k : Nat} {fd : FuncData} {p pos pos' : Pos} {e : Expr} {te : TE}
/-- raise C(e) -/
theorem ps_rai (hc : X.calm = true) (tk : Takes X W) (T : OexC X.K C) (iC : PySem.W.findIn X.K (.ref C) "__init__" = some (some (.ref fI))) (tI : PySem.W.typeIn X.K (.ref fI) = some (.type "function"))
    (F1 : FnOk X.prog X.w X.K X.mg X.base CX0 k fI fd ["self", "value"] (spIni X.K)) (hr : Room (k + 1) X.A) (hb : Binds X.K fd ["self", "value"] []) (hg : Gl X x) (hm : X.mg x = some (.ref C)) (he : PE X e te)
    (hdb : (x == ("__debug__" : Str)) = false := by decide) (h4 : starEach [e] X.env = (false, eval e X.env) :: starEach [] X.env := by rfl) (h5 : (backTo pos (starEach [] X.env)).any (·.1) = false := by rfl) :
    PS X (.Raise (some (.Call (.Name x p) [e] [] pos)) none pos') (fun _ σ H => te σ H fun v H1 => MkC X.K C v H1 fun cls d H' => W cls d σ H') :=
  ps_raise hc tk fun pins s σ H Q I h => pmk_oex T iC tI F1 hr hb .nil (fun _ _ _ _ _ _ _ h => h.elim) hg hm (pa_cons he pa_nil (hs := h4)) hdb h4 h5 pins s σ H Q I h
end
end Vy
namespace Vy
open PySem PySem.Spec PyProof.Rows L2
/-- what is asked of an own class over ValueError that is raised -/
def oexB (K : PySem.W.Frag) (C : Addr) : Bool := (match K.lookup C with
  | some ⟨.type "type", _, .cls cd, sl⟩ => (match cd.mro, sl.toList with
    | .ref C' :: bm, [_, _, _, _, some (.builtin n), _] => C' == C && (n == "ValueError.__new__" && (!cd.hasDel && (cd.hasDict && PySem.HandSPX.refsVE bm)))
    | _, _ => false)
  | _ => false) && (PySem.W.findIn K (.ref C) "__setattr__" == some (some (.builtin "object.__setattr__")) && (PySem.W.subIn K (.ref C) (.type "BaseException") == some true && (PySem.W.typeIn K (.ref C) == some (.type "type") && PySem.W.keepIn K (.ref C))))
theorem oexB_ok {K : PySem.W.Frag} {C : Addr} (h : oexB K C = true) : OexC K C := by
  unfold oexB at h
  simp only [Bool.and_eq_true] at h
  obtain ⟨q, h2, h3, h4, h5⟩ := h
  refine ⟨?_, eq_of_beq h2, eq_of_beq h3, eq_of_beq h4, h5⟩
  split at q
  · rename_i dd cd sl ho
    split at q
    · rename_i C' bm k0 k1 k2 k3 n k5 hm hs
      simp only [Bool.and_eq_true, beq_iff_eq, Bool.not_eq_true'] at q
      obtain ⟨rfl, rfl, hdel, hdic, hv⟩ := q
      obtain ⟨nm, bs, mro, ns, qn, hd, sn, sub, ab, col, del⟩ := cd
      dsimp only at hm hdel hdic
      subst hm hdel hdic
      have hsl : sl = #[k0, k1, k2, k3, some (.builtin "ValueError.__new__"), k5] := by
        obtain ⟨l⟩ := sl
        simp only at hs
        rw [hs]
      subst hsl
      exact ⟨nm, qn, ns, bs, bm, sn, sub, ab, col, dd, k0, k1, k2, k3, k5, ho, hv⟩
    · cases q
  · cases q
/-- its `__init__` -/
theorem ini_ok {P : Program} {w : World} {K : PySem.W.Frag} {mg : Str → Option Value} {base : Heap} {qual : Str} {fI : Addr} (h : Vm.Ini K "value" qual fI) : ∃ fd : FuncData, FnOk P w K mg base CX0 1 fI fd ["self", "value"] (spIni K) ∧ Binds K fd ["self", "value"] [] := by
  obtain ⟨oc, od, dv, kv, doc, pm, an, cdv, ct, sl, p1, p2, q1, q2, q3, q4, hl, hc⟩ := h
  refine ⟨PySem.W.fnOf "__init__" qual (Vm.iPar "value" p1 p2) (Vm.iBod "value" q1 q2 q3 q4) (Vm.iSco "value") .none .none doc pm an cdv ct, ?_, .all fun us hl => match us, hl with | [_, _], _ => rfl⟩
  have S : FnScope ["self", "value"] ["self", "value"] (Vm.iSco "value") := ⟨rfl, rfl, rfl, by decide +kernel, rfl, by decide +kernel, by decide +kernel⟩
  refine fn_of hl hc S (fun vs H Q E h => ?_) fun A outer s H vs Q E hr h => ?_
  · obtain ⟨a, C, v, rfl, _⟩ := h
    rfl
  · obtain ⟨a, C, v, rfl, T, no, ha, q⟩ := h
    refine ⟨_, pss_one (ps_ost (pe_var (i := 0) rfl (.inl rfl)) (pe_var (i := 1) rfl (.inl rfl))), ?_⟩
    exact ⟨v, rfl, .ref a, rfl, a, C, rfl, T, no, .inl ⟨ha, fun dx hdx ne => q dx hdx ne⟩⟩
end Vy
namespace Vg
open PySem PySem.Spec PyProof.Rows L2
/-! ## the law's end, guarded, while the law's own defs make code objects -/
/-- what is spoken of at the law's call: the tables of cs, and perhaps the script -/
def startH (a : Addr) (cs : List (Addr × Addr)) (scr : Option HO) : Hp := fun b => if b ∈ cs.map (·.2) then some (.tbl #[]) else if b = a then scr else none
theorem startH_tab {a : Addr} {cs : List (Addr × Addr)} {scr : Option HO} {b : Addr} (h : b ∈ cs.map (·.2)) : startH a cs scr b = some (.tbl #[]) := if_pos h
theorem startH_not {a : Addr} {cs : List (Addr × Addr)} {scr : Option HO} {b : Addr} (h : b ∉ cs.map (·.2)) : startH a cs scr b = if b = a then scr else none := if_neg h
section
variable {P : Program} {w : World} {K : PySem.W.Frag} {mg mb : Str → Option Value} {k : Nat} {fa a : Addr} {cs : List (Addr × Addr)} {fd : FuncData} {x : Str} {sp : Sp} {z : Shared} {vs : List Value} {ns : List Int}
theorem law_callTG (inK : K.In z.heap) (g1 : z.heap.Ns mainGlobals mg) (g2 : z.heap.Ns builtinsNs mb) (g3 : ∀ x : Str, x ≠ "__name__" → mb x = bootBuiltins x) (g4 : z.heap.NoLimit) (g5 : z.gens = #[])
    (t1 : ∀ p ∈ cs, z.heap.get? p.2 = some ({ cls := .none, data := .fields #[] } : Obj)) (t2 : ∀ p ∈ cs, K.lookup p.2 = none) (t3 : ∀ p ∈ cs, PySem.W.CodeHd z.heap p.1 p.2)
    (t4 : ∃ (m : Addr) (om : Obj), mg "__builtins__" = some (.ref m) ∧ m ≠ builtinsNs ∧ z.heap.get? m = some om ∧ om.cls = .type "module" ∧ om.dict = some builtinsNs ∧ om.data = .plain)
    (ha : z.heap.get? a = some { cls := .type "list", data := .seq vs.toArray }) (hi : IntsAre vs ns) (hl : ns.length ≤ sizeLine) (room : Gd k callerA)
    (F : ∀ base : Heap, K.In base → base.Ns mainGlobals mg → (∀ p ∈ cs, LamX.TabB base mg p.1 p.2) → FnG P w K mg base CX0 k fa fd [x] sp) (bind : ∀ (s : Shared) (u : Value), BindsTo s fd ⟨[u], []⟩ [(x, u)])
    (hsp : ∀ H : Hp, (∀ p ∈ cs, H p.2 = some (.tbl #[])) → SqL K H a (ns.map V.int) → sp [.ref a] H (fun v _ => v = .bl true) fun _ _ _ => False) :
    codeAny (model P w) callerA (.call (.ref fa) ⟨[.ref a], []⟩) (fun r s' => r = .ok (.ret (.bool true)) ∧ OldK z.heap s'.heap ∧ s'.os = z.os ∧ AllBare s'.gens) z := by
  have rv := vals_ints hi
  have lv := hi.length
  have tabAt : ∀ {b : Addr}, b ∈ cs.map (·.2) → z.heap.get? b = some ({ cls := .none, data := .fields #[] } : Obj) ∧ K.lookup b = none := fun {b} m => by
    obtain ⟨p, mp, rfl⟩ := List.mem_map.mp m
    exact ⟨t1 p mp, t2 p mp⟩
  have aNo : a ∉ cs.map (·.2) := fun m => by
    have e := (tabAt m).1
    rw [ha] at e
    cases (show Data.seq vs.toArray _ = Data.fields #[] from congrArg Obj.data (Option.some.inj e))
  have go : ∀ scr : Option HO, (∀ u, scr = some u → K.lookup a = none ∧ ∃ o ys, u = .frz o (.lst ys)) → SqL K (startH a cs scr) a (ns.map V.int) → HOk P w (startH a cs scr) z.heap →
      codeAny (model P w) callerA (.call (.ref fa) ⟨[.ref a], []⟩) (fun r s' => r = .ok (.ret (.bool true)) ∧ OldK z.heap s'.heap ∧ s'.os = z.os ∧ AllBare s'.gens) z := fun scr only sq ok => by
    -- what is not spoken of stays in the ground
    have free : ∀ {b : Addr} {o : Obj}, z.heap.get? b = some o → (∀ xs n, o.data ≠ .seq xs n) → o.data ≠ .fields #[] → startH a cs scr b = none := fun {b o} e n1 n2 => by
      by_cases m : b ∈ cs.map (·.2)
      · rw [(tabAt m).1] at e
        cases e
        exact absurd rfl n2
      · rw [startH_not m]
        by_cases q : b = a
        · rw [q, ha] at e
          cases e
          exact absurd rfl (n1 _ _)
        · exact if_neg q
    have stay : ∀ {b : Addr} {o : Obj}, z.heap.get? b = some o → (∀ xs n, o.data ≠ .seq xs n) → o.data ≠ .fields #[] → (hidT z.heap (startH a cs scr)).get? b = some o := fun e n1 n2 => hidT_get e (free e n1 n2)
    have names : ∀ {b : Addr} {m : Str → Option Value}, z.heap.Ns b m → (hidT z.heap (startH a cs scr)).Ns b m := fun ⟨o, es, ep, e, d, r⟩ => ⟨o, es, ep, stay e (fun xs n q => by rw [d] at q; cases q) (fun q => by rw [d] at q; cases q), d, r⟩
    have kb : K.In (hidT z.heap (startH a cs scr)) := fun b o e => hidT_get (inK b o e) (by
      by_cases m : b ∈ cs.map (·.2)
      · rw [(tabAt m).2] at e
        cases e
      · rw [startH_not m]
        by_cases q : b = a
        · rw [if_pos q]
          cases hs : scr with
          | none => rfl
          | some u =>
            rw [q, (only u hs).1] at e
            cases e
        · exact if_neg q)
    have tb : ∀ p ∈ cs, LamX.TabB (hidT z.heap (startH a cs scr)) mg p.1 p.2 := fun p mp => by
      obtain ⟨m, om, b1, b2, b3, b4, b5, b6⟩ := t4
      refine ⟨?_, ⟨m, om, b1, b2, fun q => ?_, fun q => ?_, stay b3 (fun xs n q => by rw [b6] at q; cases q) (fun q => by rw [b6] at q; cases q), b4, b5, b6⟩, fun q => ?_⟩
      · obtain ⟨o, us, f1, f2, f3, f4, f5, f6, f7, c1, c2, c3, c4, rest⟩ := t3 p mp
        refine ⟨o, us, f1, f2, f3, f4, f5, f6, f7, stay c1 (fun xs n q => by rw [c3] at q; cases q) (fun q => ?_), c2, c3, c4, rest⟩
        rw [c3] at q
        cases q
        simp at c4
      · obtain ⟨o, es, ep, e, d, _⟩ := g1
        rw [q, e] at b3
        cases b3
        rw [d] at b6
        cases b6
      · rw [q, t1 p mp] at b3
        cases b3
        cases b6
      · obtain ⟨o, es, ep, e, d, _⟩ := g1
        rw [q, t1 p mp] at e
        cases e
        cases d
    have e0 : Env0 P w K mg (hidT z.heap (startH a cs scr)) callerA [] z (startH a cs scr) := ⟨rfl, ⟨kb, names g1, ⟨mb, names g2, g3⟩, let ⟨mc, h1, h2⟩ := g4; ⟨mc, names h1, h2⟩⟩, fun b o e => of_hidT e, Nat.le_of_eq (hidT_size _ _), trivial, fun b m => absurd (show b ∈ ([] : List Addr) from m) (by simp), ok, .of_eq g5⟩
    refine codeAny_mono ((F _ kb (names g1) tb).go callerA [] z (startH a cs scr) ⟨[.ref a], []⟩ [.ref a] [.ref a] _ _ room e0 (bind z (.ref a)) (.cons rfl .nil) (hsp _ (fun p mp => startH_tab (List.mem_map.mpr ⟨p, mp, rfl⟩)) sq)) fun r s' h => ?_
    rcases r with e | fl
    · exact False.elim h
    · cases fl with
      | ret u =>
        obtain ⟨v, H', os, bare, un, ok', r', q⟩ := h
        obtain rfl : v = .bl true := q
        obtain rfl : u = Value.bool true := r'
        have same : ∀ b o, b ∉ cs.map (·.2) → z.heap.get? b = some o → s'.heap.get? b = some o := fun b o m e => by
          have w1 := startH_not (a := a) (scr := scr) m
          cases q : startH a cs scr b with
          | none => exact un.keep b o e q (fun m => absurd (show b ∈ ([] : List Addr) from m) (by simp)) (by simp)
          | some t =>
            by_cases ba : b = a
            · rw [if_pos ba, q] at w1
              obtain ⟨_, ob, ys, rfl⟩ := only t w1.symm
              have e1 := (ok b _ q).1
              have e2 := (ok' b _ (un.frzs b ob _ q)).1
              rw [e] at e1
              cases e1
              exact e2
            · rw [if_neg ba, q] at w1
              cases w1
        have more : ∀ b, b ∈ cs.map (·.2) → ∃ us : Array Value, s'.heap.get? b = some ({ cls := .none, data := .fields us } : Obj) := fun b m => by
          obtain ⟨us, e⟩ := un.tbls b #[] (startH_tab m)
          exact ⟨_, ok' b _ e⟩
        refine ⟨rfl, ⟨fun b o e => ?_, fun b o e => ?_⟩, os, bare⟩
        · by_cases m : b ∈ cs.map (·.2)
          · obtain ⟨us, e'⟩ := more b m
            obtain ⟨p, mp, rfl⟩ := List.mem_map.mp m
            have w1 := t1 p mp
            rw [w1] at e
            cases e
            exact .inr (.inl ⟨((t3 p mp).tab w1).isCodeTable, rfl, #[], us, rfl, by rw [Array.empty_append]; exact e'⟩)
          · exact .inl (same b o m e)
        · by_cases m : b ∈ cs.map (·.2)
          · exact let ⟨_, e'⟩ := more b m; ⟨_, e'⟩
          · exact ⟨o, same b o m e⟩
      | _ => exact False.elim h
  cases hk : K.lookup a with
  | some o =>
    obtain rfl := Option.some.inj ((inK a o hk).symm.trans ha)
    refine go none (fun u e => nomatch e) (.inr ⟨_, vs.toArray, _, hk, rfl, rfl, rfl, by rw [List.size_toArray, lv]; exact hl, by simpa using rv⟩) fun b u e => ?_
    by_cases m : b ∈ cs.map (·.2)
    · rw [startH_tab m] at e
      cases e
      exact (tabAt m).1
    · rw [startH_not m] at e
      split at e <;> cases e
  | none =>
    refine go (some (.frz { cls := .type "list", data := .seq vs.toArray } (.lst (ns.map V.int)))) (fun u e => ⟨hk, _, _, (Option.some.inj e).symm⟩) (.inl (.inr ⟨{ cls := .type "list", data := .seq vs.toArray }, (startH_not aNo).trans (if_pos rfl)⟩)) fun b u e => ?_
    by_cases m : b ∈ cs.map (·.2)
    · rw [startH_tab m] at e
      cases e
      exact (tabAt m).1
    · rw [startH_not m] at e
      by_cases q : b = a
      · rw [if_pos q] at e
        cases e
        rw [q]
        exact ⟨ha, by rw [List.length_map]; exact hl, vs, _, rv, ha⟩
      · rw [if_neg q] at e
        cases e
end
/-- what a law's row tells of its law at the call: its def, the tables of its makers of code, its promise -/
structure ReadyG (P : Program) (w : World) (K : PySem.W.Frag) (mg : Str → Option Value) (h : Heap) (n k : Nat) (fa : Addr) (x : Str) (fd : FuncData) (cs : List (Addr × Addr)) (sp : Sp) : Prop where
  tab : ∀ p ∈ cs, h.get? p.2 = some ({ cls := .none, data := .fields #[] } : Obj)
  out : ∀ p ∈ cs, K.lookup p.2 = none
  code : ∀ p ∈ cs, PySem.W.CodeHd h p.1 p.2
  bind : ∀ (s : Shared) (u : Value), BindsTo s fd ⟨[u], []⟩ [(x, u)]
  here : ∀ (H : Hp) (a : Addr) (ns : List Int), ns.length ≤ n → (∀ p ∈ cs, H p.2 = some (.tbl #[])) → SqL K H a (ns.map V.int) → sp [.ref a] H (fun v _ => v = .bl true) fun _ _ _ => False
  fn : ∀ base : Heap, K.In base → base.Ns mainGlobals mg → (∀ p ∈ cs, LamX.TabB base mg p.1 p.2) → FnG P w K mg base CX0 k fa fd [x] sp
theorem walk_ofTG {l : PySem.W.OpenLaw} {n k : Nat} {q : Program} {loose : List Str} {XP : (Str → Option Value) → Heap → Prop} {YP : World → Heap → Prop} {d : DefRec} {K : Params → PySem.W.Frag} {x : Str} (hn : l.most = some n) (hn2 : n ≤ sizeLine) (hdf : d.params.defaults = []) (room : Gd k callerA)
    (hY : ∀ (w : World) (h : Heap), YP w h → (K w.params).In h)
    (R : ∀ (w : World) (mg : Str → Option Value) (fa : Addr) (h : Heap), YP w h → (K w.params).In h → h.Ns mainGlobals mg → mg d.name = some (.ref fa) → ∃ (fd : FuncData) (cs : List (Addr × Addr)) (sp : Sp), ReadyG l.prog w (K w.params) mg h n k fa x fd cs sp) :
    PySem.W.WalkO q loose XP YP l.row.toRowW d [] (fun f vs => PySem.call f vs) := by
  refine Att.attach_callB hn hdf fun w s₀ s₁ mg mb fa o pm cd doc a vs ns G Y ho hd hcd hmg hobj hints hlen hbits hg => ?_
  obtain ⟨fd, cs, sp, r⟩ := R w mg fa _ Y (hY w _ Y) G.T.g hmg
  exact law_callTG (hY w _ Y) G.T.g G.T.b G.T.builtins G.T.nolimit hg r.tab r.out r.code G.T.bmain hobj hints (Nat.le_trans hlen hn2) room r.fn r.bind fun H hH hS => r.here H a ns hlen hH hS
end Vg
namespace Vy
open PySem PySem.Spec PyProof.Rows L2
/-- a def with a star that lets an exception out -/
theorem starX {P : Program} {w : World} {K : PySem.W.Frag} {mg : Str → Option Value} {base : Heap} {x qual pv : Str} {st : Stmt} {f : Addr} {fd : FuncData} {N : List Str} {k : Nat} {sp : Sp} (F : Fun K x qual st f fd) (S : FnScope N [pv] (defScope st))
    (hb : ∀ (kV doc pm : Value) (an : Option Addr) (cdv ct : Value) (rest : List Value), bindArgs (PySem.W.fnOf x qual (defArgs st) (defBody st) (defScope st) .none kV doc pm an cdv ct) ⟨rest, []⟩ = (newTuple rest >>= fun t => pure [(pv, t)]))
    (body : ∀ (cdv : Value) (A : Around) (outer : List Env) (s : Shared) (H : Hp) (vs : List V) (Q : VK) (E : XK), Room k (A.deeper (envOfC qual (defScope st) s.heap.objs.size f cdv)) → sp vs H Q E →
      ∃ t, PSs (cxOf (L2.CX P w) P w K mg base N qual (defScope st) f cdv A outer s H E) (defBody st) t ∧ t { nx := fun _ H' => Q .non H', rt := Q } (L2.start N vs) H) :
    FnR P w K mg base (L2.CX P w) (k + 1) f (fun vs H Q E => vs.length ≤ sizeLine ∧ ∀ p, H p = none → sp [V.ref p] (upd H p (.tup vs)) Q E) := by
  obtain ⟨oc, od, kV, doc, pm, an, cdv, ct, osl, rfl, lk, hcd⟩ := F.ex
  refine FnR.imp (StX.fn_star (ps := []) (pv := pv) lk hcd S StX.cxUp (fun us rest h => ?_) fun A outer s H vs Q E hr hsp => body cdv A outer s H vs Q E hr hsp) fun vs H Q E ⟨h1, h2⟩ => ⟨[], vs, rfl, rfl, h1, h2⟩
  obtain rfl := List.eq_nil_of_length_eq_zero h
  exact hb kV doc pm an cdv ct rest
end Vy
namespace Vy
open PySem PySem.Spec PyProof.Rows L2
/-! ## repr of data, or of a dict of one int to one int -/
inductive Dq (K : PySem.W.Frag) (H : Hp) : V → PyData → Prop
  | dr {v : V} {d : PyData} (h : Vx.Dr K H v d) : Dq K H v d
  | one {p : Addr} {k v : Int} (h : H p = some (.dK [(.inl k, .int v)])) : Dq K H (.ref p) (.dict [(.int k, .int v)])
def rReprQ (K : PySem.W.Frag) : List V → Hp → VK → Prop := fun xs H Q => ∃ (v : V) (d : PyData), xs = [v] ∧ Dq K H v d ∧ d.showable = true ∧ d.depth ≤ 60 ∧ d.shown.length ≤ sizeLine ∧ Q (.str d.shown) H
section
variable {X : Cx}
theorem call_reprQ {k : Nat} (hr : Room k X.A) (hg : X.A.guards = some []) : CallR X (.builtin "repr") (rReprQ X.K) := by
  intro ps s σ H xs us Q I rel h
  obtain ⟨v, d, rfl, hd, hs, hdp, hl, q⟩ := h
  cases hd with
  | dr e => exact Vx.call_repr_data hr hg ps s σ H _ us Q I rel ⟨v, d, rfl, e, hs, hdp, hl, q⟩
  | @one p k v e =>
    obtain ⟨u, rfl, ru⟩ := vals1 rel
    have hu := hr.units
    cases (show u = Value.ref p from ru)
    obtain ⟨_, hsys, vs, rv, o, es, ep, h1, h2, h3, _, h4, _⟩ := (show ObjOk X.prog X.w H s.heap p (.dK [(.inl k, .int v)]) from I.hok p _ e)
    match vs, rv, h4 with
    | [(kk, vv)], .cons r1 .nil, h4 =>
      obtain ⟨w1, w2⟩ := r1
      replace w1 : (Sum.inl k : Key) = kk := w1
      subst w1
      obtain ⟨t2, rfl⟩ := (show ∃ t, vv = Value.int v t from w2)
      obtain ⟨en, hl2, hk, hv⟩ : ∃ en : DictEntry, es.toList = [en] ∧ keyIs (.inl k) en.key = true ∧ en.val = .int v t2 := by
        revert h4
        generalize es.toList = l
        intro h4
        cases h4 with
        | cons a b c =>
          cases c
          exact ⟨_, rfl, a, b⟩
      obtain ⟨t1, ek⟩ : ∃ t, en.key = .int k t := by
        rcases keyIs_shape hk with ⟨i, t, e1, e2⟩ | ⟨x, t, e1, _⟩
        · cases e1
          exact ⟨t, e2⟩
        · cases e1
      have hR : Reads s.heap (.ref p) (.dict [(.int k, .int v)]) ([p] ++ ([] ++ []) ++ ([] ++ [])) := by
        refine .dict h1 h2.1 h3 (as := [] ++ []) (bs := [] ++ []) ?_ ?_
        · rw [hl2]
          show ReadsAll s.heap [en.key] [.int k] _
          rw [ek]
          exact .cons (.int _ _) .nil
        · rw [hl2]
          show ReadsAll s.heap [en.val] [.int v] _
          rw [hv]
          exact .cons (.int _ _) .nil
      refine repr_of_reads' hR hs (fun _ m => ?_) hg (by omega) (fun b o z => z) (fun h' t tk kp => ?_) hl
      · simp at m
        rw [m, beq_self_eq_true] at hsys
        cases hsys
      · exact ⟨.str _, H, I.un (t' := tk) (Un.kept kp) (I.hok.kept kp), ⟨t, rfl⟩, q⟩
end
end Vy
namespace Vy
open PySem PySem.Spec PyProof.Rows L2
/-! ## how long the text of a tuple is -/
theorem shownAll_map : ∀ ds : List PyData, PyData.shownAll ds = ds.map PyData.shown
  | [] => rfl
  | d :: ds => congrArg (d.shown :: ·) (shownAll_map ds)
theorem piled_le {k : Nat} : ∀ {ts : List Str}, (∀ t ∈ ts, t.length ≤ k) → piled ts ≤ (k + 2) * ts.length
  | [], _ => Nat.zero_le _
  | t :: ts, h => by
    have h1 := h t (List.mem_cons_self ..)
    have ih := piled_le (ts := ts) fun u m => h u (List.mem_cons_of_mem _ m)
    have e : piled (t :: ts) = t.length + 2 + piled ts := by simp [piled]
    rw [e, List.length_cons, Nat.mul_succ]
    omega
theorem tup_len {k : Nat} {ds : List PyData} (h : ∀ d ∈ ds, d.shown.length ≤ k) : (PyData.tuple ds).shown.length ≤ (k + 2) * ds.length + 3 := by
  have e : (PyData.tuple ds).shown = tupleText (ds.map PyData.shown) := by
    show tupleText (PyData.shownAll ds) = _
    rw [shownAll_map]
  rw [e]
  unfold tupleText
  rw [Str.length_append, Str.length_append]
  have h1 : ((("(" : String) : Str)).length = 1 := rfl
  have h2 : ((if (ds.map PyData.shown).length == 1 then ",)" else ")" : String) : Str).length ≤ 2 := by
    split
    · exact Nat.le_refl 2
    · exact Nat.le_succ 1
  have h3 : (Str.join ", " (ds.map PyData.shown)).length ≤ (k + 2) * ds.length := by
    cases ds with
    | nil => exact Nat.zero_le _
    | cons d ds =>
      have a := join_length_add ((d :: ds).map PyData.shown) (by simp)
      have b := piled_le (k := k) (ts := (d :: ds).map PyData.shown) fun t m => by
        obtain ⟨d', md, rfl⟩ := List.mem_map.mp m
        exact h d' md
      rw [List.length_map] at b
      omega
  omega
theorem int_len {i : Int} (h0 : 0 ≤ i) (h1 : i ≤ 1000000000) : (PyData.int i).shown.length ≤ 10 := toString_length_le (k := 10) h0 (by decide) (by omega)
theorem int_able {i : Int} (h0 : 0 ≤ i) (h1 : i ≤ 1000000000) : (PyData.int i).showable = true := by
  refine decide_eq_true ?_
  by_cases z : i.natAbs = 0
  · rw [z]
    decide
  · exact (Nat.log2_lt z).mpr (Nat.lt_of_le_of_lt (show i.natAbs ≤ 2 ^ 30 by omega) (Nat.pow_lt_pow_right (by decide) (by decide)))
theorem able_all : ∀ {ds : List PyData}, (∀ d ∈ ds, d.showable = true) → PyData.showableAll ds = true
  | [], _ => rfl
  | d :: ds, h => by
    show (d.showable && PyData.showableAll ds) = true
    rw [h d (List.mem_cons_self ..), able_all fun e m => h e (List.mem_cons_of_mem _ m)]
    rfl
theorem depth_all {k : Nat} : ∀ {ds : List PyData}, (∀ d ∈ ds, d.depth ≤ k) → PyData.depthAll ds ≤ k
  | [], _ => by simp [PyData.depthAll]
  | d :: ds, h => by
    have a := h d (List.mem_cons_self ..)
    have b := depth_all (ds := ds) fun e m => h e (List.mem_cons_of_mem _ m)
    simp only [PyData.depthAll]
    omega
end Vy
namespace Vg
open PySem PySem.Spec PyProof.Rows L2
/-- as okG, for a def whose code object is known -/
theorem okGT {P : Program} {w : World} {K : PySem.W.Frag} {mg : Str → Option Value} {base : Heap} {CX : CXT} {x qual : Str} {st : Stmt} {f : Addr} {fd : FuncData} {N ps : List Str} {k : Nat} {sp : Sp} {cd : Value} (F : Fun K x qual st f fd) (hc : fd.code = cd) (S : FnScope N ps (defScope st)) (len : ∀ vs H Q E, sp vs H Q E → vs.length = ps.length)
    (body : ∀ (A : Around) (outer : List Env) (s : Shared) (H : Hp) (vs : List V) (Q : VK) (E : XK), Gd k (A.deeper (envOfC qual (defScope st) s.heap.objs.size f cd)) → sp vs H Q E →
      ∃ t, PSs (cxOf CX P w K mg base N qual (defScope st) f cd A outer s H E) (defBody st) t ∧ t { nx := fun _ H' => Q .non H', rt := Q } (L2.start N vs) H) : FnG P w K mg base CX (k + 1) f fd ps sp := by
  obtain ⟨oc, od, kV, doc, pm, an, cdv, ct, osl, rfl, lk, hcd⟩ := F.ex
  obtain rfl : cdv = cd := hc
  refine ⟨len, fun A outer s H args us vs Q E g e0 hb r hsp => ?_⟩
  have old : ∀ b o, base.get? b = some o → s.heap.get? b = some o := fun b o e => (e0.bs b o e).1
  have kinds : ∀ y ∈ ps.zip us, (defScope st).names.lookup y.1 = some .local ∨ ((defScope st).names.lookup y.1 = some .cell ∧ ((cellsFrom (s.heap.objs.size + 1) (defScope st).names []).lookup y.1).isSome = true) := by
    rintro ⟨n, v⟩ hy
    exact (S.par n (List.of_mem_zip hy).1).imp (fun q => q) fun q => ⟨q, PySem.W.cellsFrom_some _ _ _ (.inl q)⟩
  have bound := hb
  refine codeAny_call_function g.rm.depth (e0.mod.kin.keeps old _ _ lk) rfl S.co S.gen rfl (PySem.W.codeRec_of (e0.mod.kin.keeps old) hcd) (bound _ _ _ _ (wpAny_newFunctionEnv_cells S.kind kinds ?_))
  intro env he s1 x
  subst he
  obtain ⟨t, ht, hq⟩ := body A outer s H vs Q E ⟨g.rm.deeper _, g.gd⟩ hsp
  exact ⟨(e0.mod.nolimit.keeps old).keeps x.toInCall.keep, codeAny_func (wpAny_mono (ht.run [] s1 _ H _ (inv_start S g.rm.hd e0 (len _ _ _ _ hsp) r x) hq) (fun fl s' hs => by
    have z := body_end hs
    cases fl <;> exact z) fun e s' hs => hs)⟩
end Vg
namespace Vy
open PySem PySem.Spec PyProof.Rows L2
/-! ## that the text of data is a text of signs -/
theorem ok_ofString (s : String) : PyData.strOk (Str.ofString s) = true := by
  unfold PyData.strOk
  rw [Str.ofString_eq_toList]
  rw [List.all_toArray, List.all_map, List.all_eq_true]
  intro c _
  refine decide_eq_true ?_
  rcases c.valid with h | ⟨_, h⟩
  · exact Nat.lt_trans h (by decide)
  · exact h
theorem ok_append {a b : Str} (h1 : PyData.strOk a = true) (h2 : PyData.strOk b = true) : PyData.strOk (a ++ b) = true := by
  unfold PyData.strOk at *
  rw [Str.cps_append, Array.all_append, h1, h2]
  rfl
theorem ok_join {s : Str} (hs : PyData.strOk s = true) : ∀ {ts : List Str}, (∀ t ∈ ts, PyData.strOk t = true) → PyData.strOk (Str.join s ts) = true
  | [], _ => by
    show PyData.strOk Str.empty = true
    decide +kernel
  | [x], h => h x (List.mem_cons_self ..)
  | x :: y :: r, h => ok_append (ok_append (h x (List.mem_cons_self ..)) hs) (ok_join hs (ts := y :: r) fun t m => h t (List.mem_cons_of_mem _ m))
theorem tup_ok {ds : List PyData} (h : ∀ d ∈ ds, PyData.strOk d.shown = true) : PyData.strOk (PyData.tuple ds).shown = true := by
  have e : (PyData.tuple ds).shown = tupleText (ds.map PyData.shown) := by
    show tupleText (PyData.shownAll ds) = _
    rw [shownAll_map]
  rw [e]
  unfold tupleText
  refine ok_append (ok_append (ok_ofString _) (ok_join (ok_ofString _) fun t m => ?_)) (ok_ofString _)
  obtain ⟨d, md, rfl⟩ := List.mem_map.mp m
  exact h d md
theorem int_ok (i : Int) : PyData.strOk (PyData.int i).shown = true := ok_ofString _
end Vy
namespace Vs
open PySem PySem.Spec PyProof.Rows L2 SrtO
/-- a dict's keys that are pairs of ints -/
abbrev pk (r : Int × Int) : List Key := [.inl r.1, .inl r.2]
/-- rows of two ints at addresses -/
abbrev Rws (H : Hp) (ts : List Addr) (L : List (Int × Int)) : Prop := Paired (fun t r => H t = some (.tup [.int r.1, .int r.2])) ts L
theorem rws_len {H : Hp} {ts : List Addr} {L : List (Int × Int)} (h : Rws H ts L) : ts.length = L.length := by
  induction h with
  | nil => rfl
  | cons _ _ ih => rw [List.length_cons, List.length_cons, ih]
def lexP : Int × Int → Int × Int → Prop := fun p q => p.1 < q.1 ∨ p.1 = q.1 ∧ p.2 ≤ q.2
/-- the pair that a key tuple holds -/
def pairAt (H : Hp) : Value → Int × Int
  | .ref t => match H t with
    | some (.tup [.int a, .int b]) => (a, b)
    | _ => (0, 0)
  | _ => (0, 0)
theorem pairAt_of {H : Hp} {t : Addr} {r : Int × Int} (h : H t = some (.tup [.int r.1, .int r.2])) : pairAt H (.ref t) = r := by
  show (match H t with | some (.tup [.int a, .int b]) => (a, b) | _ => (0, 0)) = r
  rw [h]
theorem pairAt_all {H : Hp} : ∀ {ts : List Addr} {L : List (Int × Int)}, Rws H ts L → ts.map (fun t => pairAt H (.ref t)) = L
  | _, _, .nil => rfl
  | _, _, .cons h t => by rw [List.map_cons, pairAt_of h, pairAt_all t]
theorem rws_of {H : Hp} : ∀ {ts : List Addr}, (∀ t ∈ ts, ∃ r : Int × Int, H t = some (.tup [.int r.1, .int r.2])) → Rws H ts (ts.map fun t => pairAt H (.ref t))
  | [], _ => .nil
  | t :: ts, h => by
    obtain ⟨r, e⟩ := h t (List.mem_cons_self ..)
    refine .cons ?_ (rws_of fun u m => h u (List.mem_cons_of_mem _ m))
    dsimp only
    rw [pairAt_of e]
    exact e
theorem rws_mem {H : Hp} {ts : List Addr} {L : List (Int × Int)} (h : Rws H ts L) : ∀ t ∈ ts, ∃ r : Int × Int, H t = some (.tup [.int r.1, .int r.2]) := by
  induction h with
  | nil => exact fun t m => by cases m
  | cons e _ ih =>
    intro t m
    rcases List.mem_cons.mp m with rfl | m
    · exact ⟨_, e⟩
    · exact ih t m
theorem unmap {α β : Type} {f : α → β} : ∀ {l : List β} {m : List α}, (∀ x ∈ l, ∃ a ∈ m, x = f a) → ∃ k : List α, l = k.map f ∧ ∀ a ∈ k, a ∈ m
  | [], m, _ => ⟨[], rfl, fun a h => by cases h⟩
  | x :: l, m, h => by
    obtain ⟨a, ma, rfl⟩ := h x (List.mem_cons_self ..)
    obtain ⟨k, rfl, hk⟩ := unmap (l := l) (m := m) fun y my => h y (List.mem_cons_of_mem _ my)
    exact ⟨a :: k, rfl, fun b mb => by
      rcases List.mem_cons.mp mb with rfl | mb
      · exact ma
      · exact hk b mb⟩
section
variable {X : Cx}
/-- sorted(d) of a dict whose keys are pairs of ints -/
def rSortedDP : List V → Hp → VK → Prop := fun vs H Q => ∃ (a : Addr) (kvs : List (List Key × V)) (L : List (Int × Int)), vs = [.ref a] ∧ Rd H a (.dT kvs) ∧ kvs.map (·.1) = L.map pk ∧
  ∀ (p : Addr) (ts : List Addr) (M : List (Int × Int)), H p = none → M.Perm L → M.Pairwise lexP → Rws H ts M → Q (.ref p) (upd H p (.lst (ts.map V.ref)))
theorem call_sortedDP (hc : X.calm = true) : CallR X (.builtin "sorted") rSortedDP := by
  intro pins s σ H xs us Q I r q
  obtain ⟨a, kvs, L, ex, hd, hks, q⟩ := q
  subst ex
  obtain ⟨u, eu, rx⟩ := vals1 r
  subst eu
  cases rx
  obtain ⟨z, hs, ks, pr, o, es, ep, ho, hx, hdt, he, hn⟩ := (show ObjOk X.prog X.w H s.heap a (.dT kvs) from hd.ok I.hok)
  have l1 : es.size = ks.length := size_of_entries he
  have l2 : kvs.length = ks.length := Paired.length pr
  have ik : IsKeys H kvs (ks.map fun x => x.2.1) := isKeys_of pr
  have rows : Rws H (ks.map fun x => x.2.1) L := by
    generalize (ks.map fun x => x.2.1) = bs at ik
    clear q pr he l2 hd z
    induction ik generalizing L with
    | nil =>
      cases L with
      | nil => exact .nil
      | cons r L => cases hks
    | cons e _ ih =>
      cases L with
      | nil => cases hks
      | cons r L =>
        rw [List.map_cons, List.map_cons] at hks
        obtain ⟨h1, h2⟩ := List.cons.inj hks
        refine .cons ?_ (ih L h2)
        rw [h1] at e
        exact e
  refine Calls.call_function_entry kind_sorted plain_sorted entry_sorted (args_sorted1 _) ?_
  unfold Builtin.«sorted»
  refine wpAny_bind (m := checkCount "sorted" 1 1 _) (wpAny_pure ?_)
  refine wpAny_bind (PySem.W.kdu_collect (A := X.A.in1) (kdl_raw hs hx hdt) (I.ok.hd hc) ho (by omega) fun h' tk acc hk it => ?_)
  have ea : acc.toList = ks.map fun x => Value.ref x.2.1 := by
    have hl : acc.toList.length = ks.length := by rw [Array.length_toList, it.1]; exact l1
    apply List.ext_getElem?
    intro j
    rw [List.getElem?_map]
    cases hj : acc.toList[j]? with
    | none =>
      have h1 := List.getElem?_eq_none_iff.mp hj
      rw [List.getElem?_eq_none (by omega)]
      all_goals rfl
    | some v =>
      obtain ⟨en, hen, hv⟩ := it.2 j v (by rw [← Array.getElem?_toList]; exact hj)
      have qe := entry_at he j
      rw [hen] at qe
      cases hb : ks[j]? with
      | none =>
        rw [hb] at qe
        exact nomatch (show some en = none from qe)
      | some b =>
        rw [hb] at qe
        have e2 : en = entryOfKey (tupleKind (mixKind X.prog X.w)) b := Option.some.inj qe
        rw [hv, e2]
        all_goals rfl
  have eb : acc.toList = (ks.map fun x => x.2.1).map Value.ref := by rw [ea, List.map_map]; all_goals rfl
  generalize hts : (ks.map fun x => x.2.1) = ts at rows eb
  have lts : ts.length ≤ sizeLine := by rw [← hts, List.length_map]; omega
  have lz : acc.toList.length ≤ sizeLine := by rw [eb, List.length_map]; exact lts
  have I1 : Inv X pins σ H { s with heap := h', toks := tk } := I.kept hk
  refine wpAny_bind (wpAny_newList ?_ lz)
  have hoL : (h'.push (seqObj "list" acc.toList.toArray 0)).get? h'.objs.size = some (seqObj "list" acc.toList.toArray 0) := Heap.get?_push_size _ rfl
  show wpAny _ _ _ _ _ { s with heap := h'.push (seqObj "list" acc.toList.toArray 0), toks := tk }
  have isp : ∀ v ∈ acc.toList, Srt.IsPair (h'.push (seqObj "list" acc.toList.toArray 0)) v (pairAt H v).1 (pairAt H v).2 := fun v hv => by
    rw [eb] at hv
    obtain ⟨t, mt, rfl⟩ := List.mem_map.mp hv
    obtain ⟨r, e⟩ := rws_mem rows t mt
    rw [pairAt_of e]
    obtain ⟨_, its2, r2, o, ho, hc, n, hd⟩ := I1.hok _ _ e
    obtain ⟨u1, u2, rfl, ri, rj⟩ := vals2 r2
    obtain ⟨t1, rfl⟩ := ri
    obtain ⟨t2, rfl⟩ := rj
    exact ⟨t, o, t1, t2, n, rfl, Heap.get?_push_of_some _ ho, hc, hd⟩
  refine wpAny_bind (wpAny_holding (wpAny_call_entry slot_list_sort ⟨_, hoL, rfl⟩ entry_list_sort
    (list_sort_ord (s := { s with heap := h'.push (seqObj "list" acc.toList.toArray 0), toks := tk }) (swo_lex (pairAt H)) hoL lz (fun h2 => pairs_sortableO (by omega) isp fun o e => ?_) fun out g1 g2 => ⟨_, rfl, ?_⟩) (args_list_sort _)))
  · have e' : some o = some (seqObj "list" acc.toList.toArray 0) := e.symm.trans hoL
    cases e'
    intro c
    exact absurd (Value.type.inj c) (by decide)
  obtain ⟨e', he'⟩ := sortedHeap_at (vs := acc.toList) (out := out.toArray) hoL
  obtain ⟨k, rfl, km⟩ := unmap (f := Value.ref) (l := out) (m := ts) fun x mx => by
    have := g2.perm.mem_iff.mp mx
    rw [eb] at this
    obtain ⟨t, mt, e⟩ := List.mem_map.mp this
    exact ⟨t, mt, e.symm⟩
  have rk : Rws H k (k.map fun t => pairAt H (.ref t)) := rws_of fun t mt => rws_mem rows t (km t mt)
  have lk : (k.map V.ref).length ≤ sizeLine := by
    have := g2.perm.length_eq
    rw [List.length_map] at this ⊢
    rw [this]
    exact lz
  refine wpAny_pure ⟨_, rfl, .ref h'.objs.size, upd H h'.objs.size (.lst (k.map V.ref)), I1.laid (t' := tk) (fun b u e => ?_) (Nat.le_refl _)
    (show ObjOk X.prog X.w _ _ _ (.lst (k.map V.ref)) from ⟨lk, k.map Value.ref, e', vals_refs _, he'⟩), rfl, q _ k (k.map fun t => pairAt H (.ref t)) (I1.hok.fresh (Nat.le_refl _)) ?_ ?_ rk⟩
  · have hb : b < h'.objs.size := Heap.lt_size e
    rw [sortedHeap_old (Nat.ne_of_lt hb) (by rw [size_push']; exact Nat.lt_succ_of_lt hb)]
    exact Heap.get?_push_of_some _ e
  · have := g2.perm.map (pairAt H)
    rw [eb, List.map_map, List.map_map] at this
    have e2 := pairAt_all rows
    rw [← e2]
    exact this
  · rw [List.pairwise_map]
    have o3 : (k.map Value.ref).Pairwise fun x y => lexB (pairAt H y) (pairAt H x) = false := g1
    rw [List.pairwise_map] at o3
    refine o3.imp fun {x y} h => ?_
    have := lexB_no.mp h
    unfold lexP
    omega
end
end Vs
namespace Vs
open PySem PySem.Spec PyProof.Rows L2
section
variable {σ : L2.St} {H : Hp}
theorem rd_nm8 {i : Nat} {v : V} {b0 b1 b2 b3 b4 b5 b6 b7 : Option V} {Qg : L2.St → Hp → Prop} (e : σ.set i (some v) = [b0, b1, b2, b3, b4, b5, b6, b7]) (h : Qg [b0, b1, b2, b3, b4, b5, b6, b7] H) : gName i v σ H Qg := (congrArg (fun z => Qg z H) e).mpr h
theorem rd_nm9 {i : Nat} {v : V} {b0 b1 b2 b3 b4 b5 b6 b7 b8 : Option V} {Qg : L2.St → Hp → Prop} (e : σ.set i (some v) = [b0, b1, b2, b3, b4, b5, b6, b7, b8]) (h : Qg [b0, b1, b2, b3, b4, b5, b6, b7, b8] H) : gName i v σ H Qg := (congrArg (fun z => Qg z H) e).mpr h
theorem rd_nm10 {i : Nat} {v : V} {b0 b1 b2 b3 b4 b5 b6 b7 b8 b9 : Option V} {Qg : L2.St → Hp → Prop} (e : σ.set i (some v) = [b0, b1, b2, b3, b4, b5, b6, b7, b8, b9]) (h : Qg [b0, b1, b2, b3, b4, b5, b6, b7, b8, b9] H) : gName i v σ H Qg := (congrArg (fun z => Qg z H) e).mpr h
theorem rd_nm12 {i : Nat} {v : V} {b0 b1 b2 b3 b4 b5 b6 b7 b8 b9 b10 b11 : Option V} {Qg : L2.St → Hp → Prop} (e : σ.set i (some v) = [b0, b1, b2, b3, b4, b5, b6, b7, b8, b9, b10, b11]) (h : Qg [b0, b1, b2, b3, b4, b5, b6, b7, b8, b9, b10, b11] H) : gName i v σ H Qg := (congrArg (fun z => Qg z H) e).mpr h
theorem rd_nm14 {i : Nat} {v : V} {b0 b1 b2 b3 b4 b5 b6 b7 b8 b9 b10 b11 b12 b13 : Option V} {Qg : L2.St → Hp → Prop} (e : σ.set i (some v) = [b0, b1, b2, b3, b4, b5, b6, b7, b8, b9, b10, b11, b12, b13]) (h : Qg [b0, b1, b2, b3, b4, b5, b6, b7, b8, b9, b10, b11, b12, b13] H) : gName i v σ H Qg := (congrArg (fun z => Qg z H) e).mpr h
end
end Vs
namespace Vs
open PySem PySem.Spec PyProof.Rows L2
theorem op_inDK {X : Cx} {K : PySem.W.Frag} (e : X.K = K) (hu : X.A.units + 65 < cLine) : OpR X (compareOp .In) (rInD K) := e ▸ op_inD hu
end Vs
namespace Vs
open PySem PySem.Spec PyProof.Rows L2
/-- what stands behind a piece is gone through once -/
theorem seq_all {a b : TS} {D : Ends} {σ : L2.St} {H : Hp} (I : L2.St → Hp → Prop) (h : ∀ C : L2.St → Hp → Prop, (∀ σ' H', I σ' H' → C σ' H') → a { D with nx := C } σ H) (fin : ∀ σ' H', I σ' H' → b D σ' H') : tSeq a b D σ H := h _ fin
end Vs
-- import HandS.Star
-- import HandS.Defaults
-- import HandS.MakeKwOnly
namespace Vs
open PySem PySem.Spec PyProof.Rows L2
section
variable {X : Cx} {CX : CXT} {k : Nat} {C f : Addr} {fd : FuncData} {ps ks : List Str} {sp : Sp} {E : XK} {m : Str} {pos apos : Pos} {o : Expr} {kws : List Keyword} {ta : TE} {tk : TA} {g : List Value → List Value → List Value} {gV : List V → List V → List V}
/-- o.m(k = v, ..), o an instance of C -/
def tMethK (C : Addr) (m : Str) (sp : Sp) (gV : List V → List V → List V) (E : XK) (ta : TE) (tk : TA) : TE := fun σ H Q => ta σ H fun x H1 => ∃ a dx fs, x = .ref a ∧ H1 a = some (.ins C dx fs) ∧ fs.lookup m = none ∧ tk σ H1 fun zs H2 => sp (gV [x] zs) H2 Q E
theorem pe_methK0 {pl : Sem Bool} (he : PE X o ta) (c : Cls X.K C) (hm : Meth X.K C m f) (F : FnOk X.prog X.w X.K X.mg X.base CX k f fd ps sp) (room : Room k X.A) (hb : KBinds X.K fd ps ks g gV) (pa : Passes CX X E) (hkw : PK X kws tk)
    (h1 : (backToKw pos (keywordEach kws X.env)).all (·.1.isSome) = true := by rfl) (h2 : (backToKw pos (keywordEach kws X.env)).filterMap (·.1) = ks := by rfl)
    (h4 : ((backTo pos (starEach [] X.env)).any (·.1) || (backToKw pos (keywordEach kws X.env)).any (·.1.isNone)) = false := by rfl)
    (ht : eval (.Call (.Attribute o m apos) [] kws pos) X.env = (do
      let ov ← eval o X.env
      standAt apos.atName
      let (f, first) ← holding [ov] (getMethod ov m pl)
      callWith pos f first (backTo pos (starEach [] X.env)) (backToKw pos (keywordEach kws X.env))) := by rfl) :
    PE X (.Call (.Attribute o m apos) [] kws pos) (tMethK C m sp gV E ta tk) := by
  refine ⟨fun pins s σ H Q I h => ?_⟩
  refine PySem.W.methodCall_KW (pl := pl) (thn (he.run pins s σ H _ I h) fun u s1 ⟨x, H1, I1, rx, a, dx, fs, ex, ea, l, q⟩ => ?_) ht
  subst ex
  obtain rfl : u = Value.ref a := rx
  refine getmeth_ok I1 ea c hm l ?_
  refine PySem.W.callWith_KW0 (first := [.ref a]) (h₀ := X.base) I.ok.mod.kin hm.kp h1 (thn (hkw.run pos pins s1 σ H1 _ I1 q) fun ws s2 ⟨zs, H2, I2, rz, q2⟩ => ⟨I2.kIn, ?_⟩) h4
  rw [h2]
  exact run_fnk (us := [.ref a]) (vs := [.ref a]) F room hb pa I2 (.cons rfl .nil) rz q2
end
/-- a method's keywords behind the instance: as written, and in the other turn -/
def kMc : List Value → List Value → List Value | [], _ => [] | u :: t, ws => (u :: t) ++ ws
def kMcV : List V → List V → List V | [], _ => [] | u :: t, ws => (u :: t) ++ ws
def kMs : List Value → List Value → List Value | [], _ => [] | u :: t, ws => (u :: t) ++ ws.reverse
def kMsV : List V → List V → List V | [], _ => [] | u :: t, ws => (u :: t) ++ ws.reverse
end Vs
local macro_rules | `(tactic| walk_at "rd1") => `(tactic| first
  | ((with_reducible apply Vk.rd_var); exact rfl)
  | (with_reducible refine Vk.rd_c ?_)
  | (with_reducible refine Vk.rd_seq ?_)
  | (with_reducible refine Vk.rd_asg ?_)
  | (with_reducible refine Vk.rd_ret ?_)
  | (with_reducible refine Vk.rd_drop ?_)
  | (with_reducible refine Vk.rd_nx ?_)
  | (with_reducible refine Vk.rd_nm ?_)
  | (with_reducible refine Vk.rd_op ?_)
  | (with_reducible refine Vk.rd_un ?_)
  | (with_reducible refine Vk.rd_i0 ?_)
  | ((with_reducible refine Vk.rd_i ?_ ?_); (first | decide | (show (0 : Int) < _; decide) | exact ⟨by decide, by decide⟩ | exact ⟨by decide, by decide, by decide⟩ | exact .inl ⟨by decide, by decide⟩ | exact .inr ⟨by decide, by decide⟩ | exact .inl ⟨by omega, by omega⟩ | exact .inr ⟨by omega, by omega⟩ | exact ⟨by omega, by omega⟩ | (show (0 : Int) < _; omega)))
  | (with_reducible refine Vk.rd_u ?_)
  | ((with_reducible refine Vk.rd_eq ?_ ?_); exact rfl)
  | ((with_reducible refine Vk.rd_ne ?_ ?_); exact rfl)
  | (with_reducible refine Vk.rd_test ?_)
  | (with_reducible refine Vk.rd_tb ?_)
  | (with_reducible refine Vk.rd_bl ?_)
  | (with_reducible refine Vk.rd_chain ?_)
  | (with_reducible refine Vk.rd_ifs ?_)
  | (with_reducible refine Vk.rd_ife ?_)
  | (with_reducible refine Vk.rd_and ?_)
  | (with_reducible refine Vk.rd_or ?_)
  | (with_reducible refine Vk.rd_not ?_)
  | (with_reducible refine Vk.rd_andV ?_)
  | (with_reducible refine Vk.rd_orV ?_)
  | (with_reducible refine Vk.rd_notV ?_)
  | (with_reducible refine Vk.rd_nil ?_)
  | (with_reducible refine Vk.rd_yes ?_)
  | (with_reducible refine Vk.rd_cons ?_)
  | (with_reducible refine Vk.rd_cb ?_)
  | (with_reducible refine Vk.rd_call ?_)
  | (with_reducible refine Vk.rd_callK ?_)
  | (with_reducible refine Vk.rd_sub ?_)
  | (with_reducible refine Vk.rd_tup ?_)
  | (with_reducible refine Vk.rd_lst ?_)
  | ((with_reducible apply Vk.rd_ixl); (first | assumption | exact .inl (.inl L2.upd_same) | exact .inl (.inl (by assumption))); (first | exact rfl | assumption))
  | ((with_reducible apply Vk.rd_ixt); (first | assumption | exact .inl (.inl L2.upd_same) | exact .inl (.inl (by assumption))); (first | exact rfl | assumption))
  | ((with_reducible apply Vk.rd_setl); (first | assumption | exact L2.upd_same); (exact rfl))
  | (with_reducible refine Vk.rd_T ?_)
  | (with_reducible refine Vk.rd_F ?_)
  | ((with_reducible apply Vk.rd_Tt); (first | exact rfl | assumption))
  | ((with_reducible apply Vk.rd_Ff); (first | exact rfl | assumption)))
local macro_rules | `(tactic| walk_at "rd") => `(tactic| repeat walk_at "rd1")
local macro_rules | `(tactic| walk_at "rd1") => `(tactic| first
  | (with_reducible refine Tb.rd_tupF ?_))
local macro_rules | `(tactic| walk_at "rd1") => `(tactic| first
  | (with_reducible refine Tb.rd_bm ?_))
namespace K08
open PySem PySem.Spec PyProof.Rows L2 Vk Tb RZ Cl Vg
def topS (i : Nat) : Stmt := PySem.Challenge.pw_allscreens_k08_mirrors_great_and_refused.main.body.getD i (.Pass ⟨0, 0, 0, 0⟩)
abbrev s_is_int : Stmt := topS 10
abbrev N_is_int : List Str := ["value"]
theorem sc_is_int : FnScope N_is_int ["value"] (defScope s_is_int) := ⟨rfl, rfl, rfl, by decide +kernel, rfl, by decide +kernel, by decide +kernel⟩
abbrev s_is_between : Stmt := topS 11
abbrev N_is_between : List Str := ["value", "least", "most"]
theorem sc_is_between : FnScope N_is_between ["value", "least", "most"] (defScope s_is_between) := ⟨rfl, rfl, rfl, by decide +kernel, rfl, by decide +kernel, by decide +kernel⟩
abbrev s_is_number : Stmt := topS 12
abbrev N_is_number : List Str := ["value"]
theorem sc_is_number : FnScope N_is_number ["value"] (defScope s_is_number) := ⟨rfl, rfl, rfl, by decide +kernel, rfl, by decide +kernel, by decide +kernel⟩
abbrev s_is_rect : Stmt := topS 14
abbrev N_is_rect : List Str := ["value", "number"]
theorem sc_is_rect : FnScope N_is_rect ["value"] (defScope s_is_rect) := ⟨rfl, rfl, rfl, by decide +kernel, rfl, by decide +kernel, by decide +kernel⟩
abbrev s_check_rect : Stmt := topS 15
abbrev N_check_rect : List Str := ["value"]
theorem sc_check_rect : FnScope N_check_rect ["value"] (defScope s_check_rect) := ⟨rfl, rfl, rfl, by decide +kernel, rfl, by decide +kernel, by decide +kernel⟩
abbrev s_Mirror_init : Stmt := inClass (topS 17) 0
abbrev N_Mirror_init : List Str := ["self", "x", "y", "across", "down", "number"]
theorem sc_Mirror_init : FnScope N_Mirror_init ["self", "x", "y", "across", "down"] (defScope s_Mirror_init) := ⟨rfl, rfl, rfl, by decide +kernel, rfl, by decide +kernel, by decide +kernel⟩
abbrev s_Mirror_call : Stmt := inClass (topS 17) 1
abbrev N_Mirror_call : List Str := ["self", "u", "v"]
theorem sc_Mirror_call : FnScope N_Mirror_call ["self", "u", "v"] (defScope s_Mirror_call) := ⟨rfl, rfl, rfl, by decide +kernel, rfl, by decide +kernel, by decide +kernel⟩
abbrev s_Mirror_image : Stmt := inClass (topS 17) 2
abbrev N_Mirror_image : List Str := ["self", "rect", "x", "y", "width", "height"]
theorem sc_Mirror_image : FnScope N_Mirror_image ["self", "rect"] (defScope s_Mirror_image) := ⟨rfl, rfl, rfl, by decide +kernel, rfl, by decide +kernel, by decide +kernel⟩
abbrev s_Mirror_meets : Stmt := inClass (topS 17) 5
abbrev N_Mirror_meets : List Str := ["self", "other_mirror", "rect", "x", "y", "width", "height", "columns", "rows"]
theorem sc_Mirror_meets : FnScope N_Mirror_meets ["self", "other_mirror", "rect"] (defScope s_Mirror_meets) := ⟨rfl, rfl, rfl, by decide +kernel, rfl, by decide +kernel, by decide +kernel⟩
abbrev s_numbers_of : Stmt := topS 18
abbrev N_numbers_of : List Str := ["mirror"]
theorem sc_numbers_of : FnScope N_numbers_of ["mirror"] (defScope s_numbers_of) := ⟨rfl, rfl, rfl, by decide +kernel, rfl, by decide +kernel, by decide +kernel⟩
abbrev s_spelled : Stmt := topS 19
abbrev N_spelled : List Str := ["mirror", "words"]
theorem sc_spelled : FnScope N_spelled ["mirror"] (defScope s_spelled) := ⟨rfl, rfl, rfl, by decide +kernel, rfl, by decide +kernel, by decide +kernel⟩
abbrev s_meeting : Stmt := topS 20
abbrev N_meeting : List Str := ["one", "other", "start", "length", "shift", "mirrored", "other_shift", "other_mirrored", "twice", "place"]
theorem sc_meeting : FnScope N_meeting ["one", "other", "start", "length"] (defScope s_meeting) := ⟨rfl, rfl, rfl, by decide +kernel, rfl, by decide +kernel, by decide +kernel⟩
abbrev s_cell : Stmt := topS 22
abbrev N_cell : List Str := ["_law_script", "_law_k", "_law_state_here", "_law_cell_here"]
theorem sc_cell : FnScope N_cell ["_law_script", "_law_k"] (defScope s_cell) := ⟨rfl, rfl, rfl, by decide +kernel, rfl, by decide +kernel, by decide +kernel⟩
abbrev s_pool : Stmt := topS 23
abbrev N_pool : List Str := ["_law_cell_here", "_law_digits"]
theorem sc_pool : FnScope N_pool ["_law_cell_here"] (defScope s_pool) := ⟨rfl, rfl, rfl, by decide +kernel, rfl, by decide +kernel, by decide +kernel⟩
abbrev s_draw : Stmt := topS 24
abbrev N_draw : List Str := ["_law_pool_here", "_law_many", "_law_old", "_law_digit"]
theorem sc_draw : FnScope N_draw ["_law_pool_here", "_law_many"] (defScope s_draw) := ⟨rfl, rfl, rfl, by decide +kernel, rfl, by decide +kernel, by decide +kernel⟩
abbrev s_caught : Stmt := topS 25
abbrev N_caught : List Str := ["_law_call", "_law_caught_here", "e"]
theorem sc_caught : FnScope N_caught ["_law_call"] (defScope s_caught) := ⟨rfl, rfl, rfl, by decide +kernel, rfl, by decide +kernel, by decide +kernel⟩
abbrev s_great_right : Stmt := topS 26
abbrev N_great_right : List Str := ["_law_pool_here", "_law_p", "_law_q", "_law_over", "_law_below", "_law_map_here", "_law_m", "_law_n", "_law_left", "_law_box", "_law_top"]
theorem sc_great_right : FnScope N_great_right ["_law_pool_here"] (defScope s_great_right) := ⟨rfl, rfl, rfl, by decide +kernel, rfl, by decide +kernel, by decide +kernel⟩
abbrev s_refused_right : Stmt := topS 27
abbrev N_refused_right : List Str := ["_law_pool_here", "_law_odd", "_law_told", "_law_spots", "_law_bad", "_law_good", "_law_thing", "_law_worse"]
theorem sc_refused_right : FnScope N_refused_right ["_law_pool_here"] (defScope s_refused_right) := ⟨rfl, rfl, rfl, by decide +kernel, rfl, by decide +kernel, by decide +kernel⟩
abbrev s_law : Stmt := topS 28
abbrev N_law : List Str := ["_law_script", "_law_k", "_law_pool_here", "_law_turn"]
theorem sc_law : FnScope N_law ["_law_script"] (defScope s_law) := ⟨rfl, rfl, rfl, by decide +kernel, rfl, by decide +kernel, by decide +kernel⟩
structure Ad where
  f_is_int : Addr
  d_is_int : FuncData
  f_is_between : Addr
  d_is_between : FuncData
  f_is_number : Addr
  d_is_number : FuncData
  f_is_rect : Addr
  d_is_rect : FuncData
  f_check_rect : Addr
  d_check_rect : FuncData
  f_Mirror_init : Addr
  d_Mirror_init : FuncData
  f_Mirror_call : Addr
  d_Mirror_call : FuncData
  f_Mirror_image : Addr
  d_Mirror_image : FuncData
  f_Mirror_meets : Addr
  d_Mirror_meets : FuncData
  f_numbers_of : Addr
  d_numbers_of : FuncData
  f_spelled : Addr
  d_spelled : FuncData
  f_meeting : Addr
  d_meeting : FuncData
  f_cell : Addr
  d_cell : FuncData
  f_pool : Addr
  d_pool : FuncData
  f_draw : Addr
  d_draw : FuncData
  f_caught : Addr
  d_caught : FuncData
  f_great_right : Addr
  d_great_right : FuncData
  f_refused_right : Addr
  d_refused_right : FuncData
  f_law : Addr
  d_law : FuncData
  t_MOST_SIZE : Tok
  c_Mirror : Addr
  cs : List Addr
  i_InvalidNumber : Addr
  i_InvalidRect : Addr
  i_InvalidColour : Addr
  i_InvalidPairs : Addr
def cl (A : Ad) (j : Nat) : Addr := A.cs.getD j 0
def tst (cs : List Addr) (t : Nat) : Value := if t < 7 then .ref (cs.getD t 0) else .type "ValueError"
def exq (j t : Nat) : Bool := (j == 0 && (t == 0 || t == 4 || t == 7)) || (j == 1 && (t == 1 || t == 4 || t == 7))
def isB (K : PySem.W.Frag) (cs : List Addr) : Bool := (List.range 2).all fun j => (List.range 8).all fun t => PySem.W.kitOne K (.ref (cs.getD j 0)) (tst cs t) == some (exq j t)
def exB (K : PySem.W.Frag) (cs : List Addr) : Bool := (List.range 2).all fun j => Vm.exfB K (cs.getD j 0) && Vy.oexB K (cs.getD j 0)
theorem isB_ok {K : PySem.W.Frag} {cs : List Addr} (h : isB K cs = true) (j t : Nat) (hj : j < 2) (ht : t < 8) : PySem.W.kitOne K (.ref (cs.getD j 0)) (tst cs t) = some (exq j t) :=
  eq_of_beq (List.all_eq_true.mp (List.all_eq_true.mp h j (List.mem_range.mpr hj)) t (List.mem_range.mpr ht))
theorem exB_ok {K : PySem.W.Frag} {cs : List Addr} (h : exB K cs = true) (j : Nat) (hj : j < 2) : Vx.ExF K (cs.getD j 0) ∧ OexC K (cs.getD j 0) := by
  have := List.all_eq_true.mp h j (List.mem_range.mpr hj)
  rw [Bool.and_eq_true] at this
  exact ⟨Vm.exfB_ok this.1, Vy.oexB_ok this.2⟩
def caB (K : PySem.W.Frag) (cs : List Addr) : Bool := (List.range 2).all fun j => PySem.W.exmAny K (.ref (cs.getD j 0)) [.ref (cs.getD 4 0), .ref (cs.getD 5 0), .ref (cs.getD 6 0)] == some true
theorem caB_ok {K : PySem.W.Frag} {cs : List Addr} (h : caB K cs = true) (j : Nat) (hj : j < 2) : PySem.W.exmAny K (.ref (cs.getD j 0)) [.ref (cs.getD 4 0), .ref (cs.getD 5 0), .ref (cs.getD 6 0)] = some true :=
  eq_of_beq (List.all_eq_true.mp h j (List.mem_range.mpr hj))
def clsKB (K : PySem.W.Frag) (C : Addr) : Bool := PySem.W.plainGet K C Str.empty && (PySem.W.hasDictIn K C && (PySem.W.plainOver K C && PySem.W.findIn K (.ref C) "__setattr__" == some (some (.builtin "object.__setattr__"))))
theorem clsKB_ok {K : PySem.W.Frag} {C : Addr} (h : clsKB K C = true) : Cls K C := by
  unfold clsKB at h
  simp only [Bool.and_eq_true] at h
  exact ⟨h.1, h.2.1, h.2.2.1, eq_of_beq h.2.2.2⟩
structure Txt (K : PySem.W.Frag) (mg : Str → Option Value) (A : Ad) : Prop where
  F_is_int : Fun K "is_int" "is_int" s_is_int A.f_is_int A.d_is_int
  B_is_int : Binds K A.d_is_int ["value"] []
  g_is_int : mg "is_int" = some (.ref A.f_is_int)
  F_is_between : Fun K "is_between" "is_between" s_is_between A.f_is_between A.d_is_between
  B_is_between : Binds K A.d_is_between ["value", "least", "most"] []
  g_is_between : mg "is_between" = some (.ref A.f_is_between)
  F_is_number : Fun K "is_number" "is_number" s_is_number A.f_is_number A.d_is_number
  B_is_number : Binds K A.d_is_number ["value"] []
  g_is_number : mg "is_number" = some (.ref A.f_is_number)
  F_is_rect : Fun K "is_rect" "is_rect" s_is_rect A.f_is_rect A.d_is_rect
  B_is_rect : Binds K A.d_is_rect ["value"] []
  g_is_rect : mg "is_rect" = some (.ref A.f_is_rect)
  F_check_rect : Fun K "check_rect" "check_rect" s_check_rect A.f_check_rect A.d_check_rect
  B_check_rect : Binds K A.d_check_rect ["value"] []
  g_check_rect : mg "check_rect" = some (.ref A.f_check_rect)
  F_Mirror_init : FunD K "__init__" "Mirror.__init__" (defArgs s_Mirror_init) (defBody s_Mirror_init) (defScope s_Mirror_init) [] [("across", .bl false), ("down", .bl false)] A.f_Mirror_init A.d_Mirror_init
  F_Mirror_call : Fun K "__call__" "Mirror.__call__" s_Mirror_call A.f_Mirror_call A.d_Mirror_call
  B_Mirror_call : Binds K A.d_Mirror_call ["self", "u", "v"] []
  F_Mirror_image : Fun K "image" "Mirror.image" s_Mirror_image A.f_Mirror_image A.d_Mirror_image
  B_Mirror_image : Binds K A.d_Mirror_image ["self", "rect"] []
  F_Mirror_meets : Fun K "meets" "Mirror.meets" s_Mirror_meets A.f_Mirror_meets A.d_Mirror_meets
  B_Mirror_meets : Binds K A.d_Mirror_meets ["self", "other_mirror", "rect"] []
  F_numbers_of : Fun K "numbers_of" "numbers_of" s_numbers_of A.f_numbers_of A.d_numbers_of
  B_numbers_of : Binds K A.d_numbers_of ["mirror"] []
  g_numbers_of : mg "numbers_of" = some (.ref A.f_numbers_of)
  F_spelled : Fun K "spelled" "spelled" s_spelled A.f_spelled A.d_spelled
  B_spelled : Binds K A.d_spelled ["mirror"] []
  g_spelled : mg "spelled" = some (.ref A.f_spelled)
  F_meeting : Fun K "meeting" "meeting" s_meeting A.f_meeting A.d_meeting
  B_meeting : Binds K A.d_meeting ["one", "other", "start", "length"] []
  g_meeting : mg "meeting" = some (.ref A.f_meeting)
  F_cell : Fun K "_law_cell" "_law_cell" s_cell A.f_cell A.d_cell
  B_cell : Binds K A.d_cell ["_law_script", "_law_k"] []
  g_cell : mg "_law_cell" = some (.ref A.f_cell)
  F_pool : Fun K "_law_pool" "_law_pool" s_pool A.f_pool A.d_pool
  B_pool : Binds K A.d_pool ["_law_cell_here"] []
  g_pool : mg "_law_pool" = some (.ref A.f_pool)
  F_draw : Fun K "_law_draw" "_law_draw" s_draw A.f_draw A.d_draw
  B_draw : Binds K A.d_draw ["_law_pool_here", "_law_many"] []
  g_draw : mg "_law_draw" = some (.ref A.f_draw)
  F_caught : Fun K "_law_caught" "_law_caught" s_caught A.f_caught A.d_caught
  B_caught : Binds K A.d_caught ["_law_call"] []
  g_caught : mg "_law_caught" = some (.ref A.f_caught)
  F_great_right : Fun K "_law_great_right" "_law_great_right" s_great_right A.f_great_right A.d_great_right
  B_great_right : Binds K A.d_great_right ["_law_pool_here"] []
  g_great_right : mg "_law_great_right" = some (.ref A.f_great_right)
  F_refused_right : Fun K "_law_refused_right" "_law_refused_right" s_refused_right A.f_refused_right A.d_refused_right
  B_refused_right : Binds K A.d_refused_right ["_law_pool_here"] []
  g_refused_right : mg "_law_refused_right" = some (.ref A.f_refused_right)
  F_law : Fun K "law" "law" s_law A.f_law A.d_law
  B_law : Binds K A.d_law ["_law_script"] []
  g_law : mg "law" = some (.ref A.f_law)
  g_Mirror : mg "Mirror" = some (.ref A.c_Mirror)
  S_Mirror : Cls K A.c_Mirror
  M_Mirror : Mk K A.c_Mirror A.f_Mirror_init
  O_Mirror : StX.CallO K A.c_Mirror A.f_Mirror_call
  P_Mirror_image : Meth K A.c_Mirror "image" A.f_Mirror_image
  P_Mirror_meets : Meth K A.c_Mirror "meets" A.f_Mirror_meets
  N_Mirror_x : NoAttr K A.c_Mirror "x"
  N_Mirror_y : NoAttr K A.c_Mirror "y"
  N_Mirror_across : NoAttr K A.c_Mirror "across"
  N_Mirror_down : NoAttr K A.c_Mirror "down"
  K_Mirror_image_rect : KBinds K A.d_Mirror_image ["self", "rect"] ["rect"] Vs.kMc Vs.kMcV
  K_Mirror_meets_rect_other_mirror : KBinds K A.d_Mirror_meets ["self", "other_mirror", "rect"] ["rect", "other_mirror"] Vs.kMs Vs.kMsV
  m_ValueError : mg "ValueError" = none
  m_abs : mg "abs" = none
  m_all : mg "all" = none
  m_bool : mg "bool" = none
  m_divmod : mg "divmod" = none
  m_int : mg "int" = none
  m_isinstance : mg "isinstance" = none
  m_len : mg "len" = none
  m_max : mg "max" = none
  m_min : mg "min" = none
  m_range : mg "range" = none
  m_repr : mg "repr" = none
  m_tuple : mg "tuple" = none
  g_MOST_SIZE : mg "MOST_SIZE" = some (.int 1000000000000 A.t_MOST_SIZE)
  g_InvalidNumber : mg "InvalidNumber" = some (.ref (cl A 0))
  g_InvalidRect : mg "InvalidRect" = some (.ref (cl A 1))
  g_InvalidColour : mg "InvalidColour" = some (.ref (cl A 2))
  g_InvalidPairs : mg "InvalidPairs" = some (.ref (cl A 3))
  g_FormError : mg "FormError" = some (.ref (cl A 4))
  g_StateError : mg "StateError" = some (.ref (cl A 5))
  g_LimitError : mg "LimitError" = some (.ref (cl A 6))
  C_InvalidNumber : Vm.Cl K [.type "ValueError", .type "Exception", .type "BaseException", .type "object"] "ValueError.__new__" "value" (cl A 0) A.i_InvalidNumber
  I_InvalidNumber : Vm.Ini K "value" "InvalidNumber.__init__" A.i_InvalidNumber
  C_InvalidRect : Vm.Cl K [.type "ValueError", .type "Exception", .type "BaseException", .type "object"] "ValueError.__new__" "value" (cl A 1) A.i_InvalidRect
  I_InvalidRect : Vm.Ini K "value" "InvalidRect.__init__" A.i_InvalidRect
  C_InvalidColour : Vm.Cl K [.type "ValueError", .type "Exception", .type "BaseException", .type "object"] "ValueError.__new__" "value" (cl A 2) A.i_InvalidColour
  I_InvalidColour : Vm.Ini K "value" "InvalidColour.__init__" A.i_InvalidColour
  C_InvalidPairs : Vm.Cl K [.type "ValueError", .type "Exception", .type "BaseException", .type "object"] "ValueError.__new__" "value" (cl A 3) A.i_InvalidPairs
  I_InvalidPairs : Vm.Ini K "value" "InvalidPairs.__init__" A.i_InvalidPairs
  all_F : ∀ j, j < 2 → Vx.ExF K (cl A j) ∧ OexC K (cl A j)
  all_I : ∀ j t, j < 2 → t < 8 → PySem.W.kitOne K (.ref (cl A j)) (tst A.cs t) = some (exq j t)
  all_C : ∀ j, j < 2 → PySem.W.exmAny K (.ref (cl A j)) [.ref (cl A 4), .ref (cl A 5), .ref (cl A 6)] = some true
open Vm Vx
section
theorem boot_isi : bootBuiltins "isinstance" = some (.builtin "isinstance") := by decide +kernel
theorem dq_same {K : PySem.W.Frag} {H H' : Hp} (s : Same H H') {v : V} {d : PyData} (h : Vy.Dq K H v d) : Vy.Dq K H' v d := by
  cases h with
  | dr e =>
    cases e with
    | dp e => exact .dr (.dp (Vm.dp_same s _ _ e))
    | em e => exact .dr (.em (s _ _ e))
  | one e => exact .one (s _ _ e)
theorem dr_same {K : PySem.W.Frag} {H H' : Hp} (s : Same H H') {v : V} {d : PyData} (h : Vx.Dr K H v d) : Vx.Dr K H' v d := by
  cases h with
  | dp e => exact .dp (Vm.dp_same s _ _ e)
  | em e => exact .em (s _ _ e)
theorem is_cl {K : PySem.W.Frag} {mg : Str → Option Value} {A : Ad} {a : Addr} {j t : Nat} {H : Hp} {Q : VK} (T : Txt K mg A) (hj : j < 2) (ht : t < 7) (e : Vm.ExAt H a (cl A j)) (q : Q (.bl (exq j t)) H) : Vm.rIsX K [.ref a, .ref (cl A t)] H Q := by
  have k := T.all_I j t hj (by omega)
  unfold tst at k
  rw [if_pos ht] at k
  exact ⟨a, cl A j, _, _, _, rfl, .own _, e, (T.all_F j hj).1, k, q⟩
theorem is_ve {K : PySem.W.Frag} {mg : Str → Option Value} {A : Ad} {a : Addr} {j : Nat} {H : Hp} {Q : VK} (T : Txt K mg A) (hj : j < 2) (e : Vm.ExAt H a (cl A j)) (q : Q (.bl (exq j 7)) H) : Vm.rIsX K [.ref a, .ty "ValueError"] H Q := by
  have k : PySem.W.kitOne K (.ref (cl A j)) (.type "ValueError") = some (exq j 7) := T.all_I j 7 hj (by omega)
  exact ⟨a, cl A j, _, _, _, rfl, .ty _, e, (T.all_F j hj).1, k, q⟩
theorem takes_len {X : Cx} {W : WX} (tk : Takes X W) : Takes X (fun c d σ H => List.length σ = X.N.length → W c d σ H) := fun u s' ⟨a, B, sI, pins, σ, H, cls, d, e, I, nb, up, sky, na, os, ag, w⟩ =>
  tk u s' ⟨a, B, sI, pins, σ, H, cls, d, e, I, nb, up, sky, na, os, ag, w I.len⟩
/-- what is wished of the exception that the lambda lets out -/
def EchC (K : PySem.W.Frag) (A : Ad) (Q : VK) : XK := fun cls d H' => ∃ (j : Nat) (dd : Addr) (v : V) (data : PyData), j < 2 ∧ cls = .ref (cl A j) ∧ d = some dd ∧ H' dd = some (.xd [("value", v)]) ∧ Vy.Dq K H' v data ∧ data.showable = true ∧ data.depth ≤ 60 ∧ data.shown.length ≤ sizeLine ∧
  ∀ l H'', Same H' H'' → H'' l = some (.lst [.str (if j = 0 then "number" else "rect"), .str data.shown]) → Q (.ref l) H''
def NoneC (Q : VK) (H1 : Hp) : Prop := [V.str "none", V.str ""].length ≤ sizeLine ∧ ∀ p, H1 p = none → Q (.ref p) (upd H1 p (.lst [V.str "none", V.str ""]))
def TTc (K : PySem.W.Frag) (A : Ad) : (XK → Hp → VK → Prop) → Hp → VK → Prop := fun tl H Q => tl (EchC K A Q) H fun _ H1 => NoneC Q H1
def TBK (f c' : Addr) (q : Str) (tl : XK → Hp → VK → Prop) : WX → TS := fun W D σ H' => ∃ Ech : XK, (∀ cls d σ' H', Ech cls d H' → List.length σ' = 3 → W cls d σ' H') ∧ σ[0]? = some (some (.ref f)) ∧ H' c' = some (LamX.CodeO c' q) ∧ tl Ech H' fun _ H1 => NoneC D.rt H1
theorem caught_gives {X : Cx} {A : Ad} (T : Txt X.K X.mg A) {k : Nat} (g0 : Vg.Gd (k + 1) X.A) {g : Addr} {cdg : Value} {q : Str} : LamX.GivesTo X N_caught "_law_caught" (defScope s_caught) g cdg (defBody s_caught) "_law_call" q (TTc X.K A) := by
  obtain ⟨Xp, Xw, K, mg, base, XA, XN, Xs, XH, Xe, Xo, Xst, Xex, Xfn, Xc, Xpn, Xxe⟩ := X
  replace T : Txt K mg A := T
  replace g0 : Vg.Gd (k + 1) XA := g0
  intro f c' s H Q tl act hc h
  replace act : ∀ (W : WX) (pn : List (Addr × Obj)) (xe : Value → Shared → Prop) (E : XK) (p1 p2 : Pos), Takes ((cxOf C8.CX0 Xp Xw K mg base N_caught "_law_caught" (defScope s_caught) g cdg XA Xst s H C8.E0).tr pn xe) W → (∀ cls d σ' H', E cls d H' → W cls d σ' H') →
      PE ((cxOf C8.CX0 Xp Xw K mg base N_caught "_law_caught" (defScope s_caught) g cdg XA Xst s H C8.E0).tr pn xe) (.Call (.Name "_law_call" p1) [] [] p2) (fun σZ HZ Q => σZ[0]? = some (some (.ref f)) ∧ HZ c' = some (LamX.CodeO c' q) ∧ tl E HZ Q) := act
  replace h : TTc K A tl H Q := h
  show ∃ t, PSs (cxOf C8.CX0 Xp Xw K mg base N_caught "_law_caught" (defScope s_caught) g cdg XA Xst s H C8.E0).nox (defBody s_caught) t ∧ t { nx := fun _ H' => Q .non H', rt := Q } (L2.start N_caught [.ref f]) H
  have hg : Vg.Gd k (XA.deeper (envOfC "_law_caught" (defScope s_caught) s.heap.objs.size g cdg)) := ⟨g0.rm.deeper _, g0.gd⟩
  have hr := hg.rm
  refine ⟨_, (pss_cons (ps_set (i := 1) sc_caught.nd rfl (.inl rfl) pe_non)
      (pss_cons (Vx.ps_kept (i := 2) (j := 1) (tb := TBK f c' q tl) rfl rfl rfl sc_caught.nd rfl rfl rfl rfl ⟨rfl, by decide, .inl T.g_FormError⟩ ⟨rfl, by decide, .inl T.g_StateError⟩ ⟨rfl, by decide, .inl T.g_LimitError⟩ (fun W qn xe tk _ => ⟨fun pins s' σ H' D I h' => by
        obtain ⟨Ech, hW, h1, h2, h3⟩ := h'
        exact (pss_cons (ps_expr (act _ qn xe Ech _ _ (takes_len tk) hW)) (pss_one (ps_ret (pe_lst (pa_cons pe_str (pa_cons pe_str pa_nil)))))).run pins s' σ H' D I ⟨h1, h2, h3⟩⟩))
      (pss_cons (ps_if (pw_or (pt_not (pt_val (pe_callB Vm.call_isX (by rfl) T.m_isinstance boot_isi (pa_cons (pv 1) (pa_cons (pe_glob (v := .ref (cl A 4)) (by rfl) T.g_FormError rfl) pa_nil))))) (pw_or1 (pt_not (pt_val (pe_callB Vm.call_isX (by rfl) T.m_isinstance boot_isi (pa_cons (pv 1) (pa_cons (pe_bltn (v := .ty "ValueError") (by rfl) T.m_ValueError (by decide +kernel) rfl) pa_nil))))))).pt
        (pss_one (ps_ret (pe_lst (pa_cons pe_str (pa_cons pe_str pa_nil)))))
        pss_nil)
      (pss_cons (ps_if (pw_or (pt_val (pe_callB Vm.call_isX (by rfl) T.m_isinstance boot_isi (pa_cons (pv 1) (pa_cons (pe_glob (v := .ref (cl A 2)) (by rfl) T.g_InvalidColour rfl) pa_nil)))) (pw_or1 (pt_val (pe_callB Vm.call_isX (by rfl) T.m_isinstance boot_isi (pa_cons (pv 1) (pa_cons (pe_glob (v := .ref (cl A 3)) (by rfl) T.g_InvalidPairs rfl) pa_nil)))))).pt
        (pss_one (ps_ret (pe_lst (pa_cons pe_str (pa_cons pe_str pa_nil)))))
        pss_nil)
      (pss_cons (ps_if (pt_cmpR op_eq (pe_callB Vm.call_isX (by rfl) T.m_isinstance boot_isi (pa_cons (pv 1) (pa_cons (pe_glob (v := .ref (cl A 0)) (by rfl) T.g_InvalidNumber rfl) pa_nil))) (pe_callB Vm.call_isX (by rfl) T.m_isinstance boot_isi (pa_cons (pv 1) (pa_cons (pe_glob (v := .ref (cl A 1)) (by rfl) T.g_InvalidRect rfl) pa_nil))) (nomark _))
        (pss_one (ps_ret (pe_lst (pa_cons pe_str (pa_cons pe_str pa_nil)))))
        pss_nil)
      (pss_one (ps_ret (pe_lst (pa_cons (pe_ifExp (pt_val (pe_callB Vm.call_isX (by rfl) T.m_isinstance boot_isi (pa_cons (pv 1) (pa_cons (pe_glob (v := .ref (cl A 0)) (by rfl) T.g_InvalidNumber rfl) pa_nil)))) pe_str pe_str) (pa_cons (pe_callB (Vy.call_reprQ hr hg.gd) (by rfl) T.m_repr (by decide +kernel) (pa_cons (Vm.pe_hfldK (K := K) rfl (pv 1)) pa_nil)) pa_nil)))))))))), ?_⟩
  walk_at "rd"
  refine ⟨EchC K A Q, fun cls d σ' H' e l3 => ?_, rfl, hc, h⟩
  obtain ⟨x0, x1, x2, rfl⟩ : ∃ x0 x1 x2, σ' = [x0, x1, x2] := by
    match σ', l3 with
    | [a, b, c], _ => exact ⟨a, b, c, rfl⟩
  obtain ⟨j, dd, v, data, hj, rfl, rfl, hdd, hdr, sh, dp, sl, fin⟩ := e
  refine ⟨T.all_C j (by omega), fun a ha => ?_⟩
  have sa := same_new (o := ExH (.ref (cl A j)) (some dd) a) ha
  have dne : dd ≠ a := fun z => by rw [z, ha] at hdd; cases hdd
  have hea : upd H' a (ExH (.ref (cl A j)) (some dd) a) a = some (ExH (.ref (cl A j)) (some dd) a) := upd_same
  have hdd' := sa _ _ hdd
  have hdr' := dq_same sa hdr
  generalize upd H' a (ExH (.ref (cl A j)) (some dd) a) = H1 at sa hea hdd' hdr' ⊢
  have at1 : Vm.ExAt H1 a (cl A j) := .inr ⟨dd, _, hea, hdd'⟩
  have j4 : j < 2 := hj
  walk_at "rd"
  have q4 : exq j 4 = true := by rcases (show j = 0 ∨ j = 1 by omega) with rfl | rfl <;> decide
  have q7 : exq j 7 = true := by rcases (show j = 0 ∨ j = 1 by omega) with rfl | rfl <;> decide
  have q2 : exq j 2 = false := by rcases (show j = 0 ∨ j = 1 by omega) with rfl | rfl <;> decide
  have q3 : exq j 3 = false := by rcases (show j = 0 ∨ j = 1 by omega) with rfl | rfl <;> decide
  have q1 : exq j 1 = !exq j 0 := by rcases (show j = 0 ∨ j = 1 by omega) with rfl | rfl <;> decide
  have q0 : exq j 0 = decide (j = 0) := by rcases (show j = 0 ∨ j = 1 by omega) with rfl | rfl <;> decide
  refine is_cl T j4 (by decide) at1 ?_
  walk_at "rd"
  rw [q4, if_neg (by decide)]
  walk_at "rd"
  refine is_ve T j4 at1 ?_
  walk_at "rd"
  rw [q7, if_neg (by decide)]
  walk_at "rd"
  refine is_cl T j4 (by decide) at1 ?_
  walk_at "rd"
  refine is_cl T j4 (by decide) at1 ?_
  walk_at "rd"
  refine is_cl T j4 (by decide) at1 ?_
  walk_at "rd"
  refine is_cl T j4 (by decide) at1 ?_
  walk_at "rd"
  rw [q1, decide_eq_false (by cases exq j 0 <;> exact fun z => by cases z), if_neg (by decide)]
  walk_at "rd"
  refine is_cl T j4 (by decide) at1 ?_
  have no : PySem.W.findIn K (.ref (cl A j)) "value" = some none := by
    rcases (show j = 0 ∨ j = 1 by omega) with rfl | rfl
    · exact T.C_InvalidNumber.no
    · exact T.C_InvalidRect.no
  have done : ∀ x : Str, x = (if j = 0 then ("number" : Str) else ("rect" : Str)) → ∀ p, H1 p = none → Q (.ref p) (upd H1 p (.lst [.str x, .str data.shown])) := fun x e p np => by
    subst e
    exact fin p _ (sa.trans (same_new np)) upd_same
  by_cases z : j = 0
  · rw [q0, decide_eq_true z]
    rw [if_pos z] at done
    walk_at "rd"
    refine Vm.rd_hf ?_
    walk_at "rd"
    refine ⟨a, _, dd, _, v, rfl, hea, hdd', (T.all_F j j4).1, no, rfl, ?_⟩
    walk_at "rd"
    refine ⟨v, data, rfl, hdr', sh, dp, sl, ?_⟩
    walk_at "rd"
    exact ⟨le_line (Nat.le_of_ble_eq_true rfl), fun p np => done _ rfl p np⟩
  · rw [q0, decide_eq_false z]
    rw [if_neg z] at done
    walk_at "rd"
    refine Vm.rd_hf ?_
    walk_at "rd"
    refine ⟨a, _, dd, _, v, rfl, hea, hdd', (T.all_F j j4).1, no, rfl, ?_⟩
    walk_at "rd"
    refine ⟨v, data, rfl, hdr', sh, dp, sl, ?_⟩
    walk_at "rd"
    exact ⟨le_line (Nat.le_of_ble_eq_true rfl), fun p np => done _ rfl p np⟩
end
@[irreducible] def lamQ (s : Str) : Str := s ++ "<lambda>"
section
variable {X : Cx} {A : Ad}
theorem takesL {A' : Around} {outer : List Env} {s : Shared} {H : Hp} {E : XK} {scope : Scope} {f c' : Addr} : Takes (LamX.lamCx X A' outer s H E scope f c') (fun cls d _ H => E cls d H) := takes_of rfl rfl rfl rfl
theorem passL {A' : Around} {outer : List Env} {s : Shared} {H : Hp} {E : XK} {scope : Scope} {f c' : Addr} : Passes (L2.CX X.prog X.w) (LamX.lamCx X A' outer s H E scope f c') E := passes_call takesL fun _ _ _ _ h => h
/-- _law_caught(lambda: body) -/
theorem pe_lamC (T : Txt X.K X.mg A) {k : Nat} (g0 : Vg.Gd (k + 2) X.A) {c P : Addr} (TB : LamX.TabB X.base X.mg c P) (hcode : X.env.code = .ref c) {q : Str} (hq : lamQ X.env.qual = q) (isg : Gl X "_law_caught") {params : Arguments} {body : Expr} {scope : Scope} {t : XK → TE} {p lpos pos : Pos}
    (hbody : ∀ (A' : Around) (outer : List Env) (s : Shared) (H : Hp) (E : XK) (f c' : Addr), Room k (A'.deeper (LamX.lamEnv X scope s.heap.objs.size f c')) → PE (LamX.lamCx X A' outer s H E scope f c') body (t E))
    (L : LamX.LamS X.env.scope scope) (hdef : defaultsOf params X.env = ([], []) := by rfl) (hbind : ∀ (q : Str) (cl : List (Str × Addr)) (pm cv ctv : Value), bindArgs (PySem.W.kla_fn "<lambda>" q params body scope cl pm cv ctv) ⟨[], []⟩ = pure [] := by intros; rfl) :
    PE X (.Call (.Name "_law_caught" p) [.Lambda params body scope lpos] [] pos) (LamX.tLam [(P, q)] (TTc X.K A) t) := by
  subst hq
  unfold lamQ
  obtain ⟨oc, od, kV, doc, pm, an, cdv, ct, osl, e, lk, hcd⟩ := T.F_caught.ex
  have B := T.B_caught
  rw [e] at B lk
  exact LamX.pe_lamcall (g := A.f_caught) isg T.g_caught T.F_caught.kp lk hcd B sc_caught rfl (.inl rfl) (caught_gives T g0) TB hcode (List.mem_singleton.mpr rfl) (fun p m _ => by rw [List.mem_singleton.mp m]) g0.rm L hdef hbind hbody
end
section
variable {P : Program} {w : World} {K : PySem.W.Frag} {mg : Str → Option Value} {base : Heap} {A : Ad}
/-! ### pools -/
def spCell (K : PySem.W.Frag) : Sp := fun vs H Q _ => ∃ (a : Addr) (ns : List Int) (k : Int), vs = [.ref a, .int k] ∧ SqL K H a (ns.map V.int) ∧ 0 ≤ k ∧ k ≤ 1000 ∧ ∀ z H', Same H H' → Q (.int z) H'
theorem ok_cell (T : Txt K mg A) : FnOk P w K mg base CX0 1 A.f_cell A.d_cell ["_law_script", "_law_k"] (spCell K) := by
  refine T.F_cell.ok sc_cell (fun vs H Q E h => ?_) (fun cdv A0 outer s H vs Q E hr h => ?_)
  · obtain ⟨a, ns, k, rfl, _⟩ := h
    rfl
  · obtain ⟨a, ns, k, rfl, hS, k0, k1, q⟩ := h
    refine ⟨_, (pss_cons (ps_if (pt_cmpR op_lt (pv 1) (pe_callB call_len_seq (by rfl) T.m_len PySem.boot_len (pa_cons (pv 0) pa_nil)) (nomark _))
        (pss_one (ps_ret (pe_ix ix_list (pv 0) (pv 1) (fun _ _ => rfl))))
        pss_nil)
      (pss_cons (ps_set (i := 2) sc_cell.nd rfl (.inl rfl) (pe_op op_mod (pe_op op_mul pe_int (pe_op op_add (pe_op op_add (pe_op op_mul (pv 1) (pv 1)) (pe_op op_mul pe_int (pv 1))) pe_int)) pe_int))
      (pss_cons (ps_for PassesOwn.never rfl (pi_list (pe_slice sl_list (pv 0) po_none (po_some pe_int))) (pg_name (i := 3) sc_cell.nd rfl (.inl rfl))
        (pss_one (ps_set (i := 2) sc_cell.nd rfl (.inl rfl) (pe_op op_mod (pe_op op_add (pe_op op_mul (pv 2) pe_int) (pv 3)) pe_int))))
      (pss_one (ps_ret (pv 2)))))), ?_⟩
    walk_at "rd"
    refine ⟨a, _, rfl, .inl hS, ?_⟩
    walk_at "rd"
    refine rd_2 (fun e => ?_) (fun e => ?_)
    · have hk := of_decide_eq_true e
      obtain ⟨v, e1, e2⟩ := atI_lt k0 hk
      obtain ⟨n, _, rfl⟩ := List.mem_map.mp e2
      walk_at "rd"
      exact q _ _ (Same.refl _)
    · walk_at "rd"
      obtain ⟨ms, em⟩ := cut_ints ns none (some 3)
      refine ⟨.ref a, rfl, 3, rfl, a, _, rfl, hS, fun p np => ⟨p, rfl, ⟨_, .inl (.inl upd_same)⟩, ?_⟩⟩
      rw [em]
      refine for_list (xs := ms.map V.int) (fun i σ H' => ∃ z y, σ = [some (.ref a), some (.int k), some (.int z), y] ∧ Same H H' ∧ H' p = some (.lst (ms.map V.int)))
        ⟨_, none, rfl, same_new np, upd_same⟩ (fun i σ H' _ h => ?_) (fun i x σ H' hx h => ?_) (fun σ H' h => ?_)
      · obtain ⟨z, y, rfl, sm, e⟩ := h
        exact .inl (.inl e)
      · obtain ⟨z, y, rfl, sm, e⟩ := h
        obtain ⟨n, rfl⟩ := mem_ints hx
        walk_at "rd"
        exact ⟨_, _, rfl, sm, e⟩
      · obtain ⟨z, y, rfl, sm, e⟩ := h
        walk_at "rd"
        exact q _ _ sm
def spPool : Sp := fun vs H Q _ => ∃ z : Int, vs = [.int z] ∧ ∀ p H', H p = none → Same H H' → Pool H' p → Q (.ref p) H'
theorem ok_pool (T : Txt K mg A) : FnOk P w K mg base CX0 1 A.f_pool A.d_pool ["_law_cell_here"] spPool := by
  refine T.F_pool.ok sc_pool (fun vs H Q E h => ?_) (fun cdv A0 outer s H vs Q E hr h => ?_)
  · obtain ⟨z, rfl, _⟩ := h
    rfl
  · obtain ⟨z, rfl, q⟩ := h
    refine ⟨_, (pss_cons (ps_set (i := 1) sc_pool.nd rfl (.inl rfl) (pe_ifExp (pw_or (pt_cmpR op_lt (pv 0) pe_int (nomark _)) (pw_or1 (pt_cmpR op_ge (pv 0) (pe_op op_pow pe_int pe_int) (nomark _)))).pt (pe_callB call_abs (by rfl) T.m_abs (by decide +kernel) (pa_cons (pv 0) pa_nil)) pe_int))
      (pss_one (ps_ret (pe_lst (pa_cons (pe_op op_mod (pv 0) pe_int) (pa_cons (pv 1) (pa_cons pe_int pa_nil))))))), ?_⟩
    have fin : ∀ p x d c, H p = none → Q (.ref p) (upd H p (.lst [.int x, .int d, .int c])) := fun p x d c np => q p _ np (same_new np) ⟨x, d, c, upd_same⟩
    walk_at "rd"
    refine rd_2 (fun e => ?_) (fun e => ?_)
    · walk_at "rd"
      refine ⟨_, rfl, ?_⟩
      walk_at "rd"
      exact ⟨le_line (Nat.le_of_ble_eq_true rfl), fun p np => fin p _ _ _ np⟩
    · walk_at "rd"
      refine rd_2 (fun e => ?_) (fun e => ?_)
      · walk_at "rd"
        refine ⟨_, rfl, ?_⟩
        walk_at "rd"
        exact ⟨le_line (Nat.le_of_ble_eq_true rfl), fun p np => fin p _ _ _ np⟩
      · walk_at "rd"
        exact ⟨le_line (Nat.le_of_ble_eq_true rfl), fun p np => fin p _ _ _ np⟩
theorem divp_big {i j : Int} (h0 : 0 < j) (h1 : j < 1393796574908163946345982392040522594123776) : CDivP i j := by
  refine ⟨h0, ?_⟩
  have hl : j.natAbs.log2 < 140 := by
    have hn : j.natAbs ≠ 0 := by omega
    exact (Nat.log2_lt hn).mpr (by omega)
  have hj : ¬ (j == 0) = true := by simpa using (show j ≠ 0 by omega)
  have hd : decide (j.natAbs.log2 / 30 + 1 > 300) = false := decide_eq_false (by omega)
  show (decide ((if (j == 0) = true then 0 else j.natAbs.log2 / 30 + 1) > 300) && _) = false
  rw [if_neg hj, hd, Bool.false_and]
def spDraw : Sp := fun vs H Q _ => ∃ (a : Addr) (m : Int), vs = [.ref a, .int m] ∧ Pool H a ∧ 0 < m ∧ m < 1393796574908163946345982392040522594123776 ∧ ∀ r H', 0 ≤ r → r < m → But [a] H H' → Pool H' a → Q (.int r) H'
theorem ok_draw (T : Txt K mg A) : FnOk P w K mg base CX0 1 A.f_draw A.d_draw ["_law_pool_here", "_law_many"] spDraw := by
  refine T.F_draw.ok sc_draw (fun vs H Q E h => ?_) (fun cdv A0 outer s H vs Q E hr h => ?_)
  · obtain ⟨a, m, rfl, _⟩ := h
    rfl
  · obtain ⟨a, m, rfl, ⟨x, d, c, hP⟩, m0, m1, q⟩ := h
    have ma : a ∈ [a] := List.mem_singleton.mpr rfl
    refine ⟨_, (pss_cons (ps_asg (pe_op op_add (pe_ix ix_list (pv 0) pe_int (fun _ _ => rfl)) pe_int) (pg_sub (pv 0) pe_int set_list))
      (pss_cons (ps_set (i := 2) sc_draw.nd rfl (.inl rfl) (pe_ix ix_list (pv 0) pe_int (fun _ _ => rfl)))
      (pss_cons (ps_asg (pe_op op_mod (pe_op op_add (pe_op op_add (pe_op op_mul (pv 2) (pe_op op_add (pe_op op_mod (pv 2) pe_int) pe_int)) (pe_op op_mul pe_int (pe_ix ix_list (pv 0) pe_int (fun _ _ => rfl)))) pe_int) pe_int) (pg_sub (pv 0) pe_int set_list))
      (pss_cons (ps_if (pt_cmpR op_gt (pe_ix ix_list (pv 0) pe_int (fun _ _ => rfl)) pe_int (nomark _))
        (pss_cons (ps_asg (pe_callB call_divmodW (by rfl) T.m_divmod (by decide +kernel) (pa_cons (pe_ix ix_list (pv 0) pe_int (fun _ _ => rfl)) (pa_cons (pv 1) pa_nil))) (pg_tup rfl (pgs_cons (pg_sub (pv 0) pe_int set_list) (pgs_cons (pg_name (i := 3) sc_draw.nd rfl (.inl rfl)) pgs_nil))))
        (pss_one (ps_ret (pv 3))))
        pss_nil)
      (pss_one (ps_ret (pe_op op_mod (pe_op op_fdiv (pe_ix ix_list (pv 0) pe_int (fun _ _ => rfl)) pe_int) (pv 1)))))))), ?_⟩
    walk_at "rd"
    refine rd_2 (fun e => ?_) (fun e => ?_)
    · walk_at "rd"
      refine ⟨_, _, rfl, divp_big m0 m1, fun p np => ⟨p, _, rfl, .inl (.inl upd_same), rfl, _, _, rfl, ?_⟩⟩
      have na : a ≠ p := fun z => by
        rw [← z, upd_same] at np
        cases np
      have hP2 := (upd_ne (o := .tup [.int (d / m), .int (d % m)]) na).trans (upd_same (H := upd H a (.lst ([.int x, .int d, .int c].set 2 (.int (c + 1))))) (a := a) (o := .lst (([.int x, .int d, .int c].set 2 (.int (c + 1))).set 0 (.int ((x * (x % 43013 + 28009) + 70009 * (c + 1) + 19) % 2147482943)))))
      walk_at "rd"
      refine ⟨_, _, rfl, ?_⟩
      walk_at "rd"
      refine ⟨rfl, ?_⟩
      walk_at "rd"
      refine q _ _ (Int.emod_nonneg _ (by omega)) (Int.emod_lt_of_pos _ m0) (((((But.refl.set ma).set ma).new np).set ma)) ⟨_, _, _, upd_same⟩
    · walk_at "rd"
      refine q _ _ (Int.emod_nonneg _ (by omega)) (Int.emod_lt_of_pos _ m0) ((But.refl.set ma).set ma) ⟨_, _, _, upd_same⟩
end
/-! ### values of any kind -/
inductive Kv (K : PySem.W.Frag) (H : Hp) : V → String → Prop
  | non : Kv K H .non "NoneType"
  | bl (b : Bool) : Kv K H (.bl b) "bool"
  | int (i : Int) : Kv K H (.int i) "int"
  | str (x : Str) : Kv K H (.str x) "str"
  | ref {p : Addr} {T : String} (t : TyX K H (.ref p) (.type T)) (m : T = "list" ∨ T = "tuple" ∨ T = "dict") : Kv K H (.ref p) T
theorem Kv.tyx {K : PySem.W.Frag} {H : Hp} {v : V} {T : String} (k : Kv K H v T) : TyX K H v (.type T) := by
  cases k with
  | non => exact .base .non
  | bl b => exact .base (.bl b)
  | int i => exact .base (.int i)
  | str x => exact .base (.str x)
  | ref t m => exact t
def isi (T n : String) : Bool := T == n || (T == "bool" && n == "int")
theorem isi_ok {K : PySem.W.Frag} {H : Hp} {v : V} {T : String} (k : Kv K H v T) : kitB T "int" = some (isi T "int") ∧ kitB T "bool" = some (isi T "bool") ∧ kitB T "tuple" = some (isi T "tuple") := by
  cases k with
  | ref t m => rcases m with rfl | rfl | rfl <;> exact ⟨by decide +kernel, by decide +kernel, by decide +kernel⟩
  | _ => exact ⟨by decide +kernel, by decide +kernel, by decide +kernel⟩
theorem rd_isi {K : PySem.W.Frag} {H : Hp} {v : V} {T n : String} {b : Bool} {Q : VK} (k : Kv K H v T) (e : kitB T n = some b) (q : Q (.bl b) H) : rIsi K [v, .ty n] H Q :=
  ⟨v, .ty n, .type T, .type n, b, rfl, .ty n, k.tyx, kit_ty e, q⟩
def isInt : V → Bool
  | .int _ => true
  | _ => false
def betw (lo hi : Int) : V → Bool
  | .int i => decide (lo ≤ i) && decide (i ≤ hi)
  | _ => false
theorem tyx_sq {K : PySem.W.Frag} {H : Hp} {a : Addr} {xs : List V} (h : SqT K H a xs) : TyX K H (.ref a) (.type "tuple") := by
  rcases h with (h | ⟨o, h⟩) | ⟨o, its, n, e, c, _⟩
  · exact .base (.tup h)
  · exact .fTuple h
  · exact .kTuple e c
theorem Kv.same {K : PySem.W.Frag} {H H' : Hp} {v : V} {T : String} (s : Same H H') (k : Kv K H v T) : Kv K H' v T := by
  cases k with
  | non => exact .non
  | bl b => exact .bl b
  | int i => exact .int i
  | str x => exact .str x
  | ref t m =>
    refine .ref ?_ m
    cases t with
    | base b =>
      refine .base ?_
      cases b with
      | lst e => exact .lst (s _ _ e)
      | frz e => exact .frz (s _ _ e)
      | tup e => exact .tup (s _ _ e)
      | dK e => exact .dK (s _ _ e)
      | dT e => exact .dT (s _ _ e)
    | set e => exact .set (s _ _ e)
    | kList e c => exact .kList e c
    | kTuple e c => exact .kTuple e c
    | kDict e c => exact .kDict e c
    | fTuple e => exact .fTuple (s _ _ e)
    | fDict e => exact .fDict (s _ _ e)
def rectL : List V → Bool
  | [x, y, a, b] => betw (-1000000000000) 1000000000000 x && betw (-1000000000000) 1000000000000 y && (betw 0 1000000000000 a && betw 0 1000000000000 b)
  | _ => false
theorem rectL_len {xs : List V} (h : xs.length ≠ 4) : rectL xs = false := by
  match xs, h with
  | [], _ => rfl
  | [_], _ => rfl
  | [_, _], _ => rfl
  | [_, _, _], _ => rfl
  | [_, _, _, _], h => exact absurd rfl h
  | _ :: _ :: _ :: _ :: _ :: _, _ => rfl
theorem betw_int {lo hi : Int} {v : V} (h : betw lo hi v = true) : ∃ i, v = .int i ∧ lo ≤ i ∧ i ≤ hi := by
  cases v with
  | int i =>
    have h' : (decide (lo ≤ i) && decide (i ≤ hi)) = true := h
    rw [Bool.and_eq_true, decide_eq_true_eq, decide_eq_true_eq] at h'
    exact ⟨i, rfl, h'.1, h'.2⟩
  | _ => cases h
theorem betw_bound {lo lo' hi : Int} {v : V} (h : betw lo hi v = false) (l : lo ≤ lo') : betw lo' hi v = false := by
  cases v with
  | int i =>
    have h' : (decide (lo ≤ i) && decide (i ≤ hi)) = false := h
    show (decide (lo' ≤ i) && decide (i ≤ hi)) = false
    by_cases a : lo ≤ i
    · rw [decide_eq_true a, Bool.true_and] at h'
      rw [h', Bool.and_false]
    · rw [decide_eq_false (show ¬ lo' ≤ i by omega), Bool.false_and]
  | _ => rfl
theorem rectL_not {xs : List V} (h : (xs.map (betw (-1000000000000) 1000000000000)).all id = false) : rectL xs = false := by
  match xs, h with
  | [], _ => rfl
  | [_], _ => rfl
  | [_, _], _ => rfl
  | [_, _, _], _ => rfl
  | [x, y, a, b], h =>
    cases hx : betw (-1000000000000) 1000000000000 x with
    | false => simp only [rectL, hx, Bool.false_and]
    | true =>
      cases hy : betw (-1000000000000) 1000000000000 y with
      | false => simp only [rectL, hy, Bool.false_and, Bool.and_false]
      | true =>
        cases ha : betw (-1000000000000) 1000000000000 a with
        | false => simp only [rectL, betw_bound (lo' := 0) ha (by decide), Bool.false_and, Bool.and_false]
        | true =>
          cases hb : betw (-1000000000000) 1000000000000 b with
          | false => simp only [rectL, betw_bound (lo' := 0) hb (by decide), Bool.and_false]
          | true => simp [hx, hy, ha, hb] at h
  | _ :: _ :: _ :: _ :: _ :: _, _ => rfl
theorem all_nums {xs : List V} (hl : xs.length = 4) (h : (xs.map (betw (-1000000000000) 1000000000000)).all id = true) : ∃ i j k l : Int, xs = [.int i, .int j, .int k, .int l] ∧ rectL xs = (decide (0 ≤ k) && decide (0 ≤ l)) := by
  match xs, hl with
  | [x, y, a, b], _ =>
    simp only [List.map_cons, List.map_nil, List.all_cons, List.all_nil, Bool.and_eq_true, id] at h
    obtain ⟨hx, hy, ha, hb, _⟩ := h
    obtain ⟨i, rfl, _, _⟩ := betw_int hx
    obtain ⟨j, rfl, _, _⟩ := betw_int hy
    obtain ⟨k, rfl, _, k2⟩ := betw_int ha
    obtain ⟨l, rfl, _, l2⟩ := betw_int hb
    refine ⟨i, j, k, l, rfl, ?_⟩
    show (betw _ _ (.int i) && betw _ _ (.int j) && ((decide (0 ≤ k) && decide (k ≤ 1000000000000)) && (decide (0 ≤ l) && decide (l ≤ 1000000000000)))) = _
    rw [hx, hy, decide_eq_true k2, decide_eq_true l2]
    simp
/-- what is_rect says of a value -/
inductive Rv (K : PySem.W.Frag) (H : Hp) : V → Bool → Prop
  | tup {p : Addr} {xs : List V} (t : SqT K H p xs) (few : xs.length ≤ 1000) (all : ∀ x ∈ xs, ∃ T, Kv K H x T) : Rv K H (.ref p) (rectL xs)
  | oth {v : V} {T : String} (k : Kv K H v T) (ne : T ≠ "tuple") : Rv K H v false
theorem Rv.same {K : PySem.W.Frag} {H H' : Hp} {v : V} {o : Bool} (s : Same H H') (h : Rv K H v o) : Rv K H' v o := by
  cases h with
  | tup t few all => exact .tup (same_sqT s t) few fun x m => let ⟨T, k⟩ := all x m; ⟨T, k.same s⟩
  | oth k ne => exact .oth (k.same s) ne
section
variable {P : Program} {w : World} {K : PySem.W.Frag} {mg : Str → Option Value} {base : Heap} {A : Ad}
def spIsInt (K : PySem.W.Frag) : Sp := fun vs H Q _ => ∃ (v : V) (Ty : String), vs = [v] ∧ Kv K H v Ty ∧ Q (.bl (isInt v)) H
theorem ok_is_int (T : Txt K mg A) : FnOk P w K mg base CX0 1 A.f_is_int A.d_is_int ["value"] (spIsInt K) := by
  refine T.F_is_int.ok sc_is_int (fun vs H Q E h => ?_) (fun cdv A0 outer s H vs Q E hr h => ?_)
  · obtain ⟨v, Ty, rfl, _⟩ := h
    rfl
  · obtain ⟨v, Ty, rfl, hk, q⟩ := h
    obtain ⟨e1, e2, _⟩ := isi_ok hk
    refine ⟨_, (pss_one (ps_ret (pe_and (pe_callB call_isi (by rfl) T.m_isinstance (by decide +kernel) (pa_cons (pv 0) (pa_cons (pe_bltn (v := .ty "int") (by rfl) T.m_int (by decide +kernel) rfl) pa_nil))) (pe_one (pe_not (pe_callB call_isi (by rfl) T.m_isinstance (by decide +kernel) (pa_cons (pv 0) (pa_cons (pe_bltn (v := .ty "bool") (by rfl) T.m_bool (by decide +kernel) rfl) pa_nil)))))))), ?_⟩
    walk_at "rd"
    refine rd_isi hk e1 ?_
    cases hk with
    | ref t m => rcases m with rfl | rfl | rfl <;> (walk_at "rd"; exact q)
    | bl b => (walk_at "rd"; refine rd_isi (K := K) (.bl b) e2 ?_; walk_at "rd"; exact q)
    | int i => (walk_at "rd"; refine rd_isi (K := K) (.int i) e2 ?_; walk_at "rd"; exact q)
    | _ => (walk_at "rd"; exact q)
def spBetween (K : PySem.W.Frag) : Sp := fun vs H Q _ => ∃ (v : V) (Ty : String) (lo hi : Int), vs = [v, .int lo, .int hi] ∧ Kv K H v Ty ∧ Q (.bl (betw lo hi v)) H
theorem ok_is_between (T : Txt K mg A) : FnOk P w K mg base CX0 2 A.f_is_between A.d_is_between ["value", "least", "most"] (spBetween K) := by
  have G_is_int : FnOk P w K mg base CX0 1 A.f_is_int A.d_is_int ["value"] (spIsInt K) := ok_is_int T
  refine T.F_is_between.ok sc_is_between (fun vs H Q E h => ?_) (fun cdv A0 outer s H vs Q E hr h => ?_)
  · obtain ⟨v, Ty, lo, hi, rfl, _⟩ := h
    rfl
  · obtain ⟨v, Ty, lo, hi, rfl, hk, q⟩ := h
    refine ⟨_, (pss_one (ps_ret (pe_and (pe_call G_is_int (hr.mono (by decide)) (by rfl) T.g_is_int T.F_is_int.kp T.B_is_int .nil pass0 (pa_cons (pv 0) pa_nil)) (pe_one (pe_chain op_le op_le (pv 1) (pv 0) (pv 2)))))), ?_⟩
    walk_at "rd"
    refine ⟨v, Ty, rfl, hk, ?_⟩
    cases hk with
    | int i =>
      walk_at "rd"
      refine rd_2 (fun e => ?_) (fun e => ?_)
      · walk_at "rd"
        have e' : betw lo hi (.int i) = decide (i ≤ hi) := by
          show (decide (lo ≤ i) && decide (i ≤ hi)) = _
          rw [e, Bool.true_and]
        rw [e'] at q
        exact q
      · have e' : betw lo hi (.int i) = false := by
          show (decide (lo ≤ i) && decide (i ≤ hi)) = _
          rw [e, Bool.false_and]
        rw [e'] at q
        exact q
    | _ => (walk_at "rd"; exact q)
theorem kit_tt : kitB "tuple" "tuple" = some true := by decide +kernel
theorem kv_ntup {H : Hp} {v : V} {T : String} (k : Kv K H v T) (ne : T ≠ "tuple") : kitB T "tuple" = some false := by
  have e := (isi_ok k).2.2
  rw [e]
  cases k with
  | ref t m =>
    rcases m with rfl | rfl | rfl
    · rfl
    · exact absurd rfl ne
    · rfl
  | _ => rfl
theorem rd_isiX {H : Hp} {v : V} {T n : String} {b : Bool} {Q : VK} (k : TyX K H v (.type T)) (e : kitB T n = some b) (q : Q (.bl b) H) : rIsi K [v, .ty n] H Q :=
  ⟨v, .ty n, .type T, .type n, b, rfl, .ty n, k, kit_ty e, q⟩
def spNumb (K : PySem.W.Frag) : Sp := fun vs H Q _ => ∃ (v : V) (Ty : String), vs = [v] ∧ Kv K H v Ty ∧ Q (.bl (betw (-1000000000000) 1000000000000 v)) H
theorem ok_is_number (T : Txt K mg A) : FnOk P w K mg base CX0 3 A.f_is_number A.d_is_number ["value"] (spNumb K) := by
  have G_is_between : FnOk P w K mg base CX0 2 A.f_is_between A.d_is_between ["value", "least", "most"] (spBetween K) := ok_is_between T
  refine T.F_is_number.ok sc_is_number (fun vs H Q E h => ?_) (fun cdv A0 outer s H vs Q E hr h => ?_)
  · obtain ⟨v, Ty, rfl, _⟩ := h
    rfl
  · obtain ⟨v, Ty, rfl, hk, q⟩ := h
    refine ⟨_, (pss_one (ps_ret (pe_call G_is_between (hr.mono (by decide)) (by rfl) T.g_is_between T.F_is_between.kp T.B_is_between .nil pass0 (pa_cons (pv 0) (pa_cons (pe_un un_neg (pe_glob (v := .int (1000000000000)) (by rfl) T.g_MOST_SIZE ⟨_, rfl⟩)) (pa_cons (pe_glob (v := .int (1000000000000)) (by rfl) T.g_MOST_SIZE ⟨_, rfl⟩) pa_nil)))))), ?_⟩
    walk_at "rd"
    exact ⟨v, Ty, _, _, rfl, hk, q⟩
def spRect (K : PySem.W.Frag) : Sp := fun vs H Q _ => ∃ (v : V) (b : Bool), vs = [v] ∧ Rv K H v b ∧ ∀ H', Same H H' → Q (.bl b) H'
theorem ok_is_rect (T : Txt K mg A) : FnOk P w K mg base CX0 4 A.f_is_rect A.d_is_rect ["value"] (spRect K) := by
  have G_is_number : FnOk P w K mg base CX0 3 A.f_is_number A.d_is_number ["value"] (spNumb K) := ok_is_number T
  refine T.F_is_rect.ok sc_is_rect (fun vs H Q E h => ?_) (fun cdv A0 outer s H vs Q E hr h => ?_)
  · obtain ⟨v, b, rfl, _⟩ := h
    rfl
  · obtain ⟨v, b, rfl, rv, q⟩ := h
    have q0 := q H (Same.refl H)
    refine ⟨_, (pss_cons (ps_if (pw_or (pt_not (pt_val (pe_callB call_isi (by rfl) T.m_isinstance (by decide +kernel) (pa_cons (pv 0) (pa_cons (pe_bltn (v := .ty "tuple") (by rfl) T.m_tuple (by decide +kernel) rfl) pa_nil))))) (pw_or1 (pt_cmpR op_ne (pe_callB call_len_seq (by rfl) T.m_len PySem.boot_len (pa_cons (pv 0) pa_nil)) pe_int (nomark _)))).pt
        (pss_one (ps_ret pe_bl))
        pss_nil)
      (pss_cons (ps_if (pt_not (pt_val (pe_callB (cr_all rfl) (by rfl) T.m_all (by decide +kernel) (pa_cons (pe_lc (own := [("number", 1)]) rfl sc_is_rect.nd (pi_tup (pv 0)) (blkOk_by (N := N_is_rect) (sc := defScope s_is_rect) (by decide +kernel)) (fun _ _ _ _ _ => (pg_name (i := 1) sc_is_rect.nd rfl (.inl rfl))) (fun _ _ _ _ _ => pts_nil) (fun _ _ _ _ _ => (pe_call G_is_number (hr.mono (by decide)) (by rfl) T.g_is_number T.F_is_number.kp T.B_is_number .nil pass0 (pa_cons (pv 1) pa_nil)))) pa_nil))))
        (pss_one (ps_ret pe_bl))
        pss_nil)
      (pss_one (ps_ret (pe_and (pe_cmpR op_ge (pe_ix ix_tup (pv 0) pe_int (fun _ _ => rfl)) pe_int (nomark _)) (pe_one (pe_cmpR op_ge (pe_ix ix_tup (pv 0) pe_int (fun _ _ => rfl)) pe_int (nomark _)))))))), ?_⟩
    walk_at "rd"
    cases rv with
    | oth k ne =>
      refine rd_isi k (kv_ntup k ne) ?_
      walk_at "rd"
      exact q0
    | @tup p xs hT few hI =>
      refine rd_isiX (tyx_sq hT) kit_tt ?_
      walk_at "rd"
      refine ⟨p, xs, rfl, .inr hT, ?_⟩
      walk_at "rd"
      refine rd_2 (fun e4 => ?_) (fun e4 => ?_)
      · walk_at "rd"
        rw [rectL_len (fun z => by rw [z] at e4; cases e4)] at q0
        exact q0
      · have hl : xs.length = 4 := by
          by_cases z : xs.length = 4
          · exact z
          · rw [decide_eq_false (fun y => z (by have := V.int.inj y; omega))] at e4
            cases e4
        walk_at "rd"
        refine ⟨.ref p, rfl, p, rfl, ⟨xs, hT⟩, fun L nL => ?_⟩
        refine lc_tup (xs := xs) (fun i H' => Same H H' ∧ H' L = some (.lst (((xs.take i).map (betw (-1000000000000) 1000000000000)).map V.bl))) ⟨same_new nL, upd_same⟩ (fun i H' _ h => same_sqT h.1 hT) (fun i x H' hx h => ?_) (fun H' h => ?_)
        · obtain ⟨sm, eL⟩ := h
          obtain ⟨Tx, kx⟩ := hI x (List.mem_of_getElem? hx)
          refine ⟨rfl, ?_⟩
          walk_at "rd"
          refine ⟨x, Tx, rfl, kx.same sm, _, eL, ?_, fun b o hb => ?_, ?_⟩
          · rw [List.length_map, List.length_map, List.length_take]
            exact small1000 (by omega)
          · exact (upd_ne (ne_of_none hb nL)).trans (sm b o hb)
          · rw [upd_same, List.take_add_one, hx]
            simp only [Option.toList, List.map_append, List.map_cons, List.map_nil]
        · obtain ⟨sm, eL⟩ := h
          rw [List.take_length] at eL
          refine ⟨L, _, rfl, .inl (.inl eL), ?_⟩
          walk_at "rd"
          cases ea : (xs.map (betw (-1000000000000) 1000000000000)).all id with
          | false =>
            walk_at "rd"
            rw [rectL_not ea] at q
            exact q _ sm
          | true =>
            obtain ⟨i, j, k, l, rfl, er⟩ := all_nums hl ea
            have hT' := same_sqT sm hT
            walk_at "rd"
            refine rd_2 (fun ek => ?_) (fun ek => ?_)
            · walk_at "rd"
              rw [er, ek, Bool.true_and] at q
              exact q _ sm
            · rw [er, ek, Bool.false_and] at q
              exact q _ sm
/-- the exception of class j, with v kept -/
def Exn (A : Ad) (j : Nat) (v : V) (E : XK) (H : Hp) : Prop := ∀ d, H d = none → E (.ref (cl A j)) (some d) (upd H d (.xd [("value", v)]))
def spCheckR (K : PySem.W.Frag) (A : Ad) : Sp := fun vs H Q E => ∃ (v : V) (b : Bool), vs = [v] ∧ Rv K H v b ∧ (b = true → ∀ H', Same H H' → Q .non H') ∧ (b = false → ∀ H', Same H H' → Exn A 1 v E H')
theorem okx_check_rect (T : Txt K mg A) : FnOk P w K mg base (L2.CX P w) 5 A.f_check_rect A.d_check_rect ["value"] (spCheckR K A) := by
  have G_is_rect : FnOk P w K mg base CX0 4 A.f_is_rect A.d_is_rect ["value"] (spRect K) := ok_is_rect T
  obtain ⟨fdI, FI_InvalidRect, BI_InvalidRect⟩ := Vy.ini_ok (P := P) (w := w) (mg := mg) (base := base) T.I_InvalidRect
  refine Vy.okX T.F_check_rect sc_check_rect (fun vs H Q E h => ?_) (fun cdv A0 outer s H vs Q E hr h => ?_)
  · obtain ⟨v, b, rfl, _⟩ := h
    rfl
  · obtain ⟨v, b, rfl, rv, q1, q2⟩ := h
    refine ⟨_, (pss_one (ps_if (pt_not (pt_val (pe_call G_is_rect (hr.mono (by decide)) (by rfl) T.g_is_rect T.F_is_rect.kp T.B_is_rect .nil pass0 (pa_cons (pv 0) pa_nil))))
        (pss_one (Vy.ps_rai rfl Vy.takesX (T.all_F 1 (by decide)).2 T.C_InvalidRect.iC T.C_InvalidRect.tI FI_InvalidRect (hr.mono (by decide)) BI_InvalidRect (by rfl) T.g_InvalidRect (pv 0)))
        pss_nil)), ?_⟩
    walk_at "rd"
    refine ⟨v, b, rfl, rv, fun H' s' => ?_⟩
    cases b with
    | true =>
      walk_at "rd"
      exact q1 rfl _ s'
    | false =>
      walk_at "rd"
      exact Vy.mk_ok (T.all_F 1 (by decide)).2 T.C_InvalidRect.no (q2 rfl _ s')
def spCheckR0 (K : PySem.W.Frag) : Sp := fun vs H Q _ => ∃ v : V, vs = [v] ∧ Rv K H v true ∧ ∀ H', Same H H' → Q .non H'
theorem ok_check_rect (T : Txt K mg A) : FnOk P w K mg base CX0 5 A.f_check_rect A.d_check_rect ["value"] (spCheckR0 K) := by
  have G_is_rect : FnOk P w K mg base CX0 4 A.f_is_rect A.d_is_rect ["value"] (spRect K) := ok_is_rect T
  refine T.F_check_rect.ok sc_check_rect (fun vs H Q E h => ?_) (fun cdv A0 outer s H vs Q E hr h => ?_)
  · obtain ⟨v, rfl, _⟩ := h
    rfl
  · obtain ⟨v, rfl, rv, q⟩ := h
    refine ⟨_, (pss_one (ps_if (pt_not (pt_val (pe_call G_is_rect (hr.mono (by decide)) (by rfl) T.g_is_rect T.F_is_rect.kp T.B_is_rect .nil pass0 (pa_cons (pv 0) pa_nil))))
        (pss_one Tb.ps_never)
        pss_nil)), ?_⟩
    walk_at "rd"
    refine ⟨v, true, rfl, rv, fun H' s' => ?_⟩
    walk_at "rd"
    exact q _ s'
/-- four numbers -/
abbrev Rc : Type := Int × Int × Int × Int
abbrev rcL (r : Rc) : List V := [.int r.1, .int r.2.1, .int r.2.2.1, .int r.2.2.2]
def okR (r : Rc) : Prop := (-1000000000000 ≤ r.1 ∧ r.1 ≤ 1000000000000) ∧ (-1000000000000 ≤ r.2.1 ∧ r.2.1 ≤ 1000000000000) ∧ (0 ≤ r.2.2.1 ∧ r.2.2.1 ≤ 1000000000000) ∧ 0 ≤ r.2.2.2 ∧ r.2.2.2 ≤ 1000000000000
theorem rv_rc {H : Hp} {a : Addr} {r : Rc} (h : SqT K H a (rcL r)) (ok : okR r) : Rv K H (.ref a) true := by
  obtain ⟨x, y, wd, ht⟩ := r
  obtain ⟨⟨h1, h2⟩, ⟨h3, h4⟩, ⟨h5, h6⟩, h7, h8⟩ := ok
  dsimp only at h1 h2 h3 h4 h5 h6 h7 h8
  have e : rectL (rcL (x, y, wd, ht)) = true := by
    show ((decide (-1000000000000 ≤ x) && decide (x ≤ 1000000000000)) && (decide (-1000000000000 ≤ y) && decide (y ≤ 1000000000000)) && ((decide (0 ≤ wd) && decide (wd ≤ 1000000000000)) && (decide (0 ≤ ht) && decide (ht ≤ 1000000000000)))) = true
    simp only [decide_eq_true h1, decide_eq_true h2, decide_eq_true h3, decide_eq_true h4, decide_eq_true h5, decide_eq_true h6, decide_eq_true h7, decide_eq_true h8, Bool.and_true]
  rw [← e]
  refine .tup h (Nat.le_of_ble_eq_true rfl) fun v m => ?_
  simp only [List.mem_cons, List.not_mem_nil, or_false] at m
  rcases m with rfl | rfl | rfl | rfl <;> exact ⟨_, .int _⟩
end
section
variable {P : Program} {w : World} {K : PySem.W.Frag} {mg : Str → Option Value} {base : Heap} {A : Ad}
/-! ### how the class's calls bind -/
abbrev FMir (K : PySem.W.Frag) (f : Addr) (fd : FuncData) : Prop := FunD K "__init__" "Mirror.__init__" (defArgs s_Mirror_init) (defBody s_Mirror_init) (defScope s_Mirror_init) [] [("across", .bl false), ("down", .bl false)] f fd
theorem kb_ad {f : Addr} {fd : FuncData} (F : FMir K f fd) : ∃ g, KBn K fd ["self", "x", "y", "across", "down"] 3 ["across", "down"] g (fun vs zs => vs ++ zs) := by
  obtain ⟨mv, h⟩ := F.kbinds0 (ps := ["self", "x", "y", "across", "down"]) 3 ["across", "down"] [] (fun us _ ws => us ++ ws) (by simp) (by simp) (fun r1 _ r3 => r1.append r3) (fun D doc pm an cdv ct us mv ws l1 l2 l3 => by
    match us, l1, ws, l3 with
    | [_, _, _], _, [_, _], _ => exact rfl)
  exact ⟨_, h⟩
theorem kb_a {f : Addr} {fd : FuncData} (F : FMir K f fd) : ∃ g, KBn K fd ["self", "x", "y", "across", "down"] 3 ["across"] g (fun vs zs => vs ++ (zs ++ [.bl false])) := by
  obtain ⟨mv, h⟩ := F.kbinds0 (ps := ["self", "x", "y", "across", "down"]) 3 ["across"] [("down", .bl false)] (fun us mv ws => us ++ (ws ++ mv)) (by simp) (by simp) (fun r1 r2 r3 => r1.append (r3.append r2)) (fun D doc pm an cdv ct us mv ws l1 l2 l3 => by
    match us, l1, mv, l2, ws, l3 with
    | [_, _, _], _, [_], _, [_], _ => exact ⟨_, _, _, _, _, _, rfl, rfl, rfl⟩)
  exact ⟨_, h⟩
theorem kb_d {f : Addr} {fd : FuncData} (F : FMir K f fd) : ∃ g, KBn K fd ["self", "x", "y", "across", "down"] 3 ["down"] g (fun vs zs => vs ++ (.bl false :: zs)) := by
  obtain ⟨mv, h⟩ := F.kbinds0 (ps := ["self", "x", "y", "across", "down"]) 3 ["down"] [("across", .bl false)] (fun us mv ws => us ++ (mv ++ ws)) (by simp) (by simp) (fun r1 r2 r3 => r1.append (r2.append r3)) (fun D doc pm an cdv ct us mv ws l1 l2 l3 => by
    match us, l1, mv, l2, ws, l3 with
    | [_, _, _], _, [_], _, [_], _ => exact ⟨_, _, _, _, _, _, rfl, rfl, rfl⟩)
  exact ⟨_, h⟩
theorem vals_take {xs : List V} {us : List Value} (h : Vals xs us) : ∀ n, Vals (xs.take n) (us.take n) := by
  induction h with
  | nil => exact fun n => by rw [List.take_nil, List.take_nil]; exact .nil
  | cons a _ ih =>
    intro n
    cases n with
    | zero => exact .nil
    | succ n => exact .cons a (ih n)
theorem kb_dyx {f : Addr} {fd : FuncData} (F : FMir K f fd) : ∃ g, KBn K fd ["self", "x", "y", "across", "down"] 1 ["down", "y", "x"] g (fun vs zs => vs ++ (zs.reverse.take 2 ++ (.bl false :: zs.take 1))) := by
  obtain ⟨mv, h⟩ := F.kbinds0 (ps := ["self", "x", "y", "across", "down"]) 1 ["down", "y", "x"] [("across", .bl false)] (fun us mv ws => us ++ (ws.reverse.take 2 ++ (mv ++ ws.take 1))) (by simp) (by simp) (fun r1 r2 r3 => r1.append ((vals_take (vals_rev r3) 2).append (r2.append (vals_take r3 1)))) (fun D doc pm an cdv ct us mv ws l1 l2 l3 => by
    match us, l1, mv, l2, ws, l3 with
    | [_], _, [_], _, [_, _, _], _ => exact ⟨_, _, _, _, _, _, rfl, rfl, rfl⟩)
  exact ⟨_, h⟩
theorem kb_0 {f : Addr} {fd : FuncData} (F : FMir K f fd) : ∃ ds, Vals [.bl false, .bl false] ds ∧ Binds K fd ["self", "x", "y", "across", "down"] ds :=
  F.binds0 (ps := ["self", "x", "y", "across", "down"]) 3 (by simp) rfl (fun D doc pm an cdv ct us ks l1 l2 => by
    match us, l1, ks, l2 with
    | [_, _, _], _, [_, _], _ => exact ⟨_, _, _, _, _, _, rfl, rfl, _, _, _, _, _, _, rfl, rfl, rfl⟩)
/-! ### the class's own ways -/
abbrev mirF (p q : Int) (o d : Bool) : List (Str × V) := [("x", .int p), ("y", .int q), ("across", .bl o), ("down", .bl d)]
/-- a map stands at a -/
def MirAt (C : Addr) (H : Hp) (a : Addr) (p q : Int) (o d : Bool) : Prop := ∃ dx, H a = some (.ins C dx (mirF p q o d))
theorem MirAt.same {C a : Addr} {H H' : Hp} {p q : Int} {o d : Bool} (s : Same H H') (h : MirAt C H a p q o d) : MirAt C H' a p q o d := let ⟨dx, e⟩ := h; ⟨dx, s _ _ e⟩
def spInit (C : Addr) : Sp := fun vs H Q _ => ∃ (a dx : Addr) (p q : Int) (o d : Bool), vs = [.ref a, .int p, .int q, .bl o, .bl d] ∧ H a = some (.ins C dx []) ∧ ∀ H', (∀ b u, b ≠ a → H b = some u → H' b = some u) → H' a = some (.ins C dx (mirF p q o d)) → Q .non H'
theorem ok_init (T : Txt K mg A) : FnOk P w K mg base CX0 3 A.f_Mirror_init A.d_Mirror_init ["self", "x", "y", "across", "down"] (spInit A.c_Mirror) := by
  have G_is_int : FnOk P w K mg base CX0 1 A.f_is_int A.d_is_int ["value"] (spIsInt K) := ok_is_int T
  refine FunD.ok T.F_Mirror_init sc_Mirror_init (fun vs H Q E h => ?_) (fun cdv A0 outer s H vs Q E hr h => ?_)
  · obtain ⟨a, dx, p, q, o, d, rfl, _⟩ := h
    rfl
  · obtain ⟨a, dx, p, q, o, d, rfl, ha, k⟩ := h
    refine ⟨_, PSs.nox (pss_cons (ps_for PassesOwn.never rfl (pi_tup (pe_tup (pa_cons (pv 1) (pa_cons (pv 2) pa_nil)))) (pg_name (i := 5) sc_Mirror_init.nd rfl (.inl rfl))
        (pss_one (ps_if (pt_not (pt_val (pe_call G_is_int (hr.mono (by decide)) (by rfl) T.g_is_int T.F_is_int.kp T.B_is_int .nil pass0 (pa_cons (pv 5) pa_nil))))
          (pss_one Tb.ps_never)
          pss_nil)))
      (pss_cons (ps_fld (pv 0) (pv 1) rfl)
      (pss_cons (ps_fld (pv 0) (pv 2) rfl)
      (pss_cons (ps_fld (pv 0) (pv 3) rfl)
      (pss_one (ps_fld (pv 0) (pv 4) rfl)))))), ?_⟩
    walk_at "rd"
    refine ⟨.int p, rfl, .int q, rfl, le_line (Nat.le_of_ble_eq_true rfl), fun t nt => ⟨t, rfl, ⟨_, .inl (.inl upd_same)⟩, ?_⟩⟩
    have ha1 := (same_new (o := .tup [.int p, .int q]) nt) _ _ ha
    refine for_tup (xs := [.int p, .int q]) (fun i σ H' => ∃ y5, σ = [some (.ref a), some (.int p), some (.int q), some (.bl o), some (.bl d), y5] ∧ H' = upd H t (.tup [.int p, .int q])) ⟨none, rfl, rfl⟩ (fun i σ H' _ h => ?_) (fun i x σ H' hx h => ?_) (fun σ H' h => ?_)
    · obtain ⟨y5, rfl, rfl⟩ := h
      exact .inl (.inl upd_same)
    · obtain ⟨y5, rfl, rfl⟩ := h
      obtain ⟨z, rfl⟩ : ∃ z, x = .int z := by
        have hi : i < 2 := (List.getElem?_eq_some_iff.mp hx).1
        rcases (show i = 0 ∨ i = 1 by omega) with rfl | rfl <;> exact ⟨_, (Option.some.inj hx).symm⟩
      walk_at "rd"
      refine ⟨_, _, rfl, .int z, ?_⟩
      walk_at "rd"
      exact ⟨_, rfl, rfl⟩
    · obtain ⟨y5, rfl, rfl⟩ := h
      walk_at "rd"
      refine ⟨.int p, rfl, .ref a, rfl, a, A.c_Mirror, dx, [], rfl, ha1, T.S_Mirror, T.N_Mirror_x, Nat.le_of_ble_eq_true rfl, ?_⟩
      refine ⟨.int q, rfl, .ref a, rfl, a, A.c_Mirror, dx, _, rfl, upd_same, T.S_Mirror, T.N_Mirror_y, Nat.le_of_ble_eq_true rfl, ?_⟩
      refine ⟨.bl o, rfl, .ref a, rfl, a, A.c_Mirror, dx, _, rfl, upd_same, T.S_Mirror, T.N_Mirror_across, Nat.le_of_ble_eq_true rfl, ?_⟩
      refine ⟨.bl d, rfl, .ref a, rfl, a, A.c_Mirror, dx, _, rfl, upd_same, T.S_Mirror, T.N_Mirror_down, Nat.le_of_ble_eq_true rfl, ?_⟩
      refine k _ (fun b u nb h => ?_) upd_same
      exact (upd_ne nb).trans ((upd_ne nb).trans ((upd_ne nb).trans ((upd_ne nb).trans ((same_new nt) _ _ h))))
/-- a number that is none: the first of them is told -/
def spInitX (K : PySem.W.Frag) (A : Ad) : Sp := fun vs H _ E => ∃ (a : Addr) (x y : V) (o d : Bool) (S T : String), vs = [.ref a, x, y, .bl o, .bl d] ∧ Kv K H x S ∧ Kv K H y T ∧
  ((isInt x = false ∧ ∀ H', Same H H' → Exn A 0 x E H') ∨ (isInt x = true ∧ isInt y = false ∧ ∀ H', Same H H' → Exn A 0 y E H'))
theorem okx_init (T : Txt K mg A) : FnOk P w K mg base (L2.CX P w) 3 A.f_Mirror_init A.d_Mirror_init ["self", "x", "y", "across", "down"] (spInitX K A) := by
  have G_is_int : FnOk P w K mg base CX0 1 A.f_is_int A.d_is_int ["value"] (spIsInt K) := ok_is_int T
  obtain ⟨fdI, FI_InvalidNumber, BI_InvalidNumber⟩ := Vy.ini_ok (P := P) (w := w) (mg := mg) (base := base) T.I_InvalidNumber
  refine FunD.ok T.F_Mirror_init sc_Mirror_init (fun vs H Q E h => ?_) (fun cdv A0 outer s H vs Q E hr h => ?_)
  · obtain ⟨a, x, y, o, d, S, T, rfl, _⟩ := h
    rfl
  · obtain ⟨a, x, y, o, d, Sx, Ty, rfl, kx, ky, h⟩ := h
    refine ⟨_, (pss_cons (ps_for Vy.ownX rfl (pi_tup (pe_tup (pa_cons (pv 1) (pa_cons (pv 2) pa_nil)))) (pg_name (i := 5) sc_Mirror_init.nd rfl (.inl rfl))
        (pss_one (ps_if (pt_not (pt_val (pe_call G_is_int (hr.mono (by decide)) (by rfl) T.g_is_int T.F_is_int.kp T.B_is_int .nil pass0 (pa_cons (pv 5) pa_nil))))
          (pss_one (Vy.ps_rai rfl Vy.takesX (T.all_F 0 (by decide)).2 T.C_InvalidNumber.iC T.C_InvalidNumber.tI FI_InvalidNumber (hr.mono (by decide)) BI_InvalidNumber (by rfl) T.g_InvalidNumber (pv 5)))
          pss_nil)))
      (pss_cons (ps_fld (pv 0) (pv 1) rfl)
      (pss_cons (ps_fld (pv 0) (pv 2) rfl)
      (pss_cons (ps_fld (pv 0) (pv 3) rfl)
      (pss_one (ps_fld (pv 0) (pv 4) rfl)))))), ?_⟩
    walk_at "rd"
    refine ⟨x, rfl, y, rfl, le_line (Nat.le_of_ble_eq_true rfl), fun t nt => ⟨t, rfl, ⟨_, .inl (.inl upd_same)⟩, ?_⟩⟩
    have s1 := same_new (o := .tup [x, y]) nt
    refine for_tup (xs := [x, y]) (fun i σ H' => ∃ y5, σ = [some (.ref a), some x, some y, some (.bl o), some (.bl d), y5] ∧ H' = upd H t (.tup [x, y]) ∧ (i = 0 ∨ (i = 1 ∧ isInt x = true))) ⟨none, rfl, rfl, .inl rfl⟩ (fun i σ H' _ h => ?_) (fun i v σ H' hx h => ?_) (fun σ H' h => ?_)
    · obtain ⟨y5, rfl, rfl, _⟩ := h
      exact .inl (.inl upd_same)
    · obtain ⟨y5, rfl, rfl, hi⟩ := h
      rcases hi with rfl | ⟨rfl, ix⟩
      · obtain rfl : x = v := Option.some.inj hx
        walk_at "rd"
        refine ⟨x, Sx, rfl, kx.same s1, ?_⟩
        cases ix : isInt x with
        | true =>
          walk_at "rd"
          exact ⟨_, rfl, rfl, .inr ⟨rfl, rfl⟩⟩
        | false =>
          walk_at "rd"
          rcases h with ⟨_, q⟩ | ⟨z, _⟩
          · exact Vy.mk_ok (T.all_F 0 (by decide)).2 T.C_InvalidNumber.no (q _ s1)
          · rw [ix] at z
            cases z
      · obtain rfl : y = v := Option.some.inj hx
        walk_at "rd"
        refine ⟨y, Ty, rfl, ky.same s1, ?_⟩
        rcases h with ⟨z, _⟩ | ⟨_, iy, q⟩
        · rw [ix] at z
          cases z
        · rw [iy]
          walk_at "rd"
          exact Vy.mk_ok (T.all_F 0 (by decide)).2 T.C_InvalidNumber.no (q _ s1)
    · obtain ⟨y5, rfl, rfl, hi⟩ := h
      rcases hi with z | ⟨z, _⟩ <;> simp at z
def spCall (C : Addr) : Sp := fun vs H Q _ => ∃ (a : Addr) (p q u v : Int) (o d : Bool), vs = [.ref a, .int u, .int v] ∧ MirAt C H a p q o d ∧ ∀ r, H r = none → Q (.ref r) (upd H r (.tup [.int (if o then p - u else p + u), .int (if d then q - v else q + v)]))
theorem rd_fldv {C a dx : Addr} {H : Hp} {σ : L2.St} {i : Nat} {fs : List (Str × V)} {f : Str} {v : V} {Q : VK} (h : σ[i]? = some (some (.ref a))) (e : H a = some (.ins C dx fs)) (c : Cls K C) (n : NoAttr K C f) (l : fs.lookup f = some v) (k : Q v H) : tFld K (tVar i) f σ H Q := ⟨.ref a, h, a, C, dx, fs, v, rfl, e, c, n, l, k⟩
local macro_rules | `(tactic| walk_at "rd1") => `(tactic| first
  | ((with_reducible apply rd_fldv); exact rfl; assumption; exact Txt.S_Mirror (by assumption); (first | exact Txt.N_Mirror_x (by assumption) | exact Txt.N_Mirror_y (by assumption) | exact Txt.N_Mirror_across (by assumption) | exact Txt.N_Mirror_down (by assumption)); exact rfl))
theorem ok_call (T : Txt K mg A) : FnOk P w K mg base CX0 1 A.f_Mirror_call A.d_Mirror_call ["self", "u", "v"] (spCall A.c_Mirror) := by
  refine T.F_Mirror_call.ok sc_Mirror_call (fun vs H Q E h => ?_) (fun cdv A0 outer s H vs Q E hr h => ?_)
  · obtain ⟨a, p, q, u, v, o, d, rfl, _⟩ := h
    rfl
  · obtain ⟨a, p, q, u, v, o, d, rfl, m, k⟩ := h
    obtain ⟨dx, e⟩ := m
    refine ⟨_, (pss_one (ps_ret (pe_tup (pa_cons (pe_ifExp (pt_val (pe_fld (pv 0) rfl)) (pe_op op_sub (pe_fld (pv 0) rfl) (pv 1)) (pe_op op_add (pe_fld (pv 0) rfl) (pv 1))) (pa_cons (pe_ifExp (pt_val (pe_fld (pv 0) rfl)) (pe_op op_sub (pe_fld (pv 0) rfl) (pv 2)) (pe_op op_add (pe_fld (pv 0) rfl) (pv 2))) pa_nil))))), ?_⟩
    cases o <;> cases d <;> (walk_at "rd"; exact ⟨le_line (Nat.le_of_ble_eq_true rfl), fun r nr => k r nr⟩)
def spImage (K : PySem.W.Frag) (C : Addr) : Sp := fun vs H Q _ => ∃ (a b : Addr) (p q : Int) (o d : Bool) (r : Rc), vs = [.ref a, .ref b] ∧ MirAt C H a p q o d ∧ SqT K H b (rcL r) ∧ okR r ∧
  ∀ z H', Same H H' → H' z = some (.tup (rcL (if o then p - r.1 - r.2.2.1 + 1 else p + r.1, if d then q - r.2.1 - r.2.2.2 + 1 else q + r.2.1, r.2.2.1, r.2.2.2))) → Q (.ref z) H'
theorem ok_image (T : Txt K mg A) : FnOk P w K mg base CX0 6 A.f_Mirror_image A.d_Mirror_image ["self", "rect"] (spImage K A.c_Mirror) := by
  have G_check_rect : FnOk P w K mg base CX0 5 A.f_check_rect A.d_check_rect ["value"] (spCheckR0 K) := ok_check_rect T
  refine T.F_Mirror_image.ok sc_Mirror_image (fun vs H Q E h => ?_) (fun cdv A0 outer s H vs Q E hr h => ?_)
  · obtain ⟨a, b, p, q, o, d, r, rfl, _⟩ := h
    rfl
  · obtain ⟨a, b, p, q, o, d, r, rfl, ⟨dx, e⟩, sb, okr, k⟩ := h
    refine ⟨_, (pss_cons (ps_expr (pe_call G_check_rect (hr.mono (by decide)) (by rfl) T.g_check_rect T.F_check_rect.kp T.B_check_rect .nil pass0 (pa_cons (pv 1) pa_nil)))
      (pss_cons (ps_asg (pv 1) (pg_tup rfl (pgs_cons (pg_name (i := 2) sc_Mirror_image.nd rfl (.inl rfl)) (pgs_cons (pg_name (i := 3) sc_Mirror_image.nd rfl (.inl rfl)) (pgs_cons (pg_name (i := 4) sc_Mirror_image.nd rfl (.inl rfl)) (pgs_cons (pg_name (i := 5) sc_Mirror_image.nd rfl (.inl rfl)) pgs_nil))))))
      (pss_one (ps_ret (pe_tup (pa_cons (pe_ifExp (pt_val (pe_fld (pv 0) rfl)) (pe_op op_add (pe_op op_sub (pe_op op_sub (pe_fld (pv 0) rfl) (pv 2)) (pv 4)) pe_int) (pe_op op_add (pe_fld (pv 0) rfl) (pv 2))) (pa_cons (pe_ifExp (pt_val (pe_fld (pv 0) rfl)) (pe_op op_add (pe_op op_sub (pe_op op_sub (pe_fld (pv 0) rfl) (pv 3)) (pv 5)) pe_int) (pe_op op_add (pe_fld (pv 0) rfl) (pv 3))) (pa_cons (pv 4) (pa_cons (pv 5) pa_nil))))))))), ?_⟩
    walk_at "rd"
    refine ⟨_, rfl, rv_rc sb okr, fun H1 s1 => ?_⟩
    replace e := s1 _ _ e
    walk_at "rd"
    refine ⟨b, _, rfl, same_sqT s1 sb, rfl, _, _, rfl, _, _, rfl, _, _, rfl, _, _, rfl, rfl, ?_⟩
    cases o <;> cases d <;> (walk_at "rd"; exact ⟨le_line (Nat.le_of_ble_eq_true rfl), fun z nz => k z _ (s1.trans (same_new nz)) upd_same⟩)
def spImageX (K : PySem.W.Frag) (A : Ad) : Sp := fun vs H _ E => ∃ (x v : V), vs = [x, v] ∧ Rv K H v false ∧ ∀ H', Same H H' → Exn A 1 v E H'
theorem okx_image (T : Txt K mg A) : FnOk P w K mg base (L2.CX P w) 6 A.f_Mirror_image A.d_Mirror_image ["self", "rect"] (spImageX K A) := by
  have GX_check_rect : FnOk P w K mg base (L2.CX P w) 5 A.f_check_rect A.d_check_rect ["value"] (spCheckR K A) := okx_check_rect T
  refine Vy.okX T.F_Mirror_image sc_Mirror_image (fun vs H Q E h => ?_) (fun cdv A0 outer s H vs Q E hr h => ?_)
  · obtain ⟨x, v, rfl, _⟩ := h
    rfl
  · obtain ⟨x, v, rfl, b, q⟩ := h
    refine ⟨_, (pss_cons (ps_expr (pe_call GX_check_rect (hr.mono (by decide)) (by rfl) T.g_check_rect T.F_check_rect.kp T.B_check_rect .nil Vy.passX (pa_cons (pv 1) pa_nil)))
      (pss_cons (ps_asg (pv 1) (pg_tup rfl (pgs_cons (pg_name (i := 2) sc_Mirror_image.nd rfl (.inl rfl)) (pgs_cons (pg_name (i := 3) sc_Mirror_image.nd rfl (.inl rfl)) (pgs_cons (pg_name (i := 4) sc_Mirror_image.nd rfl (.inl rfl)) (pgs_cons (pg_name (i := 5) sc_Mirror_image.nd rfl (.inl rfl)) pgs_nil))))))
      (pss_one (ps_ret (pe_tup (pa_cons (pe_ifExp (pt_val (pe_fld (pv 0) rfl)) (pe_op op_add (pe_op op_sub (pe_op op_sub (pe_fld (pv 0) rfl) (pv 2)) (pv 4)) pe_int) (pe_op op_add (pe_fld (pv 0) rfl) (pv 2))) (pa_cons (pe_ifExp (pt_val (pe_fld (pv 0) rfl)) (pe_op op_add (pe_op op_sub (pe_op op_sub (pe_fld (pv 0) rfl) (pv 3)) (pv 5)) pe_int) (pe_op op_add (pe_fld (pv 0) rfl) (pv 3))) (pa_cons (pv 4) (pa_cons (pv 5) pa_nil))))))))), ?_⟩
    walk_at "rd"
    exact ⟨v, false, rfl, b, fun z => absurd z (by decide), fun _ => q⟩
/-- where two lines meet in a stretch -/
def meetO (s : Int) (m : Bool) (s' : Int) (m' : Bool) (st ln : Int) : Option (Int × Int) :=
  if m = m' then (if s = s' ∧ 0 < ln then some (st, ln) else none)
  else let t := if m then s - s' else s' - s
    if t % 2 = 0 ∧ st ≤ t / 2 ∧ t / 2 < st + ln then some (t / 2, 1) else none
def spMeeting (K : PySem.W.Frag) : Sp := fun vs H Q _ => ∃ (a b : Addr) (s s' st ln : Int) (m m' : Bool), vs = [.ref a, .ref b, .int st, .int ln] ∧ SqT K H a [.int s, .bl m] ∧ SqT K H b [.int s', .bl m'] ∧
  (meetO s m s' m' st ln = none → Q .non H) ∧ ∀ u, meetO s m s' m' st ln = some u → ∀ z, H z = none → Q (.ref z) (upd H z (.tup [.int u.1, .int u.2]))
theorem ok_meeting (T : Txt K mg A) : FnOk P w K mg base CX0 1 A.f_meeting A.d_meeting ["one", "other", "start", "length"] (spMeeting K) := by
  refine T.F_meeting.ok sc_meeting (fun vs H Q E h => ?_) (fun cdv A0 outer s H vs Q E hr h => ?_)
  · obtain ⟨a, b, s, s', st, ln, m, m', rfl, _⟩ := h
    rfl
  · obtain ⟨a, b, x, x', st, ln, m, m', rfl, sa, sb, q1, q2⟩ := h
    refine ⟨_, (pss_cons (ps_asg (pv 0) (pg_tup rfl (pgs_cons (pg_name (i := 4) sc_meeting.nd rfl (.inl rfl)) (pgs_cons (pg_name (i := 5) sc_meeting.nd rfl (.inl rfl)) pgs_nil))))
      (pss_cons (ps_asg (pv 1) (pg_tup rfl (pgs_cons (pg_name (i := 6) sc_meeting.nd rfl (.inl rfl)) (pgs_cons (pg_name (i := 7) sc_meeting.nd rfl (.inl rfl)) pgs_nil))))
      (pss_cons (ps_if (pt_cmpR op_eq (pv 5) (pv 7) (nomark _))
        (pss_one (ps_ret (pe_ifExp (pw_and (pt_cmpR op_eq (pv 4) (pv 6) (nomark _)) (pw_and1 (pt_cmpR op_gt (pv 3) pe_int (nomark _)))).pt (pe_tup (pa_cons (pv 2) (pa_cons (pv 3) pa_nil))) pe_non)))
        pss_nil)
      (pss_cons (ps_set (i := 8) sc_meeting.nd rfl (.inl rfl) (pe_ifExp (pt_val (pv 5)) (pe_op op_sub (pv 4) (pv 6)) (pe_op op_sub (pv 6) (pv 4))))
      (pss_cons (ps_set (i := 9) sc_meeting.nd rfl (.inl rfl) (pe_op op_fdiv (pv 8) pe_int))
      (pss_cons (ps_if (pw_and (pt_cmpR op_eq (pe_op op_mod (pv 8) pe_int) pe_int (nomark _)) (pw_and1 (pt_chain op_le op_lt (pv 2) (pv 9) (pe_op op_add (pv 2) (pv 3))))).pt
        (pss_one (ps_ret (pe_tup (pa_cons (pv 9) (pa_cons pe_int pa_nil)))))
        pss_nil)
      (pss_one (ps_ret pe_non)))))))), ?_⟩
    walk_at "rd"
    refine ⟨a, _, rfl, sa, rfl, _, _, rfl, _, _, rfl, rfl, ?_⟩
    walk_at "rd"
    refine ⟨b, _, rfl, sb, rfl, _, _, rfl, _, _, rfl, rfl, ?_⟩
    walk_at "rd"
    by_cases mm : m = m'
    · subst mm
      have ev : meetO x m x' m st ln = if x = x' ∧ 0 < ln then some (st, ln) else none := if_pos rfl
      rw [ev] at q1 q2
      rw [decide_eq_true rfl]
      walk_at "rd"
      refine rd_2 (fun h1 => ?_) (fun h1 => ?_)
      · have e1 : x = x' := V.int.inj (of_decide_eq_true h1)
        walk_at "rd"
        refine rd_2 (fun h2 => ?_) (fun h2 => ?_)
        · walk_at "rd"
          exact ⟨le_line (Nat.le_of_ble_eq_true rfl), fun z nz => q2 (st, ln) (if_pos ⟨e1, of_decide_eq_true h2⟩) z nz⟩
        · walk_at "rd"
          exact q1 (if_neg fun z => of_decide_eq_false h2 z.2)
      · walk_at "rd"
        exact q1 (if_neg fun z => of_decide_eq_false h1 (by rw [z.1]))
    · rw [decide_eq_false (fun z => mm (V.bl.inj z))]
      have ev : meetO x m x' m' st ln = if (if m then x - x' else x' - x) % 2 = 0 ∧ st ≤ (if m then x - x' else x' - x) / 2 ∧ (if m then x - x' else x' - x) / 2 < st + ln then some ((if m then x - x' else x' - x) / 2, 1) else none := if_neg mm
      rw [ev] at q1 q2
      clear ev
      walk_at "rd"
      cases m <;> (
        simp only [if_true, if_false, Bool.false_eq_true] at q1 q2
        walk_at "rd"
        refine rd_2 (fun h1 => ?_) (fun h1 => ?_)
        · have e1 := V.int.inj (of_decide_eq_true h1)
          walk_at "rd"
          refine rd_2 (fun h2 => ?_) (fun h2 => ?_)
          · have e2 := of_decide_eq_true h2
            walk_at "rd"
            refine rd_2 (fun h3 => ?_) (fun h3 => ?_)
            · have e3 := of_decide_eq_true h3
              walk_at "rd"
              exact ⟨le_line (Nat.le_of_ble_eq_true rfl), fun z nz => q2 _ (if_pos ⟨e1, e2, e3⟩) z nz⟩
            · walk_at "rd"
              exact q1 (if_neg fun z => of_decide_eq_false h3 z.2.2)
          · walk_at "rd"
            exact q1 (if_neg fun z => of_decide_eq_false h2 z.2.1)
        · walk_at "rd"
          exact q1 (if_neg fun z => of_decide_eq_false h1 (by rw [z.1])))
inductive PrV (H : Hp) : V → Option (Int × Int) → Prop
  | non : PrV H .non none
  | some {z : Addr} {u : Int × Int} (h : H z = some (.tup [.int u.1, .int u.2])) : PrV H (.ref z) (some u)
theorem meeting_ok {H : Hp} {a b : Addr} {s s' st ln : Int} {m m' : Bool} {Q : VK} {E : XK} (sa : SqT K H a [.int s, .bl m]) (sb : SqT K H b [.int s', .bl m']) (q : ∀ H' v, Same H H' → PrV H' v (meetO s m s' m' st ln) → Q v H') : spMeeting K [.ref a, .ref b, .int st, .int ln] H Q E :=
  ⟨a, b, s, s', st, ln, m, m', rfl, sa, sb, fun e => q H _ (Same.refl _) (e ▸ .non), fun u e z nz => q _ _ (same_new nz) (e ▸ .some upd_same)⟩
def meetsO (p q : Int) (o d : Bool) (p' q' : Int) (o' d' : Bool) (r : Rc) : Option Rc := match meetO p o p' o' r.1 r.2.2.1, meetO q d q' d' r.2.1 r.2.2.2 with
  | some c, some w => some (c.1, w.1, c.2, w.2)
  | _, _ => none
def spMeets (K : PySem.W.Frag) (C : Addr) : Sp := fun vs H Q _ => ∃ (a a2 b : Addr) (p q p' q' : Int) (o d o' d' : Bool) (r : Rc), vs = [.ref a, .ref a2, .ref b] ∧ MirAt C H a p q o d ∧ MirAt C H a2 p' q' o' d' ∧ SqT K H b (rcL r) ∧ okR r ∧
  (meetsO p q o d p' q' o' d' r = none → ∀ H', Same H H' → Q .non H') ∧ ∀ u, meetsO p q o d p' q' o' d' r = some u → ∀ z H', Same H H' → H' z = some (.tup (rcL u)) → Q (.ref z) H'
theorem ok_meets (T : Txt K mg A) : FnOk P w K mg base CX0 6 A.f_Mirror_meets A.d_Mirror_meets ["self", "other_mirror", "rect"] (spMeets K A.c_Mirror) := by
  have G_check_rect : FnOk P w K mg base CX0 5 A.f_check_rect A.d_check_rect ["value"] (spCheckR0 K) := ok_check_rect T
  have G_meeting : FnOk P w K mg base CX0 1 A.f_meeting A.d_meeting ["one", "other", "start", "length"] (spMeeting K) := ok_meeting T
  refine T.F_Mirror_meets.ok sc_Mirror_meets (fun vs H Q E h => ?_) (fun cdv A0 outer s H vs Q E hr h => ?_)
  · obtain ⟨a, a2, b, p, q, p', q', o, d, o', d', r, rfl, _⟩ := h
    rfl
  · obtain ⟨a, a2, b, p, q, p', q', o, d, o', d', r, rfl, ⟨dx, e⟩, ⟨dx2, e2⟩, sb, okr, k1, k2⟩ := h
    refine ⟨_, (pss_cons (ps_expr (pe_call G_check_rect (hr.mono (by decide)) (by rfl) T.g_check_rect T.F_check_rect.kp T.B_check_rect .nil pass0 (pa_cons (pv 2) pa_nil)))
      (pss_cons (ps_asg (pv 2) (pg_tup rfl (pgs_cons (pg_name (i := 3) sc_Mirror_meets.nd rfl (.inl rfl)) (pgs_cons (pg_name (i := 4) sc_Mirror_meets.nd rfl (.inl rfl)) (pgs_cons (pg_name (i := 5) sc_Mirror_meets.nd rfl (.inl rfl)) (pgs_cons (pg_name (i := 6) sc_Mirror_meets.nd rfl (.inl rfl)) pgs_nil))))))
      (pss_cons (ps_set (i := 7) sc_Mirror_meets.nd rfl (.inl rfl) (pe_call G_meeting (hr.mono (by decide)) (by rfl) T.g_meeting T.F_meeting.kp T.B_meeting .nil pass0 (pa_cons (pe_tup (pa_cons (pe_fld (pv 0) rfl) (pa_cons (pe_fld (pv 0) rfl) pa_nil))) (pa_cons (pe_tup (pa_cons (pe_fld (pv 1) rfl) (pa_cons (pe_fld (pv 1) rfl) pa_nil))) (pa_cons (pv 3) (pa_cons (pv 5) pa_nil))))))
      (pss_cons (ps_set (i := 8) sc_Mirror_meets.nd rfl (.inl rfl) (pe_call G_meeting (hr.mono (by decide)) (by rfl) T.g_meeting T.F_meeting.kp T.B_meeting .nil pass0 (pa_cons (pe_tup (pa_cons (pe_fld (pv 0) rfl) (pa_cons (pe_fld (pv 0) rfl) pa_nil))) (pa_cons (pe_tup (pa_cons (pe_fld (pv 1) rfl) (pa_cons (pe_fld (pv 1) rfl) pa_nil))) (pa_cons (pv 4) (pa_cons (pv 6) pa_nil))))))
      (pss_cons (ps_if (pw_or (pt_cmpR op_isN (pv 7) pe_non (nomark _)) (pw_or1 (pt_cmpR op_isN (pv 8) pe_non (nomark _)))).pt
        (pss_one (ps_ret pe_non))
        pss_nil)
      (pss_one (ps_ret (pe_tup (pa_cons (pe_ix ix_tup (pv 7) pe_int (fun _ _ => rfl)) (pa_cons (pe_ix ix_tup (pv 8) pe_int (fun _ _ => rfl)) (pa_cons (pe_ix ix_tup (pv 7) pe_int (fun _ _ => rfl)) (pa_cons (pe_ix ix_tup (pv 8) pe_int (fun _ _ => rfl)) pa_nil)))))))))))), ?_⟩
    walk_at "rd"
    refine ⟨_, rfl, rv_rc sb okr, fun H1 s1 => ?_⟩
    replace e := s1 _ _ e
    replace e2 := s1 _ _ e2
    walk_at "rd"
    refine ⟨b, _, rfl, same_sqT s1 sb, rfl, _, _, rfl, _, _, rfl, _, _, rfl, _, _, rfl, rfl, ?_⟩
    walk_at "rd"
    refine ⟨le_line (Nat.le_of_ble_eq_true rfl), fun t1 n1 => ?_⟩
    have s2 := s1.trans (same_new (o := .tup [.int p, .bl o]) n1)
    replace e := (same_new (o := .tup [.int p, .bl o]) n1) _ _ e
    replace e2 := (same_new (o := .tup [.int p, .bl o]) n1) _ _ e2
    walk_at "rd"
    refine ⟨le_line (Nat.le_of_ble_eq_true rfl), fun t2 n2 => ?_⟩
    have s3 := s2.trans (same_new (o := .tup [.int p', .bl o']) n2)
    have m1 := (same_new (o := .tup [.int p', .bl o']) n2) _ _ (upd_same (H := H1) (a := t1) (o := .tup [.int p, .bl o]))
    replace e := (same_new (o := .tup [.int p', .bl o']) n2) _ _ e
    replace e2 := (same_new (o := .tup [.int p', .bl o']) n2) _ _ e2
    have m2 : upd (upd H1 t1 (.tup [.int p, .bl o])) t2 (.tup [.int p', .bl o']) t2 = some (.tup [.int p', .bl o']) := upd_same
    generalize upd (upd H1 t1 (.tup [.int p, .bl o])) t2 (.tup [.int p', .bl o']) = H2 at s3 m1 m2 e e2 ⊢
    clear n1 n2 s1 s2
    walk_at "rd"
    refine meeting_ok (.inl (.inl m1)) (.inl (.inl m2)) fun H3 v7 s4 pc => ?_
    replace e := s4 _ _ e
    replace e2 := s4 _ _ e2
    replace s3 := s3.trans s4
    clear m1 m2 s4
    walk_at "rd"
    refine ⟨le_line (Nat.le_of_ble_eq_true rfl), fun t1 n1 => ?_⟩
    have s2 := s3.trans (same_new (o := .tup [.int q, .bl d]) n1)
    replace e := (same_new (o := .tup [.int q, .bl d]) n1) _ _ e
    replace e2 := (same_new (o := .tup [.int q, .bl d]) n1) _ _ e2
    walk_at "rd"
    refine ⟨le_line (Nat.le_of_ble_eq_true rfl), fun t2 n2 => ?_⟩
    replace s2 := s2.trans (same_new (o := .tup [.int q', .bl d']) n2)
    have sx := (same_new (o := .tup [.int q, .bl d]) n1).trans (same_new (o := .tup [.int q', .bl d']) n2)
    have m1 := (same_new (o := .tup [.int q', .bl d']) n2) _ _ (upd_same (H := H3) (a := t1) (o := .tup [.int q, .bl d]))
    have m2 : upd (upd H3 t1 (.tup [.int q, .bl d])) t2 (.tup [.int q', .bl d']) t2 = some (.tup [.int q', .bl d']) := upd_same
    generalize upd (upd H3 t1 (.tup [.int q, .bl d])) t2 (.tup [.int q', .bl d']) = H4 at s2 sx m1 m2 ⊢
    clear n1 n2 s3 e e2
    walk_at "rd"
    refine meeting_ok (.inl (.inl m1)) (.inl (.inl m2)) fun H5 v8 s5 pw => ?_
    replace s2 := s2.trans s5
    replace sx := sx.trans s5
    clear m1 m2 s5
    walk_at "rd"
    unfold meetsO at k1 k2
    generalize meetO p o p' o' r.1 r.2.2.1 = oc at pc k1 k2
    generalize meetO q d q' d' r.2.1 r.2.2.2 = ow at pw k1 k2
    refine ⟨rfl, ?_⟩
    cases pc with
    | non =>
      walk_at "rd"
      exact k1 rfl _ s2
    | @some z u hu =>
      replace hu := sx _ _ hu
      walk_at "rd"
      refine ⟨rfl, ?_⟩
      cases pw with
      | non =>
        walk_at "rd"
        exact k1 rfl _ s2
      | @some z2 u2 hu2 =>
        walk_at "rd"
        exact ⟨le_line (Nat.le_of_ble_eq_true rfl), fun t nt => k2 _ rfl t _ (s2.trans (same_new nt)) upd_same⟩
def spMeetsX (K : PySem.W.Frag) (A : Ad) : Sp := fun vs H _ E => ∃ (x y v : V), vs = [x, y, v] ∧ Rv K H v false ∧ ∀ H', Same H H' → Exn A 1 v E H'
theorem okx_meets (T : Txt K mg A) : FnOk P w K mg base (L2.CX P w) 6 A.f_Mirror_meets A.d_Mirror_meets ["self", "other_mirror", "rect"] (spMeetsX K A) := by
  have GX_check_rect : FnOk P w K mg base (L2.CX P w) 5 A.f_check_rect A.d_check_rect ["value"] (spCheckR K A) := okx_check_rect T
  have G_meeting : FnOk P w K mg base CX0 1 A.f_meeting A.d_meeting ["one", "other", "start", "length"] (spMeeting K) := ok_meeting T
  refine Vy.okX T.F_Mirror_meets sc_Mirror_meets (fun vs H Q E h => ?_) (fun cdv A0 outer s H vs Q E hr h => ?_)
  · obtain ⟨x, y, v, rfl, _⟩ := h
    rfl
  · obtain ⟨x, y, v, rfl, b, q⟩ := h
    refine ⟨_, (pss_cons (ps_expr (pe_call GX_check_rect (hr.mono (by decide)) (by rfl) T.g_check_rect T.F_check_rect.kp T.B_check_rect .nil Vy.passX (pa_cons (pv 2) pa_nil)))
      (pss_cons (ps_asg (pv 2) (pg_tup rfl (pgs_cons (pg_name (i := 3) sc_Mirror_meets.nd rfl (.inl rfl)) (pgs_cons (pg_name (i := 4) sc_Mirror_meets.nd rfl (.inl rfl)) (pgs_cons (pg_name (i := 5) sc_Mirror_meets.nd rfl (.inl rfl)) (pgs_cons (pg_name (i := 6) sc_Mirror_meets.nd rfl (.inl rfl)) pgs_nil))))))
      (pss_cons (ps_set (i := 7) sc_Mirror_meets.nd rfl (.inl rfl) (pe_call G_meeting (hr.mono (by decide)) (by rfl) T.g_meeting T.F_meeting.kp T.B_meeting .nil pass0 (pa_cons (pe_tup (pa_cons (pe_fld (pv 0) rfl) (pa_cons (pe_fld (pv 0) rfl) pa_nil))) (pa_cons (pe_tup (pa_cons (pe_fld (pv 1) rfl) (pa_cons (pe_fld (pv 1) rfl) pa_nil))) (pa_cons (pv 3) (pa_cons (pv 5) pa_nil))))))
      (pss_cons (ps_set (i := 8) sc_Mirror_meets.nd rfl (.inl rfl) (pe_call G_meeting (hr.mono (by decide)) (by rfl) T.g_meeting T.F_meeting.kp T.B_meeting .nil pass0 (pa_cons (pe_tup (pa_cons (pe_fld (pv 0) rfl) (pa_cons (pe_fld (pv 0) rfl) pa_nil))) (pa_cons (pe_tup (pa_cons (pe_fld (pv 1) rfl) (pa_cons (pe_fld (pv 1) rfl) pa_nil))) (pa_cons (pv 4) (pa_cons (pv 6) pa_nil))))))
      (pss_cons (ps_if (pw_or (pt_cmpR op_isN (pv 7) pe_non (nomark _)) (pw_or1 (pt_cmpR op_isN (pv 8) pe_non (nomark _)))).pt
        (pss_one (ps_ret pe_non))
        pss_nil)
      (pss_one (ps_ret (pe_tup (pa_cons (pe_ix ix_tup (pv 7) pe_int (fun _ _ => rfl)) (pa_cons (pe_ix ix_tup (pv 8) pe_int (fun _ _ => rfl)) (pa_cons (pe_ix ix_tup (pv 7) pe_int (fun _ _ => rfl)) (pa_cons (pe_ix ix_tup (pv 8) pe_int (fun _ _ => rfl)) pa_nil)))))))))))), ?_⟩
    walk_at "rd"
    exact ⟨v, false, rfl, b, fun z => absurd z (by decide), fun _ => q⟩
end
section
variable {P : Program} {w : World} {K : PySem.W.Frag} {mg : Str → Option Value} {base : Heap} {A : Ad}
/-- without the pool, and without tables of code objects -/
def hide (p : Addr) (H : Hp) : Hp := fun b => if b = p then none else match H b with
  | some (.tbl _) => none
  | o => o
theorem hide_iff {p b : Addr} {H : Hp} {o : HO} : hide p H b = some o ↔ b ≠ p ∧ H b = some o ∧ ∀ ps, o ≠ .tbl ps := by
  unfold hide
  by_cases z : b = p
  · rw [if_pos z]
    exact ⟨fun h => (nomatch h), fun h => absurd z h.1⟩
  · rw [if_neg z]
    split
    · rename_i ps e
      exact ⟨fun h => (nomatch h), fun h => by
        rw [e] at h
        exact absurd (Option.some.inj h.2.1).symm (h.2.2 ps)⟩
    · rename_i n
      exact ⟨fun h => ⟨z, h, fun ps y => n ps (by rw [h, y])⟩, fun h => h.2.1⟩
theorem hide_but {p : Addr} {H H' : Hp} (e : But [p] H H') : Same (hide p H) (hide p H') := fun b o h => by
  obtain ⟨n, h, t⟩ := hide_iff.mp h
  exact hide_iff.mpr ⟨n, e b o (fun m => n (List.mem_singleton.mp m)) h, t⟩
theorem hide_sub {p : Addr} {H : Hp} : Same (hide p H) H := fun b o h => (hide_iff.mp h).2.1
theorem hide_ext {p : Addr} {H H' : Hp} (e : LamX.ExtN H H') : Same (hide p H) H' := fun b o h => let ⟨_, h, t⟩ := hide_iff.mp h; e b o h t
theorem hide_same {p : Addr} {H H' : Hp} (e : But [p] H H') : Same (hide p H) H' := fun b o h => hide_sub _ _ (hide_but e _ _ h)
theorem hide_at {p a : Addr} {H : Hp} {o : HO} (ne : a ≠ p) (h : H a = some o) (t : ∀ ps, o ≠ .tbl ps := by intro ps z; cases z) : hide p H a = some o := hide_iff.mpr ⟨ne, h, t⟩
theorem slA_ok {H : Hp} {a : Addr} {xs : List V} {lo hi : Option Int} {Q : VK} (sq : SqT K H a xs) (q : ∀ z H', Same H H' → SqT K H' z (cutV xs lo hi) → Q (.ref z) H') : rSlA K (.ref a) lo hi H Q := by
  refine ⟨a, xs, rfl, sq, fun h => ?_, fun _ p np => q p _ (same_new np) (.inl (.inl upd_same))⟩
  have e : cutV xs lo hi = xs := by
    unfold cutV
    rw [h.1, h.2]
    simp
  exact q a H (Same.refl _) (e.symm ▸ sq)
theorem catA_ok {H : Hp} {a b : Addr} {xs ys : List V} {Q : VK} (sx : SqT K H a xs) (sy : SqT K H b ys) (few : xs.length + ys.length ≤ 1000) (q : ∀ z H', Same H H' → SqT K H' z (xs ++ ys) → Q (.ref z) H') : rCatA K (.ref a) (.ref b) H Q := by
  refine ⟨a, b, xs, ys, rfl, rfl, sx, sy, le_line few, fun e => ?_, fun _ e => ?_, fun _ _ p np => q p _ (same_new np) (.inl (.inl upd_same))⟩
  · subst e
    exact q b H (Same.refl _) sy
  · subst e
    exact q a H (Same.refl _) (by rw [List.append_nil]; exact sx)
theorem cut_to (xs : List V) (n : Nat) : cutV xs none (some (n : Int)) = xs.take n := by
  unfold cutV
  rw [HT.sIx_none, HT.sIx_nat, Nat.sub_zero, List.drop_zero]
  rcases Nat.le_total n xs.length with h | h
  · rw [Nat.min_eq_left h]
  · rw [Nat.min_eq_right h, List.take_length, List.take_of_length_le h]
theorem cut_from (xs : List V) (n : Nat) : cutV xs (some (n : Int)) none = xs.drop n := by
  unfold cutV
  rw [HT.sIx_none, HT.sIx_nat]
  rcases Nat.le_total n xs.length with h | h
  · rw [Nat.min_eq_left h, List.take_of_length_le (by rw [List.length_drop]; omega)]
  · rw [Nat.min_eq_right h, Nat.sub_self, List.take_zero, List.drop_eq_nil_of_le h]
theorem sqT_but {H H' : Hp} {p z : Addr} {xs : List V} (e : But [p] H H') (hp : Pool H p) (h : SqT K H z xs) : SqT K H' z xs := by
  obtain ⟨x, d, c, hp⟩ := hp
  have ne : ∀ {o : HO}, H z = some o → (∀ zs, o ≠ .lst zs) → H' z = some o := fun {o} h n => e z o (fun m => by rw [List.mem_singleton.mp m, hp] at h; exact n _ (Option.some.inj h).symm) h
  rcases h with (h | ⟨o, h⟩) | h
  · exact .inl (.inl (ne h fun zs z => by cases z))
  · exact .inl (.inr ⟨o, ne h fun zs z => by cases z⟩)
  · exact .inr h
theorem sqT_hide {H : Hp} {p z : Addr} {xs : List V} (hp : Pool H p) (h : SqT K H z xs) : SqT K (hide p H) z xs := by
  obtain ⟨x, d, c, hp⟩ := hp
  have ne : ∀ {o : HO}, H z = some o → (∀ zs, o ≠ .lst zs) → z ≠ p := fun {o} h n m => by rw [m, hp] at h; exact n _ (Option.some.inj h).symm
  rcases h with (h | ⟨o, h⟩) | h
  · exact .inl (.inl (hide_at (ne h fun zs z => by cases z) h))
  · exact .inl (.inr ⟨o, hide_at (ne h fun zs z => by cases z) h⟩)
  · exact .inr h
theorem dpAll_app {H : Hp} : ∀ {xs : List V} {ds : List PyData} {ys : List V} {es : List PyData}, DpAll K H xs ds → DpAll K H ys es → DpAll K H (xs ++ ys) (ds ++ es)
  | _, _, _, _, .nil, h => h
  | _, _, _, _, .cons a t, h => .cons a (dpAll_app t h)
/-- what _law_caught's answer needs of a value's text -/
def TxD (d : PyData) : Prop := d.showable = true ∧ d.depth ≤ 60 ∧ d.shown.length ≤ sizeLine ∧ PyData.strOk d.shown = true
theorem tx_of {d : PyData} (h : (d.showable && (decide (d.depth ≤ 60) && (decide (d.shown.length ≤ 1000) && PyData.strOk d.shown))) = true) : TxD d := by
  rw [Bool.and_eq_true, Bool.and_eq_true, Bool.and_eq_true, decide_eq_true_eq, decide_eq_true_eq] at h
  exact ⟨h.1, h.2.1, le_line h.2.2.1, h.2.2.2⟩
/-- a value that is no rectangle, with its text -/
def BadR (K : PySem.W.Frag) (H : Hp) (v : V) : Prop := Rv K H v false ∧ ∃ d : PyData, Vy.Dq K H v d ∧ TxD d
theorem BadR.same {H H' : Hp} {v : V} (s : Same H H') (h : BadR K H v) : BadR K H' v :=
  let ⟨b, d, q, r⟩ := h
  ⟨b.same s, d, dq_same s q, r⟩
theorem rv_no {H : Hp} {p : Addr} {xs : List V} (t : SqT K H p xs) (few : xs.length ≤ 1000) (all : ∀ x ∈ xs, ∃ T, Kv K H x T) (h : rectL xs = false) : Rv K H (.ref p) false := h ▸ .tup t few all
theorem betw_no {lo hi i : Int} (h : i < lo ∨ hi < i) : betw lo hi (.int i) = false := by
  show (decide (lo ≤ i) && decide (i ≤ hi)) = false
  rcases h with h | h
  · rw [decide_eq_false (by omega), Bool.false_and]
  · rw [decide_eq_false (show ¬ i ≤ hi by omega), Bool.and_false]
theorem rectL4 (x y a b : V) : rectL [x, y, a, b] = (betw (-1000000000000) 1000000000000 x && betw (-1000000000000) 1000000000000 y && (betw 0 1000000000000 a && betw 0 1000000000000 b)) := rfl
/-- a value that is no integer, with its text -/
def BadN (K : PySem.W.Frag) (H : Hp) (v : V) : Prop := (∃ T, Kv K H v T) ∧ isInt v = false ∧ ∃ d : PyData, Vy.Dq K H v d ∧ TxD d
theorem BadN.same {H H' : Hp} {v : V} (s : Same H H') (h : BadN K H v) : BadN K H' v :=
  let ⟨⟨T, k⟩, b, d, q, r⟩ := h
  ⟨⟨T, k.same s⟩, b, d, dq_same s q, r⟩
theorem tabs_but {T : List (Addr × Str)} {H H' : Hp} {p : Addr} (e : But [p] H H') (hp : Pool H p) (h : LamX.Tabs T H) : LamX.Tabs T H' := by
  obtain ⟨x, d, c, hp⟩ := hp
  have ne : ∀ {b : Addr} {o : HO}, H b = some o → (∀ zs, o ≠ .lst zs) → H' b = some o := fun {b o} h n => e b o (fun m => by rw [List.mem_singleton.mp m, hp] at h; exact n _ (Option.some.inj h).symm) h
  intro t mt
  obtain ⟨ps, e1, e2, e3⟩ := h t mt
  refine ⟨ps, ne e1 (fun zs z => by cases z), e2, fun pos cv hc => ?_⟩
  obtain ⟨c', rfl, hc'⟩ := e3 pos cv hc
  exact ⟨c', rfl, ne hc' (fun zs z => by unfold LamX.CodeO at z; cases z)⟩
theorem exn_told {j : Nat} {v : V} {data : PyData} {Q : VK} {H : Hp} (hj : j < 2) (q : Vy.Dq K H v data) (tx : TxD data)
    (fin : ∀ l H2, Same H H2 → H2 l = some (.lst [.str (if j = 0 then ("number" : Str) else ("rect" : Str)), .str data.shown]) → Q (.ref l) H2) : Exn A j v (EchC K A Q) H := fun d hd =>
  ⟨j, d, v, data, hj, rfl, rfl, upd_same, dq_same (same_new hd) q, tx.1, tx.2.1, tx.2.2.1, fun l H'' s hl => fin l H'' ((same_new hd).trans s) hl⟩
/-- a list that came after H may change -/
theorem ext_mut {H H1 H2 : Hp} {D : Addr} {o : HO} (e : LamX.ExtN H H1) (nD : H1 D = none) (e2 : LamX.ExtN H1 H2) : LamX.ExtN H (upd H2 D o) := fun b u h n =>
  (upd_ne (fun z => by
    have := e b u h n
    rw [z, nD] at this
    cases this)).trans (e2 b u (e b u h n) n)
theorem tabs_mut {T : List (Addr × Str)} {H : Hp} {D : Addr} {xs : List V} {o : HO} (hD : H D = some (.lst xs)) (h : LamX.Tabs T H) : LamX.Tabs T (upd H D o) := by
  have ne : ∀ {b : Addr} {u : HO}, H b = some u → (∀ zs, u ≠ .lst zs) → upd H D o b = some u := fun {b u} h n => (upd_ne (fun m => by rw [m, hD] at h; exact n _ (Option.some.inj h).symm)).trans h
  intro t mt
  obtain ⟨ps, e1, e2, e3⟩ := h t mt
  refine ⟨ps, ne e1 (fun zs z => by cases z), e2, fun pos cv hc => ?_⟩
  obtain ⟨c', rfl, hc'⟩ := e3 pos cv hc
  exact ⟨c', rfl, ne hc' (fun zs z => by unfold LamX.CodeO at z; cases z)⟩
/-- what _law_caught answers, as data -/
def toldD (x y : Str) : PyData := .list [.str x, .str y]
theorem told_dp {H : Hp} {l : Addr} {x y : Str} (h : H l = some (.lst [.str x, .str y])) : Dp K H (.ref l) (toldD x y) := .lst (.inl (.inl h)) (.cons (.str x) (.cons (.str y) .nil))
theorem rep_lay {x y : Str} (hx : PyData.strOk x = true) (hy : PyData.strOk y = true) : ∀ n : Nat, PyData.canLay0 (.list (List.replicate n (toldD x y))) = true := fun n => by
  show PyData.canLayAll0 (List.replicate n (toldD x y)) = true
  induction n with
  | zero => rfl
  | succ n ih =>
    show (PyData.canLay0 (toldD x y) && PyData.canLayAll0 (List.replicate n (toldD x y))) = true
    rw [ih]
    simp [toldD, PyData.canLay0, PyData.canLayAll0, hx, hy]
theorem rep_shaped {x y : Str} (hx : PyData.strOk x = true) (hy : PyData.strOk y = true) (n : Nat) : SeqAt.shaped (.list (List.replicate n (toldD x y))) = true := by
  have d : PyData.depthAll (List.replicate n (toldD x y)) ≤ 2 := Vy.depth_all fun e m => by
    rw [List.eq_of_mem_replicate m]
    simp [toldD, PyData.depth, PyData.depthAll]
  have e : (PyData.list (List.replicate n (toldD x y))).depth ≤ 64 := by
    show PyData.depthAll _ + 1 ≤ 64
    omega
  unfold SeqAt.shaped
  rw [rep_lay hx hy n, decide_eq_true e]
  rfl
theorem rep_eqv {x y : Str} (hx : PyData.strOk x = true) (hy : PyData.strOk y = true) (n : Nat) : PyData.eqv (.list (List.replicate n (toldD x y))) (.list (List.replicate n (toldD x y))) = true := SeqAt.eqv_refl _ (rep_lay hx hy n)
/-- D is a list of n answers that all tell x and y; it came after H -/
structure Told (T : List (Addr × Str)) (x y : Str) (H : Hp) (D : Addr) (n : Nat) (Hn : Hp) : Prop where
  ext : LamX.ExtN H Hn
  tab : LamX.Tabs T Hn
  new : ∀ u, H D = some u → ∃ ps, u = .tbl ps
  all : ∃ rs : List Addr, Hn D = some (.lst (rs.map V.ref)) ∧ (∀ r ∈ rs, r ≠ D ∧ Hn r = some (.lst [.str x, .str y])) ∧ rs.length = n
theorem Told.step {T : List (Addr × Str)} {x y : Str} {H Hn Hm : Hp} {D : Addr} {n : Nat} (h : Told T x y H D n Hn) (e : LamX.ExtN Hn Hm) (t : LamX.Tabs T Hm) : Told T x y H D n Hm := by
  obtain ⟨rs, a, b, c⟩ := h.all
  exact ⟨h.ext.trans e, t, h.new, rs, e _ _ a (fun ps z => by cases z), fun r m => ⟨(b r m).1, e _ _ (b r m).2 (fun ps z => by cases z)⟩, c⟩
theorem Told.first {T : List (Addr × Str)} {x y : Str} {H Hn : Hp} {D l : Addr} (e : LamX.ExtN H Hn) (t : LamX.Tabs T Hn) (hl : Hn l = some (.lst [.str x, .str y])) (nD : Hn D = none) : Told T x y H D 1 (upd Hn D (.lst [.ref l])) :=
  ⟨e.trans (.of (same_new nD)), t.ext (same_new nD), fun u h => by
    cases u with
    | tbl ps => exact ⟨ps, rfl⟩
    | _ => exact absurd (e _ _ h (fun ps z => by cases z)) (by rw [nD]; exact fun z => by cases z),
   [l], upd_same, fun r m => by
    rw [List.mem_singleton.mp m]
    exact ⟨fun z => (nomatch (by rw [z, nD] at hl; exact hl : (none : Option HO) = some (.lst [.str x, .str y]))), (same_new nD) _ _ hl⟩, rfl⟩
theorem Told.more {T : List (Addr × Str)} {x y : Str} {H Hn : Hp} {D l : Addr} {n : Nat} {xs : List V} (h : Told T x y H D n Hn) (hD : Hn D = some (.lst xs)) (hl : Hn l = some (.lst [.str x, .str y])) (ne : l ≠ D) : Told T x y H D (n + 1) (upd Hn D (.lst (xs ++ [.ref l]))) := by
  obtain ⟨rs, a, b, c⟩ := h.all
  obtain rfl : xs = rs.map V.ref := by
    have := Option.some.inj (hD.symm.trans a)
    injection this
  refine ⟨fun d u e t => (upd_ne (fun z => ?_)).trans (h.ext d u e t), tabs_mut hD h.tab, h.new, rs ++ [l], by rw [upd_same, List.map_append]; rfl, fun r m => ?_, by rw [List.length_append, c]; rfl⟩
  · rw [z] at e
    obtain ⟨ps, rfl⟩ := h.new u e
    exact t ps rfl
  · rcases List.mem_append.mp m with m | m
    · exact ⟨(b r m).1, (upd_ne (b r m).1).trans (b r m).2⟩
    · rw [List.mem_singleton.mp m]
      exact ⟨ne, (upd_ne ne).trans hl⟩
theorem Told.join {T : List (Addr × Str)} {x y : Str} {H Hn : Hp} {D M l z : Addr} {n : Nat} {xs : List V} (h : Told T x y H D n Hn) (hD : Hn D = some (.lst xs)) (hl : Hn l = some (.lst [.str x, .str y])) (nz : Hn z = none) : Told T x y H z (n + 1) (upd Hn z (.lst (xs ++ [.ref l]))) := by
  obtain ⟨rs, a, b, c⟩ := h.all
  obtain rfl : xs = rs.map V.ref := by
    have := Option.some.inj (hD.symm.trans a)
    injection this
  refine ⟨h.ext.trans (.of (same_new nz)), h.tab.ext (same_new nz), fun u e => ?_, rs ++ [l], by rw [upd_same, List.map_append]; rfl, fun r m => ?_, by rw [List.length_append, c]; rfl⟩
  · cases u with
    | tbl ps => exact ⟨ps, rfl⟩
    | _ => exact absurd (h.ext _ _ e (fun ps z => by cases z)) (by rw [nz]; exact fun z => by cases z)
  · have at' : Hn r = some (.lst [.str x, .str y]) := by
      rcases List.mem_append.mp m with m | m
      · exact (b r m).2
      · rw [List.mem_singleton.mp m]
        exact hl
    exact ⟨fun e => (nomatch (by rw [e, nz] at at'; exact at' : (none : Option HO) = some (.lst [.str x, .str y]))), (same_new nz) _ _ at'⟩
theorem Told.off {T : List (Addr × Str)} {x y : Str} {H Hn : Hp} {D l : Addr} {n : Nat} (h : Told T x y H D n Hn) (hl : Hn l = some (.lst [.str x, .str y])) : l ≠ D := fun z => by
  obtain ⟨rs, a, _, _⟩ := h.all
  rw [z, a] at hl
  have e := Option.some.inj hl
  injection e with e
  cases rs with
  | nil => cases e
  | cons r rs =>
    have := (List.cons.inj e).1
    cases this
theorem dp_rep {H : Hp} {x y : Str} : ∀ {rs : List Addr}, (∀ r ∈ rs, H r = some (.lst [.str x, .str y])) → DpAll K H (rs.map V.ref) (List.replicate rs.length (toldD x y))
  | [], _ => .nil
  | r :: rs, h => .cons (told_dp (h r (List.mem_cons_self ..))) (dp_rep fun q m => h q (List.mem_cons_of_mem _ m))
theorem ext_sq {H H' : Hp} {a : Addr} {xs : List V} (e : LamX.ExtN H H') (h : SqL K H a xs) : SqL K H' a xs := by
  rcases h with (h | ⟨o, h⟩) | h
  · exact .inl (.inl (e _ _ h fun ps z => by cases z))
  · exact .inl (.inr ⟨o, e _ _ h fun ps z => by cases z⟩)
  · exact .inr h
theorem ext_pool {H H' : Hp} {p : Addr} (e : LamX.ExtN H H') (h : Pool H p) : Pool H' p := by
  obtain ⟨x, d, c, h⟩ := h
  exact ⟨x, d, c, e _ _ h fun ps z => by cases z⟩
theorem ext_put {H H1 : Hp} {D : Addr} {o : HO} (e : LamX.ExtN H H1) (n : H D = none) : LamX.ExtN H (upd H1 D o) := fun c u h t =>
  (upd_ne (fun z => by rw [z, n] at h; cases h)).trans (e c u h t)
theorem hs_hide {p : Addr} {H H' : Hp} (h : Same (hide p H) H') : Same (hide p H) (hide p H') := fun b o e => by
  obtain ⟨n, _, t⟩ := hide_iff.mp e
  exact hide_iff.mpr ⟨n, h _ _ e, t⟩
theorem hs_trans {p : Addr} {H H1 H2 : Hp} (a : Same (hide p H) H1) (b : Same (hide p H1) H2) : Same (hide p H) H2 := (hs_hide a).trans b
theorem hs_refl {p : Addr} {H : Hp} : Same (hide p H) H := hide_sub
/-- the text of a list display with one answer, n times -/
theorem rep_flat {q : Addr} (n : Nat) : (List.replicate n [V.ref q]).flatten = (List.replicate n q).map V.ref := by
  induction n with
  | zero => rfl
  | succ n ih => rw [List.replicate_succ, List.replicate_succ, List.flatten_cons, ih]; rfl
theorem told_lay {x y : Str} (hx : PyData.strOk x = true) (hy : PyData.strOk y = true) : PyData.canLay0 (toldD x y) = true := by
  simp [toldD, PyData.canLay0, PyData.canLayAll0, hx, hy]
theorem told_shaped {x y : Str} (hx : PyData.strOk x = true) (hy : PyData.strOk y = true) : SeqAt.shaped (toldD x y) = true := by
  unfold SeqAt.shaped
  rw [told_lay hx hy]
  simp [toldD, PyData.depth, PyData.depthAll]
theorem told_eqv {x y : Str} (hx : PyData.strOk x = true) (hy : PyData.strOk y = true) : PyData.eqv (toldD x y) (toldD x y) = true := SeqAt.eqv_refl _ (told_lay hx hy)
end
section
variable {P : Program} {w : World} {K : PySem.W.Frag} {mg : Str → Option Value} {base : Heap} {A : Ad}
/-! ### ints as data -/
def intsD (ns : List Int) : PyData := .tuple (ns.map PyData.int)
theorem intsD_all : ∀ ns : List Int, PyData.canLayAll0 (ns.map PyData.int) = true
  | [] => rfl
  | n :: ns => by
    show (PyData.canLay0 (.int n) && PyData.canLayAll0 (ns.map PyData.int)) = true
    rw [intsD_all ns]
    rfl
theorem intsD_lay (ns : List Int) : PyData.canLay0 (intsD ns) = true := intsD_all ns
theorem intsD_shaped (ns : List Int) : SeqAt.shaped (intsD ns) = true := by
  unfold SeqAt.shaped
  rw [intsD_lay]
  have d : PyData.depthAll (ns.map PyData.int) ≤ 1 := Vy.depth_all fun e m => by
    obtain ⟨q, _, rfl⟩ := List.mem_map.mp m
    simp [PyData.depth]
  have e : (intsD ns).depth ≤ 64 := by
    show PyData.depthAll _ + 1 ≤ 64
    omega
  rw [decide_eq_true e]
  rfl
theorem intsD_eqv (ns : List Int) : PyData.eqv (intsD ns) (intsD ns) = true := SeqAt.eqv_refl _ (intsD_lay ns)
theorem dp_ints {H : Hp} : ∀ ns : List Int, DpAll K H (ns.map V.int) (ns.map PyData.int)
  | [] => .nil
  | n :: ns => .cons (.int n) (dp_ints ns)
theorem ne_ints {H : Hp} {a b : Addr} {ns : List Int} {Q : VK} (ha : SqT K H a (ns.map V.int)) (hb : SqT K H b (ns.map V.int)) (q : Q (.bl false) H) : rNeD K (.ref a) (.ref b) H Q := ⟨intsD ns, intsD ns, .tup ha (dp_ints ns), .tup hb (dp_ints ns), intsD_shaped ns, intsD_shaped ns, by rw [intsD_eqv]; exact q⟩
theorem eq_ints {H : Hp} {a b : Addr} {ns : List Int} {Q : VK} (ha : SqT K H a (ns.map V.int)) (hb : SqT K H b (ns.map V.int)) (q : Q (.bl true) H) : rEqD K (.ref a) (.ref b) H Q := ⟨intsD ns, intsD ns, .tup ha (dp_ints ns), .tup hb (dp_ints ns), intsD_shaped ns, intsD_shaped ns, by rw [intsD_eqv]; exact q⟩
theorem ne_newt {H : Hp} {a t : Addr} {ns : List Int} {Q : VK} (nt : H t = none) (ha : SqT K H a (ns.map V.int)) (q : ∀ H', Same H H' → Q (.bl false) H') : rNeD K (.ref a) (.ref t) (upd H t (.tup (ns.map V.int))) Q :=
  ne_ints (ns := ns) (sqT_same (same_new nt) ha) (.inl (.inl upd_same)) (q _ (same_new nt))
theorem eq_newt {H : Hp} {a t : Addr} {ns : List Int} {Q : VK} (nt : H t = none) (ha : SqT K H a (ns.map V.int)) (q : ∀ H', Same H H' → Q (.bl true) H') : rEqD K (.ref a) (.ref t) (upd H t (.tup (ns.map V.int))) Q :=
  eq_ints (ns := ns) (sqT_same (same_new nt) ha) (.inl (.inl upd_same)) (q _ (same_new nt))
theorem rd_par {i j : Nat} {t : TA} {D : Ends} {σ : L2.St} {H : Hp} (h : t σ H fun vs H1 => ∃ v w, vs = [v, w] ∧ D.nx ((σ.set i (some v)).set j (some w)) H1) : tPar i j t D σ H := h
local macro_rules | `(tactic| walk_at "rd1") => `(tactic| (with_reducible refine rd_par ?_))
theorem mir_made {H : Hp} {x dx C : Addr} {p q : Int} {o d : Bool} {Q : Hp → Prop} {E : XK} (nx : H x = none) (nd : H dx = none) (k : ∀ H', Same H H' → MirAt C H' x p q o d → Q H') :
    spInit C [.ref x, .int p, .int q, .bl o, .bl d] (upd (upd H dx (.own x)) x (.ins C dx [])) (fun v H2 => v = .non ∧ Q H2) E :=
  ⟨x, dx, p, q, o, d, rfl, upd_same, fun H' keep at' => ⟨rfl, k H' (fun b u h => keep b u (fun z => by rw [z, nx] at h; cases h) ((upd_ne (fun z => by rw [z, nx] at h; cases h)).trans ((upd_ne (fun z => by rw [z, nd] at h; cases h)).trans h))) ⟨dx, at'⟩⟩⟩
theorem mir_but {C a p : Addr} {H H' : Hp} {x y : Int} {o d : Bool} (hp : Pool H p) (b : But [p] H H') (h : MirAt C H a x y o d) : MirAt C H' a x y o d := by
  obtain ⟨dx, e⟩ := h
  obtain ⟨u, v, w, hp⟩ := hp
  exact ⟨dx, b _ _ (fun m => by rw [List.mem_singleton.mp m, hp] at e; cases e) e⟩
def spGreat : Sp := fun vs H Q _ => ∃ p : Addr, vs = [.ref p] ∧ Pool H p ∧ ∀ H', But [p] H H' → Pool H' p → Q (.bl true) H'
theorem ok_great_right (T : Txt K mg A) : FnOk P w K mg base CX0 7 A.f_great_right A.d_great_right ["_law_pool_here"] spGreat := by
  have G_draw : FnOk P w K mg base CX0 1 A.f_draw A.d_draw ["_law_pool_here", "_law_many"] spDraw := ok_draw T
  have G_Mirror_init : FnOk P w K mg base CX0 3 A.f_Mirror_init A.d_Mirror_init ["self", "x", "y", "across", "down"] (spInit A.c_Mirror) := ok_init T
  have G_Mirror_call : FnOk P w K mg base CX0 1 A.f_Mirror_call A.d_Mirror_call ["self", "u", "v"] (spCall A.c_Mirror) := ok_call T
  have G_Mirror_image : FnOk P w K mg base CX0 6 A.f_Mirror_image A.d_Mirror_image ["self", "rect"] (spImage K A.c_Mirror) := ok_image T
  obtain ⟨gAD, KB_2_across_down⟩ := kb_ad T.F_Mirror_init
  refine T.F_great_right.ok sc_great_right (fun vs H Q E h => ?_) (fun cdv A0 outer s H vs Q E hr h => ?_)
  · obtain ⟨p, rfl, _⟩ := h
    rfl
  · obtain ⟨p, rfl, hP, q⟩ := h
    have hu64 := room64 hr
    refine ⟨_, (pss_cons (ps_par (i := 1) (j := 2) (by rfl) sc_great_right.nd rfl rfl (by decide) rfl rfl (pa_cons (pe_op op_sub (pe_call G_draw (hr.mono (by decide)) (by rfl) T.g_draw T.F_draw.kp T.B_draw .nil pass0 (pa_cons (pv 0) (pa_cons (pe_op op_mul pe_int (pe_op op_pow pe_int pe_int)) pa_nil))) (pe_op op_pow pe_int pe_int)) (pa_cons (pe_op op_sub (pe_call G_draw (hr.mono (by decide)) (by rfl) T.g_draw T.F_draw.kp T.B_draw .nil pass0 (pa_cons (pv 0) (pa_cons (pe_op op_mul pe_int (pe_op op_pow pe_int pe_int)) pa_nil))) (pe_op op_pow pe_int pe_int)) pa_nil)) (by rfl))
      (pss_cons (ps_par (i := 3) (j := 4) (by rfl) sc_great_right.nd rfl rfl (by decide) rfl rfl (pa_cons (pe_cmpR op_eq (pe_call G_draw (hr.mono (by decide)) (by rfl) T.g_draw T.F_draw.kp T.B_draw .nil pass0 (pa_cons (pv 0) (pa_cons pe_int pa_nil))) pe_int (nomark _)) (pa_cons (pe_cmpR op_eq (pe_call G_draw (hr.mono (by decide)) (by rfl) T.g_draw T.F_draw.kp T.B_draw .nil pass0 (pa_cons (pv 0) (pa_cons pe_int pa_nil))) pe_int (nomark _)) pa_nil)) (by rfl))
      (pss_cons (ps_set (i := 5) sc_great_right.nd rfl (.inl rfl) (pe_makeK T.M_Mirror G_Mirror_init (hr.mono (by decide)) (by rfl) T.g_Mirror KB_2_across_down pass0 (pa_cons (pv 1) (pa_cons (pv 2) pa_nil)) (pk_cons (pv 3) (pk_cons (pv 4) pk_nil))))
      (pss_cons (ps_par (i := 6) (j := 7) (by rfl) sc_great_right.nd rfl rfl (by decide) rfl rfl (pa_cons (pe_op op_sub (pe_call G_draw (hr.mono (by decide)) (by rfl) T.g_draw T.F_draw.kp T.B_draw .nil pass0 (pa_cons (pv 0) (pa_cons (pe_op op_mul pe_int (pe_op op_pow pe_int pe_int)) pa_nil))) (pe_op op_pow pe_int pe_int)) (pa_cons (pe_op op_sub (pe_op op_pow pe_int pe_int) (pe_call G_draw (hr.mono (by decide)) (by rfl) T.g_draw T.F_draw.kp T.B_draw .nil pass0 (pa_cons (pv 0) (pa_cons pe_int pa_nil)))) pa_nil)) (by rfl))
      (pss_cons (ps_if (pt_cmpR (op_neD hu64) (StX.pe_callO (pv 5) T.O_Mirror (FnOk.raw G_Mirror_call T.B_Mirror_call .nil) (hr.mono (by decide)) pass0 (pa_cons (pv 6) (pa_cons (pv 7) pa_nil))) (pe_tup (pa_cons (pe_ifExp (pt_val (pv 3)) (pe_op op_sub (pv 1) (pv 6)) (pe_op op_add (pv 1) (pv 6))) (pa_cons (pe_ifExp (pt_val (pv 4)) (pe_op op_sub (pv 2) (pv 7)) (pe_op op_add (pv 2) (pv 7))) pa_nil))) (nomark _))
        (pss_one (ps_ret pe_bl))
        pss_nil)
      (pss_cons (ps_set (i := 8) sc_great_right.nd rfl (.inl rfl) (pe_ix ix_list (pe_lst (pa_cons (pe_op op_sub pe_int (pe_op op_pow pe_int pe_int)) (pa_cons pe_int (pa_cons (pe_op op_pow pe_int pe_int) pa_nil)))) (pe_call G_draw (hr.mono (by decide)) (by rfl) T.g_draw T.F_draw.kp T.B_draw .nil pass0 (pa_cons (pv 0) (pa_cons pe_int pa_nil))) (fun _ _ => rfl)))
      (pss_cons (ps_set (i := 9) sc_great_right.nd rfl (.inl rfl) (pe_tup (pa_cons (pv 8) (pa_cons (pe_call G_draw (hr.mono (by decide)) (by rfl) T.g_draw T.F_draw.kp T.B_draw .nil pass0 (pa_cons (pv 0) (pa_cons (pe_op op_pow pe_int pe_int) pa_nil))) (pa_cons (pe_op op_pow pe_int pe_int) (pa_cons (pe_call G_draw (hr.mono (by decide)) (by rfl) T.g_draw T.F_draw.kp T.B_draw .nil pass0 (pa_cons (pv 0) (pa_cons (pe_op op_pow pe_int pe_int) pa_nil))) pa_nil))))))
      (pss_cons (ps_set (i := 8) sc_great_right.nd rfl (.inl rfl) (pe_ifExp (pt_val (pv 3)) (pe_op op_add (pe_op op_sub (pe_op op_sub (pv 1) (pe_ix ix_tup (pv 9) pe_int (fun _ _ => rfl))) (pe_ix ix_tup (pv 9) pe_int (fun _ _ => rfl))) pe_int) (pe_op op_add (pv 1) (pe_ix ix_tup (pv 9) pe_int (fun _ _ => rfl)))))
      (pss_cons (ps_set (i := 10) sc_great_right.nd rfl (.inl rfl) (pe_ifExp (pt_val (pv 4)) (pe_op op_add (pe_op op_sub (pe_op op_sub (pv 2) (pe_ix ix_tup (pv 9) pe_int (fun _ _ => rfl))) (pe_ix ix_tup (pv 9) pe_int (fun _ _ => rfl))) pe_int) (pe_op op_add (pv 2) (pe_ix ix_tup (pv 9) pe_int (fun _ _ => rfl)))))
      (pss_one (ps_ret (pe_and (pe_cmpR (op_eqD hu64) (pe_meth (pv 5) T.S_Mirror T.P_Mirror_image G_Mirror_image (hr.mono (by decide)) T.B_Mirror_image .nil pass0 (pa_cons (pv 9) pa_nil)) (pe_tup (pa_cons (pv 8) (pa_cons (pv 10) (pa_cons (pe_ix ix_tup (pv 9) pe_int (fun _ _ => rfl)) (pa_cons (pe_ix ix_tup (pv 9) pe_int (fun _ _ => rfl)) pa_nil))))) (nomark _)) (pe_one (pe_cmpR (op_eqD hu64) (StX.pe_callO (pv 5) T.O_Mirror (FnOk.raw G_Mirror_call T.B_Mirror_call .nil) (hr.mono (by decide)) pass0 (pa_cons pe_int (pa_cons pe_int pa_nil))) (pe_tup (pa_cons (pv 1) (pa_cons (pv 2) pa_nil))) (nomark _))))))))))))))), ?_⟩
    walk_at "rd"
    refine ⟨p, _, rfl, hP, by decide, by decide, fun x H1 x0 x1 b1 p1 => ?_⟩
    walk_at "rd"
    refine ⟨p, _, rfl, p1, by decide, by decide, fun y H2 y0 y1 b2 p2 => ?_⟩
    walk_at "rd"
    refine ⟨_, _, rfl, ?_⟩
    walk_at "rd"
    refine ⟨p, 2, rfl, p2, by decide, by decide, fun o H3 o0 o1 b3 p3 => ?_⟩
    walk_at "rd"
    refine ⟨p, 2, rfl, p3, by decide, by decide, fun d H4 d0 d1 b4 p4 => ?_⟩
    walk_at "rd"
    have bt := ((b1.trans b2).trans b3).trans b4
    clear b1 b2 b3 b4 p1 p2 p3 x0 x1 y0 y1 o0 o1 d0 d1
    generalize x - 10 ^ Int.toNat 39 = P', y - 10 ^ Int.toNat 39 = Q', decide (V.int o = V.int 0) = ov, decide (V.int d = V.int 0) = bl
    refine ⟨_, _, rfl, ?_⟩
    walk_at "rd"
    refine ⟨.int P', rfl, .int Q', rfl, .bl ov, rfl, .bl bl, rfl, rfl, rfl, fun m dx nm nd hdm => ?_⟩
    dsimp only [List.cons_append, List.nil_append]
    refine mir_made nm nd fun H5 s5 mm => ?_
    replace bt := bt.trans (.of s5)
    have p5 := p4.same s5
    clear nm nd s5 p4 hdm dx
    walk_at "rd"
    refine ⟨p, _, rfl, p5, by decide, by decide, fun x H6 x0 x1 b6 p6 => ?_⟩
    walk_at "rd"
    refine ⟨p, 3, rfl, p6, by decide, by decide, fun y H7 y0 y1 b7 p7 => ?_⟩
    walk_at "rd"
    refine ⟨_, _, rfl, ?_⟩
    replace mm := mir_but p6 b7 (mir_but p5 b6 mm)
    replace bt := (bt.trans b6).trans b7
    clear b6 b7 p5 p6 x0 x1 y0 y1
    generalize x - 10 ^ Int.toNat 39 = M', 10 ^ Int.toNat 12 - y = N'
    walk_at "rd"
    obtain ⟨dm, em⟩ := id mm
    refine ⟨.ref m, rfl, m, rfl, .int M', rfl, .int N', rfl, .inr ⟨_, _, em⟩, m, P', Q', M', N', ov, bl, rfl, mm, fun r nr => ?_⟩
    clear dm em
    have s8 := same_new (o := .tup [.int (if ov then P' - M' else P' + M'), .int (if bl then Q' - N' else Q' + N')]) nr
    have hr8 : upd H7 r (.tup [.int (if ov then P' - M' else P' + M'), .int (if bl then Q' - N' else Q' + N')]) r = some (.tup ([if ov then P' - M' else P' + M', if bl then Q' - N' else Q' + N'].map V.int)) := upd_same
    generalize upd H7 r (.tup [.int (if ov then P' - M' else P' + M'), .int (if bl then Q' - N' else Q' + N')]) = H8 at s8 hr8 ⊢
    replace bt := bt.trans (.of s8)
    have p8 := p7.same s8
    replace mm := mm.same s8
    clear nr s8 p7
    cases ov <;> cases bl <;> (
      walk_at "rd"
      refine ⟨le_line (Nat.le_of_ble_eq_true rfl), fun t nt => ?_⟩
      refine ne_newt (ns := [_, _]) nt (.inl (.inl hr8)) fun H8' s8' => ?_
      replace bt := bt.trans (.of s8')
      replace p8 := p8.same s8'
      replace mm := mm.same s8'
      clear nt hr8 s8'
      walk_at "rd"
      refine ⟨le_line (Nat.le_of_ble_eq_true rfl), fun l nl => ?_⟩
      replace bt := bt.new nl (o := .lst [.int (0 - 10 ^ Int.toNat 12), .int 0, .int (10 ^ Int.toNat 12)])
      have lp : l ≠ p := p8.ne nl
      replace p8 := p8.new nl (o := .lst [.int (0 - 10 ^ Int.toNat 12), .int 0, .int (10 ^ Int.toNat 12)])
      replace mm := mm.same (same_new (o := .lst [.int (0 - 10 ^ Int.toNat 12), .int 0, .int (10 ^ Int.toNat 12)]) nl)
      walk_at "rd"
      refine ⟨p, 3, rfl, p8, by decide, by decide, fun k H9 k0 k1 b9 p9 => ?_⟩
      have hl := b9 _ _ (fun z => lp (List.mem_singleton.mp z)) (upd_same (a := l) (o := .lst [.int (0 - 10 ^ Int.toNat 12), .int 0, .int (10 ^ Int.toNat 12)]))
      obtain ⟨lv, hat, ml⟩ := atI_lt (xs := [V.int (0 - 10 ^ Int.toNat 12), .int 0, .int (10 ^ Int.toNat 12)]) (r := k) k0 (by show k < ((3 : Nat) : Int); omega)
      obtain ⟨lf, rfl, l0, l1⟩ : ∃ lf, lv = V.int lf ∧ -1000000000000 ≤ lf ∧ lf ≤ 1000000000000 := by
        simp only [List.mem_cons, List.not_mem_nil, or_false] at ml
        rcases ml with rfl | rfl | rfl <;> exact ⟨_, rfl, by decide, by decide⟩
      replace mm := mir_but p8 b9 mm
      replace bt := bt.trans b9
      walk_at "rd"
      refine ⟨p, _, rfl, p9, by decide, by decide, fun u H10 u0 u1 b10 p10 => ?_⟩
      replace mm := mir_but p9 b10 mm
      replace bt := bt.trans b10
      walk_at "rd"
      refine ⟨p, _, rfl, p10, by decide, by decide, fun v H11 v0 v1 b11 p11 => ?_⟩
      replace mm := mir_but p10 b11 mm
      replace bt := bt.trans b11
      walk_at "rd"
      refine ⟨le_line (Nat.le_of_ble_eq_true rfl), fun b nb => ?_⟩
      have hb : SqT K (upd H11 b (.tup [.int lf, .int u, .int (10 ^ Int.toNat 12), .int v])) b (rcL (lf, u, 10 ^ Int.toNat 12, v)) := .inl (.inl upd_same)
      have okb : okR (lf, u, 10 ^ Int.toNat 12, v) := by
        have e12 : (10 : Int) ^ Int.toNat 12 = 1000000000000 := rfl
        unfold okR
        dsimp only
        omega
      replace mm := mm.same (same_new (o := .tup [.int lf, .int u, .int (10 ^ Int.toNat 12), .int v]) nb)
      replace bt := bt.new nb (o := .tup [.int lf, .int u, .int (10 ^ Int.toNat 12), .int v])
      replace p11 := p11.new nb (o := .tup [.int lf, .int u, .int (10 ^ Int.toNat 12), .int v])
      generalize upd H11 b (.tup [.int lf, .int u, .int (10 ^ Int.toNat 12), .int v]) = H12 at hb mm bt p11 ⊢
      walk_at "rd"
      obtain ⟨dm, em⟩ := id mm
      refine ⟨.ref m, rfl, m, dm, _, rfl, em, rfl, .ref b, rfl, m, b, P', Q', _, _, _, rfl, mm, hb, okb, fun z H13 s13 hz => ?_⟩
      have hb13 := sqT_same s13 hb
      replace mm := mm.same s13
      replace bt := bt.trans (.of s13)
      replace p11 := p11.same s13
      clear em dm hb s13
      walk_at "rd"
      refine ⟨le_line (Nat.le_of_ble_eq_true rfl), fun t nt => ?_⟩
      refine eq_newt (ns := [_, _, _, _]) nt (.inl (.inl hz)) fun H14 s14 => ?_
      replace mm := mm.same s14
      replace bt := bt.trans (.of s14)
      replace p11 := p11.same s14
      clear hz nt hb13 s14
      walk_at "rd"
      obtain ⟨dm, em⟩ := id mm
      refine ⟨.ref m, rfl, m, rfl, .inr ⟨_, _, em⟩, m, P', Q', 0, 0, _, _, rfl, mm, fun r nr => ?_⟩
      simp only [Int.sub_zero, Int.add_zero, ite_self]
      have hr1 : upd H14 r (.tup [.int P', .int Q']) r = some (.tup ([P', Q'].map V.int)) := upd_same
      replace bt := bt.trans (.of (same_new (o := .tup [.int P', .int Q']) nr))
      replace p11 := p11.same (same_new (o := .tup [.int P', .int Q']) nr)
      generalize upd H14 r (.tup [.int P', .int Q']) = H15 at hr1 bt p11 ⊢
      walk_at "rd"
      refine ⟨le_line (Nat.le_of_ble_eq_true rfl), fun t nt => ?_⟩
      refine eq_newt (ns := [_, _]) nt (.inl (.inl hr1)) fun H16 s16 => ?_
      exact q _ (bt.trans (.of s16)) (p11.same s16))end
section
variable {P : Program} {w : World} {K : PySem.W.Frag} {mg : Str → Option Value} {base : Heap} {A : Ad}
theorem kv_all {H : Hp} (ns : List Int) : ∀ x ∈ ns.map V.int, ∃ T, Kv K H x T := fun x m => by
  obtain ⟨i, _, rfl⟩ := List.mem_map.mp m
  exact ⟨_, .int i⟩
theorem mk_same {H : Hp} {x dx : Addr} {o o' : HO} (nx : H x = none) (nd : H dx = none) (ne : dx ≠ x) : Same H (upd (upd H dx o) x o') := (same_new nd).trans (same_new ((upd_ne ne.symm).trans nx))
def spRefused (tabs : Hp → Prop) : Sp := fun vs H Q _ => ∃ p : Addr, vs = [.ref p] ∧ Pool H p ∧ tabs H ∧ ∀ H', Same (hide p H) H' → Pool H' p → tabs H' → Q (.bl true) H'
theorem ok_refused_right (T : Txt K mg A) {c tP : Addr} {lq : Str} (hq : lamQ (envOfC "_law_refused_right" (defScope s_refused_right) 0 A.f_refused_right (.ref c)).qual = lq) (hc : A.d_refused_right.code = .ref c) (TB : LamX.TabB base mg c tP) :
    Vg.FnG P w K mg base CX0 9 A.f_refused_right A.d_refused_right ["_law_pool_here"] (spRefused (LamX.Tabs [(tP, lq)])) := by
  have G_draw : FnOk P w K mg base CX0 1 A.f_draw A.d_draw ["_law_pool_here", "_law_many"] spDraw := ok_draw T
  have G_Mirror_init : FnOk P w K mg base CX0 3 A.f_Mirror_init A.d_Mirror_init ["self", "x", "y", "across", "down"] (spInit A.c_Mirror) := ok_init T
  have GX_Mirror_init : FnOk P w K mg base (L2.CX P w) 3 A.f_Mirror_init A.d_Mirror_init ["self", "x", "y", "across", "down"] (spInitX K A) := okx_init T
  have G_Mirror_meets : FnOk P w K mg base CX0 6 A.f_Mirror_meets A.d_Mirror_meets ["self", "other_mirror", "rect"] (spMeets K A.c_Mirror) := ok_meets T
  have GX_Mirror_meets : FnOk P w K mg base (L2.CX P w) 6 A.f_Mirror_meets A.d_Mirror_meets ["self", "other_mirror", "rect"] (spMeetsX K A) := okx_meets T
  have GX_Mirror_image : FnOk P w K mg base (L2.CX P w) 6 A.f_Mirror_image A.d_Mirror_image ["self", "rect"] (spImageX K A) := okx_image T
  obtain ⟨ds0, KV_2, KB_2⟩ := kb_0 T.F_Mirror_init
  obtain ⟨gA, KB_2_across⟩ := kb_a T.F_Mirror_init
  obtain ⟨gD, KB_2_down⟩ := kb_d T.F_Mirror_init
  obtain ⟨gX, KB_0_down_y_x⟩ := kb_dyx T.F_Mirror_init
  refine Vg.okGT T.F_refused_right hc sc_refused_right (fun vs H Q E h => ?_) (fun A0 outer s H vs Q E hg h => ?_)
  · obtain ⟨p, rfl, _⟩ := h
    rfl
  · obtain ⟨p, rfl, hP, tb, q⟩ := h
    have hr := hg.rm
    have hu64 := room64 hr
    refine ⟨_, PSs.nox (pss_cons (ps_set (i := 1) sc_refused_right.nd rfl (.inl rfl) (pe_lst (pa_cons pe_non (pa_cons pe_bl (pa_cons pe_bl (pa_cons pe_str (pa_cons pe_str (pa_cons (pe_lst pa_nil) (pa_cons (pe_lst (pa_cons pe_int pa_nil)) (pa_cons (Tb.pe_tupF pa_nil) (pa_cons (pe_tup (pa_cons pe_int pa_nil)) (pa_cons pe_dnewK (pa_cons (pe_tup (pa_cons (pe_tup (pa_cons pe_int (pa_cons pe_int pa_nil))) pa_nil)) pa_nil)))))))))))))
      (pss_cons (ps_asg (pe_tup (pa_cons (pe_ix ix_list (pv 1) (pe_call G_draw (hr.mono (by decide)) (by rfl) T.g_draw T.F_draw.kp T.B_draw .nil pass0 (pa_cons (pv 0) (pa_cons pe_int pa_nil))) (fun _ _ => rfl)) (pa_cons (pe_ix ix_list (pv 1) (pe_call G_draw (hr.mono (by decide)) (by rfl) T.g_draw T.F_draw.kp T.B_draw .nil pass0 (pa_cons (pv 0) (pa_cons pe_int pa_nil))) (fun _ _ => rfl)) pa_nil))) (pg_tup rfl (pgs_cons (pg_name (i := 4) sc_refused_right.nd rfl (.inr rfl)) (pgs_cons (pg_name (i := 7) sc_refused_right.nd rfl (.inr rfl)) pgs_nil))))
      (pss_cons (ps_set (i := 2) sc_refused_right.nd rfl (.inl rfl) (pe_lst (pa_cons (pe_lamC (k := 6) T hg TB rfl hq (by rfl) (by exact fun _ _ _ _ _ _ _ hr => (pe_make T.M_Mirror GX_Mirror_init (hr.mono (by decide)) (by rfl) T.g_Mirror KB_2 KV_2 passL (pa_cons (pv 4) (pa_cons (pv 7) pa_nil)))) (LamX.lamS_by (sc := defScope s_refused_right) (by decide +kernel))) pa_nil)))
      (pss_cons (ps_expr (pe_bm PySem.F.plainAttrs_list PySem.F.slot_list_append PySem.F.type_list_append mt_append (pv 2) (pa_cons (pe_lamC (k := 6) T hg TB rfl hq (by rfl) (by exact fun _ _ _ _ _ _ _ hr => (pe_makeK T.M_Mirror GX_Mirror_init (hr.mono (by decide)) (by rfl) T.g_Mirror KB_2_across passL (pa_cons (pv 4) (pa_cons pe_int pa_nil)) (pk_cons pe_bl pk_nil))) (LamX.lamS_by (sc := defScope s_refused_right) (by decide +kernel))) pa_nil)))
      (pss_cons (ps_expr (pe_bm PySem.F.plainAttrs_list PySem.F.slot_list_append PySem.F.type_list_append mt_append (pv 2) (pa_cons (pe_lamC (k := 6) T hg TB rfl hq (by rfl) (by exact fun _ _ _ _ _ _ _ hr => (pe_make T.M_Mirror GX_Mirror_init (hr.mono (by decide)) (by rfl) T.g_Mirror KB_2 KV_2 passL (pa_cons pe_int (pa_cons (pv 4) pa_nil)))) (LamX.lamS_by (sc := defScope s_refused_right) (by decide +kernel))) pa_nil)))
      (pss_cons (ps_expr (pe_bm PySem.F.plainAttrs_list PySem.F.slot_list_append PySem.F.type_list_append mt_append (pv 2) (pa_cons (pe_lamC (k := 6) T hg TB rfl hq (by rfl) (by exact fun _ _ _ _ _ _ _ hr => (pe_makeK0 T.M_Mirror GX_Mirror_init (hr.mono (by decide)) (by rfl) T.g_Mirror KB_0_down_y_x passL (pk_cons pe_bl (pk_cons (pv 4) (pk_cons (pe_un un_neg pe_int) pk_nil))))) (LamX.lamS_by (sc := defScope s_refused_right) (by decide +kernel))) pa_nil)))
      (pss_cons (ps_if (pt_cmpR (op_neD hu64) (pv 2) (pe_op op_rep (pe_lst (pa_cons (pe_lst (pa_cons pe_str (pa_cons (pe_callB (Vy.call_reprQ hr hg.gd) (by rfl) T.m_repr (by decide +kernel) (pa_cons (pv 4) pa_nil)) pa_nil))) pa_nil)) pe_int) (nomark _))
        (pss_one (ps_ret pe_bl))
        pss_nil)
      (pss_cons (ps_set (i := 5) sc_refused_right.nd rfl (.inr rfl) (pe_makeK T.M_Mirror G_Mirror_init (hr.mono (by decide)) (by rfl) T.g_Mirror KB_2_down pass0 (pa_cons pe_int (pa_cons pe_int pa_nil)) (pk_cons pe_bl pk_nil)))
      (pss_cons (ps_set (i := 3) sc_refused_right.nd rfl (.inl rfl) (pe_lst (pa_cons pe_non (pa_cons pe_int (pa_cons pe_str (pa_cons (pe_lst pa_nil) (pa_cons (pe_tup (pa_cons pe_int (pa_cons pe_int (pa_cons pe_int pa_nil)))) (pa_cons (pe_lst (pa_cons pe_int (pa_cons pe_int (pa_cons pe_int (pa_cons pe_int pa_nil))))) (pa_cons (pe_tup (pa_cons pe_int (pa_cons pe_int (pa_cons pe_int (pa_cons (pe_un un_neg pe_int) pa_nil))))) (pa_cons (pe_tup (pa_cons pe_int (pa_cons pe_bl (pa_cons pe_int (pa_cons pe_int pa_nil))))) (pa_cons pe_dnewK pa_nil)))))))))))
      (pss_cons (ps_set (i := 6) sc_refused_right.nd rfl (.inr rfl) (pe_ix ix_list (pv 3) (pe_call G_draw (hr.mono (by decide)) (by rfl) T.g_draw T.F_draw.kp T.B_draw .nil pass0 (pa_cons (pv 0) (pa_cons pe_int pa_nil))) (fun _ _ => rfl)))
      (pss_cons (ps_set (i := 2) sc_refused_right.nd rfl (.inl rfl) (pe_lst (pa_cons (pe_lamC (k := 6) T hg TB rfl hq (by rfl) (by exact fun _ _ _ _ _ _ _ hr => (pe_meth (pv 5) T.S_Mirror T.P_Mirror_image GX_Mirror_image (hr.mono (by decide)) T.B_Mirror_image .nil passL (pa_cons (pv 6) pa_nil))) (LamX.lamS_by (sc := defScope s_refused_right) (by decide +kernel))) pa_nil)))
      (pss_cons (ps_expr (pe_bm PySem.F.plainAttrs_list PySem.F.slot_list_append PySem.F.type_list_append mt_append (pv 2) (pa_cons (pe_lamC (k := 6) T hg TB rfl hq (by rfl) (by exact fun _ _ _ _ _ _ _ hr => (Vs.pe_methK0 (pv 5) T.S_Mirror T.P_Mirror_image GX_Mirror_image (hr.mono (by decide)) T.K_Mirror_image_rect passL (pk_cons (pv 6) pk_nil))) (LamX.lamS_by (sc := defScope s_refused_right) (by decide +kernel))) pa_nil)))
      (pss_cons (ps_set (i := 2) sc_refused_right.nd rfl (.inl rfl) (pe_op op_cat (pv 2) (pe_lst (pa_cons (pe_lamC (k := 6) T hg TB rfl hq (by rfl) (by exact fun _ _ _ _ _ _ _ hr => (pe_meth (pv 5) T.S_Mirror T.P_Mirror_meets GX_Mirror_meets (hr.mono (by decide)) T.B_Mirror_meets .nil passL (pa_cons (pv 5) (pa_cons (pv 6) pa_nil)))) (LamX.lamS_by (sc := defScope s_refused_right) (by decide +kernel))) pa_nil))))
      (pss_cons (ps_set (i := 2) sc_refused_right.nd rfl (.inl rfl) (pe_op op_cat (pv 2) (pe_lst (pa_cons (pe_lamC (k := 6) T hg TB rfl hq (by rfl) (by exact fun _ _ _ _ _ _ _ hr => (Vs.pe_methK0 (pv 5) T.S_Mirror T.P_Mirror_meets GX_Mirror_meets (hr.mono (by decide)) T.K_Mirror_meets_rect_other_mirror passL (pk_cons (pv 6) (pk_cons (pv 5) pk_nil)))) (LamX.lamS_by (sc := defScope s_refused_right) (by decide +kernel))) pa_nil))))
      (pss_one (ps_ret (pe_and (pe_cmpR (op_eqD hu64) (pv 2) (pe_op op_rep (pe_lst (pa_cons (pe_lst (pa_cons pe_str (pa_cons (pe_callB (Vy.call_reprQ hr hg.gd) (by rfl) T.m_repr (by decide +kernel) (pa_cons (pv 6) pa_nil)) pa_nil))) pa_nil)) pe_int) (nomark _)) (pe_one (pe_cmpR op_isN (pe_meth (pv 5) T.S_Mirror T.P_Mirror_meets G_Mirror_meets (hr.mono (by decide)) T.B_Mirror_meets .nil pass0 (pa_cons (pv 5) (pa_cons (pe_tup (pa_cons pe_int (pa_cons pe_int (pa_cons pe_int (pa_cons pe_int pa_nil))))) pa_nil))) pe_non (nomark _)))))))))))))))))))), ?_⟩
    walk_at "rd"
    refine ⟨le_line (Nat.le_of_ble_eq_true rfl), fun a0 n0 => ?_⟩
    have s0 := same_new (o := .lst []) n0
    have e0 : upd H a0 (.lst []) a0 = some (.lst []) := upd_same
    generalize upd H a0 (.lst []) = J0 at s0 e0 ⊢
    walk_at "rd"
    refine ⟨le_line (Nat.le_of_ble_eq_true rfl), fun a1 n1 => ?_⟩
    have s1 := same_new (o := .lst [.int 3]) n1
    have e1 : upd J0 a1 (.lst [.int 3]) a1 = some (.lst [.int 3]) := upd_same
    generalize upd J0 a1 (.lst [.int 3]) = J1 at s1 e1 ⊢
    walk_at "rd"
    refine ⟨le_line (Nat.le_of_ble_eq_true rfl), fun a2 o2 n2 od2 => ?_⟩
    have s2 := same_new (o := .frz o2 (.tup [])) n2
    have e2 : upd J1 a2 (.frz o2 (.tup [])) a2 = some (.frz o2 (.tup [])) := upd_same
    generalize upd J1 a2 (.frz o2 (.tup [])) = J2 at s2 e2 ⊢
    walk_at "rd"
    refine ⟨le_line (Nat.le_of_ble_eq_true rfl), fun a3 n3 => ?_⟩
    have s3 := same_new (o := .tup [.int 3]) n3
    have e3 : upd J2 a3 (.tup [.int 3]) a3 = some (.tup [.int 3]) := upd_same
    generalize upd J2 a3 (.tup [.int 3]) = J3 at s3 e3 ⊢
    walk_at "rd"
    intro a4 n4
    have s4 := same_new (o := .dK []) n4
    have e4 : upd J3 a4 (.dK []) a4 = some (.dK []) := upd_same
    generalize upd J3 a4 (.dK []) = J4 at s4 e4 ⊢
    walk_at "rd"
    refine ⟨le_line (Nat.le_of_ble_eq_true rfl), fun a5 n5 => ?_⟩
    have s5 := same_new (o := .tup [.int 1, .int 2]) n5
    have e5 : upd J4 a5 (.tup [.int 1, .int 2]) a5 = some (.tup [.int 1, .int 2]) := upd_same
    generalize upd J4 a5 (.tup [.int 1, .int 2]) = J5 at s5 e5 ⊢
    walk_at "rd"
    refine ⟨le_line (Nat.le_of_ble_eq_true rfl), fun a6 n6 => ?_⟩
    have s6 := same_new (o := .tup [.ref a5]) n6
    have e6 : upd J5 a6 (.tup [.ref a5]) a6 = some (.tup [.ref a5]) := upd_same
    generalize upd J5 a6 (.tup [.ref a5]) = J6 at s6 e6 ⊢
    walk_at "rd"
    refine ⟨le_line (Nat.le_of_ble_eq_true rfl), fun a7 n7 => ?_⟩
    have s7 := same_new (o := .lst [.non, .bl true, .bl false, .str "7", .str "", .ref a0, .ref a1, .ref a2, .ref a3, .ref a4, .ref a6]) n7
    have e7 : upd J6 a7 (.lst [.non, .bl true, .bl false, .str "7", .str "", .ref a0, .ref a1, .ref a2, .ref a3, .ref a4, .ref a6]) a7 = some (.lst [.non, .bl true, .bl false, .str "7", .str "", .ref a0, .ref a1, .ref a2, .ref a3, .ref a4, .ref a6]) := upd_same
    generalize upd J6 a7 (.lst [.non, .bl true, .bl false, .str "7", .str "", .ref a0, .ref a1, .ref a2, .ref a3, .ref a4, .ref a6]) = J7 at s7 e7 ⊢
    walk_at "rd"
    have sAll : Same H J7 := (((((((s0.trans s1).trans s2).trans s3).trans s4).trans s5).trans s6).trans s7)
    have PF := hP.same sAll
    have P0 := hP
    have P1 := P0.same s0
    have P2 := P1.same s1
    have P3 := P2.same s2
    have P4 := P3.same s3
    have P5 := P4.same s4
    have P6 := P5.same s5
    have P7 := P6.same s6
    have h0 := hide_at (P0.ne n0) (s7 _ _ (s6 _ _ (s5 _ _ (s4 _ _ (s3 _ _ (s2 _ _ (s1 _ _ e0)))))))
    have h1 := hide_at (P1.ne n1) (s7 _ _ (s6 _ _ (s5 _ _ (s4 _ _ (s3 _ _ (s2 _ _ e1))))))
    have h2 := hide_at (P2.ne n2) (s7 _ _ (s6 _ _ (s5 _ _ (s4 _ _ (s3 _ _ e2)))))
    have h3 := hide_at (P3.ne n3) (s7 _ _ (s6 _ _ (s5 _ _ (s4 _ _ e3))))
    have h4 := hide_at (P4.ne n4) (s7 _ _ (s6 _ _ (s5 _ _ e4)))
    have h5 := hide_at (P5.ne n5) (s7 _ _ (s6 _ _ e5))
    have h6 := hide_at (P6.ne n6) (s7 _ _ e6)
    have h7 := hide_at (P7.ne n7) e7
    have tb7 := tb.ext sAll
    clear e0 s0 n0 e1 s1 n1 e2 s2 n2 e3 s3 n3 e4 s4 n4 e5 s5 n5 e6 s6 n6 e7 s7 n7
    clear P0 P1 P2 P3 P4 P5 P6 P7
    have odd : ∀ v ∈ [.non, .bl true, .bl false, .str "7", .str "", .ref a0, .ref a1, .ref a2, .ref a3, .ref a4, .ref a6], BadN K (hide p J7) v := by
      intro v m
      simp only [List.mem_cons, List.not_mem_nil, or_false] at m
      rcases m with rfl | rfl | rfl | rfl | rfl | rfl | rfl | rfl | rfl | rfl | rfl
      · exact ⟨⟨_, .non⟩, rfl, _, .dr (.dp .non), tx_of (by decide +kernel)⟩
      · exact ⟨⟨_, .bl true⟩, rfl, _, .dr (.dp (.bl true)), tx_of (by decide +kernel)⟩
      · exact ⟨⟨_, .bl false⟩, rfl, _, .dr (.dp (.bl false)), tx_of (by decide +kernel)⟩
      · exact ⟨⟨_, .str _⟩, rfl, _, .dr (.dp (.str _)), tx_of (by decide +kernel)⟩
      · exact ⟨⟨_, .str _⟩, rfl, _, .dr (.dp (.str _)), tx_of (by decide +kernel)⟩
      · exact ⟨⟨_, .ref (.base (.lst h0)) (.inl rfl)⟩, rfl, _, .dr (.dp (.lst (.inl (.inl h0)) .nil)), tx_of (by decide +kernel)⟩
      · exact ⟨⟨_, .ref (.base (.lst h1)) (.inl rfl)⟩, rfl, _, .dr (.dp (.lst (.inl (.inl h1)) (.cons (.int 3) .nil))), tx_of (by decide +kernel)⟩
      · exact ⟨⟨_, .ref (tyx_sq (.inl (.inr ⟨_, h2⟩))) (.inr (.inl rfl))⟩, rfl, _, .dr (.dp (.tup (.inl (.inr ⟨_, h2⟩)) .nil)), tx_of (by decide +kernel)⟩
      · exact ⟨⟨_, .ref (tyx_sq (.inl (.inl h3))) (.inr (.inl rfl))⟩, rfl, _, .dr (.dp (.tup (.inl (.inl h3)) (.cons (.int 3) .nil))), tx_of (by decide +kernel)⟩
      · exact ⟨⟨_, .ref (.base (.dK h4)) (.inr (.inr rfl))⟩, rfl, _, .dr (.em h4), tx_of (by decide +kernel)⟩
      · exact ⟨⟨_, .ref (tyx_sq (.inl (.inl h6))) (.inr (.inl rfl))⟩, rfl, _, .dr (.dp (.tup (.inl (.inl h6)) (.cons (.tup (.inl (.inl h5)) (.cons (.int 1) (.cons (.int 2) .nil))) .nil))), tx_of (by decide +kernel)⟩
    clear h0 h1 h2 h3 h4 h5 h6
    refine ⟨p, 11, rfl, PF, by decide, by decide, fun r H1 r0 r1 b1 p1 => ?_⟩
    obtain ⟨bad, hat, mb⟩ := atI_lt (xs := [V.non, .bl true, .bl false, .str "7", .str "", .ref a0, .ref a1, .ref a2, .ref a3, .ref a4, .ref a6]) (r := r) r0 (by show r < ((11 : Nat) : Int); omega)
    have hs1 : Same (hide p J7) H1 := hide_same b1
    walk_at "rd"
    refine ⟨a7, _, _, bad, rfl, rfl, .inl (.inl (hs1 _ _ h7)), hat, ?_⟩
    walk_at "rd"
    refine ⟨p, 11, rfl, p1, by decide, by decide, fun r' H2 r0' r1' b2 p2 => ?_⟩
    obtain ⟨worse, hat2, mw⟩ := atI_lt (xs := [V.non, .bl true, .bl false, .str "7", .str "", .ref a0, .ref a1, .ref a2, .ref a3, .ref a4, .ref a6]) (r := r') r0' (by show r' < ((11 : Nat) : Int); omega)
    have hs2 : Same (hide p J7) H2 := hs_trans hs1 (hide_same b2)
    walk_at "rd"
    refine ⟨a7, _, _, worse, rfl, rfl, .inl (.inl (hs2 _ _ h7)), hat2, ?_⟩
    walk_at "rd"
    refine ⟨le_line (Nat.le_of_ble_eq_true rfl), fun t nt => ⟨t, _, rfl, .inl (.inl upd_same), rfl, _, _, rfl, _, _, rfl, rfl, ?_⟩⟩
    have hs3 : Same (hide p J7) (upd H2 t (.tup [bad, worse])) := hs2.trans (same_new nt)
    have p3 : Pool (upd H2 t (.tup [bad, worse])) p := p2.new nt
    have t3 : LamX.Tabs [(tP, lq)] (upd H2 t (.tup [bad, worse])) := (tabs_but b2 p1 (tabs_but b1 PF tb7)).ext (same_new nt)
    generalize upd H2 t (.tup [bad, worse]) = H3 at hs3 p3 t3 ⊢
    clear b1 b2 p1 p2 hs1 hs2 hat hat2 nt
    have SB : ∀ Hn, LamX.ExtN H3 Hn → Same (hide p H3) Hn := fun _ e => hide_ext e
    obtain ⟨⟨bT, bk⟩, bi, bd, bdq, btx⟩ := (odd bad mb).same (hs_hide hs3)
    obtain ⟨⟨wT, wk⟩, wi, wd', wdq, wtx⟩ := (odd worse mw).same (hs_hide hs3)
    clear mb mw
    generalize hide p H3 = B at SB bdq wdq bk wk
    walk_at "rd"
    refine ⟨t3, fun Ha ea ta => ?_⟩
    dsimp only [TTc]
    walk_at "rd"
    have Sa := SB _ (ea)
    refine ⟨bad, rfl, worse, rfl, fun m dx nm nd hdm => ?_⟩
    have sm := mk_same (o := .own m) (o' := .ins A.c_Mirror dx []) nm nd hdm
    refine ⟨m, bad, worse, false, false, _, _, rfl, (bk.same Sa).same sm, (wk.same Sa).same sm, .inl ⟨bi, fun H' s0 => ?_⟩⟩
    have s' := sm.trans s0
    clear s0 sm nm nd hdm dx
    refine exn_told (by decide) (dq_same s' (dq_same Sa bdq)) btx fun l Hb sb hl => ?_
    replace hl : Hb l = some (.lst [.str "number", .str bd.shown]) := hl
    have eb := ea.trans ((LamX.ExtN.of s').trans (.of sb))
    have tb' := (ta.ext s').ext sb
    walk_at "rd"
    refine ⟨le_line (Nat.le_of_ble_eq_true rfl), fun D1 nD1 => ?_⟩
    have T1 := Told.first (x := "number") eb tb' hl nD1
    generalize upd Hb D1 (.lst [.ref l]) = K1 at T1 ⊢
    clear eb tb' hl nD1 s' sb Sa ta ea m
    walk_at "rd"
    obtain ⟨rs1, a101, _, c1⟩ := T1.all
    refine ⟨.inl ⟨rfl, _, .inl (.inl a101)⟩, ?_⟩
    walk_at "rd"
    refine ⟨T1.tab, fun Ha ea ta => ?_⟩
    dsimp only [TTc]
    walk_at "rd"
    have Sa := SB _ (T1.ext.trans ea)
    refine ⟨bad, rfl, rfl, rfl, fun m dx nm nd hdm => ?_⟩
    have sm := mk_same (o := .own m) (o' := .ins A.c_Mirror dx []) nm nd hdm
    refine ⟨m, bad, .int 4, true, false, _, _, rfl, (bk.same Sa).same sm, .int 4, .inl ⟨bi, fun H' s0 => ?_⟩⟩
    have s' := sm.trans s0
    clear s0 sm nm nd hdm dx
    refine exn_told (by decide) (dq_same s' (dq_same Sa bdq)) btx fun l Hb sb hl => ?_
    replace hl : Hb l = some (.lst [.str "number", .str bd.shown]) := hl
    have Tb := T1.step (ea.trans ((LamX.ExtN.of s').trans (.of sb))) ((ta.ext s').ext sb)
    walk_at "rd"
    obtain ⟨rs', a', b', c'⟩ := Tb.all
    refine ⟨D1, _, _, rfl, rfl, a', small1000 (by rw [List.length_map]; omega), ?_⟩
    have T2 := Tb.more a' hl (Tb.off hl)
    generalize upd Hb D1 (.lst (rs'.map V.ref ++ [.ref l])) = K2 at T2 ⊢
    clear Tb hl sb s' Sa a' b' c' rs' ea ta m
    walk_at "rd"
    obtain ⟨rs2, a102, _, c2⟩ := T2.all
    refine ⟨.inl ⟨rfl, _, .inl (.inl a102)⟩, ?_⟩
    walk_at "rd"
    refine ⟨T2.tab, fun Ha ea ta => ?_⟩
    dsimp only [TTc]
    walk_at "rd"
    have Sa := SB _ (T2.ext.trans ea)
    refine ⟨bad, rfl, fun m dx nm nd hdm => ?_⟩
    have sm := mk_same (o := .own m) (o' := .ins A.c_Mirror dx []) nm nd hdm
    refine ⟨m, .int 3, bad, false, false, _, _, rfl, .int 3, (bk.same Sa).same sm, .inr ⟨rfl, bi, fun H' s0 => ?_⟩⟩
    have s' := sm.trans s0
    clear s0 sm nm nd hdm dx
    refine exn_told (by decide) (dq_same s' (dq_same Sa bdq)) btx fun l Hb sb hl => ?_
    replace hl : Hb l = some (.lst [.str "number", .str bd.shown]) := hl
    have Tb := T2.step (ea.trans ((LamX.ExtN.of s').trans (.of sb))) ((ta.ext s').ext sb)
    walk_at "rd"
    obtain ⟨rs', a', b', c'⟩ := Tb.all
    refine ⟨D1, _, _, rfl, rfl, a', small1000 (by rw [List.length_map]; omega), ?_⟩
    have T3 := Tb.more a' hl (Tb.off hl)
    generalize upd Hb D1 (.lst (rs'.map V.ref ++ [.ref l])) = K3 at T3 ⊢
    clear Tb hl sb s' Sa a' b' c' rs' ea ta m
    walk_at "rd"
    obtain ⟨rs3, a103, _, c3⟩ := T3.all
    refine ⟨.inl ⟨rfl, _, .inl (.inl a103)⟩, ?_⟩
    walk_at "rd"
    refine ⟨T3.tab, fun Ha ea ta => ?_⟩
    dsimp only [TTc]
    walk_at "rd"
    have Sa := SB _ (T3.ext.trans ea)
    refine ⟨bad, rfl, _, rfl, rfl, rfl, fun m dx nm nd hdm => ?_⟩
    have sm := mk_same (o := .own m) (o' := .ins A.c_Mirror dx []) nm nd hdm
    refine ⟨m, .int (-3), bad, false, true, _, _, rfl, .int (-3), (bk.same Sa).same sm, .inr ⟨rfl, bi, fun H' s0 => ?_⟩⟩
    have s' := sm.trans s0
    clear s0 sm nm nd hdm dx
    refine exn_told (by decide) (dq_same s' (dq_same Sa bdq)) btx fun l Hb sb hl => ?_
    replace hl : Hb l = some (.lst [.str "number", .str bd.shown]) := hl
    have Tb := T3.step (ea.trans ((LamX.ExtN.of s').trans (.of sb))) ((ta.ext s').ext sb)
    walk_at "rd"
    obtain ⟨rs', a', b', c'⟩ := Tb.all
    refine ⟨D1, _, _, rfl, rfl, a', small1000 (by rw [List.length_map]; omega), ?_⟩
    have T4 := Tb.more a' hl (Tb.off hl)
    generalize upd Hb D1 (.lst (rs'.map V.ref ++ [.ref l])) = K4 at T4 ⊢
    clear Tb hl sb s' Sa a' b' c' rs' ea ta m
    walk_at "rd"
    obtain ⟨rs4, a4', b4', c4⟩ := T4.all
    refine ⟨bad, bd, rfl, dq_same (SB _ T4.ext) bdq, btx.1, btx.2.1, btx.2.2.1, ?_⟩
    walk_at "rd"
    refine ⟨le_line (Nat.le_of_ble_eq_true rfl), fun q1 m1 => ?_⟩
    walk_at "rd"
    refine ⟨le_line (Nat.le_of_ble_eq_true rfl), fun q2 m2 => ?_⟩
    walk_at "rd"
    refine ⟨q2, 4, _, rfl, rfl, upd_same, by decide, by decide, le_line (Nat.le_of_ble_eq_true rfl), fun q3 m3 => ?_⟩
    have c1' := same_new (o := .lst [.str "number", .str bd.shown]) m1
    have c2' := same_new (o := .lst [.ref q1]) m2
    have c3' := same_new (o := .lst (List.replicate (Int.toNat 4) [V.ref q1]).flatten) m3
    have hq1 := c3' _ _ (c2' _ _ (upd_same (H := K4) (a := q1) (o := .lst [.str "number", .str bd.shown])))
    have hq3 : upd (upd (upd K4 q1 (.lst [.str "number", .str bd.shown])) q2 (.lst [.ref q1])) q3 (.lst (List.replicate (Int.toNat 4) [V.ref q1]).flatten) q3 = some (.lst ([q1, q1, q1, q1].map V.ref)) := upd_same
    have c123 := (c1'.trans c2').trans c3'
    generalize upd (upd (upd K4 q1 (.lst [.str "number", .str bd.shown])) q2 (.lst [.ref q1])) q3 (.lst (List.replicate (Int.toNat 4) [V.ref q1]).flatten) = K5 at c123 hq1 hq3 ⊢
    have okp : PyData.strOk ("number" : Str) = true := Vy.ok_ofString _
    have v1 : DpAll K K5 (rs4.map V.ref) (List.replicate 4 (toldD "number" bd.shown)) := by
      have := dp_rep (K := K) fun r m => c123 _ _ (b4' r m).2
      rw [c4] at this
      exact this
    have v2 : DpAll K K5 ([q1, q1, q1, q1].map V.ref) (List.replicate 4 (toldD "number" bd.shown)) := dp_rep (K := K) (rs := [q1, q1, q1, q1]) fun r m => by
      simp only [List.mem_cons, List.not_mem_nil, or_false, or_self] at m
      rw [m]
      exact hq1
    refine ⟨.list (List.replicate 4 (toldD "number" bd.shown)), .list (List.replicate 4 (toldD "number" bd.shown)), .lst (.inl (.inl (c123 _ _ a4'))) v1, .lst (.inl (.inl hq3)) v2, rep_shaped okp btx.2.2.2 4, rep_shaped okp btx.2.2.2 4, ?_⟩
    rw [rep_eqv okp btx.2.2.2]
    have e5 := T4.ext.trans (.of c123)
    have t5 := T4.tab.ext c123
    have p5 : Pool K5 p := ext_pool e5 p3
    replace hs3 : Same (hide p J7) K5 := hs_trans hs3 (hide_ext e5)
    clear v1 v2 hq1 hq3 c123 c1' c2' c3' m1 m2 m3 a4' b4' c4 T1 T2 T3 T4 bdq btx bi bk wk wi wdq wtx SB e5 p3 t3
    walk_at "rd"
    refine ⟨rfl, rfl, fun g dg ng nd _ => ?_⟩
    dsimp only [List.cons_append, List.nil_append]
    refine mir_made ng nd fun G s5 mm => ?_
    clear ng nd
    replace t5 := t5.ext s5
    replace p5 := p5.same s5
    replace hs3 := hs3.trans s5
    clear s5
    walk_at "rd"

    refine ⟨le_line (Nat.le_of_ble_eq_true rfl), fun a20 n20 => ?_⟩
    have s20 := same_new (o := .lst []) n20
    have e20 : upd G a20 (.lst []) a20 = some (.lst []) := upd_same
    generalize upd G a20 (.lst []) = J20 at s20 e20 ⊢
    walk_at "rd"
    refine ⟨le_line (Nat.le_of_ble_eq_true rfl), fun a21 n21 => ?_⟩
    have s21 := same_new (o := .tup [.int 1, .int 2, .int 3]) n21
    have e21 : upd J20 a21 (.tup [.int 1, .int 2, .int 3]) a21 = some (.tup [.int 1, .int 2, .int 3]) := upd_same
    generalize upd J20 a21 (.tup [.int 1, .int 2, .int 3]) = J21 at s21 e21 ⊢
    walk_at "rd"
    refine ⟨le_line (Nat.le_of_ble_eq_true rfl), fun a22 n22 => ?_⟩
    have s22 := same_new (o := .lst [.int 0, .int 0, .int 1, .int 1]) n22
    have e22 : upd J21 a22 (.lst [.int 0, .int 0, .int 1, .int 1]) a22 = some (.lst [.int 0, .int 0, .int 1, .int 1]) := upd_same
    generalize upd J21 a22 (.lst [.int 0, .int 0, .int 1, .int 1]) = J22 at s22 e22 ⊢
    walk_at "rd"
    refine ⟨le_line (Nat.le_of_ble_eq_true rfl), fun a23 n23 => ?_⟩
    have s23 := same_new (o := .tup [.int 0, .int 0, .int 1, .int (-1)]) n23
    have e23 : upd J22 a23 (.tup [.int 0, .int 0, .int 1, .int (-1)]) a23 = some (.tup [.int 0, .int 0, .int 1, .int (-1)]) := upd_same
    generalize upd J22 a23 (.tup [.int 0, .int 0, .int 1, .int (-1)]) = J23 at s23 e23 ⊢
    walk_at "rd"
    refine ⟨le_line (Nat.le_of_ble_eq_true rfl), fun a24 n24 => ?_⟩
    have s24 := same_new (o := .tup [.int 0, .bl true, .int 1, .int 1]) n24
    have e24 : upd J23 a24 (.tup [.int 0, .bl true, .int 1, .int 1]) a24 = some (.tup [.int 0, .bl true, .int 1, .int 1]) := upd_same
    generalize upd J23 a24 (.tup [.int 0, .bl true, .int 1, .int 1]) = J24 at s24 e24 ⊢
    walk_at "rd"
    intro a25 n25
    have s25 := same_new (o := .dK []) n25
    have e25 : upd J24 a25 (.dK []) a25 = some (.dK []) := upd_same
    generalize upd J24 a25 (.dK []) = J25 at s25 e25 ⊢
    walk_at "rd"
    refine ⟨le_line (Nat.le_of_ble_eq_true rfl), fun a26 n26 => ?_⟩
    have s26 := same_new (o := .lst [.non, .int 4, .str "", .ref a20, .ref a21, .ref a22, .ref a23, .ref a24, .ref a25]) n26
    have e26 : upd J25 a26 (.lst [.non, .int 4, .str "", .ref a20, .ref a21, .ref a22, .ref a23, .ref a24, .ref a25]) a26 = some (.lst [.non, .int 4, .str "", .ref a20, .ref a21, .ref a22, .ref a23, .ref a24, .ref a25]) := upd_same
    generalize upd J25 a26 (.lst [.non, .int 4, .str "", .ref a20, .ref a21, .ref a22, .ref a23, .ref a24, .ref a25]) = J26 at s26 e26 ⊢
    walk_at "rd"
    have sB : Same G J26 := ((((((s20.trans s21).trans s22).trans s23).trans s24).trans s25).trans s26)
    have P20 := p5
    have P21 := P20.same s20
    have P22 := P21.same s21
    have P23 := P22.same s22
    have P24 := P23.same s23
    have P25 := P24.same s24
    have P26 := P25.same s25
    have PG := p5.same sB
    have h20 := hide_at (P20.ne n20) (s26 _ _ (s25 _ _ (s24 _ _ (s23 _ _ (s22 _ _ (s21 _ _ e20))))))
    have h21 := hide_at (P21.ne n21) (s26 _ _ (s25 _ _ (s24 _ _ (s23 _ _ (s22 _ _ e21)))))
    have h22 := hide_at (P22.ne n22) (s26 _ _ (s25 _ _ (s24 _ _ (s23 _ _ e22))))
    have h23 := hide_at (P23.ne n23) (s26 _ _ (s25 _ _ (s24 _ _ e23)))
    have h24 := hide_at (P24.ne n24) (s26 _ _ (s25 _ _ e24))
    have h25 := hide_at (P25.ne n25) (s26 _ _ e25)
    have h26 := hide_at (P26.ne n26) e26
    replace hs3 := hs3.trans sB
    replace mm := mm.same sB
    replace t5 := t5.ext sB
    clear e20 s20 n20 e21 s21 n21 e22 s22 n22 e23 s23 n23 e24 s24 n24 e25 s25 n25 e26 s26 n26
    clear sB p5 P20 P21 P22 P23 P24 P25 P26
    have odd2 : ∀ v ∈ [V.non, .int 4, .str "", .ref a20, .ref a21, .ref a22, .ref a23, .ref a24, .ref a25], BadR K (hide p J26) v := by
      intro v m
      simp only [List.mem_cons, List.not_mem_nil, or_false] at m
      rcases m with rfl | rfl | rfl | rfl | rfl | rfl | rfl | rfl | rfl
      · exact ⟨.oth .non (by decide), _, .dr (.dp .non), tx_of (by decide +kernel)⟩
      · exact ⟨.oth (.int 4) (by decide), _, .dr (.dp (.int 4)), tx_of (by decide +kernel)⟩
      · exact ⟨.oth (.str _) (by decide), _, .dr (.dp (.str _)), tx_of (by decide +kernel)⟩
      · exact ⟨.oth (.ref (.base (.lst h20)) (.inl rfl)) (by decide), _, .dr (.dp (.lst (.inl (.inl h20)) .nil)), tx_of (by decide +kernel)⟩
      · exact ⟨rv_no (.inl (.inl h21)) (by decide) (kv_all [1, 2, 3]) rfl, _, .dr (.dp (.tup (.inl (.inl h21)) (dp_ints [1, 2, 3]))), tx_of (by decide +kernel)⟩
      · exact ⟨.oth (.ref (.base (.lst h22)) (.inl rfl)) (by decide), _, .dr (.dp (.lst (.inl (.inl h22)) (dp_ints [0, 0, 1, 1]))), tx_of (by decide +kernel)⟩
      · exact ⟨rv_no (.inl (.inl h23)) (by decide) (kv_all [0, 0, 1, -1]) (by decide), _, .dr (.dp (.tup (.inl (.inl h23)) (dp_ints [0, 0, 1, -1]))), tx_of (by decide +kernel)⟩
      · exact ⟨rv_no (.inl (.inl h24)) (by decide) (fun x m => by
          simp only [List.mem_cons, List.not_mem_nil, or_false] at m
          rcases m with rfl | rfl | rfl | rfl
          · exact ⟨_, .int _⟩
          · exact ⟨_, .bl _⟩
          · exact ⟨_, .int _⟩
          · exact ⟨_, .int _⟩) (by decide), _, .dr (.dp (.tup (.inl (.inl h24)) (.cons (.int 0) (.cons (.bl true) (.cons (.int 1) (.cons (.int 1) .nil)))))), tx_of (by decide +kernel)⟩
      · exact ⟨.oth (.ref (.base (.dK h25)) (.inr (.inr rfl))) (by decide), _, .dr (.em h25), tx_of (by decide +kernel)⟩
    clear h20 h21 h22 h23 h24 h25
    refine ⟨p, 9, rfl, PG, by decide, by decide, fun r H6 r0 r1 b1 p6 => ?_⟩
    obtain ⟨spot, hat, mb⟩ := atI_lt (xs := [V.non, .int 4, .str "", .ref a20, .ref a21, .ref a22, .ref a23, .ref a24, .ref a25]) (r := r) r0 (by show r < ((9 : Nat) : Int); omega)
    have hs6 : Same (hide p J26) H6 := hide_same b1
    walk_at "rd"
    refine ⟨a26, _, _, spot, rfl, rfl, .inl (.inl (hs6 _ _ h26)), hat, ?_⟩
    replace mm := mir_but PG b1 mm
    replace t5 := tabs_but b1 PG t5
    replace hs3 := hs_trans hs3 (hide_same b1)
    obtain ⟨br, bd, bdq, btx⟩ := (odd2 spot mb).same (hs_hide hs6)
    clear b1 PG odd2 odd hs6 mb hat h26 h7 r0 r1
    have SB : ∀ Hn, LamX.ExtN H6 Hn → Same (hide p H6) Hn := fun _ e => hide_ext e
    replace mm : MirAt A.c_Mirror (hide p H6) g 1 2 false true := by
      obtain ⟨dx, e⟩ := mm
      obtain ⟨u, v, w, hp⟩ := p6
      exact ⟨dx, hide_at (fun z => by rw [z, hp] at e; cases e) e⟩
    generalize hide p H6 = B at SB bdq br mm
    obtain ⟨dg, eg⟩ := mm
    walk_at "rd"
    refine ⟨t5, fun Ha ea ta => ?_⟩
    dsimp only [TTc]
    walk_at "rd"
    have Sa := SB _ (ea)
    refine ⟨.ref g, rfl, g, dg, _, rfl, Sa _ _ eg, rfl, spot, rfl, .ref g, spot, rfl, br.same Sa, fun H' s' => ?_⟩
    refine exn_told (by decide) (dq_same s' (dq_same Sa bdq)) btx fun l Hb sb hl => ?_
    replace hl : Hb l = some (.lst [.str "rect", .str bd.shown]) := hl
    have eb := ea.trans ((LamX.ExtN.of s').trans (.of sb))
    have tb' := (ta.ext s').ext sb
    walk_at "rd"
    refine ⟨le_line (Nat.le_of_ble_eq_true rfl), fun D11 nD1 => ?_⟩
    have T11 := Told.first (x := "rect") eb tb' hl nD1
    generalize upd Hb D11 (.lst [.ref l]) = K11 at T11 ⊢
    clear eb tb' hl nD1 s' sb Sa ta ea 
    walk_at "rd"
    obtain ⟨rs11, a111, _, c11⟩ := T11.all
    refine ⟨.inl ⟨rfl, _, .inl (.inl a111)⟩, ?_⟩
    walk_at "rd"
    refine ⟨T11.tab, fun Ha ea ta => ?_⟩
    dsimp only [TTc]
    walk_at "rd"
    have Sa := SB _ (T11.ext.trans ea)
    refine ⟨.ref g, rfl, g, dg, _, rfl, Sa _ _ eg, rfl, spot, rfl, .ref g, spot, rfl, br.same Sa, fun H' s' => ?_⟩
    refine exn_told (by decide) (dq_same s' (dq_same Sa bdq)) btx fun l Hb sb hl => ?_
    replace hl : Hb l = some (.lst [.str "rect", .str bd.shown]) := hl
    have Tb := T11.step (ea.trans ((LamX.ExtN.of s').trans (.of sb))) ((ta.ext s').ext sb)
    walk_at "rd"
    obtain ⟨rs', a', b', c'⟩ := Tb.all
    refine ⟨D11, _, _, rfl, rfl, a', small1000 (by rw [List.length_map]; omega), ?_⟩
    have T12 := Tb.more a' hl (Tb.off hl)
    generalize upd Hb D11 (.lst (rs'.map V.ref ++ [.ref l])) = K12 at T12 ⊢
    clear Tb hl sb s' Sa a' b' c' rs' ea ta 
    walk_at "rd"
    obtain ⟨rs12, a112, _, c12⟩ := T12.all
    refine ⟨T12.tab, fun Ha ea ta => ?_⟩
    dsimp only [TTc]
    walk_at "rd"
    have Sa := SB _ (T12.ext.trans ea)
    refine ⟨.ref g, rfl, g, dg, _, rfl, Sa _ _ eg, rfl, .ref g, rfl, spot, rfl, .ref g, .ref g, spot, rfl, br.same Sa, fun H' s' => ?_⟩
    refine exn_told (by decide) (dq_same s' (dq_same Sa bdq)) btx fun l Hb sb hl => ?_
    replace hl : Hb l = some (.lst [.str "rect", .str bd.shown]) := hl
    have Tb := T12.step (ea.trans ((LamX.ExtN.of s').trans (.of sb))) ((ta.ext s').ext sb)
    walk_at "rd"
    refine ⟨le_line (Nat.le_of_ble_eq_true rfl), fun M nM => ?_⟩
    replace Tb := Tb.step (.of (same_new (o := .lst [.ref l]) nM)) (Tb.tab.ext (same_new nM))
    replace hl := (same_new (o := .lst [.ref l]) nM) _ _ hl
    have hM : upd Hb M (.lst [.ref l]) M = some (.lst [.ref l]) := upd_same
    generalize upd Hb M (.lst [.ref l]) = Hc at Tb hl hM ⊢
    obtain ⟨rs', a', b', c'⟩ := Tb.all
    walk_at "rd"
    refine ⟨D11, M, _, _, rfl, rfl, a', hM, le_line (by rw [List.length_map, c']; exact Nat.le_of_ble_eq_true rfl), fun D13 nz => ?_⟩
    have T13 := Told.join (M := M) Tb a' hl nz
    generalize upd Hc D13 (.lst (rs'.map V.ref ++ [.ref l])) = K13 at T13 ⊢
    clear Tb hl sb s' Sa a' b' c' rs' ea ta hM nz nM 
    walk_at "rd"
    obtain ⟨rs13, a113, _, c13⟩ := T13.all
    refine ⟨T13.tab, fun Ha ea ta => ?_⟩
    dsimp only [TTc]
    walk_at "rd"
    have Sa := SB _ (T13.ext.trans ea)
    refine ⟨.ref g, rfl, g, dg, _, rfl, Sa _ _ eg, rfl, spot, rfl, .ref g, rfl, .ref g, .ref g, spot, rfl, br.same Sa, fun H' s' => ?_⟩
    refine exn_told (by decide) (dq_same s' (dq_same Sa bdq)) btx fun l Hb sb hl => ?_
    replace hl : Hb l = some (.lst [.str "rect", .str bd.shown]) := hl
    have Tb := T13.step (ea.trans ((LamX.ExtN.of s').trans (.of sb))) ((ta.ext s').ext sb)
    walk_at "rd"
    refine ⟨le_line (Nat.le_of_ble_eq_true rfl), fun M nM => ?_⟩
    replace Tb := Tb.step (.of (same_new (o := .lst [.ref l]) nM)) (Tb.tab.ext (same_new nM))
    replace hl := (same_new (o := .lst [.ref l]) nM) _ _ hl
    have hM : upd Hb M (.lst [.ref l]) M = some (.lst [.ref l]) := upd_same
    generalize upd Hb M (.lst [.ref l]) = Hc at Tb hl hM ⊢
    obtain ⟨rs', a', b', c'⟩ := Tb.all
    walk_at "rd"
    refine ⟨D13, M, _, _, rfl, rfl, a', hM, le_line (by rw [List.length_map, c']; exact Nat.le_of_ble_eq_true rfl), fun D14 nz => ?_⟩
    have T14 := Told.join (M := M) Tb a' hl nz
    generalize upd Hc D14 (.lst (rs'.map V.ref ++ [.ref l])) = K14 at T14 ⊢
    clear Tb hl sb s' Sa a' b' c' rs' ea ta hM nz nM 
    walk_at "rd"
    obtain ⟨rs4, a4', b4', c4⟩ := T14.all
    refine ⟨spot, bd, rfl, dq_same (SB _ T14.ext) bdq, btx.1, btx.2.1, btx.2.2.1, ?_⟩
    walk_at "rd"
    refine ⟨le_line (Nat.le_of_ble_eq_true rfl), fun q1 m1 => ?_⟩
    walk_at "rd"
    refine ⟨le_line (Nat.le_of_ble_eq_true rfl), fun q2 m2 => ?_⟩
    walk_at "rd"
    refine ⟨q2, 4, _, rfl, rfl, upd_same, by decide, by decide, le_line (Nat.le_of_ble_eq_true rfl), fun q3 m3 => ?_⟩
    have c1' := same_new (o := .lst [.str "rect", .str bd.shown]) m1
    have c2' := same_new (o := .lst [.ref q1]) m2
    have c3' := same_new (o := .lst (List.replicate (Int.toNat 4) [V.ref q1]).flatten) m3
    have hq1 := c3' _ _ (c2' _ _ (upd_same (H := K14) (a := q1) (o := .lst [.str "rect", .str bd.shown])))
    have hq3 : upd (upd (upd K14 q1 (.lst [.str "rect", .str bd.shown])) q2 (.lst [.ref q1])) q3 (.lst (List.replicate (Int.toNat 4) [V.ref q1]).flatten) q3 = some (.lst ([q1, q1, q1, q1].map V.ref)) := upd_same
    have c123 := (c1'.trans c2').trans c3'
    generalize upd (upd (upd K14 q1 (.lst [.str "rect", .str bd.shown])) q2 (.lst [.ref q1])) q3 (.lst (List.replicate (Int.toNat 4) [V.ref q1]).flatten) = K15 at c123 hq1 hq3 ⊢
    have okp2 : PyData.strOk ("rect" : Str) = true := Vy.ok_ofString _
    have v1 : DpAll K K15 (rs4.map V.ref) (List.replicate 4 (toldD "rect" bd.shown)) := by
      have := dp_rep (K := K) fun r m => c123 _ _ (b4' r m).2
      rw [c4] at this
      exact this
    have v2 : DpAll K K15 ([q1, q1, q1, q1].map V.ref) (List.replicate 4 (toldD "rect" bd.shown)) := dp_rep (K := K) (rs := [q1, q1, q1, q1]) fun r m => by
      simp only [List.mem_cons, List.not_mem_nil, or_false, or_self] at m
      rw [m]
      exact hq1
    refine ⟨.list (List.replicate 4 (toldD "rect" bd.shown)), .list (List.replicate 4 (toldD "rect" bd.shown)), .lst (.inl (.inl (c123 _ _ a4'))) v1, .lst (.inl (.inl hq3)) v2, rep_shaped okp2 btx.2.2.2 4, rep_shaped okp2 btx.2.2.2 4, ?_⟩
    rw [rep_eqv okp2 btx.2.2.2]
    have e15 := T14.ext.trans (.of c123)
    have t15 := T14.tab.ext c123
    have p15 : Pool K15 p := ext_pool e15 p6
    have eg15 := SB _ e15 _ _ eg
    replace hs3 : Same (hide p J7) K15 := hs_trans hs3 (hide_ext e15)
    clear v1 v2 hq1 hq3 c123 c1' c2' c3' m1 m2 m3 a4' b4' c4 T11 T12 T13 T14 bdq btx SB
    walk_at "rd"
    refine ⟨.ref g, rfl, g, dg, _, rfl, eg15, rfl, .ref g, rfl, le_line (Nat.le_of_ble_eq_true rfl), fun z nz => ?_⟩
    have sz := same_new (o := .tup [.int 0, .int 0, .int 0, .int 3]) nz
    have hm : MirAt A.c_Mirror (upd K15 z (.tup [.int 0, .int 0, .int 0, .int 3])) g 1 2 false true := ⟨dg, sz _ _ eg15⟩
    refine ⟨g, g, z, 1, 2, 1, 2, false, true, false, true, (0, 0, 0, 3), rfl, hm, hm, .inl (.inl upd_same), ⟨⟨by decide, by decide⟩, ⟨by decide, by decide⟩, ⟨by decide, by decide⟩, by decide, by decide⟩, fun _ H' s' => ?_, fun u e => (by rw [show meetsO 1 2 false true 1 2 false true (0, 0, 0, 3) = none from rfl] at e; cases e)⟩
    walk_at "rd"
    have sz' := sz.trans s'
    exact ⟨rfl, q _ (hs_trans (hide_sub.trans sAll) (hs3.trans sz')) (p15.same sz') (t15.ext sz')⟩
end
section
variable {P : Program} {w : World} {K : PySem.W.Frag} {mg : Str → Option Value} {base : Heap} {A : Ad}
/-- what did not stand at p stays, but the tables -/
theorem ext_but {H H1 H2 : Hp} {p : Addr} (e : LamX.ExtN H H1) (n : H p = none) (b : But [p] H1 H2) : LamX.ExtN H H2 := fun c o h t =>
  b c o (fun m => by rw [List.mem_singleton.mp m, n] at h; cases h) (e c o h t)
theorem ext_hs {H H1 H2 : Hp} {p : Addr} (e : LamX.ExtN H H1) (n : H p = none) (s : Same (hide p H1) H2) : LamX.ExtN H H2 := fun c o h t =>
  s _ _ (hide_iff.mpr ⟨fun z => (by rw [z, n] at h; cases h), e c o h t, t⟩)
def spLaw (K : PySem.W.Frag) (T : List (Addr × Str)) : Sp := fun vs H Q _ => ∃ (a : Addr) (ns : List Int), vs = [.ref a] ∧ SqL K H a (ns.map V.int) ∧ ns.length ≤ 63 ∧ LamX.Tabs T H ∧ ∀ H', Q (.bl true) H'
theorem ok_law (T : Txt K mg A) {c tP : Addr} {lq : Str} (hq : lamQ (envOfC "_law_refused_right" (defScope s_refused_right) 0 A.f_refused_right (.ref c)).qual = lq) (hc : A.d_refused_right.code = .ref c) (TB : LamX.TabB base mg c tP) : Vg.FnG P w K mg base CX0 10 A.f_law A.d_law ["_law_script"] (spLaw K [(tP, lq)]) := by
  have G_refused_right : Vg.FnG P w K mg base CX0 9 A.f_refused_right A.d_refused_right ["_law_pool_here"] (spRefused (LamX.Tabs [(tP, lq)])) := ok_refused_right T hq hc TB
  have G_great_right : FnOk P w K mg base CX0 7 A.f_great_right A.d_great_right ["_law_pool_here"] spGreat := ok_great_right T
  have G_pool : FnOk P w K mg base CX0 1 A.f_pool A.d_pool ["_law_cell_here"] spPool := ok_pool T
  have G_cell : FnOk P w K mg base CX0 1 A.f_cell A.d_cell ["_law_script", "_law_k"] (spCell K) := ok_cell T
  refine Vg.okG T.F_law sc_law (fun vs H Q E h => ?_) (fun cdv A0 outer s H vs Q E hg h => ?_)
  · obtain ⟨a, ns, rfl, _⟩ := h
    rfl
  · obtain ⟨a, ns, rfl, hS, hl, tb, q⟩ := h
    have hr := hg.rm
    refine ⟨_, PSs.nox (pss_cons (ps_for PassesOwn.never rfl (pi_range1 (by rfl) T.m_range (pa_cons (pe_callB (call_max2 rfl) (by rfl) T.m_max (by decide +kernel) (pa_cons pe_int (pa_cons (pe_callB (call_min2 rfl) (by rfl) T.m_min (by decide +kernel) (pa_cons (pe_callB call_len_seq (by rfl) T.m_len PySem.boot_len (pa_cons (pv 0) pa_nil)) (pa_cons pe_int pa_nil))) pa_nil))) pa_nil)) (pg_name (i := 1) sc_law.nd rfl (.inl rfl))
        (pss_cons (ps_set (i := 2) sc_law.nd rfl (.inl rfl) (pe_call G_pool (hr.mono (by decide)) (by rfl) T.g_pool T.F_pool.kp T.B_pool .nil pass0 (pa_cons (pe_call G_cell (hr.mono (by decide)) (by rfl) T.g_cell T.F_cell.kp T.B_cell .nil pass0 (pa_cons (pv 0) (pa_cons (pv 1) pa_nil))) pa_nil)))
        (pss_one (ps_for PassesOwn.never rfl (pi_range1 (by rfl) T.m_range (pa_cons pe_int pa_nil)) (pg_name (i := 3) sc_law.nd rfl (.inl rfl))
          (pss_one (ps_if (pw_or (pt_not (pt_val (pe_call G_great_right (hr.mono (by decide)) (by rfl) T.g_great_right T.F_great_right.kp T.B_great_right .nil pass0 (pa_cons (pv 2) pa_nil)))) (pw_or1 (pt_not (pt_val (Vg.pe_callG G_refused_right (hg.mono (by decide)) (by rfl) T.g_refused_right T.F_refused_right.kp T.B_refused_right .nil pass0 (pa_cons (pv 2) pa_nil)))))).pt
            (pss_one (ps_ret pe_bl))
            pss_nil))))))
      (pss_one (ps_ret pe_bl))), ?_⟩
    walk_at "rd"
    have hb : ∀ x : Int, x ≤ 63 → -(2 ^ 62) ≤ (if x > 2 then x else 2) ∧ (if x > 2 then x else 2) < 2 ^ 62 ∧ (if x > 2 then x else 2).toNat ≤ 63 := fun x hx => by
      split <;> omega
    have hm : (if (6 : Int) < ((ns.map V.int).length : Int) then (6 : Int) else ((ns.map V.int).length : Int)) ≤ 63 := by split <;> omega
    refine ⟨.ref a, rfl, a, _, rfl, .inl hS, _, _, rfl, _, _, rfl, _, rfl, (hb _ hm).1, (hb _ hm).2.1, ?_⟩
    have hn := (hb _ hm).2.2
    refine for_range (fun i σ H' => ∃ y1 y2 y3, σ = [some (.ref a), y1, y2, y3] ∧ LamX.ExtN H H' ∧ LamX.Tabs [(tP, lq)] H') ⟨none, none, none, rfl, LamX.ExtN.refl _, tb⟩ (fun i σ H1 hi h => ?_) (fun σ H1 h => ?_)
    · obtain ⟨y1, y2, y3, rfl, s1, t1⟩ := h
      walk_at "rd"
      refine ⟨a, ns, _, rfl, ext_sq s1 hS, by omega, by omega, fun z H2 s2 => ?_⟩
      walk_at "rd"
      refine ⟨z, rfl, fun p H3 np s3 p3 => ?_⟩
      walk_at "rd"
      have t3 := (t1.ext s2).ext s3
      have e3 : LamX.ExtN H1 H3 := .of (s2.trans s3)
      have pH : H1 p = none := s2.free np
      refine ⟨6, rfl, by decide, by decide, ?_⟩
      refine for_range (fun j σ H' => ∃ y x1, σ = [some (.ref a), x1, some (.ref p), y] ∧ LamX.ExtN H1 H' ∧ LamX.Tabs [(tP, lq)] H' ∧ Pool H' p) ⟨y3, _, rfl, e3, t3, p3⟩ (fun j σ H4 hj h => ?_) (fun σ H4 h => ?_)
      · obtain ⟨y, x1, rfl, e4, t4, p4⟩ := h
        walk_at "rd"
        refine ⟨p, rfl, p4, fun H5 b5 p5 => ?_⟩
        have e5 := ext_but e4 pH b5
        have t5 := tabs_but b5 p4 t4
        walk_at "rd"
        refine ⟨p, rfl, p5, t5, fun H6 h6 p6 t6 => ?_⟩
        have e6 := ext_hs e5 pH h6
        walk_at "rd"
        exact ⟨_, _, rfl, e6, t6, p6⟩
      · obtain ⟨y, x1, rfl, e4, t4, p4⟩ := h
        walk_at "rd"
        exact ⟨_, _, _, rfl, s1.trans e4, t4⟩
    · obtain ⟨y1, y2, y3, rfl, s1, t1⟩ := h
      walk_at "rd"
      exact q _
end
theorem kb_Mirror_image {K : PySem.W.Frag} {f : Addr} {fd : FuncData} (F : Fun K "image" "Mirror.image" s_Mirror_image f fd) : KBinds K fd ["self", "rect"] ["rect"] Vs.kMc Vs.kMcV := by
  obtain ⟨oc, od, kV, doc, pm, an, cdv, ct, osl, rfl, _, _⟩ := F.ex
  refine ⟨fun s us ws _ hl => ?_, fun r1 r2 => ?_⟩
  · match us, ws, hl with
    | [], _, hl => simp [Vs.kMc] at hl
    | [_], [_], _ => exact .of_eq rfl
    | [_, _], [], _ => exact .of_eq rfl
    | [_], [], hl => simp [Vs.kMc] at hl
    | [_], _ :: _ :: _, hl => simp [Vs.kMc] at hl
    | [_, _], _ :: _, hl => simp [Vs.kMc] at hl
    | _ :: _ :: _ :: _, _, hl => simp [Vs.kMc] at hl
  · cases r1 with
    | nil => exact .nil
    | cons a t =>
      have q : Vals (_ :: _) (_ :: _) := .cons a t
      exact q.append r2
theorem kb_Mirror_meets {K : PySem.W.Frag} {f : Addr} {fd : FuncData} (F : Fun K "meets" "Mirror.meets" s_Mirror_meets f fd) : KBinds K fd ["self", "other_mirror", "rect"] ["rect", "other_mirror"] Vs.kMs Vs.kMsV := by
  obtain ⟨oc, od, kV, doc, pm, an, cdv, ct, osl, rfl, _, _⟩ := F.ex
  refine ⟨fun s us ws _ hl => ?_, fun r1 r2 => ?_⟩
  · match us, ws, hl with
    | [], _, hl => simp [Vs.kMs] at hl
    | [_], [_, _], _ => exact .of_eq rfl
    | [_, _], [_], _ => exact .of_eq rfl
    | [_, _, _], [], _ => exact .of_eq rfl
    | [_], [], hl => simp [Vs.kMs] at hl
    | [_], [_], hl => simp [Vs.kMs] at hl
    | [_], _ :: _ :: _ :: _, hl => simp [Vs.kMs] at hl
    | [_, _], [], hl => simp [Vs.kMs] at hl
    | [_, _], _ :: _ :: _, hl => simp [Vs.kMs] at hl
    | [_, _, _], _ :: _, hl => simp [Vs.kMs] at hl
    | _ :: _ :: _ :: _ :: _, _, hl => simp [Vs.kMs] at hl
  · cases r1 with
    | nil => exact .nil
    | cons a t =>
      have q : Vals (_ :: _) (_ :: _) := .cons a t
      exact q.append (vals_rev r2)
theorem all_mk {l : PySem.W.OpenLaw} {w : World} {K : PySem.W.Frag} {h : Heap} {mg : Str → Option Value} {fa : Addr} (X : K.In h) (G : h.Ns mainGlobals mg) (hfa : mg "law" = some (.ref fa))
    {kc0 : Addr}
    {kc1 : Addr}
    {kc2 : Addr}
    {kc3 : Addr}
    {kc4 : Addr}
    {kc5 : Addr}
    {kc6 : Addr}
    {kn0 : Addr} {ko0 kx0 : Option Addr} {ks0 : Array (Option Value)} {ku0 kd0 kp0 km0 kt0 : Value}
    {kn1 : Addr} {ko1 kx1 : Option Addr} {ks1 : Array (Option Value)} {ku1 kd1 kp1 km1 kt1 : Value}
    {kn2 : Addr} {ko2 kx2 : Option Addr} {ks2 : Array (Option Value)} {ku2 kd2 kp2 km2 kt2 : Value}
    {kn3 : Addr} {ko3 kx3 : Option Addr} {ks3 : Array (Option Value)} {ku3 kd3 kp3 km3 kt3 : Value}
    {kk0 : Addr}
    {f0 : Addr} {od0 an0 : Option Addr} {sl0 : Array (Option Value)} {oc0 kV0 dc0 pm0 cd0 ct0 : Value}
    {f1 : Addr} {od1 an1 : Option Addr} {sl1 : Array (Option Value)} {oc1 kV1 dc1 pm1 cd1 ct1 : Value}
    {f2 : Addr} {od2 an2 : Option Addr} {sl2 : Array (Option Value)} {oc2 kV2 dc2 pm2 cd2 ct2 : Value}
    {f3 : Addr} {od3 an3 : Option Addr} {sl3 : Array (Option Value)} {oc3 kV3 dc3 pm3 cd3 ct3 : Value}
    {f4 : Addr} {od4 an4 : Option Addr} {sl4 : Array (Option Value)} {oc4 kV4 dc4 pm4 cd4 ct4 : Value}
    {f5 : Addr} {od5 an5 : Option Addr} {sl5 : Array (Option Value)} {oc5 dc5 pm5 cd5 ct5 : Value}
    {kd5_ : Addr}
    {f6 : Addr} {od6 an6 : Option Addr} {sl6 : Array (Option Value)} {oc6 kV6 dc6 pm6 cd6 ct6 : Value}
    {f7 : Addr} {od7 an7 : Option Addr} {sl7 : Array (Option Value)} {oc7 kV7 dc7 pm7 cd7 ct7 : Value}
    {f8 : Addr} {od8 an8 : Option Addr} {sl8 : Array (Option Value)} {oc8 kV8 dc8 pm8 cd8 ct8 : Value}
    {f9 : Addr} {od9 an9 : Option Addr} {sl9 : Array (Option Value)} {oc9 kV9 dc9 pm9 cd9 ct9 : Value}
    {f10 : Addr} {od10 an10 : Option Addr} {sl10 : Array (Option Value)} {oc10 kV10 dc10 pm10 cd10 ct10 : Value}
    {f11 : Addr} {od11 an11 : Option Addr} {sl11 : Array (Option Value)} {oc11 kV11 dc11 pm11 cd11 ct11 : Value}
    {f12 : Addr} {od12 an12 : Option Addr} {sl12 : Array (Option Value)} {oc12 kV12 dc12 pm12 cd12 ct12 : Value}
    {f13 : Addr} {od13 an13 : Option Addr} {sl13 : Array (Option Value)} {oc13 kV13 dc13 pm13 cd13 ct13 : Value}
    {f14 : Addr} {od14 an14 : Option Addr} {sl14 : Array (Option Value)} {oc14 kV14 dc14 pm14 cd14 ct14 : Value}
    {f15 : Addr} {od15 an15 : Option Addr} {sl15 : Array (Option Value)} {oc15 kV15 dc15 pm15 cd15 ct15 : Value}
    {f16 : Addr} {od16 an16 : Option Addr} {sl16 : Array (Option Value)} {oc16 kV16 dc16 pm16 cd16 ct16 : Value}
    {f17 : Addr} {od17 an17 : Option Addr} {sl17 : Array (Option Value)} {oc17 kV17 dc17 pm17 ct17 eR : Value} {cR tP : Addr} {dR : Option Addr} {vR : Array Value} {sR : Array (Option Value)}
    {f18 : Addr} {od18 an18 : Option Addr} {sl18 : Array (Option Value)} {oc18 kV18 dc18 pm18 cd18 ct18 : Value}
    {tk0 : Tok}
    (ca0 : PySem.W.nsIn K mainGlobals "InvalidNumber" = some (some (.ref kc0)))
    (ca1 : PySem.W.nsIn K mainGlobals "InvalidRect" = some (some (.ref kc1)))
    (ca2 : PySem.W.nsIn K mainGlobals "InvalidColour" = some (some (.ref kc2)))
    (ca3 : PySem.W.nsIn K mainGlobals "InvalidPairs" = some (some (.ref kc3)))
    (ca4 : PySem.W.nsIn K mainGlobals "FormError" = some (some (.ref kc4)))
    (ca5 : PySem.W.nsIn K mainGlobals "StateError" = some (some (.ref kc5)))
    (ca6 : PySem.W.nsIn K mainGlobals "LimitError" = some (some (.ref kc6)))
    (ci0 : PySem.W.findIn K (.ref kc0) "__init__" = some (some (.ref kn0)))
    (cl0 : K.lookup kn0 = some ⟨ku0, ko0, .func (PySem.W.fnOf "__init__" "InvalidNumber.__init__" (Vm.iPar "value" ⟨10, 17, 10, 21⟩ ⟨10, 23, 10, 28⟩) (Vm.iBod "value" ⟨11, 8, 11, 12⟩ ⟨11, 8, 11, 18⟩ ⟨11, 21, 11, 26⟩ ⟨11, 8, 11, 26⟩) (Vm.iSco "value") .none .none kd0 kp0 kx0 km0 kt0), ks0⟩)
    (cc0 : PySem.W.codeIn K km0 "InvalidNumber.__init__" = true)
    (cb0 : Vm.clB K [.type "ValueError", .type "Exception", .type "BaseException", .type "object"] "ValueError.__new__" "value" kc0 kn0 = true)
    (ci1 : PySem.W.findIn K (.ref kc1) "__init__" = some (some (.ref kn1)))
    (cl1 : K.lookup kn1 = some ⟨ku1, ko1, .func (PySem.W.fnOf "__init__" "InvalidRect.__init__" (Vm.iPar "value" ⟨6, 17, 6, 21⟩ ⟨6, 23, 6, 28⟩) (Vm.iBod "value" ⟨7, 8, 7, 12⟩ ⟨7, 8, 7, 18⟩ ⟨7, 21, 7, 26⟩ ⟨7, 8, 7, 26⟩) (Vm.iSco "value") .none .none kd1 kp1 kx1 km1 kt1), ks1⟩)
    (cc1 : PySem.W.codeIn K km1 "InvalidRect.__init__" = true)
    (cb1 : Vm.clB K [.type "ValueError", .type "Exception", .type "BaseException", .type "object"] "ValueError.__new__" "value" kc1 kn1 = true)
    (ci2 : PySem.W.findIn K (.ref kc2) "__init__" = some (some (.ref kn2)))
    (cl2 : K.lookup kn2 = some ⟨ku2, ko2, .func (PySem.W.fnOf "__init__" "InvalidColour.__init__" (Vm.iPar "value" ⟨14, 17, 14, 21⟩ ⟨14, 23, 14, 28⟩) (Vm.iBod "value" ⟨15, 8, 15, 12⟩ ⟨15, 8, 15, 18⟩ ⟨15, 21, 15, 26⟩ ⟨15, 8, 15, 26⟩) (Vm.iSco "value") .none .none kd2 kp2 kx2 km2 kt2), ks2⟩)
    (cc2 : PySem.W.codeIn K km2 "InvalidColour.__init__" = true)
    (cb2 : Vm.clB K [.type "ValueError", .type "Exception", .type "BaseException", .type "object"] "ValueError.__new__" "value" kc2 kn2 = true)
    (ci3 : PySem.W.findIn K (.ref kc3) "__init__" = some (some (.ref kn3)))
    (cl3 : K.lookup kn3 = some ⟨ku3, ko3, .func (PySem.W.fnOf "__init__" "InvalidPairs.__init__" (Vm.iPar "value" ⟨18, 17, 18, 21⟩ ⟨18, 23, 18, 28⟩) (Vm.iBod "value" ⟨19, 8, 19, 12⟩ ⟨19, 8, 19, 18⟩ ⟨19, 21, 19, 26⟩ ⟨19, 8, 19, 26⟩) (Vm.iSco "value") .none .none kd3 kp3 kx3 km3 kt3), ks3⟩)
    (cc3 : PySem.W.codeIn K km3 "InvalidPairs.__init__" = true)
    (cb3 : Vm.clB K [.type "ValueError", .type "Exception", .type "BaseException", .type "object"] "ValueError.__new__" "value" kc3 kn3 = true)
    (ch_all_F : exB K [kc0, kc1, kc2, kc3, kc4, kc5, kc6] = true)
    (ch_all_I : isB K [kc0, kc1, kc2, kc3, kc4, kc5, kc6] = true)
    (ch_all_C : caB K [kc0, kc1, kc2, kc3, kc4, kc5, kc6] = true)
    (og0 : PySem.W.nsIn K mainGlobals "Mirror" = some (some (.ref kk0))) (os0 : clsKB K kk0 = true)
    (om0 : PySem.W.makesIn K kk0 = true) (op0 : PySem.W.keepIn K (.ref kk0) = true)
    (on0_x : PySem.W.findIn K (.ref kk0) "x" = some none)
    (on0_y : PySem.W.findIn K (.ref kk0) "y" = some none)
    (on0_across : PySem.W.findIn K (.ref kk0) "across" = some none)
    (on0_down : PySem.W.findIn K (.ref kk0) "down" = some none)
    (a0 : PySem.W.nsIn K mainGlobals "is_int" = some (some (.ref f0)))
    (l0 : K.lookup f0 = some ⟨oc0, od0, .func (PySem.W.fnOf "is_int" "is_int" (defArgs s_is_int) (defBody s_is_int) (defScope s_is_int) .none kV0 dc0 pm0 an0 cd0 ct0), sl0⟩)
    (c0 : PySem.W.codeIn K cd0 "is_int" = true) (k0 : PySem.W.keepIn K (.ref f0) = true)
    (a1 : PySem.W.nsIn K mainGlobals "is_between" = some (some (.ref f1)))
    (l1 : K.lookup f1 = some ⟨oc1, od1, .func (PySem.W.fnOf "is_between" "is_between" (defArgs s_is_between) (defBody s_is_between) (defScope s_is_between) .none kV1 dc1 pm1 an1 cd1 ct1), sl1⟩)
    (c1 : PySem.W.codeIn K cd1 "is_between" = true) (k1 : PySem.W.keepIn K (.ref f1) = true)
    (a2 : PySem.W.nsIn K mainGlobals "is_number" = some (some (.ref f2)))
    (l2 : K.lookup f2 = some ⟨oc2, od2, .func (PySem.W.fnOf "is_number" "is_number" (defArgs s_is_number) (defBody s_is_number) (defScope s_is_number) .none kV2 dc2 pm2 an2 cd2 ct2), sl2⟩)
    (c2 : PySem.W.codeIn K cd2 "is_number" = true) (k2 : PySem.W.keepIn K (.ref f2) = true)
    (a3 : PySem.W.nsIn K mainGlobals "is_rect" = some (some (.ref f3)))
    (l3 : K.lookup f3 = some ⟨oc3, od3, .func (PySem.W.fnOf "is_rect" "is_rect" (defArgs s_is_rect) (defBody s_is_rect) (defScope s_is_rect) .none kV3 dc3 pm3 an3 cd3 ct3), sl3⟩)
    (c3 : PySem.W.codeIn K cd3 "is_rect" = true) (k3 : PySem.W.keepIn K (.ref f3) = true)
    (a4 : PySem.W.nsIn K mainGlobals "check_rect" = some (some (.ref f4)))
    (l4 : K.lookup f4 = some ⟨oc4, od4, .func (PySem.W.fnOf "check_rect" "check_rect" (defArgs s_check_rect) (defBody s_check_rect) (defScope s_check_rect) .none kV4 dc4 pm4 an4 cd4 ct4), sl4⟩)
    (c4 : PySem.W.codeIn K cd4 "check_rect" = true) (k4 : PySem.W.keepIn K (.ref f4) = true)
    (a5 : PySem.W.findIn K (.ref kk0) "__init__" = some (some (.ref f5))) (fn5 : PySem.W.isFn K (.ref f5) = true) (fi5 : PySem.W.fnIn K f5 = true)
    (l5 : K.lookup f5 = some ⟨oc5, od5, .func (PySem.W.fnOf "__init__" "Mirror.__init__" (defArgs s_Mirror_init) (defBody s_Mirror_init) (defScope s_Mirror_init) .none (.ref kd5_) dc5 pm5 an5 cd5 ct5), sl5⟩)
    (c5 : PySem.W.codeIn K cd5 "Mirror.__init__" = true) (k5 : PySem.W.keepIn K (.ref f5) = true)
    (kw5_across : PySem.W.nsIn K kd5_ "across" = some (some (.bool false)))
    (kw5_down : PySem.W.nsIn K kd5_ "down" = some (some (.bool false)))
    (a6 : PySem.W.findIn K (.ref kk0) "__call__" = some (some (.ref f6))) (fn6 : PySem.W.isFn K (.ref f6) = true) (fi6 : PySem.W.fnIn K f6 = true)
    (l6 : K.lookup f6 = some ⟨oc6, od6, .func (PySem.W.fnOf "__call__" "Mirror.__call__" (defArgs s_Mirror_call) (defBody s_Mirror_call) (defScope s_Mirror_call) .none kV6 dc6 pm6 an6 cd6 ct6), sl6⟩)
    (c6 : PySem.W.codeIn K cd6 "Mirror.__call__" = true) (k6 : PySem.W.keepIn K (.ref f6) = true)
    (a7 : PySem.W.findIn K (.ref kk0) "image" = some (some (.ref f7))) (fn7 : PySem.W.isFn K (.ref f7) = true) (fi7 : PySem.W.fnIn K f7 = true)
    (l7 : K.lookup f7 = some ⟨oc7, od7, .func (PySem.W.fnOf "image" "Mirror.image" (defArgs s_Mirror_image) (defBody s_Mirror_image) (defScope s_Mirror_image) .none kV7 dc7 pm7 an7 cd7 ct7), sl7⟩)
    (c7 : PySem.W.codeIn K cd7 "Mirror.image" = true) (k7 : PySem.W.keepIn K (.ref f7) = true)
    (a8 : PySem.W.findIn K (.ref kk0) "meets" = some (some (.ref f8))) (fn8 : PySem.W.isFn K (.ref f8) = true) (fi8 : PySem.W.fnIn K f8 = true)
    (l8 : K.lookup f8 = some ⟨oc8, od8, .func (PySem.W.fnOf "meets" "Mirror.meets" (defArgs s_Mirror_meets) (defBody s_Mirror_meets) (defScope s_Mirror_meets) .none kV8 dc8 pm8 an8 cd8 ct8), sl8⟩)
    (c8 : PySem.W.codeIn K cd8 "Mirror.meets" = true) (k8 : PySem.W.keepIn K (.ref f8) = true)
    (a9 : PySem.W.nsIn K mainGlobals "numbers_of" = some (some (.ref f9)))
    (l9 : K.lookup f9 = some ⟨oc9, od9, .func (PySem.W.fnOf "numbers_of" "numbers_of" (defArgs s_numbers_of) (defBody s_numbers_of) (defScope s_numbers_of) .none kV9 dc9 pm9 an9 cd9 ct9), sl9⟩)
    (c9 : PySem.W.codeIn K cd9 "numbers_of" = true) (k9 : PySem.W.keepIn K (.ref f9) = true)
    (a10 : PySem.W.nsIn K mainGlobals "spelled" = some (some (.ref f10)))
    (l10 : K.lookup f10 = some ⟨oc10, od10, .func (PySem.W.fnOf "spelled" "spelled" (defArgs s_spelled) (defBody s_spelled) (defScope s_spelled) .none kV10 dc10 pm10 an10 cd10 ct10), sl10⟩)
    (c10 : PySem.W.codeIn K cd10 "spelled" = true) (k10 : PySem.W.keepIn K (.ref f10) = true)
    (a11 : PySem.W.nsIn K mainGlobals "meeting" = some (some (.ref f11)))
    (l11 : K.lookup f11 = some ⟨oc11, od11, .func (PySem.W.fnOf "meeting" "meeting" (defArgs s_meeting) (defBody s_meeting) (defScope s_meeting) .none kV11 dc11 pm11 an11 cd11 ct11), sl11⟩)
    (c11 : PySem.W.codeIn K cd11 "meeting" = true) (k11 : PySem.W.keepIn K (.ref f11) = true)
    (a12 : PySem.W.nsIn K mainGlobals "_law_cell" = some (some (.ref f12)))
    (l12 : K.lookup f12 = some ⟨oc12, od12, .func (PySem.W.fnOf "_law_cell" "_law_cell" (defArgs s_cell) (defBody s_cell) (defScope s_cell) .none kV12 dc12 pm12 an12 cd12 ct12), sl12⟩)
    (c12 : PySem.W.codeIn K cd12 "_law_cell" = true) (k12 : PySem.W.keepIn K (.ref f12) = true)
    (a13 : PySem.W.nsIn K mainGlobals "_law_pool" = some (some (.ref f13)))
    (l13 : K.lookup f13 = some ⟨oc13, od13, .func (PySem.W.fnOf "_law_pool" "_law_pool" (defArgs s_pool) (defBody s_pool) (defScope s_pool) .none kV13 dc13 pm13 an13 cd13 ct13), sl13⟩)
    (c13 : PySem.W.codeIn K cd13 "_law_pool" = true) (k13 : PySem.W.keepIn K (.ref f13) = true)
    (a14 : PySem.W.nsIn K mainGlobals "_law_draw" = some (some (.ref f14)))
    (l14 : K.lookup f14 = some ⟨oc14, od14, .func (PySem.W.fnOf "_law_draw" "_law_draw" (defArgs s_draw) (defBody s_draw) (defScope s_draw) .none kV14 dc14 pm14 an14 cd14 ct14), sl14⟩)
    (c14 : PySem.W.codeIn K cd14 "_law_draw" = true) (k14 : PySem.W.keepIn K (.ref f14) = true)
    (a15 : PySem.W.nsIn K mainGlobals "_law_caught" = some (some (.ref f15)))
    (l15 : K.lookup f15 = some ⟨oc15, od15, .func (PySem.W.fnOf "_law_caught" "_law_caught" (defArgs s_caught) (defBody s_caught) (defScope s_caught) .none kV15 dc15 pm15 an15 cd15 ct15), sl15⟩)
    (c15 : PySem.W.codeIn K cd15 "_law_caught" = true) (k15 : PySem.W.keepIn K (.ref f15) = true)
    (a16 : PySem.W.nsIn K mainGlobals "_law_great_right" = some (some (.ref f16)))
    (l16 : K.lookup f16 = some ⟨oc16, od16, .func (PySem.W.fnOf "_law_great_right" "_law_great_right" (defArgs s_great_right) (defBody s_great_right) (defScope s_great_right) .none kV16 dc16 pm16 an16 cd16 ct16), sl16⟩)
    (c16 : PySem.W.codeIn K cd16 "_law_great_right" = true) (k16 : PySem.W.keepIn K (.ref f16) = true)
    (a17 : PySem.W.nsIn K mainGlobals "_law_refused_right" = some (some (.ref f17)))
    (l17 : K.lookup f17 = some ⟨oc17, od17, .func (PySem.W.fnOf "_law_refused_right" "_law_refused_right" (defArgs s_refused_right) (defBody s_refused_right) (defScope s_refused_right) .none kV17 dc17 pm17 an17 (.ref cR) ct17), sl17⟩)
    (c17 : PySem.W.codeIn K (.ref cR) "_law_refused_right" = true) (k17 : PySem.W.keepIn K (.ref f17) = true)
    (a18 : PySem.W.nsIn K mainGlobals "law" = some (some (.ref f18)))
    (l18 : K.lookup f18 = some ⟨oc18, od18, .func (PySem.W.fnOf "law" "law" (defArgs s_law) (defBody s_law) (defScope s_law) .none kV18 dc18 pm18 an18 cd18 ct18), sl18⟩)
    (c18 : PySem.W.codeIn K cd18 "law" = true) (k18 : PySem.W.keepIn K (.ref f18) = true)
    (z0 : PySem.W.nsIn K mainGlobals "ValueError" = some none)
    (z1 : PySem.W.nsIn K mainGlobals "abs" = some none)
    (z2 : PySem.W.nsIn K mainGlobals "all" = some none)
    (z3 : PySem.W.nsIn K mainGlobals "bool" = some none)
    (z4 : PySem.W.nsIn K mainGlobals "divmod" = some none)
    (z5 : PySem.W.nsIn K mainGlobals "int" = some none)
    (z6 : PySem.W.nsIn K mainGlobals "isinstance" = some none)
    (z7 : PySem.W.nsIn K mainGlobals "len" = some none)
    (z8 : PySem.W.nsIn K mainGlobals "max" = some none)
    (z9 : PySem.W.nsIn K mainGlobals "min" = some none)
    (z10 : PySem.W.nsIn K mainGlobals "range" = some none)
    (z11 : PySem.W.nsIn K mainGlobals "repr" = some none)
    (z12 : PySem.W.nsIn K mainGlobals "tuple" = some none)
    (y0 : PySem.W.nsIn K mainGlobals "MOST_SIZE" = some (some (.int 1000000000000 tk0)))
    (lR : K.lookup cR = some ⟨eR, dR, .fields vR, sR⟩) (eR11 : vR[11]? = some (.ref tP)) (hdR : PySem.W.codeHdIn K cR tP = true) (nR : K.lookup tP = none) (tR : h.get? tP = some ({ cls := .none, data := .fields #[] } : Obj)) :
    ∃ (fd : FuncData) (cs : List (Addr × Addr)) (sp : Sp), Vg.ReadyG l.prog w K mg h 63 10 fa "_law_script" fd cs sp := by
  have e := hfa.symm.trans (PySem.W.mg_of X G a18)
  cases e
  have F0 := fun_mk (st := s_is_int) l0 c0 k0
  have F1 := fun_mk (st := s_is_between) l1 c1 k1
  have F2 := fun_mk (st := s_is_number) l2 c2 k2
  have F3 := fun_mk (st := s_is_rect) l3 c3 k3
  have F4 := fun_mk (st := s_check_rect) l4 c4 k4
  have F5 := (⟨⟨_, _, _, _, _, _, _, _, _, _, rfl, l5, c5, .inl ⟨rfl, rfl⟩, .inr ⟨_, rfl, fun q m => by
    simp only [List.mem_cons, List.not_mem_nil, or_false] at m
    rcases m with rfl | rfl
    · exact ⟨_, kw5_across, rfl⟩
    · exact ⟨_, kw5_down, rfl⟩⟩⟩, k5⟩ : FunD K "__init__" "Mirror.__init__" (defArgs s_Mirror_init) (defBody s_Mirror_init) (defScope s_Mirror_init) [] [("across", .bl false), ("down", .bl false)] _ _)
  have F6 := fun_mk (st := s_Mirror_call) l6 c6 k6
  have F7 := fun_mk (st := s_Mirror_image) l7 c7 k7
  have F8 := fun_mk (st := s_Mirror_meets) l8 c8 k8
  have F9 := fun_mk (st := s_numbers_of) l9 c9 k9
  have F10 := fun_mk (st := s_spelled) l10 c10 k10
  have F11 := fun_mk (st := s_meeting) l11 c11 k11
  have F12 := fun_mk (st := s_cell) l12 c12 k12
  have F13 := fun_mk (st := s_pool) l13 c13 k13
  have F14 := fun_mk (st := s_draw) l14 c14 k14
  have F15 := fun_mk (st := s_caught) l15 c15 k15
  have F16 := fun_mk (st := s_great_right) l16 c16 k16
  have F17 := fun_mk (st := s_refused_right) l17 c17 k17
  have F18 := fun_mk (st := s_law) l18 c18 k18
  refine ⟨(PySem.W.fnOf "law" "law" (defArgs s_law) (defBody s_law) (defScope s_law) .none kV18 dc18 pm18 an18 cd18 ct18), [(cR, tP)], spLaw K [(tP, lamQ (envOfC "_law_refused_right" (defScope s_refused_right) 0 f17 (.ref cR)).qual)], ?_⟩
  have T : Txt K mg (⟨f0, (PySem.W.fnOf "is_int" "is_int" (defArgs s_is_int) (defBody s_is_int) (defScope s_is_int) .none kV0 dc0 pm0 an0 cd0 ct0),
    f1, (PySem.W.fnOf "is_between" "is_between" (defArgs s_is_between) (defBody s_is_between) (defScope s_is_between) .none kV1 dc1 pm1 an1 cd1 ct1),
    f2, (PySem.W.fnOf "is_number" "is_number" (defArgs s_is_number) (defBody s_is_number) (defScope s_is_number) .none kV2 dc2 pm2 an2 cd2 ct2),
    f3, (PySem.W.fnOf "is_rect" "is_rect" (defArgs s_is_rect) (defBody s_is_rect) (defScope s_is_rect) .none kV3 dc3 pm3 an3 cd3 ct3),
    f4, (PySem.W.fnOf "check_rect" "check_rect" (defArgs s_check_rect) (defBody s_check_rect) (defScope s_check_rect) .none kV4 dc4 pm4 an4 cd4 ct4),
    f5, (PySem.W.fnOf "__init__" "Mirror.__init__" (defArgs s_Mirror_init) (defBody s_Mirror_init) (defScope s_Mirror_init) .none (.ref kd5_) dc5 pm5 an5 cd5 ct5),
    f6, (PySem.W.fnOf "__call__" "Mirror.__call__" (defArgs s_Mirror_call) (defBody s_Mirror_call) (defScope s_Mirror_call) .none kV6 dc6 pm6 an6 cd6 ct6),
    f7, (PySem.W.fnOf "image" "Mirror.image" (defArgs s_Mirror_image) (defBody s_Mirror_image) (defScope s_Mirror_image) .none kV7 dc7 pm7 an7 cd7 ct7),
    f8, (PySem.W.fnOf "meets" "Mirror.meets" (defArgs s_Mirror_meets) (defBody s_Mirror_meets) (defScope s_Mirror_meets) .none kV8 dc8 pm8 an8 cd8 ct8),
    f9, (PySem.W.fnOf "numbers_of" "numbers_of" (defArgs s_numbers_of) (defBody s_numbers_of) (defScope s_numbers_of) .none kV9 dc9 pm9 an9 cd9 ct9),
    f10, (PySem.W.fnOf "spelled" "spelled" (defArgs s_spelled) (defBody s_spelled) (defScope s_spelled) .none kV10 dc10 pm10 an10 cd10 ct10),
    f11, (PySem.W.fnOf "meeting" "meeting" (defArgs s_meeting) (defBody s_meeting) (defScope s_meeting) .none kV11 dc11 pm11 an11 cd11 ct11),
    f12, (PySem.W.fnOf "_law_cell" "_law_cell" (defArgs s_cell) (defBody s_cell) (defScope s_cell) .none kV12 dc12 pm12 an12 cd12 ct12),
    f13, (PySem.W.fnOf "_law_pool" "_law_pool" (defArgs s_pool) (defBody s_pool) (defScope s_pool) .none kV13 dc13 pm13 an13 cd13 ct13),
    f14, (PySem.W.fnOf "_law_draw" "_law_draw" (defArgs s_draw) (defBody s_draw) (defScope s_draw) .none kV14 dc14 pm14 an14 cd14 ct14),
    f15, (PySem.W.fnOf "_law_caught" "_law_caught" (defArgs s_caught) (defBody s_caught) (defScope s_caught) .none kV15 dc15 pm15 an15 cd15 ct15),
    f16, (PySem.W.fnOf "_law_great_right" "_law_great_right" (defArgs s_great_right) (defBody s_great_right) (defScope s_great_right) .none kV16 dc16 pm16 an16 cd16 ct16),
    f17, (PySem.W.fnOf "_law_refused_right" "_law_refused_right" (defArgs s_refused_right) (defBody s_refused_right) (defScope s_refused_right) .none kV17 dc17 pm17 an17 (.ref cR) ct17),
    fa, (PySem.W.fnOf "law" "law" (defArgs s_law) (defBody s_law) (defScope s_law) .none kV18 dc18 pm18 an18 cd18 ct18),
    tk0,
    kk0,
    [kc0, kc1, kc2, kc3, kc4, kc5, kc6],
    kn0,
    kn1,
    kn2,
    kn3⟩ : Ad) := {
    F_is_int := F0
    B_is_int := F0.binds fun _ _ _ _ _ _ us hl => match us, hl with | [_], _ => rfl
    g_is_int := PySem.W.mg_of X G a0
    F_is_between := F1
    B_is_between := F1.binds fun _ _ _ _ _ _ us hl => match us, hl with | [_, _, _], _ => rfl
    g_is_between := PySem.W.mg_of X G a1
    F_is_number := F2
    B_is_number := F2.binds fun _ _ _ _ _ _ us hl => match us, hl with | [_], _ => rfl
    g_is_number := PySem.W.mg_of X G a2
    F_is_rect := F3
    B_is_rect := F3.binds fun _ _ _ _ _ _ us hl => match us, hl with | [_], _ => rfl
    g_is_rect := PySem.W.mg_of X G a3
    F_check_rect := F4
    B_check_rect := F4.binds fun _ _ _ _ _ _ us hl => match us, hl with | [_], _ => rfl
    g_check_rect := PySem.W.mg_of X G a4
    F_Mirror_init := F5
    F_Mirror_call := F6
    B_Mirror_call := F6.binds fun _ _ _ _ _ _ us hl => match us, hl with | [_, _, _], _ => rfl
    F_Mirror_image := F7
    B_Mirror_image := F7.binds fun _ _ _ _ _ _ us hl => match us, hl with | [_, _], _ => rfl
    F_Mirror_meets := F8
    B_Mirror_meets := F8.binds fun _ _ _ _ _ _ us hl => match us, hl with | [_, _, _], _ => rfl
    F_numbers_of := F9
    B_numbers_of := F9.binds fun _ _ _ _ _ _ us hl => match us, hl with | [_], _ => rfl
    g_numbers_of := PySem.W.mg_of X G a9
    F_spelled := F10
    B_spelled := F10.binds fun _ _ _ _ _ _ us hl => match us, hl with | [_], _ => rfl
    g_spelled := PySem.W.mg_of X G a10
    F_meeting := F11
    B_meeting := F11.binds fun _ _ _ _ _ _ us hl => match us, hl with | [_, _, _, _], _ => rfl
    g_meeting := PySem.W.mg_of X G a11
    F_cell := F12
    B_cell := F12.binds fun _ _ _ _ _ _ us hl => match us, hl with | [_, _], _ => rfl
    g_cell := PySem.W.mg_of X G a12
    F_pool := F13
    B_pool := F13.binds fun _ _ _ _ _ _ us hl => match us, hl with | [_], _ => rfl
    g_pool := PySem.W.mg_of X G a13
    F_draw := F14
    B_draw := F14.binds fun _ _ _ _ _ _ us hl => match us, hl with | [_, _], _ => rfl
    g_draw := PySem.W.mg_of X G a14
    F_caught := F15
    B_caught := F15.binds fun _ _ _ _ _ _ us hl => match us, hl with | [_], _ => rfl
    g_caught := PySem.W.mg_of X G a15
    F_great_right := F16
    B_great_right := F16.binds fun _ _ _ _ _ _ us hl => match us, hl with | [_], _ => rfl
    g_great_right := PySem.W.mg_of X G a16
    F_refused_right := F17
    B_refused_right := F17.binds fun _ _ _ _ _ _ us hl => match us, hl with | [_], _ => rfl
    g_refused_right := PySem.W.mg_of X G a17
    F_law := F18
    B_law := F18.binds fun _ _ _ _ _ _ us hl => match us, hl with | [_], _ => rfl
    g_law := PySem.W.mg_of X G a18
    g_Mirror := PySem.W.mg_of X G og0
    S_Mirror := clsKB_ok os0
    M_Mirror := ⟨om0, a5, fn5, op0⟩
    O_Mirror := ⟨a6, fn6, fi6⟩
    P_Mirror_image := ⟨a7, fn7, k7⟩
    P_Mirror_meets := ⟨a8, fn8, k8⟩
    N_Mirror_x := on0_x
    N_Mirror_y := on0_y
    N_Mirror_across := on0_across
    N_Mirror_down := on0_down
    K_Mirror_image_rect := kb_Mirror_image F7
    K_Mirror_meets_rect_other_mirror := kb_Mirror_meets F8
    m_ValueError := PySem.W.mg_none_of X G z0
    m_abs := PySem.W.mg_none_of X G z1
    m_all := PySem.W.mg_none_of X G z2
    m_bool := PySem.W.mg_none_of X G z3
    m_divmod := PySem.W.mg_none_of X G z4
    m_int := PySem.W.mg_none_of X G z5
    m_isinstance := PySem.W.mg_none_of X G z6
    m_len := PySem.W.mg_none_of X G z7
    m_max := PySem.W.mg_none_of X G z8
    m_min := PySem.W.mg_none_of X G z9
    m_range := PySem.W.mg_none_of X G z10
    m_repr := PySem.W.mg_none_of X G z11
    m_tuple := PySem.W.mg_none_of X G z12
    g_MOST_SIZE := PySem.W.mg_of X G y0
    g_InvalidNumber := PySem.W.mg_of X G ca0
    g_InvalidRect := PySem.W.mg_of X G ca1
    g_InvalidColour := PySem.W.mg_of X G ca2
    g_InvalidPairs := PySem.W.mg_of X G ca3
    g_FormError := PySem.W.mg_of X G ca4
    g_StateError := PySem.W.mg_of X G ca5
    g_LimitError := PySem.W.mg_of X G ca6
    C_InvalidNumber := Vm.clB_ok cb0
    I_InvalidNumber := ⟨_, _, .none, .none, _, _, _, _, _, _, _, _, _, _, _, _, cl0, cc0⟩
    C_InvalidRect := Vm.clB_ok cb1
    I_InvalidRect := ⟨_, _, .none, .none, _, _, _, _, _, _, _, _, _, _, _, _, cl1, cc1⟩
    C_InvalidColour := Vm.clB_ok cb2
    I_InvalidColour := ⟨_, _, .none, .none, _, _, _, _, _, _, _, _, _, _, _, _, cl2, cc2⟩
    C_InvalidPairs := Vm.clB_ok cb3
    I_InvalidPairs := ⟨_, _, .none, .none, _, _, _, _, _, _, _, _, _, _, _, _, cl3, cc3⟩
    all_F := exB_ok ch_all_F
    all_I := isB_ok ch_all_I
    all_C := caB_ok ch_all_C }
  exact {
    tab := fun p m => by rw [List.mem_singleton.mp m]; exact tR
    out := fun p m => by rw [List.mem_singleton.mp m]; exact nR
    code := fun p m => by rw [List.mem_singleton.mp m]; exact PySem.W.codeHd_of_K X hdR
    bind := fun s v => .of_eq rfl
    here := fun H a ns hl ht hS => ⟨a, ns, rfl, hS, hl, fun q m => by rw [List.mem_singleton.mp m]; exact LamX.TabS.nil (ht _ (List.mem_singleton.mpr rfl)), fun _ => rfl⟩
    fn := fun base _ _ TB => ok_law T rfl rfl (TB _ (List.mem_singleton.mpr rfl)) }
end K08
open PySem PySem.W PyProof.Rows
set_option maxHeartbeats 0 in
theorem PySem.Challenge.cw_allscreens_k08_mirrors_great_and_refused_holds : PySem.Challenge.rw_allscreens_k08_mirrors_great_and_refused.Holds := by
  w_on; o_law; k_head; (case hw => w_witness2)
  k_fill
  refine Vg.walk_ofTG (l := PySem.Challenge.rw_allscreens_k08_mirrors_great_and_refused) (n := 63) (k := 10) (x := "_law_script") rfl (by decide) rfl ⟨⟨rfl, by decide, by decide⟩, rfl⟩ (fun w h Y => PySem.W.km_in_of Y) ?F
  case F =>
    intro w mg fa h Y KX G hmg
    refine' K08.all_mk (l := PySem.Challenge.rw_allscreens_k08_mirrors_great_and_refused) (w := w) KX G hmg ?ca0 ?ca1 ?ca2 ?ca3 ?ca4 ?ca5 ?ca6 ?ci0 ?cl0 ?cc0 ?cb0 ?ci1 ?cl1 ?cc1 ?cb1 ?ci2 ?cl2 ?cc2 ?cb2 ?ci3 ?cl3 ?cc3 ?cb3 ?ch_all_F ?ch_all_I ?ch_all_C ?og0 ?os0 ?om0 ?op0 ?on0_x ?on0_y ?on0_across ?on0_down ?a0 ?l0 ?c0 ?k0 ?a1 ?l1 ?c1 ?k1 ?a2 ?l2 ?c2 ?k2 ?a3 ?l3 ?c3 ?k3 ?a4 ?l4 ?c4 ?k4 ?a5 ?fn5 ?fi5 ?l5 ?c5 ?k5 ?kw5_across ?kw5_down ?a6 ?fn6 ?fi6 ?l6 ?c6 ?k6 ?a7 ?fn7 ?fi7 ?l7 ?c7 ?k7 ?a8 ?fn8 ?fi8 ?l8 ?c8 ?k8 ?a9 ?l9 ?c9 ?k9 ?a10 ?l10 ?c10 ?k10 ?a11 ?l11 ?c11 ?k11 ?a12 ?l12 ?c12 ?k12 ?a13 ?l13 ?c13 ?k13 ?a14 ?l14 ?c14 ?k14 ?a15 ?l15 ?c15 ?k15 ?a16 ?l16 ?c16 ?k16 ?a17 ?l17 ?c17 ?k17 ?a18 ?l18 ?c18 ?k18 ?z0 ?z1 ?z2 ?z3 ?z4 ?z5 ?z6 ?z7 ?z8 ?z9 ?z10 ?z11 ?z12 ?y0 ?lR ?eR11 ?hdR ?nR ?tR
    (case ca0 => k_is); (case ca1 => k_is); (case ca2 => k_is); (case ca3 => k_is); (case ca4 => k_is); (case ca5 => k_is); (case ca6 => k_is); (case ci0 => k_is); (case cl0 => k_is); (case cc0 => k_is); (case cb0 => kernel_rfl); (case ci1 => k_is); (case cl1 => k_is); (case cc1 => k_is); (case cb1 => kernel_rfl); (case ci2 => k_is); (case cl2 => k_is); (case cc2 => k_is); (case cb2 => kernel_rfl); (case ci3 => k_is); (case cl3 => k_is); (case cc3 => k_is); (case cb3 => kernel_rfl); (case ch_all_F => kernel_rfl); (case ch_all_I => kernel_rfl); (case ch_all_C => kernel_rfl); (case og0 => k_is); (case os0 => kernel_rfl); (case om0 => kernel_rfl); (case op0 => k_is); (case on0_x => kernel_rfl); (case on0_y => kernel_rfl); (case on0_across => kernel_rfl); (case on0_down => kernel_rfl); (case a0 => k_is); (case l0 => k_is); (case c0 => k_is); (case k0 => k_is); (case a1 => k_is); (case l1 => k_is); (case c1 => k_is); (case k1 => k_is); (case a2 => k_is); (case l2 => k_is); (case c2 => k_is); (case k2 => k_is); (case a3 => k_is); (case l3 => k_is); (case c3 => k_is); (case k3 => k_is); (case a4 => k_is); (case l4 => k_is); (case c4 => k_is); (case k4 => k_is); (case a5 => k_is); (case fn5 => k_is); (case fi5 => k_is); (case l5 => k_is); (case c5 => k_is); (case k5 => k_is); (case kw5_across => k_is); (case kw5_down => k_is); (case a6 => k_is); (case fn6 => k_is); (case fi6 => k_is); (case l6 => k_is); (case c6 => k_is); (case k6 => k_is); (case a7 => k_is); (case fn7 => k_is); (case fi7 => k_is); (case l7 => k_is); (case c7 => k_is); (case k7 => k_is); (case a8 => k_is); (case fn8 => k_is); (case fi8 => k_is); (case l8 => k_is); (case c8 => k_is); (case k8 => k_is); (case a9 => k_is); (case l9 => k_is); (case c9 => k_is); (case k9 => k_is); (case a10 => k_is); (case l10 => k_is); (case c10 => k_is); (case k10 => k_is); (case a11 => k_is); (case l11 => k_is); (case c11 => k_is); (case k11 => k_is); (case a12 => k_is); (case l12 => k_is); (case c12 => k_is); (case k12 => k_is); (case a13 => k_is); (case l13 => k_is); (case c13 => k_is); (case k13 => k_is); (case a14 => k_is); (case l14 => k_is); (case c14 => k_is); (case k14 => k_is); (case a15 => k_is); (case l15 => k_is); (case c15 => k_is); (case k15 => k_is); (case a16 => k_is); (case l16 => k_is); (case c16 => k_is); (case k16 => k_is); (case a17 => k_is); (case l17 => k_is); (case c17 => k_is); (case k17 => k_is); (case a18 => k_is); (case l18 => k_is); (case c18 => k_is); (case k18 => k_is); (case z0 => k_is); (case z1 => k_is); (case z2 => k_is); (case z3 => k_is); (case z4 => k_is); (case z5 => k_is); (case z6 => k_is); (case z7 => k_is); (case z8 => k_is); (case z9 => k_is); (case z10 => k_is); (case z11 => k_is); (case z12 => k_is); (case y0 => k_is); (case lR => k_is); (case eR11 => rfl); (case hdR => kernel_rfl); (case nR => kernel_rfl); (case tR => exact PySem.W.km_tabs_of Y _ (List.mem_cons_self ..))

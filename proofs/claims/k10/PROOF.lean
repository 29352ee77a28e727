import PyProof.Rows.All
import Wide.All
import OpenK.AllK
import Wide.FinOn
import HandS.ForMost
import HandS.IsInst
import HandS.WideBits
import HandS.TupLe
import HandS.TupAny
import KE.KDictPairs
import KE.KDictWalk
import HandS.Dict
import HandS.Keys
import HandS.DictTup
import HandS.SortInts
import HandS.SortRule
import HandS.Iter
import HandS.Strs
import HandS.SetBool
import HandS.Zip
import HandS.TupSets
import HandS.Small
import HandS.Star
import HandS.NoneIn
import HandS.Deep
import HandS.Exc
import HandS.TryOnly
import HandS.ExcInit
import HandS.Lambda
import HandS.EndTab
import KE.KTryMore
import KE.KExcIs
import HandS.ExcValue
import KE.KExcInit
import PySem.Challenge.RW_allscreens_k10_whole_tables_that_keep_co
set_option Elab.async false
set_option linter.all false
set_option maxRecDepth 100000
set_option maxHeartbeats 4000000
/-! ## tables of pairs: what they turn -/
namespace Tb
open PySem PySem.Spec PyProof.Rows L2
abbrev Tb := List (Int × Int)
def look : Tb → Int → Int
  | [], c => c
  | p :: L, c => if p.1 = c then p.2 else look L c
abbrev Asc (L : Tb) : Prop := L.Pairwise fun p q => p.1 < q.1
def Col (c : Int) : Prop := 0 ≤ c ∧ c ≤ 1000000000
def Good (L : Tb) : Prop := Asc L ∧ ∀ p ∈ L, Col p.1 ∧ Col p.2
theorem look_mem : ∀ {L : Tb}, Asc L → ∀ {p : Int × Int}, p ∈ L → look L p.1 = p.2
  | q :: L, h, p, m => by
    obtain ⟨h1, h2⟩ := List.pairwise_cons.mp h
    rcases List.mem_cons.mp m with e | m
    · rw [e]; exact if_pos rfl
    · have := h1 p m
      exact (if_neg (by omega)).trans (look_mem h2 m)
theorem look_out : ∀ {L : Tb} {c : Int}, (∀ p ∈ L, p.1 ≠ c) → look L c = c
  | [], _, _ => rfl
  | q :: L, c, h => (if_neg (h q (List.mem_cons_self ..))).trans (look_out fun p m => h p (List.mem_cons_of_mem _ m))
theorem look_col : ∀ {L : Tb}, (∀ p ∈ L, Col p.1 ∧ Col p.2) → ∀ {c : Int}, Col c → Col (look L c)
  | [], _, _, hc => hc
  | q :: L, h, c, hc => by
    unfold look
    split
    · exact (h q (List.mem_cons_self ..)).2
    · exact look_col (fun p m => h p (List.mem_cons_of_mem _ m)) hc
theorem asc_ext : ∀ {L M : Tb}, Asc L → Asc M → (∀ p, p ∈ L ↔ p ∈ M) → L = M
  | [], [], _, _, _ => rfl
  | [], q :: M, _, _, h => absurd ((h q).mpr (List.mem_cons_self ..)) (by simp)
  | p :: L, [], _, _, h => absurd ((h p).mp (List.mem_cons_self ..)) (by simp)
  | p :: L, q :: M, hl, hm, h => by
    obtain ⟨a1, a2⟩ := List.pairwise_cons.mp hl
    obtain ⟨b1, b2⟩ := List.pairwise_cons.mp hm
    have e : p = q := by
      rcases List.mem_cons.mp ((h p).mp (List.mem_cons_self ..)) with e | m
      · exact e
      · rcases List.mem_cons.mp ((h q).mpr (List.mem_cons_self ..)) with e | m'
        · exact e.symm
        · have := b1 p m
          have := a1 q m'
          omega
    subst e
    rw [asc_ext a2 b2 fun r => ?_]
    constructor
    · intro m
      rcases List.mem_cons.mp ((h r).mp (List.mem_cons_of_mem _ m)) with e | m'
      · have := a1 r m
        rw [e] at this
        omega
      · exact m'
    · intro m
      rcases List.mem_cons.mp ((h r).mpr (List.mem_cons_of_mem _ m)) with e | m'
      · have := b1 r m
        rw [e] at this
        omega
      · exact m'
/-! ### as dicts -/
def kvT (L : Tb) : List (Key × V) := L.map fun p => (.inl p.1, .int p.2)
theorem val_merge (c : Int) : ∀ (L : Tb) (acc : List (Key × V)), Asc L → valV (mergeK acc (kvT L)) (.inl c) = if (∃ p ∈ L, p.1 = c) then some (.int (look L c)) else valV acc (.inl c)
  | [], acc, _ => by
    rw [if_neg (by simp)]
    rfl
  | q :: L, acc, h => by
    obtain ⟨h1, h2⟩ := List.pairwise_cons.mp h
    show valV (mergeK (putK acc (.inl q.1) (.int q.2)) (kvT L)) (.inl c) = _
    rw [val_merge c L _ h2, valV_put]
    by_cases e : q.1 = c
    · have n : ¬ ∃ p ∈ L, p.1 = c := fun ⟨p, m, z⟩ => by have := h1 p m; omega
      rw [if_neg n, if_pos (by rw [e]), if_pos ⟨q, List.mem_cons_self .., e⟩]
      show _ = some (V.int (if q.1 = c then q.2 else look L c))
      rw [if_pos e]
    · have k : (∃ p ∈ q :: L, p.1 = c) ↔ ∃ p ∈ L, p.1 = c := ⟨fun ⟨p, m, z⟩ => by
        rcases List.mem_cons.mp m with y | m
        · exact absurd (y ▸ z) e
        · exact ⟨p, m, z⟩, fun ⟨p, m, z⟩ => ⟨p, List.mem_cons_of_mem _ m, z⟩⟩
      rw [if_neg (c := (Sum.inl c : Key) = Sum.inl q.1) (fun z => e (Sum.inl.inj z).symm)]
      have lk : look (q :: L) c = look L c := if_neg e
      rw [lk]
      by_cases m : ∃ p ∈ L, p.1 = c
      · rw [if_pos m, if_pos (k.mpr m)]
      · rw [if_neg m, if_neg fun z => m (k.mp z)]
theorem dict_look {L : Tb} (h : Asc L) (c : Int) : (valV (mergeK [] (kvT L)) (.inl c)).getD (.int c) = .int (look L c) := by
  rw [val_merge c L [] h]
  by_cases m : ∃ p ∈ L, p.1 = c
  · rw [if_pos m]; rfl
  · rw [if_neg m, look_out fun p mp e => m ⟨p, mp, e⟩]; rfl
theorem put_kvT (F : Int → Int) (c : Int) (acc : Tb) (hv : ∀ p ∈ acc, p.2 = F p.1) : putK (kvT acc) (.inl c) (.int (F c)) = if c ∈ acc.map (·.1) then kvT acc else kvT (acc ++ [(c, F c)]) := by
  unfold putK
  by_cases m : c ∈ acc.map (·.1)
  · rw [if_pos m, if_pos]
    · unfold kvT
      rw [List.map_map]
      refine List.map_congr_left fun p mp => ?_
      show (if (Sum.inl p.1 : Key) = Sum.inl c then _ else _) = _
      by_cases e : p.1 = c
      · rw [if_pos (by rw [e])]
        show ((Sum.inl p.1 : Key), V.int (F c)) = (Sum.inl p.1, V.int p.2)
        rw [hv p mp, e]
      · rw [if_neg fun z => e (Sum.inl.inj z)]
    · obtain ⟨p, mp, e⟩ := List.mem_map.mp m
      exact List.any_eq_true.mpr ⟨_, List.mem_map.mpr ⟨p, mp, rfl⟩, decide_eq_true (by rw [← e])⟩
  · rw [if_neg m, if_neg]
    · unfold kvT
      rw [List.map_append]
      rfl
    · intro z
      obtain ⟨kv, mk, e⟩ := List.any_eq_true.mp z
      obtain ⟨p, mp, rfl⟩ := List.mem_map.mp mk
      exact m (List.mem_map.mpr ⟨p, mp, Sum.inl.inj (of_decide_eq_true e)⟩)
theorem items_of (F : Int → Int) : ∀ (T : List Int) (acc : Tb), (acc.map (·.1)).Nodup → (∀ p ∈ acc, p.2 = F p.1) →
    ∃ R : Tb, mergeK (kvT acc) (kvT (T.map fun h => (h, F h))) = kvT R ∧ (R.map (·.1)).Nodup ∧ (∀ p ∈ R, p.2 = F p.1) ∧ (∀ c, c ∈ R.map (·.1) ↔ c ∈ acc.map (·.1) ∨ c ∈ T) ∧ R.length ≤ acc.length + T.length
  | [], acc, nd, hv => ⟨acc, rfl, nd, hv, fun c => by simp, by simp⟩
  | h :: T, acc, nd, hv => by
    have e : mergeK (kvT acc) (kvT ((h :: T).map fun h => (h, F h))) = mergeK (putK (kvT acc) (.inl h) (.int (F h))) (kvT (T.map fun h => (h, F h))) := rfl
    rw [e, put_kvT F h acc hv]
    by_cases m : h ∈ acc.map (·.1)
    · rw [if_pos m]
      obtain ⟨R, r1, r2, r3, r4, r5⟩ := items_of F T acc nd hv
      refine ⟨R, r1, r2, r3, fun c => ?_, by simp; omega⟩
      rw [r4 c, List.mem_cons]
      constructor
      · rintro (z | z)
        · exact .inl z
        · exact .inr (.inr z)
      · rintro (z | z | z)
        · exact .inl z
        · exact .inl (z ▸ m)
        · exact .inr z
    · rw [if_neg m]
      obtain ⟨R, r1, r2, r3, r4, r5⟩ := items_of F T (acc ++ [(h, F h)]) (by
        rw [List.map_append]
        refine List.nodup_append.mpr ⟨nd, by simp, fun a ma b mb e => ?_⟩
        have : b = h := by simpa using mb
        exact m (this ▸ e ▸ ma)) (fun p mp => by
        rcases List.mem_append.mp mp with z | z
        · exact hv p z
        · rw [List.mem_singleton.mp z])
      refine ⟨R, r1, r2, r3, fun c => ?_, by simp at r5 ⊢; omega⟩
      rw [r4 c, List.map_append, List.mem_append, List.mem_cons]
      constructor
      · rintro ((z | z) | z)
        · exact .inl z
        · exact .inr (.inl (by simpa using z))
        · exact .inr (.inr z)
      · rintro (z | z | z)
        · exact .inl (.inl z)
        · exact .inl (.inr (by simpa using z))
        · exact .inr z
/-- ascending by the pairs, the first ones different: ascending by the first ones -/
theorem asc_of {R : Tb} (h : R.Pairwise fun p q => p.1 < q.1 ∨ p.1 = q.1 ∧ p.2 ≤ q.2) (nd : (R.map (·.1)).Nodup) : Asc R := by
  have nd' : R.Pairwise fun p q => p.1 ≠ q.1 := List.pairwise_map.mp nd
  refine (h.and nd').imp fun {p q} z => ?_
  omega
/-! ### joined -/
def comb (F : Int → Int) (ns : List Int) : Tb := (ns.filter fun c => decide (F c ≠ c)).map fun c => (c, F c)
theorem mem_comb {F : Int → Int} {ns : List Int} {p : Int × Int} : p ∈ comb F ns ↔ p.1 ∈ ns ∧ p.2 = F p.1 ∧ F p.1 ≠ p.1 := by
  unfold comb
  rw [List.mem_map]
  constructor
  · rintro ⟨c, mc, rfl⟩
    obtain ⟨m, d⟩ := List.mem_filter.mp mc
    exact ⟨m, rfl, of_decide_eq_true d⟩
  · rintro ⟨m, e, d⟩
    exact ⟨p.1, List.mem_filter.mpr ⟨m, decide_eq_true d⟩, by rw [← e]⟩
theorem comb_asc {F : Int → Int} {ns : List Int} (h : ns.Pairwise (· < ·)) : Asc (comb F ns) := List.pairwise_map.mpr (h.filter _)
end Tb
/-! ## tuples that are known to be bare; dict of such a tuple of pairs; the items of a dict, sorted -/
namespace Tb
open PySem PySem.Spec PyProof.Rows L2
section
variable {X : Cx}
/-- tuple of a list: the new one has no dict of its own -/
theorem call_tupleF : CallR X (.type "tuple") (fun vs H Q => ∃ p ys, vs = [.ref p] ∧ SqL X.K H p ys ∧ ∀ l o, H l = none → o.dict = none → Q (.ref l) (upd H l (.frz o (.tup ys)))) := by
  intro pins s σ H vs us Q I rv ⟨p, ys, ev, sq, k⟩
  subst ev
  obtain ⟨u, rfl, ru⟩ := vals1 rv
  cases ru
  obtain ⟨its, vis, pl, hz⟩ := I.list sq
  have hln := vis.length
  refine call_tuple_list pl.isList (fun g kp => ?_) (by simp only [List.size_toArray]; omega)
  have J : Inv X pins σ H { s with heap := g } := I.kept (t' := s.toks) kp
  have J2 : Inv X pins σ (upd H g.objs.size (.frz { cls := .type "tuple", data := .seq its.toArray } (.tup ys))) { s with heap := g.push { cls := .type "tuple", data := .seq its.toArray } } :=
    J.laid (t' := s.toks) (fun b o e => Heap.get?_push_of_some _ e) (Nat.le_refl _) ⟨Heap.get?_push_size _ rfl, hz, its, vis, IsTup.new _ _⟩
  exact ⟨.ref g.objs.size, _, J2, rfl, k _ _ (J.hok.fresh (Nat.le_refl _)) rfl⟩
/-- what dict() finds in a tuple of pairs -/
theorem prs_of {pins : List (Addr × Obj)} {σ : L2.St} {H : Hp} {s : Shared} (I : Inv X pins σ H s) : ∀ {ps : List Addr} {kvs : List (Key × V)}, Paired (fun p kv => SqT X.K H p [kV kv.1, kv.2]) ps kvs →
    ∃ (prs : List (Key × Value)) (us : List (Value × Value)), KV kvs prs ∧ us.length = ps.length ∧ prs.length = ps.length ∧
      ∀ (j : Nat) (k v : Value), us[j]? = some (k, v) → ∃ (b : Addr) (kk : Key), ps[j]? = some b ∧ s.heap.IsTuple b #[k, v] ∧ prs[j]? = some (kk, v) ∧ keyIs kk k = true
  | _, _, .nil => ⟨[], [], .nil, rfl, rfl, fun j k v e => by simp at e⟩
  | _, _, .cons (a := p) (b := kv) h t => by
    obtain ⟨prs, us, r, l1, l2, at'⟩ := prs_of I t
    obtain ⟨its, rv, pt, _⟩ := I.tuple h
    obtain ⟨u, y, rfl, ru, ry⟩ := vals2 rv
    refine ⟨(kv.1, y) :: prs, (u, y) :: us, .cons ⟨rfl, ry⟩ r, by simp [l1], by simp [l2], fun j k v e => ?_⟩
    cases j with
    | zero =>
      obtain ⟨rfl, rfl⟩ := Prod.mk.inj (Option.some.inj e)
      exact ⟨p, kv.1, rfl, pt, rfl, kV_is (P := X.prog) (w := X.w) ru⟩
    | succ j =>
      obtain ⟨b, kk, e1, e2, e3, e4⟩ := at' j k v (by simpa using e)
      exact ⟨b, kk, by simpa using e1, e2, by simpa using e3, e4⟩
/-- dict(t), t a bare tuple of pairs -/
theorem call_dictT (hcalm : X.calm = true) : CallR X (.type "dict") (fun vs H Q => ∃ (a : Addr) (o : Obj) (ps : List Addr) (kvs : List (Key × V)), vs = [.ref a] ∧ o.dict = none ∧ H a = some (.frz o (.tup (ps.map V.ref))) ∧
    Paired (fun p kv => SqT X.K H p [kV kv.1, kv.2]) ps kvs ∧ ∀ p, H p = none → Q (.ref p) (upd H p (.dK (mergeK [] kvs)))) := by
  intro pins s σ H vs us Q I rv ⟨a, o, ps, kvs, ev, od, ha, hp, q⟩
  subst ev
  obtain ⟨u, rfl, ru⟩ := vals1 rv
  cases ru
  obtain ⟨ho, hz, its, vis, o', ho', hc, n, hd⟩ := I.hok a _ ha
  rw [ho] at ho'
  cases ho'
  have ei := refs_at vis
  subst ei
  rw [List.length_map] at hz
  obtain ⟨prs, us, r, l1, l2, at'⟩ := prs_of I hp
  refine PySem.call_dict_pairs (knd := mixKind X.prog X.w) (kvs := prs) (PairArg.tuple (prog := X.prog) (w := X.w) a (ps.map Value.ref).toArray (fun j => ps.getD j 0) us) (I.ok.hd hcalm) ⟨⟨o, n, ho, hc, od, hd⟩, by simp [l1], fun j k v e => ?_⟩ ⟨by rw [l1, l2], fun i k v e => ?_⟩ (by rw [l1]; exact hz) fun g tk hg kp => ?_
  · obtain ⟨b, kk, e1, e2, _, _⟩ := at' j k v e
    have eb : ps.getD j 0 = b := by rw [List.getD_eq_getElem?_getD, e1]; rfl
    exact ⟨(by simp [e1] : (ps.map Value.ref).toArray[j]? = some (.ref b)).trans (by show _ = some (Value.ref (ps.getD j 0)); rw [eb]), .inl (show s.heap.IsTuple (ps.getD j 0) #[k, v] from eb.symm ▸ e2)⟩
  · obtain ⟨b, kk, _, _, e3, e4⟩ := at' i k v e
    exact ⟨kk, e3, e4⟩
  · have big : (s.heap.objs.size == sysModules) = false := beq_eq_false_iff_ne.mpr (Nat.ne_of_gt I.big)
    have ln : (mergeK [] kvs).length ≤ sizeLine := by
      have e1 := length_mergeK kvs []
      have e2 := r.length
      simp only [List.length_nil] at e1
      omega
    exact ⟨.ref s.heap.objs.size, _, I.laid (t' := tk) (fun b o e => kp b o (by simp) e) (Nat.le_refl _) (show ObjOk X.prog X.w _ _ _ (.dK (mergeK [] kvs)) from ⟨ln, big, merged [] prs, KV.merge r .nil, hg⟩), rfl, q _ (I.hok.fresh (Nat.le_refl _))⟩
end
end Tb
namespace Tb
open PySem PySem.Spec PyProof.Rows L2 L2.DX
section
variable {X : Cx}
/-- d.items(), the keys numbers or texts -/
theorem mt_itemsK : MtR X "dict.items" (fun x vs H Q => ∃ (a : Addr) (kvs : List (Key × V)), x = .ref a ∧ vs = [] ∧ H a = some (.dK kvs) ∧ ∀ p, H p = none → Q (.ref p) (upd H p (itemsO p a))) := by
  intro pins s σ H x vs v us Q I rx rv ⟨a, kvs, ex, ev, ha, q⟩
  subst ex ev
  cases rx
  cases rv
  obtain ⟨z, nd, vs, _, o, es, ep, ho, hx, hdat, _⟩ := I.hok a _ ha
  exact DT.callItems (es := es) (ep := ep) nd ⟨o, ho, hx, hdat⟩
    ⟨.ref s.heap.objs.size, _, I.laid (t' := s.toks) (fun b u e => Heap.get?_push_of_some _ e) (Nat.le_refl _) (itemsO_ok (Heap.get?_push_size _ rfl)), rfl, q _ (I.hok.fresh (Nat.le_refl _))⟩
/-- what the entries of a dict of numbers are -/
theorem ent_of {P : Program} {w : World} : ∀ {R : Tb} {vs : List (Key × Value)} {es : List DictEntry}, KV (kvT R) vs → Pairs (mixKind P w) es vs →
    es.length = R.length ∧ ∀ (j : Nat) (e : DictEntry), es[j]? = some e → ∃ (p : Int × Int) (t t' : Tok), R[j]? = some p ∧ e.key = .int p.1 t ∧ e.val = .int p.2 t'
  | [], _, _, kv, ps => by
    cases kv
    cases ps
    exact ⟨rfl, fun j e h => by simp at h⟩
  | p :: R, _, _, kv, ps => by
    cases kv with
    | cons h t =>
      cases ps with
      | cons h1 h2 h3 =>
        obtain ⟨l, at'⟩ := ent_of t h3
        refine ⟨by simp [l], fun j e he => ?_⟩
        cases j with
        | zero =>
          obtain rfl := Option.some.inj he
          obtain ⟨tv, ev⟩ := h.2
          have ek := h1
          rw [← h.1] at ek
          obtain ⟨tk, e2⟩ := relV_key (show keyIs (Sum.inl p.1) _ = true from ek)
          exact ⟨p, tk, tv, rfl, e2, h2.trans ev⟩
        | succ j => exact at' j e (by simpa using he)

theorem LiI_refs : ∀ as : List Addr, Vals (as.map V.ref) (as.map Value.ref)
  | [] => .nil
  | _ :: as => .cons rfl (LiI_refs as)
def numb (as : List Addr) (R : Tb) : Value → Int × Int
  | .ref b => ((as.zip R).lookup b).getD (0, 0)
  | _ => (0, 0)
theorem look_zip : ∀ {as : List Addr} {R : Tb} {j : Nat} {b : Addr} {p : Int × Int}, as.Nodup → as[j]? = some b → R[j]? = some p → (as.zip R).lookup b = some p
  | a :: as, r :: R, 0, b, p, _, h1, h2 => by
    cases h1
    cases h2
    simp
  | a :: as, r :: R, j + 1, b, p, nd, h1, h2 => by
    have n := List.nodup_cons.mp nd
    have m : b ∈ as := List.mem_of_getElem? (by simpa using h1)
    have ne : (b == a) = false := beq_eq_false_iff_ne.mpr fun e => n.1 (e ▸ m)
    rw [List.zip_cons_cons, List.lookup_cons, ne]
    exact look_zip (j := j) n.2 (by simpa using h1) (by simpa using h2)
  | [], _, j, _, _, _, h1, _ => by simp at h1
  | _ :: _, [], j, _, _, _, _, h2 => by simp at h2
abbrev rItSorted : List V → Hp → VK → Prop := fun vs H Q => ∃ (p a : Addr) (R : Tb), vs = [.ref p] ∧ H p = some (itemsO p a) ∧ H a = some (.dK (kvT R)) ∧
  ∀ (G : Hp) (l : Addr) (zs : List (Addr × (Int × Int))), (∀ b o, H b = some o → G b = some o) → H l = none → (zs.map (·.2)).Perm R → (zs.map (·.2)).Pairwise (fun p q => p.1 < q.1 ∨ p.1 = q.1 ∧ p.2 ≤ q.2) →
    G l = some (.lst (zs.map fun z => V.ref z.1)) → (∀ z ∈ zs, G z.1 = some (.tup [.int z.2.1, .int z.2.2])) → Q (.ref l) G
theorem cr_itSorted (hc : X.calm = true) : CallR X (.builtin "sorted") rItSorted := by
  intro pins s σ H vs us Q I rv ⟨p, a, R, ev, hp, ha, q⟩
  subst ev
  obtain rfl := Vals.ref1 rv
  have view : s.heap.IsItemsView p a := (show ObjOk X.prog X.w H s.heap p (itemsO p a) from I.hok p _ hp).1
  obtain ⟨hz, nd, vs', kv, o, es, ep, ho, hx, hdat, _, hps, _⟩ := I.hok a _ ha
  obtain ⟨elen, eat⟩ := ent_of kv hps
  rw [Array.length_toList] at elen
  have Rz : R.length ≤ sizeLine := by
    have := hz
    unfold kvT at this
    rwa [List.length_map] at this
  refine DT.sortedI (es := es) (ep := ep) (I.ok.hd hc) view ⟨o, ho, hx, hdat⟩ (by rw [elen]; exact Rz) fun g tk as gk glt al gm => ?_
  have alen : as.length = R.length := al.trans elen
  have and' : as.Nodup := List.Pairwise.imp (fun h => Nat.ne_of_lt h) gm.rise
  have mk : ∀ (j : Nat) (b : Addr), as[j]? = some b → ∃ (r : Int × Int) (t t' : Tok), R[j]? = some r ∧ g.get? b = some { cls := .type "tuple", data := .seq #[.int r.1 t, .int r.2 t'] } := fun j b hj => by
    obtain ⟨e, he, hg⟩ := gm.pairs j b hj
    obtain ⟨r, t, t', h1, h2, h3⟩ := eat j e (by rw [Array.getElem?_toList]; exact he)
    exact ⟨r, t, t', h1, by rw [hg, h2, h3]⟩
  have num : ∀ (j : Nat) (b : Addr) (r : Int × Int), as[j]? = some b → R[j]? = some r → numb as R (.ref b) = r := fun j b r h1 h2 => by
    show ((as.zip R).lookup b).getD (0, 0) = r
    rw [look_zip and' h1 h2]
    rfl
  -- the heap with the list
  generalize hg2 : g.push { cls := .type "list", data := .seq (as.map Value.ref).toArray } = g2
  have old : ∀ b u, g.get? b = some u → g2.get? b = some u := fun b u e => by rw [← hg2]; exact Heap.get?_push_of_some _ e
  have off : ∀ b u, g.get? b = some u → b ≠ g.objs.size := fun b u e => Nat.ne_of_lt (Heap.lt_size e)
  have hob : g2.get? g.objs.size = some (seqObj "list" (as.map Value.ref).toArray 0) := by rw [← hg2]; exact Heap.get?_push_size _ rfl
  have I0 : Inv X pins σ H { s with heap := g2, toks := tk } := I.kept (t' := tk) fun b u e => old b u (gk b u e)
  have hl0 : H g.objs.size = none := I.hok.fresh (Nat.le_of_lt glt)
  have I1 : Inv X pins σ (upd H g.objs.size (.lst (as.map V.ref))) { s with heap := g2, toks := tk } :=
    I0.take (h' := g2) (t' := tk) (fun b ob _ e => e) (I.fpOk (Nat.le_of_lt glt) hl0) ⟨by rw [List.length_map, alen]; exact Rz, as.map Value.ref, 0, LiI_refs as, hob⟩
  obtain ⟨G, I2, gr, gt⟩ := takeT (P := fun b ws => ∃ (j : Nat) (r : Int × Int), as[j]? = some b ∧ R[j]? = some r ∧ ws = [.int r.1, .int r.2]) I as _ I1 and' fun b hb => by
    obtain ⟨j, hj⟩ := List.mem_iff_getElem?.mp hb
    obtain ⟨r, t, t', h1, h2⟩ := mk j b hj
    have up : s.heap.objs.size ≤ b := Nat.le_of_lt (gm.above b hb)
    refine ⟨up, (upd_ne (off _ _ h2)).trans (I.hok.fresh up), [.int r.1, .int r.2], ⟨j, r, hj, h1, rfl⟩, fun H3 => ⟨by rw [sizeLine_eq]; show 2 ≤ 16777216; omega, [.int r.1 t, .int r.2 t'], .cons ⟨t, rfl⟩ (.cons ⟨t', rfl⟩ .nil), ⟨_, old _ _ h2, rfl, 0, rfl⟩⟩⟩
  have hGl : G g.objs.size = some (.lst (as.map V.ref)) := gr _ _ upd_same
  have ip : ∀ v ∈ as.map Value.ref, Srt.IsPair g2 v (numb as R v).1 (numb as R v).2 := fun v hv => by
    obtain ⟨b, hb, rfl⟩ := List.mem_map.mp hv
    obtain ⟨j, hj⟩ := List.mem_iff_getElem?.mp hb
    obtain ⟨r, t, t', h1, h2⟩ := mk j b hj
    rw [num j b r hj h1]
    exact ⟨b, _, t, t', 0, rfl, old _ _ h2, rfl, rfl⟩
  refine wpAny_call_entry PyProof.Rows.slot_list_sort ⟨_, hob, rfl⟩ PyProof.Rows.entry_list_sort (SrtO.list_sort_ord (SrtO.swo_lex (numb as R)) hob (by rw [List.length_map, alen]; exact Rz)
    (fun h2 => SrtO.pairs_sortableO (by omega) ip fun ob e => ?_) fun out h1 h2 => ⟨.none, rfl, ?_⟩) (PyProof.Rows.args_list_sort _)
  · obtain rfl := Option.some.inj (e.symm.trans hob)
    exact fun c => absurd (Value.type.inj c) (by decide)
  · obtain ⟨zs, zp, ez⟩ := perm_lift (fun z : Addr × (Int × Int) => Value.ref z.1) h2.perm (as.zip R) (by have e := congrArg (List.map Value.ref) (List.map_fst_zip (l₁ := as) (l₂ := R) (Nat.le_of_eq alen)); rw [List.map_map] at e; exact e)
    have idx : ∀ z ∈ zs, ∃ j : Nat, as[j]? = some z.1 ∧ R[j]? = some z.2 := fun z hz' => by
      obtain ⟨j, hj⟩ := List.mem_iff_getElem?.mp (zp.mem_iff.mp hz')
      exact ⟨j, List.getElem?_zip_eq_some.mp hj⟩
    have zn : ∀ z ∈ zs, numb as R (Value.ref z.1) = z.2 := fun z hz' => by
      obtain ⟨j, j1, j2⟩ := idx z hz'
      exact num j _ _ j1 j2
    have zperm : (zs.map (·.2)).Perm R := by
      have e := zp.map (·.2)
      rwa [List.map_snd_zip (Nat.le_of_eq alen.symm)] at e
    have zord : (zs.map (·.2)).Pairwise fun p q => p.1 < q.1 ∨ p.1 = q.1 ∧ p.2 ≤ q.2 := by
      have o3 : out.Pairwise fun v u => SrtO.lexB (numb as R u) (numb as R v) = false := h1
      rw [← ez, List.pairwise_map] at o3
      rw [List.pairwise_map]
      refine List.Pairwise.imp_of_mem (fun {x y} hx' hy h => ?_) o3
      have h' := SrtO.lexB_no.mp h
      rw [zn x hx', zn y hy] at h'
      omega
    obtain ⟨c, hat⟩ := PyProof.Rows.sortedHeap_at (vs := as.map Value.ref) (out := out.toArray) hob
    have rvz : Vals (zs.map fun z => V.ref z.1) out := by
      rw [← ez]
      exact vals_maps (fun z : Addr × (Int × Int) => V.ref z.1) (fun z => Value.ref z.1) zs fun _ _ => rfl
    have zl : (zs.map fun z => V.ref z.1).length ≤ sizeLine := by
      have e := zperm.length_eq
      rw [List.length_map] at e
      rw [List.length_map]
      omega
    have I3 : Inv X pins σ (upd G g.objs.size (.lst (zs.map fun z => V.ref z.1))) { s with heap := sortedHeap g2 g.objs.size (as.map Value.ref) out.toArray, toks := tk } :=
      I2.write (e := g.objs.size) (t' := tk) (by rw [hGl]; trivial) (.inl rfl) (fun b u hb hu => (PyProof.Rows.sortedHeap_old hb (Heap.lt_size hu)).trans hu) ⟨_, hat⟩ ⟨zl, out, c, rvz, hat⟩
    have ne0 : ∀ b u, H b = some u → b ≠ g.objs.size := fun b u e z => by rw [z, hl0] at e; cases e
    refine ⟨.ref g.objs.size, _, I3, rfl, q _ g.objs.size zs (fun b u e => (upd_ne (ne0 b u e)).trans (gr b u ((upd_ne (ne0 b u e)).trans e))) hl0 zperm zord upd_same fun z hz' => ?_⟩
    obtain ⟨j, j1, j2⟩ := idx z hz'
    obtain ⟨ws, ⟨i, r, i1, i2, ew⟩, hG⟩ := gt z.1 (List.mem_of_getElem? j1)
    have eij : j = i := (List.getElem?_inj (List.getElem?_eq_some_iff.mp j1).1 and').mp (j1.trans i1.symm)
    subst eij
    obtain rfl := Option.some.inj (j2.symm.trans i2)
    obtain ⟨r', t, t', k1, k2⟩ := mk j _ j1
    rw [upd_ne (off _ _ k2), hG, ew]
end
end Tb
/-! ## {e for x in ..}, e an int -/
namespace Tb
open PySem PySem.Spec PyProof.Rows L2 L2.DX
section
variable {X : Cx}
/-- one more member -/
abbrev grown (S : Int → Bool) (k : Int) : Int → Bool := fun j => S j || decide (j = k)
abbrev grownN (S : Int → Bool) (k : Int) (n : Nat) : Nat := if S k = true then n else n + 1
theorem add_int {pns : List (Addr × Obj)} {σ : L2.St} {H : Hp} {s : Shared} {E : Value → Shared → Prop} {D : Addr} {S : Int → Bool} {n : Nat} {k : Int} {t : Tok} {Q : Value → Shared → Prop} (J : Inv X pns σ H s) (e : H D = some (SetO X.w D S n)) (few : n + 1 < scanBound)
    (q : ∀ z, Inv X pns σ (upd H D (SetO X.w D (grown S k) (grownN S k n))) z → Q .none z) : wpAny (model X.prog X.w) X.A (call (.builtin "set.add") [.ref D, .int k t]) Q E s :=
  setR_add (setO_get J e) few fun g sb r => q _ (J.write (e := D) (t' := s.toks + 1) (by rw [e]; trivial) (.inl rfl) (fun b u nb hu => (sb.2 b nb).trans hu) (let ⟨o, _, _, _, ho, _⟩ := r; ⟨o, ho⟩) (setO_new r))
/-- what a turn asks of its item: Next is what the next turn begins with -/
def turnS (w : World) (D : Addr) (g : TG) (tt : TT) (te : TE) (vs : List Nat) (σ : L2.St) (Next : Hp → Prop) (x : V) (H : Hp) : Prop :=
  g x (wipe σ vs) H fun σ2 H2 => wipe σ2 vs = wipe σ vs ∧ tt σ2 H2 fun b H3 => if b = true then te σ2 H3 fun y H4 => ∃ (k : Int) (S : Int → Bool) (n : Nat), y = .int k ∧ H4 D = some (SetO w D S n) ∧ n + 1 < scanBound ∧ Next (upd H4 D (SetO w D (grown S k) (grownN S k n))) else Next H3
def tSci (w : World) (wi : TI) (g : TG) (tt : TT) (te : TE) (vs : List Nat) : TE := fun σ H Q => wi σ H fun J H1 => ∀ D, H1 D = none → ∃ W : Nat → Nat → Hp → Prop, (∃ m, W 0 m (upd H1 D (SetO w D (fun _ => false) 0))) ∧
  ∀ i m H, W i m H → (J.stop i H ∧ Q (.ref D) H) ∨ (J.go i H ∧ ∃ Nx : Hp → Prop, (∀ H', Nx H' → ∃ m', m' < m ∧ W (i + 1) m' H') ∧ ∀ x H', J.yld i H x H' → turnS w D g tt te vs σ Nx x H')
theorem pe_sci {elt tg iter : Expr} {ifs : List Expr} {scope : Scope} {own : List (PySem.Str × Nat)} {pos : Pos} {wi : TI} {g : TG} {tt : TT} {te : TE} (hc : X.calm = true) (hN : X.N.Nodup) (hi : PI X tg iter wi) (ok : BlkOk X.N X.env.scope scope own)
    (hg : ∀ (s : Shared) (H : Hp) (C : Addr) (cl : List (PySem.Str × Addr)) (fp : List Addr), PG (X.blk s H scope (compEnvC scope cl C X.env) fp) tg g)
    (ht : ∀ (s : Shared) (H : Hp) (C : Addr) (cl : List (PySem.Str × Addr)) (fp : List Addr), PTs (X.blk s H scope (compEnvC scope cl C X.env) fp) ifs tt)
    (he : ∀ (s : Shared) (H : Hp) (C : Addr) (cl : List (PySem.Str × Addr)) (fp : List Addr), PE (X.blk s H scope (compEnvC scope cl C X.env) fp) elt te) (hs : ∀ x, foldedSetIterable iter X.env x = pure x := by intro _; rfl) :
    PE X (.SetComp elt [⟨tg, iter, ifs, 0⟩] scope pos) (tSci X.w wi g tt te (own.map (·.2))) := by
  refine ⟨fun pns s σ H Q J h => ?_⟩
  rw [PpSet.eval_SetComp]
  have clo : closureFor scope X.env = pure (cloFrom X.env.cells scope.names []) := closure_ok fun y m e => (ok.free y m e).elim (fun k => J.ok.has _ (.inl k)) fun k => J.ok.has _ (.inr k)
  refine wpAny_comprehension_free (use := none) rfl hs clo ok.kind (fun y m e => (ok.uniq y m).trans (by rw [e])) (thn (hi.run pns s σ H _ J h) fun v0 z0 k0 => thn k0 fun v1 s2 ⟨it, fp, tn, G, H2, ev, J2, T, on, off, q⟩ => ?_)
  subst ev
  refine PpSet.newSet_ok (newEnv_comp ?_)
  -- the set, at the heap's end
  have free : H2 s2.heap.objs.size = none := J2.hok.fresh (Nat.le_refl _)
  obtain ⟨W, ⟨m0, w0⟩, turn⟩ := q _ free
  have J3 := J2.laid (a := s2.heap.objs.size) (t' := s2.toks) (fun b o e => Heap.get?_push_of_some { cls := .type "set", dict := none, data := .set #[] 0 (.fresh 0 0 (!X.w.params.followText "set-order")) } e) (Nat.le_refl _) (setO_new (setR_fresh X.w))
  generalize eD : s2.heap.objs.size = D at free w0 turn J3 ⊢
  generalize e3 : ({ s2 with heap := s2.heap.push { cls := .type "set", dict := none, data := .set #[] 0 (.fresh 0 0 (!X.w.params.followText "set-order")) } } : Shared) = s3 at J3 ⊢
  have up3 : ∀ b o, s2.heap.get? b = some o → s3.heap.get? b = some o := fun b o e => by rw [← e3]; exact Heap.get?_push_of_some _ e
  generalize eH : upd H2 D (SetO X.w D (fun _ => false) 0) = H3 at w0 J3 ⊢
  have fp3 : ∀ b ∈ fp, FpOk X pns H3 b ∧ b < s3.heap.objs.size := fun b hb => by
    obtain ⟨o, e, _⟩ := T.obj _ _ on b hb
    have lt := Heap.lt_size e
    exact ⟨⟨by rw [← eH, upd_ne (by rw [← eD]; exact Nat.ne_of_lt lt)]; exact (off b hb).1, (off b hb).2⟩, Heap.lt_size (up3 b o e)⟩
  have on3 : tn 0 s3.heap := T.keep _ _ _ on fun b _ o e => up3 b o e
  -- the block's own context
  have B0 := block_start J3 ok hN fp3
  have gg := hg s3 H3 s3.heap.objs.size (cellsFrom (s3.heap.objs.size + 1) scope.names (cloFrom X.env.cells scope.names [])) fp
  have gt := ht s3 H3 s3.heap.objs.size (cellsFrom (s3.heap.objs.size + 1) scope.names (cloFrom X.env.cells scope.names [])) fp
  have ge := he s3 H3 s3.heap.objs.size (cellsFrom (s3.heap.objs.size + 1) scope.names (cloFrom X.env.cells scope.names [])) fp
  show codeAny _ _ (.compStart (.SetComp elt [⟨tg, iter, ifs, 0⟩] scope pos) 0 (.ref it) (.ref D) (compEnvC scope (cellsFrom (s3.heap.objs.size + 1) scope.names (cloFrom X.env.cells scope.names [])) s3.heap.objs.size X.env)) (compPost (model X.prog X.w) X.A X.xe none (EP X pns σ Q) (.ref D) s3.heap.objs.size) { s3 with heap := pushCells (s3.heap.push { cls := .type "dict", data := .dict #[] }) scope.names }
  generalize eC : compEnvC scope (cellsFrom (s3.heap.objs.size + 1) scope.names (cloFrom X.env.cells scope.names [])) s3.heap.objs.size X.env = env at B0 gg gt ge ⊢
  have eL : env.locals = s3.heap.objs.size := by rw [← eC]; rfl
  generalize e4 : ({ s3 with heap := pushCells (s3.heap.push { cls := .type "dict", data := .dict #[] }) scope.names } : Shared) = s4 at B0 ⊢
  have on4 : tn 0 s4.heap := T.keep _ _ _ on3 fun b _ o e => by rw [← e4]; exact pushCells_keeps _ _ _ _ (Heap.get?_push_of_some _ e)
  have fpB : ∀ {τ : L2.St} {G' : Hp} {z : Shared}, Inv (X.blk s3 H3 scope env fp) [] τ G' z → (∀ b ∈ fp, G' b = none) → ∀ b ∈ fp, FpOk (X.blk s3 H3 scope env fp) [] G' b := fun {τ G' z} B n b hb =>
    ⟨n b hb, (B.ok.exf b hb).1, B.ok.exfs b hb, .inl hb, fun x c e => (B.ok.exf b hb).2 x c e, fun p hp => absurd (show p ∈ ([] : List (Addr × Obj)) ++ [] from hp) (by simp)⟩
  have main : codeAny (model X.prog X.w) X.A (.compLoop (.SetComp elt [⟨tg, iter, ifs, 0⟩] scope pos) 0 (.ref it) (.ref D) env) (compPost (model X.prog X.w) X.A X.xe none (EP X pns σ Q) (.ref D) s3.heap.objs.size) s4 := by
    refine PpSet.compLoopS_any (fun n z => ∃ i G', Inv (X.blk s3 H3 scope env fp) [] (wipe σ (own.map (·.2))) G' z ∧ tn i z.heap ∧ (∀ b ∈ fp, G' b = none) ∧ W i n G') ?_ m0 ⟨0, H3, B0, on4, fun b hb => (fp3 b hb).1.1, w0⟩
    rintro n z ⟨i, G5, B5, on5, n5, w5⟩
    rcases turn i n G5 w5 with ⟨end', qe⟩ | ⟨more, Nx, less, step⟩
    · refine thnF (T.done (X.blk s3 H3 scope env fp) rfl rfl rfl hc i [] z _ G5 (fun _ _ => False) B5 (fpB B5 n5) on5 end') fun r z6 ⟨er, B6⟩ => ?_
      subst er
      have J6 : Inv X pns σ G5 z6 := J3.call' (ch := fp) B6.os B6.base B6.hok B6.bare fun b hb => ⟨(fp3 b hb).1.2.2.2.1, (fp3 b hb).1.2.1, (fp3 b hb).1.2.2.2.2.1, (fp3 b hb).1.2.2.2.2.2⟩
      have nC : G5 s3.heap.objs.size = none := eL ▸ (show G5 env.locals = none from B6.free)
      obtain ⟨mm, hn, _⟩ := B6.loc
      have hn' : z6.heap.Ns s3.heap.objs.size mm := eL ▸ (show z6.heap.Ns env.locals mm from hn)
      obtain ⟨c0, c1, c2, c3, c4, c5⟩ := J3.fpOk (Nat.le_refl _) nC
      exact ⟨mm, hn', fun g sb => ⟨.ref D, G5, J6.turned (t' := z6.toks) (fun b o nb e => (sb.2 b nb).trans e) c0 c1 c3 c4 c5, rfl, qe⟩⟩
    · refine thnF (T.item (X.blk s3 H3 scope env fp) rfl rfl rfl hc i [] z _ G5 (fun _ _ => False) B5 (fpB B5 n5) on5 more) fun r z6 ⟨u, er, k6⟩ => ?_
      subst er
      refine thnF k6 fun _ z7 ⟨x, G7, B7, r7, y7, on7, n7⟩ => ?_
      refine thnF (gg.run _ z7 _ G7 x u _ (B7.pinned (fpB B7 n7) (T.obj _ _ on7)) r7 (step x G7 y7)) fun _ z8 ⟨σ8, G8, B8, wp8, q8⟩ => ?_
      refine thnF (gt.run _ z8 σ8 G8 _ B8 q8) fun b z9 ⟨G9, B9, q9⟩ => ?_
      have next : ∀ {z' : Shared} {G' : Hp}, Inv (X.blk s3 H3 scope env fp) ([] ++ pinsAt fp z7.heap) σ8 G' z' → Nx G' → ∃ m, m < n ∧ ∃ i G', Inv (X.blk s3 H3 scope env fp) [] (wipe σ (own.map (·.2))) G' z' ∧ tn i z'.heap ∧ (∀ b ∈ fp, G' b = none) ∧ W i m G' := fun {z' G'} B nx => by
        obtain ⟨m', lt, w'⟩ := less G' nx
        have held : ∀ b ∈ fp, ∀ o, z7.heap.get? b = some o → z'.heap.get? b = some o ∧ G' b = none := fun b hb o e => let k := B.pin (b, o) (List.mem_append_right _ (List.mem_append_right _ (mem_pinsAt hb e))); ⟨k.1, k.2.1⟩
        refine ⟨m', lt, i + 1, G', (B.unpinned (pins := [])).weak (by rw [← wp8, wipe_length]) (fun j v e => (wipe_some (wp8 ▸ e)).1), T.keep _ _ _ on7 fun b hb o e => (held b hb o e).1, fun b hb => ?_, w'⟩
        obtain ⟨o, e, _⟩ := T.obj _ _ on7 b hb
        exact (held b hb o e).2
      cases b with
      | false => exact next B9 (by simpa using q9)
      | true =>
        rw [if_pos rfl] at q9
        refine thnF (ge.run _ z9 σ8 G9 _ B9 q9) fun a z10 ⟨yv, G10, B10, r10, k, S, nn, ey, eD', few, nx⟩ => ?_
        subst ey
        obtain ⟨t, rfl⟩ := r10
        exact add_int (X := X.blk s3 H3 scope env fp) B10 eD' few fun z11 B11 => next B11 nx
  exact PpSet.codeAny_compStart_set main (T.self X.A 0 _ _ _ on4 main)
end
end Tb
namespace Vk
open PySem PySem.Spec PyProof.Rows L2

/-! ## reading, one step at a time -/
section
variable {K : PySem.W.Frag} {D : Ends} {σ : L2.St} {H : Hp} {Q : VK} {t u : TS} {te ta tb tc : TE} {g : TG} {i : Nat} {v x y : V} {r r' : R2}
theorem rd_seq (h : t { D with nx := u D } σ H) : tSeq t u D σ H := h
theorem rd_asg (h : te σ H fun x H1 => g x σ H1 D.nx) : tAsg te g D σ H := h
theorem rd_ret (h : te σ H D.rt) : tRet te D σ H := h
theorem rd_drop (h : te σ H fun _ H1 => D.nx σ H1) : tDrop te D σ H := h
theorem rd_nx (h : D.nx σ H) : tNext D σ H := h
theorem rd_nm {Qg : L2.St → Hp → Prop} (h : Qg (σ.set i (some v)) H) : gName i v σ H Qg := h
theorem rd_var (h : σ[i]? = some (some v)) (q : Q v H) : tVar i σ H Q := ⟨v, h, q⟩
theorem rd_c (q : Q v H) : tC v σ H Q := q
theorem rd_op (h : ta σ H fun x H1 => tb σ H1 fun y H2 => r x y H2 Q) : tOp r ta tb σ H Q := h
theorem rd_un {ru : V → Hp → VK → Prop} (h : ta σ H fun x H1 => ru x H1 Q) : tUn ru ta σ H Q := h
theorem rd_i0 {g : Int → Int → V} {a b : Int} (q : Q (g a b) H) : rI0 g (.int a) (.int b) H Q := ⟨a, b, rfl, rfl, q⟩
theorem rd_i {C : Int → Int → Prop} {g : Int → Int → V} {a b : Int} (c : C a b) (q : Q (g a b) H) : rI C g (.int a) (.int b) H Q := ⟨a, b, rfl, rfl, c, q⟩
theorem rd_u {g : Int → V} {a : Int} (q : Q (g a) H) : rU g (.int a) H Q := ⟨a, rfl, q⟩
theorem rd_eq (h : scal x y = true) (q : Q (.bl (decide (x = y))) H) : rEq x y H Q := ⟨h, q⟩
theorem rd_ne (h : scal x y = true) (q : Q (.bl (!decide (x = y))) H) : rNe x y H Q := ⟨h, q⟩
theorem rd_test {Qt : Bool → Hp → Prop} (h : te σ H fun x H' => ∃ k, x = .bl k ∧ Qt k H') : tTest te σ H Qt := h
theorem rd_tb {Qt : Bool → Hp → Prop} (h : te σ H fun x H' => ∃ k, x = .bl k ∧ Qt k H') : tB te σ H Qt := h
theorem rd_bl {b : Bool} {R : Bool → Prop} (h : R b) : ∃ k, V.bl b = .bl k ∧ R k := ⟨b, rfl, h⟩
theorem rd_2 {b : Bool} {A B : Prop} (h1 : b = true → A) (h2 : b = false → B) : if b = true then A else B := by
  cases b with
  | true => exact iteT (h1 rfl)
  | false => exact iteF (h2 rfl)
theorem rd_chain (h : ta σ H fun x H1 => tb σ H1 fun y H2 => r x y H2 fun z H3 => ∃ k, z = .bl k ∧ (if k = true then tc σ H3 fun w' H4 => r' y w' H4 Q else Q (.bl false) H3)) : tChain r r' ta tb tc σ H Q := h
theorem rd_ifs {c : TT} (h : c σ H fun b H1 => if b = true then t D σ H1 else u D σ H1) : tIfS c t u D σ H := h
theorem rd_ife {c : TT} (h : c σ H fun b H1 => if b = true then ta σ H1 Q else tb σ H1 Q) : tIf c ta tb σ H Q := h
theorem rd_and {a b : TT} {Qt : Bool → Hp → Prop} (h : a σ H fun c H1 => if c = true then b σ H1 Qt else Qt false H1) : tAnd a b σ H Qt := h
theorem rd_or {a b : TT} {Qt : Bool → Hp → Prop} (h : a σ H fun c H1 => if c = true then Qt true H1 else b σ H1 Qt) : tOr a b σ H Qt := h
theorem rd_not {a : TT} {Qt : Bool → Hp → Prop} (h : a σ H fun c H1 => Qt (!c) H1) : tNot a σ H Qt := h
theorem rd_andV (h : ta σ H fun x H1 => ∃ c, x = .bl c ∧ if c = true then tb σ H1 Q else Q (.bl false) H1) : tAndV ta tb σ H Q := h
theorem rd_orV (h : ta σ H fun x H1 => ∃ c, x = .bl c ∧ if c = true then Q (.bl true) H1 else tb σ H1 Q) : tOrV ta tb σ H Q := h
theorem rd_notV (h : ta σ H fun x H1 => ∃ c, x = .bl c ∧ Q (.bl (!c)) H1) : tNotV ta σ H Q := h
theorem rd_yes {Qt : Bool → Hp → Prop} (h : Qt true H) : tYes σ H Qt := h
theorem rd_nil {Qa : List V → Hp → Prop} (q : Qa [] H) : tNil σ H Qa := q
theorem rd_cons {tr : TA} {Qa : List V → Hp → Prop} (h : ta σ H fun x H1 => tr σ H1 fun xs H2 => Qa (x :: xs) H2) : tCons ta tr σ H Qa := h
theorem rd_call {sp : Sp} {dvs : List V} {E : XK} {tl : TA} (h : tl σ H fun vs H1 => sp (vs ++ dvs) H1 Q E) : tCall sp dvs E tl σ H Q := h
theorem rd_cb {rc : List V → Hp → VK → Prop} {tl : TA} (h : tl σ H fun vs H1 => rc vs H1 Q) : tCB rc tl σ H Q := h
theorem rd_sub {to ti : TE} {ts : TSet} {Qg : L2.St → Hp → Prop} (h : to σ H fun o H1 => ti σ H1 fun i H2 => ts o i v H2 fun H3 => Qg σ H3) : gSub to ti ts v σ H Qg := h
theorem rd_tup {tl : TA} (h : tl σ H fun xs H1 => xs.length ≤ sizeLine ∧ ∀ p, H1 p = none → Q (.ref p) (upd H1 p (.tup xs))) : tTup tl σ H Q := h
theorem rd_lst {tl : TA} (h : tl σ H fun xs H1 => xs.length ≤ sizeLine ∧ ∀ p, H1 p = none → Q (.ref p) (upd H1 p (.lst xs))) : tLst tl σ H Q := h
theorem rd_ixl {p : Addr} {xs : List V} {a : Int} (h : SqL K H p xs) (e : atI xs a = some v) (q : Q v H) : rIxL K (.ref p) (.int a) H Q := ⟨p, xs, a, v, rfl, rfl, h, e, q⟩
theorem rd_ixt {p : Addr} {xs : List V} {a : Int} (h : SqT K H p xs) (e : atI xs a = some v) (q : Q v H) : rIxT K (.ref p) (.int a) H Q := ⟨p, xs, a, v, rfl, rfl, h, e, q⟩
theorem rd_setl {p : Addr} {xs : List V} {a : Int} {j : Nat} {Qh : Hp → Prop} (h : H p = some (.lst xs)) (e : ixN xs.length a = some j) (q : Qh (upd H p (.lst (xs.set j v)))) : rSetL (.ref p) (.int a) v H Qh := ⟨p, xs, a, j, rfl, rfl, h, e, q⟩
theorem rd_T {A B : Prop} (h : A) : if true = true then A else B := iteT h
theorem rd_Tt {b : Bool} {A B : Prop} (e : b = true) (h : A) : if b = true then A else B := (if_pos e).symm ▸ h
theorem rd_Ff {b : Bool} {A B : Prop} (e : b = false) (h : B) : if b = true then A else B := (if_neg (by rw [e]; exact Bool.false_ne_true) : (if b = true then A else B) = B).symm ▸ h
theorem rd_F {A B : Prop} (h : B) : if false = true then A else B := iteF h
end

/-! ## further rules -/
theorem room64 {k : Nat} {A : Around} {e : Env} (hr : Room k (A.deeper e)) : (A.deeper e).units + 64 < cLine := hr.units
section
variable {X : Cx}
theorem call_repr_bl : CallR X (.builtin "repr") (fun xs H Q => ∃ b : Bool, xs = [.bl b] ∧ Q (.str (if b then "True" else "False")) H) := by
  intro ps s σ H xs us Q I rel h
  obtain ⟨b, rfl, q⟩ := h
  obtain ⟨u0, rfl, e⟩ := vals1 rel
  cases (show u0 = Value.bool b from e)
  exact PySem.P.repr_of_bool ⟨.str (if b then "True" else "False"), H, I.tok _, ⟨_, rfl⟩, q⟩
/-- only keywords -/
theorem pe_callK0 {CX : CXT} {k : Nat} {f : Addr} {fd : FuncData} {ps ks : List Str} {sp : Sp} {E : XK} {nm : Str} {p0 pos : Pos} {kws : List Keyword} {tk : TA} {g : List Value → List Value → List Value} {gV : List V → List V → List V}
    (F : FnOk X.prog X.w X.K X.mg X.base CX k f fd ps sp) (room : Room k X.A) (isg : Gl X nm) (hm : X.mg nm = some (.ref f)) (kp : PySem.W.keepIn X.K (.ref f) = true) (kb : KBinds X.K fd ps ks g gV) (pa : Passes CX X E)
    (hkw : PK X kws tk) (h1 : (backToKw pos (keywordEach kws X.env)).all (·.1.isSome) = true := by rfl) (h2 : (backToKw pos (keywordEach kws X.env)).filterMap (·.1) = ks := by rfl)
    (h3 : (nm == ("__debug__" : Str)) = false := by decide) (h4 : ((backTo pos (starEach [] X.env)).any (·.1) || (backToKw pos (keywordEach kws X.env)).any (·.1.isNone)) = false := by rfl) :
    PE X (.Call (.Name nm p0) [] kws pos) (tCallK sp gV E tNil tk) :=
  ⟨fun pins s σ H Q I hw => wpAny_Call_Name_kw (ld_glob I isg hm (PySem.W.callWith_KW0 (h₀ := X.base) I.ok.mod.kin kp h1
    (thn (hkw.run pos pins s σ H _ I hw) fun ws s2 ⟨zs, H2, I2, rz, q2⟩ => ⟨I2.kIn, h2 ▸ run_fnk (us := []) (vs := []) F room kb pa I2 .nil rz q2⟩) h4) h3)⟩
end
theorem rd_callK {σ : L2.St} {H : Hp} {Q : VK} {sp : Sp} {gV : List V → List V → List V} {E : XK} {t tk : TA} (h : t σ H fun vs H1 => tk σ H1 fun zs H2 => sp (gV vs zs) H2 Q E) : tCallK sp gV E t tk σ H Q := h
abbrev kCat : List Value → List Value → List Value := fun us ws => us ++ ws
abbrev kCatV : List V → List V → List V := fun us ws => us ++ ws

/-! ## heaps: what a call that touches one list leaves -/
/-- all but the objects at B is as it was -/
def But (B : List Addr) (H H' : Hp) : Prop := ∀ b o, b ∉ B → H b = some o → H' b = some o
theorem But.refl {B : List Addr} {H : Hp} : But B H H := fun _ _ _ h => h
theorem But.trans {B : List Addr} {H H1 H2 : Hp} (e : But B H H1) (f : But B H1 H2) : But B H H2 := fun b o n h => f b o n (e b o n h)
theorem But.wide {B B' : List Addr} {H H' : Hp} (e : But B H H') (s : ∀ b, b ∉ B' → b ∉ B) : But B' H H' := fun b o n h => e b o (s b n) h
theorem But.of {B : List Addr} {H H' : Hp} (e : Same H H') : But B H H' := fun b o _ h => e b o h
theorem But.set {B : List Addr} {a : Addr} {H H' : Hp} {o : HO} (e : But B H H') (m : a ∈ B) : But B H (upd H' a o) := fun b u n h =>
  (upd_ne (fun z => n (by rw [z]; exact m))).trans (e b u n h)
theorem But.new {B : List Addr} {p : Addr} {H H' : Hp} {o : HO} (e : But B H H') (n : H' p = none) : But B H (upd H' p o) := fun b u nb h =>
  (upd_ne (ne_of_none (e b u nb h) n)).trans (e b u nb h)
/-- an object that H does not know may change -/
theorem But.mut {B : List Addr} {p : Addr} {H H' : Hp} {o : HO} (e : But B H H') (n : H p = none) : But B H (upd H' p o) := fun b u nb h =>
  (upd_ne (ne_of_none h n)).trans (e b u nb h)
theorem same_of_but {B : List Addr} {H H' : Hp} (e : But B H H') (n : ∀ p, p ∈ B → H p = none) : Same H H' := fun b o h => e b o (fun m => by rw [n b m] at h; cases h) h
theorem same_mut {H H' : Hp} {p : Addr} {o : HO} (e : Same H H') (n : H p = none) : Same H (upd H' p o) := fun b u h => (upd_ne (ne_of_none h n)).trans (e b u h)
theorem same_new {H : Hp} {p : Addr} {o : HO} (h : H p = none) : Same H (upd H p o) := fun b u e => (upd_ne (ne_of_none e h)).trans e
theorem But.seqL {K : PySem.W.Frag} {B : List Addr} {b : Addr} {H H' : Hp} {xs : List V} (e : But B H H') (n : b ∉ B) (h : SqL K H b xs) : SqL K H' b xs := by
  rcases h with (h | ⟨o, h⟩) | h
  · exact .inl (.inl (e _ _ n h))
  · exact .inl (.inr ⟨o, e _ _ n h⟩)
  · exact .inr h
/-- what stood is not among new objects -/
theorem But.seqL' {K : PySem.W.Frag} {B : List Addr} {b : Addr} {H H' : Hp} {xs : List V} (e : But B H H') (n : ∀ p, p ∈ B → H p = none) (h : SqL K H b xs) : SqL K H' b xs := by
  rcases h with (h | ⟨o, h⟩) | h
  · exact .inl (.inl (e _ _ (fun m => by rw [n _ m] at h; cases h) h))
  · exact .inl (.inr ⟨o, e _ _ (fun m => by rw [n _ m] at h; cases h) h⟩)
  · exact .inr h
theorem same_sqT {K : PySem.W.Frag} {H H' : Hp} {a : Addr} {xs : List V} (e : Same H H') (h : SqT K H a xs) : SqT K H' a xs := by
  rcases h with (h | ⟨o, h⟩) | h
  · exact .inl (.inl (e _ _ h))
  · exact .inl (.inr ⟨o, e _ _ h⟩)
  · exact .inr h
theorem But.free {B : List Addr} {H H' : Hp} {p : Addr} (e : But B H H') (n : p ∉ B) (h : H' p = none) : H p = none := by
  cases q : H p with
  | none => rfl
  | some o =>
    rw [e p o n q] at h
    cases h
/-- a pool of draws: three ints -/
def Pool (H : Hp) (a : Addr) : Prop := ∃ x d c : Int, H a = some (.lst [.int x, .int d, .int c])
theorem Pool.same {H H' : Hp} {a : Addr} (e : Same H H') (h : Pool H a) : Pool H' a := let ⟨x, d, c, h⟩ := h; ⟨x, d, c, e _ _ h⟩
theorem Pool.but {B : List Addr} {H H' : Hp} {a : Addr} (e : But B H H') (n : a ∉ B) (h : Pool H a) : Pool H' a := let ⟨x, d, c, h⟩ := h; ⟨x, d, c, e _ _ n h⟩
theorem Pool.ne {H : Hp} {a p : Addr} (h : Pool H a) (n : H p = none) : p ≠ a := fun e => by
  obtain ⟨x, d, c, h⟩ := h
  rw [e, h] at n
  cases n
theorem Pool.new {H : Hp} {a p : Addr} {o : HO} (h : Pool H a) (n : H p = none) : Pool (upd H p o) a := h.same (same_new n)
theorem Pool.upd {H : Hp} {a p : Addr} {o : HO} (h : Pool H a) (n : a ≠ p) : Pool (L2.upd H p o) a := let ⟨x, d, c, h⟩ := h; ⟨x, d, c, (upd_ne n).trans h⟩
theorem le_line {n : Nat} (h : n ≤ 1000) : n ≤ sizeLine := Nat.le_of_lt (small1000 h)
theorem atI_lt {α : Type} {xs : List α} {r : Int} (h0 : 0 ≤ r) (h1 : r < xs.length) : ∃ v, atI xs r = some v ∧ v ∈ xs := by
  obtain ⟨n, rfl⟩ := Int.eq_ofNat_of_zero_le h0
  have hn : n < xs.length := by omega
  exact ⟨xs[n], atI_nat (List.getElem?_eq_getElem hn), List.getElem_mem hn⟩
theorem ixN_lt {n : Nat} {r : Int} (h0 : 0 ≤ r) (h1 : r < n) : ixN n r = some r.toNat := by
  unfold ixN
  rw [if_pos h0, if_pos h1]
/-- some stretch of a list of ints is one -/
theorem cut_ints (ns : List Int) (lo hi : Option Int) : ∃ ms : List Int, cutV (ns.map V.int) lo hi = ms.map V.int :=
  ⟨_, by unfold cutV; rw [← List.map_drop, ← List.map_take]⟩
theorem mem_ints {ms : List Int} {i : Nat} {x : V} (h : (ms.map V.int)[i]? = some x) : ∃ n, x = .int n := by
  rw [List.getElem?_map] at h
  cases e : ms[i]? with
  | none => rw [e] at h; cases h
  | some n => rw [e] at h; cases h; exact ⟨n, rfl⟩
/-- a divisor below 2 ^ 64 is C's -/
theorem divp_small {i j : Int} (h0 : 0 < j) (h1 : j < 18446744073709551616) : CDivP i j := by
  refine ⟨h0, ?_⟩
  have hl : j.natAbs.log2 < 64 := by
    have hn : j.natAbs ≠ 0 := by omega
    exact (Nat.log2_lt hn).mpr (by omega)
  have hj : ¬ (j == 0) = true := by simpa using (show j ≠ 0 by omega)
  have hd : decide (j.natAbs.log2 / 30 + 1 > 300) = false := decide_eq_false (by omega)
  show (decide ((if (j == 0) = true then 0 else j.natAbs.log2 / 30 + 1) > 300) && _) = false
  rw [if_neg hj, hd, Bool.false_and]
end Vk
namespace Tb
open PySem PySem.Spec PyProof.Rows L2 Vk RZ
theorem ps_never {X : Cx} {st : Stmt} : PS X st (fun _ _ _ => False) := ⟨fun _ _ _ _ _ _ h => h.elim⟩
theorem ix_tupK {X : Cx} {K : PySem.W.Frag} (h : X.K = K) : IxR X (rIxT K) := h ▸ ix_tup
theorem ix_listK {X : Cx} {K : PySem.W.Frag} (h : X.K = K) : IxR X (rIxL K) := h ▸ ix_list
theorem pg_tupK {X : Cx} {K : PySem.W.Frag} {es : List Expr} {k : Nat} {pos : Pos} {t : TGs} {n : Nat} (e : X.K = K) (hc : X.calm = true) (h : PGs X es t) (hn : (assignEach es X.env).length = n := by rfl)
    (hst : (assignEach es X.env).findIdx? (·.1) = none := by rfl) : PG X (.Tuple es k pos) (gTup K n t) := e ▸ pg_tup hc h hn hst
/-- (..) known to be bare -/
def tTupF (t : TA) : TE := fun σ H Q => t σ H fun xs H1 => xs.length ≤ sizeLine ∧ ∀ p o, H1 p = none → o.dict = none → Q (.ref p) (upd H1 p (.frz o (.tup xs)))
theorem pe_tupF {X : Cx} {es : List Expr} {pos : Pos} {k : Nat} {t : TA} (h : PA X es t) : PE X (.Tuple es k pos) (tTupF t) :=
  ⟨fun pns s σ H Q I q => wpAny_Tuple_spliced (thn (h.run pos pns s σ H _ I q) fun us z ⟨xs, H1, I1, r, few, k⟩ =>
    ⟨by rw [← r.length]; exact few, .ref z.heap.objs.size, upd H1 z.heap.objs.size (.frz { cls := .type "tuple", data := .seq us.toArray } (.tup xs)), I1.laid (t' := z.toks) (fun b u e => Heap.get?_push_of_some _ e) (Nat.le_refl _) ⟨Heap.get?_push_size _ rfl, few, us, r, _, Heap.get?_push_size _ rfl, rfl, _, rfl⟩, rfl, k _ _ (I1.hok.fresh (Nat.le_refl _)) rfl⟩)⟩
theorem rd_tupF {σ : L2.St} {H : Hp} {Q : VK} {t : TA} (h : t σ H fun xs H1 => xs.length ≤ sizeLine ∧ ∀ p o, H1 p = none → o.dict = none → Q (.ref p) (upd H1 p (.frz o (.tup xs)))) : tTupF t σ H Q := h
/-- keywords in the other turn -/
abbrev kSw : List Value → List Value → List Value := fun us ws => us ++ ws.reverse
abbrev kSwV : List V → List V → List V := fun us ws => us ++ ws.reverse
theorem vals_rev : ∀ {xs : List V} {us : List Value}, Vals xs us → Vals xs.reverse us.reverse
  | _, _, .nil => .nil
  | _, _, .cons h t => by
    rw [List.reverse_cons, List.reverse_cons]
    exact (vals_rev t).append (.cons h .nil)
/-! ### a tuple of pairs of ints in the heap -/
def Rw (H : Hp) (t : Addr) (p : Int × Int) : Prop := H t = some (.tup [.int p.1, .int p.2])
structure PT (H : Hp) (a : Addr) (ts : List Addr) (L : Tb) : Prop where
  at' : ∃ o : Obj, o.dict = none ∧ H a = some (.frz o (.tup (ts.map V.ref)))
  rows : Paired (Rw H) ts L
theorem prd_same {H H' : Hp} (e : Same H H') : ∀ {ts : List Addr} {L : Tb}, Paired (Rw H) ts L → Paired (Rw H') ts L
  | _, _, .nil => .nil
  | _, _, .cons h t => .cons (e _ _ h) (prd_same e t)
theorem prd_len {α β : Type} {F : α → β → Prop} : ∀ {xs : List α} {ys : List β}, Paired F xs ys → xs.length = ys.length
  | _, _, .nil => rfl
  | _, _, .cons _ t => congrArg (· + 1) (prd_len t)
theorem prd_at {α β : Type} {F : α → β → Prop} : ∀ {xs : List α} {ys : List β}, Paired F xs ys → ∀ {i : Nat} {x : α}, xs[i]? = some x → ∃ y, ys[i]? = some y ∧ F x y
  | _, _, .cons h t, 0, x, e => ⟨_, rfl, (Option.some.inj e) ▸ h⟩
  | _, _, .cons h t, i + 1, x, e => prd_at t (i := i) (by simpa using e)
theorem prd_app {α β : Type} {F : α → β → Prop} {xs' : List α} {ys' : List β} : ∀ {xs : List α} {ys : List β}, Paired F xs ys → Paired F xs' ys' → Paired F (xs ++ xs') (ys ++ ys')
  | _, _, .nil, h => h
  | _, _, .cons a t, h => .cons a (prd_app t h)
theorem PT.same {H H' : Hp} {a : Addr} {ts : List Addr} {L : Tb} (e : Same H H') (p : PT H a ts L) : PT H' a ts L := ⟨let ⟨o, d, h⟩ := p.at'; ⟨o, d, e _ _ h⟩, prd_same e p.rows⟩
theorem PT.sq {K : PySem.W.Frag} {H : Hp} {a : Addr} {ts : List Addr} {L : Tb} (p : PT H a ts L) : SqT K H a (ts.map V.ref) := let ⟨o, _, h⟩ := p.at'; .inl (.inr ⟨o, h⟩)
theorem PT.len {H : Hp} {a : Addr} {ts : List Addr} {L : Tb} (p : PT H a ts L) : ts.length = L.length := prd_len p.rows
theorem PT.row {H : Hp} {a : Addr} {ts : List Addr} {L : Tb} (p : PT H a ts L) {i : Nat} {t : Addr} (h : ts[i]? = some t) : ∃ r, L[i]? = some r ∧ H t = some (.tup [.int r.1, .int r.2]) := prd_at p.rows h
/-- what only a pool may change -/
theorem PT.but {H H' : Hp} {a q : Addr} {ts : List Addr} {L : Tb} (e : But [q] H H') (hq : Pool H q) (p : PT H a ts L) : PT H' a ts L := by
  obtain ⟨x, d, c, hp⟩ := hq
  have ne : ∀ b u, H b = some u → (∀ zs, u ≠ .lst zs) → H' b = some u := fun b u h n => e b u (fun m => by rw [List.mem_singleton.mp m, hp] at h; exact n _ (Option.some.inj h).symm) h
  refine ⟨let ⟨o, d, h⟩ := p.at'; ⟨o, d, ne _ _ h fun zs z => by cases z⟩, ?_⟩
  have : ∀ {ts : List Addr} {L : Tb}, Paired (Rw H) ts L → Paired (Rw H') ts L := fun {ts L} r => by
    induction r with
    | nil => exact .nil
    | cons h _ ih => exact .cons (ne _ _ h fun zs z => by cases z) ih
  exact this p.rows
theorem prd_sq {K : PySem.W.Frag} {H : Hp} : ∀ {ts : List Addr} {L : Tb}, Paired (Rw H) ts L → Paired (fun p kv => SqT K H p [kV kv.1, kv.2]) ts (kvT L)
  | _, _, .nil => .nil
  | _, _, .cons h t => .cons (.inl (.inl h)) (prd_sq t)
/-- as data -/
def dat (L : Tb) : List PyData := L.map fun p => .tuple [.int p.1, .int p.2]
theorem prd_dp {K : PySem.W.Frag} {H : Hp} : ∀ {ts : List Addr} {L : Tb}, Paired (Rw H) ts L → DpAll K H (ts.map V.ref) (dat L)
  | _, _, .nil => .nil
  | _, _, .cons h t => .cons (.tup (.inl (.inl h)) (.cons (.int _) (.cons (.int _) .nil))) (prd_dp t)
theorem PT.dp {K : PySem.W.Frag} {H : Hp} {a : Addr} {ts : List Addr} {L : Tb} (p : PT H a ts L) : Dp K H (.ref a) (.tuple (dat L)) := .tup p.sq (prd_dp p.rows)
theorem wipe_at {σ : L2.St} {k : Nat} : (∀ x : V, wipe ((wipe σ [k]).set k (some x)) [k] = wipe σ [k]) := fun x => by simp [wipe, List.set_set]
/-! ### comprehensions -/
section
variable {K : PySem.W.Frag} {a : Addr} {xs ys : List V} {te : TE} {k : Nat} {σ : L2.St} {H1 : Hp} {D : Addr} {Qd : Hp → Prop}
theorem lcq_tup (nD : H1 D = none) (hL : SqT K H1 a xs) (hn : xs.length = ys.length) (small : ys.length ≤ 1000) (hte : ∀ (i : Nat) (x y : V) (H : Hp) (R : VK), xs[i]? = some x → ys[i]? = some y → Same H1 H → (∀ H2, Same H H2 → R y H2) → te ((wipe σ [k]).set k (some x)) H R)
    (hd : ∀ H, Same H1 H → H D = some (.lst ys) → Qd H) : ∃ W : Nat → Nat → Hp → Prop, (∃ m, W 0 m (upd H1 D (.lst []))) ∧ ∀ i m H, W i m H → ((Itt K a).stop i H ∧ Qd H) ∨ ((Itt K a).go i H ∧ ∃ Nx : Hp → Prop, (∀ H', Nx H' → ∃ m', m' < m ∧ W (i + 1) m' H') ∧
      ∀ x H', (Itt K a).yld i H x H' → gName k x (wipe σ [k]) H' fun σ2 H2 => wipe σ2 [k] = wipe σ [k] ∧ tYes σ2 H2 fun b H3 => if b = true then te σ2 H3 fun y H4 => ∃ acc, H4 D = some (.lst acc) ∧ acc.length < sizeLine ∧ Nx (upd H4 D (.lst (acc ++ [y]))) else Nx H3) := by
  refine lc_tup (xs := xs) (fun i H => Same H1 H ∧ H D = some (.lst (ys.take i))) ⟨same_new nD, by rw [upd_same]; rfl⟩ (fun i H _ h => same_sqT h.1 hL) (fun i x H hx h => ⟨wipe_at x, ?_⟩) (fun H h => ?_)
  · obtain ⟨s1, hD⟩ := h
    have hi : i < ys.length := hn ▸ (List.getElem?_eq_some_iff.mp hx).1
    refine rd_yes ?_
    rw [if_pos rfl]
    refine hte i x ys[i] H _ hx (List.getElem?_eq_getElem hi) s1 fun H2 s2 => ⟨ys.take i, s2 _ _ hD, small1000 (by rw [List.length_take]; omega), same_mut (s1.trans s2) nD, ?_⟩
    rw [upd_same, List.take_add_one, List.getElem?_eq_getElem hi]
    rfl
  · exact hd H h.1 (by rw [h.2, hn, List.take_length])
theorem lcq_list (nD : H1 D = none) (hL : SqL K H1 a xs) (hn : xs.length = ys.length) (small : ys.length ≤ 1000) (hte : ∀ (i : Nat) (x y : V) (H : Hp) (R : VK), xs[i]? = some x → ys[i]? = some y → Same H1 H → (∀ H2, Same H H2 → R y H2) → te ((wipe σ [k]).set k (some x)) H R)
    (hd : ∀ H, Same H1 H → H D = some (.lst ys) → Qd H) : ∃ W : Nat → Nat → Hp → Prop, (∃ m, W 0 m (upd H1 D (.lst []))) ∧ ∀ i m H, W i m H → ((Itl K a).stop i H ∧ Qd H) ∨ ((Itl K a).go i H ∧ ∃ Nx : Hp → Prop, (∀ H', Nx H' → ∃ m', m' < m ∧ W (i + 1) m' H') ∧
      ∀ x H', (Itl K a).yld i H x H' → gName k x (wipe σ [k]) H' fun σ2 H2 => wipe σ2 [k] = wipe σ [k] ∧ tYes σ2 H2 fun b H3 => if b = true then te σ2 H3 fun y H4 => ∃ acc, H4 D = some (.lst acc) ∧ acc.length < sizeLine ∧ Nx (upd H4 D (.lst (acc ++ [y]))) else Nx H3) := by
  refine lc_list (xs := xs) (fun i H => Same H1 H ∧ H D = some (.lst (ys.take i))) ⟨same_new nD, by rw [upd_same]; rfl⟩ (fun i H _ h => h.1.seq hL) (fun i x H hx h => ⟨wipe_at x, ?_⟩) (fun H h => ?_)
  · obtain ⟨s1, hD⟩ := h
    have hi : i < ys.length := hn ▸ (List.getElem?_eq_some_iff.mp hx).1
    refine rd_yes ?_
    rw [if_pos rfl]
    refine hte i x ys[i] H _ hx (List.getElem?_eq_getElem hi) s1 fun H2 s2 => ⟨ys.take i, s2 _ _ hD, small1000 (by rw [List.length_take]; omega), same_mut (s1.trans s2) nD, ?_⟩
    rw [upd_same, List.take_add_one, List.getElem?_eq_getElem hi]
    rfl
  · exact hd H h.1 (by rw [h.2, hn, List.take_length])
/-- a set of ints over a tuple -/
theorem sci_tup {w : World} {g : TG} {tt : TT} {vs : List Nat} (Pv : Nat → Hp → Prop) (h0 : Pv 0 (upd H1 D (SetO w D (fun _ => false) 0))) (hl : ∀ i H, i ≤ xs.length → Pv i H → SqT K H a xs) (hs : ∀ i x H, xs[i]? = some x → Pv i H → turnS w D g tt te vs σ (Pv (i + 1)) x H)
    (hd : ∀ H, Pv xs.length H → Qd H) : ∃ W : Nat → Nat → Hp → Prop, (∃ m, W 0 m (upd H1 D (SetO w D (fun _ => false) 0))) ∧ ∀ i m H, W i m H → ((Itt K a).stop i H ∧ Qd H) ∨ ((Itt K a).go i H ∧ ∃ Nx : Hp → Prop, (∀ H', Nx H' → ∃ m', m' < m ∧ W (i + 1) m' H') ∧
      ∀ x H', (Itt K a).yld i H x H' → turnS w D g tt te vs σ Nx x H') := by
  refine ⟨fun i m H => m + i = xs.length ∧ Pv i H, ⟨xs.length, rfl, h0⟩, fun i m H ⟨e, p⟩ => ?_⟩
  have q := hl i H (by omega) p
  by_cases lt : i < xs.length
  · refine .inr ⟨⟨xs, xs[i], q, List.getElem?_eq_getElem lt⟩, Pv (i + 1), fun H' p' => ⟨xs.length - (i + 1), by omega, by omega, p'⟩, fun x H' y => ?_⟩
    obtain ⟨rfl, y⟩ := y
    exact hs i x _ (y xs q) p
  · have : i = xs.length := by omega
    exact .inl ⟨⟨xs, q, by omega⟩, hd H (this ▸ p)⟩
end
end Tb
namespace Tb
open PySem PySem.Spec PyProof.Rows L2 Vk RZ
/-- over zip of two tuples, the second not longer -/
theorem lc_zT {K : PySem.W.Frag} {a b : Addr} {xs ys : List V} {g : TG} {tt : TT} {te : TE} {vs : List Nat} {σ : L2.St} {H1 : Hp} {D : Addr} {Qd : Hp → Prop} (sh : ys.length ≤ xs.length) (Pv : Nat → Hp → Prop) (h0 : Pv 0 (upd H1 D (.lst []))) (hq : ∀ i H, Pv i H → SqT K H a xs ∧ SqT K H b ys)
    (hs : ∀ (i : Nat) (x y : V) (T : Addr) (H : Hp), xs[i]? = some x → ys[i]? = some y → Pv i H → H T = none → g (.ref T) (wipe σ vs) (upd H T (.tup [x, y])) fun σ2 H2 => wipe σ2 vs = wipe σ vs ∧ tt σ2 H2 fun c H3 =>
      if c = true then te σ2 H3 fun z H4 => ∃ acc, H4 D = some (.lst acc) ∧ acc.length < sizeLine ∧ Pv (i + 1) (upd H4 D (.lst (acc ++ [z]))) else Pv (i + 1) H3) (hd : ∀ H, Pv ys.length H → Qd H) :
    ∃ W : Nat → Nat → Hp → Prop, (∃ m, W 0 m (upd H1 D (.lst []))) ∧ ∀ i m H, W i m H → ((ItzT K a b).stop i H ∧ Qd H) ∨ ((ItzT K a b).go i H ∧ ∃ Nx : Hp → Prop, (∀ H', Nx H' → ∃ m', m' < m ∧ W (i + 1) m' H') ∧
      ∀ x H', (ItzT K a b).yld i H x H' → g x (wipe σ vs) H' fun σ2 H2 => wipe σ2 vs = wipe σ vs ∧ tt σ2 H2 fun c H3 => if c = true then te σ2 H3 fun y H4 => ∃ acc, H4 D = some (.lst acc) ∧ acc.length < sizeLine ∧ Nx (upd H4 D (.lst (acc ++ [y]))) else Nx H3) := by
  refine ⟨fun i m H => m + i = ys.length ∧ Pv i H, ⟨ys.length, rfl, h0⟩, fun i m H ⟨e, p⟩ => ?_⟩
  obtain ⟨qx, qy⟩ := hq i H p
  by_cases lt : i < ys.length
  · have lx : i < xs.length := by omega
    refine .inr ⟨⟨xs, ys, _, _, qx, qy, List.getElem?_eq_getElem lx, List.getElem?_eq_getElem lt⟩, Pv (i + 1), fun H' p' => ⟨ys.length - (i + 1), by omega, by omega, p'⟩, fun v H' y => ?_⟩
    obtain ⟨T, x', y', rfl, hT, rfl, f1, f2⟩ := y
    exact hs i x' y' T H (f1 xs qx) (f2 ys qy) p hT
  · have : i = ys.length := by omega
    exact .inl ⟨⟨xs, ys, qx, qy, .inr (by omega)⟩, hd H (this ▸ p)⟩
theorem all_rep (n : Nat) : (List.replicate n true).all id = true := by
  rw [List.all_replicate]
  cases n <;> rfl
theorem any_rep (n : Nat) : (List.replicate n false).any id = false := by
  rw [List.any_replicate]
  cases n <;> rfl
theorem cut1 (xs : List V) : cutV xs (some 1) none = xs.drop 1 := by
  unfold cutV
  rw [HT.sIx_none, show (some (1 : Int)) = some ((1 : Nat) : Int) from rfl, HT.sIx_nat]
  rcases Nat.lt_or_ge 1 xs.length with h | h
  · rw [Nat.min_eq_left (by omega), List.take_of_length_le (by rw [List.length_drop]; omega)]
  · have : xs.drop 1 = [] := List.drop_eq_nil_of_le h
    rw [Nat.min_eq_right h, this, List.drop_length, List.take_nil]
end Tb
namespace Tb
open PySem PySem.Spec PyProof.Rows L2 Vk RZ
theorem rd_bm {K : PySem.W.Frag} {σ : L2.St} {H : Hp} {Q : VK} {T : String} {r : V → List V → Hp → VK → Prop} {to : TE} {tl : TA} (h : to σ H fun x H1 => tyV K T x H1 ∧ tl σ H1 fun xs H2 => r x xs H2 Q) : tBM K T r to tl σ H Q := h
/-- t + u, tables -/
theorem cat_ok {K : PySem.W.Frag} {H : Hp} {a b : Addr} {ts us : List Addr} {L M : Tb} {Q : VK} (p : PT H a ts L) (r : PT H b us M) (few : L.length + M.length ≤ 1000) (q : ∀ H' c, Same H H' → SqT K H' c ((ts ++ us).map V.ref) → Paired (Rw H') (ts ++ us) (L ++ M) → Q (.ref c) H') : rCatA K (.ref a) (.ref b) H Q := by
  have l1 := p.len
  have l2 := r.len
  refine ⟨a, b, _, _, rfl, rfl, p.sq, r.sq, le_line (by simp only [List.length_map]; omega), fun e => ?_, fun n e => ?_, fun n n' c nc => ?_⟩
  · have : ts = [] := List.map_eq_nil_iff.mp e
    subst this
    exact q _ _ (Same.refl _) r.sq (prd_app p.rows r.rows)
  · have : us = [] := List.map_eq_nil_iff.mp e
    subst this
    refine q _ _ (Same.refl _) (by rw [List.append_nil]; exact p.sq) (prd_app p.rows r.rows)
  · rw [← List.map_append]
    exact q _ c (same_new nc) (.inl (.inl upd_same)) (prd_same (same_new nc) (prd_app p.rows r.rows))
/-- the set of the first ones of a table's pairs -/
theorem keys_ok {w : World} {K : PySem.W.Frag} {c D : Addr} {ts : List Addr} {N : Tb} {k : Nat} {σ : L2.St} {H : Hp} {Qd : Hp → Prop} (hk : k < σ.length) (sq : SqT K H c (ts.map V.ref)) (rows : Paired (Rw H) ts N) (few : N.length ≤ 1000) (nD : H D = none)
    (hd : ∀ H' S n, Same H H' → H' D = some (SetO w D S n) → (∀ i, S i = true ↔ ∃ p ∈ N, p.1 = i) → n ≤ N.length → Qd H') :
    ∃ W : Nat → Nat → Hp → Prop, (∃ m, W 0 m (upd H D (SetO w D (fun _ => false) 0))) ∧ ∀ i m H, W i m H → ((Itt K c).stop i H ∧ Qd H) ∨ ((Itt K c).go i H ∧ ∃ Nx : Hp → Prop, (∀ H', Nx H' → ∃ m', m' < m ∧ W (i + 1) m' H') ∧
      ∀ x H', (Itt K c).yld i H x H' → turnS w D (gName k) tYes (tOp (rIxT K) (tVar k) (tC (V.int 0))) [k] σ Nx x H') := by
  have len := prd_len rows
  refine sci_tup (xs := ts.map V.ref) (fun i H' => Same H H' ∧ ∃ S n, H' D = some (SetO w D S n) ∧ (∀ j, S j = true ↔ ∃ p ∈ N.take i, p.1 = j) ∧ n ≤ i) ⟨same_new nD, _, _, upd_same, fun j => by simp, Nat.le_refl _⟩ (fun i H' _ h => same_sqT h.1 sq) (fun i x H' hx h => ?_) (fun H' h => ?_)
  · obtain ⟨s1, S, n, hD, hS, hn⟩ := h
    rw [List.getElem?_map] at hx
    obtain ⟨t, ht, rfl⟩ := Option.map_eq_some_iff.mp hx
    obtain ⟨r, hr, e⟩ := prd_at (prd_same s1 rows) ht
    have hi : i < ts.length := (List.getElem?_eq_some_iff.mp ht).1
    have hv : ((wipe σ [k]).set k (some (V.ref t)))[k]? = some (some (V.ref t)) := List.getElem?_set_self (by rw [wipe_length]; exact hk)
    refine ⟨wipe_at _, rd_yes (rd_T (rd_op (rd_var hv (rd_c (rd_ixt (.inl (.inl e)) (v := .int r.1) rfl ⟨r.1, S, n, rfl, hD, by unfold scanBound; omega, same_mut s1 nD, _, _, upd_same, fun j => ?_, ?_⟩)))))⟩
    · rw [Bool.or_eq_true, hS j, decide_eq_true_eq, List.take_add_one, hr]
      constructor
      · rintro (⟨p, m, z⟩ | z)
        · exact ⟨p, List.mem_append_left _ m, z⟩
        · exact ⟨r, List.mem_append_right _ (by simp), z.symm⟩
      · rintro ⟨p, m, z⟩
        rcases List.mem_append.mp m with m | m
        · exact .inl ⟨p, m, z⟩
        · have : p = r := by simpa using m
          exact .inr (by rw [← z, this])
    · show (if S r.1 = true then n else n + 1) ≤ i + 1
      split <;> omega
  · obtain ⟨s1, S, n, hD, hS, hn⟩ := h
    rw [List.length_map, len, List.take_length] at hS
    rw [List.length_map, len] at hn
    exact hd H' S n s1 hD hS hn
end Tb
namespace Tb
open PySem PySem.Spec PyProof.Rows L2 Vk RZ
theorem prd_but {H H' : Hp} (e : ∀ b u, H b = some u → (∀ zs, u ≠ .lst zs) → H' b = some u) : ∀ {ts : List Addr} {L : Tb}, Paired (Rw H) ts L → Paired (Rw H') ts L
  | _, _, .nil => .nil
  | _, _, .cons h t => .cons (e _ _ h fun zs z => by cases z) (prd_but e t)
theorem look_at : ∀ {L : Tb} {c : Int} {i : Nat} {r : Int × Int}, L[i]? = some r → r.1 = c → (∀ p ∈ L.take i, p.1 ≠ c) → look L c = r.2
  | q :: L, c, 0, r, h, e, _ => by
    obtain rfl := Option.some.inj h
    exact if_pos e
  | q :: L, c, i + 1, r, h, e, n => (if_neg (n q (by simp))).trans (look_at (i := i) (by simpa using h) e fun p m => n p (by simp [m]))
end Tb
namespace Tb
open PySem PySem.Spec PyProof.Rows L2 Vk RZ
theorem good_nil : Good [] := ⟨.nil, fun p h => by simp at h⟩
theorem lay_dat (L : Tb) : PyData.canLay0 (.tuple (dat L)) = true := by
  show PyData.canLayAll0 (dat L) = true
  induction L with
  | nil => rfl
  | cons p L ih =>
    show (PyData.canLay0 (.tuple [.int p.1, .int p.2]) && PyData.canLayAll0 (dat L)) = true
    rw [ih]
    rfl
theorem deep_dat (L : Tb) : PyData.depthAll (dat L) ≤ 2 := by
  induction L with
  | nil => simp [dat, PyData.depthAll]
  | cons p L ih =>
    have e : dat (p :: L) = .tuple [.int p.1, .int p.2] :: dat L := rfl
    rw [e]
    simp [PyData.depthAll, PyData.depth] at ih ⊢
    omega
theorem shaped_dat (L : Tb) : PySem.SeqAt.shaped (.tuple (dat L)) = true := by
  have h := deep_dat L
  have e : (PyData.tuple (dat L)).depth ≤ 64 := by
    simp [PyData.depth]
    omega
  unfold PySem.SeqAt.shaped
  rw [lay_dat L, decide_eq_true e]
  rfl
theorem eqv_dat (L : Tb) : PyData.eqv (.tuple (dat L)) (.tuple (dat L)) = true := PySem.SeqAt.eqv_refl _ (lay_dat L)
theorem shaped_ints (ns : List Int) : PySem.SeqAt.shaped (.list (ns.map PyData.int)) = true := by
  induction ns with
  | nil => rfl
  | cons n ns ih => exact ih
theorem eqv_ints (ns : List Int) : PyData.eqv (.list (ns.map PyData.int)) (.list (ns.map PyData.int)) = true := by
  induction ns with
  | nil => rfl
  | cons n ns ih =>
    simp only [List.map_cons, PyData.eqv, PyData.eqvAll] at ih ⊢
    simp [ih]
theorem dp_ints {K : PySem.W.Frag} {H : Hp} {p : Addr} (xs : List Int) (h : SqL K H p (xs.map V.int)) : Dp K H (.ref p) (.list (xs.map PyData.int)) := by
  refine .lst h ?_
  clear h
  induction xs with
  | nil => exact .nil
  | cons x r ih => exact .cons (.int x) ih
end Tb
namespace Tb
open PySem PySem.Spec PyProof.Rows L2 Vk RZ
theorem ints_ext : ∀ {l m : List Int}, l.Pairwise (· < ·) → m.Pairwise (· < ·) → (∀ c, c ∈ l ↔ c ∈ m) → l = m := fun {l m} hl hm h => by
  have e : (l.map fun c => (c, c)) = m.map fun c => (c, c) := asc_ext (List.pairwise_map.mpr hl) (List.pairwise_map.mpr hm) fun p => by
    rw [List.mem_map, List.mem_map]
    constructor
    · rintro ⟨c, m', rfl⟩
      exact ⟨c, (h c).mp m', rfl⟩
    · rintro ⟨c, m', rfl⟩
      exact ⟨c, (h c).mpr m', rfl⟩
  have e2 := congrArg (List.map (·.1)) e
  simpa [Function.comp_def] using e2
theorem comb_len {F : Int → Int} {ns : List Int} : (comb F ns).length ≤ ns.length := by
  unfold comb
  rw [List.length_map]
  exact List.length_filter_le _ _
/-- what the joined table does -/
theorem look_comb {F : Int → Int} {ns : List Int} (h : ns.Pairwise (· < ·)) (all : ∀ c, F c ≠ c → c ∈ ns) (c : Int) : look (comb F ns) c = F c := by
  by_cases e : F c = c
  · rw [look_out fun p m => ?_, e]
    obtain ⟨_, a, b⟩ := mem_comb.mp m
    intro z
    rw [z] at b
    exact b e
  · exact look_mem (comb_asc h) (p := (c, F c)) (mem_comb.mpr ⟨all c e, rfl, e⟩)
theorem comb_good {F : Int → Int} {ns : List Int} (h : ns.Pairwise (· < ·)) (k : ∀ c ∈ ns, Col c) (v : ∀ c, Col c → Col (F c)) : Good (comb F ns) := ⟨comb_asc h, fun p m => by
  obtain ⟨a, b, _⟩ := mem_comb.mp m
  exact ⟨k _ a, b ▸ v _ (k _ a)⟩⟩
theorem look_in {L : Tb} {c : Int} (h : look L c ≠ c) : ∃ p ∈ L, p.1 = c := by
  by_cases e : ∃ p ∈ L, p.1 = c
  · exact e
  · exact absurd (look_out fun p m z => e ⟨p, m, z⟩) h
/-- what is left of the sorted entries -/
theorem left_eq {F : Int → Int} {ns tr : List Int} {R zs : Tb} (asc : ns.Pairwise (· < ·)) (all : ∀ c, F c ≠ c → c ∈ ns) (sub : ∀ c ∈ ns, c ∈ tr) (nd : (R.map (·.1)).Nodup) (val : ∀ p ∈ R, p.2 = F p.1) (key : ∀ c, c ∈ R.map (·.1) ↔ c ∈ tr)
    (perm : zs.Perm R) (ord : zs.Pairwise fun p q => p.1 < q.1 ∨ p.1 = q.1 ∧ p.2 ≤ q.2) : zs.filter (fun p => decide (p.1 ≠ p.2)) = comb F ns := by
  have a : Asc zs := asc_of ord ((perm.map (·.1)).nodup_iff.mpr nd)
  refine asc_ext (a.filter _) (comb_asc asc) fun p => ?_
  rw [List.mem_filter, mem_comb, perm.mem_iff, decide_eq_true_eq]
  constructor
  · rintro ⟨m, e⟩
    have v := val p m
    exact ⟨all p.1 (fun z => e (by rw [v, z])), v, fun z => e (by rw [v, z])⟩
  · rintro ⟨m, v, e⟩
    obtain ⟨q, mq, eq⟩ := List.mem_map.mp ((key p.1).mpr (sub _ m))
    have vq := val q mq
    have : q = p := by
      refine Prod.ext eq ?_
      rw [vq, eq, v]
    exact ⟨this ▸ mq, fun z => e (by rw [← v, z])⟩
end Tb
/-! ## comprehensions of several clauses: one clause's loop, whatever it does behind its store -/
namespace Cl
open PySem PySem.Spec PyProof.Rows L2 Vk Tb
/-- a clause's turn without tests: B is what it does behind its store -/
def step (e : Expr) (k : Nat) (t i0 : Expr) (B : Value → Env → Sem Unit) (it acc : Value) (env : Env) : Sem PySem.Fin := do
  standAt i0.pos
  match ← pyNext it with
  | none => pure (.done .next)
  | some v =>
    letOwnedTupleGo t it v
    assign t env v
    let mut ok := true
    for c in ([] : List Expr) do
      if ok then ok ← isTrue c env (eval c env)
    if ok then
      B acc env
    again (.compLoop e k it acc env)
section
variable {prog : Program} {w : World} {A : Around} {R : Result → Shared → Prop} {s : Shared} {elt t i0 : Expr} {gens : List Comprehension} {scope : Scope} {cpos : Pos} {k : Nat} {B : Value → Env → Sem Unit} {it acc : Value} {env : Env}
theorem loop_any (ht : compTurn (.SetComp elt gens scope cpos) k it acc env = step (.SetComp elt gens scope cpos) k t i0 B it acc env) (I : Nat → Shared → Prop)
    (turn : ∀ n s, I n s → wpAny (model prog w) A (pyNext it) (fun r s₁ => match r with
      | none => R (.ok .next) s₁
      | some v => wpAny (model prog w) A (letOwnedTupleGo t it v) (fun _ s₂ => wpAny (model prog w) A (assign t env v) (fun _ s₃ => wpAny (model prog w) A (B acc env) (fun _ s₄ => ∃ m, m < n ∧ I m s₄) (fun _ _ => False) s₃) (fun _ _ => False) s₂) (fun _ _ => False) s₁) (fun _ _ => False) s)
    (n : Nat) (h : I n s) : codeAny (model prog w) A (.compLoop (.SetComp elt gens scope cpos) k it acc env) R s := by
  refine codeAny_loop rfl I (fun n s hI => ?_) n h
  show wpAny _ A ((compTurn (.SetComp elt gens scope cpos) k it acc env).onRaise (fun x => do noteFrame x env; theTreesLotGoes x)) _ _ s
  refine wpAny_noted ?_
  rw [ht]
  unfold step
  refine wpAny_bind (wpAny_standAt (wpAny_bind (wpAny_mono (turn n s hI) (fun r s₁ h₁ => ?_) fun _ _ z => z.elim)))
  cases r with
  | none => exact wpAny_pure h₁
  | some v =>
    refine wpAny_bind (wpAny_mono h₁ (fun _ s₂ h₂ => ?_) fun _ _ z => z.elim)
    refine wpAny_bind (wpAny_mono h₂ (fun _ s₃ h₃ => ?_) fun _ _ z => z.elim)
    refine wpAny_bind (wpAny_tests_nil ?_)
    simp only [if_true]
    refine wpAny_bind (wpAny_mono h₃ (fun _ s₄ h₄ => ?_) fun _ _ z => z.elim)
    exact wpAny_pure ⟨rfl, h₄⟩
/-- what the clauses but the last do behind their store -/
def inner (e : Expr) (k : Nat) (i1 : Expr) (acc : Value) (env : Env) : Sem Unit := do
  let x ← eval i1 env
  standAt i1.pos
  let x ← foldedSetIterable i1 env x
  let _ ← runOwn (.compStart e k (← holding [x] (pyIter x)) acc env) env
/-- what the last one of a set does -/
def last (elt : Expr) (acc : Value) (env : Env) : Sem Unit := do
  let v ← eval elt env
  standAt elt.pos
  let _ ← call (.builtin "set.add") [acc, v]
theorem start_any {g : Comprehension} (hg : (clausesOf (.SetComp elt gens scope cpos))[k]? = some g) (ha : (g.is_async != 0) = false)
    (h0 : codeAny (model prog w) A (.compLoop (.SetComp elt gens scope cpos) k it acc env) R s)
    (h : wpAny (model prog w) A (pyIter it) (fun it' z => codeAny (model prog w) A (.compLoop (.SetComp elt gens scope cpos) k it' acc env) R z) (fun _ _ => False) s) :
    codeAny (model prog w) A (.compStart (.SetComp elt gens scope cpos) k it acc env) R s := by
  refine codeAny_of_tree ?_
  show wpAny _ _ ((compStart (.SetComp elt gens scope cpos) k it acc env).onRaise (fun x => do noteFrame x env; standAt theWindowsPlace)) _ _ s
  refine wpAny_notedAt ?_
  unfold compStart
  rw [hg]
  show wpAny _ _ (if (g.is_async != 0) = true then _ else _) _ _ s
  rw [if_neg (by rw [ha]; decide)]
  refine wpAny_bind (wpAny_askSetting (wpAny_ite ?_))
  split
  · exact wpAny_pure ⟨rfl, h0⟩
  · refine wpAny_bind (wpAny_rule (wpAny_bind (wpAny_standAt (wpAny_bind (wpAny_mono h (fun it' z h' => ?_) fun _ _ z => z.elim)))))
    exact wpAny_pure ⟨rfl, h'⟩
theorem inner_any {i1 : Expr} {Q : Unit → Shared → Prop} (hs : ∀ x, foldedSetIterable i1 env x = pure x)
    (h : wpAny (model prog w) A (eval i1 env) (fun x z => wpAny (model prog w) A (pyIter x) (fun it1 z1 => codeAny (model prog w) A (.compStart (.SetComp elt gens scope cpos) k it1 acc env) (fun r z2 => match r with | .ok _ => Q () z2 | .error _ => False) z1) (fun _ _ => False) z) (fun _ _ => False) s) :
    wpAny (model prog w) A (inner (.SetComp elt gens scope cpos) k i1 acc env) Q (fun _ _ => False) s := by
  unfold inner
  refine wpAny_bind (wpAny_mono h (fun x z h1 => ?_) fun _ _ z => z)
  refine wpAny_bind (wpAny_standAt (wpAny_bind (wpAny_of_eq (hs x) (wpAny_bind (wpAny_holding (wpAny_mono h1 (fun it1 z1 h2 => ?_) fun _ _ z => z))))))
  refine wpAny_bind (wpAny_runOwn ?_)
  rw [Around.mark_none]
  refine codeAny_mono h2 fun r z2 hr => ?_
  cases r with
  | ok f => exact wpAny_pure hr
  | error e => exact hr.elim
theorem last_any {Q : Unit → Shared → Prop} (h : wpAny (model prog w) A (eval elt env) (fun v z => wpAny (model prog w) A (call (.builtin "set.add") [acc, v]) (fun _ z1 => Q () z1) (fun _ _ => False) z) (fun _ _ => False) s) :
    wpAny (model prog w) A (last elt acc env) Q (fun _ _ => False) s := by
  unfold last
  exact wpAny_bind (wpAny_mono h (fun v z h1 => wpAny_bind (wpAny_standAt (wpAny_bind (wpAny_mono h1 (fun _ z1 h2 => wpAny_pure h2) fun _ _ z => z)))) fun _ _ z => z)
end
theorem wipe_get (σ : L2.St) : ∀ (vs : List Nat) (j : Nat), (wipe σ vs)[j]? = if j ∈ vs then σ[j]?.map fun _ => none else σ[j]?
  | [], j => by simp [wipe]
  | v :: vs, j => by
    unfold wipe
    rw [List.getElem?_set, wipe_length]
    by_cases e : v = j
    · subst e
      rw [if_pos rfl, if_pos (List.mem_cons_self ..)]
      by_cases l : v < σ.length
      · rw [if_pos l, List.getElem?_eq_getElem l]; rfl
      · rw [if_neg l, List.getElem?_eq_none (by omega)]; rfl
    · rw [if_neg e, wipe_get σ vs j]
      have : j ∈ v :: vs ↔ j ∈ vs := ⟨fun z => (List.mem_cons.mp z).resolve_left fun y => e y.symm, List.mem_cons_of_mem _⟩
      by_cases m : j ∈ vs
      · rw [if_pos m, if_pos (this.mpr m)]
      · rw [if_neg m, if_neg fun z => m (this.mp z)]
/-- names that are forgotten anyway -/
theorem wipe_sub (σ : L2.St) {us vs : List Nat} (h : ∀ i ∈ us, i ∈ vs) : wipe (wipe σ us) vs = wipe σ vs := by
  refine List.ext_getElem? fun j => ?_
  rw [wipe_get, wipe_get, wipe_get]
  by_cases m : j ∈ vs
  · rw [if_pos m, if_pos m]
    by_cases u : j ∈ us
    · rw [if_pos u]; cases σ[j]? <;> rfl
    · rw [if_neg u]
  · rw [if_neg m, if_neg m, if_neg fun z => m (h j z)]
theorem wipe_wipe (σ : L2.St) (vs : List Nat) : wipe (wipe σ vs) vs = wipe σ vs := wipe_sub σ fun _ h => h
/-- a clause's walk: body says what a turn asks behind the store, Next what it is to reach -/
def Lp (J : It) (vs : List Nat) (σ : L2.St) (g : TG) (body : (Hp → Prop) → L2.St → Hp → Prop) (Nx : Hp → Prop) (H : Hp) : Prop :=
  ∃ W : Nat → Nat → Hp → Prop, (∃ m, W 0 m H) ∧ ∀ i m H, W i m H → (J.stop i H ∧ Nx H) ∨ (J.go i H ∧ ∃ N : Hp → Prop, (∀ H', N H' → ∃ m', m' < m ∧ W (i + 1) m' H') ∧
    ∀ x H', J.yld i H x H' → g x (wipe σ vs) H' fun σ2 H2 => wipe σ2 vs = wipe σ vs ∧ body N σ2 H2)
section
variable {Y : Cx} {elt t i0 : Expr} {gens : List Comprehension} {scope : Scope} {cpos : Pos} {k : Nat} {B : Value → Env → Sem Unit} {J : It} {fp : List Addr} {it : Addr} {acc : Value} {tn : Nat → Heap → Prop} {vs : List Nat} {σ : L2.St} {g : TG} {body : (Hp → Prop) → L2.St → Hp → Prop} {Nx : Hp → Prop} {pns : List (Addr × Obj)} {R : Result → Shared → Prop} {s : Shared} {H : Hp}
/-- its loop -/
theorem lp_run (hx : ∀ e s, ¬ Y.xe e s) (hc : Y.calm = true) (ht : compTurn (.SetComp elt gens scope cpos) k (.ref it) acc Y.env = step (.SetComp elt gens scope cpos) k t i0 B (.ref it) acc Y.env) (T : Turn Y.prog Y.w Y.K t J fp it tn) (pg : PG Y t g)
    (hb : ∀ (N : Hp → Prop) (pns' : List (Addr × Obj)) (σ2 : L2.St) (H2 : Hp) (z : Shared), Inv Y (pns ++ pns') σ2 H2 z → wipe σ2 vs = wipe σ vs → body N σ2 H2 →
      wpAny (model Y.prog Y.w) Y.A (B acc Y.env) (fun _ z1 => ∃ σ3 H3, Inv Y (pns ++ pns') σ3 H3 z1 ∧ wipe σ3 vs = wipe σ2 vs ∧ N H3) (fun _ _ => False) z)
    (done : ∀ z H', Inv Y pns (wipe σ vs) H' z → Nx H' → R (.ok .next) z) (st : ∀ {H' : Hp}, (∀ b ∈ fp, H' b = none) → ∀ b ∈ fp, FpOk Y pns H' b)
    (I : Inv Y pns σ H s) (on : tn 0 s.heap) (off : ∀ b ∈ fp, H b = none) (h : Lp J vs σ g body Nx H) : codeAny (model Y.prog Y.w) Y.A (.compLoop (.SetComp elt gens scope cpos) k (.ref it) acc Y.env) R s := by
  obtain ⟨W, ⟨m0, w0⟩, turn⟩ := h
  refine loop_any ht (fun n z => ∃ i H', Inv Y pns (wipe σ vs) H' z ∧ tn i z.heap ∧ (∀ b ∈ fp, H' b = none) ∧ W i n H') ?_ m0 ⟨0, H, I.weak (wipe_length _ _) (fun j v e => (wipe_some e).1), on, off, w0⟩
  rintro n z ⟨i, H5, I5, on5, off5, w5⟩
  rcases turn i n H5 w5 with ⟨stop, nx⟩ | ⟨go, N, less, next⟩
  · refine thnF (T.done Y rfl rfl rfl hc i _ z _ H5 (fun _ _ => False) I5 (st off5) on5 stop) fun r z6 ⟨er, I6⟩ => ?_
    subst er
    exact done z6 H5 I6 nx
  · refine thnF (T.item Y rfl rfl rfl hc i _ z _ H5 (fun _ _ => False) I5 (st off5) on5 go) fun r z6 ⟨u, er, k6⟩ => ?_
    subst er
    refine thnF k6 fun _ z7 ⟨x, H7, I7, r7, y7, on7, off7⟩ => ?_
    refine thnF (wpAny_mono (pg.run _ z7 _ H7 x u _ (I7.pinned (st off7) (T.obj _ _ on7)) r7 (next x H7 y7)) (fun _ _ h => h) fun e z h => hx e z h) fun _ z8 ⟨σ8, H8, I8, wp8, q8⟩ => ?_
    refine thnF (hb N _ σ8 H8 z8 I8 wp8 q8) fun _ z9 ⟨σ9, H9, I9, wp9, n9⟩ => ?_
    obtain ⟨m', lt, w'⟩ := less H9 n9
    have held : ∀ b ∈ fp, ∀ o, z7.heap.get? b = some o → z9.heap.get? b = some o ∧ H9 b = none := fun b hb o e => let k := I9.pin (b, o) (List.mem_append_right _ (List.mem_append_right _ (mem_pinsAt hb e))); ⟨k.1, k.2.1⟩
    have wp : wipe σ9 vs = wipe σ vs := wp9.trans wp8
    refine ⟨m', lt, i + 1, H9, I9.unpinned.weak (by rw [← wp, wipe_length]) (fun j v e => (wipe_some (wp ▸ e)).1), T.keep _ _ _ on7 fun b hb o e => (held b hb o e).1, fun b hb => ?_, w'⟩
    obtain ⟨o, e, _⟩ := T.obj _ _ on7 b hb
    exact (held b hb o e).2
end
abbrev setObj (w : World) : Obj := { cls := .type "set", dict := none, data := .set #[] 0 (.fresh 0 0 (!w.params.followText "set-order")) }
section
variable {X : Cx}
/-- what is added, and what is asked of it -/
abbrev Ask := Addr → V → Hp → (Hp → Prop) → Prop
def AddOk (X : Cx) (ask : Ask) : Prop := ∀ (Y : Cx), Y.prog = X.prog → Y.w = X.w → Y.K = X.K → Y.A = X.A → ∀ (pns : List (Addr × Obj)) (σ : L2.St) (H : Hp) (z : Shared) (D : Addr) (y : V) (u : Value) (N : Hp → Prop), Inv Y pns σ H z → RelV y u → ask D y H N →
  wpAny (model Y.prog Y.w) Y.A (call (.builtin "set.add") [.ref D, u]) (fun _ z1 => ∃ H', Inv Y pns σ H' z1 ∧ N H') (fun _ _ => False) z
def NewOk (X : Cx) (o0 : Addr → HO) : Prop := ∀ (h : Heap) (H : Hp), ObjOk X.prog X.w H (h.push (setObj X.w)) h.objs.size (o0 h.objs.size)
/-- a set comprehension, by its first clause; B is what is behind its store -/
theorem pe_scG {elt tg iter : Expr} {rest : List Comprehension} {scope : Scope} {own : List (PySem.Str × Nat)} {pos : Pos} {wi : TI} {g : TG} {o0 : Addr → HO} {bodyD : Addr → (Hp → Prop) → L2.St → Hp → Prop} {B : Value → Env → Sem Unit} (hc : X.calm = true) (hN : X.N.Nodup) (hi : PI X tg iter wi) (ok : BlkOk X.N X.env.scope scope own)
    (hg : ∀ (s : Shared) (H : Hp) (C : Addr) (cl : List (PySem.Str × Addr)) (fp : List Addr), PG (X.blk s H scope (compEnvC scope cl C X.env) fp) tg g) (hnew : NewOk X o0)
    (ht : ∀ it acc env, compTurn (.SetComp elt (⟨tg, iter, [], 0⟩ :: rest) scope pos) 0 it acc env = step (.SetComp elt (⟨tg, iter, [], 0⟩ :: rest) scope pos) 0 tg iter B it acc env)
    (hB : ∀ (s : Shared) (H : Hp) (C : Addr) (cl : List (PySem.Str × Addr)) (fp : List Addr) (D : Addr) (N : Hp → Prop) (pns : List (Addr × Obj)) (σ2 : L2.St) (H2 : Hp) (z : Shared), Inv (X.blk s H scope (compEnvC scope cl C X.env) fp) pns σ2 H2 z → bodyD D N σ2 H2 →
      wpAny (model X.prog X.w) X.A (B (.ref D) (compEnvC scope cl C X.env)) (fun _ z1 => ∃ σ3 H3, Inv (X.blk s H scope (compEnvC scope cl C X.env) fp) pns σ3 H3 z1 ∧ wipe σ3 (own.map (·.2)) = wipe σ2 (own.map (·.2)) ∧ N H3) (fun _ _ => False) z)
    (hs : ∀ x, foldedSetIterable iter X.env x = pure x := by intro _; rfl) :
    PE X (.SetComp elt (⟨tg, iter, [], 0⟩ :: rest) scope pos) (fun σ H Q => wi σ H fun J H1 => ∀ D, H1 D = none → Lp J (own.map (·.2)) σ g (bodyD D) (fun H' => Q (.ref D) H') (upd H1 D (o0 D))) := by
  refine ⟨fun pns s σ H Q J h => ?_⟩
  rw [PpSet.eval_SetComp]
  have clo : closureFor scope X.env = pure (cloFrom X.env.cells scope.names []) := closure_ok fun y m e => (ok.free y m e).elim (fun k => J.ok.has _ (.inl k)) fun k => J.ok.has _ (.inr k)
  refine wpAny_comprehension_free (use := none) rfl hs clo ok.kind (fun y m e => (ok.uniq y m).trans (by rw [e])) (thn (hi.run pns s σ H _ J h) fun v0 z0 k0 => thn k0 fun v1 s2 ⟨it, fp, tn, G, H2, ev, J2, T, on, off, q⟩ => ?_)
  subst ev
  refine PpSet.newSet_ok (newEnv_comp ?_)
  have free : H2 s2.heap.objs.size = none := J2.hok.fresh (Nat.le_refl _)
  have lp := q _ free
  have J3 := J2.laid (a := s2.heap.objs.size) (t' := s2.toks) (fun b o e => Heap.get?_push_of_some (setObj X.w) e) (Nat.le_refl _) (hnew s2.heap (upd H2 s2.heap.objs.size (o0 s2.heap.objs.size)))
  generalize eD : s2.heap.objs.size = D at free lp J3 ⊢
  generalize e3 : ({ s2 with heap := s2.heap.push (setObj X.w) } : Shared) = s3 at J3 ⊢
  have up3 : ∀ b o, s2.heap.get? b = some o → s3.heap.get? b = some o := fun b o e => by rw [← e3]; exact Heap.get?_push_of_some _ e
  generalize eH : upd H2 D (o0 D) = H3 at lp J3 ⊢
  have fp3 : ∀ b ∈ fp, FpOk X pns H3 b ∧ b < s3.heap.objs.size := fun b hb => by
    obtain ⟨o, e, _⟩ := T.obj _ _ on b hb
    have lt := Heap.lt_size e
    exact ⟨⟨by rw [← eH, upd_ne (by rw [← eD]; exact Nat.ne_of_lt lt)]; exact (off b hb).1, (off b hb).2⟩, Heap.lt_size (up3 b o e)⟩
  have on3 : tn 0 s3.heap := T.keep _ _ _ on fun b _ o e => up3 b o e
  have B0 := block_start J3 ok hN fp3
  have gg := hg s3 H3 s3.heap.objs.size (cellsFrom (s3.heap.objs.size + 1) scope.names (cloFrom X.env.cells scope.names [])) fp
  have bb := hB s3 H3 s3.heap.objs.size (cellsFrom (s3.heap.objs.size + 1) scope.names (cloFrom X.env.cells scope.names [])) fp
  show codeAny _ _ (.compStart (.SetComp elt (⟨tg, iter, [], 0⟩ :: rest) scope pos) 0 (.ref it) (.ref D) (compEnvC scope (cellsFrom (s3.heap.objs.size + 1) scope.names (cloFrom X.env.cells scope.names [])) s3.heap.objs.size X.env)) (compPost (model X.prog X.w) X.A X.xe none (EP X pns σ Q) (.ref D) s3.heap.objs.size) { s3 with heap := pushCells (s3.heap.push { cls := .type "dict", data := .dict #[] }) scope.names }
  generalize eC : compEnvC scope (cellsFrom (s3.heap.objs.size + 1) scope.names (cloFrom X.env.cells scope.names [])) s3.heap.objs.size X.env = env at B0 gg bb ⊢
  have eL : env.locals = s3.heap.objs.size := by rw [← eC]; rfl
  generalize e4 : ({ s3 with heap := pushCells (s3.heap.push { cls := .type "dict", data := .dict #[] }) scope.names } : Shared) = s4 at B0 ⊢
  have on4 : tn 0 s4.heap := T.keep _ _ _ on3 fun b _ o e => by rw [← e4]; exact pushCells_keeps _ _ _ _ (Heap.get?_push_of_some _ e)
  have off3 : ∀ b ∈ fp, H3 b = none := fun b hb => (fp3 b hb).1.1
  have fpB : ∀ {G' : Hp}, (∀ b ∈ fp, G' b = none) → ∀ b ∈ fp, FpOk (X.blk s3 H3 scope env fp) [] G' b := fun {G'} n b hb =>
    ⟨n b hb, (B0.ok.exf b hb).1, B0.ok.exfs b hb, .inl hb, fun x c e => (B0.ok.exf b hb).2 x c e, fun p hp => absurd (show p ∈ ([] : List (Addr × Obj)) ++ [] from hp) (by simp)⟩
  have main : codeAny (model X.prog X.w) X.A (.compLoop (.SetComp elt (⟨tg, iter, [], 0⟩ :: rest) scope pos) 0 (.ref it) (.ref D) env) (compPost (model X.prog X.w) X.A X.xe none (EP X pns σ Q) (.ref D) s3.heap.objs.size) s4 := by
    have lp' : Lp G (own.map (·.2)) (wipe σ (own.map (·.2))) g (bodyD D) (fun H' => Q (.ref D) H') H3 := by
      unfold Lp
      rw [wipe_wipe]
      exact lp
    refine lp_run (Y := X.blk s3 H3 scope env fp) (fun _ _ h => h) hc (ht _ _ _) T gg (fun N pns' σ2 H2' z I wp b => bb D N _ σ2 H2' z I b) (fun z6 G5 B6 qe => ?_) fpB B0 on4 off3 lp'
    rw [wipe_wipe] at B6
    have J6 : Inv X pns σ G5 z6 := J3.call' (ch := fp) B6.os B6.base B6.hok B6.bare fun b hb => ⟨(fp3 b hb).1.2.2.2.1, (fp3 b hb).1.2.1, (fp3 b hb).1.2.2.2.2.1, (fp3 b hb).1.2.2.2.2.2⟩
    have nC : G5 s3.heap.objs.size = none := eL ▸ (show G5 env.locals = none from B6.free)
    obtain ⟨mm, hn, _⟩ := B6.loc
    have hn' : z6.heap.Ns s3.heap.objs.size mm := eL ▸ (show z6.heap.Ns env.locals mm from hn)
    obtain ⟨c0, c1, c2, c3, c4, c5⟩ := J3.fpOk (Nat.le_refl _) nC
    exact ⟨mm, hn', fun g sb => ⟨.ref D, G5, J6.turned (t' := z6.toks) (fun b o nb e => (sb.2 b nb).trans e) c0 c1 c3 c4 c5, rfl, qe⟩⟩
  exact PpSet.codeAny_compStart_set main (T.self X.A 0 _ _ _ on4 main)
end
section
variable {X : Cx}
/-- what a clause asks of the next one -/
def nx (wi : TI) (vs : List Nat) (g : TG) (body : (Hp → Prop) → L2.St → Hp → Prop) : (Hp → Prop) → L2.St → Hp → Prop := fun N σ H => wi σ H fun J H1 => Lp J vs σ g body N H1
/-- what the last one asks -/
def fin (te : TE) (ask : Ask) (D : Addr) : (Hp → Prop) → L2.St → Hp → Prop := fun N σ H => te σ H fun y H1 => ask D y H1 N
def tSc (o0 : Addr → HO) (wi : TI) (vs : List Nat) (g : TG) (bodyD : Addr → (Hp → Prop) → L2.St → Hp → Prop) : TE := fun σ H Q => wi σ H fun J H1 => ∀ D, H1 D = none → Lp J vs σ g (bodyD D) (fun H' => Q (.ref D) H') (upd H1 D (o0 D))
theorem last_ok {Y : Cx} {elt : Expr} {te : TE} {ask : Ask} {D : Addr} {N : Hp → Prop} {pns : List (Addr × Obj)} {σ : L2.St} {H : Hp} {z : Shared} (hx : ∀ e s, ¬ Y.xe e s) (he : PE Y elt te) (add : AddOk Y ask) (I : Inv Y pns σ H z) (h : fin te ask D N σ H) :
    wpAny (model Y.prog Y.w) Y.A (last elt (.ref D) Y.env) (fun _ z1 => ∃ H3, Inv Y pns σ H3 z1 ∧ N H3) (fun _ _ => False) z :=
  last_any (thnF (wpAny_mono (he.run pns z σ H _ I h) (fun _ _ h => h) fun e s h => hx e s h) fun u z1 ⟨y, H1, I1, r1, a⟩ => add Y rfl rfl rfl rfl pns σ H1 z1 D y u N I1 r1 a)
theorem pe_sc1 {elt tg iter : Expr} {scope : Scope} {own : List (PySem.Str × Nat)} {pos : Pos} {wi : TI} {g : TG} {te : TE} {o0 : Addr → HO} {ask : Ask} (hc : X.calm = true) (hN : X.N.Nodup) (hi : PI X tg iter wi) (ok : BlkOk X.N X.env.scope scope own)
    (hg : ∀ (s : Shared) (H : Hp) (C : Addr) (cl : List (PySem.Str × Addr)) (fp : List Addr), PG (X.blk s H scope (compEnvC scope cl C X.env) fp) tg g)
    (he : ∀ (s : Shared) (H : Hp) (C : Addr) (cl : List (PySem.Str × Addr)) (fp : List Addr), PE (X.blk s H scope (compEnvC scope cl C X.env) fp) elt te) (hnew : NewOk X o0) (add : AddOk X ask) (hs : ∀ x, foldedSetIterable iter X.env x = pure x := by intro _; rfl) :
    PE X (.SetComp elt [⟨tg, iter, [], 0⟩] scope pos) (tSc o0 wi (own.map (·.2)) g (fin te ask)) :=
  pe_scG hc hN hi ok hg hnew (fun _ _ _ => rfl) (fun s H C cl fp D N pns σ2 H2 z I h => wpAny_mono (last_ok (Y := X.blk s H scope (compEnvC scope cl C X.env) fp) (fun _ _ h => h) (he s H C cl fp) (fun Y' e1 e2 e3 e4 => add Y' e1 e2 e3 e4) I h) (fun _ z1 ⟨H3, I3, n⟩ => ⟨σ2, H3, I3, rfl, n⟩) fun _ _ h => h) hs
/-- a clause that is not the first, in the block -/
theorem clause_ok {Y : Cx} {elt t i1 : Expr} {gens : List Comprehension} {scope : Scope} {cpos : Pos} {k : Nat} {B : Value → Env → Sem Unit} {wi : TI} {vs ws : List Nat} {g : TG} {body : (Hp → Prop) → L2.St → Hp → Prop} {D : Addr} {N : Hp → Prop} {pns : List (Addr × Obj)} {σ : L2.St} {H : Hp} {z : Shared} (hx : ∀ e s, ¬ Y.xe e s) (hc : Y.calm = true)
    (hg : (clausesOf (.SetComp elt gens scope cpos))[k]? = some ⟨t, i1, [], 0⟩) (ht : ∀ it acc env, compTurn (.SetComp elt gens scope cpos) k it acc env = step (.SetComp elt gens scope cpos) k t i1 B it acc env) (hs : ∀ x, foldedSetIterable i1 Y.env x = pure x) (sub : ∀ i ∈ vs, i ∈ ws)
    (pi : PI Y t i1 wi) (pg : PG Y t g) (hb : ∀ (N : Hp → Prop) (pns' : List (Addr × Obj)) (σ2 : L2.St) (H2 : Hp) (z : Shared), Inv Y (pns ++ pns') σ2 H2 z → body N σ2 H2 →
      wpAny (model Y.prog Y.w) Y.A (B (.ref D) Y.env) (fun _ z1 => ∃ σ3 H3, Inv Y (pns ++ pns') σ3 H3 z1 ∧ wipe σ3 vs = wipe σ2 vs ∧ N H3) (fun _ _ => False) z)
    (I : Inv Y pns σ H z) (h : nx wi vs g body N σ H) :
    wpAny (model Y.prog Y.w) Y.A (inner (.SetComp elt gens scope cpos) k i1 (.ref D) Y.env) (fun _ z1 => ∃ σ3 H3, Inv Y pns σ3 H3 z1 ∧ wipe σ3 ws = wipe σ ws ∧ N H3) (fun _ _ => False) z := by
  refine inner_any hs (wpAny_mono (pi.run pns z σ H _ I h) (fun x z1 h1 => wpAny_mono h1 (fun itv z2 h2 => ?_) fun e s h => hx e s h) fun e s h => hx e s h)
  obtain ⟨it, fp, tn, J, H2, ev, I2, T, on, off, lp⟩ := h2
  subst ev
  have main : codeAny (model Y.prog Y.w) Y.A (.compLoop (.SetComp elt gens scope cpos) k (.ref it) (.ref D) Y.env) (fun r z2 => match r with | .ok _ => ∃ σ3 H3, Inv Y pns σ3 H3 z2 ∧ wipe σ3 ws = wipe σ ws ∧ N H3 | .error _ => False) z2 :=
    lp_run hx hc (ht _ _ _) T pg (fun N pns' σ2 H2 z I _ b => hb N pns' σ2 H2 z I b) (fun z6 H6 I6 n => ⟨_, H6, I6, wipe_sub _ sub, n⟩) (fun n b hb => ⟨n b hb, (off b hb).2⟩) I2 on (fun b hb => (off b hb).1) lp
  exact start_any hg rfl main (T.self Y.A 0 _ _ _ on main)
theorem turn3_1 (elt t0 i0 t1 i1 t2 i2 : Expr) (scope : Scope) (pos : Pos) (it acc : Value) (env : Env) : compTurn (.SetComp elt [⟨t0, i0, [], 0⟩, ⟨t1, i1, [], 0⟩, ⟨t2, i2, [], 0⟩] scope pos) 1 it acc env =
    step (.SetComp elt [⟨t0, i0, [], 0⟩, ⟨t1, i1, [], 0⟩, ⟨t2, i2, [], 0⟩] scope pos) 1 t1 i1 (inner (.SetComp elt [⟨t0, i0, [], 0⟩, ⟨t1, i1, [], 0⟩, ⟨t2, i2, [], 0⟩] scope pos) 2 i2) it acc env := by
  first
    | (simp [compTurn, Cl.step, Cl.inner]; rfl)
    | (simp [compTurn, Cl.step, Cl.inner]; congr 1; funext _; congr 1; funext r; cases r <;> rfl)
theorem turn3_0 (elt t0 i0 t1 i1 t2 i2 : Expr) (scope : Scope) (pos : Pos) (it acc : Value) (env : Env) : compTurn (.SetComp elt [⟨t0, i0, [], 0⟩, ⟨t1, i1, [], 0⟩, ⟨t2, i2, [], 0⟩] scope pos) 0 it acc env =
    step (.SetComp elt [⟨t0, i0, [], 0⟩, ⟨t1, i1, [], 0⟩, ⟨t2, i2, [], 0⟩] scope pos) 0 t0 i0 (inner (.SetComp elt [⟨t0, i0, [], 0⟩, ⟨t1, i1, [], 0⟩, ⟨t2, i2, [], 0⟩] scope pos) 1 i1) it acc env := by
  first
    | (simp [compTurn, Cl.step, Cl.inner, Cl.last]; rfl)
    | (simp [compTurn, Cl.step, Cl.inner, Cl.last]; congr 1; funext _; congr 1; funext r; cases r <;> rfl)
theorem turn3_2 (elt t0 i0 t1 i1 t2 i2 : Expr) (scope : Scope) (pos : Pos) (it acc : Value) (env : Env) : compTurn (.SetComp elt [⟨t0, i0, [], 0⟩, ⟨t1, i1, [], 0⟩, ⟨t2, i2, [], 0⟩] scope pos) 2 it acc env =
    step (.SetComp elt [⟨t0, i0, [], 0⟩, ⟨t1, i1, [], 0⟩, ⟨t2, i2, [], 0⟩] scope pos) 2 t2 i2 (last elt) it acc env := by
  first
    | (simp [compTurn, Cl.step, Cl.inner, Cl.last]; rfl)
    | (simp [compTurn, Cl.step, Cl.inner, Cl.last]; congr 1; funext _; congr 1; funext r; cases r <;> rfl)
theorem pe_sc3 {elt t0 i0 t1 i1 t2 i2 : Expr} {scope : Scope} {own : List (PySem.Str × Nat)} {vs1 vs2 : List Nat} {pos : Pos} {w0 w1 w2 : TI} {g0 g1 g2 : TG} {te : TE} {o0 : Addr → HO} {ask : Ask} (hc : X.calm = true) (hN : X.N.Nodup) (hi : PI X t0 i0 w0) (ok : BlkOk X.N X.env.scope scope own) (h1 : ∀ i ∈ vs1, i ∈ own.map (·.2)) (h2 : ∀ i ∈ vs2, i ∈ vs1)
    (hg : ∀ (s : Shared) (H : Hp) (C : Addr) (cl : List (PySem.Str × Addr)) (fp : List Addr), PG (X.blk s H scope (compEnvC scope cl C X.env) fp) t0 g0)
    (hi1 : ∀ (s : Shared) (H : Hp) (C : Addr) (cl : List (PySem.Str × Addr)) (fp : List Addr), PI (X.blk s H scope (compEnvC scope cl C X.env) fp) t1 i1 w1) (hg1 : ∀ (s : Shared) (H : Hp) (C : Addr) (cl : List (PySem.Str × Addr)) (fp : List Addr), PG (X.blk s H scope (compEnvC scope cl C X.env) fp) t1 g1)
    (hi2 : ∀ (s : Shared) (H : Hp) (C : Addr) (cl : List (PySem.Str × Addr)) (fp : List Addr), PI (X.blk s H scope (compEnvC scope cl C X.env) fp) t2 i2 w2) (hg2 : ∀ (s : Shared) (H : Hp) (C : Addr) (cl : List (PySem.Str × Addr)) (fp : List Addr), PG (X.blk s H scope (compEnvC scope cl C X.env) fp) t2 g2)
    (he : ∀ (s : Shared) (H : Hp) (C : Addr) (cl : List (PySem.Str × Addr)) (fp : List Addr), PE (X.blk s H scope (compEnvC scope cl C X.env) fp) elt te) (hnew : NewOk X o0) (add : AddOk X ask) (hs : ∀ x, foldedSetIterable i0 X.env x = pure x := by intro _; rfl) (hs1 : ∀ env x, foldedSetIterable i1 env x = pure x := by intro _ _; rfl) (hs2 : ∀ env x, foldedSetIterable i2 env x = pure x := by intro _ _; rfl) :
    PE X (.SetComp elt [⟨t0, i0, [], 0⟩, ⟨t1, i1, [], 0⟩, ⟨t2, i2, [], 0⟩] scope pos) (tSc o0 w0 (own.map (·.2)) g0 fun D => nx w1 vs1 g1 (nx w2 vs2 g2 (fin te ask D))) :=
  pe_scG (B := inner (.SetComp elt [⟨t0, i0, [], 0⟩, ⟨t1, i1, [], 0⟩, ⟨t2, i2, [], 0⟩] scope pos) 1 i1) hc hN hi ok hg hnew (fun _ _ _ => turn3_0 ..) (fun s H C cl fp D N pns σ2 H2 z I h =>
    clause_ok (Y := X.blk s H scope (compEnvC scope cl C X.env) fp) (B := inner (.SetComp elt [⟨t0, i0, [], 0⟩, ⟨t1, i1, [], 0⟩, ⟨t2, i2, [], 0⟩] scope pos) 2 i2) (fun _ _ h => h) hc rfl (fun _ _ _ => turn3_1 ..) (hs1 _) h1 (hi1 s H C cl fp) (hg1 s H C cl fp) (fun N1 pns1 σ3 H3 z1 I1 b1 =>
      clause_ok (Y := X.blk s H scope (compEnvC scope cl C X.env) fp) (B := last elt) (fun _ _ h => h) hc rfl (fun _ _ _ => turn3_2 ..) (hs2 _) h2 (hi2 s H C cl fp) (hg2 s H C cl fp) (fun N2 pns2 σ4 H4 z2 I2 b2 =>
        wpAny_mono (last_ok (Y := X.blk s H scope (compEnvC scope cl C X.env) fp) (fun _ _ h => h) (he s H C cl fp) (fun Y' e1 e2 e3 e4 => add Y' e1 e2 e3 e4) I2 b2) (fun _ z3 ⟨H5, I5, n⟩ => ⟨σ4, H5, I5, rfl, n⟩) fun _ _ h => h) I1 b1) I h) hs
/-- ints -/
def askI (w : World) : Ask := fun D y H N => ∃ (k : Int) (S : Int → Bool) (n : Nat), y = .int k ∧ H D = some (SetO w D S n) ∧ n + 1 < scanBound ∧ N (upd H D (SetO w D (grown S k) (grownN S k n)))
theorem add_I : AddOk X (askI X.w) := fun Y ep ew _ _ pns σ H z D y u N I r ⟨k, S, n, ey, hD, few, nx⟩ => by
  subst ey
  obtain ⟨t, rfl⟩ := r
  rw [← ew] at hD nx
  exact add_int (X := Y) I hD few fun z1 I1 => ⟨_, I1, nx⟩
theorem new_I : NewOk X (fun D => SetO X.w D (fun _ => false) 0) := fun h H => setO_new (setR_fresh X.w)
end
end Cl
/-! ## sets of tuples of ints that are filled one by one, and how many there are -/
namespace Cl
open PySem PySem.Spec PyProof.Rows L2 Vk Tb
section
variable {X : Cx}
theorem new_T : NewOk X (fun D => SetTO X.prog X.w D []) := fun h H => setTO_new (setTR_fresh (Heap.get?_push_size _ rfl)).t0
def askT (X : Cx) : Ask := fun D y H N => ∃ (x : Addr) (k : List Int) (L : List (Addr × List Int)), y = .ref x ∧ SqT X.K H x (k.map V.int) ∧ H D = some (SetTO X.prog X.w D L) ∧ (∀ p ∈ L, SqT X.K H p.1 (p.2.map V.int)) ∧ L.length + 1 < 64 ∧
  ∀ L', (k ∈ L.map (·.2) → L' = L) → (k ∉ L.map (·.2) → L'.Perm ((x, k) :: L)) → N (upd H D (SetTO X.prog X.w D L'))
theorem add_T (hu : X.A.units + 1 < cLine) : AddOk X (askT X) := fun Y ep ew ek ea pns σ H z D y u N I r ⟨x, k, L, ey, hx, hD, hL, few, nx⟩ => by
  subst ey
  cases r
  rw [← ep, ← ew] at hD
  rw [← ek] at hx
  have R0 : SetT0 Y.prog Y.w z.heap D L := (I.hok D _ hD).1
  obtain ⟨es, ep', t, R⟩ := R0.full fun p hp => I.isT (by rw [ek]; exact hL p hp)
  have hT := I.isT hx
  obtain ⟨o, ho, hex, hd⟩ := R.ob
  refine wpAny_call_entry PySem.F.slot_set_add (show z.TypeIs (.ref D) "set" from ⟨o, ho, hex.1⟩) PySem.F.entry_set_add ?_ (PySem.F.args_set_add_2 _ _)
  unfold Builtin.«set.add» Builtin.Frozenset.oneOther
  simp only [List.isEmpty_nil, bind_assoc]
  unfold Builtin.Frozenset.addrOf setAdd
  refine wpAny_bind (wpAny_pure ?_)
  try dsimp only
  refine wpAny_bind (wpAny_pure ?_)
  try dsimp only
  refine wpAny_bind (wpAny_holding (wpAny_bind (wpAny_pyHash_tuple (by rw [ea]; exact hu) hT ?_)))
  refine add_at (s := { z with toks := z.toks + (k.length + 1) }) R hT (by rw [ea]; exact hu) few fun b h' L' es' ep2 t' sb R' c1 c2 => ?_
  show wpAny _ _ (ret Value.none) _ _ _
  have he : ∃ v, h'.get? D = some v := let ⟨o, ho, _⟩ := R'.ob; ⟨o, ho⟩
  have I' : Inv Y pns σ (upd H D (SetTO Y.prog Y.w D L')) { z with heap := h', toks := z.toks + (k.length + 1) } := I.write (e := D) (t' := z.toks + (k.length + 1)) (by rw [hD]; trivial) (.inl rfl) (fun b v nb hv => (sb.2 b nb).trans hv) he (setTO_new R'.t0)
  refine wpAny_pure ⟨_, rfl, _, I', ?_⟩
  rw [ep, ew]
  exact nx L' c1 c2
/-- len of such a set -/
theorem call_lenT : CallR X (.builtin "len") (fun vs H Q => ∃ (a : Addr) (L : List (Addr × List Int)), vs = [.ref a] ∧ H a = some (SetTO X.prog X.w a L) ∧ (∀ p ∈ L, SqT X.K H p.1 (p.2.map V.int)) ∧ Q (.int (L.length : Nat)) H) := by
  intro pns s σ H vs us Q I rv ⟨a, L, ev, ha, hL, q⟩
  subst ev
  obtain rfl := Vals.ref1 rv
  have R0 : SetT0 X.prog X.w s.heap a L := (I.hok a _ ha).1
  obtain ⟨es, ep, t, R⟩ := R0.full fun p hp => I.isT (hL p hp)
  obtain ⟨o, ho, hex, hd⟩ := R.ob
  have sz := R.size
  have fw := R.few
  exact call_len_set ho hex hd R.fits (by omega) ⟨.int (L.length : Nat), H, I.tok _, ⟨_, by rw [sz]⟩, q⟩
end
end Cl
namespace Vg
open PySem PySem.Spec PyProof.Rows L2
/-! ## promises of defs that are called while nothing is being shown: room, and no repr under way -/
structure Gd (k : Nat) (A : Around) : Prop where
  rm : Room k A
  gd : A.guards = some []
theorem Gd.mono {j k : Nat} {A : Around} (g : Gd k A) (h : j ≤ k) : Gd j A := ⟨g.rm.mono h, g.gd⟩
structure FnG (P : Program) (w : World) (K : PySem.W.Frag) (mg : Str → Option Value) (base : Heap) (CX : CXT) (k : Nat) (f : Addr) (fd : FuncData) (ps : List Str) (sp : Sp) : Prop where
  len : ∀ vs H Q E, sp vs H Q E → vs.length = ps.length
  go : ∀ (A : Around) (outer : List Env) (s : Shared) (H : Hp) (args : Args) (us : List Value) (vs : List V) (Q : VK) (E : XK), Gd k A →
    Env0 P w K mg base A outer s H → BindsTo s fd args (ps.zip us) → Vals vs us → sp vs H Q E → codeAny (model P w) A (.call (.ref f) args) (CR CX outer P w H s Q E) s
section
variable {P : Program} {w : World} {K : PySem.W.Frag} {mg : Str → Option Value} {base : Heap} {CX : CXT}
theorem FnG.of {k : Nat} {f : Addr} {fd : FuncData} {ps : List Str} {sp : Sp} (F : FnOk P w K mg base CX k f fd ps sp) : FnG P w K mg base CX k f fd ps sp :=
  ⟨F.len, fun A outer s H args us vs Q E g => F.run A outer s H args us vs Q E g.rm⟩
def flowV : Flow → Value
  | .ret v => v
  | _ => .none
/-- a body's end is its call's end -/
theorem body_end {N : List Str} {qual : Str} {sc : Scope} {f : Addr} {cdv : Value} {A : Around} {outer : List Env} {s s' : Shared} {H : Hp} {Q : VK} {E : XK} {fl : Flow}
    (h : SP (cxOf CX P w K mg base N qual sc f cdv A outer s H E) [] { nx := fun _ H' => Q .non H', rt := Q } fl s') : CR CX outer P w H s Q E (.ok (.ret (flowV fl))) s' := by
  cases fl with
  | next => exact let ⟨_, H', J, q⟩ := h; ⟨.non, H', J.os, J.bare, J.base, J.hok, rfl, q⟩
  | ret u => exact let ⟨v, _, H', J, rv, q⟩ := h; ⟨v, H', J.os, J.bare, J.base, J.hok, rv, q⟩
  | brk => exact let ⟨_, _, _, q⟩ := h; q.elim
  | cont => exact let ⟨_, _, _, q⟩ := h; q.elim
/-- the body of a def, told of its room and that nothing is being shown -/
theorem okG {x qual : Str} {st : Stmt} {f : Addr} {fd : FuncData} {N ps : List Str} {k : Nat} {sp : Sp} (F : Fun K x qual st f fd) (S : FnScope N ps (defScope st)) (len : ∀ vs H Q E, sp vs H Q E → vs.length = ps.length)
    (body : ∀ (cdv : Value) (A : Around) (outer : List Env) (s : Shared) (H : Hp) (vs : List V) (Q : VK) (E : XK), Gd k (A.deeper (envOfC qual (defScope st) s.heap.objs.size f cdv)) → sp vs H Q E →
      ∃ t, PSs (cxOf CX P w K mg base N qual (defScope st) f cdv A outer s H E) (defBody st) t ∧ t { nx := fun _ H' => Q .non H', rt := Q } (L2.start N vs) H) : FnG P w K mg base CX (k + 1) f fd ps sp := by
  obtain ⟨oc, od, kV, doc, pm, an, cdv, ct, osl, rfl, lk, hcd⟩ := F.ex
  refine ⟨len, fun A outer s H args us vs Q E g e0 hb r hsp => ?_⟩
  have old : ∀ b o, base.get? b = some o → s.heap.get? b = some o := fun b o e => (e0.bs b o e).1
  have kinds : ∀ y ∈ ps.zip us, (defScope st).names.lookup y.1 = some .local ∨ ((defScope st).names.lookup y.1 = some .cell ∧ ((cellsFrom (s.heap.objs.size + 1) (defScope st).names []).lookup y.1).isSome = true) := by
    rintro ⟨n, v⟩ hy
    exact (S.par n (List.of_mem_zip hy).1).imp (fun q => q) fun q => ⟨q, PySem.W.cellsFrom_some _ _ _ (.inl q)⟩
  have bound := hb
  refine codeAny_call_function g.rm.depth (e0.mod.kin.keeps old _ _ lk) rfl S.co S.gen rfl (PySem.W.codeRec_of (e0.mod.kin.keeps old) hcd) (bound _ _ _ _ (wpAny_newFunctionEnv_cells S.kind kinds ?_))
  intro env he s1 x
  subst he
  obtain ⟨t, ht, hq⟩ := body cdv A outer s H vs Q E ⟨g.rm.deeper _, g.gd⟩ hsp
  exact ⟨(e0.mod.nolimit.keeps old).keeps x.toInCall.keep, codeAny_func (wpAny_mono (ht.run [] s1 _ H _ (inv_start S g.rm.hd e0 (len _ _ _ _ hsp) r x) hq) (fun fl s' hs => by
    have z := body_end hs
    cases fl <;> exact z) fun e s' hs => hs)⟩
end
section
variable {X : Cx} {CX : CXT} {k : Nat} {f : Addr} {fd : FuncData} {ps : List Str} {sp : Sp} {dvs : List V} {ds : List Value} {E : XK} {x : Str} {p pos : Pos} {e : Expr} {es : List Expr} {t : TA}
/-- such a def called by its name -/
theorem pe_callG (F : FnG X.prog X.w X.K X.mg X.base CX k f fd ps sp) (room : Gd k X.A) (isg : Gl X x) (hm : X.mg x = some (.ref f)) (kp : PySem.W.keepIn X.K (.ref f) = true) (hb : Binds X.K fd ps ds) (hd : Vals dvs ds) (pa : Passes CX X E)
    (ha : PA X (e :: es) t) (h3 : (x == ("__debug__" : Str)) = false := by decide) (h4 : starEach (e :: es) X.env = (false, eval e X.env) :: starEach es X.env := by rfl) (h5 : (backTo pos (starEach es X.env)).any (·.1) = false := by rfl) :
    PE X (.Call (.Name x p) (e :: es) [] pos) (tCall sp dvs E t) := by
  refine ⟨fun pins s σ H Q I h => wpAny_Call_Name_kw (ld_glob I isg hm (PySem.W.callWith_K (h₀ := X.base) I.ok.mod.kin kp (thn (ha.run pos pins s σ H _ I h) ?_) h4 h5) h3)⟩
  rintro us s1 ⟨vs, H1, I1, r, q⟩
  have r2 : Vals (vs ++ dvs) (us ++ ds) := r.append hd
  have hl : (us ++ ds).length = ps.length := by
    rw [← r2.length]
    exact F.len _ _ _ _ q
  refine ⟨I1.kIn, wpAny_call (codeAny_mono (F.go X.A X.stack s1 H1 ⟨us, []⟩ _ _ Q E room I1.env0 (hb s1 us I1.kIn hl) r2 q) ?_)⟩
  rintro (er | fl) s' hq
  · exact pa pins σ H1 s1 er s' I1 hq
  · cases fl with
    | ret u => exact I1.after hq
    | _ => exact hq.elim
end
end Vg
namespace Vx
open PySem PySem.Spec PyProof.Rows L2
/-! ## repr of data, while nothing is being shown -/
inductive Dr (K : PySem.W.Frag) (H : Hp) : V → PyData → Prop
  | dp {v : V} {d : PyData} (h : Dp K H v d) : Dr K H v d
  | em {p : Addr} (h : H p = some (.dK [])) : Dr K H (.ref p) (.dict [])
mutual
theorem dp_plain {K : PySem.W.Frag} {H : Hp} : ∀ (d : PyData) (v : V), Dp K H v d → d.hasDict = false
  | .none, _, h => rfl
  | .bool _, _, h => rfl
  | .int _, _, h => rfl
  | .str _, _, h => rfl
  | .list ds, _, h => by
    cases h with
    | lst _ ha => exact dp_plainAll ds _ ha
  | .tuple ds, _, h => by
    cases h with
    | tup _ ha => exact dp_plainAll ds _ ha
  | .dict _, _, h => by cases h
theorem dp_plainAll {K : PySem.W.Frag} {H : Hp} : ∀ (ds : List PyData) (vs : List V), DpAll K H vs ds → PyData.hasDictAll ds = false
  | [], _, h => rfl
  | d :: ds, _, h => by
    cases h with
    | cons h1 h2 =>
      have e1 := dp_plain d _ h1
      have e2 := dp_plainAll ds _ h2
      simp only [PyData.hasDictAll, e1, e2, Bool.or_false]
end
section
variable {X : Cx}
def rRepr (K : PySem.W.Frag) : List V → Hp → VK → Prop := fun xs H Q => ∃ (v : V) (d : PyData), xs = [v] ∧ Dr K H v d ∧ d.showable = true ∧ d.depth ≤ 60 ∧ d.shown.length ≤ sizeLine ∧ Q (.str d.shown) H
theorem call_repr_data {k : Nat} (hr : Room k X.A) (hg : X.A.guards = some []) : CallR X (.builtin "repr") (rRepr X.K) := by
  intro ps s σ H xs us Q I rel h
  obtain ⟨v, d, rfl, hd, hs, hdp, hl, q⟩ := h
  obtain ⟨u, rfl, ru⟩ := vals1 rel
  have hu := hr.units
  have more : ∀ (h' : Heap) (t : Tok) (tk : Nat), (∀ b o, s.heap.get? b = some o → h'.get? b = some o) → EP X ps σ Q (.str d.shown t) { s with heap := h', toks := tk } := fun h' t tk k =>
    ⟨.str d.shown, H, I.un (t' := tk) (Un.kept k) (I.hok.kept k), ⟨t, rfl⟩, q⟩
  have big : ∀ (a : Addr) (as : List Addr), u = .ref a → Reads s.heap (.ref a) d as → (d.hasDict = true → sysModules ∉ as) → wpAny (model X.prog X.w) X.A (call (.builtin "repr") [u]) (EP X ps σ Q) X.xe s := by
    rintro a as rfl hR hm
    exact repr_of_reads' hR hs hm hg (by omega) (fun b o z => z) (fun h' t tk k => more h' t tk k) hl
  cases hd with
  | em e =>
    rename_i p
    cases (show u = Value.ref p from ru)
    obtain ⟨_, hsys, vs, rv, o, es, ep, h1, h2, h3, _, h4, _⟩ := (show ObjOk X.prog X.w H s.heap p (.dK []) from I.hok p _ e)
    cases rv
    have he : es.toList = [] := by
      revert h4
      generalize es.toList = l
      intro h4
      cases h4
      rfl
    refine big p _ rfl (.dict h1 h2.1 h3 (as := []) (bs := []) (by rw [he]; exact .nil) (by rw [he]; exact .nil)) fun _ m => ?_
    rw [List.append_nil, List.mem_singleton] at m
    rw [m, beq_self_eq_true] at hsys
    cases hsys
  | dp e =>
    have hno := dp_plain d v e
    cases e with
    | non =>
      cases ru
      exact PySem.P.repr_of_none (more s.heap _ _ fun _ _ z => z)
    | bl b =>
      cases ru
      exact PySem.P.repr_of_bool (more s.heap _ _ fun _ _ z => z)
    | int i =>
      obtain ⟨t, rfl⟩ := ru
      exact PySem.P.repr_of_int (of_decide_eq_true hs) (more s.heap _ _ fun _ _ z => z)
    | str x =>
      obtain ⟨t, rfl⟩ := ru
      exact PySem.P.repr_of_str (more s.heap _ _ fun _ _ z => z) hl
    | lst hS ha =>
      rename_i p xs ds
      cases (show u = Value.ref p from ru)
      obtain ⟨as, hR⟩ := Dp.reads I _ _ _ (.lst hS ha) (show RelV (.ref p) (.ref p) from rfl)
      exact big p as rfl hR (by rw [hno]; exact fun z => by cases z)
    | tup hS ha =>
      rename_i p xs ds
      cases (show u = Value.ref p from ru)
      obtain ⟨as, hR⟩ := Dp.reads I _ _ _ (.tup hS ha) (show RelV (.ref p) (.ref p) from rfl)
      exact big p as rfl hR (by rw [hno]; exact fun z => by cases z)
end
end Vx
namespace Vg
open PySem PySem.Spec PyProof.Rows L2
/-- the law's call, by a promise for callers in whom nothing is being shown -/
theorem law_callG {P : Program} {w : World} {K : PySem.W.Frag} {mg mb : Str → Option Value} {k : Nat} {fa a : Addr} {fd : FuncData} {x : Str} {sp : Sp} {z : Shared} {vs : List Value} {ns : List Int} (inK : K.In z.heap) (g1 : z.heap.Ns mainGlobals mg) (g2 : z.heap.Ns builtinsNs mb) (g3 : ∀ x : Str, x ≠ "__name__" → mb x = bootBuiltins x) (g4 : z.heap.NoLimit) (g5 : z.gens = #[])
    (ha : z.heap.get? a = some { cls := .type "list", data := .seq vs.toArray }) (hi : IntsAre vs ns) (hl : ns.length ≤ sizeLine) (room : Gd k callerA) (F : ∀ base : Heap, K.In base → base.Ns mainGlobals mg → FnG P w K mg base CX0 k fa fd [x] sp) (bind : ∀ (s : Shared) (u : Value), BindsTo s fd ⟨[u], []⟩ [(x, u)])
    (hsp : ∀ H : Hp, SqL K H a (ns.map V.int) → sp [.ref a] H (fun v _ => v = .bl true) fun _ _ _ => False) :
    codeAny (model P w) callerA (.call (.ref fa) ⟨[.ref a], []⟩) (fun r s' => r = .ok (.ret (.bool true)) ∧ OldK z.heap s'.heap ∧ s'.os = z.os ∧ AllBare s'.gens) z := by
  have rv := vals_ints hi
  have lv := hi.length
  have go : ∀ H : Hp, SqL K H a (ns.map V.int) → HOk P w H z.heap → (∀ b u, H b = some u → b = a ∧ K.lookup a = none ∧ ∃ o xs, u = .frz o (.lst xs)) →
      codeAny (model P w) callerA (.call (.ref fa) ⟨[.ref a], []⟩) (fun r s' => r = .ok (.ret (.bool true)) ∧ OldK z.heap s'.heap ∧ s'.os = z.os ∧ AllBare s'.gens) z := fun H sq ok only => by
    have keepD : ∀ {b : Addr} {o : Obj} {es : Array DictEntry} {ep : Nat}, z.heap.get? b = some o → o.data = .dict es ep → (hidT z.heap H).get? b = some o := fun {b o es ep} e d => hidT_get e (by
      cases q : H b with
      | none => rfl
      | some u =>
        obtain ⟨rfl, _⟩ := only b u q
        rw [ha] at e
        cases e
        cases (show Data.seq vs.toArray _ = Data.dict es ep from d))
    have ns' : ∀ {b : Addr} {m : Str → Option Value}, z.heap.Ns b m → (hidT z.heap H).Ns b m := fun ⟨o, es, ep, e, d, r⟩ => ⟨o, es, ep, keepD e d, d, r⟩
    have kb : K.In (hidT z.heap H) := fun b o e => hidT_get (inK b o e) (by
      cases q : H b with
      | none => rfl
      | some u =>
        obtain ⟨rfl, n, _⟩ := only b u q
        rw [n] at e
        cases e)
    have e0 : Env0 P w K mg (hidT z.heap H) callerA [] z H := ⟨rfl, ⟨kb, ns' g1, ⟨mb, ns' g2, g3⟩, let ⟨mc, h1, h2⟩ := g4; ⟨mc, ns' h1, h2⟩⟩, fun b o e => of_hidT e, Nat.le_of_eq (hidT_size _ _), trivial, fun b m => absurd (show b ∈ ([] : List Addr) from m) (by simp), ok, .of_eq g5⟩
    refine codeAny_mono ((F _ kb (ns' g1)).go callerA [] z H ⟨[.ref a], []⟩ [.ref a] [.ref a] _ _ room e0 (bind z (.ref a)) (.cons rfl .nil) (hsp H sq)) fun r s' h => ?_
    rcases r with e | fl
    · exact False.elim h
    · cases fl with
      | ret u =>
        obtain ⟨v, H', os, bare, un, ok', r', q⟩ := h
        obtain rfl : v = .bl true := q
        obtain rfl : u = Value.bool true := r'
        refine ⟨rfl, OldK.of_keep fun b o e => ?_, os, bare⟩
        cases q : H b with
        | none => exact un.keep b o e q (fun m => absurd (show b ∈ ([] : List Addr) from m) (by simp)) (by simp)
        | some u =>
          obtain ⟨_, _, ob, xs, rfl⟩ := only b u q
          have e1 := (ok b _ q).1
          have e2 := (ok' b _ (un.frzs b ob _ q)).1
          rw [e] at e1
          cases e1
          exact e2
      | _ => exact False.elim h
  cases hk : K.lookup a with
  | some o =>
    obtain rfl := Option.some.inj ((inK a o hk).symm.trans ha)
    exact go (fun _ => none) (.inr ⟨_, vs.toArray, _, hk, rfl, rfl, rfl, by rw [List.size_toArray, lv]; exact hl, by simpa using rv⟩) (fun b u h => nomatch h) fun b u h => nomatch h
  | none =>
    have only : ∀ b u, (if b = a then some (HO.frz { cls := .type "list", data := .seq vs.toArray } (.lst (ns.map V.int))) else none) = some u → b = a ∧ u = .frz { cls := .type "list", data := .seq vs.toArray } (.lst (ns.map V.int)) := fun b u h => by
      by_cases e : b = a
      · rw [if_pos e] at h
        exact ⟨e, (Option.some.inj h).symm⟩
      · rw [if_neg e] at h
        cases h
    refine go (fun b => if b = a then some (.frz { cls := .type "list", data := .seq vs.toArray } (.lst (ns.map V.int))) else none) (.inl (.inr ⟨_, if_pos rfl⟩)) (fun b u h => ?_) fun b u h => ⟨(only b u h).1, hk, _, _, (only b u h).2⟩
    obtain ⟨rfl, rfl⟩ := only b u h
    exact ⟨ha, by rw [List.length_map]; exact hl, vs, _, rv, ha⟩
/-- the end of a law's row, by such a promise -/
theorem walk_ofG {l : PySem.W.OpenLaw} {n k : Nat} {q : Program} {loose : List Str} {XP : (Str → Option Value) → Heap → Prop} {YP : World → Heap → Prop} {d : DefRec} {K : Params → PySem.W.Frag} {sp : World → Sp} {x : Str} (hn : l.most = some n) (hn2 : n ≤ sizeLine) (hdf : d.params.defaults = []) (room : Gd k callerA) (hY : ∀ (w : World) (h : Heap), YP w h → (K w.params).In h)
    (F : ∀ (w : World) (mg : Str → Option Value) (fa : Addr) (h : Heap), (K w.params).In h → h.Ns mainGlobals mg → mg d.name = some (.ref fa) → ∃ fd : FuncData, (∀ (s : Shared) (u : Value), BindsTo s fd ⟨[u], []⟩ [(x, u)]) ∧ ∀ base : Heap, (K w.params).In base → base.Ns mainGlobals mg → FnG l.prog w (K w.params) mg base CX0 k fa fd [x] (sp w))
    (hsp : ∀ (w : World) (H : Hp) (a : Addr) (ns : List Int), ns.length ≤ n → SqL (K w.params) H a (ns.map V.int) → sp w [.ref a] H (fun v _ => v = .bl true) fun _ _ _ => False) : PySem.W.WalkO q loose XP YP l.row.toRowW d [] (fun f vs => PySem.call f vs) := by
  refine Att.attach_call hn hdf fun w s₀ s₁ mg mb fa o pm cd doc a vs ns G Y ho hd hcd hmg hobj hints hlen hg => ?_
  obtain ⟨fd, hb, hF⟩ := F w mg fa _ (hY w _ Y) G.T.g hmg
  exact law_callG (hY w _ Y) G.T.g G.T.b G.T.builtins G.T.nolimit hg hobj hints (Nat.le_trans hlen hn2) room hF hb fun H hS => hsp w H a ns hlen hS
end Vg
namespace Cl
open PySem PySem.Spec PyProof.Rows L2 Vk Tb
/-! ### defs with a star -/
section
variable {X : Cx} {CX : CXT} {k : Nat} {f : Addr} {sp : Sp} {E : XK} {x : Str} {p pos : Pos} {e : Expr} {es : List Expr} {t : TA}
theorem pe_callR (F : FnR X.prog X.w X.K X.mg X.base CX k f sp) (room : Room k X.A) (isg : Gl X x) (hm : X.mg x = some (.ref f)) (kp : PySem.W.keepIn X.K (.ref f) = true) (pa : Passes CX X E) (ha : PA X (e :: es) t) (h3 : (x == ("__debug__" : Str)) = false := by decide)
    (h4 : starEach (e :: es) X.env = (false, eval e X.env) :: starEach es X.env := by rfl) (h5 : (backTo pos (starEach es X.env)).any (·.1) = false := by rfl) : PE X (.Call (.Name x p) (e :: es) [] pos) (tCall sp [] E t) :=
  ⟨fun pins s σ H Q I h => wpAny_Call_Name_kw (ld_glob I isg hm (PySem.W.callWith_K (h₀ := X.base) I.ok.mod.kin kp (thn (ha.run pos pins s σ H _ I h) fun us s1 ⟨vs, H1, I1, r, q⟩ => ⟨I1.kIn, wpAny_call (run_fnR F room pa I1 r (show sp vs H1 Q E from (List.append_nil vs) ▸ q))⟩) h4 h5) h3)⟩
theorem pe_callR0 (F : FnR X.prog X.w X.K X.mg X.base CX k f sp) (room : Room k X.A) (isg : Gl X x) (hm : X.mg x = some (.ref f)) (kp : PySem.W.keepIn X.K (.ref f) = true) (pa : Passes CX X E) (h3 : (x == ("__debug__" : Str)) = false := by decide) : PE X (.Call (.Name x p) [] [] pos) (tCall sp [] E tNil) :=
  ⟨fun pins s σ H Q I h => wpAny_Call_Name_kw (ld_glob I isg hm (PySem.W.callWith_K0 I.kIn kp (wpAny_call (run_fnR (us := []) (vs := []) F room pa I .nil h))) h3)⟩
end
theorem fun_star {P : Program} {w : World} {K : PySem.W.Frag} {mg : Str → Option Value} {base : Heap} {x qual pv : Str} {st : Stmt} {f : Addr} {fd : FuncData} {N : List Str} {k : Nat} {sp : Sp} (F : Fun K x qual st f fd) (S : FnScope N [pv] (defScope st))
    (hb : ∀ (kV doc pm : Value) (an : Option Addr) (cdv ct : Value) (rest : List Value), bindArgs (PySem.W.fnOf x qual (defArgs st) (defBody st) (defScope st) .none kV doc pm an cdv ct) ⟨rest, []⟩ = (newTuple rest >>= fun t => pure [(pv, t)]))
    (body : ∀ (cdv : Value) (A : Around) (outer : List Env) (s : Shared) (H : Hp) (vs : List V) (Q : VK) (E : XK), Room k (A.deeper (envOfC qual (defScope st) s.heap.objs.size f cdv)) → sp vs H Q E →
      ∃ t, PSs (cxOf CX0 P w K mg base N qual (defScope st) f cdv A outer s H E).nox (defBody st) t ∧ t { nx := fun _ H' => Q .non H', rt := Q } (L2.start N vs) H) :
    FnR P w K mg base CX0 (k + 1) f (fun vs H Q E => vs.length ≤ sizeLine ∧ ∀ p, H p = none → sp [V.ref p] (upd H p (.tup vs)) Q E) := by
  obtain ⟨oc, od, kV, doc, pm, an, cdv, ct, osl, rfl, lk, hcd⟩ := F.ex
  refine FnR.imp (StX.fn_star (ps := []) (pv := pv) lk hcd S StX.cxUp_none (fun us rest h => ?_) fun A outer s H vs Q E hr hsp => ?_) fun vs H Q E ⟨h1, h2⟩ => ⟨[], vs, rfl, rfl, h1, h2⟩
  · obtain rfl := List.eq_nil_of_length_eq_zero h
    exact hb kV doc pm an cdv ct rest
  · obtain ⟨t, h, q⟩ := body cdv A outer s H vs Q E hr hsp
    exact ⟨t, h.nox, q⟩
end Cl
namespace Cl
open PySem PySem.Spec PyProof.Rows L2 Vk Tb
theorem call_dictTK {X : Cx} {K : PySem.W.Frag} (e : X.K = K) (hcalm : X.calm = true) : CallR X (.type "dict") (fun vs H Q => ∃ (a : Addr) (o : Obj) (ps : List Addr) (kvs : List (Key × V)), vs = [.ref a] ∧ o.dict = none ∧ H a = some (.frz o (.tup (ps.map V.ref))) ∧
    Paired (fun p kv => SqT K H p [kV kv.1, kv.2]) ps kvs ∧ ∀ p, H p = none → Q (.ref p) (upd H p (.dK (mergeK [] kvs)))) := e ▸ call_dictT hcalm
theorem call_tupleFK {X : Cx} {K : PySem.W.Frag} (e : X.K = K) : CallR X (.type "tuple") (fun vs H Q => ∃ p ys, vs = [.ref p] ∧ SqL K H p ys ∧ ∀ l o, H l = none → o.dict = none → Q (.ref l) (upd H l (.frz o (.tup ys)))) := e ▸ call_tupleF
theorem pi_tupK {X : Cx} {K : PySem.W.Frag} {tg l : Expr} {tl : TE} (e : X.K = K) (h : PE X l tl) : PI X tg l (iTup K tl) := e ▸ pi_tup h
theorem pi_listK {X : Cx} {K : PySem.W.Frag} {tg l : Expr} {tl : TE} (e : X.K = K) (h : PE X l tl) : PI X tg l (iList K tl) := e ▸ pi_list h
end Cl
namespace Tb
open PySem PySem.Spec PyProof.Rows L2 Vk RZ
/-! ## tables that keep colours apart -/
def vec (Ls : List Tb) (c : Int) : List Int := Ls.map fun L => look L c
def Sep (Ls : List Tb) : Prop := ∀ c d, vec Ls c = vec Ls d → c = d
def flat (Ls : List Tb) : List Int := Ls.flatMap fun L => L.flatMap fun p => [p.1, p.2]
theorem look_pair : ∀ {L : Tb} {d : Int}, look L d ≠ d → ∃ p ∈ L, p.1 = d ∧ p.2 = look L d
  | [], d, h => absurd rfl h
  | q :: L, d, h => by
    by_cases e : q.1 = d
    · exact ⟨q, List.mem_cons_self .., e, (if_pos e).symm⟩
    · have lk : look (q :: L) d = look L d := if_neg e
      rw [lk] at h ⊢
      obtain ⟨p, m, r⟩ := look_pair h
      exact ⟨p, List.mem_cons_of_mem _ m, r⟩
theorem mem_flat {Ls : List Tb} {L : Tb} {p : Int × Int} (h1 : L ∈ Ls) (h2 : p ∈ L) : p.1 ∈ flat Ls ∧ p.2 ∈ flat Ls :=
  ⟨List.mem_flatMap.mpr ⟨L, h1, List.mem_flatMap.mpr ⟨p, h2, by simp⟩⟩, List.mem_flatMap.mpr ⟨L, h1, List.mem_flatMap.mpr ⟨p, h2, by simp⟩⟩⟩
theorem vec_at {Ls : List Tb} {c d : Int} (h : vec Ls c = vec Ls d) {L : Tb} (m : L ∈ Ls) : look L c = look L d := by
  induction Ls with
  | nil => cases m
  | cons M Ls ih =>
    obtain ⟨h1, h2⟩ := List.cons.inj (show look M c :: vec Ls c = look M d :: vec Ls d from h)
    rcases List.mem_cons.mp m with rfl | m
    · exact h1
    · exact ih h2 m
theorem vec_out {Ls : List Tb} {c d : Int} {ns : List Int} (ne : Ls ≠ []) (cover : ∀ x ∈ flat Ls, x ∈ ns) (h : vec Ls c = vec Ls d) (hc : c ∉ ns) : c = d := by
  obtain ⟨L, Ls', rfl⟩ : ∃ L Ls', Ls = L :: Ls' := by
    cases Ls with
    | nil => exact absurd rfl ne
    | cons L Ls' => exact ⟨L, Ls', rfl⟩
  have m : L ∈ L :: Ls' := List.mem_cons_self ..
  have e := vec_at h m
  have ec : look L c = c := by
    by_cases z : look L c = c
    · exact z
    · obtain ⟨p, mp, e1, _⟩ := look_pair z
      exact absurd (cover _ (e1 ▸ (mem_flat m mp).1)) hc
  rw [ec] at e
  by_cases z : look L d = d
  · rw [e, z]
  · obtain ⟨p, mp, _, e2⟩ := look_pair z
    exact absurd (cover _ ((e2.trans e.symm) ▸ (mem_flat m mp).2)) hc
theorem sep_of {Ls : List Tb} {ns : List Int} (ne : Ls ≠ []) (cover : ∀ x ∈ flat Ls, x ∈ ns) (inj : (ns.map (vec Ls)).Nodup) : Sep Ls := fun c d h => by
  by_cases hc : c ∈ ns
  · by_cases hd : d ∈ ns
    · obtain ⟨i, hi, ei⟩ := List.mem_iff_getElem.mp hc
      obtain ⟨j, hj, ej⟩ := List.mem_iff_getElem.mp hd
      have : i = j := by
        refine (List.getElem_inj (h₀ := by rw [List.length_map]; exact hi) (h₁ := by rw [List.length_map]; exact hj) inj).mp ?_
        rw [List.getElem_map, List.getElem_map, ei, ej]
        exact h
      subst this
      rw [← ei, ← ej]
    · exact (vec_out ne cover h.symm hd).symm
  · exact vec_out ne cover h hc
theorem nodup_sep {Ls : List Tb} {ns : List Int} (h : Sep Ls) (nd : ns.Nodup) : (ns.map (vec Ls)).Nodup := List.pairwise_map.mpr (nd.imp fun n e => n (h _ _ e))
theorem sep_iff {Ls : List Tb} {ns : List Int} (ne : Ls ≠ []) (cover : ∀ x ∈ flat Ls, x ∈ ns) (nd : ns.Nodup) : (ns.map (vec Ls)).Nodup ↔ Sep Ls := ⟨sep_of ne cover, fun h => nodup_sep h nd⟩
theorem sep_nil : ¬ Sep [] := fun h => absurd (h 0 1 rfl) (by decide)
theorem sep_perm {Ls Ms : List Tb} (h : ∀ L, L ∈ Ls ↔ L ∈ Ms) : Sep Ls ↔ Sep Ms := by
  have : ∀ {Ls Ms : List Tb}, (∀ L, L ∈ Ls ↔ L ∈ Ms) → Sep Ls → Sep Ms := fun {Ls Ms} h s c d e => s c d (List.map_congr_left fun L m => vec_at e ((h L).mp m))
  exact ⟨this h, this fun L => (h L).symm⟩
/-- tables in the heap -/
structure TbOk (H : Hp) (a : Addr) (L : Tb) : Prop where
  pt : ∃ ts, PT H a ts L
  good : Good L
  few : L.length ≤ 20
def Tbs (H : Hp) (as : List Addr) (Ls : List Tb) : Prop := Paired (TbOk H) as Ls
theorem TbOk.same {H H' : Hp} {a : Addr} {L : Tb} (e : Same H H') (h : TbOk H a L) : TbOk H' a L := ⟨let ⟨ts, p⟩ := h.pt; ⟨ts, p.same e⟩, h.good, h.few⟩
theorem TbOk.but {H H' : Hp} {a q : Addr} {L : Tb} (e : But [q] H H') (hq : Pool H q) (h : TbOk H a L) : TbOk H' a L := ⟨let ⟨ts, p⟩ := h.pt; ⟨ts, p.but e hq⟩, h.good, h.few⟩
theorem prd_imp {α β : Type} {F G : α → β → Prop} (h : ∀ a b, F a b → G a b) : ∀ {xs : List α} {ys : List β}, Paired F xs ys → Paired G xs ys
  | _, _, .nil => .nil
  | _, _, .cons a t => .cons (h _ _ a) (prd_imp h t)
theorem Tbs.same {H H' : Hp} {as : List Addr} {Ls : List Tb} (e : Same H H') (h : Tbs H as Ls) : Tbs H' as Ls := prd_imp (fun _ _ => TbOk.same e) h
theorem Tbs.but {H H' : Hp} {q : Addr} {as : List Addr} {Ls : List Tb} (e : But [q] H H') (hq : Pool H q) (h : Tbs H as Ls) : Tbs H' as Ls := prd_imp (fun _ _ => TbOk.but e hq) h
/-- how many of a row's images are different, one after another -/
theorem count_step {f : Int → List Int} {ns : List Int} {i : Nat} {c : Int} {L L' : List (Addr × List Int)} {x : Addr} (hc : ns[i]? = some c) (len : L.length ≤ i) (eq : L.length = i ↔ ((ns.take i).map f).Nodup) (mem : ∀ v, v ∈ L.map (·.2) ↔ v ∈ (ns.take i).map f)
    (c1 : f c ∈ L.map (·.2) → L' = L) (c2 : f c ∉ L.map (·.2) → L'.Perm ((x, f c) :: L)) :
    L'.length ≤ i + 1 ∧ (L'.length = i + 1 ↔ ((ns.take (i + 1)).map f).Nodup) ∧ (∀ v, v ∈ L'.map (·.2) ↔ v ∈ (ns.take (i + 1)).map f) := by
  have tk : (ns.take (i + 1)).map f = (ns.take i).map f ++ [f c] := by rw [List.take_add_one, hc, List.map_append]; rfl
  rw [tk]
  by_cases m : f c ∈ L.map (·.2)
  · obtain rfl := c1 m
    refine ⟨by omega, ⟨fun h => by omega, fun h => ?_⟩, fun v => ?_⟩
    · exact absurd rfl ((List.nodup_append.mp h).2.2 _ ((mem _).mp m) _ (by simp))
    · rw [List.mem_append, mem v]
      refine ⟨.inl, fun z => z.elim id fun y => ?_⟩
      have : v = f c := by simpa using y
      exact this ▸ (mem _).mp m
  · have p := c2 m
    have pl : L'.length = L.length + 1 := p.length_eq
    have n : f c ∉ (ns.take i).map f := fun z => m ((mem _).mpr z)
    refine ⟨by omega, ⟨fun h => ?_, fun h => ?_⟩, fun v => ?_⟩
    · refine List.nodup_append.mpr ⟨eq.mp (by omega), by simp, fun a ha b hb e => ?_⟩
      have : b = f c := by simpa using hb
      exact n (this ▸ e ▸ ha)
    · have := eq.mpr (List.nodup_append.mp h).1
      omega
    · rw [(p.map (·.2)).mem_iff, List.map_cons, List.mem_cons, mem v, List.mem_append]
      constructor
      · rintro (z | z)
        · exact .inr (by simp [z])
        · exact .inl z
      · rintro (z | z)
        · exact .inr z
        · exact .inl (by simpa using z)
end Tb
namespace Cl
open PySem PySem.Spec PyProof.Rows L2 Vk Tb RZ
section
variable {K : PySem.W.Frag} {a : Addr} {xs : List V} {vs : List Nat} {σ : L2.St} {g : TG} {body : (Hp → Prop) → L2.St → Hp → Prop} {Nx : Hp → Prop} {H : Hp}
theorem lp_tup (Pv : Nat → Hp → Prop) (h0 : Pv 0 H) (hl : ∀ i H, Pv i H → SqT K H a xs) (hs : ∀ i x H, xs[i]? = some x → Pv i H → g x (wipe σ vs) H fun σ2 H2 => wipe σ2 vs = wipe σ vs ∧ body (Pv (i + 1)) σ2 H2) (hd : ∀ H, Pv xs.length H → Nx H) : Lp (Itt K a) vs σ g body Nx H := by
  refine ⟨fun i m H => m + i = xs.length ∧ Pv i H, ⟨xs.length, rfl, h0⟩, fun i m H ⟨e, p⟩ => ?_⟩
  have q := hl i H p
  by_cases lt : i < xs.length
  · refine .inr ⟨⟨xs, xs[i], q, List.getElem?_eq_getElem lt⟩, Pv (i + 1), fun H' p' => ⟨xs.length - (i + 1), by omega, by omega, p'⟩, fun x H' y => ?_⟩
    obtain ⟨rfl, y⟩ := y
    exact hs i x _ (y xs q) p
  · have : i = xs.length := by omega
    exact .inl ⟨⟨xs, q, by omega⟩, hd H (this ▸ p)⟩
theorem lp_list (Pv : Nat → Hp → Prop) (h0 : Pv 0 H) (hl : ∀ i H, Pv i H → SqL K H a xs) (hs : ∀ i x H, xs[i]? = some x → Pv i H → g x (wipe σ vs) H fun σ2 H2 => wipe σ2 vs = wipe σ vs ∧ body (Pv (i + 1)) σ2 H2) (hd : ∀ H, Pv xs.length H → Nx H) : Lp (Itl K a) vs σ g body Nx H := by
  refine ⟨fun i m H => m + i = xs.length ∧ Pv i H, ⟨xs.length, rfl, h0⟩, fun i m H ⟨e, p⟩ => ?_⟩
  have q := hl i H p
  by_cases lt : i < xs.length
  · refine .inr ⟨⟨xs, xs[i], q, List.getElem?_eq_getElem lt⟩, Pv (i + 1), fun H' p' => ⟨xs.length - (i + 1), by omega, by omega, p'⟩, fun x H' y => ?_⟩
    obtain ⟨rfl, y⟩ := y
    exact hs i x _ (y xs q) p
  · have : i = xs.length := by omega
    exact .inl ⟨⟨xs, q, by omega⟩, hd H (this ▸ p)⟩
end
/-- a set of ints that has what is in W -/
def Has (w : World) (D : Addr) (H0 : Hp) (W : List Int) (H : Hp) : Prop := Same H0 H ∧ ∃ S n, H D = some (SetO w D S n) ∧ (∀ c, S c = true ↔ c ∈ W) ∧ n ≤ W.length
theorem Has.new {w : World} {D : Addr} {H : Hp} (n : H D = none) : Has w D H [] (upd H D (SetO w D (fun _ => false) 0)) := ⟨same_new n, _, _, upd_same, fun c => by simp, Nat.le_refl _⟩
theorem Has.put {w : World} {D : Addr} {H0 H : Hp} {W : List Int} {k : Int} {N : Hp → Prop} (n : H0 D = none) (few : W.length ≤ 1000) (h : Has w D H0 W H) (q : ∀ H', Has w D H0 (W ++ [k]) H' → N H') : askI w D (.int k) H N := by
  obtain ⟨s, S, m, hD, hS, hm⟩ := h
  refine ⟨k, S, m, rfl, hD, by unfold scanBound; omega, q _ ⟨same_mut s n, _, _, upd_same, fun c => ?_, ?_⟩⟩
  · rw [Bool.or_eq_true, hS c, decide_eq_true_eq, List.mem_append, List.mem_singleton]
  · rw [List.length_append]
    show (if S k = true then m else m + 1) ≤ W.length + 1
    split <;> omega
end Cl
namespace Tb
open PySem PySem.Spec PyProof.Rows L2 Vk RZ
/-- lists of ints, and lists of these, as data -/
def lis (v : List Int) : PyData := .list (v.map PyData.int)
theorem eqv_lis : ∀ a b : List Int, PyData.eqv (lis a) (lis b) = decide (a = b)
  | [], [] => rfl
  | [], b :: bs => by
    rw [decide_eq_false (by simp)]
    simp [lis, PyData.eqv, PyData.eqvAll]
  | a :: as, [] => by
    rw [decide_eq_false (by simp)]
    simp [lis, PyData.eqv, PyData.eqvAll]
  | a :: as, b :: bs => by
    have ih := eqv_lis as bs
    simp only [lis, List.map_cons, PyData.eqv, PyData.eqvAll] at ih ⊢
    rw [ih]
    by_cases e : a = b
    · subst e
      simp
    · have : ¬ a :: as = b :: bs := fun z => e (List.cons.inj z).1
      simp [e, this]
theorem lay_lls (vs : List (List Int)) : PyData.canLay0 (.list (vs.map lis)) = true := by
  show PyData.canLayAll0 (vs.map lis) = true
  induction vs with
  | nil => rfl
  | cons v vs ih =>
    show (PyData.canLay0 (lis v) && PyData.canLayAll0 (vs.map lis)) = true
    rw [ih, show PyData.canLay0 (lis v) = true from SeqAt.canLay_of_shaped (shaped_ints v)]
    rfl
theorem deep_ints (ns : List Int) : PyData.depthAll (ns.map PyData.int) ≤ 1 := by
  induction ns with
  | nil => simp [PyData.depthAll]
  | cons n ns ih => simp [PyData.depthAll, PyData.depth] at ih ⊢; omega
theorem deep_lls (vs : List (List Int)) : PyData.depthAll (vs.map lis) ≤ 2 := by
  induction vs with
  | nil => simp [PyData.depthAll]
  | cons v vs ih =>
    have := deep_ints v
    simp [PyData.depthAll, PyData.depth, lis] at ih ⊢
    omega
theorem shaped_lls (vs : List (List Int)) : SeqAt.shaped (.list (vs.map lis)) = true := by
  have h := deep_lls vs
  have e : (PyData.list (vs.map lis)).depth ≤ 64 := by
    simp [PyData.depth]
    omega
  unfold SeqAt.shaped
  rw [lay_lls vs, decide_eq_true e]
  rfl
/-- lists of ints in the heap -/
def Lr (f : Int → List Int) (H : Hp) (r : Addr) (c : Int) : Prop := H r = some (.lst ((f c).map V.int))
theorem lr_dp {K : PySem.W.Frag} {f : Int → List Int} {H : Hp} : ∀ {rs : List Addr} {cs : List Int}, Paired (Lr f H) rs cs → DpAll K H (rs.map V.ref) ((cs.map f).map lis)
  | _, _, .nil => .nil
  | _, _, .cons h t => .cons (dp_ints _ (.inl (.inl h))) (lr_dp t)
theorem any_lls (vs : List (List Int)) (u : List Int) : ((vs.map lis).any fun z => PyData.eqv z (lis u)) = decide (u ∈ vs) := by
  induction vs with
  | nil => rfl
  | cons v vs ih =>
    rw [List.map_cons, List.any_cons, ih, eqv_lis]
    by_cases e : v = u
    · subst e
      simp
    · have : (u ∈ v :: vs) ↔ u ∈ vs := by
        rw [List.mem_cons]
        exact ⟨fun z => z.resolve_left fun y => e y.symm, .inr⟩
      simp only [this, decide_eq_false e, Bool.false_or]
end Tb
namespace Tb
open PySem PySem.Spec PyProof.Rows L2 Vk RZ
theorem comb_ext {F G : Int → Int} {ns ms : List Int} (hn : ns.Pairwise (· < ·)) (hm : ms.Pairwise (· < ·)) (alln : ∀ c, F c ≠ c → c ∈ ns) (allm : ∀ c, G c ≠ c → c ∈ ms) (e : ∀ c, F c = G c) : comb F ns = comb G ms := by
  have : F = G := funext e
  subst this
  unfold comb
  refine congrArg _ (ints_ext (hn.filter _) (hm.filter _) fun c => ?_)
  rw [List.mem_filter, List.mem_filter, decide_eq_true_eq]
  exact ⟨fun h => ⟨allm c h.2, h.2⟩, fun h => ⟨alln c h.2, h.2⟩⟩
theorem sep1_iff {L : Tb} : Sep [L] ↔ ∀ c d, look L c = look L d → c = d :=
  ⟨fun h c d e => h c d (by show [look L c] = [look L d]; rw [e]), fun h c d e => h c d (List.cons.inj (show [look L c] = [look L d] from e)).1⟩
theorem sep_both {L M N : Tb} (e : ∀ c, look N c = look M (look L c)) (h : Sep [N]) : Sep [L] := sep1_iff.mpr fun c d z => sep1_iff.mp h c d (by rw [e, e, z])
theorem mem_swapped {L : Tb} {f : Tb → Tb} {p : Int × Int} (hf : f L = (L.filter fun p => decide (p.1 ≠ p.2)).map fun p => (p.2, p.1)) : p ∈ f L ↔ (p.2, p.1) ∈ L ∧ p.2 ≠ p.1 := by
  rw [hf, List.mem_map]
  constructor
  · rintro ⟨q, m, rfl⟩
    obtain ⟨m, d⟩ := List.mem_filter.mp m
    exact ⟨m, of_decide_eq_true d⟩
  · rintro ⟨m, d⟩
    exact ⟨(p.2, p.1), List.mem_filter.mpr ⟨m, decide_eq_true d⟩, rfl⟩
/-- the table back of a table that keeps colours apart -/
theorem back_good {L N : Tb} (g : Good L) (s : Sep [L]) (mem : ∀ p, p ∈ N ↔ (p.2, p.1) ∈ L ∧ p.2 ≠ p.1) (nd : N.Nodup) (ord : N.Pairwise fun p q => p.1 < q.1 ∨ p.1 = q.1 ∧ p.2 ≤ q.2) : Good N := by
  have s' := sep1_iff.mp s
  refine ⟨?_, fun p m => ?_⟩
  · refine (ord.and nd).imp_of_mem fun {p q} mp mq h => ?_
    obtain ⟨o, ne⟩ := h
    rcases o with o | ⟨o, _⟩
    · exact o
    · have e1 := look_mem g.1 ((mem p).mp mp).1
      have e2 := look_mem g.1 ((mem q).mp mq).1
      have : p.2 = q.2 := s' _ _ (by rw [e1, e2]; exact o)
      exact absurd (Prod.ext o this) ne
  · exact ((g.2 _ ((mem p).mp m).1)).symm
theorem back_all {L N : Tb} (g : Good L) (s : Sep [L]) (mem : ∀ p, p ∈ N ↔ (p.2, p.1) ∈ L ∧ p.2 ≠ p.1) (gN : Good N) (c : Int) : look N (look L c) = c := by
  have s' := sep1_iff.mp s
  by_cases e : look L c = c
  · rw [e]
    by_cases z : look N c = c
    · exact z
    · obtain ⟨p, mp, e1, _⟩ := look_pair z
      obtain ⟨m, ne⟩ := (mem p).mp mp
      have e2 := look_mem g.1 m
      have : p.2 = c := s' _ _ (by rw [e2, e]; exact e1)
      exact absurd (this.trans e1.symm) ne
  · obtain ⟨p, mp, e1, e2⟩ := look_pair e
    exact look_mem gN.1 (p := (look L c, c)) ((mem _).mpr ⟨by rw [← e2]; exact e1 ▸ mp, fun z => e z.symm⟩)
theorem comb_none {F : Int → Int} {ns : List Int} (h : ∀ c, F c = c) : comb F ns = [] := by
  unfold comb
  rw [List.filter_eq_nil_iff.mpr fun c _ => by simp [h c]]
  rfl
theorem swap_nodup {L : Tb} (g : Good L) : ((L.filter fun p => decide (p.1 ≠ p.2)).map fun p => (p.2, p.1)).Nodup := by
  refine List.pairwise_map.mpr ((g.1.filter _).imp fun {p q} h e => ?_)
  have := congrArg Prod.snd e
  dsimp only at this
  omega
theorem both_in {L M : Tb} {c : Int} (h : look M (look L c) ≠ c) : ∃ p ∈ L ++ M, p.1 = c := by
  by_cases z : look L c = c
  · rw [z] at h
    obtain ⟨p, m, e⟩ := look_in h
    exact ⟨p, List.mem_append_right _ m, e⟩
  · obtain ⟨p, m, e⟩ := look_in z
    exact ⟨p, List.mem_append_left _ m, e⟩
theorem sep_rot {L M N : Tb} : Sep [N, L, M] ↔ Sep [L, M, N] := sep_perm fun U => by
  simp only [List.mem_cons, List.not_mem_nil, or_false]
  constructor
  · rintro (h | h | h)
    · exact .inr (.inr h)
    · exact .inl h
    · exact .inr (.inl h)
  · rintro (h | h | h)
    · exact .inr (.inl h)
    · exact .inr (.inr h)
    · exact .inl h
theorem dp_bls {K : PySem.W.Frag} {H : Hp} {p : Addr} (bs : List Bool) (h : SqL K H p (bs.map V.bl)) : Dp K H (.ref p) (.list (bs.map PyData.bool)) := by
  refine .lst h ?_
  clear h
  induction bs with
  | nil => exact .nil
  | cons b bs ih => exact .cons (.bl b) ih
end Tb
local macro_rules | `(tactic| walk_at "rd1") => `(tactic| first
  | ((with_reducible apply Vk.rd_var); exact rfl)
  | (with_reducible refine Vk.rd_c ?_)
  | (with_reducible refine Vk.rd_seq ?_)
  | (with_reducible refine Vk.rd_asg ?_)
  | (with_reducible refine Vk.rd_ret ?_)
  | (with_reducible refine Vk.rd_drop ?_)
  | (with_reducible refine Vk.rd_nx ?_)
  | (with_reducible refine Vk.rd_nm ?_)
  | (with_reducible refine Vk.rd_op ?_)
  | (with_reducible refine Vk.rd_un ?_)
  | (with_reducible refine Vk.rd_i0 ?_)
  | ((with_reducible refine Vk.rd_i ?_ ?_); (first | decide | (show (0 : Int) < _; decide) | exact ⟨by decide, by decide⟩ | exact ⟨by decide, by decide, by decide⟩ | exact .inl ⟨by decide, by decide⟩ | exact .inr ⟨by decide, by decide⟩ | exact .inl ⟨by omega, by omega⟩ | exact .inr ⟨by omega, by omega⟩ | exact ⟨by omega, by omega⟩ | (show (0 : Int) < _; omega)))
  | (with_reducible refine Vk.rd_u ?_)
  | ((with_reducible refine Vk.rd_eq ?_ ?_); exact rfl)
  | ((with_reducible refine Vk.rd_ne ?_ ?_); exact rfl)
  | (with_reducible refine Vk.rd_test ?_)
  | (with_reducible refine Vk.rd_tb ?_)
  | (with_reducible refine Vk.rd_bl ?_)
  | (with_reducible refine Vk.rd_chain ?_)
  | (with_reducible refine Vk.rd_ifs ?_)
  | (with_reducible refine Vk.rd_ife ?_)
  | (with_reducible refine Vk.rd_and ?_)
  | (with_reducible refine Vk.rd_or ?_)
  | (with_reducible refine Vk.rd_not ?_)
  | (with_reducible refine Vk.rd_andV ?_)
  | (with_reducible refine Vk.rd_orV ?_)
  | (with_reducible refine Vk.rd_notV ?_)
  | (with_reducible refine Vk.rd_nil ?_)
  | (with_reducible refine Vk.rd_yes ?_)
  | (with_reducible refine Vk.rd_cons ?_)
  | (with_reducible refine Vk.rd_cb ?_)
  | (with_reducible refine Vk.rd_call ?_)
  | (with_reducible refine Vk.rd_callK ?_)
  | (with_reducible refine Vk.rd_sub ?_)
  | (with_reducible refine Vk.rd_tup ?_)
  | (with_reducible refine Vk.rd_lst ?_)
  | ((with_reducible apply Vk.rd_ixl); (first | assumption | exact .inl (.inl L2.upd_same) | exact .inl (.inl (by assumption))); (first | exact rfl | assumption))
  | ((with_reducible apply Vk.rd_ixt); (first | assumption | exact .inl (.inl L2.upd_same) | exact .inl (.inl (by assumption))); (first | exact rfl | assumption))
  | ((with_reducible apply Vk.rd_setl); (first | assumption | exact L2.upd_same); (exact rfl))
  | (with_reducible refine Vk.rd_T ?_)
  | (with_reducible refine Vk.rd_F ?_)
  | ((with_reducible apply Vk.rd_Tt); (first | exact rfl | assumption))
  | ((with_reducible apply Vk.rd_Ff); (first | exact rfl | assumption)))
local macro_rules | `(tactic| walk_at "rd") => `(tactic| repeat walk_at "rd1")
local macro_rules | `(tactic| walk_at "rd1") => `(tactic| first
  | (with_reducible refine Tb.rd_tupF ?_))
local macro_rules | `(tactic| walk_at "rd1") => `(tactic| first
  | (with_reducible refine Tb.rd_bm ?_))
namespace K10
open PySem PySem.Spec PyProof.Rows L2 Vk Tb RZ Cl Vg
def topS (i : Nat) : Stmt := PySem.Challenge.pw_allscreens_k10_whole_tables_that_keep_co.main.body.getD i (.Pass ⟨0, 0, 0, 0⟩)
abbrev s_is_int : Stmt := topS 6
abbrev N_is_int : List Str := ["value"]
theorem sc_is_int : FnScope N_is_int ["value"] (defScope s_is_int) := ⟨rfl, rfl, rfl, by decide +kernel, rfl, by decide +kernel, by decide +kernel⟩
abbrev s_is_between : Stmt := topS 7
abbrev N_is_between : List Str := ["value", "least", "most"]
theorem sc_is_between : FnScope N_is_between ["value", "least", "most"] (defScope s_is_between) := ⟨rfl, rfl, rfl, by decide +kernel, rfl, by decide +kernel, by decide +kernel⟩
abbrev s_is_colour : Stmt := topS 9
abbrev N_is_colour : List Str := ["value"]
theorem sc_is_colour : FnScope N_is_colour ["value"] (defScope s_is_colour) := ⟨rfl, rfl, rfl, by decide +kernel, rfl, by decide +kernel, by decide +kernel⟩
abbrev s_check_colour : Stmt := topS 10
abbrev N_check_colour : List Str := ["value"]
theorem sc_check_colour : FnScope N_check_colour ["value"] (defScope s_check_colour) := ⟨rfl, rfl, rfl, by decide +kernel, rfl, by decide +kernel, by decide +kernel⟩
abbrev s_is_pair : Stmt := topS 12
abbrev N_is_pair : List Str := ["value"]
theorem sc_is_pair : FnScope N_is_pair ["value"] (defScope s_is_pair) := ⟨rfl, rfl, rfl, by decide +kernel, rfl, by decide +kernel, by decide +kernel⟩
abbrev s_is_pairs : Stmt := topS 13
abbrev N_is_pairs : List Str := ["value", "pair", "later"]
theorem sc_is_pairs : FnScope N_is_pairs ["value"] (defScope s_is_pairs) := ⟨rfl, rfl, rfl, by decide +kernel, rfl, by decide +kernel, by decide +kernel⟩
abbrev s_check_pairs : Stmt := topS 14
abbrev N_check_pairs : List Str := ["value"]
theorem sc_check_pairs : FnScope N_check_pairs ["value"] (defScope s_check_pairs) := ⟨rfl, rfl, rfl, by decide +kernel, rfl, by decide +kernel, by decide +kernel⟩
abbrev s_recoloured : Stmt := topS 15
abbrev N_recoloured : List Str := ["colour", "pairs"]
theorem sc_recoloured : FnScope N_recoloured ["colour", "pairs"] (defScope s_recoloured) := ⟨rfl, rfl, rfl, by decide +kernel, rfl, by decide +kernel, by decide +kernel⟩
abbrev s_combined : Stmt := topS 16
abbrev N_combined : List Str := ["pairs", "other_pairs", "first", "second", "found", "old", "between", "new", "pair"]
theorem sc_combined : FnScope N_combined ["pairs", "other_pairs"] (defScope s_combined) := ⟨rfl, rfl, rfl, by decide +kernel, rfl, by decide +kernel, by decide +kernel⟩
abbrev s_keeps_apart : Stmt := topS 17
abbrev N_keeps_apart : List Str := ["tables", "table"]
theorem sc_keeps_apart : FnScope N_keeps_apart ["tables"] (defScope s_keeps_apart) := ⟨rfl, rfl, rfl, by decide +kernel, rfl, by decide +kernel, by decide +kernel⟩
abbrev s_joined_colours : Stmt := topS 18
abbrev N_joined_colours : List Str := ["tables", "turns", "first", "colour", "turned", "table", "pair", "each", "turn"]
theorem sc_joined_colours : FnScope N_joined_colours ["tables"] (defScope s_joined_colours) := ⟨rfl, rfl, rfl, by decide +kernel, rfl, by decide +kernel, by decide +kernel⟩
abbrev s_cell : Stmt := topS 20
abbrev N_cell : List Str := ["_law_script", "_law_k", "_law_state_here", "_law_cell_here"]
theorem sc_cell : FnScope N_cell ["_law_script", "_law_k"] (defScope s_cell) := ⟨rfl, rfl, rfl, by decide +kernel, rfl, by decide +kernel, by decide +kernel⟩
abbrev s_pool : Stmt := topS 21
abbrev N_pool : List Str := ["_law_cell_here", "_law_digits"]
theorem sc_pool : FnScope N_pool ["_law_cell_here"] (defScope s_pool) := ⟨rfl, rfl, rfl, by decide +kernel, rfl, by decide +kernel, by decide +kernel⟩
abbrev s_draw : Stmt := topS 22
abbrev N_draw : List Str := ["_law_pool_here", "_law_many", "_law_old", "_law_digit"]
theorem sc_draw : FnScope N_draw ["_law_pool_here", "_law_many"] (defScope s_draw) := ⟨rfl, rfl, rfl, by decide +kernel, rfl, by decide +kernel, by decide +kernel⟩
abbrev s_pairs : Stmt := topS 23
abbrev N_pairs : List Str := ["_law_pool_here", "_law_most", "_law_far", "_law_olds", "_law_k", "_law_old"]
theorem sc_pairs : FnScope N_pairs ["_law_pool_here", "_law_most", "_law_far"] (defScope s_pairs) := ⟨rfl, rfl, rfl, by decide +kernel, rfl, by decide +kernel, by decide +kernel⟩
abbrev s_turned : Stmt := topS 24
abbrev N_turned : List Str := ["_law_hue", "_law_rows", "_law_old", "_law_new"]
theorem sc_turned : FnScope N_turned ["_law_hue", "_law_rows"] (defScope s_turned) := ⟨rfl, rfl, rfl, by decide +kernel, rfl, by decide +kernel, by decide +kernel⟩
abbrev s_table : Stmt := topS 25
abbrev N_table : List Str := ["_law_pool_here", "_law_far", "_law_way", "_law_one", "_law_other", "_law_third"]
theorem sc_table : FnScope N_table ["_law_pool_here", "_law_far"] (defScope s_table) := ⟨rfl, rfl, rfl, by decide +kernel, rfl, by decide +kernel, by decide +kernel⟩
abbrev s_due : Stmt := topS 26
abbrev N_due : List Str := ["_law_tables", "_law_named", "_law_table_here", "_law_seen", "_law_hue", "_law_told", "_law_pair", "_law_thing"]
theorem sc_due : FnScope N_due ["_law_tables"] (defScope s_due) := ⟨rfl, rfl, rfl, by decide +kernel, rfl, by decide +kernel, by decide +kernel⟩
abbrev s_back : Stmt := topS 27
abbrev N_back : List Str := ["_law_table_here", "_law_old", "_law_new"]
theorem sc_back : FnScope N_back ["_law_table_here"] (defScope s_back) := ⟨rfl, rfl, rfl, by decide +kernel, rfl, by decide +kernel, by decide +kernel⟩
abbrev s_right : Stmt := topS 28
abbrev N_right : List Str := ["_law_pool_here", "_law_far", "_law_one", "_law_other", "_law_third", "_law_told", "_law_due_here", "_law_k"]
theorem sc_right : FnScope N_right ["_law_pool_here", "_law_far"] (defScope s_right) := ⟨rfl, rfl, rfl, by decide +kernel, rfl, by decide +kernel, by decide +kernel⟩
abbrev s_law : Stmt := topS 29
abbrev N_law : List Str := ["_law_script", "_law_k", "_law_pool_here", "_law_turn"]
theorem sc_law : FnScope N_law ["_law_script"] (defScope s_law) := ⟨rfl, rfl, rfl, by decide +kernel, rfl, by decide +kernel, by decide +kernel⟩
structure Ad where
  f_is_int : Addr
  d_is_int : FuncData
  f_is_between : Addr
  d_is_between : FuncData
  f_is_colour : Addr
  d_is_colour : FuncData
  f_check_colour : Addr
  d_check_colour : FuncData
  f_is_pair : Addr
  d_is_pair : FuncData
  f_is_pairs : Addr
  d_is_pairs : FuncData
  f_check_pairs : Addr
  d_check_pairs : FuncData
  f_recoloured : Addr
  d_recoloured : FuncData
  f_combined : Addr
  d_combined : FuncData
  f_keeps_apart : Addr
  d_keeps_apart : FuncData
  f_joined_colours : Addr
  d_joined_colours : FuncData
  f_cell : Addr
  d_cell : FuncData
  f_pool : Addr
  d_pool : FuncData
  f_draw : Addr
  d_draw : FuncData
  f_pairs : Addr
  d_pairs : FuncData
  f_turned : Addr
  d_turned : FuncData
  f_table : Addr
  d_table : FuncData
  f_due : Addr
  d_due : FuncData
  f_back : Addr
  d_back : FuncData
  f_right : Addr
  d_right : FuncData
  f_law : Addr
  d_law : FuncData
  t_MOST_COLOUR : Tok
structure Txt (K : PySem.W.Frag) (mg : Str → Option Value) (A : Ad) : Prop where
  F_is_int : Fun K "is_int" "is_int" s_is_int A.f_is_int A.d_is_int
  B_is_int : Binds K A.d_is_int ["value"] []
  g_is_int : mg "is_int" = some (.ref A.f_is_int)
  F_is_between : Fun K "is_between" "is_between" s_is_between A.f_is_between A.d_is_between
  B_is_between : Binds K A.d_is_between ["value", "least", "most"] []
  g_is_between : mg "is_between" = some (.ref A.f_is_between)
  F_is_colour : Fun K "is_colour" "is_colour" s_is_colour A.f_is_colour A.d_is_colour
  B_is_colour : Binds K A.d_is_colour ["value"] []
  g_is_colour : mg "is_colour" = some (.ref A.f_is_colour)
  F_check_colour : Fun K "check_colour" "check_colour" s_check_colour A.f_check_colour A.d_check_colour
  B_check_colour : Binds K A.d_check_colour ["value"] []
  g_check_colour : mg "check_colour" = some (.ref A.f_check_colour)
  F_is_pair : Fun K "is_pair" "is_pair" s_is_pair A.f_is_pair A.d_is_pair
  B_is_pair : Binds K A.d_is_pair ["value"] []
  g_is_pair : mg "is_pair" = some (.ref A.f_is_pair)
  F_is_pairs : Fun K "is_pairs" "is_pairs" s_is_pairs A.f_is_pairs A.d_is_pairs
  B_is_pairs : Binds K A.d_is_pairs ["value"] []
  g_is_pairs : mg "is_pairs" = some (.ref A.f_is_pairs)
  F_check_pairs : Fun K "check_pairs" "check_pairs" s_check_pairs A.f_check_pairs A.d_check_pairs
  B_check_pairs : Binds K A.d_check_pairs ["value"] []
  g_check_pairs : mg "check_pairs" = some (.ref A.f_check_pairs)
  F_recoloured : Fun K "recoloured" "recoloured" s_recoloured A.f_recoloured A.d_recoloured
  B_recoloured : Binds K A.d_recoloured ["colour", "pairs"] []
  g_recoloured : mg "recoloured" = some (.ref A.f_recoloured)
  F_combined : Fun K "combined" "combined" s_combined A.f_combined A.d_combined
  B_combined : Binds K A.d_combined ["pairs", "other_pairs"] []
  g_combined : mg "combined" = some (.ref A.f_combined)
  F_keeps_apart : Fun K "keeps_apart" "keeps_apart" s_keeps_apart A.f_keeps_apart A.d_keeps_apart
  g_keeps_apart : mg "keeps_apart" = some (.ref A.f_keeps_apart)
  F_joined_colours : Fun K "joined_colours" "joined_colours" s_joined_colours A.f_joined_colours A.d_joined_colours
  B_joined_colours : Binds K A.d_joined_colours ["tables"] []
  g_joined_colours : mg "joined_colours" = some (.ref A.f_joined_colours)
  F_cell : Fun K "_law_cell" "_law_cell" s_cell A.f_cell A.d_cell
  B_cell : Binds K A.d_cell ["_law_script", "_law_k"] []
  g_cell : mg "_law_cell" = some (.ref A.f_cell)
  F_pool : Fun K "_law_pool" "_law_pool" s_pool A.f_pool A.d_pool
  B_pool : Binds K A.d_pool ["_law_cell_here"] []
  g_pool : mg "_law_pool" = some (.ref A.f_pool)
  F_draw : Fun K "_law_draw" "_law_draw" s_draw A.f_draw A.d_draw
  B_draw : Binds K A.d_draw ["_law_pool_here", "_law_many"] []
  g_draw : mg "_law_draw" = some (.ref A.f_draw)
  F_pairs : Fun K "_law_pairs" "_law_pairs" s_pairs A.f_pairs A.d_pairs
  B_pairs : Binds K A.d_pairs ["_law_pool_here", "_law_most", "_law_far"] []
  g_pairs : mg "_law_pairs" = some (.ref A.f_pairs)
  F_turned : Fun K "_law_turned" "_law_turned" s_turned A.f_turned A.d_turned
  B_turned : Binds K A.d_turned ["_law_hue", "_law_rows"] []
  g_turned : mg "_law_turned" = some (.ref A.f_turned)
  F_table : Fun K "_law_table" "_law_table" s_table A.f_table A.d_table
  B_table : Binds K A.d_table ["_law_pool_here", "_law_far"] []
  g_table : mg "_law_table" = some (.ref A.f_table)
  F_due : Fun K "_law_due" "_law_due" s_due A.f_due A.d_due
  B_due : Binds K A.d_due ["_law_tables"] []
  g_due : mg "_law_due" = some (.ref A.f_due)
  F_back : Fun K "_law_back" "_law_back" s_back A.f_back A.d_back
  B_back : Binds K A.d_back ["_law_table_here"] []
  g_back : mg "_law_back" = some (.ref A.f_back)
  F_right : Fun K "_law_right" "_law_right" s_right A.f_right A.d_right
  B_right : Binds K A.d_right ["_law_pool_here", "_law_far"] []
  g_right : mg "_law_right" = some (.ref A.f_right)
  F_law : Fun K "law" "law" s_law A.f_law A.d_law
  B_law : Binds K A.d_law ["_law_script"] []
  g_law : mg "law" = some (.ref A.f_law)
  m_abs : mg "abs" = none
  m_all : mg "all" = none
  m_bool : mg "bool" = none
  m_dict : mg "dict" = none
  m_divmod : mg "divmod" = none
  m_int : mg "int" = none
  m_isinstance : mg "isinstance" = none
  m_len : mg "len" = none
  m_max : mg "max" = none
  m_min : mg "min" = none
  m_range : mg "range" = none
  m_repr : mg "repr" = none
  m_sorted : mg "sorted" = none
  m_tuple : mg "tuple" = none
  m_zip : mg "zip" = none
  g_MOST_COLOUR : mg "MOST_COLOUR" = some (.int 1000000000 A.t_MOST_COLOUR)
section
variable {P : Program} {w : World} {K : PySem.W.Frag} {mg : Str → Option Value} {base : Heap} {A : Ad}
/-! ### pools -/
def spCell (K : PySem.W.Frag) : Sp := fun vs H Q _ => ∃ (a : Addr) (ns : List Int) (k : Int), vs = [.ref a, .int k] ∧ SqL K H a (ns.map V.int) ∧ 0 ≤ k ∧ k ≤ 1000 ∧ ∀ z H', Same H H' → Q (.int z) H'
theorem ok_cell (T : Txt K mg A) : FnOk P w K mg base CX0 1 A.f_cell A.d_cell ["_law_script", "_law_k"] (spCell K) := by
  refine T.F_cell.ok sc_cell (fun vs H Q E h => ?_) (fun cdv A0 outer s H vs Q E hr h => ?_)
  · obtain ⟨a, ns, k, rfl, _⟩ := h
    rfl
  · obtain ⟨a, ns, k, rfl, hS, k0, k1, q⟩ := h
    refine ⟨_, (pss_cons (ps_if (pt_cmpR op_lt (pv 1) (pe_callB call_len_seq (by rfl) T.m_len PySem.boot_len (pa_cons (pv 0) pa_nil)) (nomark _))
        (pss_one (ps_ret (pe_ix ix_list (pv 0) (pv 1) (fun _ _ => rfl))))
        pss_nil)
      (pss_cons (ps_set (i := 2) sc_cell.nd rfl (.inl rfl) (pe_op op_mod (pe_op op_mul pe_int (pe_op op_add (pe_op op_add (pe_op op_mul (pv 1) (pv 1)) (pe_op op_mul pe_int (pv 1))) pe_int)) pe_int))
      (pss_cons (ps_for PassesOwn.never rfl (pi_list (pe_slice sl_list (pv 0) po_none (po_some pe_int))) (pg_name (i := 3) sc_cell.nd rfl (.inl rfl))
        (pss_one (ps_set (i := 2) sc_cell.nd rfl (.inl rfl) (pe_op op_mod (pe_op op_add (pe_op op_mul (pv 2) pe_int) (pv 3)) pe_int))))
      (pss_one (ps_ret (pv 2)))))), ?_⟩
    walk_at "rd"
    refine ⟨a, _, rfl, .inl hS, ?_⟩
    walk_at "rd"
    refine rd_2 (fun e => ?_) (fun e => ?_)
    · have hk := of_decide_eq_true e
      obtain ⟨v, e1, e2⟩ := atI_lt k0 hk
      obtain ⟨n, _, rfl⟩ := List.mem_map.mp e2
      walk_at "rd"
      exact q _ _ (Same.refl _)
    · walk_at "rd"
      obtain ⟨ms, em⟩ := cut_ints ns none (some 3)
      refine ⟨.ref a, rfl, 3, rfl, a, _, rfl, hS, fun p np => ⟨p, rfl, ⟨_, .inl (.inl upd_same)⟩, ?_⟩⟩
      rw [em]
      refine for_list (xs := ms.map V.int) (fun i σ H' => ∃ z y, σ = [some (.ref a), some (.int k), some (.int z), y] ∧ Same H H' ∧ H' p = some (.lst (ms.map V.int)))
        ⟨_, none, rfl, same_new np, upd_same⟩ (fun i σ H' _ h => ?_) (fun i x σ H' hx h => ?_) (fun σ H' h => ?_)
      · obtain ⟨z, y, rfl, sm, e⟩ := h
        exact .inl (.inl e)
      · obtain ⟨z, y, rfl, sm, e⟩ := h
        obtain ⟨n, rfl⟩ := mem_ints hx
        walk_at "rd"
        exact ⟨_, _, rfl, sm, e⟩
      · obtain ⟨z, y, rfl, sm, e⟩ := h
        walk_at "rd"
        exact q _ _ sm
def spPool : Sp := fun vs H Q _ => ∃ z : Int, vs = [.int z] ∧ ∀ p H', H p = none → Same H H' → Pool H' p → Q (.ref p) H'
theorem ok_pool (T : Txt K mg A) : FnOk P w K mg base CX0 1 A.f_pool A.d_pool ["_law_cell_here"] spPool := by
  refine T.F_pool.ok sc_pool (fun vs H Q E h => ?_) (fun cdv A0 outer s H vs Q E hr h => ?_)
  · obtain ⟨z, rfl, _⟩ := h
    rfl
  · obtain ⟨z, rfl, q⟩ := h
    refine ⟨_, (pss_cons (ps_set (i := 1) sc_pool.nd rfl (.inl rfl) (pe_ifExp (pw_or (pt_cmpR op_lt (pv 0) pe_int (nomark _)) (pw_or1 (pt_cmpR op_ge (pv 0) (pe_op op_pow pe_int pe_int) (nomark _)))).pt (pe_callB call_abs (by rfl) T.m_abs (by decide +kernel) (pa_cons (pv 0) pa_nil)) pe_int))
      (pss_one (ps_ret (pe_lst (pa_cons (pe_op op_mod (pv 0) pe_int) (pa_cons (pv 1) (pa_cons pe_int pa_nil))))))), ?_⟩
    have fin : ∀ p x d c, H p = none → Q (.ref p) (upd H p (.lst [.int x, .int d, .int c])) := fun p x d c np => q p _ np (same_new np) ⟨x, d, c, upd_same⟩
    walk_at "rd"
    refine rd_2 (fun e => ?_) (fun e => ?_)
    · walk_at "rd"
      refine ⟨_, rfl, ?_⟩
      walk_at "rd"
      exact ⟨le_line (Nat.le_of_ble_eq_true rfl), fun p np => fin p _ _ _ np⟩
    · walk_at "rd"
      refine rd_2 (fun e => ?_) (fun e => ?_)
      · walk_at "rd"
        refine ⟨_, rfl, ?_⟩
        walk_at "rd"
        exact ⟨le_line (Nat.le_of_ble_eq_true rfl), fun p np => fin p _ _ _ np⟩
      · walk_at "rd"
        exact ⟨le_line (Nat.le_of_ble_eq_true rfl), fun p np => fin p _ _ _ np⟩
def spDraw : Sp := fun vs H Q _ => ∃ (a : Addr) (m : Int), vs = [.ref a, .int m] ∧ Pool H a ∧ 0 < m ∧ m < 18446744073709551616 ∧ ∀ r H', 0 ≤ r → r < m → But [a] H H' → Pool H' a → Q (.int r) H'
theorem ok_draw (T : Txt K mg A) : FnOk P w K mg base CX0 1 A.f_draw A.d_draw ["_law_pool_here", "_law_many"] spDraw := by
  refine T.F_draw.ok sc_draw (fun vs H Q E h => ?_) (fun cdv A0 outer s H vs Q E hr h => ?_)
  · obtain ⟨a, m, rfl, _⟩ := h
    rfl
  · obtain ⟨a, m, rfl, ⟨x, d, c, hP⟩, m0, m1, q⟩ := h
    have ma : a ∈ [a] := List.mem_singleton.mpr rfl
    refine ⟨_, (pss_cons (ps_asg (pe_op op_add (pe_ix ix_list (pv 0) pe_int (fun _ _ => rfl)) pe_int) (pg_sub (pv 0) pe_int set_list))
      (pss_cons (ps_set (i := 2) sc_draw.nd rfl (.inl rfl) (pe_ix ix_list (pv 0) pe_int (fun _ _ => rfl)))
      (pss_cons (ps_asg (pe_op op_mod (pe_op op_add (pe_op op_add (pe_op op_mul (pv 2) (pe_op op_add (pe_op op_mod (pv 2) pe_int) pe_int)) (pe_op op_mul pe_int (pe_ix ix_list (pv 0) pe_int (fun _ _ => rfl)))) pe_int) pe_int) (pg_sub (pv 0) pe_int set_list))
      (pss_cons (ps_if (pt_cmpR op_gt (pe_ix ix_list (pv 0) pe_int (fun _ _ => rfl)) pe_int (nomark _))
        (pss_cons (ps_asg (pe_callB call_divmodW (by rfl) T.m_divmod (by decide +kernel) (pa_cons (pe_ix ix_list (pv 0) pe_int (fun _ _ => rfl)) (pa_cons (pv 1) pa_nil))) (pg_tup rfl (pgs_cons (pg_sub (pv 0) pe_int set_list) (pgs_cons (pg_name (i := 3) sc_draw.nd rfl (.inl rfl)) pgs_nil))))
        (pss_one (ps_ret (pv 3))))
        pss_nil)
      (pss_one (ps_ret (pe_op op_mod (pe_op op_fdiv (pe_ix ix_list (pv 0) pe_int (fun _ _ => rfl)) pe_int) (pv 1)))))))), ?_⟩
    walk_at "rd"
    refine rd_2 (fun e => ?_) (fun e => ?_)
    · walk_at "rd"
      refine ⟨_, _, rfl, divp_small m0 m1, fun p np => ⟨p, _, rfl, .inl (.inl upd_same), rfl, _, _, rfl, ?_⟩⟩
      have na : a ≠ p := fun z => by
        rw [← z, upd_same] at np
        cases np
      have hP2 := (upd_ne (o := .tup [.int (d / m), .int (d % m)]) na).trans (upd_same (H := upd H a (.lst ([.int x, .int d, .int c].set 2 (.int (c + 1))))) (a := a) (o := .lst (([.int x, .int d, .int c].set 2 (.int (c + 1))).set 0 (.int ((x * (x % 43013 + 28009) + 70009 * (c + 1) + 19) % 2147482943)))))
      walk_at "rd"
      refine ⟨_, _, rfl, ?_⟩
      walk_at "rd"
      refine ⟨rfl, ?_⟩
      walk_at "rd"
      refine q _ _ (Int.emod_nonneg _ (by omega)) (Int.emod_lt_of_pos _ m0) (((((But.refl.set ma).set ma).new np).set ma)) ⟨_, _, _, upd_same⟩
    · walk_at "rd"
      refine q _ _ (Int.emod_nonneg _ (by omega)) (Int.emod_lt_of_pos _ m0) ((But.refl.set ma).set ma) ⟨_, _, _, upd_same⟩
end
/-! ### values -/
inductive Kd (B : List Addr) (H : Hp) : V → String → Prop
  | non : Kd B H .non "NoneType"
  | bl (b : Bool) : Kd B H (.bl b) "bool"
  | int (i : Int) : Kd B H (.int i) "int"
  | str (x : Str) : Kd B H (.str x) "str"
  | lst {p : Addr} {xs : List V} (e : H p = some (.lst xs)) (n : p ∉ B) : Kd B H (.ref p) "list"
  | tup {p : Addr} {xs : List V} (e : H p = some (.tup xs)) (n : p ∉ B) : Kd B H (.ref p) "tuple"
  | dct {p : Addr} {kvs : List (Key × V)} (e : H p = some (.dK kvs)) (n : p ∉ B) : Kd B H (.ref p) "dict"
theorem Kd.but {B : List Addr} {H H' : Hp} {v : V} {T : String} (e : But B H H') (k : Kd B H v T) : Kd B H' v T := by
  cases k with
  | non => exact .non
  | bl b => exact .bl b
  | int i => exact .int i
  | str x => exact .str x
  | lst h n => exact .lst (e _ _ n h) n
  | tup h n => exact .tup (e _ _ n h) n
  | dct h n => exact .dct (e _ _ n h) n
theorem Kd.wide {B B' : List Addr} {H : Hp} {v : V} {T : String} (s : ∀ b, b ∉ B → b ∉ B') (k : Kd B H v T) : Kd B' H v T := by
  cases k with
  | non => exact .non
  | bl b => exact .bl b
  | int i => exact .int i
  | str x => exact .str x
  | lst h n => exact .lst h (s _ n)
  | tup h n => exact .tup h (s _ n)
  | dct h n => exact .dct h (s _ n)
theorem Kd.tyx {B : List Addr} {K : PySem.W.Frag} {H : Hp} {v : V} {T : String} (k : Kd B H v T) : TyX K H v (.type T) := by
  cases k with
  | non => exact .base .non
  | bl b => exact .base (.bl b)
  | int i => exact .base (.int i)
  | str x => exact .base (.str x)
  | lst h n => exact .base (.lst h)
  | tup h n => exact .base (.tup h)
  | dct h n => exact .base (.dK h)
def isi (T n : String) : Bool := T == n || (T == "bool" && n == "int")
theorem isi_ok {B : List Addr} {H : Hp} {v : V} {T : String} (k : Kd B H v T) : kitB T "int" = some (isi T "int") ∧ kitB T "bool" = some (isi T "bool") ∧ kitB T "tuple" = some (isi T "tuple") := by
  cases k <;> exact ⟨by decide +kernel, by decide +kernel, by decide +kernel⟩
theorem rd_isi {B : List Addr} {K : PySem.W.Frag} {H : Hp} {v : V} {T n : String} {b : Bool} {Q : VK} (k : Kd B H v T) (e : kitB T n = some b) (q : Q (.bl b) H) : rIsi K [v, .ty n] H Q :=
  ⟨v, .ty n, .type T, .type n, b, rfl, .ty n, k.tyx, kit_ty e, q⟩
def isInt : V → Bool
  | .int _ => true
  | _ => false
def betw (lo hi : Int) : V → Bool
  | .int i => decide (lo ≤ i) && decide (i ≤ hi)
  | _ => false
theorem betw_not {lo hi : Int} {v : V} (h : isInt v = false) : betw lo hi v = false := by
  cases v with
  | int i => cases h
  | _ => rfl
section
variable {P : Program} {w : World} {K : PySem.W.Frag} {mg : Str → Option Value} {base : Heap} {A : Ad}
def spIsInt : Sp := fun vs H Q _ => ∃ (B : List Addr) (v : V) (Ty : String), vs = [v] ∧ Kd B H v Ty ∧ Q (.bl (isInt v)) H
theorem ok_is_int (T : Txt K mg A) : FnOk P w K mg base CX0 1 A.f_is_int A.d_is_int ["value"] spIsInt := by
  refine T.F_is_int.ok sc_is_int (fun vs H Q E h => ?_) (fun cdv A0 outer s H vs Q E hr h => ?_)
  · obtain ⟨B, v, Ty, rfl, _⟩ := h
    rfl
  · obtain ⟨B, v, Ty, rfl, hk, q⟩ := h
    obtain ⟨e1, e2, _⟩ := isi_ok hk
    refine ⟨_, (pss_one (ps_ret (pe_and (pe_callB call_isi (by rfl) T.m_isinstance (by decide +kernel) (pa_cons (pv 0) (pa_cons (pe_bltn (v := .ty "int") (by rfl) T.m_int (by decide +kernel) rfl) pa_nil))) (pe_one (pe_not (pe_callB call_isi (by rfl) T.m_isinstance (by decide +kernel) (pa_cons (pv 0) (pa_cons (pe_bltn (v := .ty "bool") (by rfl) T.m_bool (by decide +kernel) rfl) pa_nil)))))))), ?_⟩
    walk_at "rd"
    refine rd_isi hk e1 ?_
    cases hk <;> (walk_at "rd"; (first | exact q | (refine rd_isi (Kd.bl (B := B) _) e2 ?_; walk_at "rd"; exact q) | (refine rd_isi (Kd.int (B := B) _) e2 ?_; walk_at "rd"; exact q)))
def spBetween : Sp := fun vs H Q _ => ∃ (B : List Addr) (v : V) (Ty : String) (lo hi : Int), vs = [v, .int lo, .int hi] ∧ Kd B H v Ty ∧ Q (.bl (betw lo hi v)) H
theorem ok_is_between (T : Txt K mg A) : FnOk P w K mg base CX0 2 A.f_is_between A.d_is_between ["value", "least", "most"] spBetween := by
  have G_is_int : FnOk P w K mg base CX0 1 A.f_is_int A.d_is_int ["value"] spIsInt := ok_is_int T
  refine T.F_is_between.ok sc_is_between (fun vs H Q E h => ?_) (fun cdv A0 outer s H vs Q E hr h => ?_)
  · obtain ⟨B, v, Ty, lo, hi, rfl, _⟩ := h
    rfl
  · obtain ⟨B, v, Ty, lo, hi, rfl, hk, q⟩ := h
    refine ⟨_, (pss_one (ps_ret (pe_and (pe_call G_is_int (hr.mono (by decide)) (by rfl) T.g_is_int T.F_is_int.kp T.B_is_int .nil pass0 (pa_cons (pv 0) pa_nil)) (pe_one (pe_chain op_le op_le (pv 1) (pv 0) (pv 2)))))), ?_⟩
    walk_at "rd"
    refine ⟨B, v, Ty, rfl, hk, ?_⟩
    cases hk with
    | int i =>
      walk_at "rd"
      refine rd_2 (fun e => ?_) (fun e => ?_)
      · walk_at "rd"
        have e' : betw lo hi (.int i) = decide (i ≤ hi) := by
          show (decide (lo ≤ i) && decide (i ≤ hi)) = _
          rw [e, Bool.true_and]
        rw [e'] at q
        exact q
      · have e' : betw lo hi (.int i) = false := by
          show (decide (lo ≤ i) && decide (i ≤ hi)) = _
          rw [e, Bool.false_and]
        rw [e'] at q
        exact q
    | _ => (walk_at "rd"; exact q)
theorem rd_isiX {K : PySem.W.Frag} {H : Hp} {v : V} {T n : String} {b : Bool} {Q : VK} (k : TyX K H v (.type T)) (e : kitB T n = some b) (q : Q (.bl b) H) : rIsi K [v, .ty n] H Q :=
  ⟨v, .ty n, .type T, .type n, b, rfl, .ty n, k, kit_ty e, q⟩
theorem kit_tt : kitB "tuple" "tuple" = some true := by decide +kernel
theorem betw_col {i : Int} (h : Col i) : betw 0 1000000000 (.int i) = true := by
  obtain ⟨a, b⟩ := h
  show (decide (0 ≤ i) && decide (i ≤ 1000000000)) = true
  rw [decide_eq_true a, decide_eq_true b]
  rfl
def spColour : Sp := fun vs H Q _ => ∃ i : Int, vs = [.int i] ∧ Col i ∧ Q (.bl true) H
theorem ok_is_colour (T : Txt K mg A) : FnOk P w K mg base CX0 3 A.f_is_colour A.d_is_colour ["value"] spColour := by
  have G_is_between : FnOk P w K mg base CX0 2 A.f_is_between A.d_is_between ["value", "least", "most"] spBetween := ok_is_between T
  refine T.F_is_colour.ok sc_is_colour (fun vs H Q E h => ?_) (fun cdv A0 outer s H vs Q E hr h => ?_)
  · obtain ⟨i, rfl, _⟩ := h
    rfl
  · obtain ⟨i, rfl, c, q⟩ := h
    refine ⟨_, (pss_one (ps_ret (pe_call G_is_between (hr.mono (by decide)) (by rfl) T.g_is_between T.F_is_between.kp T.B_is_between .nil pass0 (pa_cons (pv 0) (pa_cons pe_int (pa_cons (pe_glob (v := .int (1000000000)) (by rfl) T.g_MOST_COLOUR ⟨_, rfl⟩) pa_nil)))))), ?_⟩
    walk_at "rd"
    refine ⟨[], _, _, _, _, rfl, .int i, ?_⟩
    rw [betw_col c]
    exact q
def spCheckC : Sp := fun vs H Q _ => ∃ i : Int, vs = [.int i] ∧ Col i ∧ Q .non H
theorem ok_check_colour (T : Txt K mg A) : FnOk P w K mg base CX0 4 A.f_check_colour A.d_check_colour ["value"] spCheckC := by
  have G_is_colour : FnOk P w K mg base CX0 3 A.f_is_colour A.d_is_colour ["value"] spColour := ok_is_colour T
  refine T.F_check_colour.ok sc_check_colour (fun vs H Q E h => ?_) (fun cdv A0 outer s H vs Q E hr h => ?_)
  · obtain ⟨i, rfl, _⟩ := h
    rfl
  · obtain ⟨i, rfl, c, q⟩ := h
    refine ⟨_, (pss_one (ps_if (pt_not (pt_val (pe_call G_is_colour (hr.mono (by decide)) (by rfl) T.g_is_colour T.F_is_colour.kp T.B_is_colour .nil pass0 (pa_cons (pv 0) pa_nil))))
        (pss_one Tb.ps_never)
        pss_nil)), ?_⟩
    walk_at "rd"
    refine ⟨i, rfl, c, ?_⟩
    walk_at "rd"
    exact q
def spPair : Sp := fun vs H Q _ => ∃ (t : Addr) (x y : Int), vs = [.ref t] ∧ H t = some (.tup [.int x, .int y]) ∧ Col x ∧ Col y ∧ Q (.bl true) H
theorem ok_is_pair (T : Txt K mg A) : FnOk P w K mg base CX0 4 A.f_is_pair A.d_is_pair ["value"] spPair := by
  have G_is_colour : FnOk P w K mg base CX0 3 A.f_is_colour A.d_is_colour ["value"] spColour := ok_is_colour T
  refine T.F_is_pair.ok sc_is_pair (fun vs H Q E h => ?_) (fun cdv A0 outer s H vs Q E hr h => ?_)
  · obtain ⟨t, x, y, rfl, _⟩ := h
    rfl
  · obtain ⟨t, x, y, rfl, ht, cx, cy, q⟩ := h
    refine ⟨_, (pss_one (ps_ret (pe_and (pe_callB call_isi (by rfl) T.m_isinstance (by decide +kernel) (pa_cons (pv 0) (pa_cons (pe_bltn (v := .ty "tuple") (by rfl) T.m_tuple (by decide +kernel) rfl) pa_nil))) (pe_and (pe_cmpR op_eq (pe_callB call_len_seq (by rfl) T.m_len PySem.boot_len (pa_cons (pv 0) pa_nil)) pe_int (nomark _)) (pe_and (pe_call G_is_colour (hr.mono (by decide)) (by rfl) T.g_is_colour T.F_is_colour.kp T.B_is_colour .nil pass0 (pa_cons (pe_ix ix_tup (pv 0) pe_int (fun _ _ => rfl)) pa_nil)) (pe_one (pe_call G_is_colour (hr.mono (by decide)) (by rfl) T.g_is_colour T.F_is_colour.kp T.B_is_colour .nil pass0 (pa_cons (pe_ix ix_tup (pv 0) pe_int (fun _ _ => rfl)) pa_nil)))))))), ?_⟩
    walk_at "rd"
    refine rd_isiX (.base (.tup ht)) kit_tt ?_
    walk_at "rd"
    refine ⟨t, _, rfl, .inr (.inl (.inl ht)), ?_⟩
    walk_at "rd"
    refine ⟨x, rfl, cx, ?_⟩
    walk_at "rd"
    exact ⟨y, rfl, cy, q⟩
end
section
variable {P : Program} {w : World} {K : PySem.W.Frag} {mg : Str → Option Value} {base : Heap} {A : Ad}
theorem zip_asc {a b D : Addr} {ts : List Addr} {L : Tb} {H : Hp} {Qd : Hp → Prop} (p : PT H a ts L) (asc : Asc L) (hb : SqT K H b ((ts.map V.ref).drop 1)) (nD : H D = none) (few : L.length ≤ 100)
    (hd : ∀ H', Same H H' → H' D = some (.lst ((List.replicate (ts.length - 1) true).map V.bl)) → Qd H') :
    ∃ W : Nat → Nat → Hp → Prop, (∃ m, W 0 m (upd H D (.lst []))) ∧ ∀ i m H, W i m H → ((ItzT K a b).stop i H ∧ Qd H) ∨ ((ItzT K a b).go i H ∧ ∃ Nx : Hp → Prop, (∀ H', Nx H' → ∃ m', m' < m ∧ W (i + 1) m' H') ∧
      ∀ x H', (ItzT K a b).yld i H x H' → gTup K 2 (gCons (gName 1) (gCons (gName 2) gNil)) x (wipe [some (.ref a), none, none] [1, 2]) H' fun σ2 H2 => wipe σ2 [1, 2] = wipe [some (.ref a), none, none] [1, 2] ∧ tYes σ2 H2 fun c H3 =>
        if c = true then tOp (rI0 fun i j => V.bl (decide (i < j))) (tOp (rIxT K) (tVar 1) (tC (V.int 0))) (tOp (rIxT K) (tVar 2) (tC (V.int 0))) σ2 H3 fun y H4 => ∃ acc, H4 D = some (.lst acc) ∧ acc.length < sizeLine ∧ Nx (upd H4 D (.lst (acc ++ [y]))) else Nx H3) := by
  have len := p.len
  refine lc_zT (xs := ts.map V.ref) (ys := (ts.map V.ref).drop 1) (by rw [List.length_drop]; omega) (fun i H' => Same H H' ∧ H' D = some (.lst ((List.replicate i true).map V.bl))) ⟨same_new nD, upd_same⟩ (fun i H' h => ⟨(p.same h.1).sq, same_sqT h.1 hb⟩) (fun i x y T H' hx hy h nT => ?_) (fun H' h => ?_)
  · obtain ⟨s1, hD⟩ := h
    rw [List.getElem?_map] at hx
    rw [List.getElem?_drop, List.getElem?_map] at hy
    obtain ⟨t, ht, rfl⟩ := Option.map_eq_some_iff.mp hx
    obtain ⟨u, hu, rfl⟩ := Option.map_eq_some_iff.mp hy
    have s2 : Same H (upd H' T (.tup [.ref t, .ref u])) := s1.trans (same_new nT)
    obtain ⟨r1, k1, e1⟩ := (p.same s2).row ht
    obtain ⟨r2, k2, e2⟩ := (p.same s2).row hu
    have lt : r1.1 < r2.1 := by
      obtain ⟨l1, g1⟩ := List.getElem?_eq_some_iff.mp k1
      obtain ⟨l2, g2⟩ := List.getElem?_eq_some_iff.mp k2
      rw [← g1, ← g2]
      exact List.pairwise_iff_getElem.mp asc i (1 + i) l1 l2 (by omega)
    have hD2 : upd H' T (.tup [.ref t, .ref u]) D = some (.lst ((List.replicate i true).map V.bl)) := (same_new nT) _ _ hD
    have hi : i < 100 := by
      have := (List.getElem?_eq_some_iff.mp ht).1
      omega
    refine ⟨T, _, rfl, .inl (.inl upd_same), rfl, _, _, rfl, _, _, rfl, rfl, rfl, ?_⟩
    walk_at "rd"
    refine ⟨_, hD2, small1000 (by rw [List.length_map, List.length_replicate]; omega), same_mut s2 nD, ?_⟩
    rw [upd_same, decide_eq_true lt, List.replicate_succ', List.map_append]
    rfl
  · rw [List.length_drop, List.length_map] at h
    exact hd H' h.1 h.2
def spIsPairs : Sp := fun vs H Q _ => ∃ (a : Addr) (ts : List Addr) (L : Tb), vs = [.ref a] ∧ PT H a ts L ∧ Good L ∧ L.length ≤ 100 ∧ ∀ H', Same H H' → Q (.bl true) H'
theorem ok_is_pairs (T : Txt K mg A) : FnOk P w K mg base CX0 5 A.f_is_pairs A.d_is_pairs ["value"] spIsPairs := by
  have G_is_pair : FnOk P w K mg base CX0 4 A.f_is_pair A.d_is_pair ["value"] spPair := ok_is_pair T
  refine T.F_is_pairs.ok sc_is_pairs (fun vs H Q E h => ?_) (fun cdv A0 outer s H vs Q E hr h => ?_)
  · obtain ⟨a, ts, L, rfl, _⟩ := h
    rfl
  · obtain ⟨a, ts, L, rfl, p, ⟨asc, good⟩, few, q⟩ := h
    have len := p.len
    refine ⟨_, (pss_cons (ps_if (pw_or (pt_not (pt_val (pe_callB call_isi (by rfl) T.m_isinstance (by decide +kernel) (pa_cons (pv 0) (pa_cons (pe_bltn (v := .ty "tuple") (by rfl) T.m_tuple (by decide +kernel) rfl) pa_nil))))) (pw_or1 (pt_not (pt_val (pe_callB (cr_all rfl) (by rfl) T.m_all (by decide +kernel) (pa_cons (pe_lc (own := [("pair", 1)]) rfl sc_is_pairs.nd (pi_tup (pv 0)) (blkOk_by (N := N_is_pairs) (sc := defScope s_is_pairs) (by decide +kernel)) (fun _ _ _ _ _ => (pg_name (i := 1) sc_is_pairs.nd rfl (.inl rfl))) (fun _ _ _ _ _ => pts_nil) (fun _ _ _ _ _ => (pe_call G_is_pair (hr.mono (by decide)) (by rfl) T.g_is_pair T.F_is_pair.kp T.B_is_pair .nil pass0 (pa_cons (pv 1) pa_nil)))) pa_nil)))))).pt
        (pss_one (ps_ret pe_bl))
        pss_nil)
      (pss_one (ps_ret (pe_callB (cr_all rfl) (by rfl) T.m_all (by decide +kernel) (pa_cons (pe_lc (own := [("pair", 1), ("later", 2)]) rfl sc_is_pairs.nd (pi_zipA (by rfl) T.m_zip (pa_cons (pv 0) (pa_cons (pe_slice sl_tupA (pv 0) (po_some pe_int) po_none) pa_nil))) (blkOk_by (N := N_is_pairs) (sc := defScope s_is_pairs) (by decide +kernel)) (fun _ _ _ _ _ => (Tb.pg_tupK (K := K) (n := 2) rfl rfl (pgs_cons (pg_name (i := 1) sc_is_pairs.nd rfl (.inl rfl)) (pgs_cons (pg_name (i := 2) sc_is_pairs.nd rfl (.inl rfl)) pgs_nil)))) (fun _ _ _ _ _ => pts_nil) (fun _ _ _ _ _ => (pe_cmpR op_lt (pe_ix (Tb.ix_tupK (K := K) rfl) (pv 1) pe_int (fun _ _ => rfl)) (pe_ix (Tb.ix_tupK (K := K) rfl) (pv 2) pe_int (fun _ _ => rfl)) (nomark _)))) pa_nil))))), ?_⟩
    walk_at "rd"
    refine rd_isiX (.fTuple p.at'.choose_spec.2) kit_tt ?_
    walk_at "rd"
    refine ⟨.ref a, rfl, a, rfl, ⟨_, p.sq⟩, fun D nD => ?_⟩
    refine lcq_tup (ys := List.replicate ts.length (.bl true)) nD p.sq (by simp) (by simp; omega) (fun i x y H1 R hx hy s1 r => ?_) (fun H1 s1 hD => ?_)
    · rw [List.getElem?_map] at hx
      obtain ⟨t, ht, rfl⟩ := Option.map_eq_some_iff.mp hx
      obtain ⟨rw', hrw, hrow⟩ := (p.same s1).row ht
      obtain ⟨rfl⟩ : y = .bl true := List.eq_of_mem_replicate (List.mem_of_getElem? hy)
      have g := good rw' (List.mem_of_getElem? hrw)
      walk_at "rd"
      exact ⟨t, rw'.1, rw'.2, rfl, hrow, g.1, g.2, r _ (Same.refl _)⟩
    · have hD' : H1 D = some (.lst ((List.replicate ts.length true).map V.bl)) := by rw [List.map_replicate]; exact hD
      refine ⟨D, _, rfl, .inl (.inl hD'), ?_⟩
      rw [all_rep]
      walk_at "rd"
      have p1 := p.same s1
      refine ⟨.ref a, rfl, .ref a, rfl, 1, rfl, a, _, rfl, p1.sq, fun e => ?_, fun e r nr => ?_⟩
      · have z : ts.map V.ref = (ts.map V.ref).drop 1 := by
          have e2 : HT.sIx (ts.map V.ref).length 0 (some ((1 : Nat) : Int)) = 0 := e.1
          rw [HT.sIx_nat] at e2
          have : (ts.map V.ref).length = 0 := by omega
          rw [List.eq_nil_of_length_eq_zero this]
          rfl
        refine ⟨a, a, _, _, rfl, .inr ⟨p1.sq, p1.sq, fun D2 n2 => zip_asc p1 asc (by rw [← z]; exact p1.sq) n2 few fun H2 s2 h2 => ?_⟩⟩
        refine ⟨D2, _, rfl, .inl (.inl h2), ?_⟩
        rw [all_rep]
        exact q _ (s1.trans s2)
      · rw [cut1]
        have p2 := p1.same (same_new (o := .tup ((ts.map V.ref).drop 1)) nr)
        refine ⟨a, r, _, _, rfl, .inr ⟨p2.sq, .inl (.inl upd_same), fun D2 n2 => zip_asc p2 asc (.inl (.inl upd_same)) n2 few fun H2 s2 h2 => ?_⟩⟩
        refine ⟨D2, _, rfl, .inl (.inl h2), ?_⟩
        rw [all_rep]
        exact q _ (s1.trans ((same_new nr).trans s2))
def spCheckP : Sp := fun vs H Q _ => ∃ (a : Addr) (ts : List Addr) (L : Tb), vs = [.ref a] ∧ PT H a ts L ∧ Good L ∧ L.length ≤ 100 ∧ ∀ H', Same H H' → Q .non H'
theorem ok_check_pairs (T : Txt K mg A) : FnOk P w K mg base CX0 6 A.f_check_pairs A.d_check_pairs ["value"] spCheckP := by
  have G_is_pairs : FnOk P w K mg base CX0 5 A.f_is_pairs A.d_is_pairs ["value"] spIsPairs := ok_is_pairs T
  refine T.F_check_pairs.ok sc_check_pairs (fun vs H Q E h => ?_) (fun cdv A0 outer s H vs Q E hr h => ?_)
  · obtain ⟨a, ts, L, rfl, _⟩ := h
    rfl
  · obtain ⟨a, ts, L, rfl, p, g, few, q⟩ := h
    refine ⟨_, (pss_one (ps_if (pt_not (pt_val (pe_call G_is_pairs (hr.mono (by decide)) (by rfl) T.g_is_pairs T.F_is_pairs.kp T.B_is_pairs .nil pass0 (pa_cons (pv 0) pa_nil))))
        (pss_one Tb.ps_never)
        pss_nil)), ?_⟩
    walk_at "rd"
    refine ⟨a, ts, L, rfl, p, g, few, fun H1 s1 => ?_⟩
    walk_at "rd"
    exact q _ s1
def spRecol : Sp := fun vs H Q _ => ∃ (c : Int) (a : Addr) (ts : List Addr) (L : Tb), vs = [.int c, .ref a] ∧ Col c ∧ PT H a ts L ∧ Good L ∧ L.length ≤ 100 ∧ ∀ H', Same H H' → Q (.int (look L c)) H'
theorem ok_recoloured (T : Txt K mg A) : FnOk P w K mg base CX0 7 A.f_recoloured A.d_recoloured ["colour", "pairs"] spRecol := by
  have G_check_colour : FnOk P w K mg base CX0 4 A.f_check_colour A.d_check_colour ["value"] spCheckC := ok_check_colour T
  have G_check_pairs : FnOk P w K mg base CX0 6 A.f_check_pairs A.d_check_pairs ["value"] spCheckP := ok_check_pairs T
  refine T.F_recoloured.ok sc_recoloured (fun vs H Q E h => ?_) (fun cdv A0 outer s H vs Q E hr h => ?_)
  · obtain ⟨c, a, ts, L, rfl, _⟩ := h
    rfl
  · obtain ⟨c, a, ts, L, rfl, hc, p, g, few, q⟩ := h
    have hu64 := room64 hr
    refine ⟨_, (pss_cons (ps_expr (pe_call G_check_colour (hr.mono (by decide)) (by rfl) T.g_check_colour T.F_check_colour.kp T.B_check_colour .nil pass0 (pa_cons (pv 0) pa_nil)))
      (pss_cons (ps_expr (pe_call G_check_pairs (hr.mono (by decide)) (by rfl) T.g_check_pairs T.F_check_pairs.kp T.B_check_pairs .nil pass0 (pa_cons (pv 1) pa_nil)))
      (pss_one (ps_ret (pe_dget2 (Nat.lt_of_le_of_lt (Nat.add_le_add_left (by decide) _) hu64) (pe_callTy (Tb.call_dictT rfl) (by rfl) T.m_dict (by decide +kernel) (pa_cons (pv 1) pa_nil)) (pv 0) (pv 0) ⟨by rfl, by rfl, by rfl, by rfl⟩))))), ?_⟩
    walk_at "rd"
    refine ⟨c, rfl, hc, ?_⟩
    walk_at "rd"
    refine ⟨a, ts, L, rfl, p, g, few, fun H1 s1 => ?_⟩
    walk_at "rd"
    have p1 := p.same s1
    obtain ⟨o, od, ha⟩ := p1.at'
    refine ⟨_, rfl, a, o, ts, kvT L, rfl, od, ha, prd_sq p1.rows, fun d nd => ⟨d, rfl, .inl ⟨_, .inl upd_same⟩, .int c, rfl, .int c, rfl, ?_⟩⟩
    refine ⟨_, DGet.k (k := .inl c) upd_same, ?_⟩
    rw [dict_look g.1]
    exact q _ (s1.trans (same_new nd))
end
section
variable {P : Program} {w : World} {K : PySem.W.Frag} {mg : Str → Option Value} {base : Heap} {A : Ad}
abbrev both (L M : Tb) : Int → Int := fun c => look M (look L c)
def spComb : Sp := fun vs H Q _ => ∃ (a b : Addr) (ts us : List Addr) (L M : Tb), vs = [.ref a, .ref b] ∧ PT H a ts L ∧ PT H b us M ∧ Good L ∧ Good M ∧ L.length ≤ 20 ∧ M.length ≤ 20 ∧
  ∀ H' r (vs : List Addr) (ns : List Int), Same H H' → ns.Pairwise (· < ·) → (∀ c, c ∈ ns ↔ ∃ p ∈ L ++ M, p.1 = c) → ns.length ≤ L.length + M.length → PT H' r vs (comb (both L M) ns) → Q (.ref r) H'
theorem ok_combined (T : Txt K mg A) : FnOk P w K mg base CX0 7 A.f_combined A.d_combined ["pairs", "other_pairs"] spComb := by
  have G_check_pairs : FnOk P w K mg base CX0 6 A.f_check_pairs A.d_check_pairs ["value"] spCheckP := ok_check_pairs T
  refine T.F_combined.ok sc_combined (fun vs H Q E h => ?_) (fun cdv A0 outer s H vs Q E hr h => ?_)
  · obtain ⟨a, b, ts, us, L, M, rfl, _⟩ := h
    rfl
  · obtain ⟨a, b, ts, us, L, M, rfl, p, r, g, kM, few, few', q⟩ := h
    have hu64 := room64 hr
    refine ⟨_, (pss_cons (ps_expr (pe_call G_check_pairs (hr.mono (by decide)) (by rfl) T.g_check_pairs T.F_check_pairs.kp T.B_check_pairs .nil pass0 (pa_cons (pv 0) pa_nil)))
      (pss_cons (ps_expr (pe_call G_check_pairs (hr.mono (by decide)) (by rfl) T.g_check_pairs T.F_check_pairs.kp T.B_check_pairs .nil pass0 (pa_cons (pv 1) pa_nil)))
      (pss_cons (ps_set (i := 2) sc_combined.nd rfl (.inl rfl) (pe_callTy (Tb.call_dictT rfl) (by rfl) T.m_dict (by decide +kernel) (pa_cons (pv 0) pa_nil)))
      (pss_cons (ps_set (i := 3) sc_combined.nd rfl (.inl rfl) (pe_callTy (Tb.call_dictT rfl) (by rfl) T.m_dict (by decide +kernel) (pa_cons (pv 1) pa_nil)))
      (pss_cons (ps_set (i := 4) sc_combined.nd rfl (.inl rfl) (pe_lst pa_nil))
      (pss_cons (ps_for PassesOwn.never rfl (pi_list (pe_callB (cr_sortedSet rfl) (by rfl) T.m_sorted (by decide +kernel) (pa_cons (Tb.pe_sci (own := [("pair", 8)]) rfl sc_combined.nd (pi_tup (pe_op op_catA (pv 0) (pv 1))) (blkOk_by (N := N_combined) (sc := defScope s_combined) (by decide +kernel)) (fun _ _ _ _ _ => (pg_name (i := 8) sc_combined.nd rfl (.inl rfl))) (fun _ _ _ _ _ => pts_nil) (fun _ _ _ _ _ => (pe_ix (Tb.ix_tupK (K := K) rfl) (pv 8) pe_int (fun _ _ => rfl)))) pa_nil))) (pg_name (i := 5) sc_combined.nd rfl (.inl rfl))
        (pss_cons (ps_set (i := 6) sc_combined.nd rfl (.inl rfl) (pe_dget2 (Nat.lt_of_le_of_lt (Nat.add_le_add_left (by decide) _) hu64) (pv 2) (pv 5) (pv 5) ⟨by rfl, by rfl, by rfl, by rfl⟩))
        (pss_cons (ps_set (i := 7) sc_combined.nd rfl (.inl rfl) (pe_dget2 (Nat.lt_of_le_of_lt (Nat.add_le_add_left (by decide) _) hu64) (pv 3) (pv 6) (pv 6) ⟨by rfl, by rfl, by rfl, by rfl⟩))
        (pss_one (ps_if (pt_cmpR op_ne (pv 7) (pv 5) (nomark _))
          (pss_one (ps_expr (pe_bm PySem.F.plainAttrs_list PySem.F.slot_list_append PySem.F.type_list_append mt_append (pv 4) (pa_cons (pe_tup (pa_cons (pv 5) (pa_cons (pv 7) pa_nil))) pa_nil))))
          pss_nil)))))
      (pss_one (ps_ret (pe_callTy Tb.call_tupleF (by rfl) T.m_tuple (by decide +kernel) (pa_cons (pv 4) pa_nil)))))))))), ?_⟩
    walk_at "rd"
    refine ⟨a, ts, L, rfl, p, g, by omega, fun H1 s1 => ?_⟩
    walk_at "rd"
    refine ⟨b, us, M, rfl, r.same s1, kM, by omega, fun H2 s2 => ?_⟩
    walk_at "rd"
    have s12 := s1.trans s2
    obtain ⟨o, od, ha⟩ := (p.same s12).at'
    refine ⟨a, o, ts, kvT L, rfl, od, ha, prd_sq (p.same s12).rows, fun d nd => ?_⟩
    walk_at "rd"
    have s3 := s12.trans (same_new (o := .dK (mergeK [] (kvT L))) nd)
    obtain ⟨o', od', hb⟩ := (r.same s3).at'
    refine ⟨b, o', us, kvT M, rfl, od', hb, prd_sq (r.same s3).rows, fun e ne => ?_⟩
    walk_at "rd"
    refine ⟨le_line (by decide), fun l nl => ?_⟩
    walk_at "rd"
    have s4 := s3.trans ((same_new (o := .dK (mergeK [] (kvT M))) ne).trans (same_new (o := .lst []) nl))
    have hd0 : upd (upd (upd H2 d (.dK (mergeK [] (kvT L)))) e (.dK (mergeK [] (kvT M)))) l (.lst []) d = some (.dK (mergeK [] (kvT L))) := (same_new nl) _ _ ((same_new ne) _ _ upd_same)
    have he0 : upd (upd (upd H2 d (.dK (mergeK [] (kvT L)))) e (.dK (mergeK [] (kvT M)))) l (.lst []) e = some (.dK (mergeK [] (kvT M))) := (same_new nl) _ _ upd_same
    have hl0 : upd (upd (upd H2 d (.dK (mergeK [] (kvT L)))) e (.dK (mergeK [] (kvT M)))) l (.lst []) l = some (.lst []) := upd_same
    have lH : H l = none := (s3.trans (same_new (o := .dK (mergeK [] (kvT M))) ne)).free nl
    generalize upd (upd (upd H2 d (.dK (mergeK [] (kvT L)))) e (.dK (mergeK [] (kvT M)))) l (.lst []) = H4 at s4 hd0 he0 hl0 ⊢
    refine ⟨.ref a, rfl, .ref b, rfl, cat_ok (p.same s4) (r.same s4) (by omega) fun H5 c s5 sq rows => ⟨c, rfl, ⟨_, sq⟩, fun D nD => keys_ok (show 8 < 9 by decide) sq rows (by rw [List.length_append]; omega) nD fun H6 S n s6 hD hS hn => ?_⟩⟩
    refine ⟨D, S, n, rfl, hD, by rw [List.length_append] at hn; omega, fun ns v asc mem nn nv => ?_⟩
    have mem' : ∀ c, c ∈ ns ↔ ∃ p ∈ L ++ M, p.1 = c := fun c => (mem c).trans (hS c)
    have nlm : ns.length ≤ L.length + M.length := by rw [List.length_append] at hn; omega
    have n40 : ns.length ≤ 40 := by omega
    have s56 := s5.trans s6
    have s7 := s4.trans (s56.trans (same_new (o := .lst (ns.map V.int)) nv))
    have nvl : v ≠ l := fun z => by
      have := s56 _ _ hl0
      rw [← z, nv] at this
      cases this
    refine ⟨v, rfl, ⟨_, .inl (.inl upd_same)⟩, ?_⟩
    refine for_list (xs := ns.map V.int) (fun i σ H' => ∃ y5 y6 y7 rs, σ = [some (.ref a), some (.ref b), some (.ref d), some (.ref e), some (.ref l), y5, y6, y7, none] ∧ Same H H' ∧ H' v = some (.lst (ns.map V.int)) ∧ H' d = some (.dK (mergeK [] (kvT L))) ∧ H' e = some (.dK (mergeK [] (kvT M))) ∧
        H' l = some (.lst (rs.map V.ref)) ∧ Paired (Rw H') rs (comb (both L M) (ns.take i)))
      ⟨none, none, none, [], rfl, s7, upd_same, (same_new nv) _ _ (s56 _ _ hd0), (same_new nv) _ _ (s56 _ _ he0), (same_new nv) _ _ (s56 _ _ hl0), .nil⟩ (fun i σ H' _ h => ?_) (fun i x σ H' hx h => ?_) (fun σ H' h => ?_)
    · obtain ⟨y5, y6, y7, rs, rfl, _, hv, _⟩ := h
      exact .inl (.inl hv)
    · obtain ⟨y5, y6, y7, rs, rfl, sH, hv, hd, he, hl, hrs⟩ := h
      rw [List.getElem?_map] at hx
      obtain ⟨k, hk, rfl⟩ := Option.map_eq_some_iff.mp hx
      have hi : i < ns.length := (List.getElem?_eq_some_iff.mp hk).1
      walk_at "rd"
      refine ⟨.ref d, rfl, d, rfl, .inl ⟨_, .inl hd⟩, .int k, rfl, .int k, rfl, _, DGet.k (k := .inl k) hd, ?_⟩
      rw [dict_look g.1]
      walk_at "rd"
      refine ⟨.ref e, rfl, e, rfl, .inl ⟨_, .inl he⟩, .int (look L k), rfl, .int (look L k), rfl, _, DGet.k (k := .inl (look L k)) he, ?_⟩
      rw [dict_look kM.1]
      walk_at "rd"
      have tk : ns.take (i + 1) = ns.take i ++ [k] := by rw [List.take_add_one, hk]; rfl
      refine rd_2 (fun ec => ?_) (fun ec => ?_)
      · have ne' : both L M k ≠ k := fun z => by
          rw [show look M (look L k) = k from z, decide_eq_true rfl] at ec
          cases ec
        walk_at "rd"
        refine ⟨.inl ⟨rfl, _, .inl (.inl hl)⟩, ?_⟩
        walk_at "rd"
        refine ⟨le_line (Nat.le_of_ble_eq_true rfl), fun t nt => ?_⟩
        walk_at "rd"
        have st := same_new (o := .tup [.int k, .int (look M (look L k))]) nt
        have lt : rs.length ≤ 40 := by
          have e1 := prd_len hrs
          have e2 : (comb (both L M) (ns.take i)).length ≤ (ns.take i).length := by
            unfold comb
            rw [List.length_map]
            exact List.length_filter_le _ _
          rw [List.length_take] at e2
          omega
        have nl1 : ∀ b u, H' b = some u → (∀ zs, u ≠ .lst zs) → upd (upd H' t (.tup [.int k, .int (look M (look L k))])) l (.lst (rs.map V.ref ++ [.ref t])) b = some u := fun b u hb z => (upd_ne (fun y => by rw [y, hl] at hb; exact z _ (Option.some.inj hb).symm)).trans (st _ _ hb)
        refine ⟨l, _, _, rfl, rfl, st _ _ hl, small1000 (by rw [List.length_map]; omega), ?_⟩
        walk_at "rd"
        refine ⟨_, _, _, rs ++ [t], rfl, same_mut (sH.trans st) lH, (upd_ne nvl).trans (st _ _ hv), nl1 _ _ hd (fun zs z => by cases z), nl1 _ _ he (fun zs z => by cases z), by rw [upd_same, List.map_append]; rfl, ?_⟩
        have e3 : comb (both L M) (ns.take (i + 1)) = comb (both L M) (ns.take i) ++ [(k, both L M k)] := by
          unfold comb
          rw [tk, List.filter_append, List.map_append, List.filter_cons_of_pos (by exact decide_eq_true ne')]
          rfl
        rw [e3]
        refine prd_app (prd_but nl1 hrs) (.cons ?_ .nil)
        have tl : t ≠ l := fun z => by rw [z, hl] at nt; cases nt
        exact (upd_ne tl).trans upd_same
      · have eq' : both L M k = k := by
          by_cases z : both L M k = k
          · exact z
          · rw [decide_eq_false (show ¬ V.int (look M (look L k)) = V.int k from fun y => z (V.int.inj y))] at ec
            cases ec
        walk_at "rd"
        refine ⟨_, _, _, rs, rfl, sH, hv, hd, he, hl, ?_⟩
        have e3 : comb (both L M) (ns.take (i + 1)) = comb (both L M) (ns.take i) := by
          unfold comb
          rw [tk, List.filter_append, List.filter_cons_of_neg (by simp [eq'])]
          simp
        rw [e3]
        exact hrs
    · obtain ⟨y5, y6, y7, rs, rfl, sH, hv, hd, he, hl, hrs⟩ := h
      rw [List.length_map, List.take_length] at hrs
      walk_at "rd"
      refine ⟨l, _, rfl, .inl (.inl hl), fun m o nm od => ?_⟩
      exact q _ m rs ns (sH.trans (same_new nm)) asc mem' nlm ⟨⟨o, od, upd_same⟩, prd_same (same_new nm) hrs⟩
def spTurned : Sp := fun vs H Q _ => ∃ (c : Int) (a : Addr) (ts : List Addr) (L : Tb), vs = [.int c, .ref a] ∧ PT H a ts L ∧ Q (.int (look L c)) H
theorem ok_turned (T : Txt K mg A) : FnOk P w K mg base CX0 1 A.f_turned A.d_turned ["_law_hue", "_law_rows"] spTurned := by
  refine T.F_turned.ok sc_turned (fun vs H Q E h => ?_) (fun cdv A0 outer s H vs Q E hr h => ?_)
  · obtain ⟨c, a, ts, L, rfl, _⟩ := h
    rfl
  · obtain ⟨c, a, ts, L, rfl, p, q⟩ := h
    refine ⟨_, (pss_cons (ps_for PassesOwn.never rfl (pi_tup (pv 1)) (pg_tup rfl (pgs_cons (pg_name (i := 2) sc_turned.nd rfl (.inl rfl)) (pgs_cons (pg_name (i := 3) sc_turned.nd rfl (.inl rfl)) pgs_nil)))
        (pss_one (ps_if (pt_cmpR op_eq (pv 2) (pv 0) (nomark _))
          (pss_one (ps_ret (pv 3)))
          pss_nil)))
      (pss_one (ps_ret (pv 0)))), ?_⟩
    walk_at "rd"
    refine ⟨.ref a, rfl, a, rfl, ⟨_, p.sq⟩, ?_⟩
    refine for_tup (xs := ts.map V.ref) (fun i σ H' => ∃ y2 y3, σ = [some (.int c), some (.ref a), y2, y3] ∧ H' = H ∧ ∀ r ∈ L.take i, r.1 ≠ c) ⟨none, none, rfl, rfl, by simp⟩ (fun i σ H' _ h => ?_) (fun i x σ H' hx h => ?_) (fun σ H' h => ?_)
    · obtain ⟨y2, y3, rfl, rfl, _⟩ := h
      exact p.sq
    · obtain ⟨y2, y3, rfl, rfl, no⟩ := h
      rw [List.getElem?_map] at hx
      obtain ⟨t, ht, rfl⟩ := Option.map_eq_some_iff.mp hx
      obtain ⟨r, hr', e⟩ := p.row ht
      refine ⟨t, _, rfl, .inl (.inl e), rfl, _, _, rfl, _, _, rfl, rfl, ?_⟩
      walk_at "rd"
      refine rd_2 (fun ec => ?_) (fun ec => ?_)
      · walk_at "rd"
        rw [look_at hr' (V.int.inj (of_decide_eq_true ec)) no] at q
        exact q
      · walk_at "rd"
        refine ⟨_, _, rfl, rfl, fun z m => ?_⟩
        rw [List.take_add_one, hr'] at m
        rcases List.mem_append.mp m with m | m
        · exact no z m
        · have : z = r := by simpa using m
          rw [this]
          exact fun y => of_decide_eq_false ec (by rw [y])
    · obtain ⟨y2, y3, rfl, rfl, no⟩ := h
      rw [List.length_map, p.len, List.take_length] at no
      walk_at "rd"
      rw [look_out no] at q
      exact q
end
section
variable {P : Program} {w : World} {K : PySem.W.Frag} {mg : Str → Option Value} {base : Heap} {A : Ad}
theorem in_ints (o : Int) (os : List Int) : inV (.int o) (os.map V.int) = decide (o ∈ os) := by
  induction os with
  | nil => rfl
  | cons a os ih =>
    show (eqV (.int a) (.int o) || inV (.int o) (os.map V.int)) = _
    rw [ih]
    by_cases e : a = o
    · subst e
      have : eqV (.int a) (.int a) = true := by simp [eqV]
      rw [this, Bool.true_or, decide_eq_true (List.mem_cons_self ..)]
    · have : eqV (.int a) (.int o) = false := by simp [eqV, e]
      rw [this, Bool.false_or]
      have : (o ∈ a :: os) ↔ o ∈ os := by
        rw [List.mem_cons]
        exact ⟨fun z => z.resolve_left fun y => e y.symm, .inr⟩
      simp only [this]
theorem flat_ints (os : List Int) : (os.map V.int).all flatV = true := by
  rw [List.all_map]
  exact List.all_eq_true.mpr fun _ _ => rfl
theorem lt_nd : ∀ {l : List Int}, l.Pairwise (· ≤ ·) → l.Nodup → l.Pairwise (· < ·) := fun {l} h n => (h.and n).imp fun {a b} z => by
  have := z.2
  have := z.1
  omega
def spPairs : Sp := fun vs H Q _ => ∃ (p : Addr) (m f : Int), vs = [.ref p, .int m, .int f] ∧ Pool H p ∧ 0 ≤ m ∧ m ≤ 20 ∧ 0 < f ∧ f ≤ 1000000000 ∧
  ∀ H' a ts L, But [p] H H' → Pool H' p → PT H' a ts L → Good L → L.length ≤ m.toNat → Q (.ref a) H'
theorem ok_pairs (T : Txt K mg A) : FnOk P w K mg base CX0 2 A.f_pairs A.d_pairs ["_law_pool_here", "_law_most", "_law_far"] spPairs := by
  have G_draw : FnOk P w K mg base CX0 1 A.f_draw A.d_draw ["_law_pool_here", "_law_many"] spDraw := ok_draw T
  refine T.F_pairs.ok sc_pairs (fun vs H Q E h => ?_) (fun cdv A0 outer s H vs Q E hr h => ?_)
  · obtain ⟨p, m, f, rfl, _⟩ := h
    rfl
  · obtain ⟨p, m, f, rfl, hP, m0, m1, f0, f1, q⟩ := h
    refine ⟨_, (pss_cons (ps_set (i := 3) sc_pairs.nd rfl (.inl rfl) (pe_lst pa_nil))
      (pss_cons (ps_for PassesOwn.never rfl (pi_range1 (by rfl) T.m_range (pa_cons (pe_call G_draw (hr.mono (by decide)) (by rfl) T.g_draw T.F_draw.kp T.B_draw .nil pass0 (pa_cons (pv 0) (pa_cons (pe_op op_add (pv 1) pe_int) pa_nil))) pa_nil)) (pg_name (i := 4) sc_pairs.nd rfl (.inl rfl))
        (pss_cons (ps_set (i := 5) sc_pairs.nd rfl (.inl rfl) (pe_call G_draw (hr.mono (by decide)) (by rfl) T.g_draw T.F_draw.kp T.B_draw .nil pass0 (pa_cons (pv 0) (pa_cons (pv 2) pa_nil))))
        (pss_one (ps_set (i := 3) sc_pairs.nd rfl (.inl rfl) (pe_ifExp (pt_cmpR op_in_seq (pv 5) (pv 3) (by with_unfolding_all rfl)) (pv 3) (pe_op op_cat (pv 3) (pe_lst (pa_cons (pv 5) pa_nil))))))))
      (pss_one (ps_ret (pe_callTy Tb.call_tupleF (by rfl) T.m_tuple (by decide +kernel) (pa_cons (pe_lc (own := [("_law_old", 5)]) rfl sc_pairs.nd (pi_list (pe_callB cr_sortedI (by rfl) T.m_sorted (by decide +kernel) (pa_cons (pv 3) pa_nil))) (blkOk_by (N := N_pairs) (sc := defScope s_pairs) (by decide +kernel)) (fun _ _ _ _ _ => (pg_name (i := 5) sc_pairs.nd rfl (.inl rfl))) (fun _ _ _ _ _ => pts_nil) (fun _ _ _ _ _ => (pe_tup (pa_cons (pv 5) (pa_cons (pe_call G_draw (hr.mono (by decide)) (by rfl) T.g_draw T.F_draw.kp T.B_draw .nil pass0 (pa_cons (pv 0) (pa_cons (pv 2) pa_nil))) pa_nil))))) pa_nil)))))), ?_⟩
    walk_at "rd"
    refine ⟨le_line (Nat.zero_le _), fun l nl => ?_⟩
    walk_at "rd"
    have pl : p ≠ l := fun z => hP.ne nl z.symm
    refine ⟨.ref p, rfl, .int m, rfl, m, 1, rfl, rfl, p, m + 1, rfl, hP.new nl, by omega, by omega, fun r H1 r0 r1 b1 p1 => ⟨r, rfl, by omega, by omega, ?_⟩⟩
    have hl1 : H1 l = some (.lst (([] : List Int).map V.int)) := b1 _ _ (fun z => pl (List.mem_singleton.mp z).symm) upd_same
    have b01 : But [p] H H1 := (But.new .refl nl).trans b1
    refine for_range (fun i σ H' => ∃ l y4 y5 os, σ = [some (.ref p), some (.int m), some (.int f), some (.ref l), y4, y5] ∧ But [p] H H' ∧ Pool H' p ∧ H' l = some (.lst ((os : List Int).map V.int)) ∧ l ≠ p ∧ os.Nodup ∧ (∀ o ∈ os, 0 ≤ o ∧ o < f) ∧ os.length ≤ i)
      ⟨l, none, none, [], rfl, b01, p1, hl1, pl.symm, .nil, by simp, Nat.le_refl _⟩ (fun i σ H2 hi h => ?_) (fun σ H2 h => ?_)
    · obtain ⟨l, y4, y5, os, rfl, b2, p2, hl, lp, nd, in', few⟩ := h
      walk_at "rd"
      refine ⟨p, f, rfl, p2, f0, by omega, fun o H3 o0 o1 b3 p3 => ?_⟩
      have hl3 := b3 _ _ (fun z => lp (List.mem_singleton.mp z)) hl
      have b23 := b2.trans b3
      walk_at "rd"
      refine ⟨l, _, rfl, .inl (.inl (.inl hl3)), rfl, flat_ints os, ⟨_, rfl, ?_⟩⟩
      rw [show (if false = true then !inV (.int o) (os.map V.int) else inV (.int o) (os.map V.int)) = decide (o ∈ os) from in_ints o os]
      refine rd_2 (fun ec => ?_) (fun ec => ?_)
      · walk_at "rd"
        exact ⟨l, _, _, os, rfl, b23, p3, hl3, lp, nd, in', by omega⟩
      · walk_at "rd"
        refine ⟨le_line (Nat.le_of_ble_eq_true rfl), fun b nb => ?_⟩
        walk_at "rd"
        refine ⟨l, b, os.map V.int, [.int o], rfl, rfl, (same_new nb) _ _ hl3, upd_same, le_line (by rw [List.length_map]; show os.length + 1 ≤ 1000; omega), fun c nc => ?_⟩
        walk_at "rd"
        have p3' := p3.new nb (o := .lst [.int o])
        refine ⟨c, _, _, os ++ [o], rfl, (b23.new nb).new nc, p3'.new nc, by rw [upd_same, List.map_append]; rfl, p3'.ne nc, ?_, fun z m => ?_, by rw [List.length_append]; show os.length + 1 ≤ i + 1; omega⟩
        · refine List.nodup_append.mpr ⟨nd, by simp, fun x mx y my e => ?_⟩
          have : y = o := by simpa using my
          exact of_decide_eq_false ec (this ▸ e ▸ mx)
        · rcases List.mem_append.mp m with m | m
          · exact in' z m
          · have : z = o := by simpa using m
            rw [this]
            exact ⟨o0, o1⟩
    · obtain ⟨l, y4, y5, os, rfl, b2, p2, hl, lp, nd, in', few⟩ := h
      walk_at "rd"
      refine ⟨.ref l, rfl, l, os, rfl, .inl (.inl hl), fun ns s perm srt nS => ⟨s, rfl, ⟨_, .inl (.inl upd_same)⟩, fun D nD => ?_⟩⟩
      have sp : s ≠ p := p2.ne nS
      have p2' := p2.new nS (o := .lst (ns.map V.int))
      have Dp : D ≠ p := p2'.ne nD
      have sD : s ≠ D := fun z => by rw [← z, upd_same] at nD; cases nD
      have lt := lt_nd srt (perm.nodup_iff.mpr nd)
      have len : ns.length ≤ 21 := by
        have := perm.length_eq
        omega
      refine lc_list (xs := ns.map V.int) (fun i H' => ∃ ts L, But [p] H H' ∧ Pool H' p ∧ H' s = some (.lst (ns.map V.int)) ∧ H' D = some (.lst ((ts : List Addr).map V.ref)) ∧ Paired (Rw H') ts L ∧ L.map (·.1) = ns.take i ∧ ∀ r ∈ L, 0 ≤ r.2 ∧ r.2 < f)
        ⟨[], [], (b2.new nS).new nD, p2'.new nD, (same_new nD) _ _ upd_same, upd_same, .nil, rfl, by simp⟩ (fun i H' _ h => ?_) (fun i x H' hx h => ⟨rfl, ?_⟩) (fun H' h => ?_)
      · obtain ⟨ts, L, _, _, hs, _⟩ := h
        exact .inl (.inl hs)
      · obtain ⟨ts, L, b3, p3, hs, hD, rows, keys, vals⟩ := h
        rw [List.getElem?_map] at hx
        obtain ⟨k, hk, rfl⟩ := Option.map_eq_some_iff.mp hx
        have hi : i < ns.length := (List.getElem?_eq_some_iff.mp hk).1
        walk_at "rd"
        refine ⟨p, f, rfl, p3, f0, by omega, fun o H4 o0 o1 b4 p4 => ?_⟩
        walk_at "rd"
        refine ⟨le_line (Nat.le_of_ble_eq_true rfl), fun t nt => ?_⟩
        have hs4 := b4 _ _ (fun z => sp (List.mem_singleton.mp z)) hs
        have hD4 := b4 _ _ (fun z => Dp (List.mem_singleton.mp z)) hD
        have st := same_new (o := .tup [.int k, .int o]) nt
        have kp : ∀ b u, H' b = some u → (∀ zs, u ≠ .lst zs) → H4 b = some u := fun b u hb n => b4 _ _ (fun z => by
          obtain ⟨x, d, c, hp⟩ := p3
          rw [List.mem_singleton.mp z, hp] at hb
          exact n _ (Option.some.inj hb).symm) hb
        have ll : L.length = i := by
          have := congrArg List.length keys
          rw [List.length_map, List.length_take] at this
          omega
        have lts : ts.length = L.length := prd_len rows
        have tD : t ≠ D := fun z => by rw [z, hD4] at nt; cases nt
        refine ⟨_, st _ _ hD4, small1000 (by rw [List.length_map]; omega), ts ++ [t], L ++ [(k, o)], ?_, ?_, (upd_ne sD).trans (st _ _ hs4), by rw [upd_same, List.map_append]; rfl, ?_, ?_, fun r m => ?_⟩
        · exact ((b3.trans b4).new nt).mut (b2.free (fun z => Dp (List.mem_singleton.mp z)) ((But.new .refl nS).free (fun z => Dp (List.mem_singleton.mp z)) nD))
        · exact ((p4.new nt).upd Dp.symm)
        · refine prd_app (prd_but (fun b u hb n => ?_) rows) (.cons ((upd_ne tD).trans upd_same) .nil)
          exact (upd_ne (fun z => by rw [z, hD] at hb; exact n _ (Option.some.inj hb).symm)).trans (st _ _ (kp b u hb n))
        · rw [List.map_append, keys, List.take_add_one, hk]
          rfl
        · rcases List.mem_append.mp m with m | m
          · exact vals r m
          · have : r = (k, o) := by simpa using m
            rw [this]
            exact ⟨o0, o1⟩
      · obtain ⟨ts, L, b3, p3, hs, hD, rows, keys, vals⟩ := h
        rw [List.length_map, List.take_length] at keys
        walk_at "rd"
        refine ⟨D, _, rfl, .inl (.inl hD), fun a o na od => ?_⟩
        refine q _ a ts L (b3.new na) (p3.new na) ⟨⟨o, od, upd_same⟩, prd_same (same_new na) rows⟩ ⟨?_, fun r m => ?_⟩ ?_
        · have : (L.map (·.1)).Pairwise (· < ·) := keys.symm ▸ lt
          exact List.pairwise_map.mp this
        · have m1 : r.1 ∈ os := perm.mem_iff.mp (keys ▸ List.mem_map.mpr ⟨r, m, rfl⟩)
          have c1 := in' _ m1
          have c2 := vals r m
          exact ⟨⟨c1.1, by omega⟩, ⟨c2.1, by omega⟩⟩
        · have := congrArg List.length keys
          rw [List.length_map] at this
          have := perm.length_eq
          omega
end
section
variable {P : Program} {w : World} {K : PySem.W.Frag} {mg : Str → Option Value} {base : Heap} {A : Ad}
def Dcs (H : Hp) (ds : List Addr) (Ls : List Tb) : Prop := Paired (fun d L => H d = some (.dK (mergeK [] (kvT L)))) ds Ls
theorem dcs_but {H H' : Hp} (e : ∀ b u, H b = some u → (∀ zs, u ≠ .lst zs) → H' b = some u) {ds : List Addr} {Ls : List Tb} (h : Dcs H ds Ls) : Dcs H' ds Ls := prd_imp (fun _ _ h => e _ _ h fun zs z => by cases z) h
theorem dcs_same {H H' : Hp} (e : Same H H') {ds : List Addr} {Ls : List Tb} (h : Dcs H ds Ls) : Dcs H' ds Ls := prd_imp (fun _ _ h => e _ _ h) h
theorem flat_take {Ls : List Tb} {i : Nat} {L : Tb} (h : Ls[i]? = some L) : flat (Ls.take (i + 1)) = flat (Ls.take i) ++ L.flatMap fun p => [p.1, p.2] := by
  unfold flat
  rw [List.take_add_one, h, List.flatMap_append]
  simp
theorem pairs_take {L : Tb} {i : Nat} {p : Int × Int} (h : L[i]? = some p) : ((L.take (i + 1)).flatMap fun p => [p.1, p.2]) = ((L.take i).flatMap fun p => [p.1, p.2]) ++ [p.1, p.2] := by
  rw [List.take_add_one, h, List.flatMap_append]
  simp
theorem flat_len_le {Ls : List Tb} (i : Nat) : (flat (Ls.take i)).length ≤ (flat Ls).length := by
  have : flat Ls = flat (Ls.take i) ++ flat (Ls.drop i) := by
    unfold flat
    rw [← List.flatMap_append, List.take_append_drop]
  rw [this, List.length_append]
  omega
/-- the keys of the dict of what was seen -/
abbrev vkey (Ls : List Tb) (c : Int) : List Key := (vec Ls c).map Sum.inl
theorem vkey_V (Ls : List Tb) (c : Int) : (vkey Ls c).map kV = (vec Ls c).map V.int := by
  unfold vkey
  rw [List.map_map]
  rfl
theorem vkey_inj {Ls : List Tb} {c d : Int} (h : vkey Ls c = vkey Ls d) : vec Ls c = vec Ls d := (List.map_inj_right fun _ _ e => Sum.inl.inj e).mp h
def seenT (Ls : List Tb) (cs : List Int) : List (List Key × V) := cs.map fun c => (vkey Ls c, V.int c)
theorem seen_none {Ls : List Tb} {c : Int} : ∀ {cs : List Int}, vec Ls c ∉ cs.map (vec Ls) → valV (seenT Ls cs) (vkey Ls c) = none
  | [], _ => rfl
  | d :: cs, h => by
    have h1 : vec Ls c ≠ vec Ls d := fun e => h (by rw [e]; exact List.mem_cons_self ..)
    have h2 := seen_none (cs := cs) fun m => h (List.mem_cons_of_mem _ m)
    show valV ((vkey Ls d, V.int d) :: seenT Ls cs) (vkey Ls c) = none
    rw [valV_neg (fun e => h1 (vkey_inj e).symm), h2]
theorem seen_some {Ls : List Tb} {c : Int} : ∀ {cs : List Int}, vec Ls c ∈ cs.map (vec Ls) → ∃ d, valV (seenT Ls cs) (vkey Ls c) = some (V.int d)
  | d :: cs, h => by
    show ∃ e, valV ((vkey Ls d, V.int d) :: seenT Ls cs) (vkey Ls c) = some (V.int e)
    by_cases z : vkey Ls d = vkey Ls c
    · exact ⟨d, valV_pos z⟩
    · rw [valV_neg z]
      refine seen_some (cs := cs) ?_
      rcases List.mem_cons.mp h with e | m
      · exact absurd (show vkey Ls d = vkey Ls c by unfold vkey; rw [e]) z
      · exact m
def spJoined : Sp := fun vs H Q _ => ∃ (t : Addr) (as : List Addr) (Ls : List Tb), vs = [.ref t] ∧ H t = some (.tup (as.map V.ref)) ∧ Tbs H as Ls ∧ Ls.length ≤ 3 ∧ (flat Ls).length ≤ 60 ∧ ∀ H' v, Same H H' → ((Sep Ls ∧ v = .non) ∨ (¬ Sep Ls ∧ ∃ r, v = .ref r)) → Q v H'
theorem ok_joined (T : Txt K mg A) : FnOk P w K mg base CX0 6 A.f_joined_colours A.d_joined_colours ["tables"] spJoined := by
  refine T.F_joined_colours.ok sc_joined_colours (fun vs H Q E h => ?_) (fun cdv A0 outer s H vs Q E hr h => ?_)
  · obtain ⟨t, as, Ls, rfl, _⟩ := h
    rfl
  obtain ⟨t, as, Ls, rfl, ht1, tb1, l3, lf, q⟩ := h
  have hu64 := room64 hr
  refine ⟨_, (pss_cons (ps_if (pt_not (pt_truth (pv 0) (fun _ => rfl)))
        (pss_one (ps_ret (pe_tup (pa_cons pe_int (pa_cons pe_int pa_nil)))))
        pss_nil)
      (pss_cons (ps_setLc (own := [("table", 5)]) (i := 1) rfl sc_joined_colours.nd rfl rfl (sw_true rfl rfl rfl (by decide +kernel)) (pi_tup (pv 0)) (blkOk_by (N := N_joined_colours) (sc := defScope s_joined_colours) (by decide +kernel)) (fun _ _ _ _ _ => (pg_name (i := 5) sc_joined_colours.nd rfl (.inl rfl))) (fun _ _ _ _ _ => pts_nil) (fun _ _ _ _ _ => (pe_callTy (Cl.call_dictTK (K := K) rfl rfl) (by rfl) T.m_dict (by decide +kernel) (pa_cons (pv 5) pa_nil))))
      (pss_cons (ps_set (i := 2) sc_joined_colours.nd rfl (.inl rfl) pe_dnewT)
      (pss_cons (ps_for PassesOwn.never rfl (pi_list (pe_callB (cr_sortedSet rfl) (by rfl) T.m_sorted (by decide +kernel) (pa_cons (Cl.pe_sc3 (own := [("table", 5), ("pair", 6), ("each", 7)]) (vs1 := [6, 7]) (vs2 := [7]) rfl sc_joined_colours.nd (pi_tup (pv 0)) (blkOk_by (N := N_joined_colours) (sc := defScope s_joined_colours) (by decide +kernel)) (by decide) (by decide) (fun _ _ _ _ _ => (pg_name (i := 5) sc_joined_colours.nd rfl (.inl rfl))) (fun _ _ _ _ _ => (Cl.pi_tupK (K := K) rfl (pv 5))) (fun _ _ _ _ _ => (pg_name (i := 6) sc_joined_colours.nd rfl (.inl rfl))) (fun _ _ _ _ _ => (Cl.pi_tupK (K := K) rfl (pv 6))) (fun _ _ _ _ _ => (pg_name (i := 7) sc_joined_colours.nd rfl (.inl rfl))) (fun _ _ _ _ _ => (pv 7)) Cl.new_I Cl.add_I) pa_nil))) (pg_name (i := 3) sc_joined_colours.nd rfl (.inr rfl))
        (pss_cons (ps_set (i := 4) sc_joined_colours.nd rfl (.inl rfl) (pe_callTy call_tuple_of (by rfl) T.m_tuple (by decide +kernel) (pa_cons (pe_lc (own := [("turn", 8)]) rfl sc_joined_colours.nd (pi_list (pv 1)) (blkOk_by (N := N_joined_colours) (sc := defScope s_joined_colours) (by decide +kernel)) (fun _ _ _ _ _ => (pg_name (i := 8) sc_joined_colours.nd rfl (.inl rfl))) (fun _ _ _ _ _ => pts_nil) (fun _ _ _ _ _ => (pe_dget2 (Nat.lt_of_le_of_lt (Nat.add_le_add_left (by decide) _) hu64) (pv 8) (pv 3) (pv 3) ⟨by rfl, by rfl, by rfl, by rfl⟩))) pa_nil)))
        (pss_cons (ps_if (pt_cmp (pc_din (Nat.lt_of_le_of_lt (Nat.add_le_add_left (by decide) _) hu64) (pv 4) (pv 2)))
          (pss_one (ps_ret (pe_tup (pa_cons (pe_dget (Nat.lt_of_le_of_lt (Nat.add_le_add_left (by decide) _) hu64) (pv 2) (pv 4) (fun _ _ => rfl)) (pa_cons (pv 3) pa_nil)))))
          pss_nil)
        (pss_one (ps_asg (pv 3) (pg_sub (pv 2) (pv 4) (set_dict (Nat.lt_of_le_of_lt (Nat.add_le_add_left (by decide) _) hu64))))))))
      (pss_one (ps_ret pe_non)))))), ?_⟩
  walk_at "rd"
  have hal : as.length = Ls.length := prd_len tb1
  refine ⟨!(as.map V.ref).isEmpty, .inr (.inl ⟨_, .inl (.inl ht1), rfl⟩), ?_⟩
  cases Ls with
  | nil =>
    have : as = [] := List.eq_nil_of_length_eq_zero hal
    subst this
    walk_at "rd"
    refine ⟨le_line (by decide), fun r nr => ?_⟩
    exact q _ _ (same_new nr) (.inr ⟨sep_nil, r, rfl⟩)
  | cons L0 Ls0 =>
    have tb0 := tb1
    revert tb1 tb0
    obtain ⟨a0, as0, rfl⟩ : ∃ a0 as0, as = a0 :: as0 := by
      cases as with
      | nil => simp at hal
      | cons a0 as0 => exact ⟨a0, as0, rfl⟩
    intro tb1 _
    generalize hLs : L0 :: Ls0 = Ls at *
    have ne : Ls ≠ [] := by rw [← hLs]; simp
    generalize has : a0 :: as0 = as at *
    rw [show (!!(as.map V.ref).isEmpty) = false by rw [← has]; rfl]
    walk_at "rd"
    refine ⟨.ref t, rfl, t, rfl, ⟨_, .inl (.inl ht1)⟩, fun D nD => ?_⟩
    refine lc_tup (xs := as.map V.ref) (fun i H1 => ∃ ds, Same H H1 ∧ H1 D = some (.lst ((ds : List Addr).map V.ref)) ∧ Dcs H1 ds (Ls.take i)) ⟨[], same_new nD, upd_same, .nil⟩ (fun i H1 _ h => ?_) (fun i x H1 hx h => ⟨rfl, ?_⟩) (fun H1 h => ?_)
    · obtain ⟨ds, s1, _⟩ := h
      exact .inl (.inl (s1 _ _ ht1))
    · obtain ⟨ds, s1, hD, hds⟩ := h
      rw [List.getElem?_map] at hx
      obtain ⟨a, ha, rfl⟩ := Option.map_eq_some_iff.mp hx
      obtain ⟨L, hL, ok⟩ := prd_at (tb1.same s1) ha
      have hi : i < Ls.length := (List.getElem?_eq_some_iff.mp hL).1
      obtain ⟨ts, p⟩ := ok.pt
      obtain ⟨o, od, hao⟩ := p.at'
      walk_at "rd"
      refine ⟨a, o, ts, kvT L, rfl, od, hao, prd_sq p.rows, fun d nd => ?_⟩
      have dl : ds.length ≤ 3 := by
        have := prd_len hds
        rw [List.length_take] at this
        omega
      have dD : d ≠ D := fun z => by rw [z, hD] at nd; cases nd
      have st := same_new (o := .dK (mergeK [] (kvT L))) nd
      refine ⟨_, st _ _ hD, small1000 (by rw [List.length_map]; omega), ds ++ [d], same_mut (s1.trans st) nD, by rw [upd_same, List.map_append]; rfl, ?_⟩
      rw [List.take_add_one, hL]
      refine prd_app (dcs_but (fun b u hb n => ?_) hds) (.cons ((upd_ne dD).trans upd_same) .nil)
      exact (upd_ne (fun z => by rw [z, hD] at hb; exact n _ (Option.some.inj hb).symm)).trans (st _ _ hb)
    obtain ⟨ds, s1, hD, hds⟩ := h
    rw [List.length_map, hal, List.take_length] at hds
    walk_at "rd"
    intro F nF
    have s1F := s1.trans (same_new (o := .dT []) nF)
    have nFH : H F = none := s1.free nF
    replace hD := (same_new (o := .dT []) nF) _ _ hD
    replace hds := dcs_same (same_new (o := .dT []) nF) hds
    have hF : upd H1 F (.dT []) F = some (.dT []) := upd_same
    generalize upd H1 F (.dT []) = H1 at s1F hD hds hF ⊢
    clear s1 nF
    have s1 := s1F
    have ht2 := s1 _ _ ht1
    have tb2 := tb1.same s1
    walk_at "rd"
    refine ⟨.ref t, rfl, t, rfl, ⟨_, .inl (.inl ht2)⟩, fun D2 nD2 => lp_tup (xs := as.map V.ref) (fun i => Has w D2 H1 (flat (Ls.take i))) (Has.new nD2) (fun i H2 h => .inl (.inl (h.1 _ _ ht2))) (fun i x H2 hx h => ?_) (fun H2 h => ?_)⟩
    · rw [List.getElem?_map] at hx
      obtain ⟨a, ha, rfl⟩ := Option.map_eq_some_iff.mp hx
      obtain ⟨L, hL, ok⟩ := prd_at tb2 ha
      obtain ⟨ts, p⟩ := ok.pt
      have fl : (flat (Ls.take i) ++ L.flatMap fun p => [p.1, p.2]).length ≤ 60 := by
        rw [← flat_take hL]
        have := flat_len_le (Ls := Ls) (i + 1)
        omega
      refine ⟨rfl, .ref a, rfl, a, rfl, ⟨_, (p.same h.1).sq⟩, lp_tup (xs := ts.map V.ref) (fun j => Has w D2 H1 (flat (Ls.take i) ++ (L.take j).flatMap fun p => [p.1, p.2])) (by simpa using h) (fun j H3 h => (p.same h.1).sq) (fun j x H3 hx h => ?_) (fun H3 h => ?_)⟩
      · rw [List.getElem?_map] at hx
        obtain ⟨r, hr', rfl⟩ := Option.map_eq_some_iff.mp hx
        obtain ⟨pr, hpr, e⟩ := p.row hr'
        have fl2 : (flat (Ls.take i) ++ ((L.take j).flatMap fun p => [p.1, p.2])).length ≤ 60 := by
          have e1 : (L.flatMap fun p => [p.1, p.2]) = ((L.take j).flatMap fun p => [p.1, p.2]) ++ ((L.drop j).flatMap fun p => [p.1, p.2]) := by rw [← List.flatMap_append, List.take_append_drop]
          rw [e1, List.length_append, List.length_append] at fl
          rw [List.length_append]
          omega
        refine ⟨rfl, .ref r, rfl, r, rfl, ⟨_, .inl (.inl (h.1 _ _ e))⟩, lp_tup (xs := [.int pr.1, .int pr.2]) (fun k => Has w D2 H1 (flat (Ls.take i) ++ ((L.take j).flatMap fun p => [p.1, p.2]) ++ [pr.1, pr.2].take k)) (by simpa using h) (fun k H4 h => .inl (.inl (h.1 _ _ e))) (fun k x H4 hx h => ?_) (fun H4 h => ?_)⟩
        · obtain ⟨c, hc, rfl⟩ : ∃ c, [pr.1, pr.2][k]? = some c ∧ x = .int c := by
            have : ([pr.1, pr.2].map V.int)[k]? = some x := hx
            rw [List.getElem?_map] at this
            obtain ⟨c, hc, e⟩ := Option.map_eq_some_iff.mp this
            exact ⟨c, hc, e.symm⟩
          have hk2 : k < 2 := (List.getElem?_eq_some_iff.mp hc).1
          refine ⟨rfl, .int c, rfl, Has.put nD2 (by rw [List.length_append, List.length_take]; omega) h fun H5 h5 => ?_⟩
          rw [List.take_add_one, hc, ← List.append_assoc]
          exact h5
        · show Has w D2 H1 _ H4
          rw [pairs_take hpr, ← List.append_assoc]
          exact h
      · show Has w D2 H1 _ H3
        rw [List.length_map, p.len, List.take_length] at h
        rw [flat_take hL]
        exact h
    rw [List.length_map, hal, List.take_length] at h
    obtain ⟨s2, S, n, hD2, hS, hn⟩ := h
    refine ⟨D2, S, n, rfl, hD2, by omega, fun ns v asc mem nn nv => ?_⟩
    have cover : ∀ x ∈ flat Ls, x ∈ ns := fun x m => (mem x).mpr ((hS x).mpr m)
    have nd : ns.Nodup := asc.imp fun h => by omega
    have n60 : ns.length ≤ 60 := by omega
    have sep : (ns.map (vec Ls)).Nodup ↔ Sep Ls := sep_iff ne cover nd
    have hv : upd H2 v (.lst (ns.map V.int)) v = some (.lst (ns.map V.int)) := upd_same
    have s3 : Same H1 (upd H2 v (.lst (ns.map V.int))) := s2.trans (same_new nv)
    generalize upd H2 v (.lst (ns.map V.int)) = H3 at hv s3 ⊢
    refine ⟨v, rfl, ⟨_, .inl (.inl hv)⟩, ?_⟩
    refine for_list (xs := ns.map V.int) (fun i σ H' => ∃ y3 y4, σ = [some (.ref t), some (.ref D), some (.ref F), y3, y4, none, none, none, none] ∧ Same H H' ∧ H' v = some (.lst (ns.map V.int)) ∧ H' D = some (.lst (ds.map V.ref)) ∧ Dcs H' ds Ls ∧ H' F = some (.dT (seenT Ls (ns.take i))) ∧ ((ns.take i).map (vec Ls)).Nodup)
      ⟨none, none, rfl, s1.trans s3, hv, s3 _ _ hD, dcs_same s3 hds, s3 _ _ hF, .nil⟩ (fun i σ H' _ h => ?_) (fun i x σ H' hx h => ?_) (fun σ H' h => ?_)
    · obtain ⟨y3, y4, rfl, _, hv', _⟩ := h
      exact .inl (.inl hv')
    · obtain ⟨y3, y4, rfl, sH, hv', hD', hds', hF', nod⟩ := h
      rw [List.getElem?_map] at hx
      obtain ⟨c, hc, rfl⟩ := Option.map_eq_some_iff.mp hx
      have hi : i < ns.length := (List.getElem?_eq_some_iff.mp hc).1
      have dl : ds.length = Ls.length := prd_len hds
      have tk : ns.take (i + 1) = ns.take i ++ [c] := by rw [List.take_add_one, hc]; rfl
      walk_at "rd"
      refine ⟨.ref D, rfl, D, rfl, ⟨_, .inl (.inl hD')⟩, fun D6 nD6 => lcq_list (ys := (vec Ls c).map V.int) nD6 (.inl (.inl hD')) (by simp [vec, dl]) (by simp [vec]; omega) (fun i x y Hx R hx hy sx k => ?_) (fun H6 s6 hD6 => ?_)⟩
      · rw [List.getElem?_map] at hx
        obtain ⟨d, hd, rfl⟩ := Option.map_eq_some_iff.mp hx
        obtain ⟨L, hL, e⟩ := prd_at (dcs_same sx hds') hd
        have gL : Good L := by
          obtain ⟨j, hj, ej⟩ := List.mem_iff_getElem.mp (List.mem_of_getElem? hL)
          have h2 : as[j]? = some (as[j]'(by omega)) := List.getElem?_eq_getElem (by omega)
          obtain ⟨L', hL', ok⟩ := prd_at tb1 h2
          rw [List.getElem?_eq_getElem hj, ej] at hL'
          obtain rfl := Option.some.inj hL'
          exact ok.good
        rw [List.getElem?_map] at hy
        have hy' : (vec Ls c)[i]? = some (look L c) := by
          unfold vec
          rw [List.getElem?_map, hL]
          rfl
        rw [hy'] at hy
        obtain rfl := Option.some.inj hy
        refine ⟨.ref d, rfl, d, rfl, .inl ⟨_, .inl e⟩, .int c, rfl, .int c, rfl, _, DGet.k (k := .inl c) e, ?_⟩
        rw [dict_look gL.1]
        exact k _ (Same.refl _)
      refine ⟨D6, _, rfl, .inl ⟨.inl (.inl hD6), fun x nx => ?_⟩⟩
      have sx := s6.trans (same_new (o := .tup ((vec Ls c).map V.int)) nx)
      have hx6 : upd H6 x (.tup ((vec Ls c).map V.int)) x = some (.tup ((vkey Ls c).map kV)) := by rw [upd_same, vkey_V]
      generalize upd H6 x (.tup ((vec Ls c).map V.int)) = H7 at sx hx6 ⊢
      have hF7 := sx _ _ hF'
      walk_at "rd"
      refine ⟨.ref x, rfl, .ref F, rfl, F, _, rfl, DGet.t (k := vkey Ls c) hF7 hx6, ?_⟩
      by_cases m : vec Ls c ∈ (ns.take i).map (vec Ls)
      · obtain ⟨d, hd⟩ := seen_some m
        rw [hd]
        walk_at "rd"
        refine ⟨.ref F, rfl, .ref x, rfl, F, _, rfl, hd ▸ DGet.t (k := vkey Ls c) hF7 hx6, ?_⟩
        walk_at "rd"
        refine ⟨le_line (Nat.le_of_ble_eq_true rfl), fun r nr => ?_⟩
        refine q _ _ ((sH.trans sx).trans (same_new nr)) (.inr ⟨fun z => ?_, r, rfl⟩)
        have := sep.mpr z
        rw [← List.take_append_drop (i + 1) ns, List.map_append, tk, List.map_append] at this
        have := (List.nodup_append.mp (List.nodup_append.mp this).1).2.2 _ m (vec Ls c) (by simp)
        exact this rfl
      · rw [seen_none m]
        walk_at "rd"
        have few : (seenT Ls (ns.take i)).length < sizeLine := by
          unfold seenT
          rw [List.length_map, List.length_take]
          exact small1000 (by omega)
        refine ⟨F, _, rfl, DPut.t hF7 hx6 few, ?_⟩
        rw [putK_new _ (seen_none m)]
        have off : ∀ b u, H7 b = some u → (∀ kvs, u ≠ .dT kvs) → upd H7 F (.dT (seenT Ls (ns.take i) ++ [(vkey Ls c, .int c)])) b = some u := fun b u hb n => (upd_ne (fun z => by rw [z, hF7] at hb; exact n _ (Option.some.inj hb).symm)).trans hb
        refine ⟨_, _, rfl, same_mut (sH.trans sx) nFH, off _ _ (sx _ _ hv') (fun kvs z => by cases z), off _ _ (sx _ _ hD') (fun kvs z => by cases z), prd_imp (fun _ _ h => off _ _ h fun kvs z => by cases z) (dcs_same sx hds'), ?_, ?_⟩
        · rw [upd_same, tk]
          unfold seenT
          rw [List.map_append]
          rfl
        · rw [tk, List.map_append]
          refine List.nodup_append.mpr ⟨nod, by simp, fun a ha b hb e => ?_⟩
          rw [List.map_cons, List.map_nil, List.mem_singleton] at hb
          rw [e, hb] at ha
          exact m ha
    · obtain ⟨y3, y4, rfl, sH, _, _, _, _, nod⟩ := h
      rw [List.length_map, List.take_length] at nod
      walk_at "rd"
      exact q _ _ sH (.inl ⟨sep.mp nod, rfl⟩)
def spKeep0 : Sp := fun vs H Q _ => ∃ (t : Addr) (as : List Addr) (Ls : List Tb), vs = [.ref t] ∧ H t = some (.tup (as.map V.ref)) ∧ Tbs H as Ls ∧ Ls.length ≤ 3 ∧ (flat Ls).length ≤ 60 ∧ ∀ H' b, Same H H' → (b = true ↔ Sep Ls) → Q (.bl b) H'
theorem ok_keep0 (T : Txt K mg A) : FnR P w K mg base CX0 7 A.f_keeps_apart (fun vs H Q E => vs.length ≤ sizeLine ∧ ∀ p, H p = none → spKeep0 [V.ref p] (upd H p (.tup vs)) Q E) := by
  have G_check_pairs : FnOk P w K mg base CX0 6 A.f_check_pairs A.d_check_pairs ["value"] spCheckP := ok_check_pairs T
  have G_joined_colours : FnOk P w K mg base CX0 6 A.f_joined_colours A.d_joined_colours ["tables"] spJoined := ok_joined T
  refine fun_star T.F_keeps_apart sc_keeps_apart (fun _ _ _ _ _ _ rest => by cases rest <;> rfl) (fun cdv A0 outer s H vs Q E hr h => ?_)
  obtain ⟨t, as, Ls, rfl, ht, tb, l3, lf, q⟩ := h
  refine ⟨_, (pss_cons (ps_for PassesOwn.never rfl (pi_tup (pv 0)) (pg_name (i := 1) sc_keeps_apart.nd rfl (.inl rfl))
        (pss_one (ps_expr (pe_call G_check_pairs (hr.mono (by decide)) (by rfl) T.g_check_pairs T.F_check_pairs.kp T.B_check_pairs .nil pass0 (pa_cons (pv 1) pa_nil)))))
      (pss_one (ps_ret (pe_cmpR op_isN (pe_call G_joined_colours (hr.mono (by decide)) (by rfl) T.g_joined_colours T.F_joined_colours.kp T.B_joined_colours .nil pass0 (pa_cons (pv 0) pa_nil)) pe_non (nomark _))))), ?_⟩
  walk_at "rd"
  refine ⟨.ref t, rfl, t, rfl, ⟨_, .inl (.inl ht)⟩, ?_⟩
  refine for_tup (xs := as.map V.ref) (fun i σ H' => ∃ y1, σ = [some (.ref t), y1] ∧ Same H H') ⟨none, rfl, Same.refl _⟩ (fun i σ H' _ h => ?_) (fun i x σ H' hx h => ?_) (fun σ H' h => ?_)
  · obtain ⟨y1, rfl, s⟩ := h
    exact .inl (.inl (s _ _ ht))
  · obtain ⟨y1, rfl, s⟩ := h
    rw [List.getElem?_map] at hx
    obtain ⟨a, ha, rfl⟩ := Option.map_eq_some_iff.mp hx
    obtain ⟨L, hL, ok⟩ := prd_at tb ha
    obtain ⟨ts, p⟩ := ok.pt
    have few := ok.few
    walk_at "rd"
    exact ⟨a, ts, L, rfl, p.same s, ok.good, by omega, fun H1 s1 => ⟨_, rfl, s.trans s1⟩⟩
  · obtain ⟨y1, rfl, s⟩ := h
    walk_at "rd"
    refine ⟨t, as, Ls, rfl, s _ _ ht, tb.same s, l3, lf, fun H1 v s1 hv => ?_⟩
    walk_at "rd"
    refine ⟨rfl, q _ _ (s.trans s1) ?_⟩
    rw [decide_eq_true_eq]
    rcases hv with ⟨a, b⟩ | ⟨a, r, rfl⟩
    · exact ⟨fun _ => a, fun _ => b⟩
    · exact ⟨fun z => (nomatch z), fun z => absurd z a⟩
end
section
variable {P : Program} {w : World} {K : PySem.W.Frag} {mg : Str → Option Value} {base : Heap} {A : Ad}
def spTable : Sp := fun vs H Q _ => ∃ (p : Addr) (f : Int), vs = [.ref p, .int f] ∧ Pool H p ∧ 0 < f ∧ f ≤ 100000000 ∧ ∀ H' a L, But [p] H H' → Pool H' p → (∃ ts, PT H' a ts L) → Good L → L.length ≤ 4 → Q (.ref a) H'
theorem ok_table (T : Txt K mg A) : FnOk P w K mg base CX0 3 A.f_table A.d_table ["_law_pool_here", "_law_far"] spTable := by
  have G_draw : FnOk P w K mg base CX0 1 A.f_draw A.d_draw ["_law_pool_here", "_law_many"] spDraw := ok_draw T
  have G_pairs : FnOk P w K mg base CX0 2 A.f_pairs A.d_pairs ["_law_pool_here", "_law_most", "_law_far"] spPairs := ok_pairs T
  refine T.F_table.ok sc_table (fun vs H Q E h => ?_) (fun cdv A0 outer s H vs Q E hr h => ?_)
  · obtain ⟨p, f, rfl, _⟩ := h
    rfl
  · obtain ⟨p, f, rfl, hP, f0, f1, q⟩ := h
    refine ⟨_, (pss_cons (ps_set (i := 2) sc_table.nd rfl (.inl rfl) (pe_call G_draw (hr.mono (by decide)) (by rfl) T.g_draw T.F_draw.kp T.B_draw .nil pass0 (pa_cons (pv 0) (pa_cons pe_int pa_nil))))
      (pss_cons (ps_asg (pe_callB cr_sortedI (by rfl) T.m_sorted (by decide +kernel) (pa_cons (pe_lst (pa_cons (pe_call G_draw (hr.mono (by decide)) (by rfl) T.g_draw T.F_draw.kp T.B_draw .nil pass0 (pa_cons (pv 0) (pa_cons (pv 1) pa_nil))) (pa_cons (pe_op op_add (pv 1) (pe_call G_draw (hr.mono (by decide)) (by rfl) T.g_draw T.F_draw.kp T.B_draw .nil pass0 (pa_cons (pv 0) (pa_cons pe_int pa_nil)))) (pa_cons (pe_op op_add (pv 1) pe_int) pa_nil)))) pa_nil)) (pg_unl rfl (pgs_cons (pg_name (i := 3) sc_table.nd rfl (.inl rfl)) (pgs_cons (pg_name (i := 4) sc_table.nd rfl (.inl rfl)) (pgs_cons (pg_name (i := 5) sc_table.nd rfl (.inl rfl)) pgs_nil)))))
      (pss_cons (ps_if (pt_cmpR op_eq (pv 2) pe_int (nomark _))
        (pss_one (ps_ret (Tb.pe_tupF (pa_cons (pe_tup (pa_cons (pv 3) (pa_cons (pv 4) pa_nil))) (pa_cons (pe_tup (pa_cons (pv 4) (pa_cons (pv 3) pa_nil))) pa_nil)))))
        pss_nil)
      (pss_cons (ps_if (pt_cmpR op_eq (pv 2) pe_int (nomark _))
        (pss_one (ps_ret (Tb.pe_tupF (pa_cons (pe_tup (pa_cons (pv 3) (pa_cons (pv 4) pa_nil))) (pa_cons (pe_tup (pa_cons (pv 4) (pa_cons (pv 5) pa_nil))) (pa_cons (pe_tup (pa_cons (pv 5) (pa_cons (pv 3) pa_nil))) pa_nil))))))
        pss_nil)
      (pss_one (ps_ret (pe_call G_pairs (hr.mono (by decide)) (by rfl) T.g_pairs T.F_pairs.kp T.B_pairs .nil pass0 (pa_cons (pv 0) (pa_cons pe_int (pa_cons (pv 1) pa_nil)))))))))), ?_⟩
    walk_at "rd"
    refine ⟨p, 4, rfl, hP, by decide, by decide, fun way H1 w0 w1 b1 p1 => ?_⟩
    walk_at "rd"
    refine ⟨p, f, rfl, p1, f0, by omega, fun x H2 x0 x1 b2 p2 => ?_⟩
    walk_at "rd"
    refine ⟨p, 2, rfl, p2, by decide, by decide, fun y H3 y0 y1 b3 p3 => ?_⟩
    walk_at "rd"
    refine ⟨le_line (Nat.le_of_ble_eq_true rfl), fun l nl => ?_⟩
    walk_at "rd"
    refine ⟨l, [x, f + y, f + 2], rfl, .inl (.inl upd_same), fun ns v perm srt nv => ?_⟩
    obtain rfl : ns = [x, f + y, f + 2] := by
      have a1 : [x, f + y, f + 2].Pairwise (· < ·) := by
        simp only [List.pairwise_cons, List.mem_cons, List.not_mem_nil, or_false, List.Pairwise.nil, and_true]
        refine ⟨fun z h => ?_, fun z h => ?_, fun z h => h.elim⟩
        · rcases h with rfl | rfl <;> omega
        · rcases h with rfl
          omega
      have nd : [x, f + y, f + 2].Nodup := a1.imp fun h => by omega
      exact ints_ext (lt_nd srt (perm.nodup_iff.mpr nd)) a1 fun c => perm.mem_iff
    walk_at "rd"
    refine ⟨v, _, rfl, .inl (.inl upd_same), rfl, _, _, rfl, _, _, rfl, _, _, rfl, rfl, ?_⟩
    have b13 := ((b1.trans b2).trans b3).new nl (o := .lst [.int x, .int (f + y), .int (f + 2)])
    have p3 := p3.new nl (o := .lst [.int x, .int (f + y), .int (f + 2)])
    have b14 := b13.new nv (o := .lst ([x, f + y, f + 2].map V.int))
    have p4 := p3.new nv (o := .lst ([x, f + y, f + 2].map V.int))
    generalize upd (upd H3 l (.lst [.int x, .int (f + y), .int (f + 2)])) v (.lst ([x, f + y, f + 2].map V.int)) = H4 at b14 p4 ⊢
    walk_at "rd"
    refine rd_2 (fun e => ?_) (fun e => ?_)
    · walk_at "rd"
      refine ⟨le_line (Nat.le_of_ble_eq_true rfl), fun t1 n1 => ?_⟩
      walk_at "rd"
      refine ⟨le_line (Nat.le_of_ble_eq_true rfl), fun t2 n2 => ?_⟩
      walk_at "rd"
      refine ⟨le_line (Nat.le_of_ble_eq_true rfl), fun a o na od => ?_⟩
      refine q _ a [(x, f + y), (f + y, x)] (((b14.new n1).new n2).new na) (((p4.new n1).new n2).new na) ⟨[t1, t2], ⟨o, od, upd_same⟩, .cons ((same_new na) _ _ ((same_new n2) _ _ upd_same)) (.cons ((same_new na) _ _ upd_same) .nil)⟩ ⟨?_, fun r m => ?_⟩ (Nat.le_of_ble_eq_true rfl)
      · simp only [List.pairwise_cons, List.mem_cons, List.not_mem_nil, or_false, List.Pairwise.nil, and_true]
        exact ⟨fun z h => by rw [h]; show x < f + y; omega, fun z h => h.elim⟩
      · simp only [List.mem_cons, List.not_mem_nil, or_false] at m
        unfold Col
        rcases m with rfl | rfl <;> (dsimp only; omega)
    · walk_at "rd"
      refine rd_2 (fun e => ?_) (fun e => ?_)
      · walk_at "rd"
        refine ⟨le_line (Nat.le_of_ble_eq_true rfl), fun t1 n1 => ?_⟩
        walk_at "rd"
        refine ⟨le_line (Nat.le_of_ble_eq_true rfl), fun t2 n2 => ?_⟩
        walk_at "rd"
        refine ⟨le_line (Nat.le_of_ble_eq_true rfl), fun t3 n3 => ?_⟩
        walk_at "rd"
        refine ⟨le_line (Nat.le_of_ble_eq_true rfl), fun a o na od => ?_⟩
        refine q _ a [(x, f + y), (f + y, f + 2), (f + 2, x)] ((((b14.new n1).new n2).new n3).new na) ((((p4.new n1).new n2).new n3).new na) ⟨[t1, t2, t3], ⟨o, od, upd_same⟩, .cons ((same_new na) _ _ ((same_new n3) _ _ ((same_new n2) _ _ upd_same))) (.cons ((same_new na) _ _ ((same_new n3) _ _ upd_same)) (.cons ((same_new na) _ _ upd_same) .nil))⟩ ⟨?_, fun r m => ?_⟩ (Nat.le_of_ble_eq_true rfl)
        · simp only [List.pairwise_cons, List.mem_cons, List.not_mem_nil, or_false, List.Pairwise.nil, and_true]
          refine ⟨fun z h => ?_, fun z h => ?_, fun z h => h.elim⟩
          · rcases h with rfl | rfl <;> (dsimp only; omega)
          · rw [h]
            dsimp only
            omega
        · simp only [List.mem_cons, List.not_mem_nil, or_false] at m
          unfold Col
          rcases m with rfl | rfl | rfl <;> (dsimp only; omega)
      · walk_at "rd"
        refine ⟨p, 4, f, rfl, p4, by decide, by decide, f0, by omega, fun H5 a ts L b5 p5 pt g l4 => ?_⟩
        exact q _ a L (b14.trans b5) p5 ⟨ts, pt⟩ g l4
def numK (H : Hp) : V → Int × Int
  | .ref t => match H t with
    | some (.tup [.int a, .int b]) => (a, b)
    | _ => (0, 0)
  | _ => (0, 0)
theorem numK_of {H : Hp} {t : Addr} {r : Int × Int} (h : Rw H t r) : numK H (.ref t) = r := by
  have h' : H t = some (.tup [.int r.1, .int r.2]) := h
  show (match H t with | some (.tup [.int a, .int b]) => (a, b) | _ => (0, 0)) = r
  rw [h']
theorem numK_all {H : Hp} : ∀ {zs : List Addr} {N : Tb}, Paired (Rw H) zs N → zs.map (fun t => numK H (.ref t)) = N
  | _, _, .nil => rfl
  | _, _, .cons h t => by rw [List.map_cons, numK_of h, numK_all t]
theorem prd_mem {α β : Type} {F : α → β → Prop} : ∀ {xs : List α} {ys : List β}, Paired F xs ys → ∀ {x : α}, x ∈ xs → ∃ y, F x y
  | _, _, .cons h t, x, m => by
    rcases List.mem_cons.mp m with rfl | m
    · exact ⟨_, h⟩
    · exact prd_mem t m
def lexle : Int × Int → Int × Int → Prop := fun p q => p.1 < q.1 ∨ p.1 = q.1 ∧ p.2 ≤ q.2
def swapped (L : Tb) : Tb := (L.filter fun p => decide (p.1 ≠ p.2)).map fun p => (p.2, p.1)
def spBack : Sp := fun vs H Q _ => ∃ (a : Addr) (ts : List Addr) (L : Tb), vs = [.ref a] ∧ PT H a ts L ∧ L.length ≤ 20 ∧ ∀ H' r rs M, Same H H' → PT H' r rs M → M.Perm (swapped L) → M.Pairwise lexle → Q (.ref r) H'
theorem ok_back (T : Txt K mg A) : FnOk P w K mg base CX0 1 A.f_back A.d_back ["_law_table_here"] spBack := by
  refine T.F_back.ok sc_back (fun vs H Q E h => ?_) (fun cdv A0 outer s H vs Q E hr h => ?_)
  · obtain ⟨a, ts, L, rfl, _⟩ := h
    rfl
  · obtain ⟨a, ts, L, rfl, p, few, q⟩ := h
    refine ⟨_, (pss_one (ps_ret (pe_callTy Tb.call_tupleF (by rfl) T.m_tuple (by decide +kernel) (pa_cons (pe_callB cr_sortedPO (by rfl) T.m_sorted (by decide +kernel) (pa_cons (pe_lc (own := [("_law_old", 1), ("_law_new", 2)]) rfl sc_back.nd (pi_tup (pv 0)) (blkOk_by (N := N_back) (sc := defScope s_back) (by decide +kernel)) (fun _ _ _ _ _ => (Tb.pg_tupK (K := K) (n := 2) rfl rfl (pgs_cons (pg_name (i := 1) sc_back.nd rfl (.inl rfl)) (pgs_cons (pg_name (i := 2) sc_back.nd rfl (.inl rfl)) pgs_nil)))) (fun _ _ _ _ _ => (pts_one (pt_cmpR op_ne (pv 1) (pv 2) (nomark _)))) (fun _ _ _ _ _ => (pe_tup (pa_cons (pv 2) (pa_cons (pv 1) pa_nil))))) pa_nil)) pa_nil)))), ?_⟩
    walk_at "rd"
    have len := p.len
    refine ⟨.ref a, rfl, a, rfl, ⟨_, p.sq⟩, fun D nD => ?_⟩
    refine lc_tup (xs := ts.map V.ref) (fun i H1 => ∃ zs, Same H H1 ∧ H1 D = some (.lst ((zs : List Addr).map V.ref)) ∧ Paired (Rw H1) zs (swapped (L.take i))) ⟨[], same_new nD, upd_same, .nil⟩ (fun i H1 _ h => ?_) (fun i x H1 hx h => ?_) (fun H1 h => ?_)
    · obtain ⟨zs, s1, _⟩ := h
      exact (p.same s1).sq
    · obtain ⟨zs, s1, hD, rows⟩ := h
      rw [List.getElem?_map] at hx
      obtain ⟨t, ht, rfl⟩ := Option.map_eq_some_iff.mp hx
      obtain ⟨r, hr', e⟩ := (p.same s1).row ht
      have hi : i < ts.length := (List.getElem?_eq_some_iff.mp ht).1
      have tk : L.take (i + 1) = L.take i ++ [r] := by rw [List.take_add_one, hr']; rfl
      refine ⟨t, _, rfl, .inl (.inl e), rfl, _, _, rfl, _, _, rfl, rfl, rfl, ?_⟩
      walk_at "rd"
      refine rd_2 (fun ec => ?_) (fun ec => ?_)
      · have ne : r.1 ≠ r.2 := fun z => by
          rw [z, decide_eq_true rfl] at ec
          cases ec
        walk_at "rd"
        refine ⟨le_line (Nat.le_of_ble_eq_true rfl), fun u nu => ?_⟩
        have zl : zs.length ≤ 20 := by
          have e1 := prd_len rows
          have e2 : (swapped (L.take i)).length ≤ (L.take i).length := by
            unfold swapped
            rw [List.length_map]
            exact List.length_filter_le _ _
          rw [List.length_take] at e2
          omega
        have uD : u ≠ D := fun z => by rw [z, hD] at nu; cases nu
        have st := same_new (o := .tup [.int r.2, .int r.1]) nu
        refine ⟨_, st _ _ hD, small1000 (by rw [List.length_map]; omega), zs ++ [u], same_mut (s1.trans st) nD, by rw [upd_same, List.map_append]; rfl, ?_⟩
        have e3 : swapped (L.take (i + 1)) = swapped (L.take i) ++ [(r.2, r.1)] := by
          unfold swapped
          rw [tk, List.filter_append, List.map_append, List.filter_cons_of_pos (by exact decide_eq_true ne)]
          rfl
        rw [e3]
        refine prd_app (prd_but (fun b v hb n => ?_) rows) (.cons ((upd_ne uD).trans upd_same) .nil)
        exact (upd_ne (fun z => by rw [z, hD] at hb; exact n _ (Option.some.inj hb).symm)).trans (st _ _ hb)
      · have eq : r.1 = r.2 := by
          by_cases z : r.1 = r.2
          · exact z
          · rw [decide_eq_false (fun y => z (V.int.inj y) : ¬ V.int r.1 = V.int r.2)] at ec
            cases ec
        have e3 : swapped (L.take (i + 1)) = swapped (L.take i) := by
          unfold swapped
          rw [tk, List.filter_append, List.filter_cons_of_neg (by simp [eq])]
          simp
        refine ⟨zs, s1, hD, ?_⟩
        rw [e3]
        exact rows
    · obtain ⟨zs, s1, hD, rows⟩ := h
      rw [List.length_map, len, List.take_length] at rows
      refine ⟨D, zs.map V.ref, numK H1, rfl, .inl (.inl hD), fun x hx => ?_, fun ys v srt stb nv => ?_⟩
      · obtain ⟨t, mt, rfl⟩ := List.mem_map.mp hx
        obtain ⟨r, hr'⟩ := prd_mem rows mt
        exact ⟨t, rfl, by rw [numK_of hr']; exact hr'⟩
      · obtain ⟨zs', zp, ez⟩ := perm_lift V.ref stb.perm zs rfl
        refine ⟨v, ys, rfl, .inl (.inl upd_same), fun m o nm od => ?_⟩
        have sE := (same_new (o := .lst ys) nv).trans (same_new (o := .frz o (.tup ys)) nm)
        have rowE : ∀ gs : List Addr, (∀ g ∈ gs, g ∈ zs) → Paired (Rw (upd (upd H1 v (.lst ys)) m (.frz o (.tup ys)))) gs (gs.map fun t => numK H1 (.ref t)) := fun gs sub => by
          induction gs with
          | nil => exact .nil
          | cons g gs ih =>
            obtain ⟨r, hr'⟩ := prd_mem rows (sub g (List.mem_cons_self ..))
            refine .cons ?_ (ih fun y my => sub y (List.mem_cons_of_mem _ my))
            show Rw _ g (numK H1 (.ref g))
            rw [numK_of hr']
            exact sE _ _ hr'
        refine q _ m zs' (zs'.map fun t => numK H1 (.ref t)) (s1.trans sE) ⟨⟨o, od, by rw [upd_same, ez]⟩, rowE zs' fun g mg => zp.mem_iff.mp mg⟩ ?_ ?_
        · have := zp.map fun t => numK H1 (.ref t)
          rw [numK_all rows] at this
          exact this
        · rw [List.pairwise_map]
          have o3 : ys.Pairwise fun x y => SrtO.lexB (numK H1 y) (numK H1 x) = false := srt
          rw [← ez, List.pairwise_map] at o3
          refine o3.imp fun {x y} h => ?_
          have := SrtO.lexB_no.mp h
          unfold lexle
          omega
end
section
variable {P : Program} {w : World} {K : PySem.W.Frag} {mg : Str → Option Value} {base : Heap} {A : Ad}
theorem room66 {k : Nat} {A : Around} {e : Env} (hr : Room k (A.deeper e)) : (A.deeper e).units + 66 < cLine := by
  have := hr.un
  omega
theorem flat2_len : ∀ L : Tb, (L.flatMap fun p => [p.1, p.2]).length = L.length + L.length
  | [] => rfl
  | p :: L => by
    have ih := flat2_len L
    rw [List.flatMap_cons, List.length_append, ih]
    simp only [List.length_cons, List.length_nil]
    omega
def spDue : Sp := fun vs H Q _ => ∃ (l : Addr) (as : List Addr) (Ls : List Tb), vs = [.ref l] ∧ H l = some (.lst (as.map V.ref)) ∧ Tbs H as Ls ∧ Ls ≠ [] ∧ Ls.length ≤ 3 ∧ (flat Ls).length ≤ 60 ∧ ∀ H' b, Same H H' → (b = true ↔ Sep Ls) → Q (.bl b) H'
theorem ok_due (T : Txt K mg A) : FnOk P w K mg base CX0 2 A.f_due A.d_due ["_law_tables"] spDue := by
  have G_turned : FnOk P w K mg base CX0 1 A.f_turned A.d_turned ["_law_hue", "_law_rows"] spTurned := ok_turned T
  refine T.F_due.ok sc_due (fun vs H Q E h => ?_) (fun cdv A0 outer s H vs Q E hr h => ?_)
  · obtain ⟨l, as, Ls, rfl, _⟩ := h
    rfl
  · obtain ⟨l, as, Ls, rfl, hl, tb, ne, l3, lf, q⟩ := h
    have hu64 := room64 hr
    have hu66 := room66 hr
    have hal : as.length = Ls.length := prd_len tb
    refine ⟨_, (pss_cons (ps_set (i := 1) sc_due.nd rfl (.inl rfl) (pe_lst (pa_cons (pe_op op_add (pe_op op_mul pe_int (pe_op op_pow pe_int pe_int)) pe_int) (pa_cons (pe_op op_add (pe_op op_mul pe_int (pe_op op_pow pe_int pe_int)) pe_int) pa_nil))))
      (pss_cons (ps_for PassesOwn.never rfl (pi_list (pv 0)) (pg_name (i := 2) sc_due.nd rfl (.inl rfl))
        (pss_one (ps_set (i := 1) sc_due.nd rfl (.inl rfl) (pe_op op_cat (pe_op op_cat (pv 1) (pe_lc (own := [("_law_pair", 6)]) rfl sc_due.nd (pi_tup (pv 2)) (blkOk_by (N := N_due) (sc := defScope s_due) (by decide +kernel)) (fun _ _ _ _ _ => (pg_name (i := 6) sc_due.nd rfl (.inl rfl))) (fun _ _ _ _ _ => pts_nil) (fun _ _ _ _ _ => (pe_ix (Tb.ix_tupK (K := K) rfl) (pv 6) pe_int (fun _ _ => rfl))))) (pe_lc (own := [("_law_pair", 6)]) rfl sc_due.nd (pi_tup (pv 2)) (blkOk_by (N := N_due) (sc := defScope s_due) (by decide +kernel)) (fun _ _ _ _ _ => (pg_name (i := 6) sc_due.nd rfl (.inl rfl))) (fun _ _ _ _ _ => pts_nil) (fun _ _ _ _ _ => (pe_ix (Tb.ix_tupK (K := K) rfl) (pv 6) pe_int (fun _ _ => rfl))))))))
      (pss_cons (ps_set (i := 3) sc_due.nd rfl (.inl rfl) (pe_lst pa_nil))
      (pss_cons (ps_for PassesOwn.never rfl (pi_list (pe_callB (call_sortedDI rfl) (by rfl) T.m_sorted (by decide +kernel) (pa_cons (pe_callTy (call_dictP rfl) (by rfl) T.m_dict (by decide +kernel) (pa_cons (pe_lc (own := [("_law_thing", 7)]) rfl sc_due.nd (pi_list (pv 1)) (blkOk_by (N := N_due) (sc := defScope s_due) (by decide +kernel)) (fun _ _ _ _ _ => (pg_name (i := 7) sc_due.nd rfl (.inl rfl))) (fun _ _ _ _ _ => pts_nil) (fun _ _ _ _ _ => (pe_tup (pa_cons (pv 7) (pa_cons pe_int pa_nil))))) pa_nil)) pa_nil))) (pg_name (i := 4) sc_due.nd rfl (.inr rfl))
        (pss_cons (ps_setLc (own := [("_law_table_here", 2)]) (i := 5) rfl sc_due.nd rfl rfl (sw_true rfl rfl rfl (by decide +kernel)) (pi_list (pv 0)) (blkOk_by (N := N_due) (sc := defScope s_due) (by decide +kernel)) (fun _ _ _ _ _ => (pg_name (i := 2) sc_due.nd rfl (.inl rfl))) (fun _ _ _ _ _ => pts_nil) (fun _ _ _ _ _ => (pe_call G_turned (hr.mono (by decide)) (by rfl) T.g_turned T.F_turned.kp T.B_turned .nil pass0 (pa_cons (pv 4) (pa_cons (pv 2) pa_nil)))))
        (pss_cons (ps_if (pt_cmpR (op_inD (Nat.lt_of_lt_of_le (Nat.add_lt_add_left (by decide) _) (Nat.le_of_lt hu66))) (pv 5) (pv 3) (by with_unfolding_all rfl))
          (pss_one (ps_ret pe_bl))
          pss_nil)
        (pss_one (ps_expr (pe_bm PySem.F.plainAttrs_list PySem.F.slot_list_append PySem.F.type_list_append mt_append (pv 3) (pa_cons (pv 5) pa_nil)))))))
      (pss_one (ps_ret pe_bl)))))), ?_⟩
    walk_at "rd"
    refine ⟨le_line (Nat.le_of_ble_eq_true rfl), fun n0 nn0 => ?_⟩
    walk_at "rd"
    refine ⟨.ref l, rfl, l, rfl, ⟨_, .inl (.inl ((same_new nn0) _ _ hl))⟩, ?_⟩
    refine for_list (xs := as.map V.ref) (fun i σ H' => ∃ y2 n W, σ = [some (.ref l), some (.ref n), y2, none, none, none, none, none] ∧ Same H H' ∧ H' n = some (.lst ((W : List Int).map V.int)) ∧ (∀ c ∈ flat (Ls.take i), c ∈ W) ∧ W.length ≤ 2 + (flat (Ls.take i)).length)
      ⟨none, n0, [7 * 10 ^ Int.toNat 8 + 1, 7 * 10 ^ Int.toNat 8 + 2], rfl, same_new nn0, upd_same, fun c h => by simp [flat] at h, by simp⟩ (fun i σ H' _ h => ?_) (fun i x σ H' hx h => ?_) (fun σ H' h => ?_)
    · obtain ⟨y2, n, W, rfl, s, _⟩ := h
      exact .inl (.inl (s _ _ hl))
    · obtain ⟨y2, n, W, rfl, s, hn, sub, wl⟩ := h
      rw [List.getElem?_map] at hx
      obtain ⟨a, ha, rfl⟩ := Option.map_eq_some_iff.mp hx
      obtain ⟨L, hL, ok⟩ := prd_at (tb.same s) ha
      obtain ⟨ts, p⟩ := ok.pt
      have lfew := ok.few
      have w62 : W.length ≤ 62 := by
        have := flat_len_le (Ls := Ls) i
        omega
      walk_at "rd"
      refine ⟨.ref a, rfl, a, rfl, ⟨_, p.sq⟩, fun D nD => lcq_tup (ys := L.map fun r => .int r.1) nD p.sq (by have := p.len; simp only [List.length_map]; exact this) (by rw [List.length_map]; omega) (fun i x y Hx R hx hy sx k => ?_) (fun H5 s5 hD => ?_)⟩
      · rw [List.getElem?_map] at hx hy
        obtain ⟨t, ht, rfl⟩ := Option.map_eq_some_iff.mp hx
        obtain ⟨r, hr', rfl⟩ := Option.map_eq_some_iff.mp hy
        obtain ⟨r', hr2, e⟩ := (p.same sx).row ht
        obtain rfl := Option.some.inj (hr'.symm.trans hr2)
        walk_at "rd"
        exact k _ (Same.refl _)
      refine ⟨n, D, _, _, rfl, rfl, s5 _ _ hn, hD, le_line (by simp only [List.length_map]; omega), fun c1 nc1 => ?_⟩
      have s6 := s5.trans (same_new (o := .lst (W.map V.int ++ L.map fun r => V.int r.1)) nc1)
      have hc1 : upd H5 c1 (.lst (W.map V.int ++ L.map fun r => V.int r.1)) c1 = some (.lst (W.map V.int ++ L.map fun r => V.int r.1)) := upd_same
      generalize upd H5 c1 (.lst (W.map V.int ++ L.map fun r => V.int r.1)) = H6 at s6 hc1 ⊢
      have p6 := p.same s6
      refine ⟨.ref a, rfl, a, rfl, ⟨_, p6.sq⟩, fun D2 nD2 => lcq_tup (ys := L.map fun r => .int r.2) nD2 p6.sq (by have := p.len; simp only [List.length_map]; exact this) (by rw [List.length_map]; omega) (fun i x y Hx R hx hy sx k => ?_) (fun H7 s7 hD2 => ?_)⟩
      · rw [List.getElem?_map] at hx hy
        obtain ⟨t, ht, rfl⟩ := Option.map_eq_some_iff.mp hx
        obtain ⟨r, hr', rfl⟩ := Option.map_eq_some_iff.mp hy
        obtain ⟨r', hr2, e⟩ := (p6.same sx).row ht
        obtain rfl := Option.some.inj (hr'.symm.trans hr2)
        walk_at "rd"
        exact k _ (Same.refl _)
      refine ⟨c1, D2, _, _, rfl, rfl, s7 _ _ hc1, hD2, le_line (by simp only [List.length_append, List.length_map]; omega), fun c2 nc2 => ?_⟩
      refine ⟨_, c2, W ++ L.map (·.1) ++ L.map (·.2), rfl, (s.trans s6).trans (s7.trans (same_new nc2)), by rw [upd_same]; simp [Function.comp_def], fun c m => ?_, ?_⟩
      · rw [flat_take hL] at m
        rcases List.mem_append.mp m with m | m
        · exact List.mem_append_left _ (List.mem_append_left _ (sub c m))
        · obtain ⟨r, mr, h⟩ := List.mem_flatMap.mp m
          simp only [List.mem_cons, List.not_mem_nil, or_false] at h
          rcases h with rfl | rfl
          · exact List.mem_append_left _ (List.mem_append_right _ (List.mem_map.mpr ⟨r, mr, rfl⟩))
          · exact List.mem_append_right _ (List.mem_map.mpr ⟨r, mr, rfl⟩)
      · have e := flat2_len L
        rw [flat_take hL, List.length_append, List.length_append, List.length_append, e, List.length_map, List.length_map]
        omega
    · obtain ⟨y2, n, W, rfl, s, hn, sub, wl⟩ := h
      rw [List.length_map, hal, List.take_length] at sub wl
      have w62 : W.length ≤ 62 := by omega
      walk_at "rd"
      refine ⟨le_line (Nat.zero_le _), fun sn nsn => ?_⟩
      walk_at "rd"
      have sA := s.trans (same_new (o := .lst []) nsn)
      have snH : H sn = none := s.free nsn
      have hnA := (same_new (o := .lst []) nsn) _ _ hn
      have hsnA : upd H' sn (.lst []) sn = some (.lst []) := upd_same
      generalize upd H' sn (.lst []) = HA at sA hnA hsnA ⊢
      refine ⟨.ref n, rfl, n, rfl, ⟨_, .inl (.inl hnA)⟩, fun D nD => ?_⟩
      refine lc_list (xs := W.map V.int) (fun i H1 => ∃ zs, Same HA H1 ∧ H1 D = some (.lst ((zs : List Addr).map V.ref)) ∧ Paired (Rw H1) zs ((W.take i).map fun c => (c, (0 : Int)))) ⟨[], same_new nD, upd_same, .nil⟩ (fun i H1 _ h => ?_) (fun i x H1 hx h => ⟨rfl, ?_⟩) (fun H1 h => ?_)
      · obtain ⟨_, s1, _⟩ := h
        exact .inl (.inl (s1 _ _ hnA))
      · obtain ⟨zs, s1, hD, rows⟩ := h
        rw [List.getElem?_map] at hx
        obtain ⟨k, hk, rfl⟩ := Option.map_eq_some_iff.mp hx
        have hi : i < W.length := (List.getElem?_eq_some_iff.mp hk).1
        walk_at "rd"
        refine ⟨le_line (Nat.le_of_ble_eq_true rfl), fun t nt => ?_⟩
        have st := same_new (o := .tup [.int k, .int 0]) nt
        have zl : zs.length ≤ 62 := by
          have := prd_len rows
          rw [List.length_map, List.length_take] at this
          omega
        have tD : t ≠ D := fun z => by rw [z, hD] at nt; cases nt
        refine ⟨_, st _ _ hD, small1000 (by rw [List.length_map]; omega), zs ++ [t], same_mut (s1.trans st) nD, by rw [upd_same, List.map_append]; rfl, ?_⟩
        rw [List.take_add_one, hk, List.map_append]
        refine prd_app (prd_but (fun b u hb n => ?_) rows) (.cons ((upd_ne tD).trans upd_same) .nil)
        exact (upd_ne (fun z => by rw [z, hD] at hb; exact n _ (Option.some.inj hb).symm)).trans (st _ _ hb)
      obtain ⟨zs, s1, hD, rows⟩ := h
      rw [List.length_map, List.take_length] at rows
      obtain ⟨R, eR, ndR, _, keyR, lenR⟩ := items_of (fun _ => 0) W [] .nil (by simp)
      simp only [List.length_nil] at lenR
      refine ⟨D, zs, kvT (W.map fun c => (c, (0 : Int))), rfl, .inl (.inl hD), prd_sq rows, fun e ne' => ⟨e, kvT R, R.map (·.1), rfl, .inl ?_, by simp [kvT, Function.comp_def], by rw [List.length_map]; omega, fun ys v perm srt nv => ?_⟩⟩
      · rw [upd_same]
        exact congrArg (fun z => some (HO.dK z)) eR
      have nd : ys.Nodup := perm.nodup_iff.mpr ndR
      have cover : ∀ c ∈ flat Ls, c ∈ ys := fun c m => perm.mem_iff.mpr ((keyR c).mpr (.inr (sub c m)))
      have ylen : ys.length ≤ 62 := by
        have := perm.length_eq
        rw [List.length_map] at this
        omega
      have sB := s1.trans ((same_new (o := .dK (mergeK [] (kvT (W.map fun c => (c, (0 : Int)))))) ne').trans (same_new (o := .lst (ys.map V.int)) nv))
      have hvB : upd (upd H1 e (.dK (mergeK [] (kvT (W.map fun c => (c, (0 : Int))))))) v (.lst (ys.map V.int)) v = some (.lst (ys.map V.int)) := upd_same
      have hsB := sB _ _ hsnA
      have vsn : v ≠ sn := fun z => by
        have := ((same_new (o := .dK (mergeK [] (kvT (W.map fun c => (c, (0 : Int)))))) ne')) _ _ (s1 _ _ hsnA)
        rw [← z, nv] at this
        cases this
      generalize upd (upd H1 e (.dK (mergeK [] (kvT (W.map fun c => (c, (0 : Int))))))) v (.lst (ys.map V.int)) = HB at sB hvB hsB ⊢
      refine ⟨v, rfl, ⟨_, .inl (.inl hvB)⟩, ?_⟩
      refine for_list (xs := ys.map V.int) (fun i σ H' => ∃ y2 y4 y5 rs, σ = [some (.ref l), some (.ref n), y2, some (.ref sn), y4, y5, none, none] ∧ Same H H' ∧ H' v = some (.lst (ys.map V.int)) ∧ H' sn = some (.lst ((rs : List Addr).map V.ref)) ∧ (∀ r ∈ rs, r ≠ sn) ∧ Paired (Lr (vec Ls) H') rs (ys.take i) ∧ ((ys.take i).map (vec Ls)).Nodup)
        ⟨_, none, none, [], rfl, sA.trans sB, hvB, hsB, by simp, .nil, .nil⟩ (fun i σ H' _ h => ?_) (fun i x σ H' hx h => ?_) (fun σ H' h => ?_)
      · obtain ⟨y2, y4, y5, rs, rfl, _, hv, _⟩ := h
        exact .inl (.inl hv)
      · obtain ⟨y2, y4, y5, rs, rfl, sH, hv, hsn, off, rows, ndv⟩ := h
        rw [List.getElem?_map] at hx
        obtain ⟨k, hk, rfl⟩ := Option.map_eq_some_iff.mp hx
        have hi : i < ys.length := (List.getElem?_eq_some_iff.mp hk).1
        have tb' := tb.same sH
        walk_at "rd"
        refine ⟨.ref l, rfl, l, rfl, ⟨_, .inl (.inl (sH _ _ hl))⟩, fun D2 nD2 => lcq_list (ys := (vec Ls k).map V.int) nD2 (.inl (.inl (sH _ _ hl))) (by simp [vec, hal]) (by simp [vec]; omega) (fun j x y Hx R hx hy sx q' => ?_) (fun H3 s3 hD2 => ?_)⟩
        · rw [List.getElem?_map] at hx
          obtain ⟨a, ha, rfl⟩ := Option.map_eq_some_iff.mp hx
          obtain ⟨L, hL, ok⟩ := prd_at (tb'.same sx) ha
          obtain ⟨ts, p⟩ := ok.pt
          have hy' : (vec Ls k)[j]? = some (look L k) := by
            unfold vec
            rw [List.getElem?_map, hL]
            rfl
          rw [List.getElem?_map, hy'] at hy
          obtain rfl := Option.some.inj hy
          walk_at "rd"
          exact ⟨k, a, ts, L, rfl, p, q' _ (Same.refl _)⟩
        have hsn3 := s3 _ _ hsn
        have rows3 : Paired (Lr (vec Ls) H3) rs (ys.take i) := prd_imp (fun _ _ h => s3 _ _ h) rows
        have D2sn : D2 ≠ sn := fun z => by
          rw [z] at nD2
          rw [hsn] at nD2
          cases nD2
        walk_at "rd"
        refine ⟨lis (vec Ls k), ((ys.take i).map (vec Ls)).map lis, dp_ints _ (.inl (.inl hD2)), .lst (.inl (.inl hsn3)) (lr_dp rows3), shaped_ints _, shaped_lls _, ?_⟩
        rw [any_lls]
        walk_at "rd"
        refine rd_2 (fun ec => ?_) (fun ec => ?_)
        · have m := of_decide_eq_true ec
          walk_at "rd"
          refine q _ false (sH.trans s3) ⟨(fun z => by cases z), fun sep => ?_⟩
          obtain ⟨c, mc, e⟩ := List.mem_map.mp m
          have ck : c = k := sep _ _ e
          subst ck
          have : (ys.take (i + 1)).Nodup := nd.sublist (List.take_sublist _ _)
          rw [List.take_add_one, hk] at this
          exact absurd rfl ((List.nodup_append.mp this).2.2 _ mc _ (by simp))
        · have m := of_decide_eq_false ec
          walk_at "rd"
          refine ⟨.inl ⟨rfl, _, .inl (.inl hsn3)⟩, ?_⟩
          walk_at "rd"
          have rl : rs.length ≤ 62 := by
            have := prd_len rows
            rw [List.length_take] at this
            omega
          refine ⟨sn, _, _, rfl, rfl, hsn3, small1000 (by rw [List.length_map]; omega), ?_⟩
          refine ⟨_, _, _, rs ++ [D2], rfl, same_mut (sH.trans s3) snH, (upd_ne vsn).trans (s3 _ _ hv), by rw [upd_same, List.map_append]; rfl, fun r mr => ?_, ?_, ?_⟩
          · rcases List.mem_append.mp mr with mr | mr
            · exact off r mr
            · have : r = D2 := by simpa using mr
              rw [this]
              exact D2sn
          · rw [List.take_add_one, hk]
            have keep : ∀ (o : HO) {rs : List Addr} {cs : List Int}, (∀ r ∈ rs, r ≠ sn) → Paired (Lr (vec Ls) H3) rs cs → Paired (Lr (vec Ls) (upd H3 sn o)) rs cs := fun o {rs cs} off h => by
              induction h with
              | nil => exact .nil
              | cons h t ih => exact .cons ((upd_ne (off _ (List.mem_cons_self ..))).trans h) (ih fun r m => off r (List.mem_cons_of_mem _ m))
            exact prd_app (keep _ off rows3) (.cons ((upd_ne D2sn).trans hD2) .nil)
          · rw [List.take_add_one, hk, List.map_append]
            refine List.nodup_append.mpr ⟨ndv, by simp, fun u mu u' mu' e => ?_⟩
            have : u' = vec Ls k := by simpa using mu'
            exact m (this ▸ e ▸ mu)
      · obtain ⟨y2, y4, y5, rs, rfl, sH, hv, hsn, off, rows, ndv⟩ := h
        rw [List.length_map, List.take_length] at ndv
        walk_at "rd"
        exact q _ true sH ⟨fun _ => sep_of ne cover ndv, fun _ => rfl⟩
end
section
variable {P : Program} {w : World} {K : PySem.W.Frag} {mg : Str → Option Value} {base : Heap} {A : Ad}
theorem flat_small {k : Nat} : ∀ {Ls : List Tb}, (∀ L ∈ Ls, L.length ≤ k) → (flat Ls).length ≤ 2 * k * Ls.length
  | [], _ => Nat.zero_le _
  | L :: Ls, h => by
    have h1 := h L (List.mem_cons_self ..)
    have ih := flat_small (Ls := Ls) fun M m => h M (List.mem_cons_of_mem _ m)
    have e : (flat (L :: Ls)).length = (L.length + L.length) + (flat Ls).length := by
      unfold flat
      rw [List.flatMap_cons, List.length_append, flat2_len]
    rw [e, List.length_cons, Nat.mul_add]
    omega
theorem keep_ok {H : Hp} {as : List Addr} {Ls : List Tb} {Q : VK} {E : XK} (tb : Tbs H as Ls) (l3 : Ls.length ≤ 3) (few : ∀ L ∈ Ls, L.length ≤ 10) (q : ∀ H' b, Same H H' → (b = true ↔ Sep Ls) → Q (.bl b) H') :
    (as.map V.ref).length ≤ sizeLine ∧ ∀ p, H p = none → spKeep0 [V.ref p] (upd H p (.tup (as.map V.ref))) Q E := by
  have la := prd_len tb
  have := flat_small few
  refine ⟨le_line (by rw [List.length_map]; omega), fun p np => ⟨p, as, Ls, rfl, upd_same, tb.same (same_new np), l3, by omega, fun H' b s e => q H' b ((same_new np).trans s) e⟩⟩
theorem due_ok {H : Hp} {l : Addr} {as : List Addr} {Ls : List Tb} {Q : VK} {E : XK} (hl : H l = some (.lst (as.map V.ref))) (tb : Tbs H as Ls) (ne : Ls ≠ []) (l3 : Ls.length ≤ 3) (few : ∀ L ∈ Ls, L.length ≤ 10) (q : ∀ H' b, Same H H' → (b = true ↔ Sep Ls) → Q (.bl b) H') : spDue [.ref l] H Q E := by
  have := flat_small few
  exact ⟨l, as, Ls, rfl, hl, tb, ne, l3, by omega, q⟩
theorem seq_if {T : TT} {Y rest : TS} {D : Ends} {σ : L2.St} {H : Hp} (I : Hp → Prop) (h : ∀ C : Bool → Hp → Prop, (∀ H', I H' → C false H') → T σ H C) (fin : ∀ H', I H' → rest D σ H') : tSeq (tIfS T Y tNext) rest D σ H :=
  h _ fun H' i => by
    show (if false = true then _ else _)
    rw [if_neg (by decide)]
    exact fin H' i
def Nm (F : Int → Int) (U : Tb) : Prop := ∃ ns : List Int, ns.Pairwise (· < ·) ∧ (∀ c, F c ≠ c → c ∈ ns) ∧ U = comb F ns
theorem nm_eq {F G : Int → Int} {U V : Tb} (h1 : Nm F U) (h2 : Nm G V) (e : ∀ c, F c = G c) : U = V := by
  obtain ⟨ns, a, b, rfl⟩ := h1
  obtain ⟨ms, c, d, rfl⟩ := h2
  exact comb_ext a c b d e
theorem comb_ok {H : Hp} {a b : Addr} {L M : Tb} {Q : VK} {E : XK} (ta : TbOk H a L) (tb : TbOk H b M) (few : L.length + M.length ≤ 20) (q : ∀ H' r U, Same H H' → TbOk H' r U → U.length ≤ L.length + M.length → (∀ c, look U c = look M (look L c)) → Nm (both L M) U → Q (.ref r) H') : spComb [.ref a, .ref b] H Q E := by
  obtain ⟨ts, p⟩ := ta.pt
  obtain ⟨us, r⟩ := tb.pt
  refine ⟨a, b, ts, us, L, M, rfl, p, r, ta.good, tb.good, by omega, by omega, fun H' z vs ns s asc mem len pt => ?_⟩
  have all : ∀ c, both L M c ≠ c → c ∈ ns := fun c h => (mem c).mpr (both_in h)
  have cl := @comb_len (both L M) ns
  refine q H' z _ s ⟨⟨vs, pt⟩, comb_good asc (fun c m => ?_) (fun c h => look_col tb.good.2 (look_col ta.good.2 h)), by omega⟩ (by omega) (fun c => look_comb asc all c) ⟨ns, asc, all, rfl⟩
  obtain ⟨p, mp, rfl⟩ := (mem c).mp m
  exact (List.mem_append.mp mp).elim (fun m => (ta.good.2 p m).1) fun m => (tb.good.2 p m).1
theorem show4 (b1 b2 b3 b4 : Bool) : (PyData.list ([b1, b2, b3, b4].map PyData.bool)).showable = true ∧ (PyData.list ([b1, b2, b3, b4].map PyData.bool)).depth ≤ 60 ∧ (PyData.list ([b1, b2, b3, b4].map PyData.bool)).shown.length ≤ sizeLine := by
  cases b1 <;> cases b2 <;> cases b3 <;> cases b4 <;> exact ⟨by decide +kernel, by decide +kernel, le_line (by decide +kernel)⟩
theorem bl_eq {b c : Bool} {S : Prop} (h1 : b = true ↔ S) (h2 : c = true ↔ S) : b = c := Bool.eq_iff_iff.mpr (h1.trans h2.symm)
def spRight : Sp := fun vs H Q _ => ∃ (p : Addr) (f : Int), vs = [.ref p, .int f] ∧ Pool H p ∧ 0 < f ∧ f ≤ 100000000 ∧ ∀ H', But [p] H H' → Pool H' p → Q (.bl true) H'
theorem ok_right (T : Txt K mg A) : Vg.FnG P w K mg base CX0 8 A.f_right A.d_right ["_law_pool_here", "_law_far"] spRight := by
  have G_table : FnOk P w K mg base CX0 3 A.f_table A.d_table ["_law_pool_here", "_law_far"] spTable := ok_table T
  have G_turned : FnOk P w K mg base CX0 1 A.f_turned A.d_turned ["_law_hue", "_law_rows"] spTurned := ok_turned T
  have G_due : FnOk P w K mg base CX0 2 A.f_due A.d_due ["_law_tables"] spDue := ok_due T
  have G_back : FnOk P w K mg base CX0 1 A.f_back A.d_back ["_law_table_here"] spBack := ok_back T
  have G_recoloured : FnOk P w K mg base CX0 7 A.f_recoloured A.d_recoloured ["colour", "pairs"] spRecol := ok_recoloured T
  have G_combined : FnOk P w K mg base CX0 7 A.f_combined A.d_combined ["pairs", "other_pairs"] spComb := ok_combined T
  have G_keeps_apart : FnR P w K mg base CX0 7 A.f_keeps_apart (fun vs H Q E => vs.length ≤ sizeLine ∧ ∀ p, H p = none → spKeep0 [V.ref p] (upd H p (.tup vs)) Q E) := ok_keep0 T
  refine Vg.okG T.F_right sc_right (fun vs H Q E h => ?_) (fun cdv A0 outer s H vs Q E hg h => ?_)
  · obtain ⟨p, f, rfl, _⟩ := h
    rfl
  · obtain ⟨p, f, rfl, hP, f0, f1, q⟩ := h
    have hr := hg.rm
    have hu64 := room64 hr
    refine ⟨_, PSs.nox (pss_cons (ps_asg (pe_lc (own := [("_law_k", 7)]) rfl sc_right.nd (pi_range1 (by rfl) T.m_range (pa_cons pe_int pa_nil)) (blkOk_by (N := N_right) (sc := defScope s_right) (by decide +kernel)) (fun _ _ _ _ _ => (pg_name (i := 7) sc_right.nd rfl (.inl rfl))) (fun _ _ _ _ _ => pts_nil) (fun _ _ _ _ _ => (pe_call G_table (hr.mono (by decide)) (by rfl) T.g_table T.F_table.kp T.B_table .nil pass0 (pa_cons (pv 0) (pa_cons (pv 1) pa_nil))))) (pg_unl rfl (pgs_cons (pg_name (i := 2) sc_right.nd rfl (.inl rfl)) (pgs_cons (pg_name (i := 3) sc_right.nd rfl (.inl rfl)) (pgs_cons (pg_name (i := 4) sc_right.nd rfl (.inl rfl)) pgs_nil)))))
      (pss_cons (ps_set (i := 5) sc_right.nd rfl (.inl rfl) (pe_lst (pa_cons (Cl.pe_callR G_keeps_apart (hr.mono (by decide)) (by rfl) T.g_keeps_apart T.F_keeps_apart.kp pass0 (pa_cons (pv 2) pa_nil)) (pa_cons (Cl.pe_callR G_keeps_apart (hr.mono (by decide)) (by rfl) T.g_keeps_apart T.F_keeps_apart.kp pass0 (pa_cons (pv 2) (pa_cons (pv 3) pa_nil))) (pa_cons (Cl.pe_callR G_keeps_apart (hr.mono (by decide)) (by rfl) T.g_keeps_apart T.F_keeps_apart.kp pass0 (pa_cons (pv 2) (pa_cons (pv 3) (pa_cons (pv 4) pa_nil)))) (pa_cons (Cl.pe_callR G_keeps_apart (hr.mono (by decide)) (by rfl) T.g_keeps_apart T.F_keeps_apart.kp pass0 (pa_cons (pv 4) (pa_cons (pv 2) (pa_cons (pv 3) pa_nil)))) pa_nil))))))
      (pss_cons (ps_set (i := 6) sc_right.nd rfl (.inl rfl) (pe_lst (pa_cons (pe_call G_due (hr.mono (by decide)) (by rfl) T.g_due T.F_due.kp T.B_due .nil pass0 (pa_cons (pe_lst (pa_cons (pv 2) pa_nil)) pa_nil)) (pa_cons (pe_call G_due (hr.mono (by decide)) (by rfl) T.g_due T.F_due.kp T.B_due .nil pass0 (pa_cons (pe_lst (pa_cons (pv 2) (pa_cons (pv 3) pa_nil))) pa_nil)) (pa_cons (pe_call G_due (hr.mono (by decide)) (by rfl) T.g_due T.F_due.kp T.B_due .nil pass0 (pa_cons (pe_lst (pa_cons (pv 2) (pa_cons (pv 3) (pa_cons (pv 4) pa_nil)))) pa_nil)) pa_nil)))))
      (pss_cons (ps_if (pt_cmpR op_ne (pe_callB (Vx.call_repr_data hr hg.gd) (by rfl) T.m_repr (by decide +kernel) (pa_cons (pv 5) pa_nil)) (pe_callB (Vx.call_repr_data hr hg.gd) (by rfl) T.m_repr (by decide +kernel) (pa_cons (pe_op op_cat (pv 6) (pe_slice sl_list (pv 6) (po_some pe_int) po_none)) pa_nil)) (nomark _))
        (pss_one (ps_ret pe_bl))
        pss_nil)
      (pss_cons (ps_if (pw_and (pt_val (pe_ix ix_list (pv 6) pe_int (fun _ _ => rfl))) (pw_and1 (pt_cmpR (op_neD hu64) (pe_call G_combined (hr.mono (by decide)) (by rfl) T.g_combined T.F_combined.kp T.B_combined .nil pass0 (pa_cons (pv 2) (pa_cons (pe_call G_back (hr.mono (by decide)) (by rfl) T.g_back T.F_back.kp T.B_back .nil pass0 (pa_cons (pv 2) pa_nil)) pa_nil))) (Tb.pe_tupF pa_nil) (nomark _)))).pt
        (pss_one (ps_ret pe_bl))
        pss_nil)
      (pss_cons (ps_if (pt_cmpR (op_neD hu64) (pe_call G_combined (hr.mono (by decide)) (by rfl) T.g_combined T.F_combined.kp T.B_combined .nil pass0 (pa_cons (pe_call G_combined (hr.mono (by decide)) (by rfl) T.g_combined T.F_combined.kp T.B_combined .nil pass0 (pa_cons (pv 2) (pa_cons (pv 3) pa_nil))) (pa_cons (pv 4) pa_nil))) (pe_call G_combined (hr.mono (by decide)) (by rfl) T.g_combined T.F_combined.kp T.B_combined .nil pass0 (pa_cons (pv 2) (pa_cons (pe_call G_combined (hr.mono (by decide)) (by rfl) T.g_combined T.F_combined.kp T.B_combined .nil pass0 (pa_cons (pv 3) (pa_cons (pv 4) pa_nil))) pa_nil))) (nomark _))
        (pss_one (ps_ret pe_bl))
        pss_nil)
      (pss_cons (ps_if (pw_and (pt_cmpR op_is_bl (Cl.pe_callR G_keeps_apart (hr.mono (by decide)) (by rfl) T.g_keeps_apart T.F_keeps_apart.kp pass0 (pa_cons (pe_call G_combined (hr.mono (by decide)) (by rfl) T.g_combined T.F_combined.kp T.B_combined .nil pass0 (pa_cons (pv 2) (pa_cons (pv 3) pa_nil))) pa_nil)) pe_bl (nomark _)) (pw_and1 (pt_cmpR op_is_bl (pe_ix ix_list (pv 6) pe_int (fun _ _ => rfl)) pe_bl (nomark _)))).pt
        (pss_one (ps_ret pe_bl))
        pss_nil)
      (pss_one (ps_ret (pe_cmpR op_eq (pe_call G_recoloured (hr.mono (by decide)) (by rfl) T.g_recoloured T.F_recoloured.kp T.B_recoloured .nil pass0 (pa_cons (pe_op op_pow pe_int pe_int) (pa_cons (pe_call G_combined (hr.mono (by decide)) (by rfl) T.g_combined T.F_combined.kp T.B_combined .nil pass0 (pa_cons (pv 2) (pa_cons (pv 4) pa_nil))) pa_nil))) (pe_call G_turned (hr.mono (by decide)) (by rfl) T.g_turned T.F_turned.kp T.B_turned .nil pass0 (pa_cons (pe_call G_turned (hr.mono (by decide)) (by rfl) T.g_turned T.F_turned.kp T.B_turned .nil pass0 (pa_cons (pe_op op_pow pe_int pe_int) (pa_cons (pv 2) pa_nil))) (pa_cons (pv 4) pa_nil))) (nomark _))))))))))), ?_⟩
    walk_at "rd"
    refine ⟨3, rfl, by decide, by decide, fun D nD => ?_⟩
    refine lc_range (fun i H1 => ∃ as Ls, But [p] H H1 ∧ Pool H1 p ∧ H1 D = some (.lst ((as : List Addr).map V.ref)) ∧ Tbs H1 as Ls ∧ as.length = i ∧ ∀ L ∈ Ls, L.length ≤ 4) ⟨[], [], But.new .refl nD, hP.new nD, upd_same, .nil, rfl, fun L m => by simp at m⟩ (fun i H1 hi h => ⟨rfl, ?_⟩) (fun H1 h => ?_)
    · obtain ⟨as, Ls, b1, p1, hD, tb, la, few⟩ := h
      have hi3 : i < 3 := hi
      have Dp : D ≠ p := hP.ne nD
      walk_at "rd"
      refine ⟨p, f, rfl, p1, f0, f1, fun H2 a L b2 p2 pt g l4 => ?_⟩
      have hD2 := b2 _ _ (fun z => Dp (List.mem_singleton.mp z)) hD
      have tb2 := tb.but b2 p1
      have up : ∀ (o : HO) {as : List Addr} {Ls : List Tb}, Tbs H2 as Ls → Tbs (upd H2 D o) as Ls := fun o {as Ls} h => prd_imp (fun a L ok => ⟨by
        obtain ⟨ts, ⟨o', od, h⟩, rows⟩ := ok.pt
        have ne : ∀ b u, H2 b = some u → (∀ zs, u ≠ .lst zs) → upd H2 D o b = some u := fun b u h n => (upd_ne (fun z => by rw [z, hD2] at h; exact n _ (Option.some.inj h).symm)).trans h
        exact ⟨ts, ⟨o', od, ne _ _ h fun zs z => by cases z⟩, prd_but ne rows⟩, ok.good, ok.few⟩) h
      refine ⟨_, hD2, small1000 (by rw [List.length_map]; omega), as ++ [a], Ls ++ [L], (b1.trans b2).mut nD, p2.upd Dp.symm, by rw [upd_same, List.map_append]; rfl, up _ (prd_app tb2 (.cons ⟨pt, g, by omega⟩ .nil)), by rw [List.length_append, la]; rfl, fun M m => ?_⟩
      rcases List.mem_append.mp m with m | m
      · exact few M m
      · have : M = L := by simpa using m
        rw [this]
        exact l4
    · obtain ⟨as, Ls, b1, p1, hD, tb, la, few⟩ := h
      have la3 : as.length = 3 := la
      have ll := prd_len tb
      obtain ⟨a, b, c, rfl⟩ : ∃ a b c, as = [a, b, c] := by
        match as, la3 with
        | [a, b, c], _ => exact ⟨a, b, c, rfl⟩
      obtain ⟨L, M, N, rfl⟩ : ∃ L M N, Ls = [L, M, N] := by
        match Ls, ll with
        | [L, M, N], _ => exact ⟨L, M, N, rfl⟩
      clear la la3 ll
      obtain ⟨ta, tb', tc⟩ : TbOk H1 a L ∧ TbOk H1 b M ∧ TbOk H1 c N := by
        cases tb with
        | cons h1 t => cases t with
          | cons h2 t => cases t with
            | cons h3 t => exact ⟨h1, h2, h3⟩
      have lL := few L (by simp)
      have lM := few M (by simp)
      have lN := few N (by simp)
      clear tb few
      refine ⟨D, _, rfl, .inl (.inl hD), rfl, _, _, rfl, _, _, rfl, _, _, rfl, rfl, ?_⟩
      walk_at "rd"
      refine keep_ok (as := [a]) (Ls := [L]) (.cons ta .nil) (Nat.le_of_ble_eq_true rfl) (by simp; omega) fun H2 k1 s2 e1 => ?_
      walk_at "rd"
      refine keep_ok (as := [a, b]) (Ls := [L, M]) (.cons (ta.same s2) (.cons (tb'.same s2) .nil)) (Nat.le_of_ble_eq_true rfl) (by simp; omega) fun H3 k2 s3 e2 => ?_
      walk_at "rd"
      replace s3 := s2.trans s3
      refine keep_ok (as := [a, b, c]) (Ls := [L, M, N]) (.cons (ta.same s3) (.cons (tb'.same s3) (.cons (tc.same s3) .nil))) (Nat.le_of_ble_eq_true rfl) (by simp; omega) fun H4 k3 s4 e3 => ?_
      walk_at "rd"
      replace s4 := s3.trans s4
      refine keep_ok (as := [c, a, b]) (Ls := [N, L, M]) (.cons (tc.same s4) (.cons (ta.same s4) (.cons (tb'.same s4) .nil))) (Nat.le_of_ble_eq_true rfl) (by simp; omega) fun H5 k4 s5 e4 => ?_
      walk_at "rd"
      replace s5 := s4.trans s5
      refine ⟨le_line (Nat.le_of_ble_eq_true rfl), fun u nu => ?_⟩
      walk_at "rd"
      replace s5 := s5.trans (same_new (o := .lst [.bl k1, .bl k2, .bl k3, .bl k4]) nu)
      have hu : upd H5 u (.lst [.bl k1, .bl k2, .bl k3, .bl k4]) u = some (.lst ([k1, k2, k3, k4].map V.bl)) := upd_same
      generalize upd H5 u (.lst [.bl k1, .bl k2, .bl k3, .bl k4]) = H6 at s5 hu ⊢
      clear s2 s3 s4
      -- what is due
      refine ⟨le_line (Nat.le_of_ble_eq_true rfl), fun l1 n1 => ?_⟩
      walk_at "rd"
      have s7 := s5.trans (same_new (o := .lst [.ref a]) n1)
      refine due_ok (as := [a]) (Ls := [L]) upd_same (.cons (ta.same s7) .nil) (by simp) (Nat.le_of_ble_eq_true rfl) (by simp; omega) fun H8 d1 s8 f1' => ?_
      walk_at "rd"
      replace s8 := (same_new (o := .lst [.ref a]) n1).trans s8
      refine ⟨le_line (Nat.le_of_ble_eq_true rfl), fun l2 n2 => ?_⟩
      walk_at "rd"
      have s9 := s8.trans (same_new (o := .lst [.ref a, .ref b]) n2)
      have s79 := s5.trans s9
      refine due_ok (as := [a, b]) (Ls := [L, M]) upd_same (.cons (ta.same s79) (.cons (tb'.same s79) .nil)) (by simp) (Nat.le_of_ble_eq_true rfl) (by simp; omega) fun H10 d2 s10 f2' => ?_
      walk_at "rd"
      replace s10 := s9.trans s10
      refine ⟨le_line (Nat.le_of_ble_eq_true rfl), fun l3 n3 => ?_⟩
      walk_at "rd"
      have s11 := s10.trans (same_new (o := .lst [.ref a, .ref b, .ref c]) n3)
      have s711 := s5.trans s11
      refine due_ok (as := [a, b, c]) (Ls := [L, M, N]) upd_same (.cons (ta.same s711) (.cons (tb'.same s711) (.cons (tc.same s711) .nil))) (by simp) (Nat.le_of_ble_eq_true rfl) (by simp; omega) fun H12 d3 s12 f3' => ?_
      walk_at "rd"
      replace s12 := s11.trans s12
      refine ⟨le_line (Nat.le_of_ble_eq_true rfl), fun v nv => ?_⟩
      walk_at "rd"
      replace s12 := s12.trans (same_new (o := .lst [.bl d1, .bl d2, .bl d3]) nv)
      have hv : upd H12 v (.lst [.bl d1, .bl d2, .bl d3]) v = some (.lst ([d1, d2, d3].map V.bl)) := upd_same
      replace hu := s12 _ _ hu
      have s13 := s5.trans s12
      generalize upd H12 v (.lst [.bl d1, .bl d2, .bl d3]) = H13 at s12 hv hu s13 ⊢
      clear s5 s7 s8 s9 s79 s10 s11 s711 s12
      obtain ⟨w1, w2, w3⟩ := show4 k1 k2 k3 k4
      refine ⟨_, _, rfl, .dp (dp_bls [k1, k2, k3, k4] (.inl (.inl hu))), w1, w2, w3, ?_⟩
      walk_at "rd"
      refine ⟨.ref v, rfl, 2, rfl, v, _, rfl, .inl (.inl hv), fun l4 n4 => ?_⟩
      have ec : cutV ([d1, d2, d3].map V.bl) (some 2) none = [d3].map V.bl := rfl
      rw [ec]
      have s14 := s13.trans (same_new (o := .lst ([d3].map V.bl)) n4)
      refine ⟨v, l4, _, _, rfl, rfl, (same_new n4) _ _ hv, upd_same, le_line (Nat.le_of_ble_eq_true rfl), fun l5 n5 => ?_⟩
      replace s14 := s14.trans (same_new (o := .lst ([d1, d2, d3].map V.bl ++ [d3].map V.bl)) n5)
      replace hv := (same_new (o := .lst ([d1, d2, d3].map V.bl ++ [d3].map V.bl)) n5) _ _ ((same_new (o := .lst ([d3].map V.bl)) n4) _ _ hv)
      have hw : upd (upd H13 l4 (.lst ([d3].map V.bl))) l5 (.lst ([d1, d2, d3].map V.bl ++ [d3].map V.bl)) l5 = some (.lst ([d1, d2, d3, d3].map V.bl)) := upd_same
      generalize upd (upd H13 l4 (.lst ([d3].map V.bl))) l5 (.lst ([d1, d2, d3].map V.bl ++ [d3].map V.bl)) = H14 at s14 hv hw ⊢
      walk_at "rd"
      obtain ⟨x1, x2, x3⟩ := show4 d1 d2 d3 d3
      refine ⟨_, _, rfl, .dp (dp_bls [d1, d2, d3, d3] (.inl (.inl hw))), x1, x2, x3, ?_⟩
      obtain rfl := bl_eq e1 f1'
      obtain rfl := bl_eq e2 f2'
      obtain rfl := bl_eq e3 f3'
      obtain rfl := bl_eq (e4.trans sep_rot) e3
      clear w1 w2 w3 x1 x2 x3 hu s13 hw
      walk_at "rd"
      rw [if_neg (by simp)]
      dsimp only [tNext]
      refine seq_if (Same H14) (fun C fin => ?_) (fun H15 s15 => ?_)
      · walk_at "rd"
        cases k1 with
        | false => exact fin _ (Same.refl _)
        | true =>
          have sep := e1.mp rfl
          have ta2 := ta.same s14
          obtain ⟨ts, pa⟩ := ta2.pt
          rw [if_pos rfl]
          walk_at "rd"
          refine ⟨a, ts, L, rfl, pa, by omega, fun H15 r rs R s15 pr perm ord => ?_⟩
          have mem : ∀ p, p ∈ R ↔ (p.2, p.1) ∈ L ∧ p.2 ≠ p.1 := fun p => perm.mem_iff.trans (mem_swapped (f := swapped) rfl)
          have gR : Good R := back_good ta.good sep mem (perm.nodup_iff.mpr (swap_nodup ta.good)) ord
          have lR : R.length ≤ 4 := by
            rw [perm.length_eq]
            unfold swapped
            rw [List.length_map]
            exact Nat.le_trans (List.length_filter_le _ _) lL
          walk_at "rd"
          refine comb_ok (ta2.same s15) ⟨⟨rs, pr⟩, gR, by omega⟩ (by omega) fun H16 z U s16 tU lU eU nU => ?_
          obtain ⟨ns, _, _, rfl⟩ := nU
          have none' : comb (both L R) ns = [] := comb_none (back_all ta.good sep mem gR)
          obtain ⟨us, pU⟩ := tU.pt
          rw [none'] at pU
          walk_at "rd"
          refine ⟨le_line (Nat.le_of_ble_eq_true rfl), fun y o ny od => ?_⟩
          have pE : PT (upd H16 y (.frz o (.tup []))) y [] [] := ⟨⟨o, od, upd_same⟩, .nil⟩
          refine ⟨_, _, (pU.same (same_new ny)).dp, pE.dp, shaped_dat _, shaped_dat _, ?_⟩
          rw [eqv_dat]
          walk_at "rd"
          exact fin _ ((s15.trans s16).trans (same_new ny))
      refine seq_if (Same H14) (fun C fin => ?_) (fun H16 s16 => ?_)
      · walk_at "rd"
        have s' := s14.trans s15
        refine comb_ok (ta.same s') (tb'.same s') (by omega) fun H16 z U s16 tU lU eU nU => ?_
        walk_at "rd"
        have s'' := s'.trans s16
        refine comb_ok tU (tc.same s'') (by omega) fun H17 z2 U2 s17 tU2 lU2 eU2 nU2 => ?_
        walk_at "rd"
        have s3 := s''.trans s17
        refine comb_ok (tb'.same s3) (tc.same s3) (by omega) fun H18 z3 U3 s18 tU3 lU3 eU3 nU3 => ?_
        walk_at "rd"
        have s4 := s3.trans s18
        refine comb_ok (ta.same s4) tU3 (by omega) fun H19 z4 U4 s19 tU4 lU4 eU4 nU4 => ?_
        walk_at "rd"
        obtain rfl : U2 = U4 := nm_eq nU2 nU4 fun x => by
          show look N (look U x) = look U3 (look L x)
          rw [eU, eU3]
        obtain ⟨q1, w1⟩ := tU2.pt
        obtain ⟨q2, w2⟩ := tU4.pt
        refine ⟨_, _, (w1.same (s18.trans s19)).dp, w2.dp, shaped_dat _, shaped_dat _, ?_⟩
        rw [eqv_dat]
        walk_at "rd"
        exact fin _ ((s15.trans s16).trans ((s17.trans s18).trans s19))
      refine seq_if (Same H14) (fun C fin => ?_) (fun H17 s17 => ?_)
      · walk_at "rd"
        have s' := s14.trans s16
        refine comb_ok (ta.same s') (tb'.same s') (by omega) fun H17 z U s17 tU lU eU nU => ?_
        walk_at "rd"
        refine keep_ok (as := [z]) (Ls := [U]) (.cons tU .nil) (Nat.le_of_ble_eq_true rfl) (by simp; omega) fun H18 k s18 ek => ?_
        walk_at "rd"
        refine ⟨k, true, rfl, rfl, decide (k = true), rfl, ?_⟩
        have hv18 := (s16.trans (s17.trans s18)) _ _ hv
        cases k with
        | false => exact fin _ (s16.trans (s17.trans s18))
        | true =>
          obtain rfl : k1 = true := e1.mpr (sep_both eU (ek.mp rfl))
          rw [if_pos (by decide)]
          walk_at "rd"
          exact ⟨true, false, rfl, rfl, decide (true = false), rfl, fin _ (s16.trans (s17.trans s18))⟩
      walk_at "rd"
      have s' := s14.trans s17
      refine comb_ok (ta.same s') (tc.same s') (by omega) fun H18 z U s18 tU lU eU nU => ?_
      walk_at "rd"
      obtain ⟨us, pU⟩ := tU.pt
      have col9 : Col (10 ^ Int.toNat 9) := by
        unfold Col
        decide
      refine ⟨_, z, us, U, rfl, col9, pU, tU.good, by omega, fun H19 s19 => ?_⟩
      walk_at "rd"
      have s3 := s'.trans (s18.trans s19)
      obtain ⟨ts, pa⟩ := (ta.same s3).pt
      obtain ⟨qs, pc⟩ := (tc.same s3).pt
      refine ⟨_, a, ts, L, rfl, pa, ?_⟩
      walk_at "rd"
      refine ⟨_, c, qs, N, rfl, pc, ?_⟩
      walk_at "rd"
      rw [eU, decide_eq_true rfl]
      exact q _ (b1.trans (.of s3)) (p1.same s3)
end
section
variable {P : Program} {w : World} {K : PySem.W.Frag} {mg : Str → Option Value} {base : Heap} {A : Ad}
theorem tb_nil {H : Hp} {z : Addr} {o : Obj} (od : o.dict = none) (h : H z = some (.frz o (.tup []))) : TbOk H z [] := ⟨⟨[], ⟨o, od, h⟩, .nil⟩, good_nil, Nat.zero_le _⟩
theorem sep_e1 : Sep [[]] := fun c d h => (List.cons.inj (show [c] = [d] from h)).1
theorem sep_e2 : Sep [[], []] := fun c d h => (List.cons.inj (show [c, c] = [d, d] from h)).1
def spLaw (K : PySem.W.Frag) : Sp := fun vs H Q _ => ∃ (a : Addr) (ns : List Int), vs = [.ref a] ∧ SqL K H a (ns.map V.int) ∧ ns.length ≤ 63 ∧ ∀ H', Q (.bl true) H'
theorem spLaw_of {K : PySem.W.Frag} {H : Hp} {a : Addr} {ns : List Int} {E : XK} (hl : ns.length ≤ 63) (hS : SqL K H a (ns.map V.int)) : spLaw K [.ref a] H (fun v _ => v = .bl true) E := ⟨a, ns, rfl, hS, hl, fun _ => rfl⟩
theorem ok_law (T : Txt K mg A) : Vg.FnG P w K mg base CX0 9 A.f_law A.d_law ["_law_script"] (spLaw K) := by
  have G_right : Vg.FnG P w K mg base CX0 8 A.f_right A.d_right ["_law_pool_here", "_law_far"] spRight := ok_right T
  have G_pool : FnOk P w K mg base CX0 1 A.f_pool A.d_pool ["_law_cell_here"] spPool := ok_pool T
  have G_cell : FnOk P w K mg base CX0 1 A.f_cell A.d_cell ["_law_script", "_law_k"] (spCell K) := ok_cell T
  have G_keeps_apart : FnR P w K mg base CX0 7 A.f_keeps_apart (fun vs H Q E => vs.length ≤ sizeLine ∧ ∀ p, H p = none → spKeep0 [V.ref p] (upd H p (.tup vs)) Q E) := ok_keep0 T
  refine Vg.okG T.F_law sc_law (fun vs H Q E h => ?_) (fun cdv A0 outer s H vs Q E hg h => ?_)
  · obtain ⟨a, ns, rfl, _⟩ := h
    rfl
  · obtain ⟨a, ns, rfl, hS, hl, q⟩ := h
    have hr := hg.rm
    refine ⟨_, PSs.nox (pss_cons (ps_for PassesOwn.never rfl (pi_range1 (by rfl) T.m_range (pa_cons (pe_callB (call_max2 rfl) (by rfl) T.m_max (by decide +kernel) (pa_cons pe_int (pa_cons (pe_callB (call_min2 rfl) (by rfl) T.m_min (by decide +kernel) (pa_cons (pe_callB call_len_seq (by rfl) T.m_len PySem.boot_len (pa_cons (pv 0) pa_nil)) (pa_cons pe_int pa_nil))) pa_nil))) pa_nil)) (pg_name (i := 1) sc_law.nd rfl (.inl rfl))
        (pss_cons (ps_set (i := 2) sc_law.nd rfl (.inr rfl) (pe_call G_pool (hr.mono (by decide)) (by rfl) T.g_pool T.F_pool.kp T.B_pool .nil pass0 (pa_cons (pe_call G_cell (hr.mono (by decide)) (by rfl) T.g_cell T.F_cell.kp T.B_cell .nil pass0 (pa_cons (pv 0) (pa_cons (pv 1) pa_nil))) pa_nil)))
        (pss_one (ps_if (pt_not (pt_val (pe_callB (cr_all rfl) (by rfl) T.m_all (by decide +kernel) (pa_cons (pe_lc (own := [("_law_turn", 3)]) rfl sc_law.nd (pi_range1 (by rfl) T.m_range (pa_cons pe_int pa_nil)) (blkOk_by (N := N_law) (sc := defScope s_law) (by decide +kernel)) (fun _ _ _ _ _ => (pg_name (i := 3) sc_law.nd rfl (.inl rfl))) (fun _ _ _ _ _ => pts_nil) (fun _ _ _ _ _ => (Vg.pe_callG G_right (hg.mono (by decide)) (by rfl) T.g_right T.F_right.kp T.B_right .nil pass0 (pa_cons (pv 2) (pa_cons (pe_ix (Tb.ix_listK (K := K) rfl) (pe_lst (pa_cons pe_int (pa_cons pe_int (pa_cons (pe_op op_pow pe_int pe_int) pa_nil)))) (pe_op op_mod (pv 3) pe_int) (fun _ _ => rfl)) pa_nil))))) pa_nil))))
          (pss_one (ps_ret pe_bl))
          pss_nil))))
      (pss_one (ps_ret (pe_and (pe_cmpR op_is_bl (Cl.pe_callR0 G_keeps_apart (hr.mono (by decide)) (by rfl) T.g_keeps_apart T.F_keeps_apart.kp pass0) pe_bl (nomark _)) (pe_and (pe_cmpR op_is_bl (Cl.pe_callR G_keeps_apart (hr.mono (by decide)) (by rfl) T.g_keeps_apart T.F_keeps_apart.kp pass0 (pa_cons (Tb.pe_tupF pa_nil) pa_nil)) pe_bl (nomark _)) (pe_one (pe_cmpR op_is_bl (Cl.pe_callR G_keeps_apart (hr.mono (by decide)) (by rfl) T.g_keeps_apart T.F_keeps_apart.kp pass0 (pa_cons (Tb.pe_tupF pa_nil) (pa_cons (Tb.pe_tupF pa_nil) pa_nil))) pe_bl (nomark _)))))))), ?_⟩
    walk_at "rd"
    have hb : ∀ x : Int, x ≤ 63 → -(2 ^ 62) ≤ (if x > 2 then x else 2) ∧ (if x > 2 then x else 2) < 2 ^ 62 ∧ (if x > 2 then x else 2).toNat ≤ 63 := fun x hx => by
      split <;> omega
    have hm : (if (6 : Int) < ((ns.map V.int).length : Int) then (6 : Int) else ((ns.map V.int).length : Int)) ≤ 63 := by split <;> omega
    refine ⟨.ref a, rfl, a, _, rfl, .inl hS, _, _, rfl, _, _, rfl, _, rfl, (hb _ hm).1, (hb _ hm).2.1, ?_⟩
    have hn := (hb _ hm).2.2
    refine for_range (fun i σ H' => ∃ y1 y2, σ = [some (.ref a), y1, y2, none] ∧ Same H H') ⟨none, none, rfl, Same.refl _⟩ (fun i σ H1 hi h => ?_) (fun σ H1 h => ?_)
    · obtain ⟨y1, y2, rfl, s1⟩ := h
      walk_at "rd"
      refine ⟨a, ns, _, rfl, s1.seq hS, by omega, by omega, fun z H2 s2 => ?_⟩
      walk_at "rd"
      refine ⟨z, rfl, fun p H3 np s3 p3 => ?_⟩
      walk_at "rd"
      have s13 := (s1.trans s2).trans s3
      have pH : H p = none := (s1.trans s2).free np
      refine ⟨8, rfl, by decide, by decide, fun D nD => ?_⟩
      refine lc_range (fun i H' => But [p] H3 H' ∧ Pool H' p ∧ H' D = some (.lst ((List.replicate i true).map V.bl))) ⟨But.new .refl nD, p3.new nD, upd_same⟩ (fun i H4 hi h => ⟨rfl, ?_⟩) (fun H4 h => ?_)
      · obtain ⟨b4, p4, hD⟩ := h
        obtain ⟨f, hat, f0, f1⟩ : ∃ f : Int, atI [V.int 3, .int 6, .int (10 ^ Int.toNat 8)] ((0 + (i : Int)) % 3) = some (.int f) ∧ 0 < f ∧ f ≤ 100000000 := by
          obtain ⟨v, e, m⟩ := atI_lt (xs := [V.int 3, .int 6, .int (10 ^ Int.toNat 8)]) (r := (0 + (i : Int)) % 3) (by omega) (by show _ < ((3 : Nat) : Int); omega)
          simp only [List.mem_cons, List.not_mem_nil, or_false] at m
          rcases m with rfl | rfl | rfl
          · exact ⟨_, e, by decide, by decide⟩
          · exact ⟨_, e, by decide, by decide⟩
          · exact ⟨_, e, by decide, by decide⟩
        walk_at "rd"
        refine ⟨le_line (Nat.le_of_ble_eq_true rfl), fun l nl => ?_⟩
        walk_at "rd"
        have Dp : D ≠ p := p3.ne nD
        refine ⟨p, f, rfl, p4.new nl, f0, f1, fun H5 b5 p5 => ?_⟩
        have hD5 := b5 _ _ (fun z => Dp (List.mem_singleton.mp z)) ((same_new nl) _ _ hD)
        have hi10 : i < 8 := hi
        refine ⟨_, hD5, small1000 (by rw [List.length_map, List.length_replicate]; omega), ((b4.new nl).trans b5).mut nD, p5.upd Dp.symm, ?_⟩
        rw [upd_same, List.replicate_succ', List.map_append]
        rfl
      · obtain ⟨b4, p4, hD⟩ := h
        refine ⟨D, _, rfl, .inl (.inl hD), ?_⟩
        rw [all_rep]
        walk_at "rd"
        exact ⟨_, _, rfl, same_of_but ((But.of s13).trans b4) fun b m => by rw [List.mem_singleton.mp m]; exact pH⟩
    · obtain ⟨y1, y2, rfl, s1⟩ := h
      walk_at "rd"
      refine keep_ok (as := []) (Ls := []) .nil (Nat.zero_le _) (fun L m => by simp at m) fun H2 k1 s2 e1 => ?_
      obtain rfl : k1 = false := by
        cases k1 with
        | false => rfl
        | true => exact absurd (e1.mp rfl) sep_nil
      walk_at "rd"
      refine ⟨false, false, rfl, rfl, true, rfl, ?_⟩
      rw [if_pos rfl]
      walk_at "rd"
      refine ⟨le_line (Nat.zero_le _), fun x o nx od => ?_⟩
      refine keep_ok (as := [x]) (Ls := [[]]) (.cons (tb_nil od upd_same) .nil) (Nat.le_of_ble_eq_true rfl) (fun L m => by rw [List.mem_singleton.mp m]; exact Nat.zero_le _) fun H3 k2 s3 e2 => ?_
      obtain rfl : k2 = true := e2.mpr sep_e1
      walk_at "rd"
      refine ⟨true, true, rfl, rfl, true, rfl, ?_⟩
      rw [if_pos rfl]
      walk_at "rd"
      refine ⟨le_line (Nat.zero_le _), fun x1 o1 nx1 od1 => ?_⟩
      walk_at "rd"
      refine ⟨le_line (Nat.zero_le _), fun x2 o2 nx2 od2 => ?_⟩
      have t1 : TbOk (upd H3 x1 (.frz o1 (.tup []))) x1 [] := tb_nil od1 upd_same
      refine keep_ok (as := [x1, x2]) (Ls := [[], []]) (.cons (t1.same (same_new nx2)) (.cons (tb_nil od2 upd_same) .nil)) (Nat.le_of_ble_eq_true rfl) (fun L m => by
        simp only [List.mem_cons, List.not_mem_nil, or_false, or_self] at m
        rw [m]
        exact Nat.zero_le _) fun H4 k3 s4 e3 => ?_
      obtain rfl : k3 = true := e3.mpr sep_e2
      walk_at "rd"
      exact ⟨true, true, rfl, rfl, q _⟩
end
theorem all_mk {l : PySem.W.OpenLaw} {w : World} {K : PySem.W.Frag} {h : Heap} {mg : Str → Option Value} {fa : Addr} (X : K.In h) (G : h.Ns mainGlobals mg) (hfa : mg "law" = some (.ref fa))
    {f0 : Addr} {od0 an0 : Option Addr} {sl0 : Array (Option Value)} {oc0 kV0 dc0 pm0 cd0 ct0 : Value}
    {f1 : Addr} {od1 an1 : Option Addr} {sl1 : Array (Option Value)} {oc1 kV1 dc1 pm1 cd1 ct1 : Value}
    {f2 : Addr} {od2 an2 : Option Addr} {sl2 : Array (Option Value)} {oc2 kV2 dc2 pm2 cd2 ct2 : Value}
    {f3 : Addr} {od3 an3 : Option Addr} {sl3 : Array (Option Value)} {oc3 kV3 dc3 pm3 cd3 ct3 : Value}
    {f4 : Addr} {od4 an4 : Option Addr} {sl4 : Array (Option Value)} {oc4 kV4 dc4 pm4 cd4 ct4 : Value}
    {f5 : Addr} {od5 an5 : Option Addr} {sl5 : Array (Option Value)} {oc5 kV5 dc5 pm5 cd5 ct5 : Value}
    {f6 : Addr} {od6 an6 : Option Addr} {sl6 : Array (Option Value)} {oc6 kV6 dc6 pm6 cd6 ct6 : Value}
    {f7 : Addr} {od7 an7 : Option Addr} {sl7 : Array (Option Value)} {oc7 kV7 dc7 pm7 cd7 ct7 : Value}
    {f8 : Addr} {od8 an8 : Option Addr} {sl8 : Array (Option Value)} {oc8 kV8 dc8 pm8 cd8 ct8 : Value}
    {f9 : Addr} {od9 an9 : Option Addr} {sl9 : Array (Option Value)} {oc9 kV9 dc9 pm9 cd9 ct9 : Value}
    {f10 : Addr} {od10 an10 : Option Addr} {sl10 : Array (Option Value)} {oc10 kV10 dc10 pm10 cd10 ct10 : Value}
    {f11 : Addr} {od11 an11 : Option Addr} {sl11 : Array (Option Value)} {oc11 kV11 dc11 pm11 cd11 ct11 : Value}
    {f12 : Addr} {od12 an12 : Option Addr} {sl12 : Array (Option Value)} {oc12 kV12 dc12 pm12 cd12 ct12 : Value}
    {f13 : Addr} {od13 an13 : Option Addr} {sl13 : Array (Option Value)} {oc13 kV13 dc13 pm13 cd13 ct13 : Value}
    {f14 : Addr} {od14 an14 : Option Addr} {sl14 : Array (Option Value)} {oc14 kV14 dc14 pm14 cd14 ct14 : Value}
    {f15 : Addr} {od15 an15 : Option Addr} {sl15 : Array (Option Value)} {oc15 kV15 dc15 pm15 cd15 ct15 : Value}
    {f16 : Addr} {od16 an16 : Option Addr} {sl16 : Array (Option Value)} {oc16 kV16 dc16 pm16 cd16 ct16 : Value}
    {f17 : Addr} {od17 an17 : Option Addr} {sl17 : Array (Option Value)} {oc17 kV17 dc17 pm17 cd17 ct17 : Value}
    {f18 : Addr} {od18 an18 : Option Addr} {sl18 : Array (Option Value)} {oc18 kV18 dc18 pm18 cd18 ct18 : Value}
    {f19 : Addr} {od19 an19 : Option Addr} {sl19 : Array (Option Value)} {oc19 kV19 dc19 pm19 cd19 ct19 : Value}
    {f20 : Addr} {od20 an20 : Option Addr} {sl20 : Array (Option Value)} {oc20 kV20 dc20 pm20 cd20 ct20 : Value}
    {tk0 : Tok}
    (a0 : PySem.W.nsIn K mainGlobals "is_int" = some (some (.ref f0)))
    (l0 : K.lookup f0 = some ⟨oc0, od0, .func (PySem.W.fnOf "is_int" "is_int" (defArgs s_is_int) (defBody s_is_int) (defScope s_is_int) .none kV0 dc0 pm0 an0 cd0 ct0), sl0⟩)
    (c0 : PySem.W.codeIn K cd0 "is_int" = true) (k0 : PySem.W.keepIn K (.ref f0) = true)
    (a1 : PySem.W.nsIn K mainGlobals "is_between" = some (some (.ref f1)))
    (l1 : K.lookup f1 = some ⟨oc1, od1, .func (PySem.W.fnOf "is_between" "is_between" (defArgs s_is_between) (defBody s_is_between) (defScope s_is_between) .none kV1 dc1 pm1 an1 cd1 ct1), sl1⟩)
    (c1 : PySem.W.codeIn K cd1 "is_between" = true) (k1 : PySem.W.keepIn K (.ref f1) = true)
    (a2 : PySem.W.nsIn K mainGlobals "is_colour" = some (some (.ref f2)))
    (l2 : K.lookup f2 = some ⟨oc2, od2, .func (PySem.W.fnOf "is_colour" "is_colour" (defArgs s_is_colour) (defBody s_is_colour) (defScope s_is_colour) .none kV2 dc2 pm2 an2 cd2 ct2), sl2⟩)
    (c2 : PySem.W.codeIn K cd2 "is_colour" = true) (k2 : PySem.W.keepIn K (.ref f2) = true)
    (a3 : PySem.W.nsIn K mainGlobals "check_colour" = some (some (.ref f3)))
    (l3 : K.lookup f3 = some ⟨oc3, od3, .func (PySem.W.fnOf "check_colour" "check_colour" (defArgs s_check_colour) (defBody s_check_colour) (defScope s_check_colour) .none kV3 dc3 pm3 an3 cd3 ct3), sl3⟩)
    (c3 : PySem.W.codeIn K cd3 "check_colour" = true) (k3 : PySem.W.keepIn K (.ref f3) = true)
    (a4 : PySem.W.nsIn K mainGlobals "is_pair" = some (some (.ref f4)))
    (l4 : K.lookup f4 = some ⟨oc4, od4, .func (PySem.W.fnOf "is_pair" "is_pair" (defArgs s_is_pair) (defBody s_is_pair) (defScope s_is_pair) .none kV4 dc4 pm4 an4 cd4 ct4), sl4⟩)
    (c4 : PySem.W.codeIn K cd4 "is_pair" = true) (k4 : PySem.W.keepIn K (.ref f4) = true)
    (a5 : PySem.W.nsIn K mainGlobals "is_pairs" = some (some (.ref f5)))
    (l5 : K.lookup f5 = some ⟨oc5, od5, .func (PySem.W.fnOf "is_pairs" "is_pairs" (defArgs s_is_pairs) (defBody s_is_pairs) (defScope s_is_pairs) .none kV5 dc5 pm5 an5 cd5 ct5), sl5⟩)
    (c5 : PySem.W.codeIn K cd5 "is_pairs" = true) (k5 : PySem.W.keepIn K (.ref f5) = true)
    (a6 : PySem.W.nsIn K mainGlobals "check_pairs" = some (some (.ref f6)))
    (l6 : K.lookup f6 = some ⟨oc6, od6, .func (PySem.W.fnOf "check_pairs" "check_pairs" (defArgs s_check_pairs) (defBody s_check_pairs) (defScope s_check_pairs) .none kV6 dc6 pm6 an6 cd6 ct6), sl6⟩)
    (c6 : PySem.W.codeIn K cd6 "check_pairs" = true) (k6 : PySem.W.keepIn K (.ref f6) = true)
    (a7 : PySem.W.nsIn K mainGlobals "recoloured" = some (some (.ref f7)))
    (l7 : K.lookup f7 = some ⟨oc7, od7, .func (PySem.W.fnOf "recoloured" "recoloured" (defArgs s_recoloured) (defBody s_recoloured) (defScope s_recoloured) .none kV7 dc7 pm7 an7 cd7 ct7), sl7⟩)
    (c7 : PySem.W.codeIn K cd7 "recoloured" = true) (k7 : PySem.W.keepIn K (.ref f7) = true)
    (a8 : PySem.W.nsIn K mainGlobals "combined" = some (some (.ref f8)))
    (l8 : K.lookup f8 = some ⟨oc8, od8, .func (PySem.W.fnOf "combined" "combined" (defArgs s_combined) (defBody s_combined) (defScope s_combined) .none kV8 dc8 pm8 an8 cd8 ct8), sl8⟩)
    (c8 : PySem.W.codeIn K cd8 "combined" = true) (k8 : PySem.W.keepIn K (.ref f8) = true)
    (a9 : PySem.W.nsIn K mainGlobals "keeps_apart" = some (some (.ref f9)))
    (l9 : K.lookup f9 = some ⟨oc9, od9, .func (PySem.W.fnOf "keeps_apart" "keeps_apart" (defArgs s_keeps_apart) (defBody s_keeps_apart) (defScope s_keeps_apart) .none kV9 dc9 pm9 an9 cd9 ct9), sl9⟩)
    (c9 : PySem.W.codeIn K cd9 "keeps_apart" = true) (k9 : PySem.W.keepIn K (.ref f9) = true)
    (a10 : PySem.W.nsIn K mainGlobals "joined_colours" = some (some (.ref f10)))
    (l10 : K.lookup f10 = some ⟨oc10, od10, .func (PySem.W.fnOf "joined_colours" "joined_colours" (defArgs s_joined_colours) (defBody s_joined_colours) (defScope s_joined_colours) .none kV10 dc10 pm10 an10 cd10 ct10), sl10⟩)
    (c10 : PySem.W.codeIn K cd10 "joined_colours" = true) (k10 : PySem.W.keepIn K (.ref f10) = true)
    (a11 : PySem.W.nsIn K mainGlobals "_law_cell" = some (some (.ref f11)))
    (l11 : K.lookup f11 = some ⟨oc11, od11, .func (PySem.W.fnOf "_law_cell" "_law_cell" (defArgs s_cell) (defBody s_cell) (defScope s_cell) .none kV11 dc11 pm11 an11 cd11 ct11), sl11⟩)
    (c11 : PySem.W.codeIn K cd11 "_law_cell" = true) (k11 : PySem.W.keepIn K (.ref f11) = true)
    (a12 : PySem.W.nsIn K mainGlobals "_law_pool" = some (some (.ref f12)))
    (l12 : K.lookup f12 = some ⟨oc12, od12, .func (PySem.W.fnOf "_law_pool" "_law_pool" (defArgs s_pool) (defBody s_pool) (defScope s_pool) .none kV12 dc12 pm12 an12 cd12 ct12), sl12⟩)
    (c12 : PySem.W.codeIn K cd12 "_law_pool" = true) (k12 : PySem.W.keepIn K (.ref f12) = true)
    (a13 : PySem.W.nsIn K mainGlobals "_law_draw" = some (some (.ref f13)))
    (l13 : K.lookup f13 = some ⟨oc13, od13, .func (PySem.W.fnOf "_law_draw" "_law_draw" (defArgs s_draw) (defBody s_draw) (defScope s_draw) .none kV13 dc13 pm13 an13 cd13 ct13), sl13⟩)
    (c13 : PySem.W.codeIn K cd13 "_law_draw" = true) (k13 : PySem.W.keepIn K (.ref f13) = true)
    (a14 : PySem.W.nsIn K mainGlobals "_law_pairs" = some (some (.ref f14)))
    (l14 : K.lookup f14 = some ⟨oc14, od14, .func (PySem.W.fnOf "_law_pairs" "_law_pairs" (defArgs s_pairs) (defBody s_pairs) (defScope s_pairs) .none kV14 dc14 pm14 an14 cd14 ct14), sl14⟩)
    (c14 : PySem.W.codeIn K cd14 "_law_pairs" = true) (k14 : PySem.W.keepIn K (.ref f14) = true)
    (a15 : PySem.W.nsIn K mainGlobals "_law_turned" = some (some (.ref f15)))
    (l15 : K.lookup f15 = some ⟨oc15, od15, .func (PySem.W.fnOf "_law_turned" "_law_turned" (defArgs s_turned) (defBody s_turned) (defScope s_turned) .none kV15 dc15 pm15 an15 cd15 ct15), sl15⟩)
    (c15 : PySem.W.codeIn K cd15 "_law_turned" = true) (k15 : PySem.W.keepIn K (.ref f15) = true)
    (a16 : PySem.W.nsIn K mainGlobals "_law_table" = some (some (.ref f16)))
    (l16 : K.lookup f16 = some ⟨oc16, od16, .func (PySem.W.fnOf "_law_table" "_law_table" (defArgs s_table) (defBody s_table) (defScope s_table) .none kV16 dc16 pm16 an16 cd16 ct16), sl16⟩)
    (c16 : PySem.W.codeIn K cd16 "_law_table" = true) (k16 : PySem.W.keepIn K (.ref f16) = true)
    (a17 : PySem.W.nsIn K mainGlobals "_law_due" = some (some (.ref f17)))
    (l17 : K.lookup f17 = some ⟨oc17, od17, .func (PySem.W.fnOf "_law_due" "_law_due" (defArgs s_due) (defBody s_due) (defScope s_due) .none kV17 dc17 pm17 an17 cd17 ct17), sl17⟩)
    (c17 : PySem.W.codeIn K cd17 "_law_due" = true) (k17 : PySem.W.keepIn K (.ref f17) = true)
    (a18 : PySem.W.nsIn K mainGlobals "_law_back" = some (some (.ref f18)))
    (l18 : K.lookup f18 = some ⟨oc18, od18, .func (PySem.W.fnOf "_law_back" "_law_back" (defArgs s_back) (defBody s_back) (defScope s_back) .none kV18 dc18 pm18 an18 cd18 ct18), sl18⟩)
    (c18 : PySem.W.codeIn K cd18 "_law_back" = true) (k18 : PySem.W.keepIn K (.ref f18) = true)
    (a19 : PySem.W.nsIn K mainGlobals "_law_right" = some (some (.ref f19)))
    (l19 : K.lookup f19 = some ⟨oc19, od19, .func (PySem.W.fnOf "_law_right" "_law_right" (defArgs s_right) (defBody s_right) (defScope s_right) .none kV19 dc19 pm19 an19 cd19 ct19), sl19⟩)
    (c19 : PySem.W.codeIn K cd19 "_law_right" = true) (k19 : PySem.W.keepIn K (.ref f19) = true)
    (a20 : PySem.W.nsIn K mainGlobals "law" = some (some (.ref f20)))
    (l20 : K.lookup f20 = some ⟨oc20, od20, .func (PySem.W.fnOf "law" "law" (defArgs s_law) (defBody s_law) (defScope s_law) .none kV20 dc20 pm20 an20 cd20 ct20), sl20⟩)
    (c20 : PySem.W.codeIn K cd20 "law" = true) (k20 : PySem.W.keepIn K (.ref f20) = true)
    (z0 : PySem.W.nsIn K mainGlobals "abs" = some none)
    (z1 : PySem.W.nsIn K mainGlobals "all" = some none)
    (z2 : PySem.W.nsIn K mainGlobals "bool" = some none)
    (z3 : PySem.W.nsIn K mainGlobals "dict" = some none)
    (z4 : PySem.W.nsIn K mainGlobals "divmod" = some none)
    (z5 : PySem.W.nsIn K mainGlobals "int" = some none)
    (z6 : PySem.W.nsIn K mainGlobals "isinstance" = some none)
    (z7 : PySem.W.nsIn K mainGlobals "len" = some none)
    (z8 : PySem.W.nsIn K mainGlobals "max" = some none)
    (z9 : PySem.W.nsIn K mainGlobals "min" = some none)
    (z10 : PySem.W.nsIn K mainGlobals "range" = some none)
    (z11 : PySem.W.nsIn K mainGlobals "repr" = some none)
    (z12 : PySem.W.nsIn K mainGlobals "sorted" = some none)
    (z13 : PySem.W.nsIn K mainGlobals "tuple" = some none)
    (z14 : PySem.W.nsIn K mainGlobals "zip" = some none)
    (y0 : PySem.W.nsIn K mainGlobals "MOST_COLOUR" = some (some (.int 1000000000 tk0))) :
    ∃ fd : FuncData, (∀ (s : Shared) (v : Value), BindsTo s fd ⟨[v], []⟩ [("_law_script", v)]) ∧ ∀ base : Heap, K.In base → base.Ns mainGlobals mg → Vg.FnG l.prog w K mg base CX0 9 fa fd ["_law_script"] (spLaw K) := by
  have e := hfa.symm.trans (PySem.W.mg_of X G a20)
  cases e
  have F0 := fun_mk (st := s_is_int) l0 c0 k0
  have F1 := fun_mk (st := s_is_between) l1 c1 k1
  have F2 := fun_mk (st := s_is_colour) l2 c2 k2
  have F3 := fun_mk (st := s_check_colour) l3 c3 k3
  have F4 := fun_mk (st := s_is_pair) l4 c4 k4
  have F5 := fun_mk (st := s_is_pairs) l5 c5 k5
  have F6 := fun_mk (st := s_check_pairs) l6 c6 k6
  have F7 := fun_mk (st := s_recoloured) l7 c7 k7
  have F8 := fun_mk (st := s_combined) l8 c8 k8
  have F9 := fun_mk (st := s_keeps_apart) l9 c9 k9
  have F10 := fun_mk (st := s_joined_colours) l10 c10 k10
  have F11 := fun_mk (st := s_cell) l11 c11 k11
  have F12 := fun_mk (st := s_pool) l12 c12 k12
  have F13 := fun_mk (st := s_draw) l13 c13 k13
  have F14 := fun_mk (st := s_pairs) l14 c14 k14
  have F15 := fun_mk (st := s_turned) l15 c15 k15
  have F16 := fun_mk (st := s_table) l16 c16 k16
  have F17 := fun_mk (st := s_due) l17 c17 k17
  have F18 := fun_mk (st := s_back) l18 c18 k18
  have F19 := fun_mk (st := s_right) l19 c19 k19
  have F20 := fun_mk (st := s_law) l20 c20 k20
  refine ⟨_, fun s v => .of_eq rfl, fun base _ _ => ok_law (A := ⟨f0, (PySem.W.fnOf "is_int" "is_int" (defArgs s_is_int) (defBody s_is_int) (defScope s_is_int) .none kV0 dc0 pm0 an0 cd0 ct0),
    f1, (PySem.W.fnOf "is_between" "is_between" (defArgs s_is_between) (defBody s_is_between) (defScope s_is_between) .none kV1 dc1 pm1 an1 cd1 ct1),
    f2, (PySem.W.fnOf "is_colour" "is_colour" (defArgs s_is_colour) (defBody s_is_colour) (defScope s_is_colour) .none kV2 dc2 pm2 an2 cd2 ct2),
    f3, (PySem.W.fnOf "check_colour" "check_colour" (defArgs s_check_colour) (defBody s_check_colour) (defScope s_check_colour) .none kV3 dc3 pm3 an3 cd3 ct3),
    f4, (PySem.W.fnOf "is_pair" "is_pair" (defArgs s_is_pair) (defBody s_is_pair) (defScope s_is_pair) .none kV4 dc4 pm4 an4 cd4 ct4),
    f5, (PySem.W.fnOf "is_pairs" "is_pairs" (defArgs s_is_pairs) (defBody s_is_pairs) (defScope s_is_pairs) .none kV5 dc5 pm5 an5 cd5 ct5),
    f6, (PySem.W.fnOf "check_pairs" "check_pairs" (defArgs s_check_pairs) (defBody s_check_pairs) (defScope s_check_pairs) .none kV6 dc6 pm6 an6 cd6 ct6),
    f7, (PySem.W.fnOf "recoloured" "recoloured" (defArgs s_recoloured) (defBody s_recoloured) (defScope s_recoloured) .none kV7 dc7 pm7 an7 cd7 ct7),
    f8, (PySem.W.fnOf "combined" "combined" (defArgs s_combined) (defBody s_combined) (defScope s_combined) .none kV8 dc8 pm8 an8 cd8 ct8),
    f9, (PySem.W.fnOf "keeps_apart" "keeps_apart" (defArgs s_keeps_apart) (defBody s_keeps_apart) (defScope s_keeps_apart) .none kV9 dc9 pm9 an9 cd9 ct9),
    f10, (PySem.W.fnOf "joined_colours" "joined_colours" (defArgs s_joined_colours) (defBody s_joined_colours) (defScope s_joined_colours) .none kV10 dc10 pm10 an10 cd10 ct10),
    f11, (PySem.W.fnOf "_law_cell" "_law_cell" (defArgs s_cell) (defBody s_cell) (defScope s_cell) .none kV11 dc11 pm11 an11 cd11 ct11),
    f12, (PySem.W.fnOf "_law_pool" "_law_pool" (defArgs s_pool) (defBody s_pool) (defScope s_pool) .none kV12 dc12 pm12 an12 cd12 ct12),
    f13, (PySem.W.fnOf "_law_draw" "_law_draw" (defArgs s_draw) (defBody s_draw) (defScope s_draw) .none kV13 dc13 pm13 an13 cd13 ct13),
    f14, (PySem.W.fnOf "_law_pairs" "_law_pairs" (defArgs s_pairs) (defBody s_pairs) (defScope s_pairs) .none kV14 dc14 pm14 an14 cd14 ct14),
    f15, (PySem.W.fnOf "_law_turned" "_law_turned" (defArgs s_turned) (defBody s_turned) (defScope s_turned) .none kV15 dc15 pm15 an15 cd15 ct15),
    f16, (PySem.W.fnOf "_law_table" "_law_table" (defArgs s_table) (defBody s_table) (defScope s_table) .none kV16 dc16 pm16 an16 cd16 ct16),
    f17, (PySem.W.fnOf "_law_due" "_law_due" (defArgs s_due) (defBody s_due) (defScope s_due) .none kV17 dc17 pm17 an17 cd17 ct17),
    f18, (PySem.W.fnOf "_law_back" "_law_back" (defArgs s_back) (defBody s_back) (defScope s_back) .none kV18 dc18 pm18 an18 cd18 ct18),
    f19, (PySem.W.fnOf "_law_right" "_law_right" (defArgs s_right) (defBody s_right) (defScope s_right) .none kV19 dc19 pm19 an19 cd19 ct19),
    fa, (PySem.W.fnOf "law" "law" (defArgs s_law) (defBody s_law) (defScope s_law) .none kV20 dc20 pm20 an20 cd20 ct20),
    tk0⟩) ?_⟩
  exact {
    F_is_int := F0
    B_is_int := F0.binds fun _ _ _ _ _ _ us hl => match us, hl with | [_], _ => rfl
    g_is_int := PySem.W.mg_of X G a0
    F_is_between := F1
    B_is_between := F1.binds fun _ _ _ _ _ _ us hl => match us, hl with | [_, _, _], _ => rfl
    g_is_between := PySem.W.mg_of X G a1
    F_is_colour := F2
    B_is_colour := F2.binds fun _ _ _ _ _ _ us hl => match us, hl with | [_], _ => rfl
    g_is_colour := PySem.W.mg_of X G a2
    F_check_colour := F3
    B_check_colour := F3.binds fun _ _ _ _ _ _ us hl => match us, hl with | [_], _ => rfl
    g_check_colour := PySem.W.mg_of X G a3
    F_is_pair := F4
    B_is_pair := F4.binds fun _ _ _ _ _ _ us hl => match us, hl with | [_], _ => rfl
    g_is_pair := PySem.W.mg_of X G a4
    F_is_pairs := F5
    B_is_pairs := F5.binds fun _ _ _ _ _ _ us hl => match us, hl with | [_], _ => rfl
    g_is_pairs := PySem.W.mg_of X G a5
    F_check_pairs := F6
    B_check_pairs := F6.binds fun _ _ _ _ _ _ us hl => match us, hl with | [_], _ => rfl
    g_check_pairs := PySem.W.mg_of X G a6
    F_recoloured := F7
    B_recoloured := F7.binds fun _ _ _ _ _ _ us hl => match us, hl with | [_, _], _ => rfl
    g_recoloured := PySem.W.mg_of X G a7
    F_combined := F8
    B_combined := F8.binds fun _ _ _ _ _ _ us hl => match us, hl with | [_, _], _ => rfl
    g_combined := PySem.W.mg_of X G a8
    F_keeps_apart := F9
    g_keeps_apart := PySem.W.mg_of X G a9
    F_joined_colours := F10
    B_joined_colours := F10.binds fun _ _ _ _ _ _ us hl => match us, hl with | [_], _ => rfl
    g_joined_colours := PySem.W.mg_of X G a10
    F_cell := F11
    B_cell := F11.binds fun _ _ _ _ _ _ us hl => match us, hl with | [_, _], _ => rfl
    g_cell := PySem.W.mg_of X G a11
    F_pool := F12
    B_pool := F12.binds fun _ _ _ _ _ _ us hl => match us, hl with | [_], _ => rfl
    g_pool := PySem.W.mg_of X G a12
    F_draw := F13
    B_draw := F13.binds fun _ _ _ _ _ _ us hl => match us, hl with | [_, _], _ => rfl
    g_draw := PySem.W.mg_of X G a13
    F_pairs := F14
    B_pairs := F14.binds fun _ _ _ _ _ _ us hl => match us, hl with | [_, _, _], _ => rfl
    g_pairs := PySem.W.mg_of X G a14
    F_turned := F15
    B_turned := F15.binds fun _ _ _ _ _ _ us hl => match us, hl with | [_, _], _ => rfl
    g_turned := PySem.W.mg_of X G a15
    F_table := F16
    B_table := F16.binds fun _ _ _ _ _ _ us hl => match us, hl with | [_, _], _ => rfl
    g_table := PySem.W.mg_of X G a16
    F_due := F17
    B_due := F17.binds fun _ _ _ _ _ _ us hl => match us, hl with | [_], _ => rfl
    g_due := PySem.W.mg_of X G a17
    F_back := F18
    B_back := F18.binds fun _ _ _ _ _ _ us hl => match us, hl with | [_], _ => rfl
    g_back := PySem.W.mg_of X G a18
    F_right := F19
    B_right := F19.binds fun _ _ _ _ _ _ us hl => match us, hl with | [_, _], _ => rfl
    g_right := PySem.W.mg_of X G a19
    F_law := F20
    B_law := F20.binds fun _ _ _ _ _ _ us hl => match us, hl with | [_], _ => rfl
    g_law := PySem.W.mg_of X G a20
    m_abs := PySem.W.mg_none_of X G z0
    m_all := PySem.W.mg_none_of X G z1
    m_bool := PySem.W.mg_none_of X G z2
    m_dict := PySem.W.mg_none_of X G z3
    m_divmod := PySem.W.mg_none_of X G z4
    m_int := PySem.W.mg_none_of X G z5
    m_isinstance := PySem.W.mg_none_of X G z6
    m_len := PySem.W.mg_none_of X G z7
    m_max := PySem.W.mg_none_of X G z8
    m_min := PySem.W.mg_none_of X G z9
    m_range := PySem.W.mg_none_of X G z10
    m_repr := PySem.W.mg_none_of X G z11
    m_sorted := PySem.W.mg_none_of X G z12
    m_tuple := PySem.W.mg_none_of X G z13
    m_zip := PySem.W.mg_none_of X G z14
    g_MOST_COLOUR := PySem.W.mg_of X G y0 }
end K10
open PySem PySem.W PyProof.Rows
set_option maxHeartbeats 0 in
theorem PySem.Challenge.cw_allscreens_k10_whole_tables_that_keep_co_holds : PySem.Challenge.rw_allscreens_k10_whole_tables_that_keep_co.Holds := by
  w_on; o_law; k_head; (case hw => w_witness2)
  k_fill
  refine Vg.walk_ofG (l := PySem.Challenge.rw_allscreens_k10_whole_tables_that_keep_co) (n := 63) (k := 9) (x := "_law_script") (sp := fun w => K10.spLaw _) rfl (by decide) rfl ⟨⟨rfl, by decide, by decide⟩, rfl⟩ (fun w h Y => PySem.W.kIn_of Y) ?F (fun _ _ a ns hl hS => K10.spLaw_of hl hS)
  case F =>
    intro w mg fa h KX G hmg
    refine' K10.all_mk (l := PySem.Challenge.rw_allscreens_k10_whole_tables_that_keep_co) (w := w) KX G hmg ?a0 ?l0 ?c0 ?k0 ?a1 ?l1 ?c1 ?k1 ?a2 ?l2 ?c2 ?k2 ?a3 ?l3 ?c3 ?k3 ?a4 ?l4 ?c4 ?k4 ?a5 ?l5 ?c5 ?k5 ?a6 ?l6 ?c6 ?k6 ?a7 ?l7 ?c7 ?k7 ?a8 ?l8 ?c8 ?k8 ?a9 ?l9 ?c9 ?k9 ?a10 ?l10 ?c10 ?k10 ?a11 ?l11 ?c11 ?k11 ?a12 ?l12 ?c12 ?k12 ?a13 ?l13 ?c13 ?k13 ?a14 ?l14 ?c14 ?k14 ?a15 ?l15 ?c15 ?k15 ?a16 ?l16 ?c16 ?k16 ?a17 ?l17 ?c17 ?k17 ?a18 ?l18 ?c18 ?k18 ?a19 ?l19 ?c19 ?k19 ?a20 ?l20 ?c20 ?k20 ?z0 ?z1 ?z2 ?z3 ?z4 ?z5 ?z6 ?z7 ?z8 ?z9 ?z10 ?z11 ?z12 ?z13 ?z14 ?y0
    (case a0 => k_is); (case l0 => k_is); (case c0 => k_is); (case k0 => k_is); (case a1 => k_is); (case l1 => k_is); (case c1 => k_is); (case k1 => k_is); (case a2 => k_is); (case l2 => k_is); (case c2 => k_is); (case k2 => k_is); (case a3 => k_is); (case l3 => k_is); (case c3 => k_is); (case k3 => k_is); (case a4 => k_is); (case l4 => k_is); (case c4 => k_is); (case k4 => k_is); (case a5 => k_is); (case l5 => k_is); (case c5 => k_is); (case k5 => k_is); (case a6 => k_is); (case l6 => k_is); (case c6 => k_is); (case k6 => k_is); (case a7 => k_is); (case l7 => k_is); (case c7 => k_is); (case k7 => k_is); (case a8 => k_is); (case l8 => k_is); (case c8 => k_is); (case k8 => k_is); (case a9 => k_is); (case l9 => k_is); (case c9 => k_is); (case k9 => k_is); (case a10 => k_is); (case l10 => k_is); (case c10 => k_is); (case k10 => k_is); (case a11 => k_is); (case l11 => k_is); (case c11 => k_is); (case k11 => k_is); (case a12 => k_is); (case l12 => k_is); (case c12 => k_is); (case k12 => k_is); (case a13 => k_is); (case l13 => k_is); (case c13 => k_is); (case k13 => k_is); (case a14 => k_is); (case l14 => k_is); (case c14 => k_is); (case k14 => k_is); (case a15 => k_is); (case l15 => k_is); (case c15 => k_is); (case k15 => k_is); (case a16 => k_is); (case l16 => k_is); (case c16 => k_is); (case k16 => k_is); (case a17 => k_is); (case l17 => k_is); (case c17 => k_is); (case k17 => k_is); (case a18 => k_is); (case l18 => k_is); (case c18 => k_is); (case k18 => k_is); (case a19 => k_is); (case l19 => k_is); (case c19 => k_is); (case k19 => k_is); (case a20 => k_is); (case l20 => k_is); (case c20 => k_is); (case k20 => k_is); (case z0 => k_is); (case z1 => k_is); (case z2 => k_is); (case z3 => k_is); (case z4 => k_is); (case z5 => k_is); (case z6 => k_is); (case z7 => k_is); (case z8 => k_is); (case z9 => k_is); (case z10 => k_is); (case z11 => k_is); (case z12 => k_is); (case z13 => k_is); (case z14 => k_is); (case y0 => k_is)

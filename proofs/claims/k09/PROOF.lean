import PyProof.Rows.All
import Wide.All
import OpenK.AllK
import Wide.FinOn
import HandS.ForMost
import HandS.IsInst
import HandS.WideBits
import HandS.TupLe
import HandS.TupAny
import KE.KDictPairs
import KE.KDictWalk
import HandS.Dict
import HandS.Keys
import HandS.DictTup
import HandS.SortInts
import HandS.SortRule
import HandS.Iter
import HandS.Strs
import HandS.SetBool
import HandS.Zip
import PySem.Challenge.RW_allscreens_k09_colours_turned
set_option Elab.async false
set_option linter.all false
set_option maxRecDepth 100000
set_option maxHeartbeats 4000000
/-! ## tables of pairs: what they turn -/
namespace Tb
open PySem PySem.Spec PyProof.Rows L2
abbrev Tb := List (Int × Int)
def look : Tb → Int → Int
  | [], c => c
  | p :: L, c => if p.1 = c then p.2 else look L c
abbrev Asc (L : Tb) : Prop := L.Pairwise fun p q => p.1 < q.1
def Col (c : Int) : Prop := 0 ≤ c ∧ c ≤ 1000000000
def Good (L : Tb) : Prop := Asc L ∧ ∀ p ∈ L, Col p.1 ∧ Col p.2
theorem look_mem : ∀ {L : Tb}, Asc L → ∀ {p : Int × Int}, p ∈ L → look L p.1 = p.2
  | q :: L, h, p, m => by
    obtain ⟨h1, h2⟩ := List.pairwise_cons.mp h
    rcases List.mem_cons.mp m with e | m
    · rw [e]; exact if_pos rfl
    · have := h1 p m
      exact (if_neg (by omega)).trans (look_mem h2 m)
theorem look_out : ∀ {L : Tb} {c : Int}, (∀ p ∈ L, p.1 ≠ c) → look L c = c
  | [], _, _ => rfl
  | q :: L, c, h => (if_neg (h q (List.mem_cons_self ..))).trans (look_out fun p m => h p (List.mem_cons_of_mem _ m))
theorem look_col : ∀ {L : Tb}, (∀ p ∈ L, Col p.1 ∧ Col p.2) → ∀ {c : Int}, Col c → Col (look L c)
  | [], _, _, hc => hc
  | q :: L, h, c, hc => by
    unfold look
    split
    · exact (h q (List.mem_cons_self ..)).2
    · exact look_col (fun p m => h p (List.mem_cons_of_mem _ m)) hc
theorem asc_ext : ∀ {L M : Tb}, Asc L → Asc M → (∀ p, p ∈ L ↔ p ∈ M) → L = M
  | [], [], _, _, _ => rfl
  | [], q :: M, _, _, h => absurd ((h q).mpr (List.mem_cons_self ..)) (by simp)
  | p :: L, [], _, _, h => absurd ((h p).mp (List.mem_cons_self ..)) (by simp)
  | p :: L, q :: M, hl, hm, h => by
    obtain ⟨a1, a2⟩ := List.pairwise_cons.mp hl
    obtain ⟨b1, b2⟩ := List.pairwise_cons.mp hm
    have e : p = q := by
      rcases List.mem_cons.mp ((h p).mp (List.mem_cons_self ..)) with e | m
      · exact e
      · rcases List.mem_cons.mp ((h q).mpr (List.mem_cons_self ..)) with e | m'
        · exact e.symm
        · have := b1 p m
          have := a1 q m'
          omega
    subst e
    rw [asc_ext a2 b2 fun r => ?_]
    constructor
    · intro m
      rcases List.mem_cons.mp ((h r).mp (List.mem_cons_of_mem _ m)) with e | m'
      · have := a1 r m
        rw [e] at this
        omega
      · exact m'
    · intro m
      rcases List.mem_cons.mp ((h r).mpr (List.mem_cons_of_mem _ m)) with e | m'
      · have := b1 r m
        rw [e] at this
        omega
      · exact m'
/-! ### as dicts -/
def kvT (L : Tb) : List (Key × V) := L.map fun p => (.inl p.1, .int p.2)
theorem val_merge (c : Int) : ∀ (L : Tb) (acc : List (Key × V)), Asc L → valV (mergeK acc (kvT L)) (.inl c) = if (∃ p ∈ L, p.1 = c) then some (.int (look L c)) else valV acc (.inl c)
  | [], acc, _ => by
    rw [if_neg (by simp)]
    rfl
  | q :: L, acc, h => by
    obtain ⟨h1, h2⟩ := List.pairwise_cons.mp h
    show valV (mergeK (putK acc (.inl q.1) (.int q.2)) (kvT L)) (.inl c) = _
    rw [val_merge c L _ h2, valV_put]
    by_cases e : q.1 = c
    · have n : ¬ ∃ p ∈ L, p.1 = c := fun ⟨p, m, z⟩ => by have := h1 p m; omega
      rw [if_neg n, if_pos (by rw [e]), if_pos ⟨q, List.mem_cons_self .., e⟩]
      show _ = some (V.int (if q.1 = c then q.2 else look L c))
      rw [if_pos e]
    · have k : (∃ p ∈ q :: L, p.1 = c) ↔ ∃ p ∈ L, p.1 = c := ⟨fun ⟨p, m, z⟩ => by
        rcases List.mem_cons.mp m with y | m
        · exact absurd (y ▸ z) e
        · exact ⟨p, m, z⟩, fun ⟨p, m, z⟩ => ⟨p, List.mem_cons_of_mem _ m, z⟩⟩
      rw [if_neg (c := (Sum.inl c : Key) = Sum.inl q.1) (fun z => e (Sum.inl.inj z).symm)]
      have lk : look (q :: L) c = look L c := if_neg e
      rw [lk]
      by_cases m : ∃ p ∈ L, p.1 = c
      · rw [if_pos m, if_pos (k.mpr m)]
      · rw [if_neg m, if_neg fun z => m (k.mp z)]
theorem dict_look {L : Tb} (h : Asc L) (c : Int) : (valV (mergeK [] (kvT L)) (.inl c)).getD (.int c) = .int (look L c) := by
  rw [val_merge c L [] h]
  by_cases m : ∃ p ∈ L, p.1 = c
  · rw [if_pos m]; rfl
  · rw [if_neg m, look_out fun p mp e => m ⟨p, mp, e⟩]; rfl
theorem put_kvT (F : Int → Int) (c : Int) (acc : Tb) (hv : ∀ p ∈ acc, p.2 = F p.1) : putK (kvT acc) (.inl c) (.int (F c)) = if c ∈ acc.map (·.1) then kvT acc else kvT (acc ++ [(c, F c)]) := by
  unfold putK
  by_cases m : c ∈ acc.map (·.1)
  · rw [if_pos m, if_pos]
    · unfold kvT
      rw [List.map_map]
      refine List.map_congr_left fun p mp => ?_
      show (if (Sum.inl p.1 : Key) = Sum.inl c then _ else _) = _
      by_cases e : p.1 = c
      · rw [if_pos (by rw [e])]
        show ((Sum.inl p.1 : Key), V.int (F c)) = (Sum.inl p.1, V.int p.2)
        rw [hv p mp, e]
      · rw [if_neg fun z => e (Sum.inl.inj z)]
    · obtain ⟨p, mp, e⟩ := List.mem_map.mp m
      exact List.any_eq_true.mpr ⟨_, List.mem_map.mpr ⟨p, mp, rfl⟩, decide_eq_true (by rw [← e])⟩
  · rw [if_neg m, if_neg]
    · unfold kvT
      rw [List.map_append]
      rfl
    · intro z
      obtain ⟨kv, mk, e⟩ := List.any_eq_true.mp z
      obtain ⟨p, mp, rfl⟩ := List.mem_map.mp mk
      exact m (List.mem_map.mpr ⟨p, mp, Sum.inl.inj (of_decide_eq_true e)⟩)
theorem items_of (F : Int → Int) : ∀ (T : List Int) (acc : Tb), (acc.map (·.1)).Nodup → (∀ p ∈ acc, p.2 = F p.1) →
    ∃ R : Tb, mergeK (kvT acc) (kvT (T.map fun h => (h, F h))) = kvT R ∧ (R.map (·.1)).Nodup ∧ (∀ p ∈ R, p.2 = F p.1) ∧ (∀ c, c ∈ R.map (·.1) ↔ c ∈ acc.map (·.1) ∨ c ∈ T) ∧ R.length ≤ acc.length + T.length
  | [], acc, nd, hv => ⟨acc, rfl, nd, hv, fun c => by simp, by simp⟩
  | h :: T, acc, nd, hv => by
    have e : mergeK (kvT acc) (kvT ((h :: T).map fun h => (h, F h))) = mergeK (putK (kvT acc) (.inl h) (.int (F h))) (kvT (T.map fun h => (h, F h))) := rfl
    rw [e, put_kvT F h acc hv]
    by_cases m : h ∈ acc.map (·.1)
    · rw [if_pos m]
      obtain ⟨R, r1, r2, r3, r4, r5⟩ := items_of F T acc nd hv
      refine ⟨R, r1, r2, r3, fun c => ?_, by simp; omega⟩
      rw [r4 c, List.mem_cons]
      constructor
      · rintro (z | z)
        · exact .inl z
        · exact .inr (.inr z)
      · rintro (z | z | z)
        · exact .inl z
        · exact .inl (z ▸ m)
        · exact .inr z
    · rw [if_neg m]
      obtain ⟨R, r1, r2, r3, r4, r5⟩ := items_of F T (acc ++ [(h, F h)]) (by
        rw [List.map_append]
        refine List.nodup_append.mpr ⟨nd, by simp, fun a ma b mb e => ?_⟩
        have : b = h := by simpa using mb
        exact m (this ▸ e ▸ ma)) (fun p mp => by
        rcases List.mem_append.mp mp with z | z
        · exact hv p z
        · rw [List.mem_singleton.mp z])
      refine ⟨R, r1, r2, r3, fun c => ?_, by simp at r5 ⊢; omega⟩
      rw [r4 c, List.map_append, List.mem_append, List.mem_cons]
      constructor
      · rintro ((z | z) | z)
        · exact .inl z
        · exact .inr (.inl (by simpa using z))
        · exact .inr (.inr z)
      · rintro (z | z | z)
        · exact .inl (.inl z)
        · exact .inl (.inr (by simpa using z))
        · exact .inr z
/-- ascending by the pairs, the first ones different: ascending by the first ones -/
theorem asc_of {R : Tb} (h : R.Pairwise fun p q => p.1 < q.1 ∨ p.1 = q.1 ∧ p.2 ≤ q.2) (nd : (R.map (·.1)).Nodup) : Asc R := by
  have nd' : R.Pairwise fun p q => p.1 ≠ q.1 := List.pairwise_map.mp nd
  refine (h.and nd').imp fun {p q} z => ?_
  omega
/-! ### joined -/
def comb (F : Int → Int) (ns : List Int) : Tb := (ns.filter fun c => decide (F c ≠ c)).map fun c => (c, F c)
theorem mem_comb {F : Int → Int} {ns : List Int} {p : Int × Int} : p ∈ comb F ns ↔ p.1 ∈ ns ∧ p.2 = F p.1 ∧ F p.1 ≠ p.1 := by
  unfold comb
  rw [List.mem_map]
  constructor
  · rintro ⟨c, mc, rfl⟩
    obtain ⟨m, d⟩ := List.mem_filter.mp mc
    exact ⟨m, rfl, of_decide_eq_true d⟩
  · rintro ⟨m, e, d⟩
    exact ⟨p.1, List.mem_filter.mpr ⟨m, decide_eq_true d⟩, by rw [← e]⟩
theorem comb_asc {F : Int → Int} {ns : List Int} (h : ns.Pairwise (· < ·)) : Asc (comb F ns) := List.pairwise_map.mpr (h.filter _)
end Tb
/-! ## tuples that are known to be bare; dict of such a tuple of pairs; the items of a dict, sorted -/
namespace Tb
open PySem PySem.Spec PyProof.Rows L2
section
variable {X : Cx}
/-- tuple of a list: the new one has no dict of its own -/
theorem call_tupleF : CallR X (.type "tuple") (fun vs H Q => ∃ p ys, vs = [.ref p] ∧ SqL X.K H p ys ∧ ∀ l o, H l = none → o.dict = none → Q (.ref l) (upd H l (.frz o (.tup ys)))) := by
  intro pins s σ H vs us Q I rv ⟨p, ys, ev, sq, k⟩
  subst ev
  obtain ⟨u, rfl, ru⟩ := vals1 rv
  cases ru
  obtain ⟨its, vis, pl, hz⟩ := I.list sq
  have hln := vis.length
  refine call_tuple_list pl.isList (fun g kp => ?_) (by simp only [List.size_toArray]; omega)
  have J : Inv X pins σ H { s with heap := g } := I.kept (t' := s.toks) kp
  have J2 : Inv X pins σ (upd H g.objs.size (.frz { cls := .type "tuple", data := .seq its.toArray } (.tup ys))) { s with heap := g.push { cls := .type "tuple", data := .seq its.toArray } } :=
    J.laid (t' := s.toks) (fun b o e => Heap.get?_push_of_some _ e) (Nat.le_refl _) ⟨Heap.get?_push_size _ rfl, hz, its, vis, IsTup.new _ _⟩
  exact ⟨.ref g.objs.size, _, J2, rfl, k _ _ (J.hok.fresh (Nat.le_refl _)) rfl⟩
/-- what dict() finds in a tuple of pairs -/
theorem prs_of {pins : List (Addr × Obj)} {σ : L2.St} {H : Hp} {s : Shared} (I : Inv X pins σ H s) : ∀ {ps : List Addr} {kvs : List (Key × V)}, Paired (fun p kv => SqT X.K H p [kV kv.1, kv.2]) ps kvs →
    ∃ (prs : List (Key × Value)) (us : List (Value × Value)), KV kvs prs ∧ us.length = ps.length ∧ prs.length = ps.length ∧
      ∀ (j : Nat) (k v : Value), us[j]? = some (k, v) → ∃ (b : Addr) (kk : Key), ps[j]? = some b ∧ s.heap.IsTuple b #[k, v] ∧ prs[j]? = some (kk, v) ∧ keyIs kk k = true
  | _, _, .nil => ⟨[], [], .nil, rfl, rfl, fun j k v e => by simp at e⟩
  | _, _, .cons (a := p) (b := kv) h t => by
    obtain ⟨prs, us, r, l1, l2, at'⟩ := prs_of I t
    obtain ⟨its, rv, pt, _⟩ := I.tuple h
    obtain ⟨u, y, rfl, ru, ry⟩ := vals2 rv
    refine ⟨(kv.1, y) :: prs, (u, y) :: us, .cons ⟨rfl, ry⟩ r, by simp [l1], by simp [l2], fun j k v e => ?_⟩
    cases j with
    | zero =>
      obtain ⟨rfl, rfl⟩ := Prod.mk.inj (Option.some.inj e)
      exact ⟨p, kv.1, rfl, pt, rfl, kV_is (P := X.prog) (w := X.w) ru⟩
    | succ j =>
      obtain ⟨b, kk, e1, e2, e3, e4⟩ := at' j k v (by simpa using e)
      exact ⟨b, kk, by simpa using e1, e2, by simpa using e3, e4⟩
/-- dict(t), t a bare tuple of pairs -/
theorem call_dictT (hcalm : X.calm = true) : CallR X (.type "dict") (fun vs H Q => ∃ (a : Addr) (o : Obj) (ps : List Addr) (kvs : List (Key × V)), vs = [.ref a] ∧ o.dict = none ∧ H a = some (.frz o (.tup (ps.map V.ref))) ∧
    Paired (fun p kv => SqT X.K H p [kV kv.1, kv.2]) ps kvs ∧ ∀ p, H p = none → Q (.ref p) (upd H p (.dK (mergeK [] kvs)))) := by
  intro pins s σ H vs us Q I rv ⟨a, o, ps, kvs, ev, od, ha, hp, q⟩
  subst ev
  obtain ⟨u, rfl, ru⟩ := vals1 rv
  cases ru
  obtain ⟨ho, hz, its, vis, o', ho', hc, n, hd⟩ := I.hok a _ ha
  rw [ho] at ho'
  cases ho'
  have ei := refs_at vis
  subst ei
  rw [List.length_map] at hz
  obtain ⟨prs, us, r, l1, l2, at'⟩ := prs_of I hp
  refine PySem.call_dict_pairs (knd := mixKind X.prog X.w) (kvs := prs) (PairArg.tuple (prog := X.prog) (w := X.w) a (ps.map Value.ref).toArray (fun j => ps.getD j 0) us) (I.ok.hd hcalm) ⟨⟨o, n, ho, hc, od, hd⟩, by simp [l1], fun j k v e => ?_⟩ ⟨by rw [l1, l2], fun i k v e => ?_⟩ (by rw [l1]; exact hz) fun g tk hg kp => ?_
  · obtain ⟨b, kk, e1, e2, _, _⟩ := at' j k v e
    have eb : ps.getD j 0 = b := by rw [List.getD_eq_getElem?_getD, e1]; rfl
    exact ⟨(by simp [e1] : (ps.map Value.ref).toArray[j]? = some (.ref b)).trans (by show _ = some (Value.ref (ps.getD j 0)); rw [eb]), .inl (show s.heap.IsTuple (ps.getD j 0) #[k, v] from eb.symm ▸ e2)⟩
  · obtain ⟨b, kk, _, _, e3, e4⟩ := at' i k v e
    exact ⟨kk, e3, e4⟩
  · have big : (s.heap.objs.size == sysModules) = false := beq_eq_false_iff_ne.mpr (Nat.ne_of_gt I.big)
    have ln : (mergeK [] kvs).length ≤ sizeLine := by
      have e1 := length_mergeK kvs []
      have e2 := r.length
      simp only [List.length_nil] at e1
      omega
    exact ⟨.ref s.heap.objs.size, _, I.laid (t' := tk) (fun b o e => kp b o (by simp) e) (Nat.le_refl _) (show ObjOk X.prog X.w _ _ _ (.dK (mergeK [] kvs)) from ⟨ln, big, merged [] prs, KV.merge r .nil, hg⟩), rfl, q _ (I.hok.fresh (Nat.le_refl _))⟩
end
end Tb
namespace Tb
open PySem PySem.Spec PyProof.Rows L2 L2.DX
section
variable {X : Cx}
/-- d.items(), the keys numbers or texts -/
theorem mt_itemsK : MtR X "dict.items" (fun x vs H Q => ∃ (a : Addr) (kvs : List (Key × V)), x = .ref a ∧ vs = [] ∧ H a = some (.dK kvs) ∧ ∀ p, H p = none → Q (.ref p) (upd H p (itemsO p a))) := by
  intro pins s σ H x vs v us Q I rx rv ⟨a, kvs, ex, ev, ha, q⟩
  subst ex ev
  cases rx
  cases rv
  obtain ⟨z, nd, vs, _, o, es, ep, ho, hx, hdat, _⟩ := I.hok a _ ha
  exact DT.callItems (es := es) (ep := ep) nd ⟨o, ho, hx, hdat⟩
    ⟨.ref s.heap.objs.size, _, I.laid (t' := s.toks) (fun b u e => Heap.get?_push_of_some _ e) (Nat.le_refl _) (itemsO_ok (Heap.get?_push_size _ rfl)), rfl, q _ (I.hok.fresh (Nat.le_refl _))⟩
/-- what the entries of a dict of numbers are -/
theorem ent_of {P : Program} {w : World} : ∀ {R : Tb} {vs : List (Key × Value)} {es : List DictEntry}, KV (kvT R) vs → Pairs (mixKind P w) es vs →
    es.length = R.length ∧ ∀ (j : Nat) (e : DictEntry), es[j]? = some e → ∃ (p : Int × Int) (t t' : Tok), R[j]? = some p ∧ e.key = .int p.1 t ∧ e.val = .int p.2 t'
  | [], _, _, kv, ps => by
    cases kv
    cases ps
    exact ⟨rfl, fun j e h => by simp at h⟩
  | p :: R, _, _, kv, ps => by
    cases kv with
    | cons h t =>
      cases ps with
      | cons h1 h2 h3 =>
        obtain ⟨l, at'⟩ := ent_of t h3
        refine ⟨by simp [l], fun j e he => ?_⟩
        cases j with
        | zero =>
          obtain rfl := Option.some.inj he
          obtain ⟨tv, ev⟩ := h.2
          have ek := h1
          rw [← h.1] at ek
          obtain ⟨tk, e2⟩ := relV_key (show keyIs (Sum.inl p.1) _ = true from ek)
          exact ⟨p, tk, tv, rfl, e2, h2.trans ev⟩
        | succ j => exact at' j e (by simpa using he)

theorem LiI_refs : ∀ as : List Addr, Vals (as.map V.ref) (as.map Value.ref)
  | [] => .nil
  | _ :: as => .cons rfl (LiI_refs as)
def numb (as : List Addr) (R : Tb) : Value → Int × Int
  | .ref b => ((as.zip R).lookup b).getD (0, 0)
  | _ => (0, 0)
theorem look_zip : ∀ {as : List Addr} {R : Tb} {j : Nat} {b : Addr} {p : Int × Int}, as.Nodup → as[j]? = some b → R[j]? = some p → (as.zip R).lookup b = some p
  | a :: as, r :: R, 0, b, p, _, h1, h2 => by
    cases h1
    cases h2
    simp
  | a :: as, r :: R, j + 1, b, p, nd, h1, h2 => by
    have n := List.nodup_cons.mp nd
    have m : b ∈ as := List.mem_of_getElem? (by simpa using h1)
    have ne : (b == a) = false := beq_eq_false_iff_ne.mpr fun e => n.1 (e ▸ m)
    rw [List.zip_cons_cons, List.lookup_cons, ne]
    exact look_zip (j := j) n.2 (by simpa using h1) (by simpa using h2)
  | [], _, j, _, _, _, h1, _ => by simp at h1
  | _ :: _, [], j, _, _, _, _, h2 => by simp at h2
abbrev rItSorted : List V → Hp → VK → Prop := fun vs H Q => ∃ (p a : Addr) (R : Tb), vs = [.ref p] ∧ H p = some (itemsO p a) ∧ H a = some (.dK (kvT R)) ∧
  ∀ (G : Hp) (l : Addr) (zs : List (Addr × (Int × Int))), (∀ b o, H b = some o → G b = some o) → H l = none → (zs.map (·.2)).Perm R → (zs.map (·.2)).Pairwise (fun p q => p.1 < q.1 ∨ p.1 = q.1 ∧ p.2 ≤ q.2) →
    G l = some (.lst (zs.map fun z => V.ref z.1)) → (∀ z ∈ zs, G z.1 = some (.tup [.int z.2.1, .int z.2.2])) → Q (.ref l) G
theorem cr_itSorted (hc : X.calm = true) : CallR X (.builtin "sorted") rItSorted := by
  intro pins s σ H vs us Q I rv ⟨p, a, R, ev, hp, ha, q⟩
  subst ev
  obtain rfl := Vals.ref1 rv
  have view : s.heap.IsItemsView p a := (show ObjOk X.prog X.w H s.heap p (itemsO p a) from I.hok p _ hp).1
  obtain ⟨hz, nd, vs', kv, o, es, ep, ho, hx, hdat, _, hps, _⟩ := I.hok a _ ha
  obtain ⟨elen, eat⟩ := ent_of kv hps
  rw [Array.length_toList] at elen
  have Rz : R.length ≤ sizeLine := by
    have := hz
    unfold kvT at this
    rwa [List.length_map] at this
  refine DT.sortedI (es := es) (ep := ep) (I.ok.hd hc) view ⟨o, ho, hx, hdat⟩ (by rw [elen]; exact Rz) fun g tk as gk glt al gm => ?_
  have alen : as.length = R.length := al.trans elen
  have and' : as.Nodup := List.Pairwise.imp (fun h => Nat.ne_of_lt h) gm.rise
  have mk : ∀ (j : Nat) (b : Addr), as[j]? = some b → ∃ (r : Int × Int) (t t' : Tok), R[j]? = some r ∧ g.get? b = some { cls := .type "tuple", data := .seq #[.int r.1 t, .int r.2 t'] } := fun j b hj => by
    obtain ⟨e, he, hg⟩ := gm.pairs j b hj
    obtain ⟨r, t, t', h1, h2, h3⟩ := eat j e (by rw [Array.getElem?_toList]; exact he)
    exact ⟨r, t, t', h1, by rw [hg, h2, h3]⟩
  have num : ∀ (j : Nat) (b : Addr) (r : Int × Int), as[j]? = some b → R[j]? = some r → numb as R (.ref b) = r := fun j b r h1 h2 => by
    show ((as.zip R).lookup b).getD (0, 0) = r
    rw [look_zip and' h1 h2]
    rfl
  -- the heap with the list
  generalize hg2 : g.push { cls := .type "list", data := .seq (as.map Value.ref).toArray } = g2
  have old : ∀ b u, g.get? b = some u → g2.get? b = some u := fun b u e => by rw [← hg2]; exact Heap.get?_push_of_some _ e
  have off : ∀ b u, g.get? b = some u → b ≠ g.objs.size := fun b u e => Nat.ne_of_lt (Heap.lt_size e)
  have hob : g2.get? g.objs.size = some (seqObj "list" (as.map Value.ref).toArray 0) := by rw [← hg2]; exact Heap.get?_push_size _ rfl
  have I0 : Inv X pins σ H { s with heap := g2, toks := tk } := I.kept (t' := tk) fun b u e => old b u (gk b u e)
  have hl0 : H g.objs.size = none := I.hok.fresh (Nat.le_of_lt glt)
  have I1 : Inv X pins σ (upd H g.objs.size (.lst (as.map V.ref))) { s with heap := g2, toks := tk } :=
    I0.take (h' := g2) (t' := tk) (fun b ob _ e => e) (I.fpOk (Nat.le_of_lt glt) hl0) ⟨by rw [List.length_map, alen]; exact Rz, as.map Value.ref, 0, LiI_refs as, hob⟩
  obtain ⟨G, I2, gr, gt⟩ := takeT (P := fun b ws => ∃ (j : Nat) (r : Int × Int), as[j]? = some b ∧ R[j]? = some r ∧ ws = [.int r.1, .int r.2]) I as _ I1 and' fun b hb => by
    obtain ⟨j, hj⟩ := List.mem_iff_getElem?.mp hb
    obtain ⟨r, t, t', h1, h2⟩ := mk j b hj
    have up : s.heap.objs.size ≤ b := Nat.le_of_lt (gm.above b hb)
    refine ⟨up, (upd_ne (off _ _ h2)).trans (I.hok.fresh up), [.int r.1, .int r.2], ⟨j, r, hj, h1, rfl⟩, fun H3 => ⟨by rw [sizeLine_eq]; show 2 ≤ 16777216; omega, [.int r.1 t, .int r.2 t'], .cons ⟨t, rfl⟩ (.cons ⟨t', rfl⟩ .nil), ⟨_, old _ _ h2, rfl, 0, rfl⟩⟩⟩
  have hGl : G g.objs.size = some (.lst (as.map V.ref)) := gr _ _ upd_same
  have ip : ∀ v ∈ as.map Value.ref, Srt.IsPair g2 v (numb as R v).1 (numb as R v).2 := fun v hv => by
    obtain ⟨b, hb, rfl⟩ := List.mem_map.mp hv
    obtain ⟨j, hj⟩ := List.mem_iff_getElem?.mp hb
    obtain ⟨r, t, t', h1, h2⟩ := mk j b hj
    rw [num j b r hj h1]
    exact ⟨b, _, t, t', 0, rfl, old _ _ h2, rfl, rfl⟩
  refine wpAny_call_entry PyProof.Rows.slot_list_sort ⟨_, hob, rfl⟩ PyProof.Rows.entry_list_sort (SrtO.list_sort_ord (SrtO.swo_lex (numb as R)) hob (by rw [List.length_map, alen]; exact Rz)
    (fun h2 => SrtO.pairs_sortableO (by omega) ip fun ob e => ?_) fun out h1 h2 => ⟨.none, rfl, ?_⟩) (PyProof.Rows.args_list_sort _)
  · obtain rfl := Option.some.inj (e.symm.trans hob)
    exact fun c => absurd (Value.type.inj c) (by decide)
  · obtain ⟨zs, zp, ez⟩ := perm_lift (fun z : Addr × (Int × Int) => Value.ref z.1) h2.perm (as.zip R) (by have e := congrArg (List.map Value.ref) (List.map_fst_zip (l₁ := as) (l₂ := R) (Nat.le_of_eq alen)); rw [List.map_map] at e; exact e)
    have idx : ∀ z ∈ zs, ∃ j : Nat, as[j]? = some z.1 ∧ R[j]? = some z.2 := fun z hz' => by
      obtain ⟨j, hj⟩ := List.mem_iff_getElem?.mp (zp.mem_iff.mp hz')
      exact ⟨j, List.getElem?_zip_eq_some.mp hj⟩
    have zn : ∀ z ∈ zs, numb as R (Value.ref z.1) = z.2 := fun z hz' => by
      obtain ⟨j, j1, j2⟩ := idx z hz'
      exact num j _ _ j1 j2
    have zperm : (zs.map (·.2)).Perm R := by
      have e := zp.map (·.2)
      rwa [List.map_snd_zip (Nat.le_of_eq alen.symm)] at e
    have zord : (zs.map (·.2)).Pairwise fun p q => p.1 < q.1 ∨ p.1 = q.1 ∧ p.2 ≤ q.2 := by
      have o3 : out.Pairwise fun v u => SrtO.lexB (numb as R u) (numb as R v) = false := h1
      rw [← ez, List.pairwise_map] at o3
      rw [List.pairwise_map]
      refine List.Pairwise.imp_of_mem (fun {x y} hx' hy h => ?_) o3
      have h' := SrtO.lexB_no.mp h
      rw [zn x hx', zn y hy] at h'
      omega
    obtain ⟨c, hat⟩ := PyProof.Rows.sortedHeap_at (vs := as.map Value.ref) (out := out.toArray) hob
    have rvz : Vals (zs.map fun z => V.ref z.1) out := by
      rw [← ez]
      exact vals_maps (fun z : Addr × (Int × Int) => V.ref z.1) (fun z => Value.ref z.1) zs fun _ _ => rfl
    have zl : (zs.map fun z => V.ref z.1).length ≤ sizeLine := by
      have e := zperm.length_eq
      rw [List.length_map] at e
      rw [List.length_map]
      omega
    have I3 : Inv X pins σ (upd G g.objs.size (.lst (zs.map fun z => V.ref z.1))) { s with heap := sortedHeap g2 g.objs.size (as.map Value.ref) out.toArray, toks := tk } :=
      I2.write (e := g.objs.size) (t' := tk) (by rw [hGl]; trivial) (.inl rfl) (fun b u hb hu => (PyProof.Rows.sortedHeap_old hb (Heap.lt_size hu)).trans hu) ⟨_, hat⟩ ⟨zl, out, c, rvz, hat⟩
    have ne0 : ∀ b u, H b = some u → b ≠ g.objs.size := fun b u e z => by rw [z, hl0] at e; cases e
    refine ⟨.ref g.objs.size, _, I3, rfl, q _ g.objs.size zs (fun b u e => (upd_ne (ne0 b u e)).trans (gr b u ((upd_ne (ne0 b u e)).trans e))) hl0 zperm zord upd_same fun z hz' => ?_⟩
    obtain ⟨j, j1, j2⟩ := idx z hz'
    obtain ⟨ws, ⟨i, r, i1, i2, ew⟩, hG⟩ := gt z.1 (List.mem_of_getElem? j1)
    have eij : j = i := (List.getElem?_inj (List.getElem?_eq_some_iff.mp j1).1 and').mp (j1.trans i1.symm)
    subst eij
    obtain rfl := Option.some.inj (j2.symm.trans i2)
    obtain ⟨r', t, t', k1, k2⟩ := mk j _ j1
    rw [upd_ne (off _ _ k2), hG, ew]
end
end Tb
/-! ## {e for x in ..}, e an int -/
namespace Tb
open PySem PySem.Spec PyProof.Rows L2 L2.DX
section
variable {X : Cx}
/-- one more member -/
abbrev grown (S : Int → Bool) (k : Int) : Int → Bool := fun j => S j || decide (j = k)
abbrev grownN (S : Int → Bool) (k : Int) (n : Nat) : Nat := if S k = true then n else n + 1
theorem add_int {pns : List (Addr × Obj)} {σ : L2.St} {H : Hp} {s : Shared} {E : Value → Shared → Prop} {D : Addr} {S : Int → Bool} {n : Nat} {k : Int} {t : Tok} {Q : Value → Shared → Prop} (J : Inv X pns σ H s) (e : H D = some (SetO X.w D S n)) (few : n + 1 < scanBound)
    (q : ∀ z, Inv X pns σ (upd H D (SetO X.w D (grown S k) (grownN S k n))) z → Q .none z) : wpAny (model X.prog X.w) X.A (call (.builtin "set.add") [.ref D, .int k t]) Q E s :=
  setR_add (setO_get J e) few fun g sb r => q _ (J.write (e := D) (t' := s.toks + 1) (by rw [e]; trivial) (.inl rfl) (fun b u nb hu => (sb.2 b nb).trans hu) (let ⟨o, _, _, _, ho, _⟩ := r; ⟨o, ho⟩) (setO_new r))
/-- what a turn asks of its item: Next is what the next turn begins with -/
def turnS (w : World) (D : Addr) (g : TG) (tt : TT) (te : TE) (vs : List Nat) (σ : L2.St) (Next : Hp → Prop) (x : V) (H : Hp) : Prop :=
  g x (wipe σ vs) H fun σ2 H2 => wipe σ2 vs = wipe σ vs ∧ tt σ2 H2 fun b H3 => if b = true then te σ2 H3 fun y H4 => ∃ (k : Int) (S : Int → Bool) (n : Nat), y = .int k ∧ H4 D = some (SetO w D S n) ∧ n + 1 < scanBound ∧ Next (upd H4 D (SetO w D (grown S k) (grownN S k n))) else Next H3
def tSci (w : World) (wi : TI) (g : TG) (tt : TT) (te : TE) (vs : List Nat) : TE := fun σ H Q => wi σ H fun J H1 => ∀ D, H1 D = none → ∃ W : Nat → Nat → Hp → Prop, (∃ m, W 0 m (upd H1 D (SetO w D (fun _ => false) 0))) ∧
  ∀ i m H, W i m H → (J.stop i H ∧ Q (.ref D) H) ∨ (J.go i H ∧ ∃ Nx : Hp → Prop, (∀ H', Nx H' → ∃ m', m' < m ∧ W (i + 1) m' H') ∧ ∀ x H', J.yld i H x H' → turnS w D g tt te vs σ Nx x H')
theorem pe_sci {elt tg iter : Expr} {ifs : List Expr} {scope : Scope} {own : List (PySem.Str × Nat)} {pos : Pos} {wi : TI} {g : TG} {tt : TT} {te : TE} (hc : X.calm = true) (hN : X.N.Nodup) (hi : PI X tg iter wi) (ok : BlkOk X.N X.env.scope scope own)
    (hg : ∀ (s : Shared) (H : Hp) (C : Addr) (cl : List (PySem.Str × Addr)) (fp : List Addr), PG (X.blk s H scope (compEnvC scope cl C X.env) fp) tg g)
    (ht : ∀ (s : Shared) (H : Hp) (C : Addr) (cl : List (PySem.Str × Addr)) (fp : List Addr), PTs (X.blk s H scope (compEnvC scope cl C X.env) fp) ifs tt)
    (he : ∀ (s : Shared) (H : Hp) (C : Addr) (cl : List (PySem.Str × Addr)) (fp : List Addr), PE (X.blk s H scope (compEnvC scope cl C X.env) fp) elt te) (hs : ∀ x, foldedSetIterable iter X.env x = pure x := by intro _; rfl) :
    PE X (.SetComp elt [⟨tg, iter, ifs, 0⟩] scope pos) (tSci X.w wi g tt te (own.map (·.2))) := by
  refine ⟨fun pns s σ H Q J h => ?_⟩
  rw [PpSet.eval_SetComp]
  have clo : closureFor scope X.env = pure (cloFrom X.env.cells scope.names []) := closure_ok fun y m e => (ok.free y m e).elim (fun k => J.ok.has _ (.inl k)) fun k => J.ok.has _ (.inr k)
  refine wpAny_comprehension_free (use := none) rfl hs clo ok.kind (fun y m e => (ok.uniq y m).trans (by rw [e])) (thn (hi.run pns s σ H _ J h) fun v0 z0 k0 => thn k0 fun v1 s2 ⟨it, fp, tn, G, H2, ev, J2, T, on, off, q⟩ => ?_)
  subst ev
  refine PpSet.newSet_ok (newEnv_comp ?_)
  -- the set, at the heap's end
  have free : H2 s2.heap.objs.size = none := J2.hok.fresh (Nat.le_refl _)
  obtain ⟨W, ⟨m0, w0⟩, turn⟩ := q _ free
  have J3 := J2.laid (a := s2.heap.objs.size) (t' := s2.toks) (fun b o e => Heap.get?_push_of_some { cls := .type "set", dict := none, data := .set #[] 0 (.fresh 0 0 (!X.w.params.followText "set-order")) } e) (Nat.le_refl _) (setO_new (setR_fresh X.w))
  generalize eD : s2.heap.objs.size = D at free w0 turn J3 ⊢
  generalize e3 : ({ s2 with heap := s2.heap.push { cls := .type "set", dict := none, data := .set #[] 0 (.fresh 0 0 (!X.w.params.followText "set-order")) } } : Shared) = s3 at J3 ⊢
  have up3 : ∀ b o, s2.heap.get? b = some o → s3.heap.get? b = some o := fun b o e => by rw [← e3]; exact Heap.get?_push_of_some _ e
  generalize eH : upd H2 D (SetO X.w D (fun _ => false) 0) = H3 at w0 J3 ⊢
  have fp3 : ∀ b ∈ fp, FpOk X pns H3 b ∧ b < s3.heap.objs.size := fun b hb => by
    obtain ⟨o, e, _⟩ := T.obj _ _ on b hb
    have lt := Heap.lt_size e
    exact ⟨⟨by rw [← eH, upd_ne (by rw [← eD]; exact Nat.ne_of_lt lt)]; exact (off b hb).1, (off b hb).2⟩, Heap.lt_size (up3 b o e)⟩
  have on3 : tn 0 s3.heap := T.keep _ _ _ on fun b _ o e => up3 b o e
  -- the block's own context
  have B0 := block_start J3 ok hN fp3
  have gg := hg s3 H3 s3.heap.objs.size (cellsFrom (s3.heap.objs.size + 1) scope.names (cloFrom X.env.cells scope.names [])) fp
  have gt := ht s3 H3 s3.heap.objs.size (cellsFrom (s3.heap.objs.size + 1) scope.names (cloFrom X.env.cells scope.names [])) fp
  have ge := he s3 H3 s3.heap.objs.size (cellsFrom (s3.heap.objs.size + 1) scope.names (cloFrom X.env.cells scope.names [])) fp
  show codeAny _ _ (.compStart (.SetComp elt [⟨tg, iter, ifs, 0⟩] scope pos) 0 (.ref it) (.ref D) (compEnvC scope (cellsFrom (s3.heap.objs.size + 1) scope.names (cloFrom X.env.cells scope.names [])) s3.heap.objs.size X.env)) (compPost (model X.prog X.w) X.A X.xe none (EP X pns σ Q) (.ref D) s3.heap.objs.size) { s3 with heap := pushCells (s3.heap.push { cls := .type "dict", data := .dict #[] }) scope.names }
  generalize eC : compEnvC scope (cellsFrom (s3.heap.objs.size + 1) scope.names (cloFrom X.env.cells scope.names [])) s3.heap.objs.size X.env = env at B0 gg gt ge ⊢
  have eL : env.locals = s3.heap.objs.size := by rw [← eC]; rfl
  generalize e4 : ({ s3 with heap := pushCells (s3.heap.push { cls := .type "dict", data := .dict #[] }) scope.names } : Shared) = s4 at B0 ⊢
  have on4 : tn 0 s4.heap := T.keep _ _ _ on3 fun b _ o e => by rw [← e4]; exact pushCells_keeps _ _ _ _ (Heap.get?_push_of_some _ e)
  have fpB : ∀ {τ : L2.St} {G' : Hp} {z : Shared}, Inv (X.blk s3 H3 scope env fp) [] τ G' z → (∀ b ∈ fp, G' b = none) → ∀ b ∈ fp, FpOk (X.blk s3 H3 scope env fp) [] G' b := fun {τ G' z} B n b hb =>
    ⟨n b hb, (B.ok.exf b hb).1, B.ok.exfs b hb, .inl hb, fun x c e => (B.ok.exf b hb).2 x c e, fun p hp => absurd (show p ∈ ([] : List (Addr × Obj)) ++ [] from hp) (by simp)⟩
  have main : codeAny (model X.prog X.w) X.A (.compLoop (.SetComp elt [⟨tg, iter, ifs, 0⟩] scope pos) 0 (.ref it) (.ref D) env) (compPost (model X.prog X.w) X.A X.xe none (EP X pns σ Q) (.ref D) s3.heap.objs.size) s4 := by
    refine PpSet.compLoopS_any (fun n z => ∃ i G', Inv (X.blk s3 H3 scope env fp) [] (wipe σ (own.map (·.2))) G' z ∧ tn i z.heap ∧ (∀ b ∈ fp, G' b = none) ∧ W i n G') ?_ m0 ⟨0, H3, B0, on4, fun b hb => (fp3 b hb).1.1, w0⟩
    rintro n z ⟨i, G5, B5, on5, n5, w5⟩
    rcases turn i n G5 w5 with ⟨end', qe⟩ | ⟨more, Nx, less, step⟩
    · refine thnF (T.done (X.blk s3 H3 scope env fp) rfl rfl rfl hc i [] z _ G5 (fun _ _ => False) B5 (fpB B5 n5) on5 end') fun r z6 ⟨er, B6⟩ => ?_
      subst er
      have J6 : Inv X pns σ G5 z6 := J3.call' (ch := fp) B6.os B6.base B6.hok B6.bare fun b hb => ⟨(fp3 b hb).1.2.2.2.1, (fp3 b hb).1.2.1, (fp3 b hb).1.2.2.2.2.1, (fp3 b hb).1.2.2.2.2.2⟩
      have nC : G5 s3.heap.objs.size = none := eL ▸ (show G5 env.locals = none from B6.free)
      obtain ⟨mm, hn, _⟩ := B6.loc
      have hn' : z6.heap.Ns s3.heap.objs.size mm := eL ▸ (show z6.heap.Ns env.locals mm from hn)
      obtain ⟨c0, c1, c2, c3, c4, c5⟩ := J3.fpOk (Nat.le_refl _) nC
      exact ⟨mm, hn', fun g sb => ⟨.ref D, G5, J6.turned (t' := z6.toks) (fun b o nb e => (sb.2 b nb).trans e) c0 c1 c3 c4 c5, rfl, qe⟩⟩
    · refine thnF (T.item (X.blk s3 H3 scope env fp) rfl rfl rfl hc i [] z _ G5 (fun _ _ => False) B5 (fpB B5 n5) on5 more) fun r z6 ⟨u, er, k6⟩ => ?_
      subst er
      refine thnF k6 fun _ z7 ⟨x, G7, B7, r7, y7, on7, n7⟩ => ?_
      refine thnF (gg.run _ z7 _ G7 x u _ (B7.pinned (fpB B7 n7) (T.obj _ _ on7)) r7 (step x G7 y7)) fun _ z8 ⟨σ8, G8, B8, wp8, q8⟩ => ?_
      refine thnF (gt.run _ z8 σ8 G8 _ B8 q8) fun b z9 ⟨G9, B9, q9⟩ => ?_
      have next : ∀ {z' : Shared} {G' : Hp}, Inv (X.blk s3 H3 scope env fp) ([] ++ pinsAt fp z7.heap) σ8 G' z' → Nx G' → ∃ m, m < n ∧ ∃ i G', Inv (X.blk s3 H3 scope env fp) [] (wipe σ (own.map (·.2))) G' z' ∧ tn i z'.heap ∧ (∀ b ∈ fp, G' b = none) ∧ W i m G' := fun {z' G'} B nx => by
        obtain ⟨m', lt, w'⟩ := less G' nx
        have held : ∀ b ∈ fp, ∀ o, z7.heap.get? b = some o → z'.heap.get? b = some o ∧ G' b = none := fun b hb o e => let k := B.pin (b, o) (List.mem_append_right _ (List.mem_append_right _ (mem_pinsAt hb e))); ⟨k.1, k.2.1⟩
        refine ⟨m', lt, i + 1, G', (B.unpinned (pins := [])).weak (by rw [← wp8, wipe_length]) (fun j v e => (wipe_some (wp8 ▸ e)).1), T.keep _ _ _ on7 fun b hb o e => (held b hb o e).1, fun b hb => ?_, w'⟩
        obtain ⟨o, e, _⟩ := T.obj _ _ on7 b hb
        exact (held b hb o e).2
      cases b with
      | false => exact next B9 (by simpa using q9)
      | true =>
        rw [if_pos rfl] at q9
        refine thnF (ge.run _ z9 σ8 G9 _ B9 q9) fun a z10 ⟨yv, G10, B10, r10, k, S, nn, ey, eD', few, nx⟩ => ?_
        subst ey
        obtain ⟨t, rfl⟩ := r10
        exact add_int (X := X.blk s3 H3 scope env fp) B10 eD' few fun z11 B11 => next B11 nx
  exact PpSet.codeAny_compStart_set main (T.self X.A 0 _ _ _ on4 main)
end
end Tb
namespace Vk
open PySem PySem.Spec PyProof.Rows L2

/-! ## reading, one step at a time -/
section
variable {K : PySem.W.Frag} {D : Ends} {σ : L2.St} {H : Hp} {Q : VK} {t u : TS} {te ta tb tc : TE} {g : TG} {i : Nat} {v x y : V} {r r' : R2}
theorem rd_seq (h : t { D with nx := u D } σ H) : tSeq t u D σ H := h
theorem rd_asg (h : te σ H fun x H1 => g x σ H1 D.nx) : tAsg te g D σ H := h
theorem rd_ret (h : te σ H D.rt) : tRet te D σ H := h
theorem rd_drop (h : te σ H fun _ H1 => D.nx σ H1) : tDrop te D σ H := h
theorem rd_nx (h : D.nx σ H) : tNext D σ H := h
theorem rd_nm {Qg : L2.St → Hp → Prop} (h : Qg (σ.set i (some v)) H) : gName i v σ H Qg := h
theorem rd_var (h : σ[i]? = some (some v)) (q : Q v H) : tVar i σ H Q := ⟨v, h, q⟩
theorem rd_c (q : Q v H) : tC v σ H Q := q
theorem rd_op (h : ta σ H fun x H1 => tb σ H1 fun y H2 => r x y H2 Q) : tOp r ta tb σ H Q := h
theorem rd_un {ru : V → Hp → VK → Prop} (h : ta σ H fun x H1 => ru x H1 Q) : tUn ru ta σ H Q := h
theorem rd_i0 {g : Int → Int → V} {a b : Int} (q : Q (g a b) H) : rI0 g (.int a) (.int b) H Q := ⟨a, b, rfl, rfl, q⟩
theorem rd_i {C : Int → Int → Prop} {g : Int → Int → V} {a b : Int} (c : C a b) (q : Q (g a b) H) : rI C g (.int a) (.int b) H Q := ⟨a, b, rfl, rfl, c, q⟩
theorem rd_u {g : Int → V} {a : Int} (q : Q (g a) H) : rU g (.int a) H Q := ⟨a, rfl, q⟩
theorem rd_eq (h : scal x y = true) (q : Q (.bl (decide (x = y))) H) : rEq x y H Q := ⟨h, q⟩
theorem rd_ne (h : scal x y = true) (q : Q (.bl (!decide (x = y))) H) : rNe x y H Q := ⟨h, q⟩
theorem rd_test {Qt : Bool → Hp → Prop} (h : te σ H fun x H' => ∃ k, x = .bl k ∧ Qt k H') : tTest te σ H Qt := h
theorem rd_tb {Qt : Bool → Hp → Prop} (h : te σ H fun x H' => ∃ k, x = .bl k ∧ Qt k H') : tB te σ H Qt := h
theorem rd_bl {b : Bool} {R : Bool → Prop} (h : R b) : ∃ k, V.bl b = .bl k ∧ R k := ⟨b, rfl, h⟩
theorem rd_2 {b : Bool} {A B : Prop} (h1 : b = true → A) (h2 : b = false → B) : if b = true then A else B := by
  cases b with
  | true => exact iteT (h1 rfl)
  | false => exact iteF (h2 rfl)
theorem rd_chain (h : ta σ H fun x H1 => tb σ H1 fun y H2 => r x y H2 fun z H3 => ∃ k, z = .bl k ∧ (if k = true then tc σ H3 fun w' H4 => r' y w' H4 Q else Q (.bl false) H3)) : tChain r r' ta tb tc σ H Q := h
theorem rd_ifs {c : TT} (h : c σ H fun b H1 => if b = true then t D σ H1 else u D σ H1) : tIfS c t u D σ H := h
theorem rd_ife {c : TT} (h : c σ H fun b H1 => if b = true then ta σ H1 Q else tb σ H1 Q) : tIf c ta tb σ H Q := h
theorem rd_and {a b : TT} {Qt : Bool → Hp → Prop} (h : a σ H fun c H1 => if c = true then b σ H1 Qt else Qt false H1) : tAnd a b σ H Qt := h
theorem rd_or {a b : TT} {Qt : Bool → Hp → Prop} (h : a σ H fun c H1 => if c = true then Qt true H1 else b σ H1 Qt) : tOr a b σ H Qt := h
theorem rd_not {a : TT} {Qt : Bool → Hp → Prop} (h : a σ H fun c H1 => Qt (!c) H1) : tNot a σ H Qt := h
theorem rd_andV (h : ta σ H fun x H1 => ∃ c, x = .bl c ∧ if c = true then tb σ H1 Q else Q (.bl false) H1) : tAndV ta tb σ H Q := h
theorem rd_orV (h : ta σ H fun x H1 => ∃ c, x = .bl c ∧ if c = true then Q (.bl true) H1 else tb σ H1 Q) : tOrV ta tb σ H Q := h
theorem rd_notV (h : ta σ H fun x H1 => ∃ c, x = .bl c ∧ Q (.bl (!c)) H1) : tNotV ta σ H Q := h
theorem rd_yes {Qt : Bool → Hp → Prop} (h : Qt true H) : tYes σ H Qt := h
theorem rd_nil {Qa : List V → Hp → Prop} (q : Qa [] H) : tNil σ H Qa := q
theorem rd_cons {tr : TA} {Qa : List V → Hp → Prop} (h : ta σ H fun x H1 => tr σ H1 fun xs H2 => Qa (x :: xs) H2) : tCons ta tr σ H Qa := h
theorem rd_call {sp : Sp} {dvs : List V} {E : XK} {tl : TA} (h : tl σ H fun vs H1 => sp (vs ++ dvs) H1 Q E) : tCall sp dvs E tl σ H Q := h
theorem rd_cb {rc : List V → Hp → VK → Prop} {tl : TA} (h : tl σ H fun vs H1 => rc vs H1 Q) : tCB rc tl σ H Q := h
theorem rd_sub {to ti : TE} {ts : TSet} {Qg : L2.St → Hp → Prop} (h : to σ H fun o H1 => ti σ H1 fun i H2 => ts o i v H2 fun H3 => Qg σ H3) : gSub to ti ts v σ H Qg := h
theorem rd_tup {tl : TA} (h : tl σ H fun xs H1 => xs.length ≤ sizeLine ∧ ∀ p, H1 p = none → Q (.ref p) (upd H1 p (.tup xs))) : tTup tl σ H Q := h
theorem rd_lst {tl : TA} (h : tl σ H fun xs H1 => xs.length ≤ sizeLine ∧ ∀ p, H1 p = none → Q (.ref p) (upd H1 p (.lst xs))) : tLst tl σ H Q := h
theorem rd_ixl {p : Addr} {xs : List V} {a : Int} (h : SqL K H p xs) (e : atI xs a = some v) (q : Q v H) : rIxL K (.ref p) (.int a) H Q := ⟨p, xs, a, v, rfl, rfl, h, e, q⟩
theorem rd_ixt {p : Addr} {xs : List V} {a : Int} (h : SqT K H p xs) (e : atI xs a = some v) (q : Q v H) : rIxT K (.ref p) (.int a) H Q := ⟨p, xs, a, v, rfl, rfl, h, e, q⟩
theorem rd_setl {p : Addr} {xs : List V} {a : Int} {j : Nat} {Qh : Hp → Prop} (h : H p = some (.lst xs)) (e : ixN xs.length a = some j) (q : Qh (upd H p (.lst (xs.set j v)))) : rSetL (.ref p) (.int a) v H Qh := ⟨p, xs, a, j, rfl, rfl, h, e, q⟩
theorem rd_T {A B : Prop} (h : A) : if true = true then A else B := iteT h
theorem rd_Tt {b : Bool} {A B : Prop} (e : b = true) (h : A) : if b = true then A else B := (if_pos e).symm ▸ h
theorem rd_Ff {b : Bool} {A B : Prop} (e : b = false) (h : B) : if b = true then A else B := (if_neg (by rw [e]; exact Bool.false_ne_true) : (if b = true then A else B) = B).symm ▸ h
theorem rd_F {A B : Prop} (h : B) : if false = true then A else B := iteF h
end

/-! ## further rules -/
theorem room64 {k : Nat} {A : Around} {e : Env} (hr : Room k (A.deeper e)) : (A.deeper e).units + 64 < cLine := hr.units
section
variable {X : Cx}
theorem call_repr_bl : CallR X (.builtin "repr") (fun xs H Q => ∃ b : Bool, xs = [.bl b] ∧ Q (.str (if b then "True" else "False")) H) := by
  intro ps s σ H xs us Q I rel h
  obtain ⟨b, rfl, q⟩ := h
  obtain ⟨u0, rfl, e⟩ := vals1 rel
  cases (show u0 = Value.bool b from e)
  exact PySem.P.repr_of_bool ⟨.str (if b then "True" else "False"), H, I.tok _, ⟨_, rfl⟩, q⟩
/-- only keywords -/
theorem pe_callK0 {CX : CXT} {k : Nat} {f : Addr} {fd : FuncData} {ps ks : List Str} {sp : Sp} {E : XK} {nm : Str} {p0 pos : Pos} {kws : List Keyword} {tk : TA} {g : List Value → List Value → List Value} {gV : List V → List V → List V}
    (F : FnOk X.prog X.w X.K X.mg X.base CX k f fd ps sp) (room : Room k X.A) (isg : Gl X nm) (hm : X.mg nm = some (.ref f)) (kp : PySem.W.keepIn X.K (.ref f) = true) (kb : KBinds X.K fd ps ks g gV) (pa : Passes CX X E)
    (hkw : PK X kws tk) (h1 : (backToKw pos (keywordEach kws X.env)).all (·.1.isSome) = true := by rfl) (h2 : (backToKw pos (keywordEach kws X.env)).filterMap (·.1) = ks := by rfl)
    (h3 : (nm == ("__debug__" : Str)) = false := by decide) (h4 : ((backTo pos (starEach [] X.env)).any (·.1) || (backToKw pos (keywordEach kws X.env)).any (·.1.isNone)) = false := by rfl) :
    PE X (.Call (.Name nm p0) [] kws pos) (tCallK sp gV E tNil tk) :=
  ⟨fun pins s σ H Q I hw => wpAny_Call_Name_kw (ld_glob I isg hm (PySem.W.callWith_KW0 (h₀ := X.base) I.ok.mod.kin kp h1
    (thn (hkw.run pos pins s σ H _ I hw) fun ws s2 ⟨zs, H2, I2, rz, q2⟩ => ⟨I2.kIn, h2 ▸ run_fnk (us := []) (vs := []) F room kb pa I2 .nil rz q2⟩) h4) h3)⟩
end
theorem rd_callK {σ : L2.St} {H : Hp} {Q : VK} {sp : Sp} {gV : List V → List V → List V} {E : XK} {t tk : TA} (h : t σ H fun vs H1 => tk σ H1 fun zs H2 => sp (gV vs zs) H2 Q E) : tCallK sp gV E t tk σ H Q := h
abbrev kCat : List Value → List Value → List Value := fun us ws => us ++ ws
abbrev kCatV : List V → List V → List V := fun us ws => us ++ ws

/-! ## heaps: what a call that touches one list leaves -/
/-- all but the objects at B is as it was -/
def But (B : List Addr) (H H' : Hp) : Prop := ∀ b o, b ∉ B → H b = some o → H' b = some o
theorem But.refl {B : List Addr} {H : Hp} : But B H H := fun _ _ _ h => h
theorem But.trans {B : List Addr} {H H1 H2 : Hp} (e : But B H H1) (f : But B H1 H2) : But B H H2 := fun b o n h => f b o n (e b o n h)
theorem But.wide {B B' : List Addr} {H H' : Hp} (e : But B H H') (s : ∀ b, b ∉ B' → b ∉ B) : But B' H H' := fun b o n h => e b o (s b n) h
theorem But.of {B : List Addr} {H H' : Hp} (e : Same H H') : But B H H' := fun b o _ h => e b o h
theorem But.set {B : List Addr} {a : Addr} {H H' : Hp} {o : HO} (e : But B H H') (m : a ∈ B) : But B H (upd H' a o) := fun b u n h =>
  (upd_ne (fun z => n (by rw [z]; exact m))).trans (e b u n h)
theorem But.new {B : List Addr} {p : Addr} {H H' : Hp} {o : HO} (e : But B H H') (n : H' p = none) : But B H (upd H' p o) := fun b u nb h =>
  (upd_ne (ne_of_none (e b u nb h) n)).trans (e b u nb h)
/-- an object that H does not know may change -/
theorem But.mut {B : List Addr} {p : Addr} {H H' : Hp} {o : HO} (e : But B H H') (n : H p = none) : But B H (upd H' p o) := fun b u nb h =>
  (upd_ne (ne_of_none h n)).trans (e b u nb h)
theorem same_of_but {B : List Addr} {H H' : Hp} (e : But B H H') (n : ∀ p, p ∈ B → H p = none) : Same H H' := fun b o h => e b o (fun m => by rw [n b m] at h; cases h) h
theorem same_mut {H H' : Hp} {p : Addr} {o : HO} (e : Same H H') (n : H p = none) : Same H (upd H' p o) := fun b u h => (upd_ne (ne_of_none h n)).trans (e b u h)
theorem same_new {H : Hp} {p : Addr} {o : HO} (h : H p = none) : Same H (upd H p o) := fun b u e => (upd_ne (ne_of_none e h)).trans e
theorem But.seqL {K : PySem.W.Frag} {B : List Addr} {b : Addr} {H H' : Hp} {xs : List V} (e : But B H H') (n : b ∉ B) (h : SqL K H b xs) : SqL K H' b xs := by
  rcases h with (h | ⟨o, h⟩) | h
  · exact .inl (.inl (e _ _ n h))
  · exact .inl (.inr ⟨o, e _ _ n h⟩)
  · exact .inr h
/-- what stood is not among new objects -/
theorem But.seqL' {K : PySem.W.Frag} {B : List Addr} {b : Addr} {H H' : Hp} {xs : List V} (e : But B H H') (n : ∀ p, p ∈ B → H p = none) (h : SqL K H b xs) : SqL K H' b xs := by
  rcases h with (h | ⟨o, h⟩) | h
  · exact .inl (.inl (e _ _ (fun m => by rw [n _ m] at h; cases h) h))
  · exact .inl (.inr ⟨o, e _ _ (fun m => by rw [n _ m] at h; cases h) h⟩)
  · exact .inr h
theorem same_sqT {K : PySem.W.Frag} {H H' : Hp} {a : Addr} {xs : List V} (e : Same H H') (h : SqT K H a xs) : SqT K H' a xs := by
  rcases h with (h | ⟨o, h⟩) | h
  · exact .inl (.inl (e _ _ h))
  · exact .inl (.inr ⟨o, e _ _ h⟩)
  · exact .inr h
theorem But.free {B : List Addr} {H H' : Hp} {p : Addr} (e : But B H H') (n : p ∉ B) (h : H' p = none) : H p = none := by
  cases q : H p with
  | none => rfl
  | some o =>
    rw [e p o n q] at h
    cases h
/-- a pool of draws: three ints -/
def Pool (H : Hp) (a : Addr) : Prop := ∃ x d c : Int, H a = some (.lst [.int x, .int d, .int c])
theorem Pool.same {H H' : Hp} {a : Addr} (e : Same H H') (h : Pool H a) : Pool H' a := let ⟨x, d, c, h⟩ := h; ⟨x, d, c, e _ _ h⟩
theorem Pool.but {B : List Addr} {H H' : Hp} {a : Addr} (e : But B H H') (n : a ∉ B) (h : Pool H a) : Pool H' a := let ⟨x, d, c, h⟩ := h; ⟨x, d, c, e _ _ n h⟩
theorem Pool.ne {H : Hp} {a p : Addr} (h : Pool H a) (n : H p = none) : p ≠ a := fun e => by
  obtain ⟨x, d, c, h⟩ := h
  rw [e, h] at n
  cases n
theorem Pool.new {H : Hp} {a p : Addr} {o : HO} (h : Pool H a) (n : H p = none) : Pool (upd H p o) a := h.same (same_new n)
theorem Pool.upd {H : Hp} {a p : Addr} {o : HO} (h : Pool H a) (n : a ≠ p) : Pool (L2.upd H p o) a := let ⟨x, d, c, h⟩ := h; ⟨x, d, c, (upd_ne n).trans h⟩
theorem le_line {n : Nat} (h : n ≤ 1000) : n ≤ sizeLine := Nat.le_of_lt (small1000 h)
theorem atI_lt {α : Type} {xs : List α} {r : Int} (h0 : 0 ≤ r) (h1 : r < xs.length) : ∃ v, atI xs r = some v ∧ v ∈ xs := by
  obtain ⟨n, rfl⟩ := Int.eq_ofNat_of_zero_le h0
  have hn : n < xs.length := by omega
  exact ⟨xs[n], atI_nat (List.getElem?_eq_getElem hn), List.getElem_mem hn⟩
theorem ixN_lt {n : Nat} {r : Int} (h0 : 0 ≤ r) (h1 : r < n) : ixN n r = some r.toNat := by
  unfold ixN
  rw [if_pos h0, if_pos h1]
/-- some stretch of a list of ints is one -/
theorem cut_ints (ns : List Int) (lo hi : Option Int) : ∃ ms : List Int, cutV (ns.map V.int) lo hi = ms.map V.int :=
  ⟨_, by unfold cutV; rw [← List.map_drop, ← List.map_take]⟩
theorem mem_ints {ms : List Int} {i : Nat} {x : V} (h : (ms.map V.int)[i]? = some x) : ∃ n, x = .int n := by
  rw [List.getElem?_map] at h
  cases e : ms[i]? with
  | none => rw [e] at h; cases h
  | some n => rw [e] at h; cases h; exact ⟨n, rfl⟩
/-- a divisor below 2 ^ 64 is C's -/
theorem divp_small {i j : Int} (h0 : 0 < j) (h1 : j < 18446744073709551616) : CDivP i j := by
  refine ⟨h0, ?_⟩
  have hl : j.natAbs.log2 < 64 := by
    have hn : j.natAbs ≠ 0 := by omega
    exact (Nat.log2_lt hn).mpr (by omega)
  have hj : ¬ (j == 0) = true := by simpa using (show j ≠ 0 by omega)
  have hd : decide (j.natAbs.log2 / 30 + 1 > 300) = false := decide_eq_false (by omega)
  show (decide ((if (j == 0) = true then 0 else j.natAbs.log2 / 30 + 1) > 300) && _) = false
  rw [if_neg hj, hd, Bool.false_and]
end Vk
namespace Tb
open PySem PySem.Spec PyProof.Rows L2 Vk RZ
theorem ps_never {X : Cx} {st : Stmt} : PS X st (fun _ _ _ => False) := ⟨fun _ _ _ _ _ _ h => h.elim⟩
theorem ix_tupK {X : Cx} {K : PySem.W.Frag} (h : X.K = K) : IxR X (rIxT K) := h ▸ ix_tup
theorem ix_listK {X : Cx} {K : PySem.W.Frag} (h : X.K = K) : IxR X (rIxL K) := h ▸ ix_list
theorem pg_tupK {X : Cx} {K : PySem.W.Frag} {es : List Expr} {k : Nat} {pos : Pos} {t : TGs} {n : Nat} (e : X.K = K) (hc : X.calm = true) (h : PGs X es t) (hn : (assignEach es X.env).length = n := by rfl)
    (hst : (assignEach es X.env).findIdx? (·.1) = none := by rfl) : PG X (.Tuple es k pos) (gTup K n t) := e ▸ pg_tup hc h hn hst
/-- (..) known to be bare -/
def tTupF (t : TA) : TE := fun σ H Q => t σ H fun xs H1 => xs.length ≤ sizeLine ∧ ∀ p o, H1 p = none → o.dict = none → Q (.ref p) (upd H1 p (.frz o (.tup xs)))
theorem pe_tupF {X : Cx} {es : List Expr} {pos : Pos} {k : Nat} {t : TA} (h : PA X es t) : PE X (.Tuple es k pos) (tTupF t) :=
  ⟨fun pns s σ H Q I q => wpAny_Tuple_spliced (thn (h.run pos pns s σ H _ I q) fun us z ⟨xs, H1, I1, r, few, k⟩ =>
    ⟨by rw [← r.length]; exact few, .ref z.heap.objs.size, upd H1 z.heap.objs.size (.frz { cls := .type "tuple", data := .seq us.toArray } (.tup xs)), I1.laid (t' := z.toks) (fun b u e => Heap.get?_push_of_some _ e) (Nat.le_refl _) ⟨Heap.get?_push_size _ rfl, few, us, r, _, Heap.get?_push_size _ rfl, rfl, _, rfl⟩, rfl, k _ _ (I1.hok.fresh (Nat.le_refl _)) rfl⟩)⟩
theorem rd_tupF {σ : L2.St} {H : Hp} {Q : VK} {t : TA} (h : t σ H fun xs H1 => xs.length ≤ sizeLine ∧ ∀ p o, H1 p = none → o.dict = none → Q (.ref p) (upd H1 p (.frz o (.tup xs)))) : tTupF t σ H Q := h
/-- keywords in the other turn -/
abbrev kSw : List Value → List Value → List Value := fun us ws => us ++ ws.reverse
abbrev kSwV : List V → List V → List V := fun us ws => us ++ ws.reverse
theorem vals_rev : ∀ {xs : List V} {us : List Value}, Vals xs us → Vals xs.reverse us.reverse
  | _, _, .nil => .nil
  | _, _, .cons h t => by
    rw [List.reverse_cons, List.reverse_cons]
    exact (vals_rev t).append (.cons h .nil)
/-! ### a tuple of pairs of ints in the heap -/
def Rw (H : Hp) (t : Addr) (p : Int × Int) : Prop := H t = some (.tup [.int p.1, .int p.2])
structure PT (H : Hp) (a : Addr) (ts : List Addr) (L : Tb) : Prop where
  at' : ∃ o : Obj, o.dict = none ∧ H a = some (.frz o (.tup (ts.map V.ref)))
  rows : Paired (Rw H) ts L
theorem prd_same {H H' : Hp} (e : Same H H') : ∀ {ts : List Addr} {L : Tb}, Paired (Rw H) ts L → Paired (Rw H') ts L
  | _, _, .nil => .nil
  | _, _, .cons h t => .cons (e _ _ h) (prd_same e t)
theorem prd_len {α β : Type} {F : α → β → Prop} : ∀ {xs : List α} {ys : List β}, Paired F xs ys → xs.length = ys.length
  | _, _, .nil => rfl
  | _, _, .cons _ t => congrArg (· + 1) (prd_len t)
theorem prd_at {α β : Type} {F : α → β → Prop} : ∀ {xs : List α} {ys : List β}, Paired F xs ys → ∀ {i : Nat} {x : α}, xs[i]? = some x → ∃ y, ys[i]? = some y ∧ F x y
  | _, _, .cons h t, 0, x, e => ⟨_, rfl, (Option.some.inj e) ▸ h⟩
  | _, _, .cons h t, i + 1, x, e => prd_at t (i := i) (by simpa using e)
theorem prd_app {α β : Type} {F : α → β → Prop} {xs' : List α} {ys' : List β} : ∀ {xs : List α} {ys : List β}, Paired F xs ys → Paired F xs' ys' → Paired F (xs ++ xs') (ys ++ ys')
  | _, _, .nil, h => h
  | _, _, .cons a t, h => .cons a (prd_app t h)
theorem PT.same {H H' : Hp} {a : Addr} {ts : List Addr} {L : Tb} (e : Same H H') (p : PT H a ts L) : PT H' a ts L := ⟨let ⟨o, d, h⟩ := p.at'; ⟨o, d, e _ _ h⟩, prd_same e p.rows⟩
theorem PT.sq {K : PySem.W.Frag} {H : Hp} {a : Addr} {ts : List Addr} {L : Tb} (p : PT H a ts L) : SqT K H a (ts.map V.ref) := let ⟨o, _, h⟩ := p.at'; .inl (.inr ⟨o, h⟩)
theorem PT.len {H : Hp} {a : Addr} {ts : List Addr} {L : Tb} (p : PT H a ts L) : ts.length = L.length := prd_len p.rows
theorem PT.row {H : Hp} {a : Addr} {ts : List Addr} {L : Tb} (p : PT H a ts L) {i : Nat} {t : Addr} (h : ts[i]? = some t) : ∃ r, L[i]? = some r ∧ H t = some (.tup [.int r.1, .int r.2]) := prd_at p.rows h
/-- what only a pool may change -/
theorem PT.but {H H' : Hp} {a q : Addr} {ts : List Addr} {L : Tb} (e : But [q] H H') (hq : Pool H q) (p : PT H a ts L) : PT H' a ts L := by
  obtain ⟨x, d, c, hp⟩ := hq
  have ne : ∀ b u, H b = some u → (∀ zs, u ≠ .lst zs) → H' b = some u := fun b u h n => e b u (fun m => by rw [List.mem_singleton.mp m, hp] at h; exact n _ (Option.some.inj h).symm) h
  refine ⟨let ⟨o, d, h⟩ := p.at'; ⟨o, d, ne _ _ h fun zs z => by cases z⟩, ?_⟩
  have : ∀ {ts : List Addr} {L : Tb}, Paired (Rw H) ts L → Paired (Rw H') ts L := fun {ts L} r => by
    induction r with
    | nil => exact .nil
    | cons h _ ih => exact .cons (ne _ _ h fun zs z => by cases z) ih
  exact this p.rows
theorem prd_sq {K : PySem.W.Frag} {H : Hp} : ∀ {ts : List Addr} {L : Tb}, Paired (Rw H) ts L → Paired (fun p kv => SqT K H p [kV kv.1, kv.2]) ts (kvT L)
  | _, _, .nil => .nil
  | _, _, .cons h t => .cons (.inl (.inl h)) (prd_sq t)
/-- as data -/
def dat (L : Tb) : List PyData := L.map fun p => .tuple [.int p.1, .int p.2]
theorem prd_dp {K : PySem.W.Frag} {H : Hp} : ∀ {ts : List Addr} {L : Tb}, Paired (Rw H) ts L → DpAll K H (ts.map V.ref) (dat L)
  | _, _, .nil => .nil
  | _, _, .cons h t => .cons (.tup (.inl (.inl h)) (.cons (.int _) (.cons (.int _) .nil))) (prd_dp t)
theorem PT.dp {K : PySem.W.Frag} {H : Hp} {a : Addr} {ts : List Addr} {L : Tb} (p : PT H a ts L) : Dp K H (.ref a) (.tuple (dat L)) := .tup p.sq (prd_dp p.rows)
theorem wipe_at {σ : L2.St} {k : Nat} : (∀ x : V, wipe ((wipe σ [k]).set k (some x)) [k] = wipe σ [k]) := fun x => by simp [wipe, List.set_set]
/-! ### comprehensions -/
section
variable {K : PySem.W.Frag} {a : Addr} {xs ys : List V} {te : TE} {k : Nat} {σ : L2.St} {H1 : Hp} {D : Addr} {Qd : Hp → Prop}
theorem lcq_tup (nD : H1 D = none) (hL : SqT K H1 a xs) (hn : xs.length = ys.length) (small : ys.length ≤ 1000) (hte : ∀ (i : Nat) (x y : V) (H : Hp) (R : VK), xs[i]? = some x → ys[i]? = some y → Same H1 H → (∀ H2, Same H H2 → R y H2) → te ((wipe σ [k]).set k (some x)) H R)
    (hd : ∀ H, Same H1 H → H D = some (.lst ys) → Qd H) : ∃ W : Nat → Nat → Hp → Prop, (∃ m, W 0 m (upd H1 D (.lst []))) ∧ ∀ i m H, W i m H → ((Itt K a).stop i H ∧ Qd H) ∨ ((Itt K a).go i H ∧ ∃ Nx : Hp → Prop, (∀ H', Nx H' → ∃ m', m' < m ∧ W (i + 1) m' H') ∧
      ∀ x H', (Itt K a).yld i H x H' → gName k x (wipe σ [k]) H' fun σ2 H2 => wipe σ2 [k] = wipe σ [k] ∧ tYes σ2 H2 fun b H3 => if b = true then te σ2 H3 fun y H4 => ∃ acc, H4 D = some (.lst acc) ∧ acc.length < sizeLine ∧ Nx (upd H4 D (.lst (acc ++ [y]))) else Nx H3) := by
  refine lc_tup (xs := xs) (fun i H => Same H1 H ∧ H D = some (.lst (ys.take i))) ⟨same_new nD, by rw [upd_same]; rfl⟩ (fun i H _ h => same_sqT h.1 hL) (fun i x H hx h => ⟨wipe_at x, ?_⟩) (fun H h => ?_)
  · obtain ⟨s1, hD⟩ := h
    have hi : i < ys.length := hn ▸ (List.getElem?_eq_some_iff.mp hx).1
    refine rd_yes ?_
    rw [if_pos rfl]
    refine hte i x ys[i] H _ hx (List.getElem?_eq_getElem hi) s1 fun H2 s2 => ⟨ys.take i, s2 _ _ hD, small1000 (by rw [List.length_take]; omega), same_mut (s1.trans s2) nD, ?_⟩
    rw [upd_same, List.take_add_one, List.getElem?_eq_getElem hi]
    rfl
  · exact hd H h.1 (by rw [h.2, hn, List.take_length])
theorem lcq_list (nD : H1 D = none) (hL : SqL K H1 a xs) (hn : xs.length = ys.length) (small : ys.length ≤ 1000) (hte : ∀ (i : Nat) (x y : V) (H : Hp) (R : VK), xs[i]? = some x → ys[i]? = some y → Same H1 H → (∀ H2, Same H H2 → R y H2) → te ((wipe σ [k]).set k (some x)) H R)
    (hd : ∀ H, Same H1 H → H D = some (.lst ys) → Qd H) : ∃ W : Nat → Nat → Hp → Prop, (∃ m, W 0 m (upd H1 D (.lst []))) ∧ ∀ i m H, W i m H → ((Itl K a).stop i H ∧ Qd H) ∨ ((Itl K a).go i H ∧ ∃ Nx : Hp → Prop, (∀ H', Nx H' → ∃ m', m' < m ∧ W (i + 1) m' H') ∧
      ∀ x H', (Itl K a).yld i H x H' → gName k x (wipe σ [k]) H' fun σ2 H2 => wipe σ2 [k] = wipe σ [k] ∧ tYes σ2 H2 fun b H3 => if b = true then te σ2 H3 fun y H4 => ∃ acc, H4 D = some (.lst acc) ∧ acc.length < sizeLine ∧ Nx (upd H4 D (.lst (acc ++ [y]))) else Nx H3) := by
  refine lc_list (xs := xs) (fun i H => Same H1 H ∧ H D = some (.lst (ys.take i))) ⟨same_new nD, by rw [upd_same]; rfl⟩ (fun i H _ h => h.1.seq hL) (fun i x H hx h => ⟨wipe_at x, ?_⟩) (fun H h => ?_)
  · obtain ⟨s1, hD⟩ := h
    have hi : i < ys.length := hn ▸ (List.getElem?_eq_some_iff.mp hx).1
    refine rd_yes ?_
    rw [if_pos rfl]
    refine hte i x ys[i] H _ hx (List.getElem?_eq_getElem hi) s1 fun H2 s2 => ⟨ys.take i, s2 _ _ hD, small1000 (by rw [List.length_take]; omega), same_mut (s1.trans s2) nD, ?_⟩
    rw [upd_same, List.take_add_one, List.getElem?_eq_getElem hi]
    rfl
  · exact hd H h.1 (by rw [h.2, hn, List.take_length])
/-- a set of ints over a tuple -/
theorem sci_tup {w : World} {g : TG} {tt : TT} {vs : List Nat} (Pv : Nat → Hp → Prop) (h0 : Pv 0 (upd H1 D (SetO w D (fun _ => false) 0))) (hl : ∀ i H, i ≤ xs.length → Pv i H → SqT K H a xs) (hs : ∀ i x H, xs[i]? = some x → Pv i H → turnS w D g tt te vs σ (Pv (i + 1)) x H)
    (hd : ∀ H, Pv xs.length H → Qd H) : ∃ W : Nat → Nat → Hp → Prop, (∃ m, W 0 m (upd H1 D (SetO w D (fun _ => false) 0))) ∧ ∀ i m H, W i m H → ((Itt K a).stop i H ∧ Qd H) ∨ ((Itt K a).go i H ∧ ∃ Nx : Hp → Prop, (∀ H', Nx H' → ∃ m', m' < m ∧ W (i + 1) m' H') ∧
      ∀ x H', (Itt K a).yld i H x H' → turnS w D g tt te vs σ Nx x H') := by
  refine ⟨fun i m H => m + i = xs.length ∧ Pv i H, ⟨xs.length, rfl, h0⟩, fun i m H ⟨e, p⟩ => ?_⟩
  have q := hl i H (by omega) p
  by_cases lt : i < xs.length
  · refine .inr ⟨⟨xs, xs[i], q, List.getElem?_eq_getElem lt⟩, Pv (i + 1), fun H' p' => ⟨xs.length - (i + 1), by omega, by omega, p'⟩, fun x H' y => ?_⟩
    obtain ⟨rfl, y⟩ := y
    exact hs i x _ (y xs q) p
  · have : i = xs.length := by omega
    exact .inl ⟨⟨xs, q, by omega⟩, hd H (this ▸ p)⟩
end
end Tb
namespace Tb
open PySem PySem.Spec PyProof.Rows L2 Vk RZ
/-- over zip of two tuples, the second not longer -/
theorem lc_zT {K : PySem.W.Frag} {a b : Addr} {xs ys : List V} {g : TG} {tt : TT} {te : TE} {vs : List Nat} {σ : L2.St} {H1 : Hp} {D : Addr} {Qd : Hp → Prop} (sh : ys.length ≤ xs.length) (Pv : Nat → Hp → Prop) (h0 : Pv 0 (upd H1 D (.lst []))) (hq : ∀ i H, Pv i H → SqT K H a xs ∧ SqT K H b ys)
    (hs : ∀ (i : Nat) (x y : V) (T : Addr) (H : Hp), xs[i]? = some x → ys[i]? = some y → Pv i H → H T = none → g (.ref T) (wipe σ vs) (upd H T (.tup [x, y])) fun σ2 H2 => wipe σ2 vs = wipe σ vs ∧ tt σ2 H2 fun c H3 =>
      if c = true then te σ2 H3 fun z H4 => ∃ acc, H4 D = some (.lst acc) ∧ acc.length < sizeLine ∧ Pv (i + 1) (upd H4 D (.lst (acc ++ [z]))) else Pv (i + 1) H3) (hd : ∀ H, Pv ys.length H → Qd H) :
    ∃ W : Nat → Nat → Hp → Prop, (∃ m, W 0 m (upd H1 D (.lst []))) ∧ ∀ i m H, W i m H → ((ItzT K a b).stop i H ∧ Qd H) ∨ ((ItzT K a b).go i H ∧ ∃ Nx : Hp → Prop, (∀ H', Nx H' → ∃ m', m' < m ∧ W (i + 1) m' H') ∧
      ∀ x H', (ItzT K a b).yld i H x H' → g x (wipe σ vs) H' fun σ2 H2 => wipe σ2 vs = wipe σ vs ∧ tt σ2 H2 fun c H3 => if c = true then te σ2 H3 fun y H4 => ∃ acc, H4 D = some (.lst acc) ∧ acc.length < sizeLine ∧ Nx (upd H4 D (.lst (acc ++ [y]))) else Nx H3) := by
  refine ⟨fun i m H => m + i = ys.length ∧ Pv i H, ⟨ys.length, rfl, h0⟩, fun i m H ⟨e, p⟩ => ?_⟩
  obtain ⟨qx, qy⟩ := hq i H p
  by_cases lt : i < ys.length
  · have lx : i < xs.length := by omega
    refine .inr ⟨⟨xs, ys, _, _, qx, qy, List.getElem?_eq_getElem lx, List.getElem?_eq_getElem lt⟩, Pv (i + 1), fun H' p' => ⟨ys.length - (i + 1), by omega, by omega, p'⟩, fun v H' y => ?_⟩
    obtain ⟨T, x', y', rfl, hT, rfl, f1, f2⟩ := y
    exact hs i x' y' T H (f1 xs qx) (f2 ys qy) p hT
  · have : i = ys.length := by omega
    exact .inl ⟨⟨xs, ys, qx, qy, .inr (by omega)⟩, hd H (this ▸ p)⟩
theorem all_rep (n : Nat) : (List.replicate n true).all id = true := by
  rw [List.all_replicate]
  cases n <;> rfl
theorem any_rep (n : Nat) : (List.replicate n false).any id = false := by
  rw [List.any_replicate]
  cases n <;> rfl
theorem cut1 (xs : List V) : cutV xs (some 1) none = xs.drop 1 := by
  unfold cutV
  rw [HT.sIx_none, show (some (1 : Int)) = some ((1 : Nat) : Int) from rfl, HT.sIx_nat]
  rcases Nat.lt_or_ge 1 xs.length with h | h
  · rw [Nat.min_eq_left (by omega), List.take_of_length_le (by rw [List.length_drop]; omega)]
  · have : xs.drop 1 = [] := List.drop_eq_nil_of_le h
    rw [Nat.min_eq_right h, this, List.drop_length, List.take_nil]
end Tb
namespace Tb
open PySem PySem.Spec PyProof.Rows L2 Vk RZ
theorem rd_bm {K : PySem.W.Frag} {σ : L2.St} {H : Hp} {Q : VK} {T : String} {r : V → List V → Hp → VK → Prop} {to : TE} {tl : TA} (h : to σ H fun x H1 => tyV K T x H1 ∧ tl σ H1 fun xs H2 => r x xs H2 Q) : tBM K T r to tl σ H Q := h
/-- t + u, tables -/
theorem cat_ok {K : PySem.W.Frag} {H : Hp} {a b : Addr} {ts us : List Addr} {L M : Tb} {Q : VK} (p : PT H a ts L) (r : PT H b us M) (few : L.length + M.length ≤ 1000) (q : ∀ H' c, Same H H' → SqT K H' c ((ts ++ us).map V.ref) → Paired (Rw H') (ts ++ us) (L ++ M) → Q (.ref c) H') : rCatA K (.ref a) (.ref b) H Q := by
  have l1 := p.len
  have l2 := r.len
  refine ⟨a, b, _, _, rfl, rfl, p.sq, r.sq, le_line (by simp only [List.length_map]; omega), fun e => ?_, fun n e => ?_, fun n n' c nc => ?_⟩
  · have : ts = [] := List.map_eq_nil_iff.mp e
    subst this
    exact q _ _ (Same.refl _) r.sq (prd_app p.rows r.rows)
  · have : us = [] := List.map_eq_nil_iff.mp e
    subst this
    refine q _ _ (Same.refl _) (by rw [List.append_nil]; exact p.sq) (prd_app p.rows r.rows)
  · rw [← List.map_append]
    exact q _ c (same_new nc) (.inl (.inl upd_same)) (prd_same (same_new nc) (prd_app p.rows r.rows))
/-- the set of the first ones of a table's pairs -/
theorem keys_ok {w : World} {K : PySem.W.Frag} {c D : Addr} {ts : List Addr} {N : Tb} {k : Nat} {σ : L2.St} {H : Hp} {Qd : Hp → Prop} (hk : k < σ.length) (sq : SqT K H c (ts.map V.ref)) (rows : Paired (Rw H) ts N) (few : N.length ≤ 1000) (nD : H D = none)
    (hd : ∀ H' S n, Same H H' → H' D = some (SetO w D S n) → (∀ i, S i = true ↔ ∃ p ∈ N, p.1 = i) → n ≤ N.length → Qd H') :
    ∃ W : Nat → Nat → Hp → Prop, (∃ m, W 0 m (upd H D (SetO w D (fun _ => false) 0))) ∧ ∀ i m H, W i m H → ((Itt K c).stop i H ∧ Qd H) ∨ ((Itt K c).go i H ∧ ∃ Nx : Hp → Prop, (∀ H', Nx H' → ∃ m', m' < m ∧ W (i + 1) m' H') ∧
      ∀ x H', (Itt K c).yld i H x H' → turnS w D (gName k) tYes (tOp (rIxT K) (tVar k) (tC (V.int 0))) [k] σ Nx x H') := by
  have len := prd_len rows
  refine sci_tup (xs := ts.map V.ref) (fun i H' => Same H H' ∧ ∃ S n, H' D = some (SetO w D S n) ∧ (∀ j, S j = true ↔ ∃ p ∈ N.take i, p.1 = j) ∧ n ≤ i) ⟨same_new nD, _, _, upd_same, fun j => by simp, Nat.le_refl _⟩ (fun i H' _ h => same_sqT h.1 sq) (fun i x H' hx h => ?_) (fun H' h => ?_)
  · obtain ⟨s1, S, n, hD, hS, hn⟩ := h
    rw [List.getElem?_map] at hx
    obtain ⟨t, ht, rfl⟩ := Option.map_eq_some_iff.mp hx
    obtain ⟨r, hr, e⟩ := prd_at (prd_same s1 rows) ht
    have hi : i < ts.length := (List.getElem?_eq_some_iff.mp ht).1
    have hv : ((wipe σ [k]).set k (some (V.ref t)))[k]? = some (some (V.ref t)) := List.getElem?_set_self (by rw [wipe_length]; exact hk)
    refine ⟨wipe_at _, rd_yes (rd_T (rd_op (rd_var hv (rd_c (rd_ixt (.inl (.inl e)) (v := .int r.1) rfl ⟨r.1, S, n, rfl, hD, by unfold scanBound; omega, same_mut s1 nD, _, _, upd_same, fun j => ?_, ?_⟩)))))⟩
    · rw [Bool.or_eq_true, hS j, decide_eq_true_eq, List.take_add_one, hr]
      constructor
      · rintro (⟨p, m, z⟩ | z)
        · exact ⟨p, List.mem_append_left _ m, z⟩
        · exact ⟨r, List.mem_append_right _ (by simp), z.symm⟩
      · rintro ⟨p, m, z⟩
        rcases List.mem_append.mp m with m | m
        · exact .inl ⟨p, m, z⟩
        · have : p = r := by simpa using m
          exact .inr (by rw [← z, this])
    · show (if S r.1 = true then n else n + 1) ≤ i + 1
      split <;> omega
  · obtain ⟨s1, S, n, hD, hS, hn⟩ := h
    rw [List.length_map, len, List.take_length] at hS
    rw [List.length_map, len] at hn
    exact hd H' S n s1 hD hS hn
end Tb
namespace Tb
open PySem PySem.Spec PyProof.Rows L2 Vk RZ
theorem prd_but {H H' : Hp} (e : ∀ b u, H b = some u → (∀ zs, u ≠ .lst zs) → H' b = some u) : ∀ {ts : List Addr} {L : Tb}, Paired (Rw H) ts L → Paired (Rw H') ts L
  | _, _, .nil => .nil
  | _, _, .cons h t => .cons (e _ _ h fun zs z => by cases z) (prd_but e t)
theorem look_at : ∀ {L : Tb} {c : Int} {i : Nat} {r : Int × Int}, L[i]? = some r → r.1 = c → (∀ p ∈ L.take i, p.1 ≠ c) → look L c = r.2
  | q :: L, c, 0, r, h, e, _ => by
    obtain rfl := Option.some.inj h
    exact if_pos e
  | q :: L, c, i + 1, r, h, e, n => (if_neg (n q (by simp))).trans (look_at (i := i) (by simpa using h) e fun p m => n p (by simp [m]))
end Tb
namespace Tb
open PySem PySem.Spec PyProof.Rows L2 Vk RZ
theorem good_nil : Good [] := ⟨.nil, fun p h => by simp at h⟩
theorem lay_dat (L : Tb) : PyData.canLay0 (.tuple (dat L)) = true := by
  show PyData.canLayAll0 (dat L) = true
  induction L with
  | nil => rfl
  | cons p L ih =>
    show (PyData.canLay0 (.tuple [.int p.1, .int p.2]) && PyData.canLayAll0 (dat L)) = true
    rw [ih]
    rfl
theorem deep_dat (L : Tb) : PyData.depthAll (dat L) ≤ 2 := by
  induction L with
  | nil => simp [dat, PyData.depthAll]
  | cons p L ih =>
    have e : dat (p :: L) = .tuple [.int p.1, .int p.2] :: dat L := rfl
    rw [e]
    simp [PyData.depthAll, PyData.depth] at ih ⊢
    omega
theorem shaped_dat (L : Tb) : PySem.SeqAt.shaped (.tuple (dat L)) = true := by
  have h := deep_dat L
  have e : (PyData.tuple (dat L)).depth ≤ 64 := by
    simp [PyData.depth]
    omega
  unfold PySem.SeqAt.shaped
  rw [lay_dat L, decide_eq_true e]
  rfl
theorem eqv_dat (L : Tb) : PyData.eqv (.tuple (dat L)) (.tuple (dat L)) = true := PySem.SeqAt.eqv_refl _ (lay_dat L)
theorem shaped_ints (ns : List Int) : PySem.SeqAt.shaped (.list (ns.map PyData.int)) = true := by
  induction ns with
  | nil => rfl
  | cons n ns ih => exact ih
theorem eqv_ints (ns : List Int) : PyData.eqv (.list (ns.map PyData.int)) (.list (ns.map PyData.int)) = true := by
  induction ns with
  | nil => rfl
  | cons n ns ih =>
    simp only [List.map_cons, PyData.eqv, PyData.eqvAll] at ih ⊢
    simp [ih]
theorem dp_ints {K : PySem.W.Frag} {H : Hp} {p : Addr} (xs : List Int) (h : SqL K H p (xs.map V.int)) : Dp K H (.ref p) (.list (xs.map PyData.int)) := by
  refine .lst h ?_
  clear h
  induction xs with
  | nil => exact .nil
  | cons x r ih => exact .cons (.int x) ih
end Tb
namespace Tb
open PySem PySem.Spec PyProof.Rows L2 Vk RZ
theorem ints_ext : ∀ {l m : List Int}, l.Pairwise (· < ·) → m.Pairwise (· < ·) → (∀ c, c ∈ l ↔ c ∈ m) → l = m := fun {l m} hl hm h => by
  have e : (l.map fun c => (c, c)) = m.map fun c => (c, c) := asc_ext (List.pairwise_map.mpr hl) (List.pairwise_map.mpr hm) fun p => by
    rw [List.mem_map, List.mem_map]
    constructor
    · rintro ⟨c, m', rfl⟩
      exact ⟨c, (h c).mp m', rfl⟩
    · rintro ⟨c, m', rfl⟩
      exact ⟨c, (h c).mpr m', rfl⟩
  have e2 := congrArg (List.map (·.1)) e
  simpa [Function.comp_def] using e2
theorem comb_len {F : Int → Int} {ns : List Int} : (comb F ns).length ≤ ns.length := by
  unfold comb
  rw [List.length_map]
  exact List.length_filter_le _ _
/-- what the joined table does -/
theorem look_comb {F : Int → Int} {ns : List Int} (h : ns.Pairwise (· < ·)) (all : ∀ c, F c ≠ c → c ∈ ns) (c : Int) : look (comb F ns) c = F c := by
  by_cases e : F c = c
  · rw [look_out fun p m => ?_, e]
    obtain ⟨_, a, b⟩ := mem_comb.mp m
    intro z
    rw [z] at b
    exact b e
  · exact look_mem (comb_asc h) (p := (c, F c)) (mem_comb.mpr ⟨all c e, rfl, e⟩)
theorem comb_good {F : Int → Int} {ns : List Int} (h : ns.Pairwise (· < ·)) (k : ∀ c ∈ ns, Col c) (v : ∀ c, Col c → Col (F c)) : Good (comb F ns) := ⟨comb_asc h, fun p m => by
  obtain ⟨a, b, _⟩ := mem_comb.mp m
  exact ⟨k _ a, b ▸ v _ (k _ a)⟩⟩
theorem look_in {L : Tb} {c : Int} (h : look L c ≠ c) : ∃ p ∈ L, p.1 = c := by
  by_cases e : ∃ p ∈ L, p.1 = c
  · exact e
  · exact absurd (look_out fun p m z => e ⟨p, m, z⟩) h
/-- what is left of the sorted entries -/
theorem left_eq {F : Int → Int} {ns tr : List Int} {R zs : Tb} (asc : ns.Pairwise (· < ·)) (all : ∀ c, F c ≠ c → c ∈ ns) (sub : ∀ c ∈ ns, c ∈ tr) (nd : (R.map (·.1)).Nodup) (val : ∀ p ∈ R, p.2 = F p.1) (key : ∀ c, c ∈ R.map (·.1) ↔ c ∈ tr)
    (perm : zs.Perm R) (ord : zs.Pairwise fun p q => p.1 < q.1 ∨ p.1 = q.1 ∧ p.2 ≤ q.2) : zs.filter (fun p => decide (p.1 ≠ p.2)) = comb F ns := by
  have a : Asc zs := asc_of ord ((perm.map (·.1)).nodup_iff.mpr nd)
  refine asc_ext (a.filter _) (comb_asc asc) fun p => ?_
  rw [List.mem_filter, mem_comb, perm.mem_iff, decide_eq_true_eq]
  constructor
  · rintro ⟨m, e⟩
    have v := val p m
    exact ⟨all p.1 (fun z => e (by rw [v, z])), v, fun z => e (by rw [v, z])⟩
  · rintro ⟨m, v, e⟩
    obtain ⟨q, mq, eq⟩ := List.mem_map.mp ((key p.1).mpr (sub _ m))
    have vq := val q mq
    have : q = p := by
      refine Prod.ext eq ?_
      rw [vq, eq, v]
    exact ⟨this ▸ mq, fun z => e (by rw [← v, z])⟩
end Tb
local macro_rules | `(tactic| walk_at "rd1") => `(tactic| first
  | ((with_reducible apply Vk.rd_var); exact rfl)
  | (with_reducible refine Vk.rd_c ?_)
  | (with_reducible refine Vk.rd_seq ?_)
  | (with_reducible refine Vk.rd_asg ?_)
  | (with_reducible refine Vk.rd_ret ?_)
  | (with_reducible refine Vk.rd_drop ?_)
  | (with_reducible refine Vk.rd_nx ?_)
  | (with_reducible refine Vk.rd_nm ?_)
  | (with_reducible refine Vk.rd_op ?_)
  | (with_reducible refine Vk.rd_un ?_)
  | (with_reducible refine Vk.rd_i0 ?_)
  | ((with_reducible refine Vk.rd_i ?_ ?_); (first | decide | (show (0 : Int) < _; decide) | exact ⟨by decide, by decide⟩ | exact ⟨by decide, by decide, by decide⟩ | exact .inl ⟨by decide, by decide⟩ | exact .inr ⟨by decide, by decide⟩ | exact .inl ⟨by omega, by omega⟩ | exact .inr ⟨by omega, by omega⟩ | exact ⟨by omega, by omega⟩ | (show (0 : Int) < _; omega)))
  | (with_reducible refine Vk.rd_u ?_)
  | ((with_reducible refine Vk.rd_eq ?_ ?_); exact rfl)
  | ((with_reducible refine Vk.rd_ne ?_ ?_); exact rfl)
  | (with_reducible refine Vk.rd_test ?_)
  | (with_reducible refine Vk.rd_tb ?_)
  | (with_reducible refine Vk.rd_bl ?_)
  | (with_reducible refine Vk.rd_chain ?_)
  | (with_reducible refine Vk.rd_ifs ?_)
  | (with_reducible refine Vk.rd_ife ?_)
  | (with_reducible refine Vk.rd_and ?_)
  | (with_reducible refine Vk.rd_or ?_)
  | (with_reducible refine Vk.rd_not ?_)
  | (with_reducible refine Vk.rd_andV ?_)
  | (with_reducible refine Vk.rd_orV ?_)
  | (with_reducible refine Vk.rd_notV ?_)
  | (with_reducible refine Vk.rd_nil ?_)
  | (with_reducible refine Vk.rd_yes ?_)
  | (with_reducible refine Vk.rd_cons ?_)
  | (with_reducible refine Vk.rd_cb ?_)
  | (with_reducible refine Vk.rd_call ?_)
  | (with_reducible refine Vk.rd_callK ?_)
  | (with_reducible refine Vk.rd_sub ?_)
  | (with_reducible refine Vk.rd_tup ?_)
  | (with_reducible refine Vk.rd_lst ?_)
  | ((with_reducible apply Vk.rd_ixl); (first | assumption | exact .inl (.inl L2.upd_same) | exact .inl (.inl (by assumption))); (first | exact rfl | assumption))
  | ((with_reducible apply Vk.rd_ixt); (first | assumption | exact .inl (.inl L2.upd_same) | exact .inl (.inl (by assumption))); (first | exact rfl | assumption))
  | ((with_reducible apply Vk.rd_setl); (first | assumption | exact L2.upd_same); (exact rfl))
  | (with_reducible refine Vk.rd_T ?_)
  | (with_reducible refine Vk.rd_F ?_)
  | ((with_reducible apply Vk.rd_Tt); (first | exact rfl | assumption))
  | ((with_reducible apply Vk.rd_Ff); (first | exact rfl | assumption)))
local macro_rules | `(tactic| walk_at "rd") => `(tactic| repeat walk_at "rd1")
local macro_rules | `(tactic| walk_at "rd1") => `(tactic| first
  | (with_reducible refine Tb.rd_tupF ?_))
local macro_rules | `(tactic| walk_at "rd1") => `(tactic| first
  | (with_reducible refine Tb.rd_bm ?_))
namespace K09
open PySem PySem.Spec PyProof.Rows L2 Vk Tb RZ
def topS (i : Nat) : Stmt := PySem.Challenge.pw_allscreens_k09_colours_turned.main.body.getD i (.Pass ⟨0, 0, 0, 0⟩)
abbrev s_is_int : Stmt := topS 6
abbrev N_is_int : List Str := ["value"]
theorem sc_is_int : FnScope N_is_int ["value"] (defScope s_is_int) := ⟨rfl, rfl, rfl, by decide +kernel, rfl, by decide +kernel, by decide +kernel⟩
abbrev s_is_between : Stmt := topS 7
abbrev N_is_between : List Str := ["value", "least", "most"]
theorem sc_is_between : FnScope N_is_between ["value", "least", "most"] (defScope s_is_between) := ⟨rfl, rfl, rfl, by decide +kernel, rfl, by decide +kernel, by decide +kernel⟩
abbrev s_is_colour : Stmt := topS 9
abbrev N_is_colour : List Str := ["value"]
theorem sc_is_colour : FnScope N_is_colour ["value"] (defScope s_is_colour) := ⟨rfl, rfl, rfl, by decide +kernel, rfl, by decide +kernel, by decide +kernel⟩
abbrev s_check_colour : Stmt := topS 10
abbrev N_check_colour : List Str := ["value"]
theorem sc_check_colour : FnScope N_check_colour ["value"] (defScope s_check_colour) := ⟨rfl, rfl, rfl, by decide +kernel, rfl, by decide +kernel, by decide +kernel⟩
abbrev s_is_pair : Stmt := topS 12
abbrev N_is_pair : List Str := ["value"]
theorem sc_is_pair : FnScope N_is_pair ["value"] (defScope s_is_pair) := ⟨rfl, rfl, rfl, by decide +kernel, rfl, by decide +kernel, by decide +kernel⟩
abbrev s_is_pairs : Stmt := topS 13
abbrev N_is_pairs : List Str := ["value", "pair", "later"]
theorem sc_is_pairs : FnScope N_is_pairs ["value"] (defScope s_is_pairs) := ⟨rfl, rfl, rfl, by decide +kernel, rfl, by decide +kernel, by decide +kernel⟩
abbrev s_check_pairs : Stmt := topS 14
abbrev N_check_pairs : List Str := ["value"]
theorem sc_check_pairs : FnScope N_check_pairs ["value"] (defScope s_check_pairs) := ⟨rfl, rfl, rfl, by decide +kernel, rfl, by decide +kernel, by decide +kernel⟩
abbrev s_recoloured : Stmt := topS 15
abbrev N_recoloured : List Str := ["colour", "pairs"]
theorem sc_recoloured : FnScope N_recoloured ["colour", "pairs"] (defScope s_recoloured) := ⟨rfl, rfl, rfl, by decide +kernel, rfl, by decide +kernel, by decide +kernel⟩
abbrev s_combined : Stmt := topS 16
abbrev N_combined : List Str := ["pairs", "other_pairs", "first", "second", "found", "old", "between", "new", "pair"]
theorem sc_combined : FnScope N_combined ["pairs", "other_pairs"] (defScope s_combined) := ⟨rfl, rfl, rfl, by decide +kernel, rfl, by decide +kernel, by decide +kernel⟩
abbrev s_cell : Stmt := topS 18
abbrev N_cell : List Str := ["_law_script", "_law_k", "_law_state_here", "_law_cell_here"]
theorem sc_cell : FnScope N_cell ["_law_script", "_law_k"] (defScope s_cell) := ⟨rfl, rfl, rfl, by decide +kernel, rfl, by decide +kernel, by decide +kernel⟩
abbrev s_pool : Stmt := topS 19
abbrev N_pool : List Str := ["_law_cell_here", "_law_digits"]
theorem sc_pool : FnScope N_pool ["_law_cell_here"] (defScope s_pool) := ⟨rfl, rfl, rfl, by decide +kernel, rfl, by decide +kernel, by decide +kernel⟩
abbrev s_draw : Stmt := topS 20
abbrev N_draw : List Str := ["_law_pool_here", "_law_many", "_law_old", "_law_digit"]
theorem sc_draw : FnScope N_draw ["_law_pool_here", "_law_many"] (defScope s_draw) := ⟨rfl, rfl, rfl, by decide +kernel, rfl, by decide +kernel, by decide +kernel⟩
abbrev s_pairs : Stmt := topS 21
abbrev N_pairs : List Str := ["_law_pool_here", "_law_most", "_law_far", "_law_olds", "_law_k", "_law_old"]
theorem sc_pairs : FnScope N_pairs ["_law_pool_here", "_law_most", "_law_far"] (defScope s_pairs) := ⟨rfl, rfl, rfl, by decide +kernel, rfl, by decide +kernel, by decide +kernel⟩
abbrev s_turned : Stmt := topS 22
abbrev N_turned : List Str := ["_law_hue", "_law_rows", "_law_old", "_law_new"]
theorem sc_turned : FnScope N_turned ["_law_hue", "_law_rows"] (defScope s_turned) := ⟨rfl, rfl, rfl, by decide +kernel, rfl, by decide +kernel, by decide +kernel⟩
abbrev s_right : Stmt := topS 23
abbrev N_right : List Str := ["_law_pool_here", "_law_far", "_law_one", "_law_other", "_law_named", "_law_tried", "_law_hue", "_law_told", "_law_both", "_law_due", "_law_pair", "_law_k", "_law_new"]
theorem sc_right : FnScope N_right ["_law_pool_here", "_law_far"] (defScope s_right) := ⟨rfl, rfl, rfl, by decide +kernel, rfl, by decide +kernel, by decide +kernel⟩
abbrev s_law : Stmt := topS 24
abbrev N_law : List Str := ["_law_script", "_law_k", "_law_pool_here", "_law_turn"]
theorem sc_law : FnScope N_law ["_law_script"] (defScope s_law) := ⟨rfl, rfl, rfl, by decide +kernel, rfl, by decide +kernel, by decide +kernel⟩
structure Ad where
  f_is_int : Addr
  d_is_int : FuncData
  f_is_between : Addr
  d_is_between : FuncData
  f_is_colour : Addr
  d_is_colour : FuncData
  f_check_colour : Addr
  d_check_colour : FuncData
  f_is_pair : Addr
  d_is_pair : FuncData
  f_is_pairs : Addr
  d_is_pairs : FuncData
  f_check_pairs : Addr
  d_check_pairs : FuncData
  f_recoloured : Addr
  d_recoloured : FuncData
  f_combined : Addr
  d_combined : FuncData
  f_cell : Addr
  d_cell : FuncData
  f_pool : Addr
  d_pool : FuncData
  f_draw : Addr
  d_draw : FuncData
  f_pairs : Addr
  d_pairs : FuncData
  f_turned : Addr
  d_turned : FuncData
  f_right : Addr
  d_right : FuncData
  f_law : Addr
  d_law : FuncData
  t_MOST_COLOUR : Tok
structure Txt (K : PySem.W.Frag) (mg : Str → Option Value) (A : Ad) : Prop where
  F_is_int : Fun K "is_int" "is_int" s_is_int A.f_is_int A.d_is_int
  B_is_int : Binds K A.d_is_int ["value"] []
  g_is_int : mg "is_int" = some (.ref A.f_is_int)
  F_is_between : Fun K "is_between" "is_between" s_is_between A.f_is_between A.d_is_between
  B_is_between : Binds K A.d_is_between ["value", "least", "most"] []
  g_is_between : mg "is_between" = some (.ref A.f_is_between)
  F_is_colour : Fun K "is_colour" "is_colour" s_is_colour A.f_is_colour A.d_is_colour
  B_is_colour : Binds K A.d_is_colour ["value"] []
  g_is_colour : mg "is_colour" = some (.ref A.f_is_colour)
  F_check_colour : Fun K "check_colour" "check_colour" s_check_colour A.f_check_colour A.d_check_colour
  B_check_colour : Binds K A.d_check_colour ["value"] []
  g_check_colour : mg "check_colour" = some (.ref A.f_check_colour)
  F_is_pair : Fun K "is_pair" "is_pair" s_is_pair A.f_is_pair A.d_is_pair
  B_is_pair : Binds K A.d_is_pair ["value"] []
  g_is_pair : mg "is_pair" = some (.ref A.f_is_pair)
  F_is_pairs : Fun K "is_pairs" "is_pairs" s_is_pairs A.f_is_pairs A.d_is_pairs
  B_is_pairs : Binds K A.d_is_pairs ["value"] []
  g_is_pairs : mg "is_pairs" = some (.ref A.f_is_pairs)
  F_check_pairs : Fun K "check_pairs" "check_pairs" s_check_pairs A.f_check_pairs A.d_check_pairs
  B_check_pairs : Binds K A.d_check_pairs ["value"] []
  g_check_pairs : mg "check_pairs" = some (.ref A.f_check_pairs)
  F_recoloured : Fun K "recoloured" "recoloured" s_recoloured A.f_recoloured A.d_recoloured
  B_recoloured : Binds K A.d_recoloured ["colour", "pairs"] []
  g_recoloured : mg "recoloured" = some (.ref A.f_recoloured)
  F_combined : Fun K "combined" "combined" s_combined A.f_combined A.d_combined
  B_combined : Binds K A.d_combined ["pairs", "other_pairs"] []
  g_combined : mg "combined" = some (.ref A.f_combined)
  F_cell : Fun K "_law_cell" "_law_cell" s_cell A.f_cell A.d_cell
  B_cell : Binds K A.d_cell ["_law_script", "_law_k"] []
  g_cell : mg "_law_cell" = some (.ref A.f_cell)
  F_pool : Fun K "_law_pool" "_law_pool" s_pool A.f_pool A.d_pool
  B_pool : Binds K A.d_pool ["_law_cell_here"] []
  g_pool : mg "_law_pool" = some (.ref A.f_pool)
  F_draw : Fun K "_law_draw" "_law_draw" s_draw A.f_draw A.d_draw
  B_draw : Binds K A.d_draw ["_law_pool_here", "_law_many"] []
  g_draw : mg "_law_draw" = some (.ref A.f_draw)
  F_pairs : Fun K "_law_pairs" "_law_pairs" s_pairs A.f_pairs A.d_pairs
  B_pairs : Binds K A.d_pairs ["_law_pool_here", "_law_most", "_law_far"] []
  g_pairs : mg "_law_pairs" = some (.ref A.f_pairs)
  F_turned : Fun K "_law_turned" "_law_turned" s_turned A.f_turned A.d_turned
  B_turned : Binds K A.d_turned ["_law_hue", "_law_rows"] []
  g_turned : mg "_law_turned" = some (.ref A.f_turned)
  F_right : Fun K "_law_right" "_law_right" s_right A.f_right A.d_right
  B_right : Binds K A.d_right ["_law_pool_here", "_law_far"] []
  g_right : mg "_law_right" = some (.ref A.f_right)
  F_law : Fun K "law" "law" s_law A.f_law A.d_law
  B_law : Binds K A.d_law ["_law_script"] []
  g_law : mg "law" = some (.ref A.f_law)
  K_recoloured_pairs_colour : KBinds K A.d_recoloured ["colour", "pairs"] ["pairs", "colour"] Tb.kSw Tb.kSwV
  K_combined_other_pairs_pairs : KBinds K A.d_combined ["pairs", "other_pairs"] ["other_pairs", "pairs"] Tb.kSw Tb.kSwV
  m_abs : mg "abs" = none
  m_all : mg "all" = none
  m_any : mg "any" = none
  m_bool : mg "bool" = none
  m_dict : mg "dict" = none
  m_divmod : mg "divmod" = none
  m_int : mg "int" = none
  m_isinstance : mg "isinstance" = none
  m_len : mg "len" = none
  m_max : mg "max" = none
  m_min : mg "min" = none
  m_range : mg "range" = none
  m_sorted : mg "sorted" = none
  m_tuple : mg "tuple" = none
  m_zip : mg "zip" = none
  g_MOST_COLOUR : mg "MOST_COLOUR" = some (.int 1000000000 A.t_MOST_COLOUR)
section
variable {P : Program} {w : World} {K : PySem.W.Frag} {mg : Str → Option Value} {base : Heap} {A : Ad}
/-! ### pools -/
def spCell (K : PySem.W.Frag) : Sp := fun vs H Q _ => ∃ (a : Addr) (ns : List Int) (k : Int), vs = [.ref a, .int k] ∧ SqL K H a (ns.map V.int) ∧ 0 ≤ k ∧ k ≤ 1000 ∧ ∀ z H', Same H H' → Q (.int z) H'
theorem ok_cell (T : Txt K mg A) : FnOk P w K mg base CX0 1 A.f_cell A.d_cell ["_law_script", "_law_k"] (spCell K) := by
  refine T.F_cell.ok sc_cell (fun vs H Q E h => ?_) (fun cdv A0 outer s H vs Q E hr h => ?_)
  · obtain ⟨a, ns, k, rfl, _⟩ := h
    rfl
  · obtain ⟨a, ns, k, rfl, hS, k0, k1, q⟩ := h
    refine ⟨_, (pss_cons (ps_if (pt_cmpR op_lt (pv 1) (pe_callB call_len_seq (by rfl) T.m_len PySem.boot_len (pa_cons (pv 0) pa_nil)) (nomark _))
        (pss_one (ps_ret (pe_ix ix_list (pv 0) (pv 1) (fun _ _ => rfl))))
        pss_nil)
      (pss_cons (ps_set (i := 2) sc_cell.nd rfl (.inl rfl) (pe_op op_mod (pe_op op_mul pe_int (pe_op op_add (pe_op op_add (pe_op op_mul (pv 1) (pv 1)) (pe_op op_mul pe_int (pv 1))) pe_int)) pe_int))
      (pss_cons (ps_for PassesOwn.never rfl (pi_list (pe_slice sl_list (pv 0) po_none (po_some pe_int))) (pg_name (i := 3) sc_cell.nd rfl (.inl rfl))
        (pss_one (ps_set (i := 2) sc_cell.nd rfl (.inl rfl) (pe_op op_mod (pe_op op_add (pe_op op_mul (pv 2) pe_int) (pv 3)) pe_int))))
      (pss_one (ps_ret (pv 2)))))), ?_⟩
    walk_at "rd"
    refine ⟨a, _, rfl, .inl hS, ?_⟩
    walk_at "rd"
    refine rd_2 (fun e => ?_) (fun e => ?_)
    · have hk := of_decide_eq_true e
      obtain ⟨v, e1, e2⟩ := atI_lt k0 hk
      obtain ⟨n, _, rfl⟩ := List.mem_map.mp e2
      walk_at "rd"
      exact q _ _ (Same.refl _)
    · walk_at "rd"
      obtain ⟨ms, em⟩ := cut_ints ns none (some 3)
      refine ⟨.ref a, rfl, 3, rfl, a, _, rfl, hS, fun p np => ⟨p, rfl, ⟨_, .inl (.inl upd_same)⟩, ?_⟩⟩
      rw [em]
      refine for_list (xs := ms.map V.int) (fun i σ H' => ∃ z y, σ = [some (.ref a), some (.int k), some (.int z), y] ∧ Same H H' ∧ H' p = some (.lst (ms.map V.int)))
        ⟨_, none, rfl, same_new np, upd_same⟩ (fun i σ H' _ h => ?_) (fun i x σ H' hx h => ?_) (fun σ H' h => ?_)
      · obtain ⟨z, y, rfl, sm, e⟩ := h
        exact .inl (.inl e)
      · obtain ⟨z, y, rfl, sm, e⟩ := h
        obtain ⟨n, rfl⟩ := mem_ints hx
        walk_at "rd"
        exact ⟨_, _, rfl, sm, e⟩
      · obtain ⟨z, y, rfl, sm, e⟩ := h
        walk_at "rd"
        exact q _ _ sm
def spPool : Sp := fun vs H Q _ => ∃ z : Int, vs = [.int z] ∧ ∀ p H', H p = none → Same H H' → Pool H' p → Q (.ref p) H'
theorem ok_pool (T : Txt K mg A) : FnOk P w K mg base CX0 1 A.f_pool A.d_pool ["_law_cell_here"] spPool := by
  refine T.F_pool.ok sc_pool (fun vs H Q E h => ?_) (fun cdv A0 outer s H vs Q E hr h => ?_)
  · obtain ⟨z, rfl, _⟩ := h
    rfl
  · obtain ⟨z, rfl, q⟩ := h
    refine ⟨_, (pss_cons (ps_set (i := 1) sc_pool.nd rfl (.inl rfl) (pe_ifExp (pw_or (pt_cmpR op_lt (pv 0) pe_int (nomark _)) (pw_or1 (pt_cmpR op_ge (pv 0) (pe_op op_pow pe_int pe_int) (nomark _)))).pt (pe_callB call_abs (by rfl) T.m_abs (by decide +kernel) (pa_cons (pv 0) pa_nil)) pe_int))
      (pss_one (ps_ret (pe_lst (pa_cons (pe_op op_mod (pv 0) pe_int) (pa_cons (pv 1) (pa_cons pe_int pa_nil))))))), ?_⟩
    have fin : ∀ p x d c, H p = none → Q (.ref p) (upd H p (.lst [.int x, .int d, .int c])) := fun p x d c np => q p _ np (same_new np) ⟨x, d, c, upd_same⟩
    walk_at "rd"
    refine rd_2 (fun e => ?_) (fun e => ?_)
    · walk_at "rd"
      refine ⟨_, rfl, ?_⟩
      walk_at "rd"
      exact ⟨le_line (Nat.le_of_ble_eq_true rfl), fun p np => fin p _ _ _ np⟩
    · walk_at "rd"
      refine rd_2 (fun e => ?_) (fun e => ?_)
      · walk_at "rd"
        refine ⟨_, rfl, ?_⟩
        walk_at "rd"
        exact ⟨le_line (Nat.le_of_ble_eq_true rfl), fun p np => fin p _ _ _ np⟩
      · walk_at "rd"
        exact ⟨le_line (Nat.le_of_ble_eq_true rfl), fun p np => fin p _ _ _ np⟩
def spDraw : Sp := fun vs H Q _ => ∃ (a : Addr) (m : Int), vs = [.ref a, .int m] ∧ Pool H a ∧ 0 < m ∧ m < 18446744073709551616 ∧ ∀ r H', 0 ≤ r → r < m → But [a] H H' → Pool H' a → Q (.int r) H'
theorem ok_draw (T : Txt K mg A) : FnOk P w K mg base CX0 1 A.f_draw A.d_draw ["_law_pool_here", "_law_many"] spDraw := by
  refine T.F_draw.ok sc_draw (fun vs H Q E h => ?_) (fun cdv A0 outer s H vs Q E hr h => ?_)
  · obtain ⟨a, m, rfl, _⟩ := h
    rfl
  · obtain ⟨a, m, rfl, ⟨x, d, c, hP⟩, m0, m1, q⟩ := h
    have ma : a ∈ [a] := List.mem_singleton.mpr rfl
    refine ⟨_, (pss_cons (ps_asg (pe_op op_add (pe_ix ix_list (pv 0) pe_int (fun _ _ => rfl)) pe_int) (pg_sub (pv 0) pe_int set_list))
      (pss_cons (ps_set (i := 2) sc_draw.nd rfl (.inl rfl) (pe_ix ix_list (pv 0) pe_int (fun _ _ => rfl)))
      (pss_cons (ps_asg (pe_op op_mod (pe_op op_add (pe_op op_add (pe_op op_mul (pv 2) (pe_op op_add (pe_op op_mod (pv 2) pe_int) pe_int)) (pe_op op_mul pe_int (pe_ix ix_list (pv 0) pe_int (fun _ _ => rfl)))) pe_int) pe_int) (pg_sub (pv 0) pe_int set_list))
      (pss_cons (ps_if (pt_cmpR op_gt (pe_ix ix_list (pv 0) pe_int (fun _ _ => rfl)) pe_int (nomark _))
        (pss_cons (ps_asg (pe_callB call_divmodW (by rfl) T.m_divmod (by decide +kernel) (pa_cons (pe_ix ix_list (pv 0) pe_int (fun _ _ => rfl)) (pa_cons (pv 1) pa_nil))) (pg_tup rfl (pgs_cons (pg_sub (pv 0) pe_int set_list) (pgs_cons (pg_name (i := 3) sc_draw.nd rfl (.inl rfl)) pgs_nil))))
        (pss_one (ps_ret (pv 3))))
        pss_nil)
      (pss_one (ps_ret (pe_op op_mod (pe_op op_fdiv (pe_ix ix_list (pv 0) pe_int (fun _ _ => rfl)) pe_int) (pv 1)))))))), ?_⟩
    walk_at "rd"
    refine rd_2 (fun e => ?_) (fun e => ?_)
    · walk_at "rd"
      refine ⟨_, _, rfl, divp_small m0 m1, fun p np => ⟨p, _, rfl, .inl (.inl upd_same), rfl, _, _, rfl, ?_⟩⟩
      have na : a ≠ p := fun z => by
        rw [← z, upd_same] at np
        cases np
      have hP2 := (upd_ne (o := .tup [.int (d / m), .int (d % m)]) na).trans (upd_same (H := upd H a (.lst ([.int x, .int d, .int c].set 2 (.int (c + 1))))) (a := a) (o := .lst (([.int x, .int d, .int c].set 2 (.int (c + 1))).set 0 (.int ((x * (x % 43013 + 28009) + 70009 * (c + 1) + 19) % 2147482943)))))
      walk_at "rd"
      refine ⟨_, _, rfl, ?_⟩
      walk_at "rd"
      refine ⟨rfl, ?_⟩
      walk_at "rd"
      refine q _ _ (Int.emod_nonneg _ (by omega)) (Int.emod_lt_of_pos _ m0) (((((But.refl.set ma).set ma).new np).set ma)) ⟨_, _, _, upd_same⟩
    · walk_at "rd"
      refine q _ _ (Int.emod_nonneg _ (by omega)) (Int.emod_lt_of_pos _ m0) ((But.refl.set ma).set ma) ⟨_, _, _, upd_same⟩
end
/-! ### values -/
inductive Kd (B : List Addr) (H : Hp) : V → String → Prop
  | non : Kd B H .non "NoneType"
  | bl (b : Bool) : Kd B H (.bl b) "bool"
  | int (i : Int) : Kd B H (.int i) "int"
  | str (x : Str) : Kd B H (.str x) "str"
  | lst {p : Addr} {xs : List V} (e : H p = some (.lst xs)) (n : p ∉ B) : Kd B H (.ref p) "list"
  | tup {p : Addr} {xs : List V} (e : H p = some (.tup xs)) (n : p ∉ B) : Kd B H (.ref p) "tuple"
  | dct {p : Addr} {kvs : List (Key × V)} (e : H p = some (.dK kvs)) (n : p ∉ B) : Kd B H (.ref p) "dict"
theorem Kd.but {B : List Addr} {H H' : Hp} {v : V} {T : String} (e : But B H H') (k : Kd B H v T) : Kd B H' v T := by
  cases k with
  | non => exact .non
  | bl b => exact .bl b
  | int i => exact .int i
  | str x => exact .str x
  | lst h n => exact .lst (e _ _ n h) n
  | tup h n => exact .tup (e _ _ n h) n
  | dct h n => exact .dct (e _ _ n h) n
theorem Kd.wide {B B' : List Addr} {H : Hp} {v : V} {T : String} (s : ∀ b, b ∉ B → b ∉ B') (k : Kd B H v T) : Kd B' H v T := by
  cases k with
  | non => exact .non
  | bl b => exact .bl b
  | int i => exact .int i
  | str x => exact .str x
  | lst h n => exact .lst h (s _ n)
  | tup h n => exact .tup h (s _ n)
  | dct h n => exact .dct h (s _ n)
theorem Kd.tyx {B : List Addr} {K : PySem.W.Frag} {H : Hp} {v : V} {T : String} (k : Kd B H v T) : TyX K H v (.type T) := by
  cases k with
  | non => exact .base .non
  | bl b => exact .base (.bl b)
  | int i => exact .base (.int i)
  | str x => exact .base (.str x)
  | lst h n => exact .base (.lst h)
  | tup h n => exact .base (.tup h)
  | dct h n => exact .base (.dK h)
def isi (T n : String) : Bool := T == n || (T == "bool" && n == "int")
theorem isi_ok {B : List Addr} {H : Hp} {v : V} {T : String} (k : Kd B H v T) : kitB T "int" = some (isi T "int") ∧ kitB T "bool" = some (isi T "bool") ∧ kitB T "tuple" = some (isi T "tuple") := by
  cases k <;> exact ⟨by decide +kernel, by decide +kernel, by decide +kernel⟩
theorem rd_isi {B : List Addr} {K : PySem.W.Frag} {H : Hp} {v : V} {T n : String} {b : Bool} {Q : VK} (k : Kd B H v T) (e : kitB T n = some b) (q : Q (.bl b) H) : rIsi K [v, .ty n] H Q :=
  ⟨v, .ty n, .type T, .type n, b, rfl, .ty n, k.tyx, kit_ty e, q⟩
def isInt : V → Bool
  | .int _ => true
  | _ => false
def betw (lo hi : Int) : V → Bool
  | .int i => decide (lo ≤ i) && decide (i ≤ hi)
  | _ => false
theorem betw_not {lo hi : Int} {v : V} (h : isInt v = false) : betw lo hi v = false := by
  cases v with
  | int i => cases h
  | _ => rfl
section
variable {P : Program} {w : World} {K : PySem.W.Frag} {mg : Str → Option Value} {base : Heap} {A : Ad}
def spIsInt : Sp := fun vs H Q _ => ∃ (B : List Addr) (v : V) (Ty : String), vs = [v] ∧ Kd B H v Ty ∧ Q (.bl (isInt v)) H
theorem ok_is_int (T : Txt K mg A) : FnOk P w K mg base CX0 1 A.f_is_int A.d_is_int ["value"] spIsInt := by
  refine T.F_is_int.ok sc_is_int (fun vs H Q E h => ?_) (fun cdv A0 outer s H vs Q E hr h => ?_)
  · obtain ⟨B, v, Ty, rfl, _⟩ := h
    rfl
  · obtain ⟨B, v, Ty, rfl, hk, q⟩ := h
    obtain ⟨e1, e2, _⟩ := isi_ok hk
    refine ⟨_, (pss_one (ps_ret (pe_and (pe_callB call_isi (by rfl) T.m_isinstance (by decide +kernel) (pa_cons (pv 0) (pa_cons (pe_bltn (v := .ty "int") (by rfl) T.m_int (by decide +kernel) rfl) pa_nil))) (pe_one (pe_not (pe_callB call_isi (by rfl) T.m_isinstance (by decide +kernel) (pa_cons (pv 0) (pa_cons (pe_bltn (v := .ty "bool") (by rfl) T.m_bool (by decide +kernel) rfl) pa_nil)))))))), ?_⟩
    walk_at "rd"
    refine rd_isi hk e1 ?_
    cases hk <;> (walk_at "rd"; (first | exact q | (refine rd_isi (Kd.bl (B := B) _) e2 ?_; walk_at "rd"; exact q) | (refine rd_isi (Kd.int (B := B) _) e2 ?_; walk_at "rd"; exact q)))
def spBetween : Sp := fun vs H Q _ => ∃ (B : List Addr) (v : V) (Ty : String) (lo hi : Int), vs = [v, .int lo, .int hi] ∧ Kd B H v Ty ∧ Q (.bl (betw lo hi v)) H
theorem ok_is_between (T : Txt K mg A) : FnOk P w K mg base CX0 2 A.f_is_between A.d_is_between ["value", "least", "most"] spBetween := by
  have G_is_int : FnOk P w K mg base CX0 1 A.f_is_int A.d_is_int ["value"] spIsInt := ok_is_int T
  refine T.F_is_between.ok sc_is_between (fun vs H Q E h => ?_) (fun cdv A0 outer s H vs Q E hr h => ?_)
  · obtain ⟨B, v, Ty, lo, hi, rfl, _⟩ := h
    rfl
  · obtain ⟨B, v, Ty, lo, hi, rfl, hk, q⟩ := h
    refine ⟨_, (pss_one (ps_ret (pe_and (pe_call G_is_int (hr.mono (by decide)) (by rfl) T.g_is_int T.F_is_int.kp T.B_is_int .nil pass0 (pa_cons (pv 0) pa_nil)) (pe_one (pe_chain op_le op_le (pv 1) (pv 0) (pv 2)))))), ?_⟩
    walk_at "rd"
    refine ⟨B, v, Ty, rfl, hk, ?_⟩
    cases hk with
    | int i =>
      walk_at "rd"
      refine rd_2 (fun e => ?_) (fun e => ?_)
      · walk_at "rd"
        have e' : betw lo hi (.int i) = decide (i ≤ hi) := by
          show (decide (lo ≤ i) && decide (i ≤ hi)) = _
          rw [e, Bool.true_and]
        rw [e'] at q
        exact q
      · have e' : betw lo hi (.int i) = false := by
          show (decide (lo ≤ i) && decide (i ≤ hi)) = _
          rw [e, Bool.false_and]
        rw [e'] at q
        exact q
    | _ => (walk_at "rd"; exact q)
theorem rd_isiX {K : PySem.W.Frag} {H : Hp} {v : V} {T n : String} {b : Bool} {Q : VK} (k : TyX K H v (.type T)) (e : kitB T n = some b) (q : Q (.bl b) H) : rIsi K [v, .ty n] H Q :=
  ⟨v, .ty n, .type T, .type n, b, rfl, .ty n, k, kit_ty e, q⟩
theorem kit_tt : kitB "tuple" "tuple" = some true := by decide +kernel
theorem betw_col {i : Int} (h : Col i) : betw 0 1000000000 (.int i) = true := by
  obtain ⟨a, b⟩ := h
  show (decide (0 ≤ i) && decide (i ≤ 1000000000)) = true
  rw [decide_eq_true a, decide_eq_true b]
  rfl
def spColour : Sp := fun vs H Q _ => ∃ i : Int, vs = [.int i] ∧ Col i ∧ Q (.bl true) H
theorem ok_is_colour (T : Txt K mg A) : FnOk P w K mg base CX0 3 A.f_is_colour A.d_is_colour ["value"] spColour := by
  have G_is_between : FnOk P w K mg base CX0 2 A.f_is_between A.d_is_between ["value", "least", "most"] spBetween := ok_is_between T
  refine T.F_is_colour.ok sc_is_colour (fun vs H Q E h => ?_) (fun cdv A0 outer s H vs Q E hr h => ?_)
  · obtain ⟨i, rfl, _⟩ := h
    rfl
  · obtain ⟨i, rfl, c, q⟩ := h
    refine ⟨_, (pss_one (ps_ret (pe_call G_is_between (hr.mono (by decide)) (by rfl) T.g_is_between T.F_is_between.kp T.B_is_between .nil pass0 (pa_cons (pv 0) (pa_cons pe_int (pa_cons (pe_glob (v := .int (1000000000)) (by rfl) T.g_MOST_COLOUR ⟨_, rfl⟩) pa_nil)))))), ?_⟩
    walk_at "rd"
    refine ⟨[], _, _, _, _, rfl, .int i, ?_⟩
    rw [betw_col c]
    exact q
def spCheckC : Sp := fun vs H Q _ => ∃ i : Int, vs = [.int i] ∧ Col i ∧ Q .non H
theorem ok_check_colour (T : Txt K mg A) : FnOk P w K mg base CX0 4 A.f_check_colour A.d_check_colour ["value"] spCheckC := by
  have G_is_colour : FnOk P w K mg base CX0 3 A.f_is_colour A.d_is_colour ["value"] spColour := ok_is_colour T
  refine T.F_check_colour.ok sc_check_colour (fun vs H Q E h => ?_) (fun cdv A0 outer s H vs Q E hr h => ?_)
  · obtain ⟨i, rfl, _⟩ := h
    rfl
  · obtain ⟨i, rfl, c, q⟩ := h
    refine ⟨_, (pss_one (ps_if (pt_not (pt_val (pe_call G_is_colour (hr.mono (by decide)) (by rfl) T.g_is_colour T.F_is_colour.kp T.B_is_colour .nil pass0 (pa_cons (pv 0) pa_nil))))
        (pss_one Tb.ps_never)
        pss_nil)), ?_⟩
    walk_at "rd"
    refine ⟨i, rfl, c, ?_⟩
    walk_at "rd"
    exact q
def spPair : Sp := fun vs H Q _ => ∃ (t : Addr) (x y : Int), vs = [.ref t] ∧ H t = some (.tup [.int x, .int y]) ∧ Col x ∧ Col y ∧ Q (.bl true) H
theorem ok_is_pair (T : Txt K mg A) : FnOk P w K mg base CX0 4 A.f_is_pair A.d_is_pair ["value"] spPair := by
  have G_is_colour : FnOk P w K mg base CX0 3 A.f_is_colour A.d_is_colour ["value"] spColour := ok_is_colour T
  refine T.F_is_pair.ok sc_is_pair (fun vs H Q E h => ?_) (fun cdv A0 outer s H vs Q E hr h => ?_)
  · obtain ⟨t, x, y, rfl, _⟩ := h
    rfl
  · obtain ⟨t, x, y, rfl, ht, cx, cy, q⟩ := h
    refine ⟨_, (pss_one (ps_ret (pe_and (pe_callB call_isi (by rfl) T.m_isinstance (by decide +kernel) (pa_cons (pv 0) (pa_cons (pe_bltn (v := .ty "tuple") (by rfl) T.m_tuple (by decide +kernel) rfl) pa_nil))) (pe_and (pe_cmpR op_eq (pe_callB call_len_seq (by rfl) T.m_len PySem.boot_len (pa_cons (pv 0) pa_nil)) pe_int (nomark _)) (pe_and (pe_call G_is_colour (hr.mono (by decide)) (by rfl) T.g_is_colour T.F_is_colour.kp T.B_is_colour .nil pass0 (pa_cons (pe_ix ix_tup (pv 0) pe_int (fun _ _ => rfl)) pa_nil)) (pe_one (pe_call G_is_colour (hr.mono (by decide)) (by rfl) T.g_is_colour T.F_is_colour.kp T.B_is_colour .nil pass0 (pa_cons (pe_ix ix_tup (pv 0) pe_int (fun _ _ => rfl)) pa_nil)))))))), ?_⟩
    walk_at "rd"
    refine rd_isiX (.base (.tup ht)) kit_tt ?_
    walk_at "rd"
    refine ⟨t, _, rfl, .inr (.inl (.inl ht)), ?_⟩
    walk_at "rd"
    refine ⟨x, rfl, cx, ?_⟩
    walk_at "rd"
    exact ⟨y, rfl, cy, q⟩
end
section
variable {P : Program} {w : World} {K : PySem.W.Frag} {mg : Str → Option Value} {base : Heap} {A : Ad}
theorem zip_asc {a b D : Addr} {ts : List Addr} {L : Tb} {H : Hp} {Qd : Hp → Prop} (p : PT H a ts L) (asc : Asc L) (hb : SqT K H b ((ts.map V.ref).drop 1)) (nD : H D = none) (few : L.length ≤ 100)
    (hd : ∀ H', Same H H' → H' D = some (.lst ((List.replicate (ts.length - 1) true).map V.bl)) → Qd H') :
    ∃ W : Nat → Nat → Hp → Prop, (∃ m, W 0 m (upd H D (.lst []))) ∧ ∀ i m H, W i m H → ((ItzT K a b).stop i H ∧ Qd H) ∨ ((ItzT K a b).go i H ∧ ∃ Nx : Hp → Prop, (∀ H', Nx H' → ∃ m', m' < m ∧ W (i + 1) m' H') ∧
      ∀ x H', (ItzT K a b).yld i H x H' → gTup K 2 (gCons (gName 1) (gCons (gName 2) gNil)) x (wipe [some (.ref a), none, none] [1, 2]) H' fun σ2 H2 => wipe σ2 [1, 2] = wipe [some (.ref a), none, none] [1, 2] ∧ tYes σ2 H2 fun c H3 =>
        if c = true then tOp (rI0 fun i j => V.bl (decide (i < j))) (tOp (rIxT K) (tVar 1) (tC (V.int 0))) (tOp (rIxT K) (tVar 2) (tC (V.int 0))) σ2 H3 fun y H4 => ∃ acc, H4 D = some (.lst acc) ∧ acc.length < sizeLine ∧ Nx (upd H4 D (.lst (acc ++ [y]))) else Nx H3) := by
  have len := p.len
  refine lc_zT (xs := ts.map V.ref) (ys := (ts.map V.ref).drop 1) (by rw [List.length_drop]; omega) (fun i H' => Same H H' ∧ H' D = some (.lst ((List.replicate i true).map V.bl))) ⟨same_new nD, upd_same⟩ (fun i H' h => ⟨(p.same h.1).sq, same_sqT h.1 hb⟩) (fun i x y T H' hx hy h nT => ?_) (fun H' h => ?_)
  · obtain ⟨s1, hD⟩ := h
    rw [List.getElem?_map] at hx
    rw [List.getElem?_drop, List.getElem?_map] at hy
    obtain ⟨t, ht, rfl⟩ := Option.map_eq_some_iff.mp hx
    obtain ⟨u, hu, rfl⟩ := Option.map_eq_some_iff.mp hy
    have s2 : Same H (upd H' T (.tup [.ref t, .ref u])) := s1.trans (same_new nT)
    obtain ⟨r1, k1, e1⟩ := (p.same s2).row ht
    obtain ⟨r2, k2, e2⟩ := (p.same s2).row hu
    have lt : r1.1 < r2.1 := by
      obtain ⟨l1, g1⟩ := List.getElem?_eq_some_iff.mp k1
      obtain ⟨l2, g2⟩ := List.getElem?_eq_some_iff.mp k2
      rw [← g1, ← g2]
      exact List.pairwise_iff_getElem.mp asc i (1 + i) l1 l2 (by omega)
    have hD2 : upd H' T (.tup [.ref t, .ref u]) D = some (.lst ((List.replicate i true).map V.bl)) := (same_new nT) _ _ hD
    have hi : i < 100 := by
      have := (List.getElem?_eq_some_iff.mp ht).1
      omega
    refine ⟨T, _, rfl, .inl (.inl upd_same), rfl, _, _, rfl, _, _, rfl, rfl, rfl, ?_⟩
    walk_at "rd"
    refine ⟨_, hD2, small1000 (by rw [List.length_map, List.length_replicate]; omega), same_mut s2 nD, ?_⟩
    rw [upd_same, decide_eq_true lt, List.replicate_succ', List.map_append]
    rfl
  · rw [List.length_drop, List.length_map] at h
    exact hd H' h.1 h.2
def spIsPairs : Sp := fun vs H Q _ => ∃ (a : Addr) (ts : List Addr) (L : Tb), vs = [.ref a] ∧ PT H a ts L ∧ Good L ∧ L.length ≤ 100 ∧ ∀ H', Same H H' → Q (.bl true) H'
theorem ok_is_pairs (T : Txt K mg A) : FnOk P w K mg base CX0 5 A.f_is_pairs A.d_is_pairs ["value"] spIsPairs := by
  have G_is_pair : FnOk P w K mg base CX0 4 A.f_is_pair A.d_is_pair ["value"] spPair := ok_is_pair T
  refine T.F_is_pairs.ok sc_is_pairs (fun vs H Q E h => ?_) (fun cdv A0 outer s H vs Q E hr h => ?_)
  · obtain ⟨a, ts, L, rfl, _⟩ := h
    rfl
  · obtain ⟨a, ts, L, rfl, p, ⟨asc, good⟩, few, q⟩ := h
    have len := p.len
    refine ⟨_, (pss_cons (ps_if (pw_or (pt_not (pt_val (pe_callB call_isi (by rfl) T.m_isinstance (by decide +kernel) (pa_cons (pv 0) (pa_cons (pe_bltn (v := .ty "tuple") (by rfl) T.m_tuple (by decide +kernel) rfl) pa_nil))))) (pw_or1 (pt_not (pt_val (pe_callB (cr_all rfl) (by rfl) T.m_all (by decide +kernel) (pa_cons (pe_lc (own := [("pair", 1)]) rfl sc_is_pairs.nd (pi_tup (pv 0)) (blkOk_by (N := N_is_pairs) (sc := defScope s_is_pairs) (by decide +kernel)) (fun _ _ _ _ _ => (pg_name (i := 1) sc_is_pairs.nd rfl (.inl rfl))) (fun _ _ _ _ _ => pts_nil) (fun _ _ _ _ _ => (pe_call G_is_pair (hr.mono (by decide)) (by rfl) T.g_is_pair T.F_is_pair.kp T.B_is_pair .nil pass0 (pa_cons (pv 1) pa_nil)))) pa_nil)))))).pt
        (pss_one (ps_ret pe_bl))
        pss_nil)
      (pss_one (ps_ret (pe_callB (cr_all rfl) (by rfl) T.m_all (by decide +kernel) (pa_cons (pe_lc (own := [("pair", 1), ("later", 2)]) rfl sc_is_pairs.nd (pi_zipA (by rfl) T.m_zip (pa_cons (pv 0) (pa_cons (pe_slice sl_tupA (pv 0) (po_some pe_int) po_none) pa_nil))) (blkOk_by (N := N_is_pairs) (sc := defScope s_is_pairs) (by decide +kernel)) (fun _ _ _ _ _ => (Tb.pg_tupK (K := K) (n := 2) rfl rfl (pgs_cons (pg_name (i := 1) sc_is_pairs.nd rfl (.inl rfl)) (pgs_cons (pg_name (i := 2) sc_is_pairs.nd rfl (.inl rfl)) pgs_nil)))) (fun _ _ _ _ _ => pts_nil) (fun _ _ _ _ _ => (pe_cmpR op_lt (pe_ix (Tb.ix_tupK (K := K) rfl) (pv 1) pe_int (fun _ _ => rfl)) (pe_ix (Tb.ix_tupK (K := K) rfl) (pv 2) pe_int (fun _ _ => rfl)) (nomark _)))) pa_nil))))), ?_⟩
    walk_at "rd"
    refine rd_isiX (.fTuple p.at'.choose_spec.2) kit_tt ?_
    walk_at "rd"
    refine ⟨.ref a, rfl, a, rfl, ⟨_, p.sq⟩, fun D nD => ?_⟩
    refine lcq_tup (ys := List.replicate ts.length (.bl true)) nD p.sq (by simp) (by simp; omega) (fun i x y H1 R hx hy s1 r => ?_) (fun H1 s1 hD => ?_)
    · rw [List.getElem?_map] at hx
      obtain ⟨t, ht, rfl⟩ := Option.map_eq_some_iff.mp hx
      obtain ⟨rw', hrw, hrow⟩ := (p.same s1).row ht
      obtain ⟨rfl⟩ : y = .bl true := List.eq_of_mem_replicate (List.mem_of_getElem? hy)
      have g := good rw' (List.mem_of_getElem? hrw)
      walk_at "rd"
      exact ⟨t, rw'.1, rw'.2, rfl, hrow, g.1, g.2, r _ (Same.refl _)⟩
    · have hD' : H1 D = some (.lst ((List.replicate ts.length true).map V.bl)) := by rw [List.map_replicate]; exact hD
      refine ⟨D, _, rfl, .inl (.inl hD'), ?_⟩
      rw [all_rep]
      walk_at "rd"
      have p1 := p.same s1
      refine ⟨.ref a, rfl, .ref a, rfl, 1, rfl, a, _, rfl, p1.sq, fun e => ?_, fun e r nr => ?_⟩
      · have z : ts.map V.ref = (ts.map V.ref).drop 1 := by
          have e2 : HT.sIx (ts.map V.ref).length 0 (some ((1 : Nat) : Int)) = 0 := e.1
          rw [HT.sIx_nat] at e2
          have : (ts.map V.ref).length = 0 := by omega
          rw [List.eq_nil_of_length_eq_zero this]
          rfl
        refine ⟨a, a, _, _, rfl, .inr ⟨p1.sq, p1.sq, fun D2 n2 => zip_asc p1 asc (by rw [← z]; exact p1.sq) n2 few fun H2 s2 h2 => ?_⟩⟩
        refine ⟨D2, _, rfl, .inl (.inl h2), ?_⟩
        rw [all_rep]
        exact q _ (s1.trans s2)
      · rw [cut1]
        have p2 := p1.same (same_new (o := .tup ((ts.map V.ref).drop 1)) nr)
        refine ⟨a, r, _, _, rfl, .inr ⟨p2.sq, .inl (.inl upd_same), fun D2 n2 => zip_asc p2 asc (.inl (.inl upd_same)) n2 few fun H2 s2 h2 => ?_⟩⟩
        refine ⟨D2, _, rfl, .inl (.inl h2), ?_⟩
        rw [all_rep]
        exact q _ (s1.trans ((same_new nr).trans s2))
def spCheckP : Sp := fun vs H Q _ => ∃ (a : Addr) (ts : List Addr) (L : Tb), vs = [.ref a] ∧ PT H a ts L ∧ Good L ∧ L.length ≤ 100 ∧ ∀ H', Same H H' → Q .non H'
theorem ok_check_pairs (T : Txt K mg A) : FnOk P w K mg base CX0 6 A.f_check_pairs A.d_check_pairs ["value"] spCheckP := by
  have G_is_pairs : FnOk P w K mg base CX0 5 A.f_is_pairs A.d_is_pairs ["value"] spIsPairs := ok_is_pairs T
  refine T.F_check_pairs.ok sc_check_pairs (fun vs H Q E h => ?_) (fun cdv A0 outer s H vs Q E hr h => ?_)
  · obtain ⟨a, ts, L, rfl, _⟩ := h
    rfl
  · obtain ⟨a, ts, L, rfl, p, g, few, q⟩ := h
    refine ⟨_, (pss_one (ps_if (pt_not (pt_val (pe_call G_is_pairs (hr.mono (by decide)) (by rfl) T.g_is_pairs T.F_is_pairs.kp T.B_is_pairs .nil pass0 (pa_cons (pv 0) pa_nil))))
        (pss_one Tb.ps_never)
        pss_nil)), ?_⟩
    walk_at "rd"
    refine ⟨a, ts, L, rfl, p, g, few, fun H1 s1 => ?_⟩
    walk_at "rd"
    exact q _ s1
def spRecol : Sp := fun vs H Q _ => ∃ (c : Int) (a : Addr) (ts : List Addr) (L : Tb), vs = [.int c, .ref a] ∧ Col c ∧ PT H a ts L ∧ Good L ∧ L.length ≤ 100 ∧ ∀ H', Same H H' → Q (.int (look L c)) H'
theorem ok_recoloured (T : Txt K mg A) : FnOk P w K mg base CX0 7 A.f_recoloured A.d_recoloured ["colour", "pairs"] spRecol := by
  have G_check_colour : FnOk P w K mg base CX0 4 A.f_check_colour A.d_check_colour ["value"] spCheckC := ok_check_colour T
  have G_check_pairs : FnOk P w K mg base CX0 6 A.f_check_pairs A.d_check_pairs ["value"] spCheckP := ok_check_pairs T
  refine T.F_recoloured.ok sc_recoloured (fun vs H Q E h => ?_) (fun cdv A0 outer s H vs Q E hr h => ?_)
  · obtain ⟨c, a, ts, L, rfl, _⟩ := h
    rfl
  · obtain ⟨c, a, ts, L, rfl, hc, p, g, few, q⟩ := h
    have hu64 := room64 hr
    refine ⟨_, (pss_cons (ps_expr (pe_call G_check_colour (hr.mono (by decide)) (by rfl) T.g_check_colour T.F_check_colour.kp T.B_check_colour .nil pass0 (pa_cons (pv 0) pa_nil)))
      (pss_cons (ps_expr (pe_call G_check_pairs (hr.mono (by decide)) (by rfl) T.g_check_pairs T.F_check_pairs.kp T.B_check_pairs .nil pass0 (pa_cons (pv 1) pa_nil)))
      (pss_one (ps_ret (pe_dget2 (Nat.lt_of_le_of_lt (Nat.add_le_add_left (by decide) _) hu64) (pe_callTy (Tb.call_dictT rfl) (by rfl) T.m_dict (by decide +kernel) (pa_cons (pv 1) pa_nil)) (pv 0) (pv 0) ⟨by rfl, by rfl, by rfl, by rfl⟩))))), ?_⟩
    walk_at "rd"
    refine ⟨c, rfl, hc, ?_⟩
    walk_at "rd"
    refine ⟨a, ts, L, rfl, p, g, few, fun H1 s1 => ?_⟩
    walk_at "rd"
    have p1 := p.same s1
    obtain ⟨o, od, ha⟩ := p1.at'
    refine ⟨_, rfl, a, o, ts, kvT L, rfl, od, ha, prd_sq p1.rows, fun d nd => ⟨d, rfl, .inl ⟨_, .inl upd_same⟩, .int c, rfl, .int c, rfl, ?_⟩⟩
    refine ⟨_, DGet.k (k := .inl c) upd_same, ?_⟩
    rw [dict_look g.1]
    exact q _ (s1.trans (same_new nd))
end
section
variable {P : Program} {w : World} {K : PySem.W.Frag} {mg : Str → Option Value} {base : Heap} {A : Ad}
abbrev both (L M : Tb) : Int → Int := fun c => look M (look L c)
def spComb : Sp := fun vs H Q _ => ∃ (a b : Addr) (ts us : List Addr) (L M : Tb), vs = [.ref a, .ref b] ∧ PT H a ts L ∧ PT H b us M ∧ Good L ∧ Good M ∧ L.length ≤ 20 ∧ M.length ≤ 20 ∧
  ∀ H' r (vs : List Addr) (ns : List Int), Same H H' → ns.Pairwise (· < ·) → (∀ c, c ∈ ns ↔ ∃ p ∈ L ++ M, p.1 = c) → ns.length ≤ 40 → PT H' r vs (comb (both L M) ns) → Q (.ref r) H'
theorem ok_combined (T : Txt K mg A) : FnOk P w K mg base CX0 7 A.f_combined A.d_combined ["pairs", "other_pairs"] spComb := by
  have G_check_pairs : FnOk P w K mg base CX0 6 A.f_check_pairs A.d_check_pairs ["value"] spCheckP := ok_check_pairs T
  refine T.F_combined.ok sc_combined (fun vs H Q E h => ?_) (fun cdv A0 outer s H vs Q E hr h => ?_)
  · obtain ⟨a, b, ts, us, L, M, rfl, _⟩ := h
    rfl
  · obtain ⟨a, b, ts, us, L, M, rfl, p, r, g, kM, few, few', q⟩ := h
    have hu64 := room64 hr
    refine ⟨_, (pss_cons (ps_expr (pe_call G_check_pairs (hr.mono (by decide)) (by rfl) T.g_check_pairs T.F_check_pairs.kp T.B_check_pairs .nil pass0 (pa_cons (pv 0) pa_nil)))
      (pss_cons (ps_expr (pe_call G_check_pairs (hr.mono (by decide)) (by rfl) T.g_check_pairs T.F_check_pairs.kp T.B_check_pairs .nil pass0 (pa_cons (pv 1) pa_nil)))
      (pss_cons (ps_set (i := 2) sc_combined.nd rfl (.inl rfl) (pe_callTy (Tb.call_dictT rfl) (by rfl) T.m_dict (by decide +kernel) (pa_cons (pv 0) pa_nil)))
      (pss_cons (ps_set (i := 3) sc_combined.nd rfl (.inl rfl) (pe_callTy (Tb.call_dictT rfl) (by rfl) T.m_dict (by decide +kernel) (pa_cons (pv 1) pa_nil)))
      (pss_cons (ps_set (i := 4) sc_combined.nd rfl (.inl rfl) (pe_lst pa_nil))
      (pss_cons (ps_for PassesOwn.never rfl (pi_list (pe_callB (cr_sortedSet rfl) (by rfl) T.m_sorted (by decide +kernel) (pa_cons (Tb.pe_sci (own := [("pair", 8)]) rfl sc_combined.nd (pi_tup (pe_op op_catA (pv 0) (pv 1))) (blkOk_by (N := N_combined) (sc := defScope s_combined) (by decide +kernel)) (fun _ _ _ _ _ => (pg_name (i := 8) sc_combined.nd rfl (.inl rfl))) (fun _ _ _ _ _ => pts_nil) (fun _ _ _ _ _ => (pe_ix (Tb.ix_tupK (K := K) rfl) (pv 8) pe_int (fun _ _ => rfl)))) pa_nil))) (pg_name (i := 5) sc_combined.nd rfl (.inl rfl))
        (pss_cons (ps_set (i := 6) sc_combined.nd rfl (.inl rfl) (pe_dget2 (Nat.lt_of_le_of_lt (Nat.add_le_add_left (by decide) _) hu64) (pv 2) (pv 5) (pv 5) ⟨by rfl, by rfl, by rfl, by rfl⟩))
        (pss_cons (ps_set (i := 7) sc_combined.nd rfl (.inl rfl) (pe_dget2 (Nat.lt_of_le_of_lt (Nat.add_le_add_left (by decide) _) hu64) (pv 3) (pv 6) (pv 6) ⟨by rfl, by rfl, by rfl, by rfl⟩))
        (pss_one (ps_if (pt_cmpR op_ne (pv 7) (pv 5) (nomark _))
          (pss_one (ps_expr (pe_bm PySem.F.plainAttrs_list PySem.F.slot_list_append PySem.F.type_list_append mt_append (pv 4) (pa_cons (pe_tup (pa_cons (pv 5) (pa_cons (pv 7) pa_nil))) pa_nil))))
          pss_nil)))))
      (pss_one (ps_ret (pe_callTy Tb.call_tupleF (by rfl) T.m_tuple (by decide +kernel) (pa_cons (pv 4) pa_nil)))))))))), ?_⟩
    walk_at "rd"
    refine ⟨a, ts, L, rfl, p, g, by omega, fun H1 s1 => ?_⟩
    walk_at "rd"
    refine ⟨b, us, M, rfl, r.same s1, kM, by omega, fun H2 s2 => ?_⟩
    walk_at "rd"
    have s12 := s1.trans s2
    obtain ⟨o, od, ha⟩ := (p.same s12).at'
    refine ⟨a, o, ts, kvT L, rfl, od, ha, prd_sq (p.same s12).rows, fun d nd => ?_⟩
    walk_at "rd"
    have s3 := s12.trans (same_new (o := .dK (mergeK [] (kvT L))) nd)
    obtain ⟨o', od', hb⟩ := (r.same s3).at'
    refine ⟨b, o', us, kvT M, rfl, od', hb, prd_sq (r.same s3).rows, fun e ne => ?_⟩
    walk_at "rd"
    refine ⟨le_line (by decide), fun l nl => ?_⟩
    walk_at "rd"
    have s4 := s3.trans ((same_new (o := .dK (mergeK [] (kvT M))) ne).trans (same_new (o := .lst []) nl))
    have hd0 : upd (upd (upd H2 d (.dK (mergeK [] (kvT L)))) e (.dK (mergeK [] (kvT M)))) l (.lst []) d = some (.dK (mergeK [] (kvT L))) := (same_new nl) _ _ ((same_new ne) _ _ upd_same)
    have he0 : upd (upd (upd H2 d (.dK (mergeK [] (kvT L)))) e (.dK (mergeK [] (kvT M)))) l (.lst []) e = some (.dK (mergeK [] (kvT M))) := (same_new nl) _ _ upd_same
    have hl0 : upd (upd (upd H2 d (.dK (mergeK [] (kvT L)))) e (.dK (mergeK [] (kvT M)))) l (.lst []) l = some (.lst []) := upd_same
    have lH : H l = none := (s3.trans (same_new (o := .dK (mergeK [] (kvT M))) ne)).free nl
    generalize upd (upd (upd H2 d (.dK (mergeK [] (kvT L)))) e (.dK (mergeK [] (kvT M)))) l (.lst []) = H4 at s4 hd0 he0 hl0 ⊢
    refine ⟨.ref a, rfl, .ref b, rfl, cat_ok (p.same s4) (r.same s4) (by omega) fun H5 c s5 sq rows => ⟨c, rfl, ⟨_, sq⟩, fun D nD => keys_ok (show 8 < 9 by decide) sq rows (by rw [List.length_append]; omega) nD fun H6 S n s6 hD hS hn => ?_⟩⟩
    refine ⟨D, S, n, rfl, hD, by rw [List.length_append] at hn; omega, fun ns v asc mem nn nv => ?_⟩
    have mem' : ∀ c, c ∈ ns ↔ ∃ p ∈ L ++ M, p.1 = c := fun c => (mem c).trans (hS c)
    have n40 : ns.length ≤ 40 := by rw [List.length_append] at hn; omega
    have s56 := s5.trans s6
    have s7 := s4.trans (s56.trans (same_new (o := .lst (ns.map V.int)) nv))
    have nvl : v ≠ l := fun z => by
      have := s56 _ _ hl0
      rw [← z, nv] at this
      cases this
    refine ⟨v, rfl, ⟨_, .inl (.inl upd_same)⟩, ?_⟩
    refine for_list (xs := ns.map V.int) (fun i σ H' => ∃ y5 y6 y7 rs, σ = [some (.ref a), some (.ref b), some (.ref d), some (.ref e), some (.ref l), y5, y6, y7, none] ∧ Same H H' ∧ H' v = some (.lst (ns.map V.int)) ∧ H' d = some (.dK (mergeK [] (kvT L))) ∧ H' e = some (.dK (mergeK [] (kvT M))) ∧
        H' l = some (.lst (rs.map V.ref)) ∧ Paired (Rw H') rs (comb (both L M) (ns.take i)))
      ⟨none, none, none, [], rfl, s7, upd_same, (same_new nv) _ _ (s56 _ _ hd0), (same_new nv) _ _ (s56 _ _ he0), (same_new nv) _ _ (s56 _ _ hl0), .nil⟩ (fun i σ H' _ h => ?_) (fun i x σ H' hx h => ?_) (fun σ H' h => ?_)
    · obtain ⟨y5, y6, y7, rs, rfl, _, hv, _⟩ := h
      exact .inl (.inl hv)
    · obtain ⟨y5, y6, y7, rs, rfl, sH, hv, hd, he, hl, hrs⟩ := h
      rw [List.getElem?_map] at hx
      obtain ⟨k, hk, rfl⟩ := Option.map_eq_some_iff.mp hx
      have hi : i < ns.length := (List.getElem?_eq_some_iff.mp hk).1
      walk_at "rd"
      refine ⟨.ref d, rfl, d, rfl, .inl ⟨_, .inl hd⟩, .int k, rfl, .int k, rfl, _, DGet.k (k := .inl k) hd, ?_⟩
      rw [dict_look g.1]
      walk_at "rd"
      refine ⟨.ref e, rfl, e, rfl, .inl ⟨_, .inl he⟩, .int (look L k), rfl, .int (look L k), rfl, _, DGet.k (k := .inl (look L k)) he, ?_⟩
      rw [dict_look kM.1]
      walk_at "rd"
      have tk : ns.take (i + 1) = ns.take i ++ [k] := by rw [List.take_add_one, hk]; rfl
      refine rd_2 (fun ec => ?_) (fun ec => ?_)
      · have ne' : both L M k ≠ k := fun z => by
          rw [show look M (look L k) = k from z, decide_eq_true rfl] at ec
          cases ec
        walk_at "rd"
        refine ⟨.inl ⟨rfl, _, .inl (.inl hl)⟩, ?_⟩
        walk_at "rd"
        refine ⟨le_line (Nat.le_of_ble_eq_true rfl), fun t nt => ?_⟩
        walk_at "rd"
        have st := same_new (o := .tup [.int k, .int (look M (look L k))]) nt
        have lt : rs.length ≤ 40 := by
          have e1 := prd_len hrs
          have e2 : (comb (both L M) (ns.take i)).length ≤ (ns.take i).length := by
            unfold comb
            rw [List.length_map]
            exact List.length_filter_le _ _
          rw [List.length_take] at e2
          omega
        have nl1 : ∀ b u, H' b = some u → (∀ zs, u ≠ .lst zs) → upd (upd H' t (.tup [.int k, .int (look M (look L k))])) l (.lst (rs.map V.ref ++ [.ref t])) b = some u := fun b u hb z => (upd_ne (fun y => by rw [y, hl] at hb; exact z _ (Option.some.inj hb).symm)).trans (st _ _ hb)
        refine ⟨l, _, _, rfl, rfl, st _ _ hl, small1000 (by rw [List.length_map]; omega), ?_⟩
        walk_at "rd"
        refine ⟨_, _, _, rs ++ [t], rfl, same_mut (sH.trans st) lH, (upd_ne nvl).trans (st _ _ hv), nl1 _ _ hd (fun zs z => by cases z), nl1 _ _ he (fun zs z => by cases z), by rw [upd_same, List.map_append]; rfl, ?_⟩
        have e3 : comb (both L M) (ns.take (i + 1)) = comb (both L M) (ns.take i) ++ [(k, both L M k)] := by
          unfold comb
          rw [tk, List.filter_append, List.map_append, List.filter_cons_of_pos (by exact decide_eq_true ne')]
          rfl
        rw [e3]
        refine prd_app (prd_but nl1 hrs) (.cons ?_ .nil)
        have tl : t ≠ l := fun z => by rw [z, hl] at nt; cases nt
        exact (upd_ne tl).trans upd_same
      · have eq' : both L M k = k := by
          by_cases z : both L M k = k
          · exact z
          · rw [decide_eq_false (show ¬ V.int (look M (look L k)) = V.int k from fun y => z (V.int.inj y))] at ec
            cases ec
        walk_at "rd"
        refine ⟨_, _, _, rs, rfl, sH, hv, hd, he, hl, ?_⟩
        have e3 : comb (both L M) (ns.take (i + 1)) = comb (both L M) (ns.take i) := by
          unfold comb
          rw [tk, List.filter_append, List.filter_cons_of_neg (by simp [eq'])]
          simp
        rw [e3]
        exact hrs
    · obtain ⟨y5, y6, y7, rs, rfl, sH, hv, hd, he, hl, hrs⟩ := h
      rw [List.length_map, List.take_length] at hrs
      walk_at "rd"
      refine ⟨l, _, rfl, .inl (.inl hl), fun m o nm od => ?_⟩
      exact q _ m rs ns (sH.trans (same_new nm)) asc mem' n40 ⟨⟨o, od, upd_same⟩, prd_same (same_new nm) hrs⟩
def spTurned : Sp := fun vs H Q _ => ∃ (c : Int) (a : Addr) (ts : List Addr) (L : Tb), vs = [.int c, .ref a] ∧ PT H a ts L ∧ Q (.int (look L c)) H
theorem ok_turned (T : Txt K mg A) : FnOk P w K mg base CX0 1 A.f_turned A.d_turned ["_law_hue", "_law_rows"] spTurned := by
  refine T.F_turned.ok sc_turned (fun vs H Q E h => ?_) (fun cdv A0 outer s H vs Q E hr h => ?_)
  · obtain ⟨c, a, ts, L, rfl, _⟩ := h
    rfl
  · obtain ⟨c, a, ts, L, rfl, p, q⟩ := h
    refine ⟨_, (pss_cons (ps_for PassesOwn.never rfl (pi_tup (pv 1)) (pg_tup rfl (pgs_cons (pg_name (i := 2) sc_turned.nd rfl (.inl rfl)) (pgs_cons (pg_name (i := 3) sc_turned.nd rfl (.inl rfl)) pgs_nil)))
        (pss_one (ps_if (pt_cmpR op_eq (pv 2) (pv 0) (nomark _))
          (pss_one (ps_ret (pv 3)))
          pss_nil)))
      (pss_one (ps_ret (pv 0)))), ?_⟩
    walk_at "rd"
    refine ⟨.ref a, rfl, a, rfl, ⟨_, p.sq⟩, ?_⟩
    refine for_tup (xs := ts.map V.ref) (fun i σ H' => ∃ y2 y3, σ = [some (.int c), some (.ref a), y2, y3] ∧ H' = H ∧ ∀ r ∈ L.take i, r.1 ≠ c) ⟨none, none, rfl, rfl, by simp⟩ (fun i σ H' _ h => ?_) (fun i x σ H' hx h => ?_) (fun σ H' h => ?_)
    · obtain ⟨y2, y3, rfl, rfl, _⟩ := h
      exact p.sq
    · obtain ⟨y2, y3, rfl, rfl, no⟩ := h
      rw [List.getElem?_map] at hx
      obtain ⟨t, ht, rfl⟩ := Option.map_eq_some_iff.mp hx
      obtain ⟨r, hr', e⟩ := p.row ht
      refine ⟨t, _, rfl, .inl (.inl e), rfl, _, _, rfl, _, _, rfl, rfl, ?_⟩
      walk_at "rd"
      refine rd_2 (fun ec => ?_) (fun ec => ?_)
      · walk_at "rd"
        rw [look_at hr' (V.int.inj (of_decide_eq_true ec)) no] at q
        exact q
      · walk_at "rd"
        refine ⟨_, _, rfl, rfl, fun z m => ?_⟩
        rw [List.take_add_one, hr'] at m
        rcases List.mem_append.mp m with m | m
        · exact no z m
        · have : z = r := by simpa using m
          rw [this]
          exact fun y => of_decide_eq_false ec (by rw [y])
    · obtain ⟨y2, y3, rfl, rfl, no⟩ := h
      rw [List.length_map, p.len, List.take_length] at no
      walk_at "rd"
      rw [look_out no] at q
      exact q
end
section
variable {P : Program} {w : World} {K : PySem.W.Frag} {mg : Str → Option Value} {base : Heap} {A : Ad}
theorem in_ints (o : Int) (os : List Int) : inV (.int o) (os.map V.int) = decide (o ∈ os) := by
  induction os with
  | nil => rfl
  | cons a os ih =>
    show (eqV (.int a) (.int o) || inV (.int o) (os.map V.int)) = _
    rw [ih]
    by_cases e : a = o
    · subst e
      have : eqV (.int a) (.int a) = true := by simp [eqV]
      rw [this, Bool.true_or, decide_eq_true (List.mem_cons_self ..)]
    · have : eqV (.int a) (.int o) = false := by simp [eqV, e]
      rw [this, Bool.false_or]
      have : (o ∈ a :: os) ↔ o ∈ os := by
        rw [List.mem_cons]
        exact ⟨fun z => z.resolve_left fun y => e y.symm, .inr⟩
      simp only [this]
theorem flat_ints (os : List Int) : (os.map V.int).all flatV = true := by
  rw [List.all_map]
  exact List.all_eq_true.mpr fun _ _ => rfl
theorem lt_nd : ∀ {l : List Int}, l.Pairwise (· ≤ ·) → l.Nodup → l.Pairwise (· < ·) := fun {l} h n => (h.and n).imp fun {a b} z => by
  have := z.2
  have := z.1
  omega
def spPairs : Sp := fun vs H Q _ => ∃ (p : Addr) (m f : Int), vs = [.ref p, .int m, .int f] ∧ Pool H p ∧ 0 ≤ m ∧ m ≤ 20 ∧ 0 < f ∧ f ≤ 1000000000 ∧
  ∀ H' a ts L, But [p] H H' → Pool H' p → PT H' a ts L → Good L → L.length ≤ m.toNat → Q (.ref a) H'
theorem ok_pairs (T : Txt K mg A) : FnOk P w K mg base CX0 2 A.f_pairs A.d_pairs ["_law_pool_here", "_law_most", "_law_far"] spPairs := by
  have G_draw : FnOk P w K mg base CX0 1 A.f_draw A.d_draw ["_law_pool_here", "_law_many"] spDraw := ok_draw T
  refine T.F_pairs.ok sc_pairs (fun vs H Q E h => ?_) (fun cdv A0 outer s H vs Q E hr h => ?_)
  · obtain ⟨p, m, f, rfl, _⟩ := h
    rfl
  · obtain ⟨p, m, f, rfl, hP, m0, m1, f0, f1, q⟩ := h
    refine ⟨_, (pss_cons (ps_set (i := 3) sc_pairs.nd rfl (.inl rfl) (pe_lst pa_nil))
      (pss_cons (ps_for PassesOwn.never rfl (pi_range1 (by rfl) T.m_range (pa_cons (pe_call G_draw (hr.mono (by decide)) (by rfl) T.g_draw T.F_draw.kp T.B_draw .nil pass0 (pa_cons (pv 0) (pa_cons (pe_op op_add (pv 1) pe_int) pa_nil))) pa_nil)) (pg_name (i := 4) sc_pairs.nd rfl (.inl rfl))
        (pss_cons (ps_set (i := 5) sc_pairs.nd rfl (.inl rfl) (pe_call G_draw (hr.mono (by decide)) (by rfl) T.g_draw T.F_draw.kp T.B_draw .nil pass0 (pa_cons (pv 0) (pa_cons (pv 2) pa_nil))))
        (pss_one (ps_set (i := 3) sc_pairs.nd rfl (.inl rfl) (pe_ifExp (pt_cmpR op_in_seq (pv 5) (pv 3) (by with_unfolding_all rfl)) (pv 3) (pe_op op_cat (pv 3) (pe_lst (pa_cons (pv 5) pa_nil))))))))
      (pss_one (ps_ret (pe_callTy Tb.call_tupleF (by rfl) T.m_tuple (by decide +kernel) (pa_cons (pe_lc (own := [("_law_old", 5)]) rfl sc_pairs.nd (pi_list (pe_callB cr_sortedI (by rfl) T.m_sorted (by decide +kernel) (pa_cons (pv 3) pa_nil))) (blkOk_by (N := N_pairs) (sc := defScope s_pairs) (by decide +kernel)) (fun _ _ _ _ _ => (pg_name (i := 5) sc_pairs.nd rfl (.inl rfl))) (fun _ _ _ _ _ => pts_nil) (fun _ _ _ _ _ => (pe_tup (pa_cons (pv 5) (pa_cons (pe_call G_draw (hr.mono (by decide)) (by rfl) T.g_draw T.F_draw.kp T.B_draw .nil pass0 (pa_cons (pv 0) (pa_cons (pv 2) pa_nil))) pa_nil))))) pa_nil)))))), ?_⟩
    walk_at "rd"
    refine ⟨le_line (Nat.zero_le _), fun l nl => ?_⟩
    walk_at "rd"
    have pl : p ≠ l := fun z => hP.ne nl z.symm
    refine ⟨.ref p, rfl, .int m, rfl, m, 1, rfl, rfl, p, m + 1, rfl, hP.new nl, by omega, by omega, fun r H1 r0 r1 b1 p1 => ⟨r, rfl, by omega, by omega, ?_⟩⟩
    have hl1 : H1 l = some (.lst (([] : List Int).map V.int)) := b1 _ _ (fun z => pl (List.mem_singleton.mp z).symm) upd_same
    have b01 : But [p] H H1 := (But.new .refl nl).trans b1
    refine for_range (fun i σ H' => ∃ l y4 y5 os, σ = [some (.ref p), some (.int m), some (.int f), some (.ref l), y4, y5] ∧ But [p] H H' ∧ Pool H' p ∧ H' l = some (.lst ((os : List Int).map V.int)) ∧ l ≠ p ∧ os.Nodup ∧ (∀ o ∈ os, 0 ≤ o ∧ o < f) ∧ os.length ≤ i)
      ⟨l, none, none, [], rfl, b01, p1, hl1, pl.symm, .nil, by simp, Nat.le_refl _⟩ (fun i σ H2 hi h => ?_) (fun σ H2 h => ?_)
    · obtain ⟨l, y4, y5, os, rfl, b2, p2, hl, lp, nd, in', few⟩ := h
      walk_at "rd"
      refine ⟨p, f, rfl, p2, f0, by omega, fun o H3 o0 o1 b3 p3 => ?_⟩
      have hl3 := b3 _ _ (fun z => lp (List.mem_singleton.mp z)) hl
      have b23 := b2.trans b3
      walk_at "rd"
      refine ⟨l, _, rfl, .inl (.inl (.inl hl3)), rfl, flat_ints os, ⟨_, rfl, ?_⟩⟩
      rw [show (if false = true then !inV (.int o) (os.map V.int) else inV (.int o) (os.map V.int)) = decide (o ∈ os) from in_ints o os]
      refine rd_2 (fun ec => ?_) (fun ec => ?_)
      · walk_at "rd"
        exact ⟨l, _, _, os, rfl, b23, p3, hl3, lp, nd, in', by omega⟩
      · walk_at "rd"
        refine ⟨le_line (Nat.le_of_ble_eq_true rfl), fun b nb => ?_⟩
        walk_at "rd"
        refine ⟨l, b, os.map V.int, [.int o], rfl, rfl, (same_new nb) _ _ hl3, upd_same, le_line (by rw [List.length_map]; show os.length + 1 ≤ 1000; omega), fun c nc => ?_⟩
        walk_at "rd"
        have p3' := p3.new nb (o := .lst [.int o])
        refine ⟨c, _, _, os ++ [o], rfl, (b23.new nb).new nc, p3'.new nc, by rw [upd_same, List.map_append]; rfl, p3'.ne nc, ?_, fun z m => ?_, by rw [List.length_append]; show os.length + 1 ≤ i + 1; omega⟩
        · refine List.nodup_append.mpr ⟨nd, by simp, fun x mx y my e => ?_⟩
          have : y = o := by simpa using my
          exact of_decide_eq_false ec (this ▸ e ▸ mx)
        · rcases List.mem_append.mp m with m | m
          · exact in' z m
          · have : z = o := by simpa using m
            rw [this]
            exact ⟨o0, o1⟩
    · obtain ⟨l, y4, y5, os, rfl, b2, p2, hl, lp, nd, in', few⟩ := h
      walk_at "rd"
      refine ⟨.ref l, rfl, l, os, rfl, .inl (.inl hl), fun ns s perm srt nS => ⟨s, rfl, ⟨_, .inl (.inl upd_same)⟩, fun D nD => ?_⟩⟩
      have sp : s ≠ p := p2.ne nS
      have p2' := p2.new nS (o := .lst (ns.map V.int))
      have Dp : D ≠ p := p2'.ne nD
      have sD : s ≠ D := fun z => by rw [← z, upd_same] at nD; cases nD
      have lt := lt_nd srt (perm.nodup_iff.mpr nd)
      have len : ns.length ≤ 21 := by
        have := perm.length_eq
        omega
      refine lc_list (xs := ns.map V.int) (fun i H' => ∃ ts L, But [p] H H' ∧ Pool H' p ∧ H' s = some (.lst (ns.map V.int)) ∧ H' D = some (.lst ((ts : List Addr).map V.ref)) ∧ Paired (Rw H') ts L ∧ L.map (·.1) = ns.take i ∧ ∀ r ∈ L, 0 ≤ r.2 ∧ r.2 < f)
        ⟨[], [], (b2.new nS).new nD, p2'.new nD, (same_new nD) _ _ upd_same, upd_same, .nil, rfl, by simp⟩ (fun i H' _ h => ?_) (fun i x H' hx h => ⟨rfl, ?_⟩) (fun H' h => ?_)
      · obtain ⟨ts, L, _, _, hs, _⟩ := h
        exact .inl (.inl hs)
      · obtain ⟨ts, L, b3, p3, hs, hD, rows, keys, vals⟩ := h
        rw [List.getElem?_map] at hx
        obtain ⟨k, hk, rfl⟩ := Option.map_eq_some_iff.mp hx
        have hi : i < ns.length := (List.getElem?_eq_some_iff.mp hk).1
        walk_at "rd"
        refine ⟨p, f, rfl, p3, f0, by omega, fun o H4 o0 o1 b4 p4 => ?_⟩
        walk_at "rd"
        refine ⟨le_line (Nat.le_of_ble_eq_true rfl), fun t nt => ?_⟩
        have hs4 := b4 _ _ (fun z => sp (List.mem_singleton.mp z)) hs
        have hD4 := b4 _ _ (fun z => Dp (List.mem_singleton.mp z)) hD
        have st := same_new (o := .tup [.int k, .int o]) nt
        have kp : ∀ b u, H' b = some u → (∀ zs, u ≠ .lst zs) → H4 b = some u := fun b u hb n => b4 _ _ (fun z => by
          obtain ⟨x, d, c, hp⟩ := p3
          rw [List.mem_singleton.mp z, hp] at hb
          exact n _ (Option.some.inj hb).symm) hb
        have ll : L.length = i := by
          have := congrArg List.length keys
          rw [List.length_map, List.length_take] at this
          omega
        have lts : ts.length = L.length := prd_len rows
        have tD : t ≠ D := fun z => by rw [z, hD4] at nt; cases nt
        refine ⟨_, st _ _ hD4, small1000 (by rw [List.length_map]; omega), ts ++ [t], L ++ [(k, o)], ?_, ?_, (upd_ne sD).trans (st _ _ hs4), by rw [upd_same, List.map_append]; rfl, ?_, ?_, fun r m => ?_⟩
        · exact ((b3.trans b4).new nt).mut (b2.free (fun z => Dp (List.mem_singleton.mp z)) ((But.new .refl nS).free (fun z => Dp (List.mem_singleton.mp z)) nD))
        · exact ((p4.new nt).upd Dp.symm)
        · refine prd_app (prd_but (fun b u hb n => ?_) rows) (.cons ((upd_ne tD).trans upd_same) .nil)
          exact (upd_ne (fun z => by rw [z, hD] at hb; exact n _ (Option.some.inj hb).symm)).trans (st _ _ (kp b u hb n))
        · rw [List.map_append, keys, List.take_add_one, hk]
          rfl
        · rcases List.mem_append.mp m with m | m
          · exact vals r m
          · have : r = (k, o) := by simpa using m
            rw [this]
            exact ⟨o0, o1⟩
      · obtain ⟨ts, L, b3, p3, hs, hD, rows, keys, vals⟩ := h
        rw [List.length_map, List.take_length] at keys
        walk_at "rd"
        refine ⟨D, _, rfl, .inl (.inl hD), fun a o na od => ?_⟩
        refine q _ a ts L (b3.new na) (p3.new na) ⟨⟨o, od, upd_same⟩, prd_same (same_new na) rows⟩ ⟨?_, fun r m => ?_⟩ ?_
        · have : (L.map (·.1)).Pairwise (· < ·) := keys.symm ▸ lt
          exact List.pairwise_map.mp this
        · have m1 : r.1 ∈ os := perm.mem_iff.mp (keys ▸ List.mem_map.mpr ⟨r, m, rfl⟩)
          have c1 := in' _ m1
          have c2 := vals r m
          exact ⟨⟨c1.1, by omega⟩, ⟨c2.1, by omega⟩⟩
        · have := congrArg List.length keys
          rw [List.length_map] at this
          have := perm.length_eq
          omega
end
section
variable {P : Program} {w : World} {K : PySem.W.Frag} {mg : Str → Option Value} {base : Heap} {A : Ad}
def spRight : Sp := fun vs H Q _ => ∃ (p : Addr) (f : Int), vs = [.ref p, .int f] ∧ Pool H p ∧ 0 < f ∧ f ≤ 1000000000 ∧ ∀ H', But [p] H H' → Pool H' p → Q (.bl true) H'
theorem ok_right (T : Txt K mg A) : FnOk P w K mg base CX0 8 A.f_right A.d_right ["_law_pool_here", "_law_far"] spRight := by
  have G_draw : FnOk P w K mg base CX0 1 A.f_draw A.d_draw ["_law_pool_here", "_law_many"] spDraw := ok_draw T
  have G_pairs : FnOk P w K mg base CX0 2 A.f_pairs A.d_pairs ["_law_pool_here", "_law_most", "_law_far"] spPairs := ok_pairs T
  have G_turned : FnOk P w K mg base CX0 1 A.f_turned A.d_turned ["_law_hue", "_law_rows"] spTurned := ok_turned T
  have G_recoloured : FnOk P w K mg base CX0 7 A.f_recoloured A.d_recoloured ["colour", "pairs"] spRecol := ok_recoloured T
  have G_combined : FnOk P w K mg base CX0 7 A.f_combined A.d_combined ["pairs", "other_pairs"] spComb := ok_combined T
  refine T.F_right.ok sc_right (fun vs H Q E h => ?_) (fun cdv A0 outer s H vs Q E hr h => ?_)
  · obtain ⟨p, f, rfl, _⟩ := h
    rfl
  · obtain ⟨p, f, rfl, hP, f0, f1, q⟩ := h
    have hu64 := room64 hr
    refine ⟨_, (pss_cons (ps_asg (pe_tup (pa_cons (pe_call G_pairs (hr.mono (by decide)) (by rfl) T.g_pairs T.F_pairs.kp T.B_pairs .nil pass0 (pa_cons (pv 0) (pa_cons pe_int (pa_cons (pv 1) pa_nil)))) (pa_cons (pe_call G_pairs (hr.mono (by decide)) (by rfl) T.g_pairs T.F_pairs.kp T.B_pairs .nil pass0 (pa_cons (pv 0) (pa_cons pe_int (pa_cons (pv 1) pa_nil)))) pa_nil))) (pg_tup rfl (pgs_cons (pg_name (i := 2) sc_right.nd rfl (.inr rfl)) (pgs_cons (pg_name (i := 3) sc_right.nd rfl (.inr rfl)) pgs_nil))))
      (pss_cons (ps_set (i := 4) sc_right.nd rfl (.inl rfl) (pe_op op_cat (pe_lc (own := [("_law_pair", 10)]) rfl sc_right.nd (pi_tup (pe_op op_catA (pv 2) (pv 3))) (blkOk_by (N := N_right) (sc := defScope s_right) (by decide +kernel)) (fun _ _ _ _ _ => (pg_name (i := 10) sc_right.nd rfl (.inl rfl))) (fun _ _ _ _ _ => pts_nil) (fun _ _ _ _ _ => (pe_ix (Tb.ix_tupK (K := K) rfl) (pv 10) pe_int (fun _ _ => rfl)))) (pe_lc (own := [("_law_pair", 10)]) rfl sc_right.nd (pi_tup (pe_op op_catA (pv 2) (pv 3))) (blkOk_by (N := N_right) (sc := defScope s_right) (by decide +kernel)) (fun _ _ _ _ _ => (pg_name (i := 10) sc_right.nd rfl (.inl rfl))) (fun _ _ _ _ _ => pts_nil) (fun _ _ _ _ _ => (pe_ix (Tb.ix_tupK (K := K) rfl) (pv 10) pe_int (fun _ _ => rfl))))))
      (pss_cons (ps_set (i := 5) sc_right.nd rfl (.inl rfl) (pe_op op_cat (pe_callB cr_sortedI (by rfl) T.m_sorted (by decide +kernel) (pa_cons (pv 4) pa_nil)) (pe_lst (pa_cons pe_int (pa_cons (pv 1) (pa_cons (pe_op op_pow pe_int pe_int) (pa_cons (pe_call G_draw (hr.mono (by decide)) (by rfl) T.g_draw T.F_draw.kp T.B_draw .nil pass0 (pa_cons (pv 0) (pa_cons (pe_op op_pow pe_int pe_int) pa_nil))) pa_nil)))))))
      (pss_cons (ps_for PassesOwn.never rfl (pi_list (pv 5)) (pg_name (i := 6) sc_right.nd rfl (.inl rfl))
        (pss_cons (ps_set (i := 7) sc_right.nd rfl (.inl rfl) (pe_lst (pa_cons (pe_call G_recoloured (hr.mono (by decide)) (by rfl) T.g_recoloured T.F_recoloured.kp T.B_recoloured .nil pass0 (pa_cons (pv 6) (pa_cons (pv 2) pa_nil))) (pa_cons (pe_callK0 G_recoloured (hr.mono (by decide)) (by rfl) T.g_recoloured T.F_recoloured.kp T.K_recoloured_pairs_colour pass0 (pk_cons (pv 2) (pk_cons (pv 6) pk_nil))) pa_nil))))
        (pss_one (ps_if (pw_or (pt_cmpR (op_neD hu64) (pv 7) (pe_op op_rep (pe_lst (pa_cons (pe_call G_turned (hr.mono (by decide)) (by rfl) T.g_turned T.F_turned.kp T.B_turned .nil pass0 (pa_cons (pv 6) (pa_cons (pv 2) pa_nil))) pa_nil)) pe_int) (nomark _)) (pw_or1 (pt_cmpR op_ne (pe_call G_recoloured (hr.mono (by decide)) (by rfl) T.g_recoloured T.F_recoloured.kp T.B_recoloured .nil pass0 (pa_cons (pv 6) (pa_cons (Tb.pe_tupF pa_nil) pa_nil))) (pv 6) (nomark _)))).pt
          (pss_one (ps_ret pe_bl))
          pss_nil))))
      (pss_cons (ps_set (i := 8) sc_right.nd rfl (.inr rfl) (pe_call G_combined (hr.mono (by decide)) (by rfl) T.g_combined T.F_combined.kp T.B_combined .nil pass0 (pa_cons (pv 2) (pa_cons (pv 3) pa_nil))))
      (pss_cons (ps_if (pw_or (pt_cmpR (op_neD hu64) (pv 8) (pe_callK0 G_combined (hr.mono (by decide)) (by rfl) T.g_combined T.F_combined.kp T.K_combined_other_pairs_pairs pass0 (pk_cons (pv 3) (pk_cons (pv 2) pk_nil))) (nomark _)) (pw_or1 (pt_val (pe_callB (cr_any rfl) (by rfl) T.m_any (by decide +kernel) (pa_cons (pe_lc (own := [("_law_pair", 10)]) rfl sc_right.nd (pi_tup (pv 8)) (blkOk_by (N := N_right) (sc := defScope s_right) (by decide +kernel)) (fun _ _ _ _ _ => (pg_name (i := 10) sc_right.nd rfl (.inl rfl))) (fun _ _ _ _ _ => pts_nil) (fun _ _ _ _ _ => (pe_cmpR op_eq (pe_ix (Tb.ix_tupK (K := K) rfl) (pv 10) pe_int (fun _ _ => rfl)) (pe_ix (Tb.ix_tupK (K := K) rfl) (pv 10) pe_int (fun _ _ => rfl)) (nomark _)))) pa_nil))))).pt
        (pss_one (ps_ret pe_bl))
        pss_nil)
      (pss_cons (ps_if (pt_val (pe_callB (cr_any rfl) (by rfl) T.m_any (by decide +kernel) (pa_cons (pe_lc (own := [("_law_k", 11)]) rfl sc_right.nd (pi_range1 (by rfl) T.m_range (pa_cons (pe_op op_sub (pe_callB call_len_seq (by rfl) T.m_len PySem.boot_len (pa_cons (pv 8) pa_nil)) pe_int) pa_nil)) (blkOk_by (N := N_right) (sc := defScope s_right) (by decide +kernel)) (fun _ _ _ _ _ => (pg_name (i := 11) sc_right.nd rfl (.inl rfl))) (fun _ _ _ _ _ => pts_nil) (fun _ _ _ _ _ => (pe_cmpR op_ge (pe_ix (Tb.ix_tupK (K := K) rfl) (pe_ix (Tb.ix_tupK (K := K) rfl) (pv 8) (pv 11) (fun _ _ => rfl)) pe_int (fun _ _ => rfl)) (pe_ix (Tb.ix_tupK (K := K) rfl) (pe_ix (Tb.ix_tupK (K := K) rfl) (pv 8) (pe_op op_add (pv 11) pe_int) (fun _ _ => rfl)) pe_int (fun _ _ => rfl)) (nomark _)))) pa_nil)))
        (pss_one (ps_ret pe_bl))
        pss_nil)
      (pss_cons (ps_setLc (own := [("_law_hue", 6)]) (i := 9) rfl sc_right.nd rfl rfl (sw_true rfl rfl rfl (by decide +kernel)) (pi_list (pv 5)) (blkOk_by (N := N_right) (sc := defScope s_right) (by decide +kernel)) (fun _ _ _ _ _ => (pg_name (i := 6) sc_right.nd rfl (.inl rfl))) (fun _ _ _ _ _ => pts_nil) (fun _ _ _ _ _ => (pe_tup (pa_cons (pv 6) (pa_cons (pe_call G_turned (hr.mono (by decide)) (by rfl) T.g_turned T.F_turned.kp T.B_turned .nil pass0 (pa_cons (pe_call G_turned (hr.mono (by decide)) (by rfl) T.g_turned T.F_turned.kp T.B_turned .nil pass0 (pa_cons (pv 6) (pa_cons (pv 2) pa_nil))) (pa_cons (pv 3) pa_nil))) pa_nil)))))
      (pss_one (ps_ret (pe_and (pe_callB (cr_all rfl) (by rfl) T.m_all (by decide +kernel) (pa_cons (pe_lc (own := [("_law_hue", 6), ("_law_new", 12)]) rfl sc_right.nd (pi_list (pv 9)) (blkOk_by (N := N_right) (sc := defScope s_right) (by decide +kernel)) (fun _ _ _ _ _ => (Tb.pg_tupK (K := K) (n := 2) rfl rfl (pgs_cons (pg_name (i := 6) sc_right.nd rfl (.inl rfl)) (pgs_cons (pg_name (i := 12) sc_right.nd rfl (.inl rfl)) pgs_nil)))) (fun _ _ _ _ _ => pts_nil) (fun _ _ _ _ _ => (pe_cmpR op_eq (pe_call G_recoloured (hr.mono (by decide)) (by rfl) T.g_recoloured T.F_recoloured.kp T.B_recoloured .nil pass0 (pa_cons (pv 6) (pa_cons (pv 8) pa_nil))) (pv 12) (nomark _)))) pa_nil)) (pe_one (pe_cmpR (op_eqD hu64) (pv 8) (pe_callTy Tb.call_tupleF (by rfl) T.m_tuple (by decide +kernel) (pa_cons (pe_lc (own := [("_law_pair", 10)]) rfl sc_right.nd (pi_list (pe_callB (Tb.cr_itSorted rfl) (by rfl) T.m_sorted (by decide +kernel) (pa_cons (pe_bm0 PySem.F.plainAttrs_dict PySem.F.slot_dict_items PySem.F.type_dict_items Tb.mt_itemsK (pe_callTy (call_dictP rfl) (by rfl) T.m_dict (by decide +kernel) (pa_cons (pv 9) pa_nil))) pa_nil))) (blkOk_by (N := N_right) (sc := defScope s_right) (by decide +kernel)) (fun _ _ _ _ _ => (pg_name (i := 10) sc_right.nd rfl (.inl rfl))) (fun _ _ _ _ _ => (pts_one (pt_cmpR op_ne (pe_ix (Tb.ix_tupK (K := K) rfl) (pv 10) pe_int (fun _ _ => rfl)) (pe_ix (Tb.ix_tupK (K := K) rfl) (pv 10) pe_int (fun _ _ => rfl)) (nomark _)))) (fun _ _ _ _ _ => (pv 10))) pa_nil)) (nomark _)))))))))))))), ?_⟩
    walk_at "rd"
    refine ⟨p, 5, f, rfl, hP, by decide, by decide, f0, f1, fun H1 a ts L b1 p1 t1 g1 l1 => ?_⟩
    walk_at "rd"
    refine ⟨p, 5, f, rfl, p1, by decide, by decide, f0, f1, fun H2 b us M b2 p2 t2 g2 l2 => ?_⟩
    walk_at "rd"
    replace l1 : L.length ≤ 5 := l1
    replace l2 : M.length ≤ 5 := l2
    have t1 := t1.but b2 p1
    have b12 := b1.trans b2
    refine ⟨le_line (Nat.le_of_ble_eq_true rfl), fun z nz => ⟨z, _, rfl, .inl (.inl upd_same), rfl, _, _, rfl, _, _, rfl, rfl, ?_⟩⟩
    have t1 := t1.same (same_new (o := .tup [.ref a, .ref b]) nz)
    have t2 := t2.same (same_new (o := .tup [.ref a, .ref b]) nz)
    have b12 := b12.new nz (o := .tup [.ref a, .ref b])
    have p2 := p2.new nz (o := .tup [.ref a, .ref b])
    generalize upd H2 z (.tup [.ref a, .ref b]) = H3 at t1 t2 b12 p2 ⊢
    clear b1 b2 p1 nz
    -- the colours that are named
    walk_at "rd"
    have few : (L ++ M).length ≤ 10 := by rw [List.length_append]; omega
    refine ⟨.ref a, rfl, .ref b, rfl, cat_ok t1 t2 (by omega) fun H4 c s4 sq rows => ⟨c, rfl, ⟨_, sq⟩, fun D nD => lcq_tup (ys := (L ++ M).map fun r => .int r.1) nD sq (by have := prd_len rows; simp only [List.length_map]; exact this) (by rw [List.length_map]; omega) (fun i x y Hx R hx hy sx k => ?_) (fun H5 s5 hD => ?_)⟩⟩
    · rw [List.getElem?_map] at hx hy
      obtain ⟨t, ht, rfl⟩ := Option.map_eq_some_iff.mp hx
      obtain ⟨r, hr', rfl⟩ := Option.map_eq_some_iff.mp hy
      obtain ⟨r', hr2, e⟩ := prd_at (prd_same sx rows) ht
      obtain rfl := Option.some.inj (hr'.symm.trans hr2)
      have e : Hx t = some (.tup [.int r.1, .int r.2]) := e
      walk_at "rd"
      exact k _ (Same.refl _)
    have s35 := s4.trans s5
    have t1' := t1.same s35
    have t2' := t2.same s35
    refine ⟨.ref a, rfl, .ref b, rfl, cat_ok t1' t2' (by omega) fun H6 c2 s6 sq2 rows2 => ⟨c2, rfl, ⟨_, sq2⟩, fun D2 nD2 => lcq_tup (ys := (L ++ M).map fun r => .int r.2) nD2 sq2 (by have := prd_len rows2; simp only [List.length_map]; exact this) (by rw [List.length_map]; omega) (fun i x y Hx R hx hy sx k => ?_) (fun H7 s7 hD2 => ?_)⟩⟩
    · rw [List.getElem?_map] at hx hy
      obtain ⟨t, ht, rfl⟩ := Option.map_eq_some_iff.mp hx
      obtain ⟨r, hr', rfl⟩ := Option.map_eq_some_iff.mp hy
      obtain ⟨r', hr2, e⟩ := prd_at (prd_same sx rows2) ht
      obtain rfl := Option.some.inj (hr'.symm.trans hr2)
      have e : Hx t = some (.tup [.int r.1, .int r.2]) := e
      walk_at "rd"
      exact k _ (Same.refl _)
    have s37 := s35.trans (s6.trans s7)
    refine ⟨D, D2, _, _, rfl, rfl, (s6.trans s7) _ _ hD, hD2, le_line (by simp only [List.length_map]; omega), fun n nn => ?_⟩
    have hn : upd H7 n (.lst ((L ++ M).map (fun r => V.int r.1) ++ (L ++ M).map fun r => V.int r.2)) n = some (.lst (((L ++ M).map (·.1) ++ (L ++ M).map (·.2)).map V.int)) := by
      rw [upd_same]
      simp [Function.comp_def]
    have s38 := s37.trans (same_new (o := .lst ((L ++ M).map (fun r => V.int r.1) ++ (L ++ M).map fun r => V.int r.2)) nn)
    generalize upd H7 n (.lst ((L ++ M).map (fun r => V.int r.1) ++ (L ++ M).map fun r => V.int r.2)) = H8 at hn s38 ⊢
    -- the colours that are tried
    walk_at "rd"
    refine ⟨n, _, rfl, .inl (.inl hn), fun ns v perm srt nv => ?_⟩
    have hv : upd H8 v (.lst (ns.map V.int)) v = some (.lst (ns.map V.int)) := upd_same
    have b9 := (b12.trans (.of s38)).new nv (o := .lst (ns.map V.int))
    have p9 := (p2.same s38).new nv (o := .lst (ns.map V.int))
    have t1 := t1.same (s38.trans (same_new (o := .lst (ns.map V.int)) nv))
    have t2 := t2.same (s38.trans (same_new (o := .lst (ns.map V.int)) nv))
    have vp : v ≠ p := (p2.same s38).ne nv
    generalize upd H8 v (.lst (ns.map V.int)) = H9 at hv b9 p9 t1 t2 ⊢
    have mem : ∀ c, c ∈ ns ↔ ∃ r ∈ L ++ M, r.1 = c ∨ r.2 = c := fun c => by
      rw [perm.mem_iff, List.mem_append, List.mem_map, List.mem_map]
      constructor
      · rintro (⟨r, m, e⟩ | ⟨r, m, e⟩)
        · exact ⟨r, m, .inl e⟩
        · exact ⟨r, m, .inr e⟩
      · rintro ⟨r, m, e | e⟩
        · exact .inl ⟨r, m, e⟩
        · exact .inr ⟨r, m, e⟩
    have nlen : ns.length ≤ 20 := by
      rw [perm.length_eq, List.length_append, List.length_map, List.length_map]
      omega
    have ncol : ∀ c ∈ ns, Col c := fun c m => by
      obtain ⟨r, mr, e⟩ := (mem c).mp m
      have g : Col r.1 ∧ Col r.2 := (List.mem_append.mp mr).elim (g1.2 r) (g2.2 r)
      rcases e with e | e
      · exact e ▸ g.1
      · exact e ▸ g.2
    walk_at "rd"
    refine ⟨p, 10 ^ Int.toNat 9, rfl, p9, by decide, by decide, fun r H10 r0 r1 b10 p10 => ?_⟩
    have r1 : r < 1000000000 := r1
    have hv10 := b10 _ _ (fun z => vp (List.mem_singleton.mp z)) hv
    have t1 := t1.but b10 p9
    have t2 := t2.but b10 p9
    walk_at "rd"
    refine ⟨le_line (Nat.le_of_ble_eq_true rfl), fun l nl => ?_⟩
    walk_at "rd"
    refine ⟨v, l, _, _, rfl, rfl, (same_new nl) _ _ hv10, upd_same, le_line (by rw [List.length_map]; show ns.length + 4 ≤ 1000; omega), fun c' nc' => ?_⟩
    obtain ⟨tr, etr⟩ : ∃ tr, tr = ns ++ [0, f, 1000000000, r] := ⟨_, rfl⟩
    have htr : upd (upd H10 l (.lst [.int 0, .int f, .int (10 ^ Int.toNat 9), .int r])) c' (.lst (ns.map V.int ++ [.int 0, .int f, .int (10 ^ Int.toNat 9), .int r])) c' = some (.lst (tr.map V.int)) := by
      rw [upd_same, etr, List.map_append]
      rfl
    have s12 : Same H10 (upd (upd H10 l (.lst [.int 0, .int f, .int (10 ^ Int.toNat 9), .int r])) c' (.lst (ns.map V.int ++ [.int 0, .int f, .int (10 ^ Int.toNat 9), .int r]))) := (same_new nl).trans (same_new nc')
    generalize upd (upd H10 l (.lst [.int 0, .int f, .int (10 ^ Int.toNat 9), .int r])) c' (.lst (ns.map V.int ++ [.int 0, .int f, .int (10 ^ Int.toNat 9), .int r])) = H12 at htr s12 ⊢
    have t1 := t1.same s12
    have t2 := t2.same s12
    have b12 := (b9.trans b10).trans (.of s12)
    have p12 := p10.same s12
    have tcol : ∀ c ∈ tr, Col c := fun c m => by
      rw [etr] at m
      rcases List.mem_append.mp m with m | m
      · exact ncol c m
      · simp only [List.mem_cons, List.not_mem_nil, or_false] at m
        unfold Col
        rcases m with rfl | rfl | rfl | rfl <;> omega
    have tlen : tr.length ≤ 24 := by
      rw [etr, List.length_append]
      show ns.length + 4 ≤ 24
      omega
    have tmem : ∀ c, (∃ r ∈ L ++ M, r.1 = c) → c ∈ tr := fun c ⟨r, m, e⟩ => by
      rw [etr]
      exact List.mem_append_left _ ((mem c).mpr ⟨r, m, .inl e⟩)
    clear etr perm srt hv hv10 mem ncol nlen p9 p10 b10 b9
    walk_at "rd"
    refine ⟨.ref c', rfl, c', rfl, ⟨_, .inl (.inl htr)⟩, ?_⟩
    refine for_list (xs := tr.map V.int) (fun i σ H' => ∃ y6 y7, σ = [some (.ref p), some (.int f), some (.ref a), some (.ref b), some (.ref n), some (.ref c'), y6, y7, none, none, none, none, none] ∧ Same H12 H') ⟨none, none, rfl, Same.refl _⟩ (fun i σ H' _ h => ?_) (fun i x σ H' hx h => ?_) (fun σ H' h => ?_)
    · obtain ⟨y6, y7, rfl, s⟩ := h
      exact .inl (.inl (s _ _ htr))
    · obtain ⟨y6, y7, rfl, s⟩ := h
      rw [List.getElem?_map] at hx
      obtain ⟨k, hk, rfl⟩ := Option.map_eq_some_iff.mp hx
      have kc := tcol k (List.mem_of_getElem? hk)
      walk_at "rd"
      refine ⟨k, a, ts, L, rfl, kc, t1.same s, g1, by omega, fun H13 s13 => ?_⟩
      walk_at "rd"
      have s' := s.trans s13
      refine ⟨k, a, ts, L, rfl, kc, t1.same s', g1, by omega, fun H14 s14 => ?_⟩
      walk_at "rd"
      refine ⟨le_line (Nat.le_of_ble_eq_true rfl), fun o no => ?_⟩
      have s'' := (s'.trans s14).trans (same_new (o := .lst [.int (look L k), .int (look L k)]) no)
      have ho : upd H14 o (.lst [.int (look L k), .int (look L k)]) o = some (.lst ([look L k, look L k].map V.int)) := upd_same
      generalize upd H14 o (.lst [.int (look L k), .int (look L k)]) = H15 at s'' ho ⊢
      walk_at "rd"
      refine ⟨k, a, ts, L, rfl, t1.same s'', ?_⟩
      walk_at "rd"
      refine ⟨le_line (Nat.le_of_ble_eq_true rfl), fun l2 np2 => ?_⟩
      walk_at "rd"
      refine ⟨l2, 2, _, rfl, rfl, upd_same, by decide, by decide, le_line (Nat.le_of_ble_eq_true rfl), fun l3 np3 => ?_⟩
      have s3 : Same H15 (upd (upd H15 l2 (.lst [.int (look L k)])) l3 (.lst (List.replicate (Int.toNat 2) [V.int (look L k)]).flatten)) := (same_new np2).trans (same_new np3)
      have h3 : upd (upd H15 l2 (.lst [.int (look L k)])) l3 (.lst (List.replicate (Int.toNat 2) [V.int (look L k)]).flatten) l3 = some (.lst ([look L k, look L k].map V.int)) := upd_same
      generalize upd (upd H15 l2 (.lst [.int (look L k)])) l3 (.lst (List.replicate (Int.toNat 2) [V.int (look L k)]).flatten) = H16 at s3 h3 ⊢
      refine ⟨_, _, dp_ints _ (.inl (.inl (s3 _ _ ho))), dp_ints _ (.inl (.inl h3)), shaped_ints _, shaped_ints _, ?_⟩
      rw [eqv_ints]
      walk_at "rd"
      refine ⟨le_line (Nat.le_of_ble_eq_true rfl), fun z o2 nz od => ?_⟩
      have s4 := (s''.trans s3).trans (same_new (o := .frz o2 (.tup [])) nz)
      refine ⟨k, z, [], [], rfl, kc, ⟨⟨o2, od, upd_same⟩, .nil⟩, good_nil, Nat.zero_le _, fun H17 s17 => ?_⟩
      walk_at "rd"
      rw [show (!decide (V.int (look [] k) = V.int k)) = false by rw [show look [] k = k from rfl, decide_eq_true rfl]; rfl]
      walk_at "rd"
      exact ⟨_, _, rfl, s4.trans s17⟩
    · obtain ⟨y6, y7, rfl, s⟩ := h
      walk_at "rd"
      have t1 := t1.same s
      have t2 := t2.same s
      refine ⟨a, b, ts, us, L, M, rfl, t1, t2, g1, g2, by omega, by omega, fun H13 rr vs ks s13 asc kmem k40 tR => ?_⟩
      walk_at "rd"
      refine ⟨a, b, ts, us, L, M, rfl, t1.same s13, t2.same s13, g1, g2, by omega, by omega, fun H14 rr2 vs2 ks2 s14 asc2 kmem2 k402 tR2 => ?_⟩
      obtain rfl := ints_ext asc asc2 fun c => (kmem c).trans (kmem2 c).symm
      have tR1 := tR.same s14
      refine ⟨_, _, tR1.dp, tR2.dp, shaped_dat _, shaped_dat _, ?_⟩
      rw [eqv_dat]
      walk_at "rd"
      have s14' := s13.trans s14
      have rlen : (comb (both L M) ks).length ≤ 40 := Nat.le_trans comb_len k40
      refine ⟨.ref rr, rfl, rr, rfl, ⟨_, tR1.sq⟩, fun D nD => lcq_tup (ys := (comb (both L M) ks).map fun _ => .bl false) nD tR1.sq (by rw [List.length_map, List.length_map]; exact tR1.len) (by rw [List.length_map]; omega) (fun i x y Hx R hx hy sx k => ?_) (fun H15 s15 hD => ?_)⟩
      · rw [List.getElem?_map] at hx hy
        obtain ⟨t, ht, rfl⟩ := Option.map_eq_some_iff.mp hx
        obtain ⟨q', hq', rfl⟩ := Option.map_eq_some_iff.mp hy
        obtain ⟨q2, hq2, e⟩ := (tR1.same sx).row ht
        have ne : q2.1 ≠ q2.2 := by
          obtain ⟨_, v, e⟩ := mem_comb.mp (List.mem_of_getElem? hq2)
          rw [v]
          exact fun z => e z.symm
        walk_at "rd"
        rw [decide_eq_false (fun z => ne (V.int.inj z) : ¬ V.int q2.1 = V.int q2.2)]
        exact k _ (Same.refl _)
      have hD' : H15 D = some (.lst ((List.replicate (comb (both L M) ks).length false).map V.bl)) := by rw [hD, List.map_const', List.map_replicate]
      walk_at "rd"
      refine ⟨D, _, rfl, .inl (.inl hD'), ?_⟩
      rw [any_rep]
      walk_at "rd"
      have tR3 := tR1.same s15
      have s15' := s14'.trans s15
      have vlen : vs.length = (comb (both L M) ks).length := tR3.len
      refine ⟨.ref rr, rfl, rr, _, rfl, .inr tR3.sq, _, _, rfl, rfl, _, rfl, by rw [List.length_map]; omega, by rw [List.length_map]; omega, fun D2 nD2 => ?_⟩
      refine lc_range (fun i H' => Same H15 H' ∧ H' D2 = some (.lst ((List.replicate i false).map V.bl))) ⟨same_new nD2, upd_same⟩ (fun i H16 hi h => ⟨rfl, ?_⟩) (fun H16 h => ?_)
      · obtain ⟨s16, hD2⟩ := h
        have hi : i + 1 < vs.length := by
          rw [List.length_map] at hi
          omega
        have tR4 := tR3.same s16
        have sq4 : SqT K H16 rr (vs.map V.ref) := tR4.sq
        obtain ⟨q1, k1, e1⟩ := tR4.row (List.getElem?_eq_getElem (show i < vs.length by omega))
        obtain ⟨q2, k2, e2⟩ := tR4.row (List.getElem?_eq_getElem hi)
        have at1 : atI (vs.map V.ref) (0 + (i : Int)) = some (.ref vs[i]) := by
          rw [Int.zero_add]
          exact atI_nat (by rw [List.getElem?_map, List.getElem?_eq_getElem (show i < vs.length by omega)]; rfl)
        have at2 : atI (vs.map V.ref) (0 + (i : Int) + 1) = some (.ref vs[i + 1]) := by
          have e : (0 + (i : Int) + 1) = ((i + 1 : Nat) : Int) := by omega
          rw [e]
          exact atI_nat (by rw [List.getElem?_map, List.getElem?_eq_getElem hi]; rfl)
        have lt : q1.1 < q2.1 := by
          obtain ⟨l1, h1⟩ := List.getElem?_eq_some_iff.mp k1
          obtain ⟨l2, h2⟩ := List.getElem?_eq_some_iff.mp k2
          rw [← h1, ← h2]
          exact List.pairwise_iff_getElem.mp (comb_asc asc) i (i + 1) l1 l2 (by omega)
        walk_at "rd"
        rw [decide_eq_false (by omega : ¬ q2.1 ≤ q1.1)]
        refine ⟨_, hD2, small1000 (by rw [List.length_map, List.length_replicate]; omega), same_mut s16 nD2, ?_⟩
        rw [upd_same, List.replicate_succ', List.map_append]
        rfl
      obtain ⟨s16, hD2⟩ := h
      refine ⟨D2, _, rfl, .inl (.inl hD2), ?_⟩
      rw [any_rep]
      walk_at "rd"
      have s16' := s15'.trans s16
      have t1 := t1.same s16'
      have t2 := t2.same s16'
      have tR5 := tR3.same s16
      have htr16 := s16' _ _ (s _ _ htr)
      have s16'' := s.trans s16'
      refine ⟨.ref c', rfl, c', rfl, ⟨_, .inl (.inl htr16)⟩, fun D3 nD3 => ?_⟩
      refine lc_list (xs := tr.map V.int) (fun i H' => ∃ zs, Same H16 H' ∧ H' D3 = some (.lst ((zs : List Addr).map V.ref)) ∧ Paired (Rw H') zs ((tr.take i).map fun h => (h, both L M h))) ⟨[], same_new nD3, upd_same, .nil⟩ (fun i H' _ h => ?_) (fun i x H17 hx h => ⟨rfl, ?_⟩) (fun H17 h => ?_)
      · obtain ⟨_, s17, _⟩ := h
        exact .inl (.inl (s17 _ _ htr16))
      · obtain ⟨zs, s17, hD3, rows⟩ := h
        rw [List.getElem?_map] at hx
        obtain ⟨k, hk, rfl⟩ := Option.map_eq_some_iff.mp hx
        have hi : i < tr.length := (List.getElem?_eq_some_iff.mp hk).1
        walk_at "rd"
        refine ⟨k, a, ts, L, rfl, t1.same s17, ?_⟩
        walk_at "rd"
        refine ⟨look L k, b, us, M, rfl, t2.same s17, ?_⟩
        walk_at "rd"
        refine ⟨le_line (Nat.le_of_ble_eq_true rfl), fun t nt => ?_⟩
        have st := same_new (o := .tup [.int k, .int (look M (look L k))]) nt
        have zl : zs.length ≤ 24 := by
          have := prd_len rows
          rw [List.length_map, List.length_take] at this
          omega
        have tD : t ≠ D3 := fun z => by rw [z, hD3] at nt; cases nt
        refine ⟨_, st _ _ hD3, small1000 (by rw [List.length_map]; omega), zs ++ [t], same_mut (s17.trans st) nD3, by rw [upd_same, List.map_append]; rfl, ?_⟩
        rw [List.take_add_one, hk, List.map_append]
        refine prd_app (prd_but (fun b u hb n => ?_) rows) (.cons ((upd_ne tD).trans upd_same) .nil)
        exact (upd_ne (fun z => by rw [z, hD3] at hb; exact n _ (Option.some.inj hb).symm)).trans (st _ _ hb)
      obtain ⟨zs, s17, hD3, rows⟩ := h
      rw [List.length_map, List.take_length] at rows
      have all : ∀ c, both L M c ≠ c → c ∈ ks := fun c e => by
        rw [kmem c]
        by_cases e1 : look L c = c
        · have e2 : look M c ≠ c := fun z => e (by show look M (look L c) = c; rw [e1]; exact z)
          obtain ⟨q', m', z⟩ := look_in e2
          exact ⟨q', List.mem_append_right _ m', z⟩
        · obtain ⟨q', m', z⟩ := look_in e1
          exact ⟨q', List.mem_append_left _ m', z⟩
      have sub : ∀ c ∈ ks, c ∈ tr := fun c m => tmem c ((kmem c).mp m)
      have gR : Good (comb (both L M) ks) := comb_good asc (fun c m => tcol c (sub c m)) fun c hc => look_col g2.2 (look_col g1.2 hc)
      walk_at "rd"
      refine ⟨.ref D3, rfl, D3, rfl, ⟨_, .inl (.inl hD3)⟩, fun D4 nD4 => ?_⟩
      refine lc_list (xs := zs.map V.ref) (fun i H' => Same H17 H' ∧ H' D4 = some (.lst ((List.replicate i true).map V.bl))) ⟨same_new nD4, upd_same⟩ (fun i H' _ h => .inl (.inl (h.1 _ _ hD3))) (fun i x H18 hx h => ?_) (fun H18 h => ?_)
      · obtain ⟨s18, hD4⟩ := h
        rw [List.getElem?_map] at hx
        obtain ⟨t, ht, rfl⟩ := Option.map_eq_some_iff.mp hx
        obtain ⟨q', hq', e⟩ := prd_at (prd_same s18 rows) ht
        rw [List.getElem?_map] at hq'
        obtain ⟨k, hk, rfl⟩ := Option.map_eq_some_iff.mp hq'
        have hi : i < tr.length := (List.getElem?_eq_some_iff.mp hk).1
        refine ⟨t, _, rfl, .inl (.inl e), rfl, _, _, rfl, _, _, rfl, rfl, rfl, ?_⟩
        walk_at "rd"
        refine ⟨k, rr, vs, _, rfl, tcol k (List.mem_of_getElem? hk), (tR5.same s17).same s18, gR, by omega, fun H19 s19 => ?_⟩
        walk_at "rd"
        rw [look_comb asc all k, decide_eq_true rfl]
        refine ⟨_, s19 _ _ hD4, small1000 (by rw [List.length_map, List.length_replicate]; omega), same_mut (s18.trans s19) nD4, ?_⟩
        rw [upd_same, List.replicate_succ', List.map_append]
        rfl
      obtain ⟨s18, hD4⟩ := h
      refine ⟨D4, _, rfl, .inl (.inl hD4), ?_⟩
      rw [all_rep]
      refine ⟨true, rfl, ?_⟩
      walk_at "rd"
      obtain ⟨R, eR, ndR, valR, keyR, lenR⟩ := items_of (both L M) tr [] .nil (by simp)
      have hD3' := s18 _ _ hD3
      refine ⟨.ref D3, rfl, D3, zs, kvT (tr.map fun h => (h, both L M h)), rfl, .inl (.inl hD3'), prd_sq (prd_same s18 rows), fun e ne => ⟨.inr (.inr (.inl ⟨rfl, .inl ⟨_, upd_same⟩⟩)), e, _, rfl, rfl, upd_same, fun v nv => ?_⟩⟩
      have he : upd (upd H18 e (.dK (mergeK [] (kvT (tr.map fun h => (h, both L M h)))))) v (DX.itemsO v e) e = some (.dK (kvT R)) := by
        have ev : e ≠ v := fun z => by rw [← z, upd_same] at nv; cases nv
        rw [upd_ne ev, upd_same]
        exact congrArg (fun z => some (HO.dK z)) eR
      have s19 : Same H18 (upd (upd H18 e (.dK (mergeK [] (kvT (tr.map fun h => (h, both L M h)))))) v (DX.itemsO v e)) := (same_new ne).trans (same_new nv)
      refine ⟨v, e, R, rfl, upd_same, he, fun G l fs grow nl perm ord hG frows => ⟨l, rfl, ⟨_, .inl (.inl hG)⟩, fun D5 nD5 => ?_⟩⟩
      have sG : Same H18 G := s19.trans grow
      have flen : fs.length ≤ 24 := by
        have := perm.length_eq
        rw [List.length_map] at this
        simp only [List.length_nil] at lenR
        omega
      obtain ⟨keep, ekeep⟩ : ∃ keep : Addr × (Int × Int) → Bool, keep = fun z => decide (z.2.1 ≠ z.2.2) := ⟨_, rfl⟩
      refine lc_list (xs := fs.map fun z => V.ref z.1) (fun i H' => Same G H' ∧ H' D5 = some (.lst (((fs.take i).filter keep).map fun z => V.ref z.1))) ⟨same_new nD5, upd_same⟩ (fun i H' _ h => .inl (.inl (h.1 _ _ hG))) (fun i x H20 hx h => ⟨rfl, ?_⟩) (fun H20 h => ?_)
      · obtain ⟨s20, hD5⟩ := h
        rw [List.getElem?_map] at hx
        obtain ⟨t, ht, rfl⟩ := Option.map_eq_some_iff.mp hx
        have hi : i < fs.length := (List.getElem?_eq_some_iff.mp ht).1
        have e1 : H20 t.1 = some (.tup [.int t.2.1, .int t.2.2]) := s20 _ _ (frows t (List.mem_of_getElem? ht))
        have tk : fs.take (i + 1) = fs.take i ++ [t] := by rw [List.take_add_one, ht]; rfl
        walk_at "rd"
        refine rd_2 (fun ec => ?_) (fun ec => ?_)
        · have kt : keep t = true := by
            rw [ekeep]
            refine decide_eq_true fun z => ?_
            rw [z, decide_eq_true rfl] at ec
            cases ec
          walk_at "rd"
          have l9 : ((fs.take i).filter keep).length ≤ 24 := by
            have := List.length_filter_le keep (fs.take i)
            rw [List.length_take] at this
            omega
          refine ⟨_, hD5, small1000 (by rw [List.length_map]; omega), same_mut s20 nD5, ?_⟩
          rw [upd_same, tk, List.filter_append, List.filter_cons_of_pos kt, List.map_append]
          rfl
        · have kt : ¬ keep t = true := by
            rw [ekeep]
            intro z
            have z' := of_decide_eq_true z
            rw [decide_eq_false (fun y => z' (V.int.inj y) : ¬ V.int t.2.1 = V.int t.2.2)] at ec
            cases ec
          rw [tk, List.filter_append, List.filter_cons_of_neg kt]
          exact ⟨s20, by rw [hD5]; simp⟩
      obtain ⟨s20, hD5⟩ := h
      rw [List.length_map, List.take_length] at hD5
      refine ⟨D5, _, rfl, .inl (.inl hD5), fun m o nm od => ?_⟩
      have sEnd : Same H17 (upd H20 m (.frz o (.tup ((fs.filter keep).map fun z => V.ref z.1)))) := ((s18.trans sG).trans s20).trans (same_new nm)
      have tEnd := (tR5.same s17).same sEnd
      have pEnd : PT (upd H20 m (.frz o (.tup ((fs.filter keep).map fun z => V.ref z.1)))) m ((fs.filter keep).map (·.1)) ((fs.filter keep).map (·.2)) := by
        refine ⟨⟨o, od, by rw [upd_same, List.map_map]; rfl⟩, ?_⟩
        have : ∀ gs : List (Addr × (Int × Int)), (∀ z ∈ gs, z ∈ fs) → Paired (Rw (upd H20 m (.frz o (.tup ((fs.filter keep).map fun z => V.ref z.1))))) (gs.map (·.1)) (gs.map (·.2)) := fun gs sub => by
          induction gs with
          | nil => exact .nil
          | cons z gs ih => exact .cons ((same_new nm) _ _ (s20 _ _ (frows z (sub z (List.mem_cons_self ..))))) (ih fun y my => sub y (List.mem_cons_of_mem _ my))
        exact this _ fun z mz => (List.mem_filter.mp mz).1
      have eqEnd : (fs.filter keep).map (·.2) = comb (both L M) ks := by
        rw [← left_eq asc all sub ndR valR (fun c => (keyR c).trans ⟨fun z => z.elim (fun y => by simp at y) id, .inr⟩) perm ord, List.filter_map, ekeep]
        rfl
      rw [eqEnd] at pEnd
      refine ⟨_, _, tEnd.dp, pEnd.dp, shaped_dat _, shaped_dat _, ?_⟩
      rw [eqv_dat]
      exact q _ (b12.trans (.of (s16''.trans (s17.trans sEnd)))) (p12.same (s16''.trans (s17.trans sEnd)))
end
section
variable {P : Program} {w : World} {K : PySem.W.Frag} {mg : Str → Option Value} {base : Heap} {A : Ad}
def spLaw (K : PySem.W.Frag) : Sp := fun vs H Q _ => ∃ (a : Addr) (ns : List Int), vs = [.ref a] ∧ SqL K H a (ns.map V.int) ∧ ns.length ≤ 63 ∧ ∀ H', Q (.bl true) H'
theorem spLaw_of {K : PySem.W.Frag} {H : Hp} {a : Addr} {ns : List Int} {E : XK} (hl : ns.length ≤ 63) (hS : SqL K H a (ns.map V.int)) : spLaw K [.ref a] H (fun v _ => v = .bl true) E := ⟨a, ns, rfl, hS, hl, fun _ => rfl⟩
theorem ok_law (T : Txt K mg A) : FnOk P w K mg base CX0 9 A.f_law A.d_law ["_law_script"] (spLaw K) := by
  have G_right : FnOk P w K mg base CX0 8 A.f_right A.d_right ["_law_pool_here", "_law_far"] spRight := ok_right T
  have G_pool : FnOk P w K mg base CX0 1 A.f_pool A.d_pool ["_law_cell_here"] spPool := ok_pool T
  have G_cell : FnOk P w K mg base CX0 1 A.f_cell A.d_cell ["_law_script", "_law_k"] (spCell K) := ok_cell T
  refine T.F_law.ok sc_law (fun vs H Q E h => ?_) (fun cdv A0 outer s H vs Q E hr h => ?_)
  · obtain ⟨a, ns, rfl, _⟩ := h
    rfl
  · obtain ⟨a, ns, rfl, hS, hl, q⟩ := h
    refine ⟨_, (pss_cons (ps_for PassesOwn.never rfl (pi_range1 (by rfl) T.m_range (pa_cons (pe_callB (call_max2 rfl) (by rfl) T.m_max (by decide +kernel) (pa_cons pe_int (pa_cons (pe_callB (call_min2 rfl) (by rfl) T.m_min (by decide +kernel) (pa_cons (pe_callB call_len_seq (by rfl) T.m_len PySem.boot_len (pa_cons (pv 0) pa_nil)) (pa_cons pe_int pa_nil))) pa_nil))) pa_nil)) (pg_name (i := 1) sc_law.nd rfl (.inl rfl))
        (pss_cons (ps_set (i := 2) sc_law.nd rfl (.inr rfl) (pe_call G_pool (hr.mono (by decide)) (by rfl) T.g_pool T.F_pool.kp T.B_pool .nil pass0 (pa_cons (pe_call G_cell (hr.mono (by decide)) (by rfl) T.g_cell T.F_cell.kp T.B_cell .nil pass0 (pa_cons (pv 0) (pa_cons (pv 1) pa_nil))) pa_nil)))
        (pss_one (ps_if (pt_not (pt_val (pe_callB (cr_all rfl) (by rfl) T.m_all (by decide +kernel) (pa_cons (pe_lc (own := [("_law_turn", 3)]) rfl sc_law.nd (pi_range1 (by rfl) T.m_range (pa_cons pe_int pa_nil)) (blkOk_by (N := N_law) (sc := defScope s_law) (by decide +kernel)) (fun _ _ _ _ _ => (pg_name (i := 3) sc_law.nd rfl (.inl rfl))) (fun _ _ _ _ _ => pts_nil) (fun _ _ _ _ _ => (pe_call G_right (hr.mono (by decide)) (by rfl) T.g_right T.F_right.kp T.B_right .nil pass0 (pa_cons (pv 2) (pa_cons (pe_ix (Tb.ix_listK (K := K) rfl) (pe_lst (pa_cons pe_int (pa_cons pe_int (pa_cons (pe_op op_pow pe_int pe_int) pa_nil)))) (pe_op op_mod (pv 3) pe_int) (fun _ _ => rfl)) pa_nil))))) pa_nil))))
          (pss_one (ps_ret pe_bl))
          pss_nil))))
      (pss_one (ps_ret pe_bl))), ?_⟩
    walk_at "rd"
    have hb : ∀ x : Int, x ≤ 63 → -(2 ^ 62) ≤ (if x > 2 then x else 2) ∧ (if x > 2 then x else 2) < 2 ^ 62 ∧ (if x > 2 then x else 2).toNat ≤ 63 := fun x hx => by
      split <;> omega
    have hm : (if (6 : Int) < ((ns.map V.int).length : Int) then (6 : Int) else ((ns.map V.int).length : Int)) ≤ 63 := by split <;> omega
    refine ⟨.ref a, rfl, a, _, rfl, .inl hS, _, _, rfl, _, _, rfl, _, rfl, (hb _ hm).1, (hb _ hm).2.1, ?_⟩
    have hn := (hb _ hm).2.2
    refine for_range (fun i σ H' => ∃ y1 y2, σ = [some (.ref a), y1, y2, none] ∧ Same H H') ⟨none, none, rfl, Same.refl _⟩ (fun i σ H1 hi h => ?_) (fun σ H1 h => ?_)
    · obtain ⟨y1, y2, rfl, s1⟩ := h
      walk_at "rd"
      refine ⟨a, ns, _, rfl, s1.seq hS, by omega, by omega, fun z H2 s2 => ?_⟩
      walk_at "rd"
      refine ⟨z, rfl, fun p H3 np s3 p3 => ?_⟩
      walk_at "rd"
      have s13 := (s1.trans s2).trans s3
      have pH : H p = none := (s1.trans s2).free np
      refine ⟨10, rfl, by decide, by decide, fun D nD => ?_⟩
      refine lc_range (fun i H' => But [p] H3 H' ∧ Pool H' p ∧ H' D = some (.lst ((List.replicate i true).map V.bl))) ⟨But.new .refl nD, p3.new nD, upd_same⟩ (fun i H4 hi h => ⟨rfl, ?_⟩) (fun H4 h => ?_)
      · obtain ⟨b4, p4, hD⟩ := h
        obtain ⟨f, hat, f0, f1⟩ : ∃ f : Int, atI [V.int 4, .int 9, .int (10 ^ Int.toNat 9)] ((0 + (i : Int)) % 3) = some (.int f) ∧ 0 < f ∧ f ≤ 1000000000 := by
          obtain ⟨v, e, m⟩ := atI_lt (xs := [V.int 4, .int 9, .int (10 ^ Int.toNat 9)]) (r := (0 + (i : Int)) % 3) (by omega) (by show _ < ((3 : Nat) : Int); omega)
          simp only [List.mem_cons, List.not_mem_nil, or_false] at m
          rcases m with rfl | rfl | rfl
          · exact ⟨_, e, by decide, by decide⟩
          · exact ⟨_, e, by decide, by decide⟩
          · exact ⟨_, e, by decide, by decide⟩
        walk_at "rd"
        refine ⟨le_line (Nat.le_of_ble_eq_true rfl), fun l nl => ?_⟩
        walk_at "rd"
        have Dp : D ≠ p := p3.ne nD
        refine ⟨p, f, rfl, p4.new nl, f0, f1, fun H5 b5 p5 => ?_⟩
        have hD5 := b5 _ _ (fun z => Dp (List.mem_singleton.mp z)) ((same_new nl) _ _ hD)
        have hi10 : i < 10 := hi
        refine ⟨_, hD5, small1000 (by rw [List.length_map, List.length_replicate]; omega), ((b4.new nl).trans b5).mut nD, p5.upd Dp.symm, ?_⟩
        rw [upd_same, List.replicate_succ', List.map_append]
        rfl
      · obtain ⟨b4, p4, hD⟩ := h
        refine ⟨D, _, rfl, .inl (.inl hD), ?_⟩
        rw [all_rep]
        walk_at "rd"
        exact ⟨_, _, rfl, same_of_but ((But.of s13).trans b4) fun b m => by rw [List.mem_singleton.mp m]; exact pH⟩
    · obtain ⟨y1, y2, rfl, s1⟩ := h
      walk_at "rd"
      exact q _
end
theorem kb_recoloured {K : PySem.W.Frag} {f : Addr} {fd : FuncData} (F : Fun K "recoloured" "recoloured" s_recoloured f fd) : KBinds K fd ["colour", "pairs"] ["pairs", "colour"] kSw kSwV := by
  obtain ⟨oc, od, kV, doc, pm, an, cdv, ct, osl, rfl, _, _⟩ := F.ex
  refine ⟨fun s us ws _ hl => ?_, fun r1 r2 => r1.append (vals_rev r2)⟩
  match us, ws, hl with
  | [], [_, _], _ => exact .of_eq rfl
  | [_], [_], _ => exact .of_eq rfl
  | [_, _], [], _ => exact .of_eq rfl
  | [], [], hl => simp [kSw] at hl
  | [], [_], hl => simp [kSw] at hl
  | [_], [], hl => simp [kSw] at hl
  | [_], _ :: _ :: _, hl => simp [kSw] at hl
  | [_, _], _ :: _, hl => simp [kSw] at hl
  | [], _ :: _ :: _ :: _, hl => simp [kSw] at hl
  | _ :: _ :: _ :: _, _, hl => simp [kSw] at hl
theorem kb_combined {K : PySem.W.Frag} {f : Addr} {fd : FuncData} (F : Fun K "combined" "combined" s_combined f fd) : KBinds K fd ["pairs", "other_pairs"] ["other_pairs", "pairs"] kSw kSwV := by
  obtain ⟨oc, od, kV, doc, pm, an, cdv, ct, osl, rfl, _, _⟩ := F.ex
  refine ⟨fun s us ws _ hl => ?_, fun r1 r2 => r1.append (vals_rev r2)⟩
  match us, ws, hl with
  | [], [_, _], _ => exact .of_eq rfl
  | [_], [_], _ => exact .of_eq rfl
  | [_, _], [], _ => exact .of_eq rfl
  | [], [], hl => simp [kSw] at hl
  | [], [_], hl => simp [kSw] at hl
  | [_], [], hl => simp [kSw] at hl
  | [_], _ :: _ :: _, hl => simp [kSw] at hl
  | [_, _], _ :: _, hl => simp [kSw] at hl
  | [], _ :: _ :: _ :: _, hl => simp [kSw] at hl
  | _ :: _ :: _ :: _, _, hl => simp [kSw] at hl
theorem all_mk {l : PySem.W.OpenLaw} {w : World} {K : PySem.W.Frag} {h : Heap} {mg : Str → Option Value} {fa : Addr} (X : K.In h) (G : h.Ns mainGlobals mg) (hfa : mg "law" = some (.ref fa))
    {f0 : Addr} {od0 an0 : Option Addr} {sl0 : Array (Option Value)} {oc0 kV0 dc0 pm0 cd0 ct0 : Value}
    {f1 : Addr} {od1 an1 : Option Addr} {sl1 : Array (Option Value)} {oc1 kV1 dc1 pm1 cd1 ct1 : Value}
    {f2 : Addr} {od2 an2 : Option Addr} {sl2 : Array (Option Value)} {oc2 kV2 dc2 pm2 cd2 ct2 : Value}
    {f3 : Addr} {od3 an3 : Option Addr} {sl3 : Array (Option Value)} {oc3 kV3 dc3 pm3 cd3 ct3 : Value}
    {f4 : Addr} {od4 an4 : Option Addr} {sl4 : Array (Option Value)} {oc4 kV4 dc4 pm4 cd4 ct4 : Value}
    {f5 : Addr} {od5 an5 : Option Addr} {sl5 : Array (Option Value)} {oc5 kV5 dc5 pm5 cd5 ct5 : Value}
    {f6 : Addr} {od6 an6 : Option Addr} {sl6 : Array (Option Value)} {oc6 kV6 dc6 pm6 cd6 ct6 : Value}
    {f7 : Addr} {od7 an7 : Option Addr} {sl7 : Array (Option Value)} {oc7 kV7 dc7 pm7 cd7 ct7 : Value}
    {f8 : Addr} {od8 an8 : Option Addr} {sl8 : Array (Option Value)} {oc8 kV8 dc8 pm8 cd8 ct8 : Value}
    {f9 : Addr} {od9 an9 : Option Addr} {sl9 : Array (Option Value)} {oc9 kV9 dc9 pm9 cd9 ct9 : Value}
    {f10 : Addr} {od10 an10 : Option Addr} {sl10 : Array (Option Value)} {oc10 kV10 dc10 pm10 cd10 ct10 : Value}
    {f11 : Addr} {od11 an11 : Option Addr} {sl11 : Array (Option Value)} {oc11 kV11 dc11 pm11 cd11 ct11 : Value}
    {f12 : Addr} {od12 an12 : Option Addr} {sl12 : Array (Option Value)} {oc12 kV12 dc12 pm12 cd12 ct12 : Value}
    {f13 : Addr} {od13 an13 : Option Addr} {sl13 : Array (Option Value)} {oc13 kV13 dc13 pm13 cd13 ct13 : Value}
    {f14 : Addr} {od14 an14 : Option Addr} {sl14 : Array (Option Value)} {oc14 kV14 dc14 pm14 cd14 ct14 : Value}
    {f15 : Addr} {od15 an15 : Option Addr} {sl15 : Array (Option Value)} {oc15 kV15 dc15 pm15 cd15 ct15 : Value}
    {tk0 : Tok}
    (a0 : PySem.W.nsIn K mainGlobals "is_int" = some (some (.ref f0)))
    (l0 : K.lookup f0 = some ⟨oc0, od0, .func (PySem.W.fnOf "is_int" "is_int" (defArgs s_is_int) (defBody s_is_int) (defScope s_is_int) .none kV0 dc0 pm0 an0 cd0 ct0), sl0⟩)
    (c0 : PySem.W.codeIn K cd0 "is_int" = true) (k0 : PySem.W.keepIn K (.ref f0) = true)
    (a1 : PySem.W.nsIn K mainGlobals "is_between" = some (some (.ref f1)))
    (l1 : K.lookup f1 = some ⟨oc1, od1, .func (PySem.W.fnOf "is_between" "is_between" (defArgs s_is_between) (defBody s_is_between) (defScope s_is_between) .none kV1 dc1 pm1 an1 cd1 ct1), sl1⟩)
    (c1 : PySem.W.codeIn K cd1 "is_between" = true) (k1 : PySem.W.keepIn K (.ref f1) = true)
    (a2 : PySem.W.nsIn K mainGlobals "is_colour" = some (some (.ref f2)))
    (l2 : K.lookup f2 = some ⟨oc2, od2, .func (PySem.W.fnOf "is_colour" "is_colour" (defArgs s_is_colour) (defBody s_is_colour) (defScope s_is_colour) .none kV2 dc2 pm2 an2 cd2 ct2), sl2⟩)
    (c2 : PySem.W.codeIn K cd2 "is_colour" = true) (k2 : PySem.W.keepIn K (.ref f2) = true)
    (a3 : PySem.W.nsIn K mainGlobals "check_colour" = some (some (.ref f3)))
    (l3 : K.lookup f3 = some ⟨oc3, od3, .func (PySem.W.fnOf "check_colour" "check_colour" (defArgs s_check_colour) (defBody s_check_colour) (defScope s_check_colour) .none kV3 dc3 pm3 an3 cd3 ct3), sl3⟩)
    (c3 : PySem.W.codeIn K cd3 "check_colour" = true) (k3 : PySem.W.keepIn K (.ref f3) = true)
    (a4 : PySem.W.nsIn K mainGlobals "is_pair" = some (some (.ref f4)))
    (l4 : K.lookup f4 = some ⟨oc4, od4, .func (PySem.W.fnOf "is_pair" "is_pair" (defArgs s_is_pair) (defBody s_is_pair) (defScope s_is_pair) .none kV4 dc4 pm4 an4 cd4 ct4), sl4⟩)
    (c4 : PySem.W.codeIn K cd4 "is_pair" = true) (k4 : PySem.W.keepIn K (.ref f4) = true)
    (a5 : PySem.W.nsIn K mainGlobals "is_pairs" = some (some (.ref f5)))
    (l5 : K.lookup f5 = some ⟨oc5, od5, .func (PySem.W.fnOf "is_pairs" "is_pairs" (defArgs s_is_pairs) (defBody s_is_pairs) (defScope s_is_pairs) .none kV5 dc5 pm5 an5 cd5 ct5), sl5⟩)
    (c5 : PySem.W.codeIn K cd5 "is_pairs" = true) (k5 : PySem.W.keepIn K (.ref f5) = true)
    (a6 : PySem.W.nsIn K mainGlobals "check_pairs" = some (some (.ref f6)))
    (l6 : K.lookup f6 = some ⟨oc6, od6, .func (PySem.W.fnOf "check_pairs" "check_pairs" (defArgs s_check_pairs) (defBody s_check_pairs) (defScope s_check_pairs) .none kV6 dc6 pm6 an6 cd6 ct6), sl6⟩)
    (c6 : PySem.W.codeIn K cd6 "check_pairs" = true) (k6 : PySem.W.keepIn K (.ref f6) = true)
    (a7 : PySem.W.nsIn K mainGlobals "recoloured" = some (some (.ref f7)))
    (l7 : K.lookup f7 = some ⟨oc7, od7, .func (PySem.W.fnOf "recoloured" "recoloured" (defArgs s_recoloured) (defBody s_recoloured) (defScope s_recoloured) .none kV7 dc7 pm7 an7 cd7 ct7), sl7⟩)
    (c7 : PySem.W.codeIn K cd7 "recoloured" = true) (k7 : PySem.W.keepIn K (.ref f7) = true)
    (a8 : PySem.W.nsIn K mainGlobals "combined" = some (some (.ref f8)))
    (l8 : K.lookup f8 = some ⟨oc8, od8, .func (PySem.W.fnOf "combined" "combined" (defArgs s_combined) (defBody s_combined) (defScope s_combined) .none kV8 dc8 pm8 an8 cd8 ct8), sl8⟩)
    (c8 : PySem.W.codeIn K cd8 "combined" = true) (k8 : PySem.W.keepIn K (.ref f8) = true)
    (a9 : PySem.W.nsIn K mainGlobals "_law_cell" = some (some (.ref f9)))
    (l9 : K.lookup f9 = some ⟨oc9, od9, .func (PySem.W.fnOf "_law_cell" "_law_cell" (defArgs s_cell) (defBody s_cell) (defScope s_cell) .none kV9 dc9 pm9 an9 cd9 ct9), sl9⟩)
    (c9 : PySem.W.codeIn K cd9 "_law_cell" = true) (k9 : PySem.W.keepIn K (.ref f9) = true)
    (a10 : PySem.W.nsIn K mainGlobals "_law_pool" = some (some (.ref f10)))
    (l10 : K.lookup f10 = some ⟨oc10, od10, .func (PySem.W.fnOf "_law_pool" "_law_pool" (defArgs s_pool) (defBody s_pool) (defScope s_pool) .none kV10 dc10 pm10 an10 cd10 ct10), sl10⟩)
    (c10 : PySem.W.codeIn K cd10 "_law_pool" = true) (k10 : PySem.W.keepIn K (.ref f10) = true)
    (a11 : PySem.W.nsIn K mainGlobals "_law_draw" = some (some (.ref f11)))
    (l11 : K.lookup f11 = some ⟨oc11, od11, .func (PySem.W.fnOf "_law_draw" "_law_draw" (defArgs s_draw) (defBody s_draw) (defScope s_draw) .none kV11 dc11 pm11 an11 cd11 ct11), sl11⟩)
    (c11 : PySem.W.codeIn K cd11 "_law_draw" = true) (k11 : PySem.W.keepIn K (.ref f11) = true)
    (a12 : PySem.W.nsIn K mainGlobals "_law_pairs" = some (some (.ref f12)))
    (l12 : K.lookup f12 = some ⟨oc12, od12, .func (PySem.W.fnOf "_law_pairs" "_law_pairs" (defArgs s_pairs) (defBody s_pairs) (defScope s_pairs) .none kV12 dc12 pm12 an12 cd12 ct12), sl12⟩)
    (c12 : PySem.W.codeIn K cd12 "_law_pairs" = true) (k12 : PySem.W.keepIn K (.ref f12) = true)
    (a13 : PySem.W.nsIn K mainGlobals "_law_turned" = some (some (.ref f13)))
    (l13 : K.lookup f13 = some ⟨oc13, od13, .func (PySem.W.fnOf "_law_turned" "_law_turned" (defArgs s_turned) (defBody s_turned) (defScope s_turned) .none kV13 dc13 pm13 an13 cd13 ct13), sl13⟩)
    (c13 : PySem.W.codeIn K cd13 "_law_turned" = true) (k13 : PySem.W.keepIn K (.ref f13) = true)
    (a14 : PySem.W.nsIn K mainGlobals "_law_right" = some (some (.ref f14)))
    (l14 : K.lookup f14 = some ⟨oc14, od14, .func (PySem.W.fnOf "_law_right" "_law_right" (defArgs s_right) (defBody s_right) (defScope s_right) .none kV14 dc14 pm14 an14 cd14 ct14), sl14⟩)
    (c14 : PySem.W.codeIn K cd14 "_law_right" = true) (k14 : PySem.W.keepIn K (.ref f14) = true)
    (a15 : PySem.W.nsIn K mainGlobals "law" = some (some (.ref f15)))
    (l15 : K.lookup f15 = some ⟨oc15, od15, .func (PySem.W.fnOf "law" "law" (defArgs s_law) (defBody s_law) (defScope s_law) .none kV15 dc15 pm15 an15 cd15 ct15), sl15⟩)
    (c15 : PySem.W.codeIn K cd15 "law" = true) (k15 : PySem.W.keepIn K (.ref f15) = true)
    (z0 : PySem.W.nsIn K mainGlobals "abs" = some none)
    (z1 : PySem.W.nsIn K mainGlobals "all" = some none)
    (z2 : PySem.W.nsIn K mainGlobals "any" = some none)
    (z3 : PySem.W.nsIn K mainGlobals "bool" = some none)
    (z4 : PySem.W.nsIn K mainGlobals "dict" = some none)
    (z5 : PySem.W.nsIn K mainGlobals "divmod" = some none)
    (z6 : PySem.W.nsIn K mainGlobals "int" = some none)
    (z7 : PySem.W.nsIn K mainGlobals "isinstance" = some none)
    (z8 : PySem.W.nsIn K mainGlobals "len" = some none)
    (z9 : PySem.W.nsIn K mainGlobals "max" = some none)
    (z10 : PySem.W.nsIn K mainGlobals "min" = some none)
    (z11 : PySem.W.nsIn K mainGlobals "range" = some none)
    (z12 : PySem.W.nsIn K mainGlobals "sorted" = some none)
    (z13 : PySem.W.nsIn K mainGlobals "tuple" = some none)
    (z14 : PySem.W.nsIn K mainGlobals "zip" = some none)
    (y0 : PySem.W.nsIn K mainGlobals "MOST_COLOUR" = some (some (.int 1000000000 tk0))) :
    ∃ fd : FuncData, (∀ (s : Shared) (v : Value), BindsTo s fd ⟨[v], []⟩ [("_law_script", v)]) ∧ ∀ base : Heap, K.In base → base.Ns mainGlobals mg → FnOk l.prog w K mg base CX0 9 fa fd ["_law_script"] (spLaw K) := by
  have e := hfa.symm.trans (PySem.W.mg_of X G a15)
  cases e
  have F0 := fun_mk (st := s_is_int) l0 c0 k0
  have F1 := fun_mk (st := s_is_between) l1 c1 k1
  have F2 := fun_mk (st := s_is_colour) l2 c2 k2
  have F3 := fun_mk (st := s_check_colour) l3 c3 k3
  have F4 := fun_mk (st := s_is_pair) l4 c4 k4
  have F5 := fun_mk (st := s_is_pairs) l5 c5 k5
  have F6 := fun_mk (st := s_check_pairs) l6 c6 k6
  have F7 := fun_mk (st := s_recoloured) l7 c7 k7
  have F8 := fun_mk (st := s_combined) l8 c8 k8
  have F9 := fun_mk (st := s_cell) l9 c9 k9
  have F10 := fun_mk (st := s_pool) l10 c10 k10
  have F11 := fun_mk (st := s_draw) l11 c11 k11
  have F12 := fun_mk (st := s_pairs) l12 c12 k12
  have F13 := fun_mk (st := s_turned) l13 c13 k13
  have F14 := fun_mk (st := s_right) l14 c14 k14
  have F15 := fun_mk (st := s_law) l15 c15 k15
  refine ⟨_, fun s v => .of_eq rfl, fun base _ _ => ok_law (A := ⟨f0, (PySem.W.fnOf "is_int" "is_int" (defArgs s_is_int) (defBody s_is_int) (defScope s_is_int) .none kV0 dc0 pm0 an0 cd0 ct0),
    f1, (PySem.W.fnOf "is_between" "is_between" (defArgs s_is_between) (defBody s_is_between) (defScope s_is_between) .none kV1 dc1 pm1 an1 cd1 ct1),
    f2, (PySem.W.fnOf "is_colour" "is_colour" (defArgs s_is_colour) (defBody s_is_colour) (defScope s_is_colour) .none kV2 dc2 pm2 an2 cd2 ct2),
    f3, (PySem.W.fnOf "check_colour" "check_colour" (defArgs s_check_colour) (defBody s_check_colour) (defScope s_check_colour) .none kV3 dc3 pm3 an3 cd3 ct3),
    f4, (PySem.W.fnOf "is_pair" "is_pair" (defArgs s_is_pair) (defBody s_is_pair) (defScope s_is_pair) .none kV4 dc4 pm4 an4 cd4 ct4),
    f5, (PySem.W.fnOf "is_pairs" "is_pairs" (defArgs s_is_pairs) (defBody s_is_pairs) (defScope s_is_pairs) .none kV5 dc5 pm5 an5 cd5 ct5),
    f6, (PySem.W.fnOf "check_pairs" "check_pairs" (defArgs s_check_pairs) (defBody s_check_pairs) (defScope s_check_pairs) .none kV6 dc6 pm6 an6 cd6 ct6),
    f7, (PySem.W.fnOf "recoloured" "recoloured" (defArgs s_recoloured) (defBody s_recoloured) (defScope s_recoloured) .none kV7 dc7 pm7 an7 cd7 ct7),
    f8, (PySem.W.fnOf "combined" "combined" (defArgs s_combined) (defBody s_combined) (defScope s_combined) .none kV8 dc8 pm8 an8 cd8 ct8),
    f9, (PySem.W.fnOf "_law_cell" "_law_cell" (defArgs s_cell) (defBody s_cell) (defScope s_cell) .none kV9 dc9 pm9 an9 cd9 ct9),
    f10, (PySem.W.fnOf "_law_pool" "_law_pool" (defArgs s_pool) (defBody s_pool) (defScope s_pool) .none kV10 dc10 pm10 an10 cd10 ct10),
    f11, (PySem.W.fnOf "_law_draw" "_law_draw" (defArgs s_draw) (defBody s_draw) (defScope s_draw) .none kV11 dc11 pm11 an11 cd11 ct11),
    f12, (PySem.W.fnOf "_law_pairs" "_law_pairs" (defArgs s_pairs) (defBody s_pairs) (defScope s_pairs) .none kV12 dc12 pm12 an12 cd12 ct12),
    f13, (PySem.W.fnOf "_law_turned" "_law_turned" (defArgs s_turned) (defBody s_turned) (defScope s_turned) .none kV13 dc13 pm13 an13 cd13 ct13),
    f14, (PySem.W.fnOf "_law_right" "_law_right" (defArgs s_right) (defBody s_right) (defScope s_right) .none kV14 dc14 pm14 an14 cd14 ct14),
    fa, (PySem.W.fnOf "law" "law" (defArgs s_law) (defBody s_law) (defScope s_law) .none kV15 dc15 pm15 an15 cd15 ct15),
    tk0⟩) ?_⟩
  exact {
    F_is_int := F0
    B_is_int := F0.binds fun _ _ _ _ _ _ us hl => match us, hl with | [_], _ => rfl
    g_is_int := PySem.W.mg_of X G a0
    F_is_between := F1
    B_is_between := F1.binds fun _ _ _ _ _ _ us hl => match us, hl with | [_, _, _], _ => rfl
    g_is_between := PySem.W.mg_of X G a1
    F_is_colour := F2
    B_is_colour := F2.binds fun _ _ _ _ _ _ us hl => match us, hl with | [_], _ => rfl
    g_is_colour := PySem.W.mg_of X G a2
    F_check_colour := F3
    B_check_colour := F3.binds fun _ _ _ _ _ _ us hl => match us, hl with | [_], _ => rfl
    g_check_colour := PySem.W.mg_of X G a3
    F_is_pair := F4
    B_is_pair := F4.binds fun _ _ _ _ _ _ us hl => match us, hl with | [_], _ => rfl
    g_is_pair := PySem.W.mg_of X G a4
    F_is_pairs := F5
    B_is_pairs := F5.binds fun _ _ _ _ _ _ us hl => match us, hl with | [_], _ => rfl
    g_is_pairs := PySem.W.mg_of X G a5
    F_check_pairs := F6
    B_check_pairs := F6.binds fun _ _ _ _ _ _ us hl => match us, hl with | [_], _ => rfl
    g_check_pairs := PySem.W.mg_of X G a6
    F_recoloured := F7
    B_recoloured := F7.binds fun _ _ _ _ _ _ us hl => match us, hl with | [_, _], _ => rfl
    g_recoloured := PySem.W.mg_of X G a7
    F_combined := F8
    B_combined := F8.binds fun _ _ _ _ _ _ us hl => match us, hl with | [_, _], _ => rfl
    g_combined := PySem.W.mg_of X G a8
    F_cell := F9
    B_cell := F9.binds fun _ _ _ _ _ _ us hl => match us, hl with | [_, _], _ => rfl
    g_cell := PySem.W.mg_of X G a9
    F_pool := F10
    B_pool := F10.binds fun _ _ _ _ _ _ us hl => match us, hl with | [_], _ => rfl
    g_pool := PySem.W.mg_of X G a10
    F_draw := F11
    B_draw := F11.binds fun _ _ _ _ _ _ us hl => match us, hl with | [_, _], _ => rfl
    g_draw := PySem.W.mg_of X G a11
    F_pairs := F12
    B_pairs := F12.binds fun _ _ _ _ _ _ us hl => match us, hl with | [_, _, _], _ => rfl
    g_pairs := PySem.W.mg_of X G a12
    F_turned := F13
    B_turned := F13.binds fun _ _ _ _ _ _ us hl => match us, hl with | [_, _], _ => rfl
    g_turned := PySem.W.mg_of X G a13
    F_right := F14
    B_right := F14.binds fun _ _ _ _ _ _ us hl => match us, hl with | [_, _], _ => rfl
    g_right := PySem.W.mg_of X G a14
    F_law := F15
    B_law := F15.binds fun _ _ _ _ _ _ us hl => match us, hl with | [_], _ => rfl
    g_law := PySem.W.mg_of X G a15
    K_recoloured_pairs_colour := kb_recoloured F7
    K_combined_other_pairs_pairs := kb_combined F8
    m_abs := PySem.W.mg_none_of X G z0
    m_all := PySem.W.mg_none_of X G z1
    m_any := PySem.W.mg_none_of X G z2
    m_bool := PySem.W.mg_none_of X G z3
    m_dict := PySem.W.mg_none_of X G z4
    m_divmod := PySem.W.mg_none_of X G z5
    m_int := PySem.W.mg_none_of X G z6
    m_isinstance := PySem.W.mg_none_of X G z7
    m_len := PySem.W.mg_none_of X G z8
    m_max := PySem.W.mg_none_of X G z9
    m_min := PySem.W.mg_none_of X G z10
    m_range := PySem.W.mg_none_of X G z11
    m_sorted := PySem.W.mg_none_of X G z12
    m_tuple := PySem.W.mg_none_of X G z13
    m_zip := PySem.W.mg_none_of X G z14
    g_MOST_COLOUR := PySem.W.mg_of X G y0 }
end K09
open PySem PySem.W PyProof.Rows
set_option maxHeartbeats 0 in
theorem PySem.Challenge.cw_allscreens_k09_colours_turned_holds : PySem.Challenge.rw_allscreens_k09_colours_turned.Holds := by
  w_on; o_law; k_head; (case hw => w_witness2)
  k_fill
  refine L2.walk_of (l := PySem.Challenge.rw_allscreens_k09_colours_turned) (n := 63) (k := 9) (x := "_law_script") (CX := fun _ => L2.CX0) (sp := fun w => K09.spLaw _) rfl (by decide) rfl ⟨rfl, by decide, by decide⟩ (fun w h Y => PySem.W.kIn_of Y) ?F (fun _ _ a ns hl _ hS => K09.spLaw_of hl hS) (fun _ _ _ _ _ h => h)
  case F =>
    intro w mg fa h KX G hmg
    refine' K09.all_mk (l := PySem.Challenge.rw_allscreens_k09_colours_turned) (w := w) KX G hmg ?a0 ?l0 ?c0 ?k0 ?a1 ?l1 ?c1 ?k1 ?a2 ?l2 ?c2 ?k2 ?a3 ?l3 ?c3 ?k3 ?a4 ?l4 ?c4 ?k4 ?a5 ?l5 ?c5 ?k5 ?a6 ?l6 ?c6 ?k6 ?a7 ?l7 ?c7 ?k7 ?a8 ?l8 ?c8 ?k8 ?a9 ?l9 ?c9 ?k9 ?a10 ?l10 ?c10 ?k10 ?a11 ?l11 ?c11 ?k11 ?a12 ?l12 ?c12 ?k12 ?a13 ?l13 ?c13 ?k13 ?a14 ?l14 ?c14 ?k14 ?a15 ?l15 ?c15 ?k15 ?z0 ?z1 ?z2 ?z3 ?z4 ?z5 ?z6 ?z7 ?z8 ?z9 ?z10 ?z11 ?z12 ?z13 ?z14 ?y0
    (case a0 => k_is); (case l0 => k_is); (case c0 => k_is); (case k0 => k_is); (case a1 => k_is); (case l1 => k_is); (case c1 => k_is); (case k1 => k_is); (case a2 => k_is); (case l2 => k_is); (case c2 => k_is); (case k2 => k_is); (case a3 => k_is); (case l3 => k_is); (case c3 => k_is); (case k3 => k_is); (case a4 => k_is); (case l4 => k_is); (case c4 => k_is); (case k4 => k_is); (case a5 => k_is); (case l5 => k_is); (case c5 => k_is); (case k5 => k_is); (case a6 => k_is); (case l6 => k_is); (case c6 => k_is); (case k6 => k_is); (case a7 => k_is); (case l7 => k_is); (case c7 => k_is); (case k7 => k_is); (case a8 => k_is); (case l8 => k_is); (case c8 => k_is); (case k8 => k_is); (case a9 => k_is); (case l9 => k_is); (case c9 => k_is); (case k9 => k_is); (case a10 => k_is); (case l10 => k_is); (case c10 => k_is); (case k10 => k_is); (case a11 => k_is); (case l11 => k_is); (case c11 => k_is); (case k11 => k_is); (case a12 => k_is); (case l12 => k_is); (case c12 => k_is); (case k12 => k_is); (case a13 => k_is); (case l13 => k_is); (case c13 => k_is); (case k13 => k_is); (case a14 => k_is); (case l14 => k_is); (case c14 => k_is); (case k14 => k_is); (case a15 => k_is); (case l15 => k_is); (case c15 => k_is); (case k15 => k_is); (case z0 => k_is); (case z1 => k_is); (case z2 => k_is); (case z3 => k_is); (case z4 => k_is); (case z5 => k_is); (case z6 => k_is); (case z7 => k_is); (case z8 => k_is); (case z9 => k_is); (case z10 => k_is); (case z11 => k_is); (case z12 => k_is); (case z13 => k_is); (case z14 => k_is); (case y0 => k_is)

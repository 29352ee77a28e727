import PyProof.Rows.All
import Wide.All
import OpenK.AllK
import Wide.FinOn
import HandS.ForMost
import HandS.IsInst
import HandS.WideBits
import HandS.TupLe
import HandS.TupAny
import HandS.Exc
import HandS.TryOnly
import HandS.ExcInit
import HandS.Lambda
import HandS.EndTab
import KE.KTryMore
import KE.KExcIs
import HandS.ExcValue
import KE.KExcInit
import HandS.Conv
import HandS.DictComp
import HandS.Deep
import HandS.SetFor
import PySem.Challenge.RW_allscreens_k13_limits_and_errors
set_option Elab.async false
set_option linter.all false
set_option maxRecDepth 100000
set_option maxHeartbeats 4000000
namespace Vk
open PySem PySem.Spec PyProof.Rows L2

/-! ## reading, one step at a time -/
section
variable {K : PySem.W.Frag} {D : Ends} {σ : L2.St} {H : Hp} {Q : VK} {t u : TS} {te ta tb tc : TE} {g : TG} {i : Nat} {v x y : V} {r r' : R2}
theorem rd_seq (h : t { D with nx := u D } σ H) : tSeq t u D σ H := h
theorem rd_asg (h : te σ H fun x H1 => g x σ H1 D.nx) : tAsg te g D σ H := h
theorem rd_ret (h : te σ H D.rt) : tRet te D σ H := h
theorem rd_drop (h : te σ H fun _ H1 => D.nx σ H1) : tDrop te D σ H := h
theorem rd_nx (h : D.nx σ H) : tNext D σ H := h
theorem rd_nm {Qg : L2.St → Hp → Prop} (h : Qg (σ.set i (some v)) H) : gName i v σ H Qg := h
theorem rd_var (h : σ[i]? = some (some v)) (q : Q v H) : tVar i σ H Q := ⟨v, h, q⟩
theorem rd_c (q : Q v H) : tC v σ H Q := q
theorem rd_op (h : ta σ H fun x H1 => tb σ H1 fun y H2 => r x y H2 Q) : tOp r ta tb σ H Q := h
theorem rd_un {ru : V → Hp → VK → Prop} (h : ta σ H fun x H1 => ru x H1 Q) : tUn ru ta σ H Q := h
theorem rd_i0 {g : Int → Int → V} {a b : Int} (q : Q (g a b) H) : rI0 g (.int a) (.int b) H Q := ⟨a, b, rfl, rfl, q⟩
theorem rd_i {C : Int → Int → Prop} {g : Int → Int → V} {a b : Int} (c : C a b) (q : Q (g a b) H) : rI C g (.int a) (.int b) H Q := ⟨a, b, rfl, rfl, c, q⟩
theorem rd_u {g : Int → V} {a : Int} (q : Q (g a) H) : rU g (.int a) H Q := ⟨a, rfl, q⟩
theorem rd_eq (h : scal x y = true) (q : Q (.bl (decide (x = y))) H) : rEq x y H Q := ⟨h, q⟩
theorem rd_ne (h : scal x y = true) (q : Q (.bl (!decide (x = y))) H) : rNe x y H Q := ⟨h, q⟩
theorem rd_test {Qt : Bool → Hp → Prop} (h : te σ H fun x H' => ∃ k, x = .bl k ∧ Qt k H') : tTest te σ H Qt := h
theorem rd_tb {Qt : Bool → Hp → Prop} (h : te σ H fun x H' => ∃ k, x = .bl k ∧ Qt k H') : tB te σ H Qt := h
theorem rd_bl {b : Bool} {R : Bool → Prop} (h : R b) : ∃ k, V.bl b = .bl k ∧ R k := ⟨b, rfl, h⟩
theorem rd_2 {b : Bool} {A B : Prop} (h1 : b = true → A) (h2 : b = false → B) : if b = true then A else B := by
  cases b with
  | true => exact iteT (h1 rfl)
  | false => exact iteF (h2 rfl)
theorem rd_chain (h : ta σ H fun x H1 => tb σ H1 fun y H2 => r x y H2 fun z H3 => ∃ k, z = .bl k ∧ (if k = true then tc σ H3 fun w' H4 => r' y w' H4 Q else Q (.bl false) H3)) : tChain r r' ta tb tc σ H Q := h
theorem rd_ifs {c : TT} (h : c σ H fun b H1 => if b = true then t D σ H1 else u D σ H1) : tIfS c t u D σ H := h
theorem rd_ife {c : TT} (h : c σ H fun b H1 => if b = true then ta σ H1 Q else tb σ H1 Q) : tIf c ta tb σ H Q := h
theorem rd_and {a b : TT} {Qt : Bool → Hp → Prop} (h : a σ H fun c H1 => if c = true then b σ H1 Qt else Qt false H1) : tAnd a b σ H Qt := h
theorem rd_or {a b : TT} {Qt : Bool → Hp → Prop} (h : a σ H fun c H1 => if c = true then Qt true H1 else b σ H1 Qt) : tOr a b σ H Qt := h
theorem rd_not {a : TT} {Qt : Bool → Hp → Prop} (h : a σ H fun c H1 => Qt (!c) H1) : tNot a σ H Qt := h
theorem rd_andV (h : ta σ H fun x H1 => ∃ c, x = .bl c ∧ if c = true then tb σ H1 Q else Q (.bl false) H1) : tAndV ta tb σ H Q := h
theorem rd_orV (h : ta σ H fun x H1 => ∃ c, x = .bl c ∧ if c = true then Q (.bl true) H1 else tb σ H1 Q) : tOrV ta tb σ H Q := h
theorem rd_notV (h : ta σ H fun x H1 => ∃ c, x = .bl c ∧ Q (.bl (!c)) H1) : tNotV ta σ H Q := h
theorem rd_yes {Qt : Bool → Hp → Prop} (h : Qt true H) : tYes σ H Qt := h
theorem rd_nil {Qa : List V → Hp → Prop} (q : Qa [] H) : tNil σ H Qa := q
theorem rd_cons {tr : TA} {Qa : List V → Hp → Prop} (h : ta σ H fun x H1 => tr σ H1 fun xs H2 => Qa (x :: xs) H2) : tCons ta tr σ H Qa := h
theorem rd_call {sp : Sp} {dvs : List V} {E : XK} {tl : TA} (h : tl σ H fun vs H1 => sp (vs ++ dvs) H1 Q E) : tCall sp dvs E tl σ H Q := h
theorem rd_cb {rc : List V → Hp → VK → Prop} {tl : TA} (h : tl σ H fun vs H1 => rc vs H1 Q) : tCB rc tl σ H Q := h
theorem rd_sub {to ti : TE} {ts : TSet} {Qg : L2.St → Hp → Prop} (h : to σ H fun o H1 => ti σ H1 fun i H2 => ts o i v H2 fun H3 => Qg σ H3) : gSub to ti ts v σ H Qg := h
theorem rd_tup {tl : TA} (h : tl σ H fun xs H1 => xs.length ≤ sizeLine ∧ ∀ p, H1 p = none → Q (.ref p) (upd H1 p (.tup xs))) : tTup tl σ H Q := h
theorem rd_lst {tl : TA} (h : tl σ H fun xs H1 => xs.length ≤ sizeLine ∧ ∀ p, H1 p = none → Q (.ref p) (upd H1 p (.lst xs))) : tLst tl σ H Q := h
theorem rd_ixl {p : Addr} {xs : List V} {a : Int} (h : SqL K H p xs) (e : atI xs a = some v) (q : Q v H) : rIxL K (.ref p) (.int a) H Q := ⟨p, xs, a, v, rfl, rfl, h, e, q⟩
theorem rd_ixt {p : Addr} {xs : List V} {a : Int} (h : SqT K H p xs) (e : atI xs a = some v) (q : Q v H) : rIxT K (.ref p) (.int a) H Q := ⟨p, xs, a, v, rfl, rfl, h, e, q⟩
theorem rd_setl {p : Addr} {xs : List V} {a : Int} {j : Nat} {Qh : Hp → Prop} (h : H p = some (.lst xs)) (e : ixN xs.length a = some j) (q : Qh (upd H p (.lst (xs.set j v)))) : rSetL (.ref p) (.int a) v H Qh := ⟨p, xs, a, j, rfl, rfl, h, e, q⟩
theorem rd_T {A B : Prop} (h : A) : if true = true then A else B := iteT h
theorem rd_Tt {b : Bool} {A B : Prop} (e : b = true) (h : A) : if b = true then A else B := (if_pos e).symm ▸ h
theorem rd_Ff {b : Bool} {A B : Prop} (e : b = false) (h : B) : if b = true then A else B := (if_neg (by rw [e]; exact Bool.false_ne_true) : (if b = true then A else B) = B).symm ▸ h
theorem rd_F {A B : Prop} (h : B) : if false = true then A else B := iteF h
end

/-! ## further rules -/
theorem room64 {k : Nat} {A : Around} {e : Env} (hr : Room k (A.deeper e)) : (A.deeper e).units + 64 < cLine := hr.units
section
variable {X : Cx}
theorem call_repr_bl : CallR X (.builtin "repr") (fun xs H Q => ∃ b : Bool, xs = [.bl b] ∧ Q (.str (if b then "True" else "False")) H) := by
  intro ps s σ H xs us Q I rel h
  obtain ⟨b, rfl, q⟩ := h
  obtain ⟨u0, rfl, e⟩ := vals1 rel
  cases (show u0 = Value.bool b from e)
  exact PySem.P.repr_of_bool ⟨.str (if b then "True" else "False"), H, I.tok _, ⟨_, rfl⟩, q⟩
/-- only keywords -/
theorem pe_callK0 {CX : CXT} {k : Nat} {f : Addr} {fd : FuncData} {ps ks : List Str} {sp : Sp} {E : XK} {nm : Str} {p0 pos : Pos} {kws : List Keyword} {tk : TA} {g : List Value → List Value → List Value} {gV : List V → List V → List V}
    (F : FnOk X.prog X.w X.K X.mg X.base CX k f fd ps sp) (room : Room k X.A) (isg : Gl X nm) (hm : X.mg nm = some (.ref f)) (kp : PySem.W.keepIn X.K (.ref f) = true) (kb : KBinds X.K fd ps ks g gV) (pa : Passes CX X E)
    (hkw : PK X kws tk) (h1 : (backToKw pos (keywordEach kws X.env)).all (·.1.isSome) = true := by rfl) (h2 : (backToKw pos (keywordEach kws X.env)).filterMap (·.1) = ks := by rfl)
    (h3 : (nm == ("__debug__" : Str)) = false := by decide) (h4 : ((backTo pos (starEach [] X.env)).any (·.1) || (backToKw pos (keywordEach kws X.env)).any (·.1.isNone)) = false := by rfl) :
    PE X (.Call (.Name nm p0) [] kws pos) (tCallK sp gV E tNil tk) :=
  ⟨fun pins s σ H Q I hw => wpAny_Call_Name_kw (ld_glob I isg hm (PySem.W.callWith_KW0 (h₀ := X.base) I.ok.mod.kin kp h1
    (thn (hkw.run pos pins s σ H _ I hw) fun ws s2 ⟨zs, H2, I2, rz, q2⟩ => ⟨I2.kIn, h2 ▸ run_fnk (us := []) (vs := []) F room kb pa I2 .nil rz q2⟩) h4) h3)⟩
end
theorem rd_callK {σ : L2.St} {H : Hp} {Q : VK} {sp : Sp} {gV : List V → List V → List V} {E : XK} {t tk : TA} (h : t σ H fun vs H1 => tk σ H1 fun zs H2 => sp (gV vs zs) H2 Q E) : tCallK sp gV E t tk σ H Q := h
abbrev kCat : List Value → List Value → List Value := fun us ws => us ++ ws
abbrev kCatV : List V → List V → List V := fun us ws => us ++ ws

/-! ## heaps: what a call that touches one list leaves -/
/-- all but the objects at B is as it was -/
def But (B : List Addr) (H H' : Hp) : Prop := ∀ b o, b ∉ B → H b = some o → H' b = some o
theorem But.refl {B : List Addr} {H : Hp} : But B H H := fun _ _ _ h => h
theorem But.trans {B : List Addr} {H H1 H2 : Hp} (e : But B H H1) (f : But B H1 H2) : But B H H2 := fun b o n h => f b o n (e b o n h)
theorem But.wide {B B' : List Addr} {H H' : Hp} (e : But B H H') (s : ∀ b, b ∉ B' → b ∉ B) : But B' H H' := fun b o n h => e b o (s b n) h
theorem But.of {B : List Addr} {H H' : Hp} (e : Same H H') : But B H H' := fun b o _ h => e b o h
theorem But.set {B : List Addr} {a : Addr} {H H' : Hp} {o : HO} (e : But B H H') (m : a ∈ B) : But B H (upd H' a o) := fun b u n h =>
  (upd_ne (fun z => n (by rw [z]; exact m))).trans (e b u n h)
theorem But.new {B : List Addr} {p : Addr} {H H' : Hp} {o : HO} (e : But B H H') (n : H' p = none) : But B H (upd H' p o) := fun b u nb h =>
  (upd_ne (ne_of_none (e b u nb h) n)).trans (e b u nb h)
/-- an object that H does not know may change -/
theorem But.mut {B : List Addr} {p : Addr} {H H' : Hp} {o : HO} (e : But B H H') (n : H p = none) : But B H (upd H' p o) := fun b u nb h =>
  (upd_ne (ne_of_none h n)).trans (e b u nb h)
theorem same_of_but {B : List Addr} {H H' : Hp} (e : But B H H') (n : ∀ p, p ∈ B → H p = none) : Same H H' := fun b o h => e b o (fun m => by rw [n b m] at h; cases h) h
theorem same_mut {H H' : Hp} {p : Addr} {o : HO} (e : Same H H') (n : H p = none) : Same H (upd H' p o) := fun b u h => (upd_ne (ne_of_none h n)).trans (e b u h)
theorem same_new {H : Hp} {p : Addr} {o : HO} (h : H p = none) : Same H (upd H p o) := fun b u e => (upd_ne (ne_of_none e h)).trans e
theorem But.seqL {K : PySem.W.Frag} {B : List Addr} {b : Addr} {H H' : Hp} {xs : List V} (e : But B H H') (n : b ∉ B) (h : SqL K H b xs) : SqL K H' b xs := by
  rcases h with (h | ⟨o, h⟩) | h
  · exact .inl (.inl (e _ _ n h))
  · exact .inl (.inr ⟨o, e _ _ n h⟩)
  · exact .inr h
/-- what stood is not among new objects -/
theorem But.seqL' {K : PySem.W.Frag} {B : List Addr} {b : Addr} {H H' : Hp} {xs : List V} (e : But B H H') (n : ∀ p, p ∈ B → H p = none) (h : SqL K H b xs) : SqL K H' b xs := by
  rcases h with (h | ⟨o, h⟩) | h
  · exact .inl (.inl (e _ _ (fun m => by rw [n _ m] at h; cases h) h))
  · exact .inl (.inr ⟨o, e _ _ (fun m => by rw [n _ m] at h; cases h) h⟩)
  · exact .inr h
theorem same_sqT {K : PySem.W.Frag} {H H' : Hp} {a : Addr} {xs : List V} (e : Same H H') (h : SqT K H a xs) : SqT K H' a xs := by
  rcases h with (h | ⟨o, h⟩) | h
  · exact .inl (.inl (e _ _ h))
  · exact .inl (.inr ⟨o, e _ _ h⟩)
  · exact .inr h
theorem But.free {B : List Addr} {H H' : Hp} {p : Addr} (e : But B H H') (n : p ∉ B) (h : H' p = none) : H p = none := by
  cases q : H p with
  | none => rfl
  | some o =>
    rw [e p o n q] at h
    cases h
/-- a pool of draws: three ints -/
def Pool (H : Hp) (a : Addr) : Prop := ∃ x d c : Int, H a = some (.lst [.int x, .int d, .int c])
theorem Pool.same {H H' : Hp} {a : Addr} (e : Same H H') (h : Pool H a) : Pool H' a := let ⟨x, d, c, h⟩ := h; ⟨x, d, c, e _ _ h⟩
theorem Pool.but {B : List Addr} {H H' : Hp} {a : Addr} (e : But B H H') (n : a ∉ B) (h : Pool H a) : Pool H' a := let ⟨x, d, c, h⟩ := h; ⟨x, d, c, e _ _ n h⟩
theorem Pool.ne {H : Hp} {a p : Addr} (h : Pool H a) (n : H p = none) : p ≠ a := fun e => by
  obtain ⟨x, d, c, h⟩ := h
  rw [e, h] at n
  cases n
theorem Pool.new {H : Hp} {a p : Addr} {o : HO} (h : Pool H a) (n : H p = none) : Pool (upd H p o) a := h.same (same_new n)
theorem Pool.upd {H : Hp} {a p : Addr} {o : HO} (h : Pool H a) (n : a ≠ p) : Pool (L2.upd H p o) a := let ⟨x, d, c, h⟩ := h; ⟨x, d, c, (upd_ne n).trans h⟩
theorem le_line {n : Nat} (h : n ≤ 1000) : n ≤ sizeLine := Nat.le_of_lt (small1000 h)
theorem atI_lt {α : Type} {xs : List α} {r : Int} (h0 : 0 ≤ r) (h1 : r < xs.length) : ∃ v, atI xs r = some v ∧ v ∈ xs := by
  obtain ⟨n, rfl⟩ := Int.eq_ofNat_of_zero_le h0
  have hn : n < xs.length := by omega
  exact ⟨xs[n], atI_nat (List.getElem?_eq_getElem hn), List.getElem_mem hn⟩
theorem ixN_lt {n : Nat} {r : Int} (h0 : 0 ≤ r) (h1 : r < n) : ixN n r = some r.toNat := by
  unfold ixN
  rw [if_pos h0, if_pos h1]
/-- some stretch of a list of ints is one -/
theorem cut_ints (ns : List Int) (lo hi : Option Int) : ∃ ms : List Int, cutV (ns.map V.int) lo hi = ms.map V.int :=
  ⟨_, by unfold cutV; rw [← List.map_drop, ← List.map_take]⟩
theorem mem_ints {ms : List Int} {i : Nat} {x : V} (h : (ms.map V.int)[i]? = some x) : ∃ n, x = .int n := by
  rw [List.getElem?_map] at h
  cases e : ms[i]? with
  | none => rw [e] at h; cases h
  | some n => rw [e] at h; cases h; exact ⟨n, rfl⟩
/-- a divisor below 2 ^ 64 is C's -/
theorem divp_small {i j : Int} (h0 : 0 < j) (h1 : j < 18446744073709551616) : CDivP i j := by
  refine ⟨h0, ?_⟩
  have hl : j.natAbs.log2 < 64 := by
    have hn : j.natAbs ≠ 0 := by omega
    exact (Nat.log2_lt hn).mpr (by omega)
  have hj : ¬ (j == 0) = true := by simpa using (show j ≠ 0 by omega)
  have hd : decide (j.natAbs.log2 / 30 + 1 > 300) = false := decide_eq_false (by omega)
  show (decide ((if (j == 0) = true then 0 else j.natAbs.log2 / 30 + 1) > 300) && _) = false
  rw [if_neg hj, hd, Bool.false_and]
end Vk
namespace Vx
open PySem PySem.Spec PyProof.Rows L2
/-! ## an exception that was caught and kept -/
/-- at a: an exception of the class cls, its dict d -/
def ExH (cls : Value) (d : Option Addr) (a : Addr) : HO := .ext fun h => ∃ (oe : Obj) (vs : Array Value), h.get? a = some oe ∧ Zc cls d oe ∧ oe.data = .fields vs
theorem exh_ok {P : Program} {w : World} {H : Hp} {h : Heap} {a : Addr} {cls : Value} {d : Option Addr} {oe : Obj} {vs : Array Value} (e : h.get? a = some oe) (z : Zc cls d oe) (f : oe.data = .fields vs) : ObjOk P w H h a (ExH cls d a) :=
  ⟨⟨oe, vs, e, z, f⟩, ⟨oe, e⟩, fun _ _ ⟨o, v, q, r⟩ k => ⟨o, v, k o q, r⟩⟩
theorem exh_at {P : Program} {w : World} {H : Hp} {h : Heap} {a : Addr} {cls : Value} {d : Option Addr} (ok : HOk P w H h) (e : H a = some (ExH cls d a)) : ∃ (oe : Obj) (vs : Array Value), h.get? a = some oe ∧ Zc cls d oe ∧ oe.data = .fields vs := by
  have x : ObjOk P w H h a (.ext fun h => ∃ (oe : Obj) (vs : Array Value), h.get? a = some oe ∧ Zc cls d oe ∧ oe.data = .fields vs) := ok a _ e
  exact x.1
end Vx
namespace Vx
open PySem PySem.Spec PyProof.Rows L2
/-! ## what is asked of a kept exception: its class, its fields -/
structure ExF (K : PySem.W.Frag) (C : Addr) : Prop where
  hcl : (PySem.W.clsIn K C).isSome = true
  hga : PySem.W.findIn K (.ref C) "__getattribute__" = some (some (.builtin "BaseException.__getattribute__"))
  hgt : PySem.W.findIn K (.ref C) "__getattr__" = some none
  hsub : PySem.W.subIn K (.ref C) (.type "BaseException") = some true
  hdi : PySem.W.hasDictIn K C = true
  ha : PySem.W.findIn K (.ref C) "__class__" = some (some (.builtin "object.__class__"))
  hn : PySem.W.specialIn K (.builtin "object.__class__") "__get__" = some (some (.builtin "getset_descriptor.__get__"))
  htk : PySem.W.takesIn K (.builtin "object.__class__") = some true
  hm : PySem.W.mroIn K C (.type "object") = some true
section
variable {X : Cx} {pins : List (Addr × Obj)} {σ : L2.St} {H : Hp} {s : Shared}
theorem exh_inst {a C d : Addr} {fs : List (Str × V)} (I : Inv X pins σ H s) (e : H a = some (ExH (.ref C) (some d) a)) (ed : H d = some (.xd fs)) :
    ∃ (oe od : Obj) (mA : Str → Option Value), PySem.W.InstAt s.heap a oe C (some od) ∧ (∀ n, PySem.W.lookIn n od = some (mA n)) ∧ ∀ n, RelO (fs.lookup n) (mA n) := by
  obtain ⟨oe, vs, h1, hz, h2⟩ := exh_at I.hok e
  have x : ObjOk X.prog X.w H s.heap d (.xd fs) := I.hok d _ ed
  obtain ⟨mA, ns, r⟩ := x
  obtain ⟨od, ho, hl⟩ := lookIn_ns ns
  exact ⟨oe, od, mA, ⟨h1, hz.1, by unfold PySem.W.notCls; rw [h2] <;> rfl, by rw [hz.2]; exact ho⟩, hl, r⟩
end
section
variable {X : Cx}
/-- isinstance(e, c) of a kept exception -/
def rIsH (K : PySem.W.Frag) : List V → Hp → VK → Prop := fun xs H Q => ∃ (a C d : Addr) (fs : List (Str × V)) (c : V) (u : Value) (b : Bool), xs = [.ref a, c] ∧ ClsV c u ∧ H a = some (ExH (.ref C) (some d) a) ∧ H d = some (.xd fs) ∧ ExF K C ∧
  PySem.W.kitOne K (.ref C) u = some b ∧ Q (.bl b) H
theorem call_isH : CallR X (.builtin "isinstance") (rIsH X.K) := by
  intro ps s σ H xs us Q I rel h
  obtain ⟨a, C, d, fs, c, u, b, rfl, kc, e, ed, F, ek, q⟩ := h
  obtain ⟨u1, u2, rfl, r1, r2⟩ := vals2 rel
  cases (show u1 = Value.ref a from r1)
  cases kc.eq r2
  obtain ⟨oe, od, mA, J, _, _⟩ := exh_inst I e ed
  exact PySem.W.kia_one (PySem.W.kitx_exc F.hcl F.hga F.hgt F.hsub F.ha F.hn F.htk F.hm) I.kIn J ek (fun z => nomatch z) fun tk => ⟨.bl b, H, I.tok tk, rfl, q⟩
/-- e.f of a kept exception -/
def tHFld (K : PySem.W.Frag) (te : TE) (f : Str) : TE := fun σ H Q => te σ H fun x H1 => ∃ (a C d : Addr) (fs : List (Str × V)) (v : V), x = .ref a ∧ H1 a = some (ExH (.ref C) (some d) a) ∧ H1 d = some (.xd fs) ∧ ExF K C ∧
  PySem.W.findIn K (.ref C) f = some none ∧ fs.lookup f = some v ∧ Q v H1
theorem pe_hfld {e : Expr} {te : TE} {pos : Pos} {f : Str} (he : PE X e te) (hb : attributeBase e f X.env (eval e X.env) = eval e X.env := by rfl) : PE X (.Attribute e f pos) (tHFld X.K te f) := by
  refine ⟨fun pins s σ H Q I h => attr_of hb (thn (he.run pins s σ H _ I h) ?_)⟩
  rintro u s1 ⟨x, H1, I1, rx, a, C, d, fs, v, rfl, ea, ed, F, hno, hl, q⟩
  cases (show u = Value.ref a from rx)
  obtain ⟨oe, od, mA, J, hk, hr⟩ := exh_inst I1 ea ed
  obtain ⟨u, hu, ru⟩ := RelO.some_of (v := v) (o := mA f) (by rw [← hl]; exact hr f)
  exact HandSPX.exc_get I1.kIn J F.hga F.hgt F.hsub (PySem.W.findObj_own F.hdi hno rfl (by rw [hk, hu])) (handed_of ru) ⟨v, H1, I1.tok _, ru, q⟩
end
end Vx
namespace Vm
open PySem PySem.Spec PyProof.Rows PySem.Calls
/-! ## an own exception class whose `__init__` keeps its one argument: the machine's side -/
section
open Builtin Builtin.ObjectAttr
variable {pr : Program} {wo : World} {ar : Around} {Er : Value → Shared → Prop} {Re : Result → Shared → Prop} {he : Heap} {ge : Array GenState} {dr : Drawn} {tn : Nat} {ox : OsState}
variable {Bn newId initId : String} {up : List Value} {K : PySem.W.Frag} {C : Addr}
/-- the object's first field: its dict is made -/
theorem first_field {x : Addr} {fn : Str} {fk : Tok} {v : Value} {fv : Array Value} (SF : PySem.StoreFacts Bn up "object.__setattr__" "object") (KI : K.In he) (hx : he.get? x = some { cls := .ref C, data := .fields fv })
    (ho : PySem.W.excOver K C up = true) (ht : PySem.W.takerIn K C fn = some none) (hd : PySem.W.hasDictIn K C = true)
    (hq : ∀ h2 tk dx, (∀ b o, b ≠ x → he.get? b = some o → h2.get? b = some o) → he.objs.size ≤ dx → dx ≠ x → h2.get? x = some { cls := .ref C, dict := some dx, data := .fields fv } →
      h2.Ns1 dx (fun y => if y = fn then some v else none) → Re (.ok (.ret .none)) ⟨h2, ge, dr, tk, ox⟩) :
    codeAny (model pr wo) ar (.call (.builtin "object.__setattr__") ⟨[.ref x, .str fn fk, v], []⟩) Re ⟨he, ge, dr, tn, ox⟩ := by
  refine PySem.W.osa_openX (s := ⟨he, ge, dr, tn, ox⟩) (ox := { cls := .ref C, data := .fields fv }) (od := none) SF KI ⟨hx, rfl, rfl, trivial⟩ ho ht fun b => ?_
  obtain ⟨cd, hc, hd'⟩ : ∃ cd, PySem.W.clsIn K C = some cd ∧ cd.hasDict = true := by
    unfold PySem.W.hasDictIn at hd
    cases e : PySem.W.clsIn K C with
    | none =>
      rw [e] at hd
      cases hd
    | some cd =>
      rw [e] at hd
      exact ⟨cd, rfl, hd⟩
  have lk : PySem.W.Looks (model pr wo) he (classData C) cd := PySem.W.looks_clsIn KI hc
  have ne : x ≠ he.objs.size := Nat.ne_of_lt (Heap.lt_size hx)
  show wpAny _ _ (storeInOwnDict (.ref x) (.ref C) (.str fn fk) fn v b) _ _ _
  obtain ⟨n1, n2, n3, n4, n5, n6, n7, n8, n9, n10, n11⟩ := cd
  dsimp only at hd'
  subst hd'
  unfold storeInOwnDict ownDictForStores
  repeat (first | with_reducible refine HandSPX.store_in_new ?_ ?_ | with_reducible refine wpAny_loadPart_at hx ?_ | with_reducible refine lk.at ?_ | wp_step)
  · exact ⟨_, #[], _, (Heap.get?_update_ne _ _ _ _ ne.symm).trans (Heap.get?_push_at rfl rfl), rfl, fun e z => absurd z (by simp), fun _ => rfl⟩
  · intro h2 tk hn hs
    refine hq h2 tk he.objs.size (fun b o hb z => ?_) (Nat.le_refl _) ne.symm ?_ hn
    · exact (hs.2 b (Nat.ne_of_lt (Heap.lt_size z))).trans ((Heap.get?_update_ne _ _ _ _ hb).trans (Heap.get?_push_of_some _ z))
    · have z : (he.push { cls := .type "dict", data := .dict #[] }).get? x = some { cls := .ref C, data := .fields fv } := Heap.get?_push_of_some _ hx
      exact (hs.2 x ne).trans (Heap.get?_update_self _ z rfl)
end
end Vm
namespace Vm
open PySem PySem.Spec PySem.Calls
section
open Builtin Builtin.ObjectAttr
variable {mo : Model} {pr : Program} {wo : World} {ar : Around} {Er : Value → Shared → Prop} {Re : Result → Shared → Prop} {he : Heap} {ge : Array GenState} {dr : Drawn} {tn : Nat} {ox : OsState}
variable {n1 n2 : Str} {C N : Addr} {b1 bm up : List Value} {hdc : Bool} {sn : List Str} {su : List Value} {ab : Bool} {co : Option Bool} {dd : Option Addr} {k0 k1 k2 k3 k5 : Option Value} {Bn newId initId : String}
variable {rest : List Value} {kw : List (Str × Value)}
theorem see_new (F : ExcBaseFacts Bn newId initId up) (hT : ∀ X : String, bm.contains (.type X) = up.contains (.type X)) {Q : Unit → Shared → Prop}
    (hC : he.get? C = some (excClassObj n1 n2 C N b1 bm hdc sn su ab co dd k0 k1 k2 k3 k5 newId)) (hq : Q () ⟨he, ge, dr, tn, ox⟩) :
    wpAny mo ar (checkBuiltinCall newId ⟨.ref C :: rest, kw⟩) Q Er ⟨he, ge, dr, tn, ox⟩ := by
  have inB : (Value.ref C :: bm).contains (.type Bn) = true := by
    rw [List.contains_cons, hT, F.hasB, Bool.or_true]
  have st := F.noStar
  simp only [checkBuiltinCall, F.newKind, F.newSplit, F.newRow]
  repeat (first
    | refine wpAny_loadPart_at hC ?_
    | (refine wpAny_isSubtype_exc hC ?_; rw [inB])
    | refine wpAny_staticBase_exc hC ?_
    | refine wpAny_madeBy_exc hC ?_
    | simp only [bne_self_eq_false, Bool.false_eq_true, if_false]
    | wp_step)
  exact hq
theorem do_new (F : ExcBaseFacts Bn newId initId up) (hT : ∀ X : String, bm.contains (.type X) = up.contains (.type X))
    (hC : he.get? C = some (excClassObj n1 n2 C N b1 bm hdc sn su ab co dd k0 k1 k2 k3 k5 newId)) (hl : rest.length ≤ sizeLine)
    (hq : Re (.ok (.ret (.ref (he.objs.size + 1)))) ⟨(he.push (PySem.W.kdv_tup rest)).push (HandSPX.excO C he.objs.size), ge, dr, tn, ox⟩) :
    codeAny (model pr wo) ar (.builtin newId ⟨.ref C :: rest, kw⟩) Re ⟨he, ge, dr, tn, ox⟩ := by
  have ends := F.ends
  have inB : (Value.ref C :: bm).contains (.type Bn) = true := by
    rw [List.contains_cons, hT, F.hasB, Bool.or_true]
  have noA : (Value.ref C :: bm).contains (.type "AttributeError") = false := by
    rw [List.contains_cons, hT, F.noAttr]
    rfl
  have noN : (Value.ref C :: bm).contains (.type "NameError") = false := by
    rw [List.contains_cons, hT, F.noName]
    rfl
  refine codeAny_builtinAt F.entry ?_
  unfold Builtin.«BaseException.__new__»
  refine PySem.wpAt_bind ?_
  show wpAt _ _ _ (stack >>= _) _ _ _
  refine PySem.wpAt_bind (PySem.wpAt_stack fun p q => PySem.wpAt_of_wpAny ?_)
  wp_walk
  refine PySem.wpAt_of_wpAny ?_
  rw [F.owner]
  repeat (first
    | with_reducible refine wpAny_madeHere_exc F.canon hC ?_
    | with_reducible refine wpAny_loadPart_at hC ?_
    | (with_reducible refine wpAny_isSubtype_exc hC ?_; first | rw [inB] | rw [noA] | rw [noN])
    | wp_step)
  show Re _ _
  rw [Heap.size_push]
  exact hq
theorem see_call {Q : Unit → Shared → Prop} (hC : he.get? C = some (excClassObj n1 n2 C N b1 bm hdc sn su ab co dd k0 k1 k2 k3 k5 newId)) (hq : Q () ⟨he, ge, dr, tn, ox⟩) :
    wpAny mo ar (checkBuiltinCall "type.__call__" ⟨.ref C :: rest, kw⟩) Q Er ⟨he, ge, dr, tn, ox⟩ := by
  have sb := tc_sub
  have ty : (⟨he, ge, dr, tn, ox⟩ : Shared).TypeIs (.ref C) "type" := ⟨_, hC, rfl⟩
  simp only [checkBuiltinCall, tc_kind, tc_split]
  repeat (any_goals (first
    | assumption
    | with_reducible refine wpAny_loadPart_at hC ?_
    | with_reducible refine wpAny_onRaise ?_
    | with_reducible refine wpAny_map ?_
    | wp_step))
variable {fI : Addr}
theorem by_class (F : ExcBaseFacts Bn newId initId up) (hT : ∀ X : String, bm.contains (.type X) = up.contains (.type X))
    (hC : he.get? C = some (excClassObj n1 n2 C N b1 bm hdc sn su ab co dd k0 k1 k2 k3 k5 newId)) (hl : rest.length ≤ sizeLine)
    (hi : PySem.W.Looks (model pr wo) he (typeLookup (.ref C) "__init__") (some (.ref fI))) (hb : ∀ z, PySem.W.Looks (model pr wo) he (bindSpecial (.ref fI) z) (.ref fI, [z]))
    (hq : codeAny (model pr wo) (ar.under (.builtin "type.__call__" ⟨.ref C :: rest, kw⟩)) (.call (.ref fI) ⟨.ref (he.objs.size + 1) :: rest, kw⟩) (PySem.W.InitBack (he.objs.size + 1) Re)
      ⟨(he.push (PySem.W.kdv_tup rest)).push (HandSPX.excO C he.objs.size), ge, dr, tn, ox⟩) :
    codeAny (model pr wo) ar (.call (.ref C) ⟨rest, kw⟩) Re ⟨he, ge, dr, tn, ox⟩ := by
  have t1 := tc_lookup
  have t2 := tc_bind (.ref C)
  have ty : (⟨he, ge, dr, tn, ox⟩ : Shared).TypeIs (.ref C) "type" := ⟨_, hC, rfl⟩
  refine codeAny_of_tree ?_
  show wpAny _ _ (callAny (.ref C) _) _ _ _
  repeat (any_goals (first | assumption | with_reducible refine wpAny_loadPart_at hC ?_ | wp_step))
  refine ⟨rfl, ?_⟩
  refine codeAny_call_builtin_at (Code.quiet_builtin _ (by decide +kernel)) entry_typeCall (see_call hC ?_)
  show wpAny (model pr wo) _ (Builtin.«type.__call__» ⟨.ref C :: rest, kw⟩) _ _ _
  repeat (first
    | with_reducible refine wpAny_loadPart_at hC ?_
    | with_reducible refine wpAny_madeBy_exc hC ?_
    | wp_step)
  refine codeAny_call_builtin_code (Code.quiet_builtin _ F.quiet) (see_new F hT hC ?_)
  refine do_new F hT hC hl ?_
  show wpAny _ _ _ _ _ _
  have kp : ∀ b o, he.get? b = some o → ((he.push (PySem.W.kdv_tup rest)).push (HandSPX.excO C he.objs.size)).get? b = some o := fun b o e => Heap.get?_push_of_some _ (Heap.get?_push_of_some _ e)
  have C1 := kp _ _ hC
  have x1 : ((he.push (PySem.W.kdv_tup rest)).push (HandSPX.excO C he.objs.size)).get? (he.objs.size + 1) = some (HandSPX.excO C he.objs.size) := by
    heap_get
  have own : (Value.ref C :: bm).contains (.ref C) = true := by simp
  have i1 := hi.keeps kp
  have j1 := (hb (.ref (he.objs.size + 1))).keeps kp
  unfold isInstance
  repeat (first
    | with_reducible refine wpAny_loadPart_at x1 ?_
    | (with_reducible refine wpAny_isSubtype_exc C1 ?_; rw [own])
    | wp_step)
  show wpAny _ _ (typeLookup (.ref C) _) _ _ _
  refine i1.at ?_
  refine wpAny_holding (wpAny_bind (j1.at ?_))
  refine wpAny_bind (wpAny_call (codeAny_mono hq fun r s' z => ?_))
  rcases r with e | (v | _ | _ | _) <;> first | exact z | exact z.elim | skip
  obtain ⟨rfl, z⟩ := z
  first
    | exact wpAny_pure (wpAny_pure z)
    | (wp_walk; exact z)
end
end Vm
namespace Vm
open PySem PySem.Spec PyProof.Rows PySem.Calls L2
/-- the text of an `__init__` that keeps its one argument -/
def iPar (f : Str) (p1 p2 : Pos) : Arguments := { posonlyargs := [], args := [{ arg := "self", annotation := none, pos := p1 }, { arg := f, annotation := none, pos := p2 }], vararg := none, kwonlyargs := [], kw_defaults := [], kwarg := none, defaults := [] }
def iBod (f : Str) (q1 q2 q3 q4 : Pos) : List Stmt := [.Assign [.Attribute (.Name "self" q1) f q2] (.Name f q3) q4]
def iSco (f : Str) : Scope := { kind := .function, names := [("self", .local), (f, .local)], isGenerator := false, isCoroutine := false, more := [] }
def names6 : List Str := ["value", "index", "path", "line", "name", "found"]
/-- what is asked of the class, all at once -/
def clB (K : PySem.W.Frag) (up : List Value) (newId : String) (f : Str) (C fI : Addr) : Bool :=
  PySem.W.excInitIn K C up newId && (PySem.W.excOver K C up && (PySem.W.findIn K (.ref C) "__setattr__" == some (some (.builtin "object.__setattr__")) && (PySem.W.takerIn K C f == some none && (PySem.W.hasDictIn K C &&
  (PySem.W.findIn K (.ref C) "__init__" == some (some (.ref fI)) && (PySem.W.typeIn K (.ref fI) == some (.type "function") && (PySem.W.keepIn K (.ref C) && PySem.W.findIn K (.ref C) f == some none)))))))
structure Cl (K : PySem.W.Frag) (up : List Value) (newId : String) (f : Str) (C fI : Addr) : Prop where
  ini : PySem.W.excInitIn K C up newId = true
  ovr : PySem.W.excOver K C up = true
  sa : PySem.W.findIn K (.ref C) "__setattr__" = some (some (.builtin "object.__setattr__"))
  tk : PySem.W.takerIn K C f = some none
  hd : PySem.W.hasDictIn K C = true
  iC : PySem.W.findIn K (.ref C) "__init__" = some (some (.ref fI))
  tI : PySem.W.typeIn K (.ref fI) = some (.type "function")
  kC : PySem.W.keepIn K (.ref C) = true
  no : PySem.W.findIn K (.ref C) f = some none
theorem clB_ok {K : PySem.W.Frag} {up : List Value} {newId : String} {f : Str} {C fI : Addr} (h : clB K up newId f C fI = true) : Cl K up newId f C fI := by
  unfold clB at h
  simp only [Bool.and_eq_true] at h
  obtain ⟨h1, h2, h3, h4, h5, h6, h7, h8, h9⟩ := h
  exact ⟨h1, h2, eq_of_beq h3, eq_of_beq h4, h5, eq_of_beq h6, eq_of_beq h7, h8, eq_of_beq h9⟩
/-- where its `__init__` stands -/
def Ini (K : PySem.W.Frag) (f qual : Str) (fI : Addr) : Prop := ∃ (oc : Value) (od : Option Addr) (dv kv doc pm : Value) (an : Option Addr) (cdv ct : Value) (sl : Array (Option Value)) (p1 p2 q1 q2 q3 q4 : Pos),
    K.lookup fI = some ⟨oc, od, .func (PySem.W.fnOf "__init__" qual (iPar f p1 p2) (iBod f q1 q2 q3 q4) (iSco f) .none .none doc pm an cdv ct), sl⟩ ∧ PySem.W.codeIn K cdv qual = true
theorem at_name {mo : Model} {s : Shared} {nm : Str} {sc : Scope} {L a : Addr} {cd : Value} {m : Str → Option Value} {x : Str} {pos : Pos} {v : Value} {Q : Value → Shared → Prop} {ar : Around} {Er : Value → Shared → Prop}
    (hn : s.heap.Ns L m) (hv : m x = some v) (h : Q v s) (hk : sc.kind = .function := by rfl) (hl : (envOfC nm sc L a cd).kindOf x = some .local := by rfl) (hd : (x == ("__debug__" : Str)) = false := by decide) :
    wpAny mo ar (eval (.Name x pos) (envOfC nm sc L a cd)) Q Er s :=
  wpAny_Name (wpAny_loadName_local hk hl hn hv h) hd
section
variable {pr : Program} {wo : World} {ar : Around} {Re : Result → Shared → Prop} {s : Shared} {K : PySem.W.Frag} {C fI : Addr} {f qual : Str} {up : List Value} {Bn newId initId : String}
theorem init_runs (SF : PySem.StoreFacts Bn up "object.__setattr__" "object") (T : Cl K up newId f C fI) (hI : Ini K f qual fI) (hf : f ∈ names6) {x t0 : Addr} {v : Value} {args : Args} (hargs : args = ⟨[.ref x, v], []⟩ ∨ args = ⟨[.ref x], [(f, v)]⟩)
    (KI : K.In s.heap) (lim : s.heap.NoLimit) (hx : s.heap.get? x = some (HandSPX.excO C t0)) (room : ar.depth < recursionLimit)
    (hq : ∀ h2 tk dx, (∀ b o, b ≠ x → s.heap.get? b = some o → h2.get? b = some o) → s.heap.objs.size ≤ dx → dx ≠ x → h2.get? x = some { cls := .ref C, dict := some dx, data := .fields #[.ref t0, .none, .none, .none, .bool false, .none] } →
      h2.Ns1 dx (fun y => if y = f then some v else none) → Re (.ok (.ret .none)) { s with heap := h2, toks := tk }) :
    codeAny (model pr wo) ar (.call (.ref fI) args) Re s := by
  obtain ⟨oc, od, dv, kv, doc, pm, an, cdv, ct, sl, p1, p2, q1, q2, q3, q4, hl, hc⟩ := hI
  have go : (∀ (s' : Shared), BindsTo s' (PySem.W.fnOf "__init__" qual (iPar f p1 p2) (iBod f q1 q2 q3 q4) (iSco f) .none .none doc pm an cdv ct) args [("self", .ref x), (f, v)]) →
      (([("self", .ref x), (f, v)] : List (Str × Value)).all fun y => (iSco f).names.lookup y.1 == some .local || (iSco f).names.lookup y.1 == some .cell) = true →
      (∀ L cd, (envOfC qual (iSco f) L fI cd).kindOf "self" = some .local) → (∀ L cd, (envOfC qual (iSco f) L fI cd).kindOf f = some .local) → (f == ("__debug__" : Str)) = false →
      (∀ L cd, bindL (envOfC qual (iSco f) L fI cd).kindOf [("self", Value.ref x), (f, v)] (fun _ => none) "self" = some (Value.ref x)) → (∀ L cd, bindL (envOfC qual (iSco f) L fI cd).kindOf [("self", Value.ref x), (f, v)] (fun _ => none) f = some v) →
      codeAny (model pr wo) ar (.call (.ref fI) args) Re s := by
    intro b1 b2 b3 b4 b5 b6 b7
    refine Att.call_fn (binds := [("self", .ref x), (f, v)]) KI lim hl hc room (b1 s) b2 (fun s₁ IC => ?_) rfl rfl rfl
    obtain ⟨h₁, tk₁, rfl⟩ := IC.toInCall.same
    have kp : ∀ b o, s.heap.get? b = some o → h₁.get? b = some o := IC.toInCall.keep
    have hn := IC.toInCall.ns
    have K1 : K.In h₁ := KI.keeps kp
    have x1 := kp _ _ hx
    show wpAny _ _ (execs _ _) _ _ _
    refine wpAny_execs_cons (plainObj_wpAny_Assign_Attribute ?_)
    refine at_name (v := v) hn (b7 _ _) (at_name (v := .ref x) hn (b6 _ _) ?_ rfl (b3 _ _)) rfl (b4 _ _) b5
    refine PySem.W.set_plain K1 (ox := HandSPX.excO C t0) (od := none) ⟨x1, rfl, rfl, trivial⟩ T.sa ?_
    refine first_field SF K1 x1 T.ovr T.tk T.hd (fun h2 tk dx k2 dn dne x2 n2 => ?_)
    show wpAny _ _ (execs _ _) _ _ _
    have z : s.heap.objs.size < h₁.objs.size := hn.lt
    exact wpAny_execs_nil (hq h2 tk dx (fun b o hb e => k2 b o hb (kp b o e)) (Nat.le_of_lt (Nat.lt_of_lt_of_le z dn)) dne x2 n2)
  simp only [names6, List.mem_cons, List.not_mem_nil, or_false] at hf
  rcases hf with rfl | rfl | rfl | rfl | rfl | rfl <;> rcases hargs with rfl | rfl <;>
    exact go (fun s' => .of_eq (by first | rfl | with_unfolding_all rfl)) (by first | rfl | decide | with_unfolding_all rfl) (fun _ _ => by rfl) (fun _ _ => by rfl) (by decide) (fun _ _ => by first | rfl | with_unfolding_all rfl | kernel_rfl) (fun _ _ => by first | rfl | with_unfolding_all rfl | kernel_rfl)
end
end Vm
namespace Vm
open PySem PySem.Spec PyProof.Rows PySem.Calls L2 Vx
section
variable {X : Cx} {pins : List (Addr × Obj)} {σ : L2.St} {H : Hp} {s : Shared}
/-- two objects laid at once -/
theorem laid_two {h2 : Heap} {e d tk : Nat} {o1 o2 : HO} (I : Inv X pins σ H s) (kp : ∀ b o, s.heap.get? b = some o → h2.get? b = some o) (he : s.heap.objs.size ≤ e) (hd : s.heap.objs.size ≤ d)
    (k1 : ObjOk X.prog X.w (upd (upd H d o1) e o2) h2 d o1) (k2 : ObjOk X.prog X.w (upd (upd H d o1) e o2) h2 e o2) (de : d ≠ e) : Inv X pins σ (upd (upd H d o1) e o2) { s with heap := h2, toks := tk } := by
  have ne : H e = none := I.hok.fresh he
  have nd : H d = none := I.hok.fresh hd
  have oe : ∀ {b : Addr} {o : Obj}, s.heap.get? b = some o → b ≠ e := fun {b o} q => Nat.ne_of_lt (Nat.lt_of_lt_of_le (Heap.lt_size q) he)
  have od : ∀ {b : Addr} {o : Obj}, s.heap.get? b = some o → b ≠ d := fun {b o} q => Nat.ne_of_lt (Nat.lt_of_lt_of_le (Heap.lt_size q) hd)
  have st : ∀ {b : Addr} {o : HO}, H b = some o → upd (upd H d o1) e o2 b = some o := fun {b o} q => by
    rw [upd_ne (ne_of_none q ne), upd_ne (ne_of_none q nd)]
    exact q
  refine I.un (t' := tk) {
    keep := fun b o q _ _ _ => kp b o q
    slot := fun b o q _ _ _ => ⟨o.slots, kp b o q⟩
    free := fun b o q n _ => by
      rw [upd_ne (oe q), upd_ne (od q)]
      exact n
    there := fun b o q _ => ⟨o, kp b o q⟩
    tups := fun b xs q => st q
    frzs := fun b o u q => st q
    tbls := fun b ps q => ⟨#[], by
      rw [st q]
      simp⟩ } fun b o q => ?_
  by_cases hb : b = e
  · subst hb
    rw [upd_same] at q
    cases q
    exact k2
  · rw [upd_ne hb] at q
    by_cases hc : b = d
    · subst hc
      rw [upd_same] at q
      cases q
      exact k1
    · rw [upd_ne hc] at q
      exact (I.hok b o q).stay (fun c v _ z => kp c v z) (fun c z => st z) fun c xs z => st z
theorem one_fld {v : V} {u : Value} {f : Str} (r : RelV v u) (g : Str) : RelO (List.lookup g [(f, v)]) (if g = f then some u else none) := by
  by_cases hw : g = f
  · subst hw
    rw [if_pos rfl]
    have q : List.lookup g [(g, v)] = some v := by simp [List.lookup]
    rw [q]
    exact r
  · rw [if_neg hw]
    have q1 : (g == f) = false := by simpa using hw
    have q2 : List.lookup g [(f, v)] = none := by simp [List.lookup, q1]
    rw [q2]
    trivial
variable {C fI : Addr} {f qual : Str} {up : List Value} {Bn newId initId : String}
def rMkV (C : Addr) (f : Str) (v : V) : Hp → VK → Prop := fun H Q => ∀ e d, H e = none → H d = none → d ≠ e → Q (.ref e) (upd (upd H d (.xd [(f, v)])) e (ExH (.ref C) (some d) e))
theorem made {us : List Value} {kw : List (Str × Value)} {v : V} {u : Value} {Q : VK} {k : Nat} (F : ExcBaseFacts Bn newId initId up) (SF : PySem.StoreFacts Bn up "object.__setattr__" "object") (T : Cl X.K up newId f C fI) (hI : Ini X.K f qual fI) (hf : f ∈ names6)
    (hr : Room (k + 1) X.A) (I : Inv X pins σ H s) (ru : RelV v u) (sh : (us = [u] ∧ kw = []) ∨ (us = [] ∧ kw = [(f, u)])) (hq : rMkV C f v H Q) : wpAny (model X.prog X.w) X.A (call (.ref C) us kw) (EP X pins σ Q) X.xe s := by
  obtain ⟨nm, N, qn, bs, bm, hdct, sn, sub, ab, col, dd, k0, k1, k2, k3, k5, hC, hT⟩ := PySem.W.excInit_of I.kIn T.ini
  have lim := I.nolimit
  have hu : us.length ≤ sizeLine := by
    rw [sizeLine_eq]
    rcases sh with ⟨rfl, _⟩ | ⟨rfl, _⟩
    · exact (by decide : 1 ≤ 16777216)
    · exact (by decide : 0 ≤ 16777216)
  obtain ⟨hp, g, dr, tk, os⟩ := s
  have kp : ∀ b o, hp.get? b = some o → ((hp.push (PySem.W.kdv_tup us)).push (HandSPX.excO C hp.objs.size)).get? b = some o := fun b o e => Heap.get?_push_of_some _ (Heap.get?_push_of_some _ e)
  have hx : ((hp.push (PySem.W.kdv_tup us)).push (HandSPX.excO C hp.objs.size)).get? (hp.objs.size + 1) = some (HandSPX.excO C hp.objs.size) := by
    heap_get
  refine wpAny_call (by_class F hT hC hu (PySem.W.looks_findIn I.kIn T.iC) (fun z => PySem.W.bind_fn I.kIn z T.tI) ?_)
  refine init_runs (s := ⟨(hp.push (PySem.W.kdv_tup us)).push (HandSPX.excO C hp.objs.size), g, dr, tk, os⟩) (v := u) SF T hI hf ?_ (I.kIn.keeps kp) (lim.keeps kp) hx ?_ fun h2 tk2 dx k2 dn dne x2 n2 => ?_
  · rcases sh with ⟨rfl, rfl⟩ | ⟨rfl, rfl⟩
    · exact .inl rfl
    · exact .inr rfl
  · show X.A.depth + 1 < recursionLimit
    have := hr.dp
    omega
  · have old : ∀ b o, hp.get? b = some o → h2.get? b = some o := fun b o e => k2 b o (Nat.ne_of_lt (Nat.lt_succ_of_lt (Heap.lt_size e))) (kp b o e)
    have z : hp.objs.size ≤ dx := by
      have q : ((hp.push (PySem.W.kdv_tup us)).push (HandSPX.excO C hp.objs.size)).objs.size ≤ dx := dn
      rw [Heap.size_push, Heap.size_push] at q
      omega
    have q := hq (hp.objs.size + 1) dx (I.hok.fresh (Nat.le_succ _)) (I.hok.fresh z) dne
    have J : Inv X pins σ (upd (upd H dx (.xd [(f, v)])) (hp.objs.size + 1) (ExH (.ref C) (some dx) (hp.objs.size + 1))) ⟨h2, g, dr, tk2, os⟩ :=
      laid_two (s := ⟨hp, g, dr, tk, os⟩) (tk := tk2) I old (Nat.le_succ _) z ⟨_, n2, fun g => one_fld ru g⟩ (exh_ok x2 ⟨rfl, rfl⟩ rfl) dne
    exact ⟨rfl, .ref (hp.objs.size + 1), _, J, rfl, q⟩
end
section
variable {X : Cx} {C fI : Addr} {f qual nm : Str} {up : List Value} {Bn newId initId : String} {e : Expr} {te : TE} {ta tk : TA} {p pos : Pos} {k : Nat} {kws : List Keyword}
/-- C(e) -/
def tMkV (C : Addr) (f : Str) (ta : TA) : TE := fun σ H Q => ta σ H fun vs H1 => ∃ v, vs = [v] ∧ rMkV C f v H1 Q
theorem pe_mkv (F : ExcBaseFacts Bn newId initId up) (SF : PySem.StoreFacts Bn up "object.__setattr__" "object") (T : Cl X.K up newId f C fI) (hI : Ini X.K f qual fI) (hf : f ∈ names6) (hr : Room (k + 1) X.A) (hg : Gl X nm) (hm : X.mg nm = some (.ref C)) (ha : PA X [e] ta)
    (h1 : starEach [e] X.env = (false, eval e X.env) :: starEach [] X.env := by rfl) (h2 : (backTo pos (starEach [] X.env)).any (·.1) = false := by rfl) (h3 : (nm == ("__debug__" : Str)) = false := by decide) :
    PE X (.Call (.Name nm p) [e] [] pos) (tMkV C f ta) := by
  refine ⟨fun pins s σ H Q I h => ?_⟩
  refine wpAny_Call_Name_kw (ld_glob I hg hm ?_ h3)
  refine PySem.W.callWith_K (h₀ := X.base) I.ok.mod.kin T.kC (thn (ha.run pos pins s σ H _ I h) fun us s1 ⟨vs, H1, I1, r1, v, ev, q⟩ => ⟨I1.kIn, ?_⟩) h1 h2
  subst ev
  obtain ⟨u, rfl, ru⟩ := vals1 r1
  exact made F SF T hI hf hr I1 ru (.inl ⟨rfl, rfl⟩) q
/-- C(f = e) -/
theorem pe_mkvK (F : ExcBaseFacts Bn newId initId up) (SF : PySem.StoreFacts Bn up "object.__setattr__" "object") (T : Cl X.K up newId f C fI) (hI : Ini X.K f qual fI) (hf : f ∈ names6) (hr : Room (k + 1) X.A) (hg : Gl X nm) (hm : X.mg nm = some (.ref C)) (hkw : PK X kws tk)
    (h1 : (backToKw pos (keywordEach kws X.env)).all (·.1.isSome) = true := by rfl) (h2 : (backToKw pos (keywordEach kws X.env)).filterMap (·.1) = [f] := by rfl) (h3 : (nm == ("__debug__" : Str)) = false := by decide)
    (h4 : ((backTo pos (starEach [] X.env)).any (·.1) || (backToKw pos (keywordEach kws X.env)).any (·.1.isNone)) = false := by rfl) :
    PE X (.Call (.Name nm p) [] kws pos) (tMkV C f tk) := by
  refine ⟨fun pins s σ H Q I h => ?_⟩
  refine wpAny_Call_Name_kw (ld_glob I hg hm ?_ h3)
  refine PySem.W.callWith_KW0 (h₀ := X.base) I.ok.mod.kin T.kC h1 (thn (hkw.run pos pins s σ H _ I h) fun ws s1 ⟨zs, H1, I1, rz, v, ev, q⟩ => ⟨I1.kIn, ?_⟩) h4
  subst ev
  obtain ⟨u, rfl, ru⟩ := vals1 rz
  rw [h2]
  exact made F SF T hI hf hr I1 ru (.inr ⟨rfl, rfl⟩) q
/-- C(), a class without own `__init__` -/
def tMk0 (C : Addr) : TE := fun σ H Q => ∀ e, H e = none → Q (.ref e) (upd H e (ExH (.ref C) none e))
theorem pe_mk0 (F : ExcBaseFacts Bn newId initId up) (q : PySem.W.excIn X.K C up newId = true) (kC : PySem.W.keepIn X.K (.ref C) = true) (hg : Gl X nm) (hm : X.mg nm = some (.ref C)) (h3 : (nm == ("__debug__" : Str)) = false := by decide) :
    PE X (.Call (.Name nm p) [] [] pos) (tMk0 C) := by
  refine ⟨fun pins s σ H Q I h => ?_⟩
  refine wpAny_Call_Name_kw (ld_glob I hg hm ?_ h3)
  refine PySem.W.callWith_K0 I.kIn kC ?_
  show wpAny _ _ (call (.ref C) []) _ _ _
  obtain ⟨bm, N, n1, qn, bs, hdct, sn, sub, ab, col, dd, k0, k1, k2, k3, k5, mN, hC, hN, hni, T⟩ := exc_obj I.kIn q
  refine wpAny_call_exc_subT F T hC hN hni (fun h2 a hm2 => ?_) (by rw [sizeLine_eq]; exact (by decide : 0 ≤ 16777216))
  have hn : H a = none := I.hok.gone hm2.new
  obtain ⟨t, ht, _, _⟩ := hm2.there
  exact ⟨.ref a, upd H a (ExH (.ref C) none a), I.laidN (t' := s.toks) hm2.keeps hm2.new hn (exh_ok ht ⟨rfl, rfl⟩ rfl), rfl, h a hn⟩
end
end Vm
namespace Vm
open PySem PySem.Spec PyProof.Rows PySem.Calls L2 Vx
/-! ## what is asked of an exception that is held: its class -/
/-- at a stands an exception of the class C, with its fields or with none -/
def ExAt (H : Hp) (a C : Addr) : Prop := H a = some (ExH (.ref C) none a) ∨ ∃ d fs, H a = some (ExH (.ref C) (some d) a) ∧ H d = some (.xd fs)
theorem ExAt.same {H H' : Hp} {a C : Addr} (h : ExAt H a C) (s : Same H H') : ExAt H' a C := by
  rcases h with h | ⟨d, fs, h, g⟩
  · exact .inl (s _ _ h)
  · exact .inr ⟨d, fs, s _ _ h, s _ _ g⟩
section
variable {X : Cx} {pins : List (Addr × Obj)} {σ : L2.St} {H : Hp} {s : Shared}
theorem ExAt.inst {a C : Addr} (I : Inv X pins σ H s) (h : ExAt H a C) : ∃ oe od, PySem.W.InstAt s.heap a oe C od := by
  rcases h with h | ⟨d, fs, h, g⟩
  · obtain ⟨oe, vs, h1, hz, h2⟩ := exh_at I.hok h
    exact ⟨oe, none, h1, hz.1, by unfold PySem.W.notCls; rw [h2] <;> rfl, by rw [hz.2]; exact True.intro⟩
  · obtain ⟨oe, od, mA, J, _⟩ := exh_inst I h g
    exact ⟨oe, _, J⟩
def rIsX (K : PySem.W.Frag) : List V → Hp → VK → Prop := fun xs H Q => ∃ (a C : Addr) (c : V) (u : Value) (b : Bool), xs = [.ref a, c] ∧ ClsV c u ∧ ExAt H a C ∧ ExF K C ∧ PySem.W.kitOne K (.ref C) u = some b ∧ Q (.bl b) H
theorem call_isX : CallR X (.builtin "isinstance") (rIsX X.K) := by
  intro ps s σ H xs us Q I rel h
  obtain ⟨a, C, c, u, b, rfl, kc, e, F, ek, q⟩ := h
  obtain ⟨u1, u2, rfl, r1, r2⟩ := vals2 rel
  cases (show u1 = Value.ref a from r1)
  cases kc.eq r2
  obtain ⟨oe, od, J⟩ := e.inst I
  exact PySem.W.kia_one (PySem.W.kitx_exc F.hcl F.hga F.hgt F.hsub F.ha F.hn F.htk F.hm) I.kIn J ek (fun z => nomatch z) fun tk => ⟨.bl b, H, I.tok tk, rfl, q⟩
/-- how often: flat items -/
def rCntF (K : PySem.W.Frag) : V → List V → Hp → VK → Prop := fun x xs H Q => ∃ (p : Addr) (ys : List V) (y : V), x = .ref p ∧ xs = [y] ∧ SqL K H p ys ∧ flatV y = true ∧ ys.all flatV = true ∧ Q (.int ((ys.countP fun z => eqV z y : Nat) : Int)) H
theorem countU {y : V} : ∀ {ys : List V} {us : List Value}, Vals ys us → ys.all flatV = true → us.countP (eqU y) = ys.countP fun z => eqV z y
  | _, _, .nil, _ => rfl
  | z :: zs, u :: us, .cons r t, f => by
    rw [List.all_cons, Bool.and_eq_true] at f
    rw [List.countP_cons, List.countP_cons, countU t f.2, eqU_of r f.1]
theorem mt_countF : MtR X "list.count" (rCntF X.K) := by
  intro pins s σ H x xs v us Q I rx rxs h
  obtain ⟨p, ys, y, rfl, rfl, hs, fy, fys, q⟩ := h
  cases rx
  obtain ⟨u, rfl, ru⟩ := rxs.one
  obtain ⟨its, rv, ⟨⟨c1, d1, dat, s1⟩, n, ho, hc, hdn, hd⟩, hlen⟩ := I.list hs
  simp only at hc hd
  subst hc hd
  refine call_meets PySem.F.slot_list_count ⟨_, ho, rfl⟩ PySem.F.entry_list_count (PySem.F.args_list_count_2 _ _)
    (SeqAt.list_countAt p its.toArray n d1 s1 u (eqU y)) ⟨ho, fun z hz => mem_eqAt ru fy rv fys z (by simpa using hz), ?_⟩
  refine ⟨.int ((ys.countP fun z => eqV z y : Nat) : Int), H, I.tok _, ⟨s.toks, ?_⟩, q⟩
  show Value.int ((its.toArray.toList.countP (eqU y) : Nat) : Int) s.toks = _
  rw [← countU rv fys]
/-- two data, or two dicts -/
theorem op_eqE (hu : X.A.units + 64 < cLine) : OpR X (compareOp .Eq) (fun x y H Q => rEqD X.K x y H Q ∨ rEqDA x y H Q) := by
  intro ps s σ H x y v u Q I rx ry h
  rcases h with h | h
  · exact op_eqD hu ps s σ H x y v u Q I rx ry h
  · exact op_eq_dictA (by omega) ps s σ H x y v u Q I rx ry h
end
end Vm
namespace Vm
open PySem PySem.Spec PyProof.Rows PySem.Calls L2 Vx
def exfB (K : PySem.W.Frag) (C : Addr) : Bool :=
  (PySem.W.clsIn K C).isSome && (PySem.W.findIn K (.ref C) "__getattribute__" == some (some (.builtin "BaseException.__getattribute__")) && (PySem.W.findIn K (.ref C) "__getattr__" == some none && (PySem.W.subIn K (.ref C) (.type "BaseException") == some true &&
  (PySem.W.hasDictIn K C && (PySem.W.findIn K (.ref C) "__class__" == some (some (.builtin "object.__class__")) && (PySem.W.specialIn K (.builtin "object.__class__") "__get__" == some (some (.builtin "getset_descriptor.__get__")) &&
  (PySem.W.takesIn K (.builtin "object.__class__") == some true && PySem.W.mroIn K C (.type "object") == some true)))))))
theorem exfB_ok {K : PySem.W.Frag} {C : Addr} (h : exfB K C = true) : ExF K C := by
  unfold exfB at h
  simp only [Bool.and_eq_true] at h
  obtain ⟨h1, h2, h3, h4, h5, h6, h7, h8, h9⟩ := h
  exact ⟨h1, eq_of_beq h2, eq_of_beq h3, eq_of_beq h4, h5, eq_of_beq h6, eq_of_beq h7, eq_of_beq h8, eq_of_beq h9⟩
end Vm
namespace Vm
open PySem PySem.Spec PyProof.Rows PySem.Calls L2 Vx Vk
/-! ## in a comprehension: the written part by its name -/
section
variable {X : Cx} {K : PySem.W.Frag}
theorem op_eqEK (hu : X.A.units + 64 < cLine) (hK : X.K = K) : OpR X (compareOp .Eq) (fun x y H Q => rEqD K x y H Q ∨ rEqDA x y H Q) := by
  subst hK
  exact op_eqE hu
theorem pe_hfldK {e : Expr} {te : TE} {pos : Pos} {f : Str} (hK : X.K = K) (he : PE X e te) (hb : attributeBase e f X.env (eval e X.env) = eval e X.env := by rfl) : PE X (.Attribute e f pos) (tHFld K te f) := by
  subst hK
  exact pe_hfld he hb
end
/-! ## a row of exceptions that were made -/
structure En where
  a : Addr
  j : Nat
  o : Option (Str × V)
def En.on (K : PySem.W.Frag) (cl : Nat → Addr) (H : Hp) (x : En) : Prop := x.j < 27 ∧ match x.o with
  | some fv => PySem.W.findIn K (.ref (cl x.j)) fv.1 = some none ∧ ∃ d, H x.a = some (ExH (.ref (cl x.j)) (some d) x.a) ∧ H d = some (.xd [fv])
  | none => H x.a = some (ExH (.ref (cl x.j)) none x.a)
theorem En.on.same {K : PySem.W.Frag} {cl : Nat → Addr} {H H' : Hp} {x : En} (h : x.on K cl H) (s : Same H H') : x.on K cl H' := by
  obtain ⟨a, j, o⟩ := x
  cases o with
  | none => exact ⟨h.1, s _ _ h.2⟩
  | some fv =>
    obtain ⟨hj, hn, d, h1, h2⟩ := h
    exact ⟨hj, hn, d, s _ _ h1, s _ _ h2⟩
theorem En.on.ex {K : PySem.W.Frag} {cl : Nat → Addr} {H : Hp} {x : En} (h : x.on K cl H) : ExAt H x.a (cl x.j) := by
  obtain ⟨a, j, o⟩ := x
  cases o with
  | none => exact .inl h.2
  | some fv =>
    obtain ⟨_, _, d, h1, h2⟩ := h
    exact .inr ⟨d, _, h1, h2⟩
/-- the field of one that has it -/
theorem En.on.fld {K : PySem.W.Frag} {cl : Nat → Addr} {H : Hp} {x : En} {f : Str} {v : V} (h : x.on K cl H) (ho : x.o = some (f, v)) :
    ∃ d, H x.a = some (ExH (.ref (cl x.j)) (some d) x.a) ∧ H d = some (.xd [(f, v)]) ∧ PySem.W.findIn K (.ref (cl x.j)) f = some none ∧ List.lookup f [(f, v)] = some v := by
  obtain ⟨a, j, o⟩ := x
  dsimp only at ho
  subst ho
  obtain ⟨_, hn, d, h1, h2⟩ := h
  exact ⟨d, h1, h2, hn, by simp [List.lookup]⟩
structure Stt (K : PySem.W.Frag) (cl : Nat → Addr) (H0 : Hp) (L : List En) (M : List (Addr × HO)) (H : Hp) : Prop where
  sm : Same H0 H
  en : ∀ x ∈ L, x.on K cl H
  ls : ∀ p ∈ M, H p.1 = some p.2
section
variable {cl : Nat → Addr} {H0 H H' : Hp} {L : List En} {M : List (Addr × HO)} {Q : VK} {σ : L2.St} {K : PySem.W.Frag}
theorem Stt.start : Stt K cl H [] [] H := ⟨Same.refl _, fun _ z => (nomatch z), fun _ z => (nomatch z)⟩
theorem Stt.step (h : Stt K cl H0 L M H) (s : Same H H') : Stt K cl H0 L M H' := ⟨h.sm.trans s, fun x m => (h.en x m).same s, fun p m => s _ _ (h.ls p m)⟩
theorem Stt.put (h : Stt K cl H0 L M H) (s : Same H H') {x : En} (hx : x.on K cl H') : Stt K cl H0 (x :: L) M H' :=
  ⟨h.sm.trans s, fun y m => by
    rcases List.mem_cons.mp m with m | m
    · rw [m]
      exact hx
    · exact (h.en y m).same s, fun p m => s _ _ (h.ls p m)⟩
theorem Stt.obj (h : Stt K cl H0 L M H) {p : Addr} {o : HO} (np : H p = none) : Stt K cl H0 L (M ++ [(p, o)]) (upd H p o) :=
  ⟨h.sm.trans (same_new np), fun y m => (h.en y m).same (same_new np), fun q m => by
    rcases List.mem_append.mp m with m | m
    · exact same_new np _ _ (h.ls q m)
    · rw [List.mem_singleton.mp m]
      exact upd_same⟩
theorem Stt.also {D : Addr} {o : HO} (h : Stt K cl H0 L M H) (s : Same H H') (e : H' D = some o) : Stt K cl H0 L (M ++ [(D, o)]) H' :=
  ⟨h.sm.trans s, fun y m => (h.en y m).same s, fun p m => by
    rcases List.mem_append.mp m with m | m
    · exact s _ _ (h.ls p m)
    · rw [List.mem_singleton.mp m]
      exact e⟩
theorem Stt.noL (h : Stt K cl H0 L M H) : Stt K cl H0 [] M H := ⟨h.sm, fun _ z => (by cases z), h.ls⟩
theorem Stt.noM (h : Stt K cl H0 L M H) : Stt K cl H0 L [] H := ⟨h.sm, h.en, fun _ z => (by cases z)⟩
theorem rd_mkv {j : Nat} {f : Str} {v : V} (h : Stt K cl H0 L M H) (no : PySem.W.findIn K (.ref (cl j)) f = some none) (hj : j < 27) (q : ∀ e H', Stt K cl H0 (⟨e, j, some (f, v)⟩ :: L) M H' → Q (.ref e) H') : rMkV (cl j) f v H Q := fun e d he hd ne => by
  have hd' : upd H d (.xd [(f, v)]) e = none := (upd_ne (Ne.symm ne)).trans he
  refine q e _ (h.put ((same_new hd).trans (same_new hd')) (x := ⟨e, j, some (f, v)⟩) ⟨hj, no, d, upd_same, ?_⟩)
  rw [upd_ne ne]
  exact upd_same
theorem rd_mk0 {j : Nat} (h : Stt K cl H0 L M H) (hj : j < 27) (q : ∀ e H', Stt K cl H0 (⟨e, j, none⟩ :: L) M H' → Q (.ref e) H') : tMk0 (cl j) σ H Q := fun e he => q e _ (h.put (same_new he) (x := ⟨e, j, none⟩) ⟨hj, upd_same⟩)
theorem le1000 {n : Nat} (h : n ≤ 1000) : n ≤ sizeLine := Nat.le_of_lt (small1000 h)
def NewL (xs : List V) (H : Hp) (Q : VK) : Prop := xs.length ≤ sizeLine ∧ ∀ p, H p = none → Q (.ref p) (upd H p (.lst xs))
def NewT (xs : List V) (H : Hp) (Q : VK) : Prop := xs.length ≤ sizeLine ∧ ∀ p, H p = none → Q (.ref p) (upd H p (.tup xs))
def NewR (a b : Int) (H : Hp) (Q : VK) : Prop := RgOk a b ∧ ∀ p, H p = none → Q (.ref p) (upd H p (.lst (rgV a b)))
theorem rd_lstQ {tl : TA} (h : tl σ H fun xs H1 => NewL xs H1 Q) : tLst tl σ H Q := h
theorem rd_tupQ {tl : TA} (h : tl σ H fun xs H1 => NewT xs H1 Q) : tTup tl σ H Q := h
theorem rd_rgQ {te : L2.St → Hp → (Int → Int → Hp → Prop) → Prop} (h : te σ H fun a b H1 => NewR a b H1 Q) : tLstRg te σ H Q := h
theorem rd_mkt {C : Addr} {f : Str} {tl : TA} (h : tl σ H fun vs H1 => ∃ v, vs = [v] ∧ rMkV C f v H1 Q) : tMkV C f tl σ H Q := h
theorem rd_hf {te : TE} {f : Str} (h : te σ H fun x H1 => ∃ (a C d : Addr) (fs : List (Str × V)) (v : V), x = .ref a ∧ H1 a = some (ExH (.ref C) (some d) a) ∧ H1 d = some (.xd fs) ∧ ExF K C ∧ PySem.W.findIn K (.ref C) f = some none ∧ fs.lookup f = some v ∧ Q v H1) : tHFld K te f σ H Q := h
theorem rd_r1 {ta : TE} {R : Int → Int → Hp → Prop} (h : ta σ H fun x H1 => ∃ n, x = .int n ∧ R 0 n H1) : tRg1 ta σ H R := h
theorem rd_r2 {ta tb : TE} {R : Int → Int → Hp → Prop} (h : ta σ H fun x H1 => tb σ H1 fun y H2 => ∃ i j, x = .int i ∧ y = .int j ∧ R i j H2) : tRg2 ta tb σ H R := h
theorem rd_nm5 {i : Nat} {v : V} {b0 b1 b2 b3 b4 : Option V} {Qg : L2.St → Hp → Prop} (e : σ.set i (some v) = [b0, b1, b2, b3, b4]) (h : Qg [b0, b1, b2, b3, b4] H) : gName i v σ H Qg := (congrArg (fun z => Qg z H) e).mpr h
theorem rd_nm6 {i : Nat} {v : V} {b0 b1 b2 b3 b4 b5 : Option V} {Qg : L2.St → Hp → Prop} (e : σ.set i (some v) = [b0, b1, b2, b3, b4, b5]) (h : Qg [b0, b1, b2, b3, b4, b5] H) : gName i v σ H Qg := (congrArg (fun z => Qg z H) e).mpr h
theorem rd_nm7 {i : Nat} {v : V} {b0 b1 b2 b3 b4 b5 b6 : Option V} {Qg : L2.St → Hp → Prop} (e : σ.set i (some v) = [b0, b1, b2, b3, b4, b5, b6]) (h : Qg [b0, b1, b2, b3, b4, b5, b6] H) : gName i v σ H Qg := (congrArg (fun z => Qg z H) e).mpr h
theorem rd_nm8 {i : Nat} {v : V} {b0 b1 b2 b3 b4 b5 b6 b7 : Option V} {Qg : L2.St → Hp → Prop} (e : σ.set i (some v) = [b0, b1, b2, b3, b4, b5, b6, b7]) (h : Qg [b0, b1, b2, b3, b4, b5, b6, b7] H) : gName i v σ H Qg := (congrArg (fun z => Qg z H) e).mpr h
theorem rd_bm {T : String} {r : V → List V → Hp → VK → Prop} {to : TE} {tl : TA} (h : to σ H fun x H1 => tyV K T x H1 ∧ tl σ H1 fun xs H2 => r x xs H2 Q) : tBM K T r to tl σ H Q := h
theorem rd_lstS {xs : List V} (h : Stt K cl H0 L M H) (hl : xs.length ≤ 1000) (q : ∀ p H', Stt K cl H0 L (M ++ [(p, .lst xs)]) H' → Q (.ref p) H') : NewL xs H Q := ⟨le1000 hl, fun p np => q p _ (h.obj np)⟩
theorem rd_tupS {xs : List V} (h : Stt K cl H0 L M H) (hl : xs.length ≤ 1000) (q : ∀ p H', Stt K cl H0 L (M ++ [(p, .tup xs)]) H' → Q (.ref p) H') : NewT xs H Q := ⟨le1000 hl, fun p np => q p _ (h.obj np)⟩
theorem rd_catS {l b : Addr} {xs zs : List V} (h : Stt K cl H0 L M H) (m1 : (l, .lst xs) ∈ M) (m2 : (b, .lst zs) ∈ M) (hl : xs.length + zs.length ≤ 1000) (q : ∀ p H', Stt K cl H0 L (M ++ [(p, .lst (xs ++ zs))]) H' → Q (.ref p) H') : rCat (.ref l) (.ref b) H Q :=
  ⟨l, b, xs, zs, rfl, rfl, h.ls _ m1, h.ls _ m2, le1000 hl, fun p np => q p _ (h.obj np)⟩
theorem rd_catD {l b : Addr} {xs zs : List V} (h : Stt K cl H0 L M H) (m1 : (l, .lst xs) ∈ M) (m2 : (b, .lst zs) ∈ M) (hl : xs.length + zs.length ≤ 1000) (q : ∀ p H', Stt K cl H0 L [(p, .lst (xs ++ zs))] H' → Q (.ref p) H') : rCat (.ref l) (.ref b) H Q :=
  rd_catS h m1 m2 hl fun p H' s => q p H' ⟨s.sm, s.en, fun z m => s.ls z (List.mem_append_right _ m)⟩
theorem rd_repS {l : Addr} {xs : List V} {n : Int} (h : Stt K cl H0 L M H) (m1 : (l, .lst xs) ∈ M) (n0 : 0 ≤ n) (n1 : n ≤ 100) (hl : xs.length * n.toNat ≤ 1000) (q : ∀ p H', Stt K cl H0 L (M ++ [(p, .lst (List.replicate n.toNat xs).flatten)]) H' → Q (.ref p) H') : rRep (.ref l) (.int n) H Q :=
  ⟨l, n, xs, rfl, rfl, h.ls _ m1, by omega, by omega, le1000 hl, fun p np => q p _ (h.obj np)⟩
theorem rd_rgS {a b : Int} (h : Stt K cl H0 L M H) (ok : RgOk a b) (q : ∀ p H', Stt K cl H0 L (M ++ [(p, .lst (rgV a b))]) H' → Q (.ref p) H') : NewR a b H Q := ⟨ok, fun p np => q p _ (h.obj np)⟩
theorem rd_eqD {x y : V} {d e : PyData} {b : Bool} (h1 : Dp K H x d) (h2 : Dp K H y e) (s1 : SeqAt.shaped d = true) (s2 : SeqAt.shaped e = true) (hb : PyData.eqv d e = b) (q : Q (.bl b) H) : rEqD K x y H Q := ⟨d, e, h1, h2, s1, s2, by rw [hb]; exact q⟩
theorem rd_neD {x y : V} {d e : PyData} {b : Bool} (h1 : Dp K H x d) (h2 : Dp K H y e) (s1 : SeqAt.shaped d = true) (s2 : SeqAt.shaped e = true) (hb : PyData.eqv d e = b) (q : Q (.bl (!b)) H) : rNeD K x y H Q := ⟨d, e, h1, h2, s1, s2, by rw [hb]; exact q⟩
/-- a comprehension whose items leave the heap as it was -/
theorem lc_map {g : TG} {te : TE} {tt : TT} {n k : Nat} {p : Addr} (hσ : σ[n]? = some (some (.ref p))) {es ys : List V} (hL : SqL K H p es) (hn : es.length = ys.length) (small : ys.length ≤ 1000) (hw : ∀ x : V, wipe ((wipe σ [k]).set k (some x)) [k] = wipe σ [k])
    (hte : ∀ (i : Nat) (x y : V) (H1 : Hp) (Qd : VK), es[i]? = some x → ys[i]? = some y → Same H H1 → (∀ H2, Same H1 H2 → Qd y H2) → te ((wipe σ [k]).set k (some x)) H1 Qd)
    (hg : g = gName k) (ht : tt = tYes) (q : ∀ D H1, Same H H1 → H1 D = some (.lst ys) → Q (.ref D) H1) : tLc (iList K (tVar n)) g tt te [k] σ H Q := by
  subst hg
  subst ht
  refine ⟨.ref p, hσ, p, rfl, ⟨es, hL⟩, fun D nD => ?_⟩
  refine lc_list (xs := es) (fun i H1 => Same H H1 ∧ H1 D = some (.lst (ys.take i))) ⟨same_new nD, by rw [upd_same]; rfl⟩ (fun i H1 _ h => h.1.seq hL) (fun i x H1 hx h => ?_) (fun H1 h => ?_)
  · obtain ⟨s1, hD⟩ := h
    have hi : i < ys.length := by
      rw [← hn]
      exact (List.getElem?_eq_some_iff.mp hx).1
    have hy : ys[i]? = some ys[i] := List.getElem?_eq_getElem hi
    refine ⟨hw x, ?_⟩
    show (if true = true then te _ _ _ else (Same H H1 ∧ H1 D = some (.lst (ys.take (i + 1)))))
    rw [if_pos rfl]
    refine hte i x ys[i] H1 _ hx hy s1 fun H2 s2 => ⟨ys.take i, s2 _ _ hD, ?_, same_mut (s1.trans s2) nD, ?_⟩
    · have : (ys.take i).length ≤ i := by
        rw [List.length_take]
        omega
      exact small1000 (by omega)
    · rw [upd_same, List.take_add_one, hy]
      rfl
  · obtain ⟨s1, hD⟩ := h
    refine q D H1 s1 ?_
    rw [hD, hn, List.take_length]
theorem lc_en {te : TE} {g : TG} {tt : TT} {n k : Nat} {p : Addr} {L : List En} {y : En → V} (hσ : σ[n]? = some (some (.ref p))) (hL : SqL K H p (L.map fun x => V.ref x.a)) (small : L.length ≤ 1000) (hw : ∀ x : V, wipe ((wipe σ [k]).set k (some x)) [k] = wipe σ [k])
    (hte : ∀ x ∈ L, ∀ (H1 : Hp) (Qd : VK), Same H H1 → (∀ H2, Same H1 H2 → Qd (y x) H2) → te ((wipe σ [k]).set k (some (.ref x.a))) H1 Qd)
    (hg : g = gName k) (ht : tt = tYes) (q : ∀ D H1, Same H H1 → H1 D = some (.lst (L.map y)) → Q (.ref D) H1) : tLc (iList K (tVar n)) g tt te [k] σ H Q := by
  refine lc_map (ys := L.map y) hσ hL (by rw [List.length_map, List.length_map]) (by rw [List.length_map]; exact small) hw (fun i x z H1 Qd hx hz s1 q1 => ?_) hg ht q
  rw [List.getElem?_map] at hx hz
  obtain ⟨e, he, rfl⟩ := Option.map_eq_some_iff.mp hx
  rw [he] at hz
  cases hz
  exact hte e (List.mem_of_getElem? he) H1 Qd s1 q1
end
theorem sqT_same {K : PySem.W.Frag} {H H' : Hp} {a : Addr} {xs : List V} (e : Same H H') (h : SqT K H a xs) : SqT K H' a xs := by
  rcases h with (h | ⟨o, h⟩) | h
  · exact .inl (.inl (e _ _ h))
  · exact .inl (.inr ⟨o, e _ _ h⟩)
  · exact .inr h
mutual
theorem dp_same {K : PySem.W.Frag} {H H' : Hp} (s : Same H H') : ∀ (d : PyData) (v : V), Dp K H v d → Dp K H' v d
  | .none, _, h => by
    cases h
    exact .non
  | .bool b, _, h => by
    cases h
    exact .bl b
  | .int i, _, h => by
    cases h
    exact .int i
  | .str z, _, h => by
    cases h
    exact .str z
  | .list ds, _, h => by
    cases h with
    | lst hS ha => exact .lst (s.seq hS) (dp_sameAll s ds _ ha)
  | .tuple ds, _, h => by
    cases h with
    | tup hS ha => exact .tup (sqT_same s hS) (dp_sameAll s ds _ ha)
  | .dict _, _, h => by cases h
theorem dp_sameAll {K : PySem.W.Frag} {H H' : Hp} (s : Same H H') : ∀ (ds : List PyData) (vs : List V), DpAll K H vs ds → DpAll K H' vs ds
  | [], _, h => by
    cases h
    exact .nil
  | d :: ds, _, h => by
    cases h with
    | cons h1 h2 => exact .cons (dp_same s d _ h1) (dp_sameAll s ds _ h2)
end
end Vm
local macro_rules | `(tactic| walk_at "rd1") => `(tactic| first
  | ((with_reducible apply Vk.rd_var); exact rfl)
  | (with_reducible refine Vk.rd_c ?_)
  | (with_reducible refine Vk.rd_seq ?_)
  | (with_reducible refine Vk.rd_asg ?_)
  | (with_reducible refine Vk.rd_ret ?_)
  | (with_reducible refine Vk.rd_drop ?_)
  | (with_reducible refine Vk.rd_nx ?_)
  | (with_reducible refine Vk.rd_nm ?_)
  | (with_reducible refine Vk.rd_op ?_)
  | (with_reducible refine Vk.rd_un ?_)
  | (with_reducible refine Vk.rd_i0 ?_)
  | ((with_reducible refine Vk.rd_i ?_ ?_); (first | decide | (show (0 : Int) < _; decide) | exact ⟨by decide, by decide⟩ | exact ⟨by decide, by decide, by decide⟩ | exact .inl ⟨by decide, by decide⟩ | exact .inr ⟨by decide, by decide⟩ | exact .inl ⟨by omega, by omega⟩ | exact .inr ⟨by omega, by omega⟩ | exact ⟨by omega, by omega⟩ | (show (0 : Int) < _; omega)))
  | (with_reducible refine Vk.rd_u ?_)
  | ((with_reducible refine Vk.rd_eq ?_ ?_); exact rfl)
  | ((with_reducible refine Vk.rd_ne ?_ ?_); exact rfl)
  | (with_reducible refine Vk.rd_test ?_)
  | (with_reducible refine Vk.rd_tb ?_)
  | (with_reducible refine Vk.rd_bl ?_)
  | (with_reducible refine Vk.rd_chain ?_)
  | (with_reducible refine Vk.rd_ifs ?_)
  | (with_reducible refine Vk.rd_ife ?_)
  | (with_reducible refine Vk.rd_and ?_)
  | (with_reducible refine Vk.rd_or ?_)
  | (with_reducible refine Vk.rd_not ?_)
  | (with_reducible refine Vk.rd_andV ?_)
  | (with_reducible refine Vk.rd_orV ?_)
  | (with_reducible refine Vk.rd_notV ?_)
  | (with_reducible refine Vk.rd_nil ?_)
  | (with_reducible refine Vk.rd_yes ?_)
  | (with_reducible refine Vk.rd_cons ?_)
  | (with_reducible refine Vk.rd_cb ?_)
  | (with_reducible refine Vk.rd_call ?_)
  | (with_reducible refine Vk.rd_callK ?_)
  | (with_reducible refine Vk.rd_sub ?_)
  | (with_reducible refine Vk.rd_tup ?_)
  | (with_reducible refine Vk.rd_lst ?_)
  | ((with_reducible apply Vk.rd_ixl); (first | assumption | exact .inl (.inl L2.upd_same) | exact .inl (.inl (by assumption))); (first | exact rfl | assumption))
  | ((with_reducible apply Vk.rd_ixt); (first | assumption | exact .inl (.inl L2.upd_same) | exact .inl (.inl (by assumption))); (first | exact rfl | assumption))
  | ((with_reducible apply Vk.rd_setl); (first | assumption | exact L2.upd_same); (exact rfl))
  | (with_reducible refine Vk.rd_T ?_)
  | (with_reducible refine Vk.rd_F ?_)
  | ((with_reducible apply Vk.rd_Tt); (first | exact rfl | assumption))
  | ((with_reducible apply Vk.rd_Ff); (first | exact rfl | assumption)))
local macro_rules | `(tactic| walk_at "rd") => `(tactic| repeat walk_at "rd1")
local macro_rules | `(tactic| walk_at "rd1") => `(tactic| first
  | (with_reducible refine Vm.rd_lstQ ?_)
  | (with_reducible refine Vm.rd_tupQ ?_)
  | (with_reducible refine Vm.rd_rgQ ?_)
  | (with_reducible refine Vm.rd_r1 ?_)
  | (with_reducible refine Vm.rd_r2 ?_)
  | (with_reducible refine Vm.rd_mkt ?_)
  | (with_reducible refine Vm.rd_hf ?_)
  | (with_reducible refine Vm.rd_bm ?_))
namespace K13
open PySem PySem.Spec PyProof.Rows L2 Vk Vm Vx
def topS (i : Nat) : Stmt := PySem.Challenge.pw_allscreens_k13_limits_and_errors.main.body.getD i (.Pass ⟨0, 0, 0, 0⟩)
abbrev s_cell : Stmt := topS 44
abbrev N_cell : List Str := ["_law_script", "_law_k", "_law_state_here", "_law_cell_here"]
theorem sc_cell : FnScope N_cell ["_law_script", "_law_k"] (defScope s_cell) := ⟨rfl, rfl, rfl, by decide +kernel, rfl, by decide +kernel, by decide +kernel⟩
abbrev s_pool : Stmt := topS 45
abbrev N_pool : List Str := ["_law_cell_here", "_law_digits"]
theorem sc_pool : FnScope N_pool ["_law_cell_here"] (defScope s_pool) := ⟨rfl, rfl, rfl, by decide +kernel, rfl, by decide +kernel, by decide +kernel⟩
abbrev s_draw : Stmt := topS 46
abbrev N_draw : List Str := ["_law_pool_here", "_law_many", "_law_old", "_law_digit"]
theorem sc_draw : FnScope N_draw ["_law_pool_here", "_law_many"] (defScope s_draw) := ⟨rfl, rfl, rfl, by decide +kernel, rfl, by decide +kernel, by decide +kernel⟩
abbrev s_values_right : Stmt := topS 47
abbrev N_values_right : List Str := ["_law_thing", "_law_some", "_law_named", "_law_made", "_law_e"]
theorem sc_values_right : FnScope N_values_right ["_law_thing"] (defScope s_values_right) := ⟨rfl, rfl, rfl, by decide +kernel, rfl, by decide +kernel, by decide +kernel⟩
abbrev s_which : Stmt := topS 48
abbrev N_which : List Str := ["_law_e", "_law_flags", "_law_at", "_law_bases", "_law_plain", "_law_due"]
theorem sc_which : FnScope N_which ["_law_e"] (defScope s_which) := ⟨rfl, rfl, rfl, by decide +kernel, rfl, by decide +kernel, by decide +kernel⟩
abbrev s_others_right : Stmt := topS 49
abbrev N_others_right : List Str := ["_law_at", "_law_call", "_law_some", "_law_told", "_law_bare", "_law_much", "_law_e"]
theorem sc_others_right : FnScope N_others_right ["_law_at", "_law_call"] (defScope s_others_right) := ⟨rfl, rfl, rfl, by decide +kernel, rfl, by decide +kernel, by decide +kernel⟩
abbrev s_law : Stmt := topS 50
abbrev N_law : List Str := ["_law_script", "_law_limits", "_law_k", "_law_pool_here", "_law_some", "_law_thing", "_law_at", "_law_call"]
theorem sc_law : FnScope N_law ["_law_script"] (defScope s_law) := ⟨rfl, rfl, rfl, by decide +kernel, rfl, by decide +kernel, by decide +kernel⟩
structure Ad where
  f_cell : Addr
  d_cell : FuncData
  f_pool : Addr
  d_pool : FuncData
  f_draw : Addr
  d_draw : FuncData
  f_values_right : Addr
  d_values_right : FuncData
  f_which : Addr
  d_which : FuncData
  f_others_right : Addr
  d_others_right : FuncData
  f_law : Addr
  d_law : FuncData
  t_MOST_SURFACES : Tok
  t_MOST_SIZE : Tok
  t_MOST_COLOUR : Tok
  t_MOST_ORDERS : Tok
  t_MOST_COPIES : Tok
  t_MOST_KEYS : Tok
  t_MOST_RECOLOURS : Tok
  t_MOST_PAIRS : Tok
  t_MOST_REPEAT : Tok
  t_MOST_LEVELS : Tok
  t_MOST_PARTS : Tok
  t_MOST_EDITS : Tok
  cs : List Addr
  i_InvalidStage : Addr
  i_InvalidSurface : Addr
  i_InvalidCell : Addr
  i_InvalidRect : Addr
  i_InvalidNumber : Addr
  i_InvalidColour : Addr
  i_InvalidPairs : Addr
  i_InvalidForm : Addr
  i_InvalidLine : Addr
  i_NotAScript : Addr
  i_NotAPicture : Addr
  i_InvalidPatch : Addr
  i_InvalidPass : Addr
  i_InvalidEdit : Addr
  i_InvalidOrder : Addr
  i_InvalidText : Addr
  i_Guarded : Addr
  i_TooManyOrders : Addr
  i_TooManyCopies : Addr
  i_TooManyKeys : Addr
  i_TooManyRecolours : Addr
  i_TooManyEdits : Addr
def cl (A : Ad) (j : Nat) : Addr := A.cs.getD j 0
def tst (cs : List Addr) (t : Nat) : Value := if t < 30 then .ref (cs.getD t 0) else if t = 30 then .type "ValueError" else if t = 31 then .type "LookupError" else .type "ArithmeticError"
def exq (j t : Nat) : Bool := if t < 27 then j == t else if t == 27 || t == 30 then decide (j < 16) else if t == 28 || t == 31 then decide (16 ≤ j) && decide (j < 22) else decide (22 ≤ j)
def isB (K : PySem.W.Frag) (cs : List Addr) : Bool := (List.range 27).all fun j => (List.range 33).all fun t => PySem.W.kitOne K (.ref (cs.getD j 0)) (tst cs t) == some (exq j t)
def exB (K : PySem.W.Frag) (cs : List Addr) : Bool := (List.range 27).all fun j => Vm.exfB K (cs.getD j 0)
theorem isB_ok {K : PySem.W.Frag} {cs : List Addr} (h : isB K cs = true) (j t : Nat) (hj : j < 27) (ht : t < 33) : PySem.W.kitOne K (.ref (cs.getD j 0)) (tst cs t) = some (exq j t) :=
  eq_of_beq (List.all_eq_true.mp (List.all_eq_true.mp h j (List.mem_range.mpr hj)) t (List.mem_range.mpr ht))
theorem exB_ok {K : PySem.W.Frag} {cs : List Addr} (h : exB K cs = true) (j : Nat) (hj : j < 27) : Vx.ExF K (cs.getD j 0) := Vm.exfB_ok (List.all_eq_true.mp h j (List.mem_range.mpr hj))
structure Txt (K : PySem.W.Frag) (mg : Str → Option Value) (A : Ad) : Prop where
  F_cell : Fun K "_law_cell" "_law_cell" s_cell A.f_cell A.d_cell
  B_cell : Binds K A.d_cell ["_law_script", "_law_k"] []
  g_cell : mg "_law_cell" = some (.ref A.f_cell)
  F_pool : Fun K "_law_pool" "_law_pool" s_pool A.f_pool A.d_pool
  B_pool : Binds K A.d_pool ["_law_cell_here"] []
  g_pool : mg "_law_pool" = some (.ref A.f_pool)
  F_draw : Fun K "_law_draw" "_law_draw" s_draw A.f_draw A.d_draw
  B_draw : Binds K A.d_draw ["_law_pool_here", "_law_many"] []
  g_draw : mg "_law_draw" = some (.ref A.f_draw)
  F_values_right : Fun K "_law_values_right" "_law_values_right" s_values_right A.f_values_right A.d_values_right
  B_values_right : Binds K A.d_values_right ["_law_thing"] []
  g_values_right : mg "_law_values_right" = some (.ref A.f_values_right)
  F_which : Fun K "_law_which" "_law_which" s_which A.f_which A.d_which
  B_which : Binds K A.d_which ["_law_e"] []
  g_which : mg "_law_which" = some (.ref A.f_which)
  F_others_right : Fun K "_law_others_right" "_law_others_right" s_others_right A.f_others_right A.d_others_right
  B_others_right : Binds K A.d_others_right ["_law_at", "_law_call"] []
  g_others_right : mg "_law_others_right" = some (.ref A.f_others_right)
  F_law : Fun K "law" "law" s_law A.f_law A.d_law
  B_law : Binds K A.d_law ["_law_script"] []
  g_law : mg "law" = some (.ref A.f_law)
  m_ArithmeticError : mg "ArithmeticError" = none
  m_LookupError : mg "LookupError" = none
  m_ValueError : mg "ValueError" = none
  m_abs : mg "abs" = none
  m_all : mg "all" = none
  m_divmod : mg "divmod" = none
  m_isinstance : mg "isinstance" = none
  m_len : mg "len" = none
  m_list : mg "list" = none
  m_max : mg "max" = none
  m_min : mg "min" = none
  m_range : mg "range" = none
  g_MOST_SURFACES : mg "MOST_SURFACES" = some (.int 6 A.t_MOST_SURFACES)
  g_MOST_SIZE : mg "MOST_SIZE" = some (.int 1000000000000 A.t_MOST_SIZE)
  g_MOST_COLOUR : mg "MOST_COLOUR" = some (.int 1000000000 A.t_MOST_COLOUR)
  g_MOST_ORDERS : mg "MOST_ORDERS" = some (.int 16 A.t_MOST_ORDERS)
  g_MOST_COPIES : mg "MOST_COPIES" = some (.int 4 A.t_MOST_COPIES)
  g_MOST_KEYS : mg "MOST_KEYS" = some (.int 2 A.t_MOST_KEYS)
  g_MOST_RECOLOURS : mg "MOST_RECOLOURS" = some (.int 4 A.t_MOST_RECOLOURS)
  g_MOST_PAIRS : mg "MOST_PAIRS" = some (.int 2 A.t_MOST_PAIRS)
  g_MOST_REPEAT : mg "MOST_REPEAT" = some (.int 12 A.t_MOST_REPEAT)
  g_MOST_LEVELS : mg "MOST_LEVELS" = some (.int 6 A.t_MOST_LEVELS)
  g_MOST_PARTS : mg "MOST_PARTS" = some (.int 8 A.t_MOST_PARTS)
  g_MOST_EDITS : mg "MOST_EDITS" = some (.int 100 A.t_MOST_EDITS)
  g_InvalidStage : mg "InvalidStage" = some (.ref (cl A 0))
  g_InvalidSurface : mg "InvalidSurface" = some (.ref (cl A 1))
  g_InvalidCell : mg "InvalidCell" = some (.ref (cl A 2))
  g_InvalidRect : mg "InvalidRect" = some (.ref (cl A 3))
  g_InvalidNumber : mg "InvalidNumber" = some (.ref (cl A 4))
  g_InvalidColour : mg "InvalidColour" = some (.ref (cl A 5))
  g_InvalidPairs : mg "InvalidPairs" = some (.ref (cl A 6))
  g_InvalidForm : mg "InvalidForm" = some (.ref (cl A 7))
  g_InvalidLine : mg "InvalidLine" = some (.ref (cl A 8))
  g_NotAScript : mg "NotAScript" = some (.ref (cl A 9))
  g_NotAPicture : mg "NotAPicture" = some (.ref (cl A 10))
  g_InvalidPatch : mg "InvalidPatch" = some (.ref (cl A 11))
  g_InvalidPass : mg "InvalidPass" = some (.ref (cl A 12))
  g_InvalidEdit : mg "InvalidEdit" = some (.ref (cl A 13))
  g_InvalidOrder : mg "InvalidOrder" = some (.ref (cl A 14))
  g_InvalidText : mg "InvalidText" = some (.ref (cl A 15))
  g_DifferentStages : mg "DifferentStages" = some (.ref (cl A 16))
  g_UsesKeys : mg "UsesKeys" = some (.ref (cl A 17))
  g_NoBeginning : mg "NoBeginning" = some (.ref (cl A 18))
  g_Guarded : mg "Guarded" = some (.ref (cl A 19))
  g_Busy : mg "Busy" = some (.ref (cl A 20))
  g_NothingToUndo : mg "NothingToUndo" = some (.ref (cl A 21))
  g_TooManyOrders : mg "TooManyOrders" = some (.ref (cl A 22))
  g_TooManyCopies : mg "TooManyCopies" = some (.ref (cl A 23))
  g_TooManyKeys : mg "TooManyKeys" = some (.ref (cl A 24))
  g_TooManyRecolours : mg "TooManyRecolours" = some (.ref (cl A 25))
  g_TooManyEdits : mg "TooManyEdits" = some (.ref (cl A 26))
  g_FormError : mg "FormError" = some (.ref (cl A 27))
  g_StateError : mg "StateError" = some (.ref (cl A 28))
  g_LimitError : mg "LimitError" = some (.ref (cl A 29))
  C_InvalidStage : Vm.Cl K [.type "ValueError", .type "Exception", .type "BaseException", .type "object"] "ValueError.__new__" "value" (cl A 0) A.i_InvalidStage
  I_InvalidStage : Vm.Ini K "value" "InvalidStage.__init__" A.i_InvalidStage
  C_InvalidSurface : Vm.Cl K [.type "ValueError", .type "Exception", .type "BaseException", .type "object"] "ValueError.__new__" "value" (cl A 1) A.i_InvalidSurface
  I_InvalidSurface : Vm.Ini K "value" "InvalidSurface.__init__" A.i_InvalidSurface
  C_InvalidCell : Vm.Cl K [.type "ValueError", .type "Exception", .type "BaseException", .type "object"] "ValueError.__new__" "value" (cl A 2) A.i_InvalidCell
  I_InvalidCell : Vm.Ini K "value" "InvalidCell.__init__" A.i_InvalidCell
  C_InvalidRect : Vm.Cl K [.type "ValueError", .type "Exception", .type "BaseException", .type "object"] "ValueError.__new__" "value" (cl A 3) A.i_InvalidRect
  I_InvalidRect : Vm.Ini K "value" "InvalidRect.__init__" A.i_InvalidRect
  C_InvalidNumber : Vm.Cl K [.type "ValueError", .type "Exception", .type "BaseException", .type "object"] "ValueError.__new__" "value" (cl A 4) A.i_InvalidNumber
  I_InvalidNumber : Vm.Ini K "value" "InvalidNumber.__init__" A.i_InvalidNumber
  C_InvalidColour : Vm.Cl K [.type "ValueError", .type "Exception", .type "BaseException", .type "object"] "ValueError.__new__" "value" (cl A 5) A.i_InvalidColour
  I_InvalidColour : Vm.Ini K "value" "InvalidColour.__init__" A.i_InvalidColour
  C_InvalidPairs : Vm.Cl K [.type "ValueError", .type "Exception", .type "BaseException", .type "object"] "ValueError.__new__" "value" (cl A 6) A.i_InvalidPairs
  I_InvalidPairs : Vm.Ini K "value" "InvalidPairs.__init__" A.i_InvalidPairs
  C_InvalidForm : Vm.Cl K [.type "ValueError", .type "Exception", .type "BaseException", .type "object"] "ValueError.__new__" "value" (cl A 7) A.i_InvalidForm
  I_InvalidForm : Vm.Ini K "value" "InvalidForm.__init__" A.i_InvalidForm
  C_InvalidLine : Vm.Cl K [.type "ValueError", .type "Exception", .type "BaseException", .type "object"] "ValueError.__new__" "value" (cl A 8) A.i_InvalidLine
  I_InvalidLine : Vm.Ini K "value" "InvalidLine.__init__" A.i_InvalidLine
  C_NotAScript : Vm.Cl K [.type "ValueError", .type "Exception", .type "BaseException", .type "object"] "ValueError.__new__" "value" (cl A 9) A.i_NotAScript
  I_NotAScript : Vm.Ini K "value" "NotAScript.__init__" A.i_NotAScript
  C_NotAPicture : Vm.Cl K [.type "ValueError", .type "Exception", .type "BaseException", .type "object"] "ValueError.__new__" "value" (cl A 10) A.i_NotAPicture
  I_NotAPicture : Vm.Ini K "value" "NotAPicture.__init__" A.i_NotAPicture
  C_InvalidPatch : Vm.Cl K [.type "ValueError", .type "Exception", .type "BaseException", .type "object"] "ValueError.__new__" "index" (cl A 11) A.i_InvalidPatch
  I_InvalidPatch : Vm.Ini K "index" "InvalidPatch.__init__" A.i_InvalidPatch
  C_InvalidPass : Vm.Cl K [.type "ValueError", .type "Exception", .type "BaseException", .type "object"] "ValueError.__new__" "index" (cl A 12) A.i_InvalidPass
  I_InvalidPass : Vm.Ini K "index" "InvalidPass.__init__" A.i_InvalidPass
  C_InvalidEdit : Vm.Cl K [.type "ValueError", .type "Exception", .type "BaseException", .type "object"] "ValueError.__new__" "index" (cl A 13) A.i_InvalidEdit
  I_InvalidEdit : Vm.Ini K "index" "InvalidEdit.__init__" A.i_InvalidEdit
  C_InvalidOrder : Vm.Cl K [.type "ValueError", .type "Exception", .type "BaseException", .type "object"] "ValueError.__new__" "path" (cl A 14) A.i_InvalidOrder
  I_InvalidOrder : Vm.Ini K "path" "InvalidOrder.__init__" A.i_InvalidOrder
  C_InvalidText : Vm.Cl K [.type "ValueError", .type "Exception", .type "BaseException", .type "object"] "ValueError.__new__" "line" (cl A 15) A.i_InvalidText
  I_InvalidText : Vm.Ini K "line" "InvalidText.__init__" A.i_InvalidText
  C_Guarded : Vm.Cl K [.type "LookupError", .type "Exception", .type "BaseException", .type "object"] "LookupError.__new__" "name" (cl A 19) A.i_Guarded
  I_Guarded : Vm.Ini K "name" "Guarded.__init__" A.i_Guarded
  C_TooManyOrders : Vm.Cl K [.type "ArithmeticError", .type "Exception", .type "BaseException", .type "object"] "ArithmeticError.__new__" "found" (cl A 22) A.i_TooManyOrders
  I_TooManyOrders : Vm.Ini K "found" "TooManyOrders.__init__" A.i_TooManyOrders
  C_TooManyCopies : Vm.Cl K [.type "ArithmeticError", .type "Exception", .type "BaseException", .type "object"] "ArithmeticError.__new__" "found" (cl A 23) A.i_TooManyCopies
  I_TooManyCopies : Vm.Ini K "found" "TooManyCopies.__init__" A.i_TooManyCopies
  C_TooManyKeys : Vm.Cl K [.type "ArithmeticError", .type "Exception", .type "BaseException", .type "object"] "ArithmeticError.__new__" "found" (cl A 24) A.i_TooManyKeys
  I_TooManyKeys : Vm.Ini K "found" "TooManyKeys.__init__" A.i_TooManyKeys
  C_TooManyRecolours : Vm.Cl K [.type "ArithmeticError", .type "Exception", .type "BaseException", .type "object"] "ArithmeticError.__new__" "found" (cl A 25) A.i_TooManyRecolours
  I_TooManyRecolours : Vm.Ini K "found" "TooManyRecolours.__init__" A.i_TooManyRecolours
  C_TooManyEdits : Vm.Cl K [.type "ArithmeticError", .type "Exception", .type "BaseException", .type "object"] "ArithmeticError.__new__" "found" (cl A 26) A.i_TooManyEdits
  I_TooManyEdits : Vm.Ini K "found" "TooManyEdits.__init__" A.i_TooManyEdits
  X_DifferentStages : PySem.W.excIn K (cl A 16) [.type "LookupError", .type "Exception", .type "BaseException", .type "object"] "LookupError.__new__" = true
  k_DifferentStages : PySem.W.keepIn K (.ref (cl A 16)) = true
  X_UsesKeys : PySem.W.excIn K (cl A 17) [.type "LookupError", .type "Exception", .type "BaseException", .type "object"] "LookupError.__new__" = true
  k_UsesKeys : PySem.W.keepIn K (.ref (cl A 17)) = true
  X_NoBeginning : PySem.W.excIn K (cl A 18) [.type "LookupError", .type "Exception", .type "BaseException", .type "object"] "LookupError.__new__" = true
  k_NoBeginning : PySem.W.keepIn K (.ref (cl A 18)) = true
  X_Busy : PySem.W.excIn K (cl A 20) [.type "LookupError", .type "Exception", .type "BaseException", .type "object"] "LookupError.__new__" = true
  k_Busy : PySem.W.keepIn K (.ref (cl A 20)) = true
  X_NothingToUndo : PySem.W.excIn K (cl A 21) [.type "LookupError", .type "Exception", .type "BaseException", .type "object"] "LookupError.__new__" = true
  k_NothingToUndo : PySem.W.keepIn K (.ref (cl A 21)) = true
  all_F : ∀ j, j < 27 → Vx.ExF K (cl A j)
  all_I : ∀ j t, j < 27 → t < 33 → PySem.W.kitOne K (.ref (cl A j)) (tst A.cs t) = some (exq j t)
section
variable {P : Program} {w : World} {K : PySem.W.Frag} {mg : Str → Option Value} {base : Heap} {A : Ad}
/-! ### pools -/
def spCell (K : PySem.W.Frag) : Sp := fun vs H Q _ => ∃ (a : Addr) (ns : List Int) (k : Int), vs = [.ref a, .int k] ∧ SqL K H a (ns.map V.int) ∧ 0 ≤ k ∧ k ≤ 1000 ∧ ∀ z H', Same H H' → Q (.int z) H'
theorem ok_cell (T : Txt K mg A) : FnOk P w K mg base CX0 1 A.f_cell A.d_cell ["_law_script", "_law_k"] (spCell K) := by
  refine T.F_cell.ok sc_cell (fun vs H Q E h => ?_) (fun cdv A0 outer s H vs Q E hr h => ?_)
  · obtain ⟨a, ns, k, rfl, _⟩ := h
    rfl
  · obtain ⟨a, ns, k, rfl, hS, k0, k1, q⟩ := h
    refine ⟨_, (pss_cons (ps_if (pt_cmpR op_lt (pv 1) (pe_callB call_len_seq (by rfl) T.m_len PySem.boot_len (pa_cons (pv 0) pa_nil)) (nomark _))
        (pss_one (ps_ret (pe_ix ix_list (pv 0) (pv 1) (fun _ _ => rfl))))
        pss_nil)
      (pss_cons (ps_set (i := 2) sc_cell.nd rfl (.inl rfl) (pe_op op_mod (pe_op op_mul pe_int (pe_op op_add (pe_op op_add (pe_op op_mul (pv 1) (pv 1)) (pe_op op_mul pe_int (pv 1))) pe_int)) pe_int))
      (pss_cons (ps_for PassesOwn.never rfl (pi_list (pe_slice sl_list (pv 0) po_none (po_some pe_int))) (pg_name (i := 3) sc_cell.nd rfl (.inl rfl))
        (pss_one (ps_set (i := 2) sc_cell.nd rfl (.inl rfl) (pe_op op_mod (pe_op op_add (pe_op op_mul (pv 2) pe_int) (pv 3)) pe_int))))
      (pss_one (ps_ret (pv 2)))))), ?_⟩
    walk_at "rd"
    refine ⟨a, _, rfl, .inl hS, ?_⟩
    walk_at "rd"
    refine rd_2 (fun e => ?_) (fun e => ?_)
    · have hk := of_decide_eq_true e
      obtain ⟨v, e1, e2⟩ := atI_lt k0 hk
      obtain ⟨n, _, rfl⟩ := List.mem_map.mp e2
      walk_at "rd"
      exact q _ _ (Same.refl _)
    · walk_at "rd"
      obtain ⟨ms, em⟩ := cut_ints ns none (some 3)
      refine ⟨.ref a, rfl, 3, rfl, a, _, rfl, hS, fun p np => ⟨p, rfl, ⟨_, .inl (.inl upd_same)⟩, ?_⟩⟩
      rw [em]
      refine for_list (xs := ms.map V.int) (fun i σ H' => ∃ z y, σ = [some (.ref a), some (.int k), some (.int z), y] ∧ Same H H' ∧ H' p = some (.lst (ms.map V.int)))
        ⟨_, none, rfl, same_new np, upd_same⟩ (fun i σ H' _ h => ?_) (fun i x σ H' hx h => ?_) (fun σ H' h => ?_)
      · obtain ⟨z, y, rfl, sm, e⟩ := h
        exact .inl (.inl e)
      · obtain ⟨z, y, rfl, sm, e⟩ := h
        obtain ⟨n, rfl⟩ := mem_ints hx
        walk_at "rd"
        exact ⟨_, _, rfl, sm, e⟩
      · obtain ⟨z, y, rfl, sm, e⟩ := h
        walk_at "rd"
        exact q _ _ sm
def spPool : Sp := fun vs H Q _ => ∃ z : Int, vs = [.int z] ∧ ∀ p H', H p = none → Same H H' → Pool H' p → Q (.ref p) H'
theorem ok_pool (T : Txt K mg A) : FnOk P w K mg base CX0 1 A.f_pool A.d_pool ["_law_cell_here"] spPool := by
  refine T.F_pool.ok sc_pool (fun vs H Q E h => ?_) (fun cdv A0 outer s H vs Q E hr h => ?_)
  · obtain ⟨z, rfl, _⟩ := h
    rfl
  · obtain ⟨z, rfl, q⟩ := h
    refine ⟨_, (pss_cons (ps_set (i := 1) sc_pool.nd rfl (.inl rfl) (pe_ifExp (pw_or (pt_cmpR op_lt (pv 0) pe_int (nomark _)) (pw_or1 (pt_cmpR op_ge (pv 0) (pe_op op_pow pe_int pe_int) (nomark _)))).pt (pe_callB call_abs (by rfl) T.m_abs (by decide +kernel) (pa_cons (pv 0) pa_nil)) pe_int))
      (pss_one (ps_ret (pe_lst (pa_cons (pe_op op_mod (pv 0) pe_int) (pa_cons (pv 1) (pa_cons pe_int pa_nil))))))), ?_⟩
    have fin : ∀ p x d c, H p = none → Q (.ref p) (upd H p (.lst [.int x, .int d, .int c])) := fun p x d c np => q p _ np (same_new np) ⟨x, d, c, upd_same⟩
    walk_at "rd"
    refine rd_2 (fun e => ?_) (fun e => ?_)
    · walk_at "rd"
      refine ⟨_, rfl, ?_⟩
      walk_at "rd"
      exact ⟨le_line (Nat.le_of_ble_eq_true rfl), fun p np => fin p _ _ _ np⟩
    · walk_at "rd"
      refine rd_2 (fun e => ?_) (fun e => ?_)
      · walk_at "rd"
        refine ⟨_, rfl, ?_⟩
        walk_at "rd"
        exact ⟨le_line (Nat.le_of_ble_eq_true rfl), fun p np => fin p _ _ _ np⟩
      · walk_at "rd"
        exact ⟨le_line (Nat.le_of_ble_eq_true rfl), fun p np => fin p _ _ _ np⟩
def spDraw : Sp := fun vs H Q _ => ∃ (a : Addr) (m : Int), vs = [.ref a, .int m] ∧ Pool H a ∧ 0 < m ∧ m < 18446744073709551616 ∧ ∀ r H', 0 ≤ r → r < m → But [a] H H' → Pool H' a → Q (.int r) H'
theorem ok_draw (T : Txt K mg A) : FnOk P w K mg base CX0 1 A.f_draw A.d_draw ["_law_pool_here", "_law_many"] spDraw := by
  refine T.F_draw.ok sc_draw (fun vs H Q E h => ?_) (fun cdv A0 outer s H vs Q E hr h => ?_)
  · obtain ⟨a, m, rfl, _⟩ := h
    rfl
  · obtain ⟨a, m, rfl, ⟨x, d, c, hP⟩, m0, m1, q⟩ := h
    have ma : a ∈ [a] := List.mem_singleton.mpr rfl
    refine ⟨_, (pss_cons (ps_asg (pe_op op_add (pe_ix ix_list (pv 0) pe_int (fun _ _ => rfl)) pe_int) (pg_sub (pv 0) pe_int set_list))
      (pss_cons (ps_set (i := 2) sc_draw.nd rfl (.inl rfl) (pe_ix ix_list (pv 0) pe_int (fun _ _ => rfl)))
      (pss_cons (ps_asg (pe_op op_mod (pe_op op_add (pe_op op_add (pe_op op_mul (pv 2) (pe_op op_add (pe_op op_mod (pv 2) pe_int) pe_int)) (pe_op op_mul pe_int (pe_ix ix_list (pv 0) pe_int (fun _ _ => rfl)))) pe_int) pe_int) (pg_sub (pv 0) pe_int set_list))
      (pss_cons (ps_if (pt_cmpR op_gt (pe_ix ix_list (pv 0) pe_int (fun _ _ => rfl)) pe_int (nomark _))
        (pss_cons (ps_asg (pe_callB call_divmodW (by rfl) T.m_divmod (by decide +kernel) (pa_cons (pe_ix ix_list (pv 0) pe_int (fun _ _ => rfl)) (pa_cons (pv 1) pa_nil))) (pg_tup rfl (pgs_cons (pg_sub (pv 0) pe_int set_list) (pgs_cons (pg_name (i := 3) sc_draw.nd rfl (.inl rfl)) pgs_nil))))
        (pss_one (ps_ret (pv 3))))
        pss_nil)
      (pss_one (ps_ret (pe_op op_mod (pe_op op_fdiv (pe_ix ix_list (pv 0) pe_int (fun _ _ => rfl)) pe_int) (pv 1)))))))), ?_⟩
    walk_at "rd"
    refine rd_2 (fun e => ?_) (fun e => ?_)
    · walk_at "rd"
      refine ⟨_, _, rfl, divp_small m0 m1, fun p np => ⟨p, _, rfl, .inl (.inl upd_same), rfl, _, _, rfl, ?_⟩⟩
      have na : a ≠ p := fun z => by
        rw [← z, upd_same] at np
        cases np
      have hP2 := (upd_ne (o := .tup [.int (d / m), .int (d % m)]) na).trans (upd_same (H := upd H a (.lst ([.int x, .int d, .int c].set 2 (.int (c + 1))))) (a := a) (o := .lst (([.int x, .int d, .int c].set 2 (.int (c + 1))).set 0 (.int ((x * (x % 43013 + 28009) + 70009 * (c + 1) + 19) % 2147482943)))))
      walk_at "rd"
      refine ⟨_, _, rfl, ?_⟩
      walk_at "rd"
      refine ⟨rfl, ?_⟩
      walk_at "rd"
      refine q _ _ (Int.emod_nonneg _ (by omega)) (Int.emod_lt_of_pos _ m0) (((((But.refl.set ma).set ma).new np).set ma)) ⟨_, _, _, upd_same⟩
    · walk_at "rd"
      refine q _ _ (Int.emod_nonneg _ (by omega)) (Int.emod_lt_of_pos _ m0) ((But.refl.set ma).set ma) ⟨_, _, _, upd_same⟩
end
section
variable {P : Program} {w : World} {K : PySem.W.Frag} {mg : Str → Option Value} {base : Heap} {A : Ad}
theorem boot_isi : bootBuiltins "isinstance" = some (.builtin "isinstance") := by decide +kernel
theorem is_cl {a : Addr} {j t : Nat} {H : Hp} {Q : VK} (T : Txt K mg A) (hj : j < 27) (ht : t < 30) (e : ExAt H a (cl A j)) (q : Q (.bl (exq j t)) H) : rIsX K [.ref a, .ref (cl A t)] H Q := by
  have k := T.all_I j t hj (by omega)
  unfold tst at k
  rw [if_pos ht] at k
  exact ⟨a, cl A j, _, _, _, rfl, .own _, e, T.all_F j hj, k, q⟩
theorem is_ty {a : Addr} {j t : Nat} {n : String} {H : Hp} {Q : VK} (T : Txt K mg A) (hj : j < 27) (hn : (t = 30 ∧ n = "ValueError") ∨ (t = 31 ∧ n = "LookupError") ∨ (t = 32 ∧ n = "ArithmeticError")) (e : ExAt H a (cl A j)) (q : Q (.bl (exq j t)) H) : rIsX K [.ref a, .ty n] H Q := by
  have k : PySem.W.kitOne K (.ref (cl A j)) (.type n) = some (exq j t) := by
    rcases hn with ⟨rfl, rfl⟩ | ⟨rfl, rfl⟩ | ⟨rfl, rfl⟩
    · exact T.all_I j 30 hj (by omega)
    · exact T.all_I j 31 hj (by omega)
    · exact T.all_I j 32 hj (by omega)
  exact ⟨a, cl A j, _, _, _, rfl, .ty n, e, T.all_F j hj, k, q⟩
local macro_rules | `(tactic| walk_at "rd1") => `(tactic| ((with_reducible apply Vm.rd_nm6); (exact rfl)))
def fl (j : Nat) : List V := (List.range 27).map fun t => V.bl (exq j t)
theorem fl_count : ∀ j, j < 27 → (fl j).countP (fun z => eqV z (.bl true)) = 1 := by decide +kernel
theorem fl_flat (j : Nat) : (fl j).all flatV = true := rfl
theorem fl_at : ∀ j, j < 27 → (fl j)[j]? = some (.bl true) := by decide +kernel
theorem fl_low : ∀ j, j < 27 → ∀ m, m < j → eqV ((fl j).getD m .non) (.bl true) = false := by decide +kernel
theorem due1 : ∀ j : Nat, j < 27 → decide ((j : Int) < 16) = exq j 27 := by decide +kernel
theorem due2 : ∀ j : Nat, j < 27 → decide ((16 : Int) ≤ (j : Int)) = true → decide ((j : Int) < 22) = exq j 28 := by decide +kernel
theorem due2' : ∀ j : Nat, j < 27 → decide ((16 : Int) ≤ (j : Int)) = false → false = exq j 28 := by decide +kernel
theorem due3 : ∀ j : Nat, j < 27 → decide ((21 : Int) < (j : Int)) = exq j 29 := by decide +kernel
theorem eq3 (a b c : Bool) : PyData.eqv (.list [.bool a, .bool b, .bool c]) (.list [.bool a, .bool b, .bool c]) = true := by cases a <;> cases b <;> cases c <;> rfl
theorem dp3 {H : Hp} {p : Addr} {a b c : Bool} (h : H p = some (.lst [.bl a, .bl b, .bl c])) : Dp K H (.ref p) (.list [.bool a, .bool b, .bool c]) := .lst (.inl (.inl h)) (.cons (.bl a) (.cons (.bl b) (.cons (.bl c) .nil)))
def spWhich (A : Ad) : Sp := fun vs H Q _ => ∃ (a : Addr) (j : Nat), vs = [.ref a] ∧ j < 27 ∧ ExAt H a (cl A j) ∧ ∀ H', Same H H' → Q (.int j) H'
theorem ok_which (T : Txt K mg A) : FnOk P w K mg base CX0 1 A.f_which A.d_which ["_law_e"] (spWhich A) := by
  refine T.F_which.ok sc_which (fun vs H Q E h => ?_) (fun cdv A0 outer s H vs Q E hr h => ?_)
  · obtain ⟨a, j, rfl, _⟩ := h
    rfl
  · obtain ⟨a, j, rfl, hj, he, q⟩ := h
    have hu64 := room64 hr
    refine ⟨_, (pss_cons (ps_set (i := 1) sc_which.nd rfl (.inl rfl) (pe_lst (pa_cons (pe_callB Vm.call_isX (by rfl) T.m_isinstance boot_isi (pa_cons (pv 0) (pa_cons (pe_glob (v := .ref (cl A 0)) (by rfl) T.g_InvalidStage rfl) pa_nil))) (pa_cons (pe_callB Vm.call_isX (by rfl) T.m_isinstance boot_isi (pa_cons (pv 0) (pa_cons (pe_glob (v := .ref (cl A 1)) (by rfl) T.g_InvalidSurface rfl) pa_nil))) (pa_cons (pe_callB Vm.call_isX (by rfl) T.m_isinstance boot_isi (pa_cons (pv 0) (pa_cons (pe_glob (v := .ref (cl A 2)) (by rfl) T.g_InvalidCell rfl) pa_nil))) pa_nil)))))
      (pss_cons (ps_set (i := 1) sc_which.nd rfl (.inl rfl) (pe_op op_cat (pv 1) (pe_lst (pa_cons (pe_callB Vm.call_isX (by rfl) T.m_isinstance boot_isi (pa_cons (pv 0) (pa_cons (pe_glob (v := .ref (cl A 3)) (by rfl) T.g_InvalidRect rfl) pa_nil))) (pa_cons (pe_callB Vm.call_isX (by rfl) T.m_isinstance boot_isi (pa_cons (pv 0) (pa_cons (pe_glob (v := .ref (cl A 4)) (by rfl) T.g_InvalidNumber rfl) pa_nil))) (pa_cons (pe_callB Vm.call_isX (by rfl) T.m_isinstance boot_isi (pa_cons (pv 0) (pa_cons (pe_glob (v := .ref (cl A 5)) (by rfl) T.g_InvalidColour rfl) pa_nil))) pa_nil))))))
      (pss_cons (ps_set (i := 1) sc_which.nd rfl (.inl rfl) (pe_op op_cat (pv 1) (pe_lst (pa_cons (pe_callB Vm.call_isX (by rfl) T.m_isinstance boot_isi (pa_cons (pv 0) (pa_cons (pe_glob (v := .ref (cl A 6)) (by rfl) T.g_InvalidPairs rfl) pa_nil))) (pa_cons (pe_callB Vm.call_isX (by rfl) T.m_isinstance boot_isi (pa_cons (pv 0) (pa_cons (pe_glob (v := .ref (cl A 7)) (by rfl) T.g_InvalidForm rfl) pa_nil))) (pa_cons (pe_callB Vm.call_isX (by rfl) T.m_isinstance boot_isi (pa_cons (pv 0) (pa_cons (pe_glob (v := .ref (cl A 8)) (by rfl) T.g_InvalidLine rfl) pa_nil))) pa_nil))))))
      (pss_cons (ps_set (i := 1) sc_which.nd rfl (.inl rfl) (pe_op op_cat (pv 1) (pe_lst (pa_cons (pe_callB Vm.call_isX (by rfl) T.m_isinstance boot_isi (pa_cons (pv 0) (pa_cons (pe_glob (v := .ref (cl A 9)) (by rfl) T.g_NotAScript rfl) pa_nil))) (pa_cons (pe_callB Vm.call_isX (by rfl) T.m_isinstance boot_isi (pa_cons (pv 0) (pa_cons (pe_glob (v := .ref (cl A 10)) (by rfl) T.g_NotAPicture rfl) pa_nil))) (pa_cons (pe_callB Vm.call_isX (by rfl) T.m_isinstance boot_isi (pa_cons (pv 0) (pa_cons (pe_glob (v := .ref (cl A 11)) (by rfl) T.g_InvalidPatch rfl) pa_nil))) pa_nil))))))
      (pss_cons (ps_set (i := 1) sc_which.nd rfl (.inl rfl) (pe_op op_cat (pv 1) (pe_lst (pa_cons (pe_callB Vm.call_isX (by rfl) T.m_isinstance boot_isi (pa_cons (pv 0) (pa_cons (pe_glob (v := .ref (cl A 12)) (by rfl) T.g_InvalidPass rfl) pa_nil))) (pa_cons (pe_callB Vm.call_isX (by rfl) T.m_isinstance boot_isi (pa_cons (pv 0) (pa_cons (pe_glob (v := .ref (cl A 13)) (by rfl) T.g_InvalidEdit rfl) pa_nil))) (pa_cons (pe_callB Vm.call_isX (by rfl) T.m_isinstance boot_isi (pa_cons (pv 0) (pa_cons (pe_glob (v := .ref (cl A 14)) (by rfl) T.g_InvalidOrder rfl) pa_nil))) pa_nil))))))
      (pss_cons (ps_set (i := 1) sc_which.nd rfl (.inl rfl) (pe_op op_cat (pv 1) (pe_lst (pa_cons (pe_callB Vm.call_isX (by rfl) T.m_isinstance boot_isi (pa_cons (pv 0) (pa_cons (pe_glob (v := .ref (cl A 15)) (by rfl) T.g_InvalidText rfl) pa_nil))) (pa_cons (pe_callB Vm.call_isX (by rfl) T.m_isinstance boot_isi (pa_cons (pv 0) (pa_cons (pe_glob (v := .ref (cl A 16)) (by rfl) T.g_DifferentStages rfl) pa_nil))) (pa_cons (pe_callB Vm.call_isX (by rfl) T.m_isinstance boot_isi (pa_cons (pv 0) (pa_cons (pe_glob (v := .ref (cl A 17)) (by rfl) T.g_UsesKeys rfl) pa_nil))) pa_nil))))))
      (pss_cons (ps_set (i := 1) sc_which.nd rfl (.inl rfl) (pe_op op_cat (pv 1) (pe_lst (pa_cons (pe_callB Vm.call_isX (by rfl) T.m_isinstance boot_isi (pa_cons (pv 0) (pa_cons (pe_glob (v := .ref (cl A 18)) (by rfl) T.g_NoBeginning rfl) pa_nil))) (pa_cons (pe_callB Vm.call_isX (by rfl) T.m_isinstance boot_isi (pa_cons (pv 0) (pa_cons (pe_glob (v := .ref (cl A 19)) (by rfl) T.g_Guarded rfl) pa_nil))) (pa_cons (pe_callB Vm.call_isX (by rfl) T.m_isinstance boot_isi (pa_cons (pv 0) (pa_cons (pe_glob (v := .ref (cl A 20)) (by rfl) T.g_Busy rfl) pa_nil))) pa_nil))))))
      (pss_cons (ps_set (i := 1) sc_which.nd rfl (.inl rfl) (pe_op op_cat (pv 1) (pe_lst (pa_cons (pe_callB Vm.call_isX (by rfl) T.m_isinstance boot_isi (pa_cons (pv 0) (pa_cons (pe_glob (v := .ref (cl A 21)) (by rfl) T.g_NothingToUndo rfl) pa_nil))) (pa_cons (pe_callB Vm.call_isX (by rfl) T.m_isinstance boot_isi (pa_cons (pv 0) (pa_cons (pe_glob (v := .ref (cl A 22)) (by rfl) T.g_TooManyOrders rfl) pa_nil))) (pa_cons (pe_callB Vm.call_isX (by rfl) T.m_isinstance boot_isi (pa_cons (pv 0) (pa_cons (pe_glob (v := .ref (cl A 23)) (by rfl) T.g_TooManyCopies rfl) pa_nil))) pa_nil))))))
      (pss_cons (ps_set (i := 1) sc_which.nd rfl (.inl rfl) (pe_op op_cat (pv 1) (pe_lst (pa_cons (pe_callB Vm.call_isX (by rfl) T.m_isinstance boot_isi (pa_cons (pv 0) (pa_cons (pe_glob (v := .ref (cl A 24)) (by rfl) T.g_TooManyKeys rfl) pa_nil))) (pa_cons (pe_callB Vm.call_isX (by rfl) T.m_isinstance boot_isi (pa_cons (pv 0) (pa_cons (pe_glob (v := .ref (cl A 25)) (by rfl) T.g_TooManyRecolours rfl) pa_nil))) (pa_cons (pe_callB Vm.call_isX (by rfl) T.m_isinstance boot_isi (pa_cons (pv 0) (pa_cons (pe_glob (v := .ref (cl A 26)) (by rfl) T.g_TooManyEdits rfl) pa_nil))) pa_nil))))))
      (pss_cons (ps_set (i := 2) sc_which.nd rfl (.inl rfl) (pe_ifExp (pt_cmpR op_eq (pe_bm PySem.F.plainAttrs_list PySem.F.slot_list_count PySem.F.type_list_count Vm.mt_countF (pv 1) (pa_cons pe_bl pa_nil)) pe_int (nomark _)) (pe_bm PySem.F.plainAttrs_list PySem.F.slot_list_index PySem.F.type_list_index mt_index (pv 1) (pa_cons pe_bl pa_nil)) (pe_un un_neg pe_int)))
      (pss_cons (ps_set (i := 3) sc_which.nd rfl (.inl rfl) (pe_lst (pa_cons (pe_callB Vm.call_isX (by rfl) T.m_isinstance boot_isi (pa_cons (pv 0) (pa_cons (pe_glob (v := .ref (cl A 27)) (by rfl) T.g_FormError rfl) pa_nil))) (pa_cons (pe_callB Vm.call_isX (by rfl) T.m_isinstance boot_isi (pa_cons (pv 0) (pa_cons (pe_glob (v := .ref (cl A 28)) (by rfl) T.g_StateError rfl) pa_nil))) (pa_cons (pe_callB Vm.call_isX (by rfl) T.m_isinstance boot_isi (pa_cons (pv 0) (pa_cons (pe_glob (v := .ref (cl A 29)) (by rfl) T.g_LimitError rfl) pa_nil))) pa_nil)))))
      (pss_cons (ps_set (i := 4) sc_which.nd rfl (.inl rfl) (pe_lst (pa_cons (pe_callB Vm.call_isX (by rfl) T.m_isinstance boot_isi (pa_cons (pv 0) (pa_cons (pe_bltn (v := .ty "ValueError") (by rfl) T.m_ValueError (by decide +kernel) rfl) pa_nil))) (pa_cons (pe_callB Vm.call_isX (by rfl) T.m_isinstance boot_isi (pa_cons (pv 0) (pa_cons (pe_bltn (v := .ty "LookupError") (by rfl) T.m_LookupError (by decide +kernel) rfl) pa_nil))) (pa_cons (pe_callB Vm.call_isX (by rfl) T.m_isinstance boot_isi (pa_cons (pv 0) (pa_cons (pe_bltn (v := .ty "ArithmeticError") (by rfl) T.m_ArithmeticError (by decide +kernel) rfl) pa_nil))) pa_nil)))))
      (pss_cons (ps_set (i := 5) sc_which.nd rfl (.inl rfl) (pe_lst (pa_cons (pe_chain op_le op_lt pe_int (pv 2) pe_int) (pa_cons (pe_chain op_le op_lt pe_int (pv 2) pe_int) (pa_cons (pe_cmpR op_gt (pv 2) pe_int (nomark _)) pa_nil)))))
      (pss_one (ps_ret (pe_ifExp (pw_and (pt_cmpR (op_eqD hu64) (pv 3) (pv 5) (nomark _)) (pw_and1 (pt_cmpR (op_eqD hu64) (pv 4) (pv 5) (nomark _)))).pt (pv 2) (pe_un un_neg pe_int))))))))))))))))), ?_⟩
    have st : Stt K (cl A) H [] [] H := Stt.start
    (walk_at "rd"; refine is_cl T hj (by decide) (he.same st.sm) ?_); (walk_at "rd"; refine is_cl T hj (by decide) (he.same st.sm) ?_); (walk_at "rd"; refine is_cl T hj (by decide) (he.same st.sm) ?_); (walk_at "rd"; refine rd_lstS st ?_ fun p H1 st => ?_; (exact Nat.le_of_ble_eq_true rfl))
    (walk_at "rd"; refine is_cl T hj (by decide) (he.same st.sm) ?_); (walk_at "rd"; refine is_cl T hj (by decide) (he.same st.sm) ?_); (walk_at "rd"; refine is_cl T hj (by decide) (he.same st.sm) ?_); (walk_at "rd"; refine rd_lstS st ?_ fun p H1 st => ?_; (exact Nat.le_of_ble_eq_true rfl)); (walk_at "rd"; refine rd_catD st (by (repeat (first | exact List.mem_append_right _ (List.mem_singleton.mpr rfl) | exact List.mem_singleton.mpr rfl | apply List.mem_append_left))) (by (repeat (first | exact List.mem_append_right _ (List.mem_singleton.mpr rfl) | exact List.mem_singleton.mpr rfl | apply List.mem_append_left))) (by exact Nat.le_of_ble_eq_true rfl) fun p H1 st => ?_)
    (walk_at "rd"; refine is_cl T hj (by decide) (he.same st.sm) ?_); (walk_at "rd"; refine is_cl T hj (by decide) (he.same st.sm) ?_); (walk_at "rd"; refine is_cl T hj (by decide) (he.same st.sm) ?_); (walk_at "rd"; refine rd_lstS st ?_ fun p H1 st => ?_; (exact Nat.le_of_ble_eq_true rfl)); (walk_at "rd"; refine rd_catD st (by (repeat (first | exact List.mem_append_right _ (List.mem_singleton.mpr rfl) | exact List.mem_singleton.mpr rfl | apply List.mem_append_left))) (by (repeat (first | exact List.mem_append_right _ (List.mem_singleton.mpr rfl) | exact List.mem_singleton.mpr rfl | apply List.mem_append_left))) (by exact Nat.le_of_ble_eq_true rfl) fun p H1 st => ?_)
    (walk_at "rd"; refine is_cl T hj (by decide) (he.same st.sm) ?_); (walk_at "rd"; refine is_cl T hj (by decide) (he.same st.sm) ?_); (walk_at "rd"; refine is_cl T hj (by decide) (he.same st.sm) ?_); (walk_at "rd"; refine rd_lstS st ?_ fun p H1 st => ?_; (exact Nat.le_of_ble_eq_true rfl)); (walk_at "rd"; refine rd_catD st (by (repeat (first | exact List.mem_append_right _ (List.mem_singleton.mpr rfl) | exact List.mem_singleton.mpr rfl | apply List.mem_append_left))) (by (repeat (first | exact List.mem_append_right _ (List.mem_singleton.mpr rfl) | exact List.mem_singleton.mpr rfl | apply List.mem_append_left))) (by exact Nat.le_of_ble_eq_true rfl) fun p H1 st => ?_)
    (walk_at "rd"; refine is_cl T hj (by decide) (he.same st.sm) ?_); (walk_at "rd"; refine is_cl T hj (by decide) (he.same st.sm) ?_); (walk_at "rd"; refine is_cl T hj (by decide) (he.same st.sm) ?_); (walk_at "rd"; refine rd_lstS st ?_ fun p H1 st => ?_; (exact Nat.le_of_ble_eq_true rfl)); (walk_at "rd"; refine rd_catD st (by (repeat (first | exact List.mem_append_right _ (List.mem_singleton.mpr rfl) | exact List.mem_singleton.mpr rfl | apply List.mem_append_left))) (by (repeat (first | exact List.mem_append_right _ (List.mem_singleton.mpr rfl) | exact List.mem_singleton.mpr rfl | apply List.mem_append_left))) (by exact Nat.le_of_ble_eq_true rfl) fun p H1 st => ?_)
    (walk_at "rd"; refine is_cl T hj (by decide) (he.same st.sm) ?_); (walk_at "rd"; refine is_cl T hj (by decide) (he.same st.sm) ?_); (walk_at "rd"; refine is_cl T hj (by decide) (he.same st.sm) ?_); (walk_at "rd"; refine rd_lstS st ?_ fun p H1 st => ?_; (exact Nat.le_of_ble_eq_true rfl)); (walk_at "rd"; refine rd_catD st (by (repeat (first | exact List.mem_append_right _ (List.mem_singleton.mpr rfl) | exact List.mem_singleton.mpr rfl | apply List.mem_append_left))) (by (repeat (first | exact List.mem_append_right _ (List.mem_singleton.mpr rfl) | exact List.mem_singleton.mpr rfl | apply List.mem_append_left))) (by exact Nat.le_of_ble_eq_true rfl) fun p H1 st => ?_)
    (walk_at "rd"; refine is_cl T hj (by decide) (he.same st.sm) ?_); (walk_at "rd"; refine is_cl T hj (by decide) (he.same st.sm) ?_); (walk_at "rd"; refine is_cl T hj (by decide) (he.same st.sm) ?_); (walk_at "rd"; refine rd_lstS st ?_ fun p H1 st => ?_; (exact Nat.le_of_ble_eq_true rfl)); (walk_at "rd"; refine rd_catD st (by (repeat (first | exact List.mem_append_right _ (List.mem_singleton.mpr rfl) | exact List.mem_singleton.mpr rfl | apply List.mem_append_left))) (by (repeat (first | exact List.mem_append_right _ (List.mem_singleton.mpr rfl) | exact List.mem_singleton.mpr rfl | apply List.mem_append_left))) (by exact Nat.le_of_ble_eq_true rfl) fun p H1 st => ?_)
    (walk_at "rd"; refine is_cl T hj (by decide) (he.same st.sm) ?_); (walk_at "rd"; refine is_cl T hj (by decide) (he.same st.sm) ?_); (walk_at "rd"; refine is_cl T hj (by decide) (he.same st.sm) ?_); (walk_at "rd"; refine rd_lstS st ?_ fun p H1 st => ?_; (exact Nat.le_of_ble_eq_true rfl)); (walk_at "rd"; refine rd_catD st (by (repeat (first | exact List.mem_append_right _ (List.mem_singleton.mpr rfl) | exact List.mem_singleton.mpr rfl | apply List.mem_append_left))) (by (repeat (first | exact List.mem_append_right _ (List.mem_singleton.mpr rfl) | exact List.mem_singleton.mpr rfl | apply List.mem_append_left))) (by exact Nat.le_of_ble_eq_true rfl) fun p H1 st => ?_)
    (walk_at "rd"; refine is_cl T hj (by decide) (he.same st.sm) ?_); (walk_at "rd"; refine is_cl T hj (by decide) (he.same st.sm) ?_); (walk_at "rd"; refine is_cl T hj (by decide) (he.same st.sm) ?_); (walk_at "rd"; refine rd_lstS st ?_ fun p H1 st => ?_; (exact Nat.le_of_ble_eq_true rfl)); (walk_at "rd"; refine rd_catD st (by (repeat (first | exact List.mem_append_right _ (List.mem_singleton.mpr rfl) | exact List.mem_singleton.mpr rfl | apply List.mem_append_left))) (by (repeat (first | exact List.mem_append_right _ (List.mem_singleton.mpr rfl) | exact List.mem_singleton.mpr rfl | apply List.mem_append_left))) (by exact Nat.le_of_ble_eq_true rfl) fun p H1 st => ?_)
    have st : Stt K (cl A) H [] [(p, .lst (fl j))] H1 := st
    walk_at "rd"
    refine ⟨.inl ⟨rfl, _, .inl (.inl (st.ls _ (by (repeat (first | exact List.mem_append_right _ (List.mem_singleton.mpr rfl) | exact List.mem_singleton.mpr rfl | apply List.mem_append_left)))))⟩, ?_⟩
    walk_at "rd"
    refine ⟨p, fl j, _, rfl, rfl, .inl (.inl (st.ls _ (by (repeat (first | exact List.mem_append_right _ (List.mem_singleton.mpr rfl) | exact List.mem_singleton.mpr rfl | apply List.mem_append_left))))), rfl, fl_flat j, ?_⟩
    rw [fl_count j hj]
    walk_at "rd"
    refine ⟨.inl ⟨rfl, _, .inl (.inl (st.ls _ (by (repeat (first | exact List.mem_append_right _ (List.mem_singleton.mpr rfl) | exact List.mem_singleton.mpr rfl | apply List.mem_append_left)))))⟩, ?_⟩
    walk_at "rd"
    refine ⟨p, fl j, _, j, _, rfl, rfl, .inl (.inl (st.ls _ (by (repeat (first | exact List.mem_append_right _ (List.mem_singleton.mpr rfl) | exact List.mem_singleton.mpr rfl | apply List.mem_append_left))))), rfl, fl_flat j, fl_at j hj, rfl, fun m z hm hz => ?_, ?_⟩
    · have z1 := fl_low j hj m hm
      rw [List.getD_eq_getElem?_getD, hz] at z1
      exact z1
    walk_at "rd"
    refine is_cl T hj (by decide) (he.same st.sm) ?_
    (walk_at "rd"; refine is_cl T hj (by decide) (he.same st.sm) ?_); (walk_at "rd"; refine is_cl T hj (by decide) (he.same st.sm) ?_)
    walk_at "rd"; refine rd_lstS st (Nat.le_of_ble_eq_true rfl) fun p3 H3 st => ?_
    walk_at "rd"
    refine is_ty (t := 30) T hj (by decide) (he.same st.sm) ?_
    walk_at "rd"
    refine is_ty (t := 31) T hj (by decide) (he.same st.sm) ?_
    walk_at "rd"
    refine is_ty (t := 32) T hj (by decide) (he.same st.sm) ?_
    walk_at "rd"; refine rd_lstS st (Nat.le_of_ble_eq_true rfl) fun p4 H4 st => ?_
    walk_at "rd"
    rw [due1 j hj]
    have fin : ∀ (p5 : Addr) (H5 : Hp) (M : List (Addr × HO)), Stt K (cl A) H [] M H5 → (p3, HO.lst [V.bl (exq j 27), V.bl (exq j 28), V.bl (exq j 29)]) ∈ M → (p4, HO.lst [V.bl (exq j 30), V.bl (exq j 31), V.bl (exq j 32)]) ∈ M → (p5, HO.lst [V.bl (exq j 27), V.bl (exq j 28), V.bl (exq j 29)]) ∈ M →
        Same H H5 ∧ Dp K H5 (.ref p3) (.list [.bool (exq j 27), .bool (exq j 28), .bool (exq j 29)]) ∧ Dp K H5 (.ref p4) (.list [.bool (exq j 27), .bool (exq j 28), .bool (exq j 29)]) ∧ Dp K H5 (.ref p5) (.list [.bool (exq j 27), .bool (exq j 28), .bool (exq j 29)]) :=
      fun p5 H5 M s m3 m4 m5 => ⟨s.sm, dp3 (s.ls _ m3), dp3 (s.ls _ m4), dp3 (s.ls _ m5)⟩
    refine rd_2 (fun e => ?_) (fun e => ?_)
    · walk_at "rd"
      rw [due2 j hj e, due3 j hj]
      refine rd_lstS st (Nat.le_of_ble_eq_true rfl) fun p5 H5 st => ?_
      obtain ⟨s5, d3, d4, d5⟩ := fin p5 H5 _ st (by (repeat (first | exact List.mem_append_right _ (List.mem_singleton.mpr rfl) | exact List.mem_singleton.mpr rfl | apply List.mem_append_left))) (by (repeat (first | exact List.mem_append_right _ (List.mem_singleton.mpr rfl) | exact List.mem_singleton.mpr rfl | apply List.mem_append_left))) (by (repeat (first | exact List.mem_append_right _ (List.mem_singleton.mpr rfl) | exact List.mem_singleton.mpr rfl | apply List.mem_append_left)))
      walk_at "rd"
      refine rd_eqD d3 d5 rfl rfl (eq3 _ _ _) ?_
      walk_at "rd"
      refine rd_eqD d4 d5 rfl rfl (eq3 _ _ _) ?_
      walk_at "rd"
      exact q _ s5
    · walk_at "rd"
      rw [due2' j hj e, due3 j hj]
      refine rd_lstS st (Nat.le_of_ble_eq_true rfl) fun p5 H5 st => ?_
      obtain ⟨s5, d3, d4, d5⟩ := fin p5 H5 _ st (by (repeat (first | exact List.mem_append_right _ (List.mem_singleton.mpr rfl) | exact List.mem_singleton.mpr rfl | apply List.mem_append_left))) (by (repeat (first | exact List.mem_append_right _ (List.mem_singleton.mpr rfl) | exact List.mem_singleton.mpr rfl | apply List.mem_append_left))) (by (repeat (first | exact List.mem_append_right _ (List.mem_singleton.mpr rfl) | exact List.mem_singleton.mpr rfl | apply List.mem_append_left)))
      walk_at "rd"
      refine rd_eqD d3 d5 rfl rfl (eq3 _ _ _) ?_
      walk_at "rd"
      refine rd_eqD d4 d5 rfl rfl (eq3 _ _ _) ?_
      walk_at "rd"
      exact q _ s5
end
section
variable {P : Program} {w : World} {K : PySem.W.Frag} {mg : Str → Option Value} {base : Heap} {A : Ad}
local macro_rules | `(tactic| walk_at "rd1") => `(tactic| ((with_reducible apply Vm.rd_nm5); (exact rfl)))
/-- what a value is that is drawn: equal to itself -/
def Thg (K : PySem.W.Frag) (H : Hp) (v : V) : Prop := (∃ d, Dp K H v d ∧ SeqAt.shaped d = true ∧ PyData.eqv d d = true) ∨ ∃ p, v = .ref p ∧ H p = some (.dK [])
theorem Thg.same {H H' : Hp} {v : V} (h : Thg K H v) (s : Same H H') : Thg K H' v := by
  rcases h with ⟨d, h1, h2⟩ | ⟨p, h1, h2⟩
  · exact .inl ⟨d, dp_same s d v h1, h2⟩
  · exact .inr ⟨p, h1, s _ _ h2⟩
theorem Thg.eq {H : Hp} {v : V} {Q : VK} (h : Thg K H v) (q : Q (.bl true) H) : rEqD K v v H Q ∨ rEqDA v v H Q := by
  rcases h with ⟨d, h1, h2, h3⟩ | ⟨p, rfl, h2⟩
  · exact .inl (rd_eqD h1 h1 h2 h2 h3 q)
  · exact .inr ⟨p, p, [], [], rfl, rfl, h2, h2, rfl, (fun _ z => by cases z), q⟩
theorem dp_ints {H : Hp} {p : Addr} {ns : List Int} (h : H p = some (.lst (ns.map V.int))) : Dp K H (.ref p) (.list (ns.map PyData.int)) := by
  refine .lst (.inl (.inl h)) ?_
  clear h
  induction ns with
  | nil => exact .nil
  | cons n ns ih => exact .cons (.int n) ih
theorem eqv_ints (ns : List Int) : PyData.eqv (.list (ns.map PyData.int)) (.list (ns.map PyData.int)) = true := by
  induction ns with
  | nil => rfl
  | cons n ns ih =>
    simp only [List.map_cons, PyData.eqv, PyData.eqvAll] at ih ⊢
    simp [ih]
theorem shaped_ints (ns : List Int) : SeqAt.shaped (.list (ns.map PyData.int)) = true := by
  induction ns with
  | nil => rfl
  | cons n ns ih => exact ih
/-- an exception's class, for each of a row -/
theorem which_all {σ : L2.St} {H0 H : Hp} {L : List En} {M : List (Addr × HO)} {n k : Nat} {p : Addr} {xs : List V} {g : TG} {tt : TT} {ta : TA} {Q : VK} {E : XK} (st : Stt K (cl A) H0 L M H) (hσ : σ[n]? = some (some (.ref p))) (hm : (p, HO.lst xs) ∈ M) (hx : xs = L.reverse.map fun x => V.ref x.a) (small : L.length ≤ 1000)
    (hw : ∀ x : V, wipe ((wipe σ [k]).set k (some x)) [k] = wipe σ [k]) (hk : ∀ x : V, ((wipe σ [k]).set k (some x))[k]? = some (some x)) (ht : ta = tCons (tVar k) tNil) (hg : g = gName k) (htt : tt = tYes)
    (q : ∀ D H1, Same H H1 → H1 D = some (.lst ((L.reverse.map fun x => (x.j : Int)).map V.int)) → Q (.ref D) H1) : tLc (iList K (tVar n)) g tt (tCall (spWhich A) [] E ta) [k] σ H Q := by
  subst ht
  subst hx
  refine lc_en (L := L.reverse) (y := fun x => V.int (x.j : Int)) hσ (.inl (.inl (st.ls _ hm))) (by rw [List.length_reverse]; exact small) hw (fun x hx H1 Qd s1 q1 => ?_) hg htt (fun D H1 s hD => q D H1 s (by rw [hD, List.map_map]; rfl))
  have ho := (st.en x (List.mem_reverse.mp hx)).same s1
  exact ⟨_, hk _, x.a, x.j, rfl, ho.1, ho.ex, fun H2 s2 => q1 H2 s2⟩
theorem trues (L : List En) : (L.map fun _ => true).all id = true := by
  induction L with
  | nil => rfl
  | cons x L ih => exact ih
/-- what it keeps, for each of a row, beside what was given -/
theorem eq_all {σ : L2.St} {H0 H : Hp} {L : List En} {M : List (Addr × HO)} {n k : Nat} {p : Addr} {xs : List V} {v : V} {g : TG} {tt : TT} {Q : VK} (T : Txt K mg A) (st : Stt K (cl A) H0 L M H) (hσ : σ[n]? = some (some (.ref p))) (hm : (p, HO.lst xs) ∈ M) (hx : xs = L.reverse.map fun x => V.ref x.a) (small : L.length ≤ 1000)
    (hall : ∀ x ∈ L, x.o = some (("value" : Str), v)) (hv : Thg K H v) (hw : ∀ x : V, wipe ((wipe σ [k]).set k (some x)) [k] = wipe σ [k]) (hk : ∀ x : V, ((wipe σ [k]).set k (some x))[k]? = some (some x)) (h0 : ∀ x : V, ((wipe σ [k]).set k (some x))[0]? = some (some v)) (hg : g = gName k) (htt : tt = tYes)
    (q : ∀ D H1, Same H H1 → H1 D = some (.lst ((L.reverse.map fun _ => true).map V.bl)) → Q (.ref D) H1) : tLc (iList K (tVar n)) g tt (tOp (fun x y H Q => rEqD K x y H Q ∨ rEqDA x y H Q) (tHFld K (tVar k) "value") (tVar 0)) [k] σ H Q := by
  subst hx
  refine lc_en (L := L.reverse) (y := fun _ => V.bl true) hσ (.inl (.inl (st.ls _ hm))) (by rw [List.length_reverse]; exact small) hw (fun x hx H1 Qd s1 q1 => ?_) hg htt (fun D H1 s hD => q D H1 s (by rw [hD, List.map_map]; rfl))
  have ho := (st.en x (List.mem_reverse.mp hx)).same s1
  obtain ⟨d, h1, h2, hn, hl⟩ := ho.fld (hall x (List.mem_reverse.mp hx))
  exact ⟨_, hk _, x.a, cl A x.j, d, _, v, rfl, h1, h2, T.all_F _ ho.1, hn, hl, v, h0 _, (hv.same s1).eq (q1 H1 (Same.refl _))⟩
theorem all_put {P : En → Prop} {L : List En} {y : En} (h : ∀ x ∈ L, P x) (hy : P y) : ∀ x ∈ y :: L, P x := fun x m => by
  rcases List.mem_cons.mp m with m | m
  · rw [m]
    exact hy
  · exact h x m
theorem all_none {P : En → Prop} : ∀ x ∈ ([] : List En), P x := fun x z => by cases z
theorem one_obj {H0 H : Hp} {p : Addr} {o : HO} (s : Same H0 H) (h : H p = some o) : Stt K (cl A) H0 [] [(p, o)] H := ⟨s, all_none, fun z m => by
  rw [List.mem_singleton.mp m]
  exact h⟩
def spVR (K : PySem.W.Frag) : Sp := fun vs H Q _ => ∃ v, vs = [v] ∧ Thg K H v ∧ ∀ H', Same H H' → Q (.bl true) H'
theorem ok_values_right (T : Txt K mg A) : FnOk P w K mg base CX0 2 A.f_values_right A.d_values_right ["_law_thing"] (spVR K) := by
  have G_which : FnOk P w K mg base CX0 1 A.f_which A.d_which ["_law_e"] (spWhich A) := ok_which T
  refine T.F_values_right.ok sc_values_right (fun vs H Q E h => ?_) (fun cdv A0 outer s H vs Q E hr h => ?_)
  · obtain ⟨v, rfl, _⟩ := h
    rfl
  · obtain ⟨v, rfl, hv, q⟩ := h
    have hu64 := room64 hr
    refine ⟨_, (pss_cons (ps_set (i := 1) sc_values_right.nd rfl (.inl rfl) (pe_lst (pa_cons (Vm.pe_mkv (k := 0) PySem.F.excBase_ValueError PySem.F.store_ValueError T.C_InvalidStage T.I_InvalidStage (by decide) (hr.mono (by decide)) (by rfl) T.g_InvalidStage (pa_cons (pv 0) pa_nil)) (pa_cons (Vm.pe_mkv (k := 0) PySem.F.excBase_ValueError PySem.F.store_ValueError T.C_InvalidSurface T.I_InvalidSurface (by decide) (hr.mono (by decide)) (by rfl) T.g_InvalidSurface (pa_cons (pv 0) pa_nil)) (pa_cons (Vm.pe_mkv (k := 0) PySem.F.excBase_ValueError PySem.F.store_ValueError T.C_InvalidCell T.I_InvalidCell (by decide) (hr.mono (by decide)) (by rfl) T.g_InvalidCell (pa_cons (pv 0) pa_nil)) (pa_cons (Vm.pe_mkv (k := 0) PySem.F.excBase_ValueError PySem.F.store_ValueError T.C_InvalidRect T.I_InvalidRect (by decide) (hr.mono (by decide)) (by rfl) T.g_InvalidRect (pa_cons (pv 0) pa_nil)) (pa_cons (Vm.pe_mkv (k := 0) PySem.F.excBase_ValueError PySem.F.store_ValueError T.C_InvalidNumber T.I_InvalidNumber (by decide) (hr.mono (by decide)) (by rfl) T.g_InvalidNumber (pa_cons (pv 0) pa_nil)) pa_nil)))))))
      (pss_cons (ps_set (i := 1) sc_values_right.nd rfl (.inl rfl) (pe_op op_cat (pv 1) (pe_lst (pa_cons (Vm.pe_mkv (k := 0) PySem.F.excBase_ValueError PySem.F.store_ValueError T.C_InvalidColour T.I_InvalidColour (by decide) (hr.mono (by decide)) (by rfl) T.g_InvalidColour (pa_cons (pv 0) pa_nil)) (pa_cons (Vm.pe_mkv (k := 0) PySem.F.excBase_ValueError PySem.F.store_ValueError T.C_InvalidPairs T.I_InvalidPairs (by decide) (hr.mono (by decide)) (by rfl) T.g_InvalidPairs (pa_cons (pv 0) pa_nil)) (pa_cons (Vm.pe_mkv (k := 0) PySem.F.excBase_ValueError PySem.F.store_ValueError T.C_InvalidForm T.I_InvalidForm (by decide) (hr.mono (by decide)) (by rfl) T.g_InvalidForm (pa_cons (pv 0) pa_nil)) (pa_cons (Vm.pe_mkv (k := 0) PySem.F.excBase_ValueError PySem.F.store_ValueError T.C_InvalidLine T.I_InvalidLine (by decide) (hr.mono (by decide)) (by rfl) T.g_InvalidLine (pa_cons (pv 0) pa_nil)) pa_nil)))))))
      (pss_cons (ps_set (i := 1) sc_values_right.nd rfl (.inl rfl) (pe_op op_cat (pv 1) (pe_lst (pa_cons (Vm.pe_mkv (k := 0) PySem.F.excBase_ValueError PySem.F.store_ValueError T.C_NotAScript T.I_NotAScript (by decide) (hr.mono (by decide)) (by rfl) T.g_NotAScript (pa_cons (pv 0) pa_nil)) (pa_cons (Vm.pe_mkv (k := 0) PySem.F.excBase_ValueError PySem.F.store_ValueError T.C_NotAPicture T.I_NotAPicture (by decide) (hr.mono (by decide)) (by rfl) T.g_NotAPicture (pa_cons (pv 0) pa_nil)) pa_nil)))))
      (pss_cons (ps_set (i := 2) sc_values_right.nd rfl (.inl rfl) (pe_lst (pa_cons (Vm.pe_mkvK (k := 0) PySem.F.excBase_ValueError PySem.F.store_ValueError T.C_InvalidStage T.I_InvalidStage (by decide) (hr.mono (by decide)) (by rfl) T.g_InvalidStage (pk_cons (pv 0) pk_nil)) (pa_cons (Vm.pe_mkvK (k := 0) PySem.F.excBase_ValueError PySem.F.store_ValueError T.C_InvalidSurface T.I_InvalidSurface (by decide) (hr.mono (by decide)) (by rfl) T.g_InvalidSurface (pk_cons (pv 0) pk_nil)) (pa_cons (Vm.pe_mkvK (k := 0) PySem.F.excBase_ValueError PySem.F.store_ValueError T.C_InvalidCell T.I_InvalidCell (by decide) (hr.mono (by decide)) (by rfl) T.g_InvalidCell (pk_cons (pv 0) pk_nil)) (pa_cons (Vm.pe_mkvK (k := 0) PySem.F.excBase_ValueError PySem.F.store_ValueError T.C_InvalidRect T.I_InvalidRect (by decide) (hr.mono (by decide)) (by rfl) T.g_InvalidRect (pk_cons (pv 0) pk_nil)) pa_nil))))))
      (pss_cons (ps_set (i := 2) sc_values_right.nd rfl (.inl rfl) (pe_op op_cat (pv 2) (pe_lst (pa_cons (Vm.pe_mkvK (k := 0) PySem.F.excBase_ValueError PySem.F.store_ValueError T.C_InvalidNumber T.I_InvalidNumber (by decide) (hr.mono (by decide)) (by rfl) T.g_InvalidNumber (pk_cons (pv 0) pk_nil)) (pa_cons (Vm.pe_mkvK (k := 0) PySem.F.excBase_ValueError PySem.F.store_ValueError T.C_InvalidColour T.I_InvalidColour (by decide) (hr.mono (by decide)) (by rfl) T.g_InvalidColour (pk_cons (pv 0) pk_nil)) (pa_cons (Vm.pe_mkvK (k := 0) PySem.F.excBase_ValueError PySem.F.store_ValueError T.C_InvalidPairs T.I_InvalidPairs (by decide) (hr.mono (by decide)) (by rfl) T.g_InvalidPairs (pk_cons (pv 0) pk_nil)) pa_nil))))))
      (pss_cons (ps_set (i := 2) sc_values_right.nd rfl (.inl rfl) (pe_op op_cat (pv 2) (pe_lst (pa_cons (Vm.pe_mkvK (k := 0) PySem.F.excBase_ValueError PySem.F.store_ValueError T.C_InvalidForm T.I_InvalidForm (by decide) (hr.mono (by decide)) (by rfl) T.g_InvalidForm (pk_cons (pv 0) pk_nil)) (pa_cons (Vm.pe_mkvK (k := 0) PySem.F.excBase_ValueError PySem.F.store_ValueError T.C_InvalidLine T.I_InvalidLine (by decide) (hr.mono (by decide)) (by rfl) T.g_InvalidLine (pk_cons (pv 0) pk_nil)) (pa_cons (Vm.pe_mkvK (k := 0) PySem.F.excBase_ValueError PySem.F.store_ValueError T.C_NotAScript T.I_NotAScript (by decide) (hr.mono (by decide)) (by rfl) T.g_NotAScript (pk_cons (pv 0) pk_nil)) pa_nil))))))
      (pss_cons (ps_set (i := 3) sc_values_right.nd rfl (.inl rfl) (pe_op op_cat (pe_op op_cat (pv 1) (pv 2)) (pe_lst (pa_cons (Vm.pe_mkvK (k := 0) PySem.F.excBase_ValueError PySem.F.store_ValueError T.C_NotAPicture T.I_NotAPicture (by decide) (hr.mono (by decide)) (by rfl) T.g_NotAPicture (pk_cons (pv 0) pk_nil)) pa_nil))))
      (pss_one (ps_ret (pe_and (pe_callB (cr_all rfl) (by rfl) T.m_all (by decide +kernel) (pa_cons (pe_lc (own := [("_law_e", 4)]) rfl sc_values_right.nd (pi_list (pv 3)) (blkOk_by (N := N_values_right) (sc := defScope s_values_right) (by decide +kernel)) (fun _ _ _ _ _ => (pg_name (i := 4) sc_values_right.nd rfl (.inl rfl))) (fun _ _ _ _ _ => pts_nil) (fun _ _ _ _ _ => (pe_cmpR (Vm.op_eqEK (K := K) hu64 rfl) (Vm.pe_hfldK (K := K) rfl (pv 4)) (pv 0) (nomark _)))) pa_nil)) (pe_one (pe_cmpR (op_eqD hu64) (pe_lc (own := [("_law_e", 4)]) rfl sc_values_right.nd (pi_list (pv 3)) (blkOk_by (N := N_values_right) (sc := defScope s_values_right) (by decide +kernel)) (fun _ _ _ _ _ => (pg_name (i := 4) sc_values_right.nd rfl (.inl rfl))) (fun _ _ _ _ _ => pts_nil) (fun _ _ _ _ _ => (pe_call G_which (hr.mono (by decide)) (by rfl) T.g_which T.F_which.kp T.B_which .nil pass0 (pa_cons (pv 4) pa_nil)))) (pe_op op_rep (pe_listRg rfl (by rfl) T.m_list (prg_1 (by rfl) T.m_range pe_int)) pe_int) (nomark _))))))))))))), ?_⟩
    have st : Stt K (cl A) H [] [] H := Stt.start
    walk_at "rd"
    refine ⟨_, rfl, rd_mkv st T.C_InvalidStage.no (by decide) fun e H1 st => ?_⟩
    walk_at "rd"
    refine ⟨_, rfl, rd_mkv st T.C_InvalidSurface.no (by decide) fun e H1 st => ?_⟩
    walk_at "rd"
    refine ⟨_, rfl, rd_mkv st T.C_InvalidCell.no (by decide) fun e H1 st => ?_⟩
    walk_at "rd"
    refine ⟨_, rfl, rd_mkv st T.C_InvalidRect.no (by decide) fun e H1 st => ?_⟩
    walk_at "rd"
    refine ⟨_, rfl, rd_mkv st T.C_InvalidNumber.no (by decide) fun e H1 st => ?_⟩
    walk_at "rd"
    refine rd_lstS st (by exact Nat.le_of_ble_eq_true rfl) fun p H1 st => ?_
    walk_at "rd"
    refine ⟨_, rfl, rd_mkv st T.C_InvalidColour.no (by decide) fun e H1 st => ?_⟩
    walk_at "rd"
    refine ⟨_, rfl, rd_mkv st T.C_InvalidPairs.no (by decide) fun e H1 st => ?_⟩
    walk_at "rd"
    refine ⟨_, rfl, rd_mkv st T.C_InvalidForm.no (by decide) fun e H1 st => ?_⟩
    walk_at "rd"
    refine ⟨_, rfl, rd_mkv st T.C_InvalidLine.no (by decide) fun e H1 st => ?_⟩
    walk_at "rd"
    refine rd_lstS st (by exact Nat.le_of_ble_eq_true rfl) fun p H1 st => ?_
    walk_at "rd"
    refine rd_catD st (by (repeat (first | exact List.mem_append_right _ (List.mem_singleton.mpr rfl) | exact List.mem_singleton.mpr rfl | apply List.mem_append_left))) (by (repeat (first | exact List.mem_append_right _ (List.mem_singleton.mpr rfl) | exact List.mem_singleton.mpr rfl | apply List.mem_append_left))) (by exact Nat.le_of_ble_eq_true rfl) fun p H1 st => ?_
    walk_at "rd"
    refine ⟨_, rfl, rd_mkv st T.C_NotAScript.no (by decide) fun e H1 st => ?_⟩
    walk_at "rd"
    refine ⟨_, rfl, rd_mkv st T.C_NotAPicture.no (by decide) fun e H1 st => ?_⟩
    walk_at "rd"
    refine rd_lstS st (by exact Nat.le_of_ble_eq_true rfl) fun p H1 st => ?_
    walk_at "rd"
    refine rd_catD st (by (repeat (first | exact List.mem_append_right _ (List.mem_singleton.mpr rfl) | exact List.mem_singleton.mpr rfl | apply List.mem_append_left))) (by (repeat (first | exact List.mem_append_right _ (List.mem_singleton.mpr rfl) | exact List.mem_singleton.mpr rfl | apply List.mem_append_left))) (by exact Nat.le_of_ble_eq_true rfl) fun pS H1 st => ?_
    walk_at "rd"
    refine ⟨_, rfl, rd_mkv st T.C_InvalidStage.no (by decide) fun e H1 st => ?_⟩
    walk_at "rd"
    refine ⟨_, rfl, rd_mkv st T.C_InvalidSurface.no (by decide) fun e H1 st => ?_⟩
    walk_at "rd"
    refine ⟨_, rfl, rd_mkv st T.C_InvalidCell.no (by decide) fun e H1 st => ?_⟩
    walk_at "rd"
    refine ⟨_, rfl, rd_mkv st T.C_InvalidRect.no (by decide) fun e H1 st => ?_⟩
    walk_at "rd"
    refine rd_lstS st (by exact Nat.le_of_ble_eq_true rfl) fun p H1 st => ?_
    walk_at "rd"
    refine ⟨_, rfl, rd_mkv st T.C_InvalidNumber.no (by decide) fun e H1 st => ?_⟩
    walk_at "rd"
    refine ⟨_, rfl, rd_mkv st T.C_InvalidColour.no (by decide) fun e H1 st => ?_⟩
    walk_at "rd"
    refine ⟨_, rfl, rd_mkv st T.C_InvalidPairs.no (by decide) fun e H1 st => ?_⟩
    walk_at "rd"
    refine rd_lstS st (by exact Nat.le_of_ble_eq_true rfl) fun p H1 st => ?_
    walk_at "rd"
    refine rd_catS st (by (repeat (first | exact List.mem_append_right _ (List.mem_singleton.mpr rfl) | exact List.mem_singleton.mpr rfl | apply List.mem_append_left))) (by (repeat (first | exact List.mem_append_right _ (List.mem_singleton.mpr rfl) | exact List.mem_singleton.mpr rfl | apply List.mem_append_left))) (by exact Nat.le_of_ble_eq_true rfl) fun p H1 st => ?_
    walk_at "rd"
    refine ⟨_, rfl, rd_mkv st T.C_InvalidForm.no (by decide) fun e H1 st => ?_⟩
    walk_at "rd"
    refine ⟨_, rfl, rd_mkv st T.C_InvalidLine.no (by decide) fun e H1 st => ?_⟩
    walk_at "rd"
    refine ⟨_, rfl, rd_mkv st T.C_NotAScript.no (by decide) fun e H1 st => ?_⟩
    walk_at "rd"
    refine rd_lstS st (by exact Nat.le_of_ble_eq_true rfl) fun p H1 st => ?_
    walk_at "rd"
    refine rd_catS st (by (repeat (first | exact List.mem_append_right _ (List.mem_singleton.mpr rfl) | exact List.mem_singleton.mpr rfl | apply List.mem_append_left))) (by (repeat (first | exact List.mem_append_right _ (List.mem_singleton.mpr rfl) | exact List.mem_singleton.mpr rfl | apply List.mem_append_left))) (by exact Nat.le_of_ble_eq_true rfl) fun pN H1 st => ?_
    walk_at "rd"
    refine rd_catS st (by (repeat (first | exact List.mem_append_right _ (List.mem_singleton.mpr rfl) | exact List.mem_singleton.mpr rfl | apply List.mem_append_left))) (by (repeat (first | exact List.mem_append_right _ (List.mem_singleton.mpr rfl) | exact List.mem_singleton.mpr rfl | apply List.mem_append_left))) (by exact Nat.le_of_ble_eq_true rfl) fun p H1 st => ?_
    walk_at "rd"
    refine ⟨_, rfl, rd_mkv st T.C_NotAPicture.no (by decide) fun e H1 st => ?_⟩
    walk_at "rd"
    refine rd_lstS st (by exact Nat.le_of_ble_eq_true rfl) fun p H1 st => ?_
    walk_at "rd"
    refine rd_catD st (by (repeat (first | exact List.mem_append_right _ (List.mem_singleton.mpr rfl) | exact List.mem_singleton.mpr rfl | apply List.mem_append_left))) (by (repeat (first | exact List.mem_append_right _ (List.mem_singleton.mpr rfl) | exact List.mem_singleton.mpr rfl | apply List.mem_append_left))) (by exact Nat.le_of_ble_eq_true rfl) fun p H1 st => ?_
    walk_at "rd"
    refine eq_all (n := 3) (k := 4) T st rfl (by (repeat (first | exact List.mem_append_right _ (List.mem_singleton.mpr rfl) | exact List.mem_singleton.mpr rfl | apply List.mem_append_left))) (by exact rfl) (by simp only [List.length_cons, List.length_nil]; omega) ?_ (hv.same st.sm) (fun _ => rfl) (fun _ => rfl) (fun _ => rfl) rfl rfl fun D H2 s2 hD => ?_
    · repeat (first | refine all_put ?_ rfl | exact all_none)
    have st := st.step s2
    walk_at "rd"
    refine ⟨D, _, rfl, .inl (.inl hD), ?_⟩
    rw [trues]
    walk_at "rd"
    refine which_all (n := 3) (k := 4) st rfl (by (repeat (first | exact List.mem_append_right _ (List.mem_singleton.mpr rfl) | exact List.mem_singleton.mpr rfl | apply List.mem_append_left))) (by exact rfl) (by simp only [List.length_cons, List.length_nil]; omega) (fun _ => rfl) (fun _ => rfl) rfl rfl rfl fun D2 H3 s3 hD2 => ?_
    have st := st.step s3
    have st : Stt K (cl A) H [] [(D2, .lst (([0, 1, 2, 3, 4, 5, 6, 7, 8, 9, 10, 0, 1, 2, 3, 4, 5, 6, 7, 8, 9, 10] : List Int).map V.int))] H3 := one_obj st.sm hD2
    have hD2 : H3 D2 = some (.lst (([0, 1, 2, 3, 4, 5, 6, 7, 8, 9, 10, 0, 1, 2, 3, 4, 5, 6, 7, 8, 9, 10] : List Int).map V.int)) := hD2
    walk_at "rd"
    refine ⟨_, rfl, rd_rgS st (RgOk.of_le (by decide) (by decide) (by decide) (by decide)) fun p5 H5 st5 => ?_⟩
    walk_at "rd"
    refine rd_repS st5 (by (repeat (first | exact List.mem_append_right _ (List.mem_singleton.mpr rfl) | exact List.mem_singleton.mpr rfl | apply List.mem_append_left))) (by decide) (by decide) (by exact Nat.le_of_ble_eq_true rfl) fun p6 H6 st6 => ?_
    have hR : H6 p6 = some (.lst (([0, 1, 2, 3, 4, 5, 6, 7, 8, 9, 10, 0, 1, 2, 3, 4, 5, 6, 7, 8, 9, 10] : List Int).map V.int)) := st6.ls _ (by (repeat (first | exact List.mem_append_right _ (List.mem_singleton.mpr rfl) | exact List.mem_singleton.mpr rfl | apply List.mem_append_left)))
    refine rd_eqD (dp_ints (st6.ls (D2, _) (by (repeat (first | exact List.mem_append_right _ (List.mem_singleton.mpr rfl) | exact List.mem_singleton.mpr rfl | apply List.mem_append_left))))) (dp_ints hR) (shaped_ints _) (shaped_ints _) (eqv_ints _) ?_
    walk_at "rd"
    exact q _ st6.sm
end
section
variable {P : Program} {w : World} {K : PySem.W.Frag} {mg : Str → Option Value} {base : Heap} {A : Ad}
local macro_rules | `(tactic| walk_at "rd1") => `(tactic| ((with_reducible apply Vm.rd_nm7); (exact rfl)))
/-- what each of a row keeps -/
theorem fld_all {σ : L2.St} {H0 H : Hp} {L : List En} {M : List (Addr × HO)} {n k : Nat} {p : Addr} {xs : List V} {v : V} {f : Str} {g : TG} {tt : TT} {Q : VK} (T : Txt K mg A) (st : Stt K (cl A) H0 L M H) (hσ : σ[n]? = some (some (.ref p))) (hm : (p, HO.lst xs) ∈ M) (hx : xs = L.reverse.map fun x => V.ref x.a) (small : L.length ≤ 1000)
    (hall : ∀ x ∈ L, x.o = some (f, v)) (hw : ∀ x : V, wipe ((wipe σ [k]).set k (some x)) [k] = wipe σ [k]) (hk : ∀ x : V, ((wipe σ [k]).set k (some x))[k]? = some (some x)) (hg : g = gName k) (htt : tt = tYes)
    (q : ∀ D H1, Same H H1 → H1 D = some (.lst (L.reverse.map fun _ => v)) → Q (.ref D) H1) : tLc (iList K (tVar n)) g tt (tHFld K (tVar k) f) [k] σ H Q := by
  subst hx
  refine lc_en (L := L.reverse) (y := fun _ => v) hσ (.inl (.inl (st.ls _ hm))) (by rw [List.length_reverse]; exact small) hw (fun x hx H1 Qd s1 q1 => ?_) hg htt q
  have ho := (st.en x (List.mem_reverse.mp hx)).same s1
  obtain ⟨d, h1, h2, hn, hl⟩ := ho.fld (hall x (List.mem_reverse.mp hx))
  exact ⟨_, hk _, x.a, cl A x.j, d, _, v, rfl, h1, h2, T.all_F _ ho.1, hn, hl, q1 H1 (Same.refl _)⟩
def told (z : Str) (n : Int) : PyData := .list [.tuple [.str z, .int n], .tuple [.str z, .int n], .int n, .int n, .str z, .str z]
theorem told_dp {H : Hp} {p t1 t2 : Addr} {z : Str} {n : Int} (h : H p = some (.lst [.ref t1, .ref t2, .int n, .int n, .str z, .str z])) (h1 : H t1 = some (.tup [.str z, .int n])) (h2 : H t2 = some (.tup [.str z, .int n])) : Dp K H (.ref p) (told z n) :=
  .lst (.inl (.inl h)) (.cons (.tup (.inl (.inl h1)) (.cons (.str z) (.cons (.int n) .nil))) (.cons (.tup (.inl (.inl h2)) (.cons (.str z) (.cons (.int n) .nil))) (.cons (.int n) (.cons (.int n) (.cons (.str z) (.cons (.str z) .nil))))))
theorem told_eq (z : Str) (n : Int) : PyData.eqv (told z n) (told z n) = true := by
  simp [told, PyData.eqv, PyData.eqvAll]
theorem told_shaped {z : Str} (n : Int) (h : PyData.canLay0 (.str z) = true) : SeqAt.shaped (told z n) = true := by
  have h1 : PyData.canLay0 (told z n) = true := by
    simp only [told, PyData.canLay0, PyData.canLayAll0, Bool.and_true, Bool.true_and] at h ⊢
    simp [h]
  have h2 : (told z n).depth ≤ 64 := by
    simp [told, PyData.depth, PyData.depthAll]
  unfold SeqAt.shaped
  rw [h1, Bool.true_and]
  exact decide_eq_true h2
def spOR : Sp := fun vs H Q _ => ∃ (n : Int) (z : Str), vs = [.int n, .str z] ∧ PyData.canLay0 (.str z) = true ∧ ∀ H', Same H H' → Q (.bl true) H'
theorem ok_others_right (T : Txt K mg A) : FnOk P w K mg base CX0 2 A.f_others_right A.d_others_right ["_law_at", "_law_call"] spOR := by
  have G_which : FnOk P w K mg base CX0 1 A.f_which A.d_which ["_law_e"] (spWhich A) := ok_which T
  refine T.F_others_right.ok sc_others_right (fun vs H Q E h => ?_) (fun cdv A0 outer s H vs Q E hr h => ?_)
  · obtain ⟨n, z, rfl, _⟩ := h
    rfl
  · obtain ⟨n, z, rfl, hz, q⟩ := h
    have hu64 := room64 hr
    refine ⟨_, (pss_cons (ps_set (i := 2) sc_others_right.nd rfl (.inl rfl) (pe_lst (pa_cons (Vm.pe_mkv (k := 0) PySem.F.excBase_ValueError PySem.F.store_ValueError T.C_InvalidPatch T.I_InvalidPatch (by decide) (hr.mono (by decide)) (by rfl) T.g_InvalidPatch (pa_cons (pv 0) pa_nil)) (pa_cons (Vm.pe_mkv (k := 0) PySem.F.excBase_ValueError PySem.F.store_ValueError T.C_InvalidPass T.I_InvalidPass (by decide) (hr.mono (by decide)) (by rfl) T.g_InvalidPass (pa_cons (pv 0) pa_nil)) (pa_cons (Vm.pe_mkv (k := 0) PySem.F.excBase_ValueError PySem.F.store_ValueError T.C_InvalidEdit T.I_InvalidEdit (by decide) (hr.mono (by decide)) (by rfl) T.g_InvalidEdit (pa_cons (pv 0) pa_nil)) (pa_cons (Vm.pe_mkvK (k := 0) PySem.F.excBase_ValueError PySem.F.store_ValueError T.C_InvalidPatch T.I_InvalidPatch (by decide) (hr.mono (by decide)) (by rfl) T.g_InvalidPatch (pk_cons (pv 0) pk_nil)) pa_nil))))))
      (pss_cons (ps_set (i := 2) sc_others_right.nd rfl (.inl rfl) (pe_op op_cat (pv 2) (pe_lst (pa_cons (Vm.pe_mkvK (k := 0) PySem.F.excBase_ValueError PySem.F.store_ValueError T.C_InvalidPass T.I_InvalidPass (by decide) (hr.mono (by decide)) (by rfl) T.g_InvalidPass (pk_cons (pv 0) pk_nil)) (pa_cons (Vm.pe_mkvK (k := 0) PySem.F.excBase_ValueError PySem.F.store_ValueError T.C_InvalidEdit T.I_InvalidEdit (by decide) (hr.mono (by decide)) (by rfl) T.g_InvalidEdit (pk_cons (pv 0) pk_nil)) pa_nil)))))
      (pss_cons (ps_if (pw_or (pt_cmpR (op_neD hu64) (pe_lc (own := [("_law_e", 6)]) rfl sc_others_right.nd (pi_list (pv 2)) (blkOk_by (N := N_others_right) (sc := defScope s_others_right) (by decide +kernel)) (fun _ _ _ _ _ => (pg_name (i := 6) sc_others_right.nd rfl (.inl rfl))) (fun _ _ _ _ _ => pts_nil) (fun _ _ _ _ _ => (Vm.pe_hfldK (K := K) rfl (pv 6)))) (pe_op op_rep (pe_lst (pa_cons (pv 0) pa_nil)) pe_int) (nomark _)) (pw_or1 (pt_cmpR (op_neD hu64) (pe_lc (own := [("_law_e", 6)]) rfl sc_others_right.nd (pi_list (pv 2)) (blkOk_by (N := N_others_right) (sc := defScope s_others_right) (by decide +kernel)) (fun _ _ _ _ _ => (pg_name (i := 6) sc_others_right.nd rfl (.inl rfl))) (fun _ _ _ _ _ => pts_nil) (fun _ _ _ _ _ => (pe_call G_which (hr.mono (by decide)) (by rfl) T.g_which T.F_which.kp T.B_which .nil pass0 (pa_cons (pv 6) pa_nil)))) (pe_op op_rep (pe_lst (pa_cons pe_int (pa_cons pe_int (pa_cons pe_int pa_nil)))) pe_int) (nomark _)))).pt
        (pss_one (ps_ret pe_bl))
        pss_nil)
      (pss_cons (ps_set (i := 3) sc_others_right.nd rfl (.inl rfl) (pe_lst (pa_cons (Vm.pe_hfldK (K := K) rfl (Vm.pe_mkv (k := 0) PySem.F.excBase_ValueError PySem.F.store_ValueError T.C_InvalidOrder T.I_InvalidOrder (by decide) (hr.mono (by decide)) (by rfl) T.g_InvalidOrder (pa_cons (pe_tup (pa_cons (pv 1) (pa_cons (pv 0) pa_nil))) pa_nil))) (pa_cons (Vm.pe_hfldK (K := K) rfl (Vm.pe_mkvK (k := 0) PySem.F.excBase_ValueError PySem.F.store_ValueError T.C_InvalidOrder T.I_InvalidOrder (by decide) (hr.mono (by decide)) (by rfl) T.g_InvalidOrder (pk_cons (pe_tup (pa_cons (pv 1) (pa_cons (pv 0) pa_nil))) pk_nil))) (pa_cons (Vm.pe_hfldK (K := K) rfl (Vm.pe_mkv (k := 0) PySem.F.excBase_ValueError PySem.F.store_ValueError T.C_InvalidText T.I_InvalidText (by decide) (hr.mono (by decide)) (by rfl) T.g_InvalidText (pa_cons (pv 0) pa_nil))) pa_nil)))))
      (pss_cons (ps_set (i := 3) sc_others_right.nd rfl (.inl rfl) (pe_op op_cat (pv 3) (pe_lst (pa_cons (Vm.pe_hfldK (K := K) rfl (Vm.pe_mkvK (k := 0) PySem.F.excBase_ValueError PySem.F.store_ValueError T.C_InvalidText T.I_InvalidText (by decide) (hr.mono (by decide)) (by rfl) T.g_InvalidText (pk_cons (pv 0) pk_nil))) (pa_cons (Vm.pe_hfldK (K := K) rfl (Vm.pe_mkv (k := 0) PySem.F.excBase_LookupError PySem.F.store_LookupError T.C_Guarded T.I_Guarded (by decide) (hr.mono (by decide)) (by rfl) T.g_Guarded (pa_cons (pv 1) pa_nil))) (pa_cons (Vm.pe_hfldK (K := K) rfl (Vm.pe_mkvK (k := 0) PySem.F.excBase_LookupError PySem.F.store_LookupError T.C_Guarded T.I_Guarded (by decide) (hr.mono (by decide)) (by rfl) T.g_Guarded (pk_cons (pv 1) pk_nil))) pa_nil))))))
      (pss_cons (ps_set (i := 4) sc_others_right.nd rfl (.inl rfl) (pe_lst (pa_cons (Vm.pe_mkv (k := 0) PySem.F.excBase_ValueError PySem.F.store_ValueError T.C_InvalidOrder T.I_InvalidOrder (by decide) (hr.mono (by decide)) (by rfl) T.g_InvalidOrder (pa_cons (pe_tup (pa_cons (pv 0) pa_nil)) pa_nil)) (pa_cons (Vm.pe_mkv (k := 0) PySem.F.excBase_ValueError PySem.F.store_ValueError T.C_InvalidText T.I_InvalidText (by decide) (hr.mono (by decide)) (by rfl) T.g_InvalidText (pa_cons (pv 0) pa_nil)) (pa_cons (Vm.pe_mk0 PySem.F.excBase_LookupError T.X_DifferentStages T.k_DifferentStages (by rfl) T.g_DifferentStages) (pa_cons (Vm.pe_mk0 PySem.F.excBase_LookupError T.X_UsesKeys T.k_UsesKeys (by rfl) T.g_UsesKeys) (pa_cons (Vm.pe_mk0 PySem.F.excBase_LookupError T.X_NoBeginning T.k_NoBeginning (by rfl) T.g_NoBeginning) (pa_cons (Vm.pe_mkv (k := 0) PySem.F.excBase_LookupError PySem.F.store_LookupError T.C_Guarded T.I_Guarded (by decide) (hr.mono (by decide)) (by rfl) T.g_Guarded (pa_cons (pv 1) pa_nil)) pa_nil))))))))
      (pss_cons (ps_set (i := 4) sc_others_right.nd rfl (.inl rfl) (pe_op op_cat (pv 4) (pe_lst (pa_cons (Vm.pe_mk0 PySem.F.excBase_LookupError T.X_Busy T.k_Busy (by rfl) T.g_Busy) (pa_cons (Vm.pe_mk0 PySem.F.excBase_LookupError T.X_NothingToUndo T.k_NothingToUndo (by rfl) T.g_NothingToUndo) pa_nil)))))
      (pss_cons (ps_if (pw_or (pt_cmpR (op_neD hu64) (pv 3) (pe_lst (pa_cons (pe_tup (pa_cons (pv 1) (pa_cons (pv 0) pa_nil))) (pa_cons (pe_tup (pa_cons (pv 1) (pa_cons (pv 0) pa_nil))) (pa_cons (pv 0) (pa_cons (pv 0) (pa_cons (pv 1) (pa_cons (pv 1) pa_nil))))))) (nomark _)) (pw_or1 (pt_cmpR (op_neD hu64) (pe_lc (own := [("_law_e", 6)]) rfl sc_others_right.nd (pi_list (pv 4)) (blkOk_by (N := N_others_right) (sc := defScope s_others_right) (by decide +kernel)) (fun _ _ _ _ _ => (pg_name (i := 6) sc_others_right.nd rfl (.inl rfl))) (fun _ _ _ _ _ => pts_nil) (fun _ _ _ _ _ => (pe_call G_which (hr.mono (by decide)) (by rfl) T.g_which T.F_which.kp T.B_which .nil pass0 (pa_cons (pv 6) pa_nil)))) (pe_listRg rfl (by rfl) T.m_list (prg_2 (by rfl) T.m_range pe_int pe_int)) (nomark _)))).pt
        (pss_one (ps_ret pe_bl))
        pss_nil)
      (pss_cons (ps_set (i := 5) sc_others_right.nd rfl (.inl rfl) (pe_lst (pa_cons (Vm.pe_mkv (k := 0) PySem.F.excBase_ArithmeticError PySem.F.store_ArithmeticError T.C_TooManyOrders T.I_TooManyOrders (by decide) (hr.mono (by decide)) (by rfl) T.g_TooManyOrders (pa_cons (pv 0) pa_nil)) (pa_cons (Vm.pe_mkv (k := 0) PySem.F.excBase_ArithmeticError PySem.F.store_ArithmeticError T.C_TooManyCopies T.I_TooManyCopies (by decide) (hr.mono (by decide)) (by rfl) T.g_TooManyCopies (pa_cons (pv 0) pa_nil)) (pa_cons (Vm.pe_mkv (k := 0) PySem.F.excBase_ArithmeticError PySem.F.store_ArithmeticError T.C_TooManyKeys T.I_TooManyKeys (by decide) (hr.mono (by decide)) (by rfl) T.g_TooManyKeys (pa_cons (pv 0) pa_nil)) (pa_cons (Vm.pe_mkv (k := 0) PySem.F.excBase_ArithmeticError PySem.F.store_ArithmeticError T.C_TooManyRecolours T.I_TooManyRecolours (by decide) (hr.mono (by decide)) (by rfl) T.g_TooManyRecolours (pa_cons (pv 0) pa_nil)) pa_nil))))))
      (pss_cons (ps_set (i := 5) sc_others_right.nd rfl (.inl rfl) (pe_op op_cat (pv 5) (pe_lst (pa_cons (Vm.pe_mkv (k := 0) PySem.F.excBase_ArithmeticError PySem.F.store_ArithmeticError T.C_TooManyEdits T.I_TooManyEdits (by decide) (hr.mono (by decide)) (by rfl) T.g_TooManyEdits (pa_cons (pv 0) pa_nil)) (pa_cons (Vm.pe_mkvK (k := 0) PySem.F.excBase_ArithmeticError PySem.F.store_ArithmeticError T.C_TooManyOrders T.I_TooManyOrders (by decide) (hr.mono (by decide)) (by rfl) T.g_TooManyOrders (pk_cons (pv 0) pk_nil)) (pa_cons (Vm.pe_mkvK (k := 0) PySem.F.excBase_ArithmeticError PySem.F.store_ArithmeticError T.C_TooManyCopies T.I_TooManyCopies (by decide) (hr.mono (by decide)) (by rfl) T.g_TooManyCopies (pk_cons (pv 0) pk_nil)) pa_nil))))))
      (pss_cons (ps_set (i := 5) sc_others_right.nd rfl (.inl rfl) (pe_op op_cat (pv 5) (pe_lst (pa_cons (Vm.pe_mkvK (k := 0) PySem.F.excBase_ArithmeticError PySem.F.store_ArithmeticError T.C_TooManyKeys T.I_TooManyKeys (by decide) (hr.mono (by decide)) (by rfl) T.g_TooManyKeys (pk_cons (pv 0) pk_nil)) pa_nil))))
      (pss_cons (ps_set (i := 5) sc_others_right.nd rfl (.inl rfl) (pe_op op_cat (pv 5) (pe_lst (pa_cons (Vm.pe_mkvK (k := 0) PySem.F.excBase_ArithmeticError PySem.F.store_ArithmeticError T.C_TooManyRecolours T.I_TooManyRecolours (by decide) (hr.mono (by decide)) (by rfl) T.g_TooManyRecolours (pk_cons (pv 0) pk_nil)) (pa_cons (Vm.pe_mkvK (k := 0) PySem.F.excBase_ArithmeticError PySem.F.store_ArithmeticError T.C_TooManyEdits T.I_TooManyEdits (by decide) (hr.mono (by decide)) (by rfl) T.g_TooManyEdits (pk_cons (pv 0) pk_nil)) pa_nil)))))
      (pss_one (ps_ret (pe_and (pe_cmpR (op_eqD hu64) (pe_lc (own := [("_law_e", 6)]) rfl sc_others_right.nd (pi_list (pv 5)) (blkOk_by (N := N_others_right) (sc := defScope s_others_right) (by decide +kernel)) (fun _ _ _ _ _ => (pg_name (i := 6) sc_others_right.nd rfl (.inl rfl))) (fun _ _ _ _ _ => pts_nil) (fun _ _ _ _ _ => (Vm.pe_hfldK (K := K) rfl (pv 6)))) (pe_op op_rep (pe_lst (pa_cons (pv 0) pa_nil)) pe_int) (nomark _)) (pe_one (pe_cmpR (op_eqD hu64) (pe_lc (own := [("_law_e", 6)]) rfl sc_others_right.nd (pi_list (pv 5)) (blkOk_by (N := N_others_right) (sc := defScope s_others_right) (by decide +kernel)) (fun _ _ _ _ _ => (pg_name (i := 6) sc_others_right.nd rfl (.inl rfl))) (fun _ _ _ _ _ => pts_nil) (fun _ _ _ _ _ => (pe_call G_which (hr.mono (by decide)) (by rfl) T.g_which T.F_which.kp T.B_which .nil pass0 (pa_cons (pv 6) pa_nil)))) (pe_op op_rep (pe_lst (pa_cons pe_int (pa_cons pe_int (pa_cons pe_int (pa_cons pe_int (pa_cons pe_int pa_nil)))))) pe_int) (nomark _)))))))))))))))))), ?_⟩
    have st : Stt K (cl A) H [] [] H := Stt.start
    walk_at "rd"
    refine ⟨_, rfl, rd_mkv st T.C_InvalidPatch.no (by decide) fun e H1 st => ?_⟩
    walk_at "rd"
    refine ⟨_, rfl, rd_mkv st T.C_InvalidPass.no (by decide) fun e H1 st => ?_⟩
    walk_at "rd"
    refine ⟨_, rfl, rd_mkv st T.C_InvalidEdit.no (by decide) fun e H1 st => ?_⟩
    walk_at "rd"
    refine ⟨_, rfl, rd_mkv st T.C_InvalidPatch.no (by decide) fun e H1 st => ?_⟩
    walk_at "rd"
    refine rd_lstS st (by exact Nat.le_of_ble_eq_true rfl) fun p H1 st => ?_
    walk_at "rd"
    refine ⟨_, rfl, rd_mkv st T.C_InvalidPass.no (by decide) fun e H1 st => ?_⟩
    walk_at "rd"
    refine ⟨_, rfl, rd_mkv st T.C_InvalidEdit.no (by decide) fun e H1 st => ?_⟩
    walk_at "rd"
    refine rd_lstS st (by exact Nat.le_of_ble_eq_true rfl) fun p H1 st => ?_
    walk_at "rd"
    refine rd_catD st (by (repeat (first | exact List.mem_append_right _ (List.mem_singleton.mpr rfl) | exact List.mem_singleton.mpr rfl | apply List.mem_append_left))) (by (repeat (first | exact List.mem_append_right _ (List.mem_singleton.mpr rfl) | exact List.mem_singleton.mpr rfl | apply List.mem_append_left))) (by exact Nat.le_of_ble_eq_true rfl) fun pS H1 st => ?_
    walk_at "rd"
    refine fld_all (v := .int n) (n := 2) (k := 6) T st rfl (by (repeat (first | exact List.mem_append_right _ (List.mem_singleton.mpr rfl) | exact List.mem_singleton.mpr rfl | apply List.mem_append_left))) (by exact rfl) (by simp only [List.length_cons, List.length_nil]; omega) ?_ (fun _ => rfl) (fun _ => rfl) rfl rfl fun D H1 s1 hD => ?_
    · repeat (first | refine all_put ?_ rfl | exact all_none)
    have st := st.also (o := .lst (([n, n, n, n, n, n] : List Int).map V.int)) s1 hD
    walk_at "rd"
    refine rd_lstS st (by exact Nat.le_of_ble_eq_true rfl) fun p H1 st => ?_
    walk_at "rd"
    refine rd_repS st (by (repeat (first | exact List.mem_append_right _ (List.mem_singleton.mpr rfl) | exact List.mem_singleton.mpr rfl | apply List.mem_append_left))) (by decide) (by decide) (by exact Nat.le_of_ble_eq_true rfl) fun R H1 st => ?_
    have hR : H1 R = some (.lst (([n, n, n, n, n, n] : List Int).map V.int)) := st.ls _ (by (repeat (first | exact List.mem_append_right _ (List.mem_singleton.mpr rfl) | exact List.mem_singleton.mpr rfl | apply List.mem_append_left)))
    refine rd_neD (dp_ints (st.ls (D, _) (by (repeat (first | exact List.mem_append_right _ (List.mem_singleton.mpr rfl) | exact List.mem_singleton.mpr rfl | apply List.mem_append_left))))) (dp_ints hR) (shaped_ints _) (shaped_ints _) (eqv_ints _) ?_
    walk_at "rd"
    refine which_all (n := 2) (k := 6) st rfl (by (repeat (first | exact List.mem_append_right _ (List.mem_singleton.mpr rfl) | exact List.mem_singleton.mpr rfl | apply List.mem_append_left))) (by exact rfl) (by simp only [List.length_cons, List.length_nil]; omega) (fun _ => rfl) (fun _ => rfl) rfl rfl rfl fun D H1 s1 hD => ?_
    have st := st.also (o := .lst (([11, 12, 13, 11, 12, 13] : List Int).map V.int)) s1 hD
    walk_at "rd"
    refine rd_lstS st (by exact Nat.le_of_ble_eq_true rfl) fun p H1 st => ?_
    walk_at "rd"
    refine rd_repS st (by (repeat (first | exact List.mem_append_right _ (List.mem_singleton.mpr rfl) | exact List.mem_singleton.mpr rfl | apply List.mem_append_left))) (by decide) (by decide) (by exact Nat.le_of_ble_eq_true rfl) fun R H1 st => ?_
    have hR : H1 R = some (.lst (([11, 12, 13, 11, 12, 13] : List Int).map V.int)) := st.ls _ (by (repeat (first | exact List.mem_append_right _ (List.mem_singleton.mpr rfl) | exact List.mem_singleton.mpr rfl | apply List.mem_append_left)))
    refine rd_neD (dp_ints (st.ls (D, _) (by (repeat (first | exact List.mem_append_right _ (List.mem_singleton.mpr rfl) | exact List.mem_singleton.mpr rfl | apply List.mem_append_left))))) (dp_ints hR) (shaped_ints _) (shaped_ints _) (eqv_ints _) ?_
    walk_at "rd"
    have st := st.noL.noM
    walk_at "rd"
    refine rd_tupS st (by exact Nat.le_of_ble_eq_true rfl) fun t1 H1 st => ?_
    walk_at "rd"
    refine ⟨_, rfl, rd_mkv st T.C_InvalidOrder.no (by decide) fun e H1 st => ?_⟩
    obtain ⟨d, h1, h2, hn, hl⟩ := (st.en _ (List.mem_cons_self ..)).fld rfl
    refine ⟨e, cl A 14, d, _, _, rfl, h1, h2, T.all_F 14 (by decide), hn, hl, ?_⟩
    clear h1 h2 hn hl
    walk_at "rd"
    refine rd_tupS st (by exact Nat.le_of_ble_eq_true rfl) fun t2 H1 st => ?_
    walk_at "rd"
    refine ⟨_, rfl, rd_mkv st T.C_InvalidOrder.no (by decide) fun e H1 st => ?_⟩
    obtain ⟨d, h1, h2, hn, hl⟩ := (st.en _ (List.mem_cons_self ..)).fld rfl
    refine ⟨e, cl A 14, d, _, _, rfl, h1, h2, T.all_F 14 (by decide), hn, hl, ?_⟩
    clear h1 h2 hn hl
    walk_at "rd"
    refine ⟨_, rfl, rd_mkv st T.C_InvalidText.no (by decide) fun e H1 st => ?_⟩
    obtain ⟨d, h1, h2, hn, hl⟩ := (st.en _ (List.mem_cons_self ..)).fld rfl
    refine ⟨e, cl A 15, d, _, _, rfl, h1, h2, T.all_F 15 (by decide), hn, hl, ?_⟩
    clear h1 h2 hn hl
    walk_at "rd"
    refine rd_lstS st (by exact Nat.le_of_ble_eq_true rfl) fun pa H1 st => ?_
    walk_at "rd"
    refine ⟨_, rfl, rd_mkv st T.C_InvalidText.no (by decide) fun e H1 st => ?_⟩
    obtain ⟨d, h1, h2, hn, hl⟩ := (st.en _ (List.mem_cons_self ..)).fld rfl
    refine ⟨e, cl A 15, d, _, _, rfl, h1, h2, T.all_F 15 (by decide), hn, hl, ?_⟩
    clear h1 h2 hn hl
    walk_at "rd"
    refine ⟨_, rfl, rd_mkv st T.C_Guarded.no (by decide) fun e H1 st => ?_⟩
    obtain ⟨d, h1, h2, hn, hl⟩ := (st.en _ (List.mem_cons_self ..)).fld rfl
    refine ⟨e, cl A 19, d, _, _, rfl, h1, h2, T.all_F 19 (by decide), hn, hl, ?_⟩
    clear h1 h2 hn hl
    walk_at "rd"
    refine ⟨_, rfl, rd_mkv st T.C_Guarded.no (by decide) fun e H1 st => ?_⟩
    obtain ⟨d, h1, h2, hn, hl⟩ := (st.en _ (List.mem_cons_self ..)).fld rfl
    refine ⟨e, cl A 19, d, _, _, rfl, h1, h2, T.all_F 19 (by decide), hn, hl, ?_⟩
    clear h1 h2 hn hl
    walk_at "rd"
    refine rd_lstS st (by exact Nat.le_of_ble_eq_true rfl) fun pb H1 st => ?_
    walk_at "rd"
    refine rd_catS st (by (repeat (first | exact List.mem_append_right _ (List.mem_singleton.mpr rfl) | exact List.mem_singleton.mpr rfl | apply List.mem_append_left))) (by (repeat (first | exact List.mem_append_right _ (List.mem_singleton.mpr rfl) | exact List.mem_singleton.mpr rfl | apply List.mem_append_left))) (by exact Nat.le_of_ble_eq_true rfl) fun pT H1 st => ?_
    walk_at "rd"
    have st := st.noL
    walk_at "rd"
    refine rd_tupS st (by exact Nat.le_of_ble_eq_true rfl) fun pt H1 st => ?_
    walk_at "rd"
    refine ⟨_, rfl, rd_mkv st T.C_InvalidOrder.no (by decide) fun e H1 st => ?_⟩
    walk_at "rd"
    refine ⟨_, rfl, rd_mkv st T.C_InvalidText.no (by decide) fun e H1 st => ?_⟩
    walk_at "rd"
    refine rd_mk0 st (by decide) fun e H1 st => ?_
    walk_at "rd"
    refine rd_mk0 st (by decide) fun e H1 st => ?_
    walk_at "rd"
    refine rd_mk0 st (by decide) fun e H1 st => ?_
    walk_at "rd"
    refine ⟨_, rfl, rd_mkv st T.C_Guarded.no (by decide) fun e H1 st => ?_⟩
    walk_at "rd"
    refine rd_lstS st (by exact Nat.le_of_ble_eq_true rfl) fun pc H1 st => ?_
    walk_at "rd"
    refine rd_mk0 st (by decide) fun e H1 st => ?_
    walk_at "rd"
    refine rd_mk0 st (by decide) fun e H1 st => ?_
    walk_at "rd"
    refine rd_lstS st (by exact Nat.le_of_ble_eq_true rfl) fun pd H1 st => ?_
    walk_at "rd"
    refine rd_catS st (by (repeat (first | exact List.mem_append_right _ (List.mem_singleton.mpr rfl) | exact List.mem_singleton.mpr rfl | apply List.mem_append_left))) (by (repeat (first | exact List.mem_append_right _ (List.mem_singleton.mpr rfl) | exact List.mem_singleton.mpr rfl | apply List.mem_append_left))) (by exact Nat.le_of_ble_eq_true rfl) fun pB H1 st => ?_
    walk_at "rd"
    refine rd_tupS st (by exact Nat.le_of_ble_eq_true rfl) fun u1 H1 st => ?_
    walk_at "rd"
    refine rd_tupS st (by exact Nat.le_of_ble_eq_true rfl) fun u2 H1 st => ?_
    walk_at "rd"
    refine rd_lstS st (by exact Nat.le_of_ble_eq_true rfl) fun pU H1 st => ?_
    refine rd_neD (told_dp (st.ls (pT, _) (by (repeat (first | exact List.mem_append_right _ (List.mem_singleton.mpr rfl) | exact List.mem_singleton.mpr rfl | apply List.mem_append_left)))) (st.ls (t1, _) (by (repeat (first | exact List.mem_append_right _ (List.mem_singleton.mpr rfl) | exact List.mem_singleton.mpr rfl | apply List.mem_append_left)))) (st.ls (t2, _) (by (repeat (first | exact List.mem_append_right _ (List.mem_singleton.mpr rfl) | exact List.mem_singleton.mpr rfl | apply List.mem_append_left))))) (told_dp (st.ls (pU, _) (by (repeat (first | exact List.mem_append_right _ (List.mem_singleton.mpr rfl) | exact List.mem_singleton.mpr rfl | apply List.mem_append_left)))) (st.ls (u1, _) (by (repeat (first | exact List.mem_append_right _ (List.mem_singleton.mpr rfl) | exact List.mem_singleton.mpr rfl | apply List.mem_append_left)))) (st.ls (u2, _) (by (repeat (first | exact List.mem_append_right _ (List.mem_singleton.mpr rfl) | exact List.mem_singleton.mpr rfl | apply List.mem_append_left))))) (told_shaped n hz) (told_shaped n hz) (told_eq z n) ?_
    walk_at "rd"
    refine which_all (n := 4) (k := 6) st rfl (by (repeat (first | exact List.mem_append_right _ (List.mem_singleton.mpr rfl) | exact List.mem_singleton.mpr rfl | apply List.mem_append_left))) (by exact rfl) (by simp only [List.length_cons, List.length_nil]; omega) (fun _ => rfl) (fun _ => rfl) rfl rfl rfl fun D H1 s1 hD => ?_
    have st := st.also (o := .lst (([14, 15, 16, 17, 18, 19, 20, 21] : List Int).map V.int)) s1 hD
    walk_at "rd"
    refine ⟨_, _, rfl, rfl, rd_rgS st (RgOk.of_le (by decide) (by decide) (by decide) (by decide)) fun R H1 st => ?_⟩
    have hR : H1 R = some (.lst (([14, 15, 16, 17, 18, 19, 20, 21] : List Int).map V.int)) := st.ls _ (by (repeat (first | exact List.mem_append_right _ (List.mem_singleton.mpr rfl) | exact List.mem_singleton.mpr rfl | apply List.mem_append_left)))
    refine rd_neD (dp_ints (st.ls (D, _) (by (repeat (first | exact List.mem_append_right _ (List.mem_singleton.mpr rfl) | exact List.mem_singleton.mpr rfl | apply List.mem_append_left))))) (dp_ints hR) (shaped_ints _) (shaped_ints _) (eqv_ints _) ?_
    walk_at "rd"
    have st := st.noL.noM
    walk_at "rd"
    refine ⟨_, rfl, rd_mkv st T.C_TooManyOrders.no (by decide) fun e H1 st => ?_⟩
    walk_at "rd"
    refine ⟨_, rfl, rd_mkv st T.C_TooManyCopies.no (by decide) fun e H1 st => ?_⟩
    walk_at "rd"
    refine ⟨_, rfl, rd_mkv st T.C_TooManyKeys.no (by decide) fun e H1 st => ?_⟩
    walk_at "rd"
    refine ⟨_, rfl, rd_mkv st T.C_TooManyRecolours.no (by decide) fun e H1 st => ?_⟩
    walk_at "rd"
    refine rd_lstS st (by exact Nat.le_of_ble_eq_true rfl) fun p H1 st => ?_
    walk_at "rd"
    refine ⟨_, rfl, rd_mkv st T.C_TooManyEdits.no (by decide) fun e H1 st => ?_⟩
    walk_at "rd"
    refine ⟨_, rfl, rd_mkv st T.C_TooManyOrders.no (by decide) fun e H1 st => ?_⟩
    walk_at "rd"
    refine ⟨_, rfl, rd_mkv st T.C_TooManyCopies.no (by decide) fun e H1 st => ?_⟩
    walk_at "rd"
    refine rd_lstS st (by exact Nat.le_of_ble_eq_true rfl) fun p H1 st => ?_
    walk_at "rd"
    refine rd_catD st (by (repeat (first | exact List.mem_append_right _ (List.mem_singleton.mpr rfl) | exact List.mem_singleton.mpr rfl | apply List.mem_append_left))) (by (repeat (first | exact List.mem_append_right _ (List.mem_singleton.mpr rfl) | exact List.mem_singleton.mpr rfl | apply List.mem_append_left))) (by exact Nat.le_of_ble_eq_true rfl) fun p H1 st => ?_
    walk_at "rd"
    refine ⟨_, rfl, rd_mkv st T.C_TooManyKeys.no (by decide) fun e H1 st => ?_⟩
    walk_at "rd"
    refine rd_lstS st (by exact Nat.le_of_ble_eq_true rfl) fun p H1 st => ?_
    walk_at "rd"
    refine rd_catD st (by (repeat (first | exact List.mem_append_right _ (List.mem_singleton.mpr rfl) | exact List.mem_singleton.mpr rfl | apply List.mem_append_left))) (by (repeat (first | exact List.mem_append_right _ (List.mem_singleton.mpr rfl) | exact List.mem_singleton.mpr rfl | apply List.mem_append_left))) (by exact Nat.le_of_ble_eq_true rfl) fun p H1 st => ?_
    walk_at "rd"
    refine ⟨_, rfl, rd_mkv st T.C_TooManyRecolours.no (by decide) fun e H1 st => ?_⟩
    walk_at "rd"
    refine ⟨_, rfl, rd_mkv st T.C_TooManyEdits.no (by decide) fun e H1 st => ?_⟩
    walk_at "rd"
    refine rd_lstS st (by exact Nat.le_of_ble_eq_true rfl) fun p H1 st => ?_
    walk_at "rd"
    refine rd_catD st (by (repeat (first | exact List.mem_append_right _ (List.mem_singleton.mpr rfl) | exact List.mem_singleton.mpr rfl | apply List.mem_append_left))) (by (repeat (first | exact List.mem_append_right _ (List.mem_singleton.mpr rfl) | exact List.mem_singleton.mpr rfl | apply List.mem_append_left))) (by exact Nat.le_of_ble_eq_true rfl) fun pM H1 st => ?_
    walk_at "rd"
    refine fld_all (v := .int n) (n := 5) (k := 6) T st rfl (by (repeat (first | exact List.mem_append_right _ (List.mem_singleton.mpr rfl) | exact List.mem_singleton.mpr rfl | apply List.mem_append_left))) (by exact rfl) (by simp only [List.length_cons, List.length_nil]; omega) ?_ (fun _ => rfl) (fun _ => rfl) rfl rfl fun D H1 s1 hD => ?_
    · repeat (first | refine all_put ?_ rfl | exact all_none)
    have st := st.also (o := .lst (([n, n, n, n, n, n, n, n, n, n] : List Int).map V.int)) s1 hD
    walk_at "rd"
    refine rd_lstS st (by exact Nat.le_of_ble_eq_true rfl) fun p H1 st => ?_
    walk_at "rd"
    refine rd_repS st (by (repeat (first | exact List.mem_append_right _ (List.mem_singleton.mpr rfl) | exact List.mem_singleton.mpr rfl | apply List.mem_append_left))) (by decide) (by decide) (by exact Nat.le_of_ble_eq_true rfl) fun R H1 st => ?_
    have hR : H1 R = some (.lst (([n, n, n, n, n, n, n, n, n, n] : List Int).map V.int)) := st.ls _ (by (repeat (first | exact List.mem_append_right _ (List.mem_singleton.mpr rfl) | exact List.mem_singleton.mpr rfl | apply List.mem_append_left)))
    refine rd_eqD (dp_ints (st.ls (D, _) (by (repeat (first | exact List.mem_append_right _ (List.mem_singleton.mpr rfl) | exact List.mem_singleton.mpr rfl | apply List.mem_append_left))))) (dp_ints hR) (shaped_ints _) (shaped_ints _) (eqv_ints _) ?_
    walk_at "rd"
    refine which_all (n := 5) (k := 6) st rfl (by (repeat (first | exact List.mem_append_right _ (List.mem_singleton.mpr rfl) | exact List.mem_singleton.mpr rfl | apply List.mem_append_left))) (by exact rfl) (by simp only [List.length_cons, List.length_nil]; omega) (fun _ => rfl) (fun _ => rfl) rfl rfl rfl fun D H1 s1 hD => ?_
    have st := st.also (o := .lst (([22, 23, 24, 25, 26, 22, 23, 24, 25, 26] : List Int).map V.int)) s1 hD
    walk_at "rd"
    refine rd_lstS st (by exact Nat.le_of_ble_eq_true rfl) fun p H1 st => ?_
    walk_at "rd"
    refine rd_repS st (by (repeat (first | exact List.mem_append_right _ (List.mem_singleton.mpr rfl) | exact List.mem_singleton.mpr rfl | apply List.mem_append_left))) (by decide) (by decide) (by exact Nat.le_of_ble_eq_true rfl) fun R H1 st => ?_
    have hR : H1 R = some (.lst (([22, 23, 24, 25, 26, 22, 23, 24, 25, 26] : List Int).map V.int)) := st.ls _ (by (repeat (first | exact List.mem_append_right _ (List.mem_singleton.mpr rfl) | exact List.mem_singleton.mpr rfl | apply List.mem_append_left)))
    refine rd_eqD (dp_ints (st.ls (D, _) (by (repeat (first | exact List.mem_append_right _ (List.mem_singleton.mpr rfl) | exact List.mem_singleton.mpr rfl | apply List.mem_append_left))))) (dp_ints hR) (shaped_ints _) (shaped_ints _) (eqv_ints _) ?_
    walk_at "rd"
    exact q _ st.sm
end
section
variable {P : Program} {w : World} {K : PySem.W.Frag} {mg : Str → Option Value} {base : Heap} {A : Ad}
local macro_rules | `(tactic| walk_at "rd1") => `(tactic| ((with_reducible apply Vm.rd_nm8); (exact rfl)))
theorem not_pool {H : Hp} {p q : Addr} {o : HO} (hP : Pool H p) (h : H q = some o) (n : ∀ x d c : Int, o ≠ .lst [.int x, .int d, .int c]) : q ≠ p := fun e => by
  obtain ⟨x, d, c, hp⟩ := hP
  rw [e, hp] at h
  exact n x d c (Option.some.inj h).symm
theorem keepD {H H' : Hp} {p q : Addr} {o : HO} (hP : Pool H p) (b : But [p] H H') (h : H q = some o) (n : ∀ x d c : Int, o ≠ .lst [.int x, .int d, .int c]) : H' q = some o := b _ _ (fun m => not_pool hP h n (List.mem_singleton.mp m)) h
structure Fac (t1 t2 l1 d1 : Addr) (H : Hp) : Prop where
  a : H t1 = some (.tup [.int 1, .int 2])
  b : H t2 = some (.tup [.str "a", .int 0, .int 0])
  c : H l1 = some (.lst [])
  d : H d1 = some (.dK [])
theorem Fac.but {t1 t2 l1 d1 p : Addr} {H H' : Hp} (f : Fac t1 t2 l1 d1 H) (hP : Pool H p) (b : But [p] H H') : Fac t1 t2 l1 d1 H' :=
  ⟨keepD hP b f.a (fun x d c e => by cases e), keepD hP b f.b (fun x d c e => by cases e), keepD hP b f.c (fun x d c e => by cases e), keepD hP b f.d (fun x d c e => by cases e)⟩
theorem Fac.same {t1 t2 l1 d1 : Addr} {H H' : Hp} (f : Fac t1 t2 l1 d1 H) (s : Same H H') : Fac t1 t2 l1 d1 H' := ⟨s _ _ f.a, s _ _ f.b, s _ _ f.c, s _ _ f.d⟩
theorem Fac.thg {t1 t2 l1 d1 : Addr} {H : Hp} (f : Fac t1 t2 l1 d1 H) {v : V} (h : v ∈ [V.non, .int 0, .str "a", .ref t1, .bl true, .int (-3), .int (10 ^ Int.toNat 30), .ref t2, .ref l1, .ref d1]) : Thg K H v := by
  simp only [List.mem_cons, List.not_mem_nil, or_false] at h
  have ti : ∀ n : Int, Thg K H (.int n) := fun n => .inl ⟨.int n, .int n, rfl, by simp [PyData.eqv]⟩
  rcases h with rfl | rfl | rfl | rfl | rfl | rfl | rfl | rfl | rfl | rfl
  · exact .inl ⟨.none, .non, rfl, rfl⟩
  · exact ti _
  · exact .inl ⟨.str "a", .str _, by decide +kernel, by decide +kernel⟩
  · exact .inl ⟨.tuple [.int 1, .int 2], .tup (.inl (.inl f.a)) (.cons (.int 1) (.cons (.int 2) .nil)), by decide +kernel, by decide +kernel⟩
  · exact .inl ⟨.bool true, .bl true, rfl, by decide +kernel⟩
  · exact ti _
  · exact ti _
  · exact .inl ⟨.tuple [.str "a", .int 0, .int 0], .tup (.inl (.inl f.b)) (.cons (.str _) (.cons (.int 0) (.cons (.int 0) .nil))), by decide +kernel, by decide +kernel⟩
  · exact .inl ⟨.list [], .lst (.inl (.inl f.c)) .nil, by decide +kernel, by decide +kernel⟩
  · exact .inr ⟨d1, rfl, f.d⟩
theorem rd_dkS {cl : Nat → Addr} {H0 H : Hp} {L : List En} {M : List (Addr × HO)} {σ : L2.St} {Q : VK} (h : Stt K cl H0 L M H) (q : ∀ p H', Stt K cl H0 L (M ++ [(p, .dK [])]) H' → Q (.ref p) H') : tDNewK σ H Q := fun p np => q p _ (h.obj np)
theorem rd_sl {r : V → Option Int → Option Int → Hp → VK → Prop} {te : TE} {tl th : TO} {σ : L2.St} {H : Hp} {Q : VK} (h : te σ H fun x H1 => tl σ H1 fun l H2 => th σ H2 fun u H3 => r x l u H3 Q) : tSl r te tl th σ H Q := h
theorem rd_part {t : TE} {σ : L2.St} {H : Hp} {R : Option Int → Hp → Prop} (h : t σ H fun x H1 => ∃ i, x = .int i ∧ R (some i) H1) : tPart t σ H R := h
theorem rd_nopart {σ : L2.St} {H : Hp} {R : Option Int → Hp → Prop} (h : R none H) : tNoPart σ H R := h
theorem rd_par {i j : Nat} {ta : TA} {D : Ends} {σ : L2.St} {H : Hp} (h : ta σ H fun vs H1 => ∃ v w, vs = [v, w] ∧ D.nx ((σ.set i (some v)).set j (some w)) H1) : tPar i j ta D σ H := h
theorem letters : ∀ r : Fin 8, PyData.canLay0 (.str (cutS "abcdefgh" (some ((r.val : Nat) : Int)) none)) = true := by decide +kernel
def spLaw (K : PySem.W.Frag) : Sp := fun vs H Q _ => ∃ (a : Addr) (ns : List Int), vs = [.ref a] ∧ SqL K H a (ns.map V.int) ∧ ns.length ≤ 63 ∧ ∀ H', Q (.bl true) H'
theorem spLaw_of {K : PySem.W.Frag} {H : Hp} {a : Addr} {ns : List Int} {E : XK} (hl : ns.length ≤ 63) (hS : SqL K H a (ns.map V.int)) : spLaw K [.ref a] H (fun v _ => v = .bl true) E := ⟨a, ns, rfl, hS, hl, fun _ => rfl⟩
theorem ok_law (T : Txt K mg A) : FnOk P w K mg base CX0 3 A.f_law A.d_law ["_law_script"] (spLaw K) := by
  have G_pool : FnOk P w K mg base CX0 1 A.f_pool A.d_pool ["_law_cell_here"] spPool := ok_pool T
  have G_cell : FnOk P w K mg base CX0 1 A.f_cell A.d_cell ["_law_script", "_law_k"] (spCell K) := ok_cell T
  have G_draw : FnOk P w K mg base CX0 1 A.f_draw A.d_draw ["_law_pool_here", "_law_many"] spDraw := ok_draw T
  have G_values_right : FnOk P w K mg base CX0 2 A.f_values_right A.d_values_right ["_law_thing"] (spVR K) := ok_values_right T
  have G_others_right : FnOk P w K mg base CX0 2 A.f_others_right A.d_others_right ["_law_at", "_law_call"] spOR := ok_others_right T
  refine T.F_law.ok sc_law (fun vs H Q E h => ?_) (fun cdv A0 outer s H vs Q E hr h => ?_)
  · obtain ⟨a, ns, rfl, _⟩ := h
    rfl
  · obtain ⟨a, ns, rfl, hS, hl, q⟩ := h
    have hu64 := room64 hr
    refine ⟨_, (pss_cons (ps_set (i := 1) sc_law.nd rfl (.inl rfl) (pe_lst (pa_cons (pe_glob (v := .int (6)) (by rfl) T.g_MOST_SURFACES ⟨_, rfl⟩) (pa_cons (pe_glob (v := .int (1000000000000)) (by rfl) T.g_MOST_SIZE ⟨_, rfl⟩) (pa_cons (pe_glob (v := .int (1000000000)) (by rfl) T.g_MOST_COLOUR ⟨_, rfl⟩) (pa_cons (pe_glob (v := .int (16)) (by rfl) T.g_MOST_ORDERS ⟨_, rfl⟩) (pa_cons (pe_glob (v := .int (4)) (by rfl) T.g_MOST_COPIES ⟨_, rfl⟩) (pa_cons (pe_glob (v := .int (2)) (by rfl) T.g_MOST_KEYS ⟨_, rfl⟩) (pa_cons (pe_glob (v := .int (4)) (by rfl) T.g_MOST_RECOLOURS ⟨_, rfl⟩) (pa_cons (pe_glob (v := .int (2)) (by rfl) T.g_MOST_PAIRS ⟨_, rfl⟩) pa_nil))))))))))
      (pss_cons (ps_set (i := 1) sc_law.nd rfl (.inl rfl) (pe_op op_cat (pv 1) (pe_lst (pa_cons (pe_glob (v := .int (12)) (by rfl) T.g_MOST_REPEAT ⟨_, rfl⟩) (pa_cons (pe_glob (v := .int (6)) (by rfl) T.g_MOST_LEVELS ⟨_, rfl⟩) (pa_cons (pe_glob (v := .int (8)) (by rfl) T.g_MOST_PARTS ⟨_, rfl⟩) (pa_cons (pe_glob (v := .int (100)) (by rfl) T.g_MOST_EDITS ⟨_, rfl⟩) pa_nil)))))))
      (pss_cons (ps_if (pt_cmpR (op_neD hu64) (pv 1) (pe_lst (pa_cons pe_int (pa_cons (pe_op op_pow pe_int pe_int) (pa_cons (pe_op op_pow pe_int pe_int) (pa_cons pe_int (pa_cons pe_int (pa_cons pe_int (pa_cons pe_int (pa_cons pe_int (pa_cons pe_int (pa_cons pe_int (pa_cons pe_int (pa_cons pe_int pa_nil))))))))))))) (nomark _))
        (pss_one (ps_ret pe_bl))
        pss_nil)
      (pss_cons (ps_for PassesOwn.never rfl (pi_range1 (by rfl) T.m_range (pa_cons (pe_callB (call_max2 rfl) (by rfl) T.m_max (by decide +kernel) (pa_cons pe_int (pa_cons (pe_callB (call_min2 rfl) (by rfl) T.m_min (by decide +kernel) (pa_cons (pe_callB call_len_seq (by rfl) T.m_len PySem.boot_len (pa_cons (pv 0) pa_nil)) (pa_cons pe_int pa_nil))) pa_nil))) pa_nil)) (pg_name (i := 2) sc_law.nd rfl (.inl rfl))
        (pss_cons (ps_set (i := 3) sc_law.nd rfl (.inl rfl) (pe_call G_pool (hr.mono (by decide)) (by rfl) T.g_pool T.F_pool.kp T.B_pool .nil pass0 (pa_cons (pe_call G_cell (hr.mono (by decide)) (by rfl) T.g_cell T.F_cell.kp T.B_cell .nil pass0 (pa_cons (pv 0) (pa_cons (pv 2) pa_nil))) pa_nil)))
        (pss_cons (ps_set (i := 4) sc_law.nd rfl (.inl rfl) (pe_lst (pa_cons pe_non (pa_cons pe_int (pa_cons pe_str (pa_cons (pe_tup (pa_cons pe_int (pa_cons pe_int pa_nil))) (pa_cons pe_bl (pa_cons (pe_un un_neg pe_int) (pa_cons (pe_op op_pow pe_int pe_int) (pa_cons (pe_tup (pa_cons pe_str (pa_cons pe_int (pa_cons pe_int pa_nil)))) (pa_cons (pe_lst pa_nil) (pa_cons pe_dnewK pa_nil))))))))))))
        (pss_cons (ps_set (i := 5) sc_law.nd rfl (.inl rfl) (pe_ix ix_list (pv 4) (pe_call G_draw (hr.mono (by decide)) (by rfl) T.g_draw T.F_draw.kp T.B_draw .nil pass0 (pa_cons (pv 3) (pa_cons pe_int pa_nil))) (fun _ _ => rfl)))
        (pss_cons (ps_par (i := 6) (j := 7) (by rfl) sc_law.nd rfl rfl (by decide) rfl rfl (pa_cons (pe_ix ix_list (pe_lst (pa_cons pe_int (pa_cons pe_int (pa_cons pe_int (pa_cons (pe_op op_pow pe_int pe_int) (pa_cons (pe_call G_draw (hr.mono (by decide)) (by rfl) T.g_draw T.F_draw.kp T.B_draw .nil pass0 (pa_cons (pv 3) (pa_cons (pe_op op_pow pe_int pe_int) pa_nil))) pa_nil)))))) (pe_call G_draw (hr.mono (by decide)) (by rfl) T.g_draw T.F_draw.kp T.B_draw .nil pass0 (pa_cons (pv 3) (pa_cons pe_int pa_nil))) (fun _ _ => rfl)) (pa_cons (pe_slice sl_str pe_str (po_some (pe_call G_draw (hr.mono (by decide)) (by rfl) T.g_draw T.F_draw.kp T.B_draw .nil pass0 (pa_cons (pv 3) (pa_cons pe_int pa_nil)))) po_none) pa_nil)) (by rfl))
        (pss_one (ps_if (pw_or (pt_not (pt_val (pe_call G_values_right (hr.mono (by decide)) (by rfl) T.g_values_right T.F_values_right.kp T.B_values_right .nil pass0 (pa_cons (pv 5) pa_nil)))) (pw_or1 (pt_not (pt_val (pe_call G_others_right (hr.mono (by decide)) (by rfl) T.g_others_right T.F_others_right.kp T.B_others_right .nil pass0 (pa_cons (pv 6) (pa_cons (pv 7) pa_nil))))))).pt
          (pss_one (ps_ret pe_bl))
          pss_nil)))))))
      (pss_one (ps_ret pe_bl)))))), ?_⟩
    have st : Stt K (cl A) H [] [] H := Stt.start
    walk_at "rd"
    refine rd_lstS st (by exact Nat.le_of_ble_eq_true rfl) fun p1 H1 st => ?_
    walk_at "rd"
    refine rd_lstS st (by exact Nat.le_of_ble_eq_true rfl) fun p2 H1 st => ?_
    walk_at "rd"
    refine rd_catD st (by (repeat (first | exact List.mem_append_right _ (List.mem_singleton.mpr rfl) | exact List.mem_singleton.mpr rfl | apply List.mem_append_left))) (by (repeat (first | exact List.mem_append_right _ (List.mem_singleton.mpr rfl) | exact List.mem_singleton.mpr rfl | apply List.mem_append_left))) (by exact Nat.le_of_ble_eq_true rfl) fun p1 H1 st => ?_
    walk_at "rd"
    refine rd_lstS st (by exact Nat.le_of_ble_eq_true rfl) fun p2 H1 st => ?_
    have e1 : H1 p1 = some (.lst (([6, 1000000000000, 1000000000, 16, 4, 2, 4, 2, 12, 6, 8, 100] : List Int).map V.int)) := st.ls (p1, _) (by (repeat (first | exact List.mem_append_right _ (List.mem_singleton.mpr rfl) | exact List.mem_singleton.mpr rfl | apply List.mem_append_left)))
    have e2 : H1 p2 = some (.lst (([6, 10 ^ Int.toNat 12, 10 ^ Int.toNat 9, 16, 4, 2, 4, 2, 12, 6, 8, 100] : List Int).map V.int)) := st.ls (p2, _) (by (repeat (first | exact List.mem_append_right _ (List.mem_singleton.mpr rfl) | exact List.mem_singleton.mpr rfl | apply List.mem_append_left)))
    rw [show ([6, 10 ^ Int.toNat 12, 10 ^ Int.toNat 9, 16, 4, 2, 4, 2, 12, 6, 8, 100] : List Int) = [6, 1000000000000, 1000000000, 16, 4, 2, 4, 2, 12, 6, 8, 100] by decide +kernel] at e2
    refine rd_neD (dp_ints e1) (dp_ints e2) (shaped_ints _) (shaped_ints _) (eqv_ints _) ?_
    walk_at "rd"
    have s0 := st.sm
    have hb : ∀ x : Int, x ≤ 63 → -(2 ^ 62) ≤ (if x > 2 then x else 2) ∧ (if x > 2 then x else 2) < 2 ^ 62 ∧ (if x > 2 then x else 2).toNat ≤ 63 := fun x hx => by
      split <;> omega
    have hm : (if (6 : Int) < ((ns.map V.int).length : Int) then (6 : Int) else ((ns.map V.int).length : Int)) ≤ 63 := by split <;> omega
    refine ⟨.ref a, rfl, a, _, rfl, .inl (s0.seq hS), _, _, rfl, _, _, rfl, _, rfl, (hb _ hm).1, (hb _ hm).2.1, ?_⟩
    have hn := (hb _ hm).2.2
    refine for_range (fun i σ H' => ∃ x2 x3 x4 x5 x6 x7, σ = [some (.ref a), some (.ref p1), x2, x3, x4, x5, x6, x7] ∧ Same H H') ⟨_, _, _, _, _, _, rfl, s0⟩ (fun i σ H2 hi h => ?_) (fun σ H2 h => ?_)
    · obtain ⟨x2, x3, x4, x5, x6, x7, rfl, sH⟩ := h
      walk_at "rd"
      refine ⟨a, ns, _, rfl, sH.seq hS, by omega, by omega, fun z H3 s3 => ?_⟩
      walk_at "rd"
      refine ⟨z, rfl, fun p H4 np s4 p4 => ?_⟩
      have st : Stt K (cl A) H4 [] [] H4 := Stt.start
      walk_at "rd"
      refine rd_tupS st (by exact Nat.le_of_ble_eq_true rfl) fun t1 H5 st => ?_
      walk_at "rd"
      refine rd_tupS st (by exact Nat.le_of_ble_eq_true rfl) fun t2 H5 st => ?_
      walk_at "rd"
      refine rd_lstS st (by exact Nat.le_of_ble_eq_true rfl) fun l1 H5 st => ?_
      walk_at "rd"
      refine rd_dkS st fun d1 H5 st => ?_
      walk_at "rd"
      refine rd_lstS st (by exact Nat.le_of_ble_eq_true rfl) fun ps H5 st => ?_
      have f5 : Fac t1 t2 l1 d1 H5 := ⟨st.ls (t1, _) (by (repeat (first | exact List.mem_append_right _ (List.mem_singleton.mpr rfl) | exact List.mem_singleton.mpr rfl | apply List.mem_append_left))), st.ls (t2, _) (by (repeat (first | exact List.mem_append_right _ (List.mem_singleton.mpr rfl) | exact List.mem_singleton.mpr rfl | apply List.mem_append_left))), st.ls (l1, _) (by (repeat (first | exact List.mem_append_right _ (List.mem_singleton.mpr rfl) | exact List.mem_singleton.mpr rfl | apply List.mem_append_left))), st.ls (d1, _) (by (repeat (first | exact List.mem_append_right _ (List.mem_singleton.mpr rfl) | exact List.mem_singleton.mpr rfl | apply List.mem_append_left)))⟩
      have hps := st.ls (ps, _) (by (repeat (first | exact List.mem_append_right _ (List.mem_singleton.mpr rfl) | exact List.mem_singleton.mpr rfl | apply List.mem_append_left)))
      have p5 := p4.same st.sm
      have b5 : But [p] H4 H5 := .of st.sm
      walk_at "rd"
      refine ⟨p, 10, rfl, p5, by decide, by decide, fun r H6 r0 r1 b6 p6 => ?_⟩
      have hps6 := keepD p5 b6 hps (fun x d c e => by cases e)
      have f6 := f5.but p5 b6
      have b6 := b5.trans b6
      obtain ⟨v, ev, mv⟩ := atI_lt (xs := [V.non, .int 0, .str "a", .ref t1, .bl true, .int (-3), .int (10 ^ Int.toNat 30), .ref t2, .ref l1, .ref d1]) r0 r1
      refine ⟨ps, _, r, v, rfl, rfl, .inl (.inl hps6), ev, ?_⟩
      walk_at "rd"
      refine rd_par ?_
      walk_at "rd"
      refine ⟨p, _, rfl, p6, by decide +kernel, by decide +kernel, fun r1 H7 r10 r11 b7 p7 => ?_⟩
      have f7 := f6.but p6 b7
      have b7 := b6.trans b7
      have st : Stt K (cl A) H7 [] [] H7 := Stt.start
      walk_at "rd"
      refine rd_lstS st (by exact Nat.le_of_ble_eq_true rfl) fun pl H8 st => ?_
      have hpl := st.ls (pl, _) (by (repeat (first | exact List.mem_append_right _ (List.mem_singleton.mpr rfl) | exact List.mem_singleton.mpr rfl | apply List.mem_append_left)))
      have f8 := f7.same st.sm
      have p8 := p7.same st.sm
      have b8 := b7.trans (.of st.sm)
      walk_at "rd"
      refine ⟨p, 5, rfl, p8, by decide, by decide, fun r2 H9 r20 r21 b9 p9 => ?_⟩
      have hpl9 := keepD p8 b9 hpl (fun x d c e => by cases e)
      have f9 := f8.but p8 b9
      have b9 := b8.trans b9
      obtain ⟨v2, ev2, mv2⟩ := atI_lt (xs := [V.int 0, .int 1, .int 17, .int (10 ^ Int.toNat 30), .int r1]) r20 r21
      obtain ⟨n, rfl⟩ : ∃ n, v2 = .int n := by
        simp only [List.mem_cons, List.not_mem_nil, or_false] at mv2
        rcases mv2 with rfl | rfl | rfl | rfl | rfl <;> exact ⟨_, rfl⟩
      refine ⟨pl, _, r2, .int n, rfl, rfl, .inl (.inl hpl9), ev2, ?_⟩
      walk_at "rd"
      refine rd_sl ?_
      walk_at "rd"
      refine rd_part ?_
      walk_at "rd"
      refine ⟨p, 8, rfl, p9, by decide, by decide, fun r3 H10 r30 r31 b10 p10 => ?_⟩
      have f10 := f9.but p9 b10
      have b10 := b9.trans b10
      refine ⟨r3, rfl, rd_nopart ?_⟩
      refine ⟨_, rfl, le_line (by decide), ?_⟩
      have hz : PyData.canLay0 (.str (cutS "abcdefgh" (some r3) none)) = true := by
        have z := letters ⟨r3.toNat, by omega⟩
        have e : ((r3.toNat : Nat) : Int) = r3 := Int.toNat_of_nonneg r30
        dsimp only at z
        rw [e] at z
        exact z
      walk_at "rd"
      refine ⟨_, _, rfl, ?_⟩
      walk_at "rd"
      refine ⟨v, rfl, f10.thg mv, fun H11 s11 => ?_⟩
      walk_at "rd"
      refine ⟨n, _, rfl, hz, fun H12 s12 => ?_⟩
      walk_at "rd"
      have s34 : Same H3 H10 := same_of_but ((But.of s4).trans b10) fun q m => by
        rw [List.mem_singleton.mp m]
        exact np
      exact ⟨_, _, _, _, _, _, rfl, (((sH.trans s3).trans s34).trans s11).trans s12⟩
    · obtain ⟨x2, x3, x4, x5, x6, x7, rfl, sH⟩ := h
      walk_at "rd"
      exact q _
end
theorem all_mk {l : PySem.W.OpenLaw} {w : World} {K : PySem.W.Frag} {h : Heap} {mg : Str → Option Value} {fa : Addr} (X : K.In h) (G : h.Ns mainGlobals mg) (hfa : mg "law" = some (.ref fa))
    {kc0 : Addr}
    {kc1 : Addr}
    {kc2 : Addr}
    {kc3 : Addr}
    {kc4 : Addr}
    {kc5 : Addr}
    {kc6 : Addr}
    {kc7 : Addr}
    {kc8 : Addr}
    {kc9 : Addr}
    {kc10 : Addr}
    {kc11 : Addr}
    {kc12 : Addr}
    {kc13 : Addr}
    {kc14 : Addr}
    {kc15 : Addr}
    {kc16 : Addr}
    {kc17 : Addr}
    {kc18 : Addr}
    {kc19 : Addr}
    {kc20 : Addr}
    {kc21 : Addr}
    {kc22 : Addr}
    {kc23 : Addr}
    {kc24 : Addr}
    {kc25 : Addr}
    {kc26 : Addr}
    {kc27 : Addr}
    {kc28 : Addr}
    {kc29 : Addr}
    {kn0 : Addr} {ko0 kx0 : Option Addr} {ks0 : Array (Option Value)} {ku0 kd0 kp0 km0 kt0 : Value}
    {kn1 : Addr} {ko1 kx1 : Option Addr} {ks1 : Array (Option Value)} {ku1 kd1 kp1 km1 kt1 : Value}
    {kn2 : Addr} {ko2 kx2 : Option Addr} {ks2 : Array (Option Value)} {ku2 kd2 kp2 km2 kt2 : Value}
    {kn3 : Addr} {ko3 kx3 : Option Addr} {ks3 : Array (Option Value)} {ku3 kd3 kp3 km3 kt3 : Value}
    {kn4 : Addr} {ko4 kx4 : Option Addr} {ks4 : Array (Option Value)} {ku4 kd4 kp4 km4 kt4 : Value}
    {kn5 : Addr} {ko5 kx5 : Option Addr} {ks5 : Array (Option Value)} {ku5 kd5 kp5 km5 kt5 : Value}
    {kn6 : Addr} {ko6 kx6 : Option Addr} {ks6 : Array (Option Value)} {ku6 kd6 kp6 km6 kt6 : Value}
    {kn7 : Addr} {ko7 kx7 : Option Addr} {ks7 : Array (Option Value)} {ku7 kd7 kp7 km7 kt7 : Value}
    {kn8 : Addr} {ko8 kx8 : Option Addr} {ks8 : Array (Option Value)} {ku8 kd8 kp8 km8 kt8 : Value}
    {kn9 : Addr} {ko9 kx9 : Option Addr} {ks9 : Array (Option Value)} {ku9 kd9 kp9 km9 kt9 : Value}
    {kn10 : Addr} {ko10 kx10 : Option Addr} {ks10 : Array (Option Value)} {ku10 kd10 kp10 km10 kt10 : Value}
    {kn11 : Addr} {ko11 kx11 : Option Addr} {ks11 : Array (Option Value)} {ku11 kd11 kp11 km11 kt11 : Value}
    {kn12 : Addr} {ko12 kx12 : Option Addr} {ks12 : Array (Option Value)} {ku12 kd12 kp12 km12 kt12 : Value}
    {kn13 : Addr} {ko13 kx13 : Option Addr} {ks13 : Array (Option Value)} {ku13 kd13 kp13 km13 kt13 : Value}
    {kn14 : Addr} {ko14 kx14 : Option Addr} {ks14 : Array (Option Value)} {ku14 kd14 kp14 km14 kt14 : Value}
    {kn15 : Addr} {ko15 kx15 : Option Addr} {ks15 : Array (Option Value)} {ku15 kd15 kp15 km15 kt15 : Value}
    {kn19 : Addr} {ko19 kx19 : Option Addr} {ks19 : Array (Option Value)} {ku19 kd19 kp19 km19 kt19 : Value}
    {kn22 : Addr} {ko22 kx22 : Option Addr} {ks22 : Array (Option Value)} {ku22 kd22 kp22 km22 kt22 : Value}
    {kn23 : Addr} {ko23 kx23 : Option Addr} {ks23 : Array (Option Value)} {ku23 kd23 kp23 km23 kt23 : Value}
    {kn24 : Addr} {ko24 kx24 : Option Addr} {ks24 : Array (Option Value)} {ku24 kd24 kp24 km24 kt24 : Value}
    {kn25 : Addr} {ko25 kx25 : Option Addr} {ks25 : Array (Option Value)} {ku25 kd25 kp25 km25 kt25 : Value}
    {kn26 : Addr} {ko26 kx26 : Option Addr} {ks26 : Array (Option Value)} {ku26 kd26 kp26 km26 kt26 : Value}
    {f0 : Addr} {od0 an0 : Option Addr} {sl0 : Array (Option Value)} {oc0 kV0 dc0 pm0 cd0 ct0 : Value}
    {f1 : Addr} {od1 an1 : Option Addr} {sl1 : Array (Option Value)} {oc1 kV1 dc1 pm1 cd1 ct1 : Value}
    {f2 : Addr} {od2 an2 : Option Addr} {sl2 : Array (Option Value)} {oc2 kV2 dc2 pm2 cd2 ct2 : Value}
    {f3 : Addr} {od3 an3 : Option Addr} {sl3 : Array (Option Value)} {oc3 kV3 dc3 pm3 cd3 ct3 : Value}
    {f4 : Addr} {od4 an4 : Option Addr} {sl4 : Array (Option Value)} {oc4 kV4 dc4 pm4 cd4 ct4 : Value}
    {f5 : Addr} {od5 an5 : Option Addr} {sl5 : Array (Option Value)} {oc5 kV5 dc5 pm5 cd5 ct5 : Value}
    {f6 : Addr} {od6 an6 : Option Addr} {sl6 : Array (Option Value)} {oc6 kV6 dc6 pm6 cd6 ct6 : Value}
    {tk0 : Tok}
    {tk1 : Tok}
    {tk2 : Tok}
    {tk3 : Tok}
    {tk4 : Tok}
    {tk5 : Tok}
    {tk6 : Tok}
    {tk7 : Tok}
    {tk8 : Tok}
    {tk9 : Tok}
    {tk10 : Tok}
    {tk11 : Tok}
    (ca0 : PySem.W.nsIn K mainGlobals "InvalidStage" = some (some (.ref kc0)))
    (ca1 : PySem.W.nsIn K mainGlobals "InvalidSurface" = some (some (.ref kc1)))
    (ca2 : PySem.W.nsIn K mainGlobals "InvalidCell" = some (some (.ref kc2)))
    (ca3 : PySem.W.nsIn K mainGlobals "InvalidRect" = some (some (.ref kc3)))
    (ca4 : PySem.W.nsIn K mainGlobals "InvalidNumber" = some (some (.ref kc4)))
    (ca5 : PySem.W.nsIn K mainGlobals "InvalidColour" = some (some (.ref kc5)))
    (ca6 : PySem.W.nsIn K mainGlobals "InvalidPairs" = some (some (.ref kc6)))
    (ca7 : PySem.W.nsIn K mainGlobals "InvalidForm" = some (some (.ref kc7)))
    (ca8 : PySem.W.nsIn K mainGlobals "InvalidLine" = some (some (.ref kc8)))
    (ca9 : PySem.W.nsIn K mainGlobals "NotAScript" = some (some (.ref kc9)))
    (ca10 : PySem.W.nsIn K mainGlobals "NotAPicture" = some (some (.ref kc10)))
    (ca11 : PySem.W.nsIn K mainGlobals "InvalidPatch" = some (some (.ref kc11)))
    (ca12 : PySem.W.nsIn K mainGlobals "InvalidPass" = some (some (.ref kc12)))
    (ca13 : PySem.W.nsIn K mainGlobals "InvalidEdit" = some (some (.ref kc13)))
    (ca14 : PySem.W.nsIn K mainGlobals "InvalidOrder" = some (some (.ref kc14)))
    (ca15 : PySem.W.nsIn K mainGlobals "InvalidText" = some (some (.ref kc15)))
    (ca16 : PySem.W.nsIn K mainGlobals "DifferentStages" = some (some (.ref kc16)))
    (ca17 : PySem.W.nsIn K mainGlobals "UsesKeys" = some (some (.ref kc17)))
    (ca18 : PySem.W.nsIn K mainGlobals "NoBeginning" = some (some (.ref kc18)))
    (ca19 : PySem.W.nsIn K mainGlobals "Guarded" = some (some (.ref kc19)))
    (ca20 : PySem.W.nsIn K mainGlobals "Busy" = some (some (.ref kc20)))
    (ca21 : PySem.W.nsIn K mainGlobals "NothingToUndo" = some (some (.ref kc21)))
    (ca22 : PySem.W.nsIn K mainGlobals "TooManyOrders" = some (some (.ref kc22)))
    (ca23 : PySem.W.nsIn K mainGlobals "TooManyCopies" = some (some (.ref kc23)))
    (ca24 : PySem.W.nsIn K mainGlobals "TooManyKeys" = some (some (.ref kc24)))
    (ca25 : PySem.W.nsIn K mainGlobals "TooManyRecolours" = some (some (.ref kc25)))
    (ca26 : PySem.W.nsIn K mainGlobals "TooManyEdits" = some (some (.ref kc26)))
    (ca27 : PySem.W.nsIn K mainGlobals "FormError" = some (some (.ref kc27)))
    (ca28 : PySem.W.nsIn K mainGlobals "StateError" = some (some (.ref kc28)))
    (ca29 : PySem.W.nsIn K mainGlobals "LimitError" = some (some (.ref kc29)))
    (ci0 : PySem.W.findIn K (.ref kc0) "__init__" = some (some (.ref kn0)))
    (cl0 : K.lookup kn0 = some ⟨ku0, ko0, .func (PySem.W.fnOf "__init__" "InvalidStage.__init__" (Vm.iPar "value" ⟨6, 17, 6, 21⟩ ⟨6, 23, 6, 28⟩) (Vm.iBod "value" ⟨7, 8, 7, 12⟩ ⟨7, 8, 7, 18⟩ ⟨7, 21, 7, 26⟩ ⟨7, 8, 7, 26⟩) (Vm.iSco "value") .none .none kd0 kp0 kx0 km0 kt0), ks0⟩)
    (cc0 : PySem.W.codeIn K km0 "InvalidStage.__init__" = true)
    (cb0 : Vm.clB K [.type "ValueError", .type "Exception", .type "BaseException", .type "object"] "ValueError.__new__" "value" kc0 kn0 = true)
    (ci1 : PySem.W.findIn K (.ref kc1) "__init__" = some (some (.ref kn1)))
    (cl1 : K.lookup kn1 = some ⟨ku1, ko1, .func (PySem.W.fnOf "__init__" "InvalidSurface.__init__" (Vm.iPar "value" ⟨10, 17, 10, 21⟩ ⟨10, 23, 10, 28⟩) (Vm.iBod "value" ⟨11, 8, 11, 12⟩ ⟨11, 8, 11, 18⟩ ⟨11, 21, 11, 26⟩ ⟨11, 8, 11, 26⟩) (Vm.iSco "value") .none .none kd1 kp1 kx1 km1 kt1), ks1⟩)
    (cc1 : PySem.W.codeIn K km1 "InvalidSurface.__init__" = true)
    (cb1 : Vm.clB K [.type "ValueError", .type "Exception", .type "BaseException", .type "object"] "ValueError.__new__" "value" kc1 kn1 = true)
    (ci2 : PySem.W.findIn K (.ref kc2) "__init__" = some (some (.ref kn2)))
    (cl2 : K.lookup kn2 = some ⟨ku2, ko2, .func (PySem.W.fnOf "__init__" "InvalidCell.__init__" (Vm.iPar "value" ⟨14, 17, 14, 21⟩ ⟨14, 23, 14, 28⟩) (Vm.iBod "value" ⟨15, 8, 15, 12⟩ ⟨15, 8, 15, 18⟩ ⟨15, 21, 15, 26⟩ ⟨15, 8, 15, 26⟩) (Vm.iSco "value") .none .none kd2 kp2 kx2 km2 kt2), ks2⟩)
    (cc2 : PySem.W.codeIn K km2 "InvalidCell.__init__" = true)
    (cb2 : Vm.clB K [.type "ValueError", .type "Exception", .type "BaseException", .type "object"] "ValueError.__new__" "value" kc2 kn2 = true)
    (ci3 : PySem.W.findIn K (.ref kc3) "__init__" = some (some (.ref kn3)))
    (cl3 : K.lookup kn3 = some ⟨ku3, ko3, .func (PySem.W.fnOf "__init__" "InvalidRect.__init__" (Vm.iPar "value" ⟨18, 17, 18, 21⟩ ⟨18, 23, 18, 28⟩) (Vm.iBod "value" ⟨19, 8, 19, 12⟩ ⟨19, 8, 19, 18⟩ ⟨19, 21, 19, 26⟩ ⟨19, 8, 19, 26⟩) (Vm.iSco "value") .none .none kd3 kp3 kx3 km3 kt3), ks3⟩)
    (cc3 : PySem.W.codeIn K km3 "InvalidRect.__init__" = true)
    (cb3 : Vm.clB K [.type "ValueError", .type "Exception", .type "BaseException", .type "object"] "ValueError.__new__" "value" kc3 kn3 = true)
    (ci4 : PySem.W.findIn K (.ref kc4) "__init__" = some (some (.ref kn4)))
    (cl4 : K.lookup kn4 = some ⟨ku4, ko4, .func (PySem.W.fnOf "__init__" "InvalidNumber.__init__" (Vm.iPar "value" ⟨22, 17, 22, 21⟩ ⟨22, 23, 22, 28⟩) (Vm.iBod "value" ⟨23, 8, 23, 12⟩ ⟨23, 8, 23, 18⟩ ⟨23, 21, 23, 26⟩ ⟨23, 8, 23, 26⟩) (Vm.iSco "value") .none .none kd4 kp4 kx4 km4 kt4), ks4⟩)
    (cc4 : PySem.W.codeIn K km4 "InvalidNumber.__init__" = true)
    (cb4 : Vm.clB K [.type "ValueError", .type "Exception", .type "BaseException", .type "object"] "ValueError.__new__" "value" kc4 kn4 = true)
    (ci5 : PySem.W.findIn K (.ref kc5) "__init__" = some (some (.ref kn5)))
    (cl5 : K.lookup kn5 = some ⟨ku5, ko5, .func (PySem.W.fnOf "__init__" "InvalidColour.__init__" (Vm.iPar "value" ⟨26, 17, 26, 21⟩ ⟨26, 23, 26, 28⟩) (Vm.iBod "value" ⟨27, 8, 27, 12⟩ ⟨27, 8, 27, 18⟩ ⟨27, 21, 27, 26⟩ ⟨27, 8, 27, 26⟩) (Vm.iSco "value") .none .none kd5 kp5 kx5 km5 kt5), ks5⟩)
    (cc5 : PySem.W.codeIn K km5 "InvalidColour.__init__" = true)
    (cb5 : Vm.clB K [.type "ValueError", .type "Exception", .type "BaseException", .type "object"] "ValueError.__new__" "value" kc5 kn5 = true)
    (ci6 : PySem.W.findIn K (.ref kc6) "__init__" = some (some (.ref kn6)))
    (cl6 : K.lookup kn6 = some ⟨ku6, ko6, .func (PySem.W.fnOf "__init__" "InvalidPairs.__init__" (Vm.iPar "value" ⟨30, 17, 30, 21⟩ ⟨30, 23, 30, 28⟩) (Vm.iBod "value" ⟨31, 8, 31, 12⟩ ⟨31, 8, 31, 18⟩ ⟨31, 21, 31, 26⟩ ⟨31, 8, 31, 26⟩) (Vm.iSco "value") .none .none kd6 kp6 kx6 km6 kt6), ks6⟩)
    (cc6 : PySem.W.codeIn K km6 "InvalidPairs.__init__" = true)
    (cb6 : Vm.clB K [.type "ValueError", .type "Exception", .type "BaseException", .type "object"] "ValueError.__new__" "value" kc6 kn6 = true)
    (ci7 : PySem.W.findIn K (.ref kc7) "__init__" = some (some (.ref kn7)))
    (cl7 : K.lookup kn7 = some ⟨ku7, ko7, .func (PySem.W.fnOf "__init__" "InvalidForm.__init__" (Vm.iPar "value" ⟨34, 17, 34, 21⟩ ⟨34, 23, 34, 28⟩) (Vm.iBod "value" ⟨35, 8, 35, 12⟩ ⟨35, 8, 35, 18⟩ ⟨35, 21, 35, 26⟩ ⟨35, 8, 35, 26⟩) (Vm.iSco "value") .none .none kd7 kp7 kx7 km7 kt7), ks7⟩)
    (cc7 : PySem.W.codeIn K km7 "InvalidForm.__init__" = true)
    (cb7 : Vm.clB K [.type "ValueError", .type "Exception", .type "BaseException", .type "object"] "ValueError.__new__" "value" kc7 kn7 = true)
    (ci8 : PySem.W.findIn K (.ref kc8) "__init__" = some (some (.ref kn8)))
    (cl8 : K.lookup kn8 = some ⟨ku8, ko8, .func (PySem.W.fnOf "__init__" "InvalidLine.__init__" (Vm.iPar "value" ⟨58, 17, 58, 21⟩ ⟨58, 23, 58, 28⟩) (Vm.iBod "value" ⟨59, 8, 59, 12⟩ ⟨59, 8, 59, 18⟩ ⟨59, 21, 59, 26⟩ ⟨59, 8, 59, 26⟩) (Vm.iSco "value") .none .none kd8 kp8 kx8 km8 kt8), ks8⟩)
    (cc8 : PySem.W.codeIn K km8 "InvalidLine.__init__" = true)
    (cb8 : Vm.clB K [.type "ValueError", .type "Exception", .type "BaseException", .type "object"] "ValueError.__new__" "value" kc8 kn8 = true)
    (ci9 : PySem.W.findIn K (.ref kc9) "__init__" = some (some (.ref kn9)))
    (cl9 : K.lookup kn9 = some ⟨ku9, ko9, .func (PySem.W.fnOf "__init__" "NotAScript.__init__" (Vm.iPar "value" ⟨62, 17, 62, 21⟩ ⟨62, 23, 62, 28⟩) (Vm.iBod "value" ⟨63, 8, 63, 12⟩ ⟨63, 8, 63, 18⟩ ⟨63, 21, 63, 26⟩ ⟨63, 8, 63, 26⟩) (Vm.iSco "value") .none .none kd9 kp9 kx9 km9 kt9), ks9⟩)
    (cc9 : PySem.W.codeIn K km9 "NotAScript.__init__" = true)
    (cb9 : Vm.clB K [.type "ValueError", .type "Exception", .type "BaseException", .type "object"] "ValueError.__new__" "value" kc9 kn9 = true)
    (ci10 : PySem.W.findIn K (.ref kc10) "__init__" = some (some (.ref kn10)))
    (cl10 : K.lookup kn10 = some ⟨ku10, ko10, .func (PySem.W.fnOf "__init__" "NotAPicture.__init__" (Vm.iPar "value" ⟨66, 17, 66, 21⟩ ⟨66, 23, 66, 28⟩) (Vm.iBod "value" ⟨67, 8, 67, 12⟩ ⟨67, 8, 67, 18⟩ ⟨67, 21, 67, 26⟩ ⟨67, 8, 67, 26⟩) (Vm.iSco "value") .none .none kd10 kp10 kx10 km10 kt10), ks10⟩)
    (cc10 : PySem.W.codeIn K km10 "NotAPicture.__init__" = true)
    (cb10 : Vm.clB K [.type "ValueError", .type "Exception", .type "BaseException", .type "object"] "ValueError.__new__" "value" kc10 kn10 = true)
    (ci11 : PySem.W.findIn K (.ref kc11) "__init__" = some (some (.ref kn11)))
    (cl11 : K.lookup kn11 = some ⟨ku11, ko11, .func (PySem.W.fnOf "__init__" "InvalidPatch.__init__" (Vm.iPar "index" ⟨38, 17, 38, 21⟩ ⟨38, 23, 38, 28⟩) (Vm.iBod "index" ⟨39, 8, 39, 12⟩ ⟨39, 8, 39, 18⟩ ⟨39, 21, 39, 26⟩ ⟨39, 8, 39, 26⟩) (Vm.iSco "index") .none .none kd11 kp11 kx11 km11 kt11), ks11⟩)
    (cc11 : PySem.W.codeIn K km11 "InvalidPatch.__init__" = true)
    (cb11 : Vm.clB K [.type "ValueError", .type "Exception", .type "BaseException", .type "object"] "ValueError.__new__" "index" kc11 kn11 = true)
    (ci12 : PySem.W.findIn K (.ref kc12) "__init__" = some (some (.ref kn12)))
    (cl12 : K.lookup kn12 = some ⟨ku12, ko12, .func (PySem.W.fnOf "__init__" "InvalidPass.__init__" (Vm.iPar "index" ⟨42, 17, 42, 21⟩ ⟨42, 23, 42, 28⟩) (Vm.iBod "index" ⟨43, 8, 43, 12⟩ ⟨43, 8, 43, 18⟩ ⟨43, 21, 43, 26⟩ ⟨43, 8, 43, 26⟩) (Vm.iSco "index") .none .none kd12 kp12 kx12 km12 kt12), ks12⟩)
    (cc12 : PySem.W.codeIn K km12 "InvalidPass.__init__" = true)
    (cb12 : Vm.clB K [.type "ValueError", .type "Exception", .type "BaseException", .type "object"] "ValueError.__new__" "index" kc12 kn12 = true)
    (ci13 : PySem.W.findIn K (.ref kc13) "__init__" = some (some (.ref kn13)))
    (cl13 : K.lookup kn13 = some ⟨ku13, ko13, .func (PySem.W.fnOf "__init__" "InvalidEdit.__init__" (Vm.iPar "index" ⟨46, 17, 46, 21⟩ ⟨46, 23, 46, 28⟩) (Vm.iBod "index" ⟨47, 8, 47, 12⟩ ⟨47, 8, 47, 18⟩ ⟨47, 21, 47, 26⟩ ⟨47, 8, 47, 26⟩) (Vm.iSco "index") .none .none kd13 kp13 kx13 km13 kt13), ks13⟩)
    (cc13 : PySem.W.codeIn K km13 "InvalidEdit.__init__" = true)
    (cb13 : Vm.clB K [.type "ValueError", .type "Exception", .type "BaseException", .type "object"] "ValueError.__new__" "index" kc13 kn13 = true)
    (ci14 : PySem.W.findIn K (.ref kc14) "__init__" = some (some (.ref kn14)))
    (cl14 : K.lookup kn14 = some ⟨ku14, ko14, .func (PySem.W.fnOf "__init__" "InvalidOrder.__init__" (Vm.iPar "path" ⟨50, 17, 50, 21⟩ ⟨50, 23, 50, 27⟩) (Vm.iBod "path" ⟨51, 8, 51, 12⟩ ⟨51, 8, 51, 17⟩ ⟨51, 20, 51, 24⟩ ⟨51, 8, 51, 24⟩) (Vm.iSco "path") .none .none kd14 kp14 kx14 km14 kt14), ks14⟩)
    (cc14 : PySem.W.codeIn K km14 "InvalidOrder.__init__" = true)
    (cb14 : Vm.clB K [.type "ValueError", .type "Exception", .type "BaseException", .type "object"] "ValueError.__new__" "path" kc14 kn14 = true)
    (ci15 : PySem.W.findIn K (.ref kc15) "__init__" = some (some (.ref kn15)))
    (cl15 : K.lookup kn15 = some ⟨ku15, ko15, .func (PySem.W.fnOf "__init__" "InvalidText.__init__" (Vm.iPar "line" ⟨54, 17, 54, 21⟩ ⟨54, 23, 54, 27⟩) (Vm.iBod "line" ⟨55, 8, 55, 12⟩ ⟨55, 8, 55, 17⟩ ⟨55, 20, 55, 24⟩ ⟨55, 8, 55, 24⟩) (Vm.iSco "line") .none .none kd15 kp15 kx15 km15 kt15), ks15⟩)
    (cc15 : PySem.W.codeIn K km15 "InvalidText.__init__" = true)
    (cb15 : Vm.clB K [.type "ValueError", .type "Exception", .type "BaseException", .type "object"] "ValueError.__new__" "line" kc15 kn15 = true)
    (ci19 : PySem.W.findIn K (.ref kc19) "__init__" = some (some (.ref kn19)))
    (cl19 : K.lookup kn19 = some ⟨ku19, ko19, .func (PySem.W.fnOf "__init__" "Guarded.__init__" (Vm.iPar "name" ⟨78, 17, 78, 21⟩ ⟨78, 23, 78, 27⟩) (Vm.iBod "name" ⟨79, 8, 79, 12⟩ ⟨79, 8, 79, 17⟩ ⟨79, 20, 79, 24⟩ ⟨79, 8, 79, 24⟩) (Vm.iSco "name") .none .none kd19 kp19 kx19 km19 kt19), ks19⟩)
    (cc19 : PySem.W.codeIn K km19 "Guarded.__init__" = true)
    (cb19 : Vm.clB K [.type "LookupError", .type "Exception", .type "BaseException", .type "object"] "LookupError.__new__" "name" kc19 kn19 = true)
    (ci22 : PySem.W.findIn K (.ref kc22) "__init__" = some (some (.ref kn22)))
    (cl22 : K.lookup kn22 = some ⟨ku22, ko22, .func (PySem.W.fnOf "__init__" "TooManyOrders.__init__" (Vm.iPar "found" ⟨88, 17, 88, 21⟩ ⟨88, 23, 88, 28⟩) (Vm.iBod "found" ⟨89, 8, 89, 12⟩ ⟨89, 8, 89, 18⟩ ⟨89, 21, 89, 26⟩ ⟨89, 8, 89, 26⟩) (Vm.iSco "found") .none .none kd22 kp22 kx22 km22 kt22), ks22⟩)
    (cc22 : PySem.W.codeIn K km22 "TooManyOrders.__init__" = true)
    (cb22 : Vm.clB K [.type "ArithmeticError", .type "Exception", .type "BaseException", .type "object"] "ArithmeticError.__new__" "found" kc22 kn22 = true)
    (ci23 : PySem.W.findIn K (.ref kc23) "__init__" = some (some (.ref kn23)))
    (cl23 : K.lookup kn23 = some ⟨ku23, ko23, .func (PySem.W.fnOf "__init__" "TooManyCopies.__init__" (Vm.iPar "found" ⟨92, 17, 92, 21⟩ ⟨92, 23, 92, 28⟩) (Vm.iBod "found" ⟨93, 8, 93, 12⟩ ⟨93, 8, 93, 18⟩ ⟨93, 21, 93, 26⟩ ⟨93, 8, 93, 26⟩) (Vm.iSco "found") .none .none kd23 kp23 kx23 km23 kt23), ks23⟩)
    (cc23 : PySem.W.codeIn K km23 "TooManyCopies.__init__" = true)
    (cb23 : Vm.clB K [.type "ArithmeticError", .type "Exception", .type "BaseException", .type "object"] "ArithmeticError.__new__" "found" kc23 kn23 = true)
    (ci24 : PySem.W.findIn K (.ref kc24) "__init__" = some (some (.ref kn24)))
    (cl24 : K.lookup kn24 = some ⟨ku24, ko24, .func (PySem.W.fnOf "__init__" "TooManyKeys.__init__" (Vm.iPar "found" ⟨96, 17, 96, 21⟩ ⟨96, 23, 96, 28⟩) (Vm.iBod "found" ⟨97, 8, 97, 12⟩ ⟨97, 8, 97, 18⟩ ⟨97, 21, 97, 26⟩ ⟨97, 8, 97, 26⟩) (Vm.iSco "found") .none .none kd24 kp24 kx24 km24 kt24), ks24⟩)
    (cc24 : PySem.W.codeIn K km24 "TooManyKeys.__init__" = true)
    (cb24 : Vm.clB K [.type "ArithmeticError", .type "Exception", .type "BaseException", .type "object"] "ArithmeticError.__new__" "found" kc24 kn24 = true)
    (ci25 : PySem.W.findIn K (.ref kc25) "__init__" = some (some (.ref kn25)))
    (cl25 : K.lookup kn25 = some ⟨ku25, ko25, .func (PySem.W.fnOf "__init__" "TooManyRecolours.__init__" (Vm.iPar "found" ⟨100, 17, 100, 21⟩ ⟨100, 23, 100, 28⟩) (Vm.iBod "found" ⟨101, 8, 101, 12⟩ ⟨101, 8, 101, 18⟩ ⟨101, 21, 101, 26⟩ ⟨101, 8, 101, 26⟩) (Vm.iSco "found") .none .none kd25 kp25 kx25 km25 kt25), ks25⟩)
    (cc25 : PySem.W.codeIn K km25 "TooManyRecolours.__init__" = true)
    (cb25 : Vm.clB K [.type "ArithmeticError", .type "Exception", .type "BaseException", .type "object"] "ArithmeticError.__new__" "found" kc25 kn25 = true)
    (ci26 : PySem.W.findIn K (.ref kc26) "__init__" = some (some (.ref kn26)))
    (cl26 : K.lookup kn26 = some ⟨ku26, ko26, .func (PySem.W.fnOf "__init__" "TooManyEdits.__init__" (Vm.iPar "found" ⟨104, 17, 104, 21⟩ ⟨104, 23, 104, 28⟩) (Vm.iBod "found" ⟨105, 8, 105, 12⟩ ⟨105, 8, 105, 18⟩ ⟨105, 21, 105, 26⟩ ⟨105, 8, 105, 26⟩) (Vm.iSco "found") .none .none kd26 kp26 kx26 km26 kt26), ks26⟩)
    (cc26 : PySem.W.codeIn K km26 "TooManyEdits.__init__" = true)
    (cb26 : Vm.clB K [.type "ArithmeticError", .type "Exception", .type "BaseException", .type "object"] "ArithmeticError.__new__" "found" kc26 kn26 = true)
    (cx16 : PySem.W.excIn K kc16 [.type "LookupError", .type "Exception", .type "BaseException", .type "object"] "LookupError.__new__" = true) (ck16 : PySem.W.keepIn K (.ref kc16) = true)
    (cx17 : PySem.W.excIn K kc17 [.type "LookupError", .type "Exception", .type "BaseException", .type "object"] "LookupError.__new__" = true) (ck17 : PySem.W.keepIn K (.ref kc17) = true)
    (cx18 : PySem.W.excIn K kc18 [.type "LookupError", .type "Exception", .type "BaseException", .type "object"] "LookupError.__new__" = true) (ck18 : PySem.W.keepIn K (.ref kc18) = true)
    (cx20 : PySem.W.excIn K kc20 [.type "LookupError", .type "Exception", .type "BaseException", .type "object"] "LookupError.__new__" = true) (ck20 : PySem.W.keepIn K (.ref kc20) = true)
    (cx21 : PySem.W.excIn K kc21 [.type "LookupError", .type "Exception", .type "BaseException", .type "object"] "LookupError.__new__" = true) (ck21 : PySem.W.keepIn K (.ref kc21) = true)
    (ch_all_F : exB K [kc0, kc1, kc2, kc3, kc4, kc5, kc6, kc7, kc8, kc9, kc10, kc11, kc12, kc13, kc14, kc15, kc16, kc17, kc18, kc19, kc20, kc21, kc22, kc23, kc24, kc25, kc26, kc27, kc28, kc29] = true)
    (ch_all_I : isB K [kc0, kc1, kc2, kc3, kc4, kc5, kc6, kc7, kc8, kc9, kc10, kc11, kc12, kc13, kc14, kc15, kc16, kc17, kc18, kc19, kc20, kc21, kc22, kc23, kc24, kc25, kc26, kc27, kc28, kc29] = true)
    (a0 : PySem.W.nsIn K mainGlobals "_law_cell" = some (some (.ref f0)))
    (l0 : K.lookup f0 = some ⟨oc0, od0, .func (PySem.W.fnOf "_law_cell" "_law_cell" (defArgs s_cell) (defBody s_cell) (defScope s_cell) .none kV0 dc0 pm0 an0 cd0 ct0), sl0⟩)
    (c0 : PySem.W.codeIn K cd0 "_law_cell" = true) (k0 : PySem.W.keepIn K (.ref f0) = true)
    (a1 : PySem.W.nsIn K mainGlobals "_law_pool" = some (some (.ref f1)))
    (l1 : K.lookup f1 = some ⟨oc1, od1, .func (PySem.W.fnOf "_law_pool" "_law_pool" (defArgs s_pool) (defBody s_pool) (defScope s_pool) .none kV1 dc1 pm1 an1 cd1 ct1), sl1⟩)
    (c1 : PySem.W.codeIn K cd1 "_law_pool" = true) (k1 : PySem.W.keepIn K (.ref f1) = true)
    (a2 : PySem.W.nsIn K mainGlobals "_law_draw" = some (some (.ref f2)))
    (l2 : K.lookup f2 = some ⟨oc2, od2, .func (PySem.W.fnOf "_law_draw" "_law_draw" (defArgs s_draw) (defBody s_draw) (defScope s_draw) .none kV2 dc2 pm2 an2 cd2 ct2), sl2⟩)
    (c2 : PySem.W.codeIn K cd2 "_law_draw" = true) (k2 : PySem.W.keepIn K (.ref f2) = true)
    (a3 : PySem.W.nsIn K mainGlobals "_law_values_right" = some (some (.ref f3)))
    (l3 : K.lookup f3 = some ⟨oc3, od3, .func (PySem.W.fnOf "_law_values_right" "_law_values_right" (defArgs s_values_right) (defBody s_values_right) (defScope s_values_right) .none kV3 dc3 pm3 an3 cd3 ct3), sl3⟩)
    (c3 : PySem.W.codeIn K cd3 "_law_values_right" = true) (k3 : PySem.W.keepIn K (.ref f3) = true)
    (a4 : PySem.W.nsIn K mainGlobals "_law_which" = some (some (.ref f4)))
    (l4 : K.lookup f4 = some ⟨oc4, od4, .func (PySem.W.fnOf "_law_which" "_law_which" (defArgs s_which) (defBody s_which) (defScope s_which) .none kV4 dc4 pm4 an4 cd4 ct4), sl4⟩)
    (c4 : PySem.W.codeIn K cd4 "_law_which" = true) (k4 : PySem.W.keepIn K (.ref f4) = true)
    (a5 : PySem.W.nsIn K mainGlobals "_law_others_right" = some (some (.ref f5)))
    (l5 : K.lookup f5 = some ⟨oc5, od5, .func (PySem.W.fnOf "_law_others_right" "_law_others_right" (defArgs s_others_right) (defBody s_others_right) (defScope s_others_right) .none kV5 dc5 pm5 an5 cd5 ct5), sl5⟩)
    (c5 : PySem.W.codeIn K cd5 "_law_others_right" = true) (k5 : PySem.W.keepIn K (.ref f5) = true)
    (a6 : PySem.W.nsIn K mainGlobals "law" = some (some (.ref f6)))
    (l6 : K.lookup f6 = some ⟨oc6, od6, .func (PySem.W.fnOf "law" "law" (defArgs s_law) (defBody s_law) (defScope s_law) .none kV6 dc6 pm6 an6 cd6 ct6), sl6⟩)
    (c6 : PySem.W.codeIn K cd6 "law" = true) (k6 : PySem.W.keepIn K (.ref f6) = true)
    (z0 : PySem.W.nsIn K mainGlobals "ArithmeticError" = some none)
    (z1 : PySem.W.nsIn K mainGlobals "LookupError" = some none)
    (z2 : PySem.W.nsIn K mainGlobals "ValueError" = some none)
    (z3 : PySem.W.nsIn K mainGlobals "abs" = some none)
    (z4 : PySem.W.nsIn K mainGlobals "all" = some none)
    (z5 : PySem.W.nsIn K mainGlobals "divmod" = some none)
    (z6 : PySem.W.nsIn K mainGlobals "isinstance" = some none)
    (z7 : PySem.W.nsIn K mainGlobals "len" = some none)
    (z8 : PySem.W.nsIn K mainGlobals "list" = some none)
    (z9 : PySem.W.nsIn K mainGlobals "max" = some none)
    (z10 : PySem.W.nsIn K mainGlobals "min" = some none)
    (z11 : PySem.W.nsIn K mainGlobals "range" = some none)
    (y0 : PySem.W.nsIn K mainGlobals "MOST_SURFACES" = some (some (.int 6 tk0)))
    (y1 : PySem.W.nsIn K mainGlobals "MOST_SIZE" = some (some (.int 1000000000000 tk1)))
    (y2 : PySem.W.nsIn K mainGlobals "MOST_COLOUR" = some (some (.int 1000000000 tk2)))
    (y3 : PySem.W.nsIn K mainGlobals "MOST_ORDERS" = some (some (.int 16 tk3)))
    (y4 : PySem.W.nsIn K mainGlobals "MOST_COPIES" = some (some (.int 4 tk4)))
    (y5 : PySem.W.nsIn K mainGlobals "MOST_KEYS" = some (some (.int 2 tk5)))
    (y6 : PySem.W.nsIn K mainGlobals "MOST_RECOLOURS" = some (some (.int 4 tk6)))
    (y7 : PySem.W.nsIn K mainGlobals "MOST_PAIRS" = some (some (.int 2 tk7)))
    (y8 : PySem.W.nsIn K mainGlobals "MOST_REPEAT" = some (some (.int 12 tk8)))
    (y9 : PySem.W.nsIn K mainGlobals "MOST_LEVELS" = some (some (.int 6 tk9)))
    (y10 : PySem.W.nsIn K mainGlobals "MOST_PARTS" = some (some (.int 8 tk10)))
    (y11 : PySem.W.nsIn K mainGlobals "MOST_EDITS" = some (some (.int 100 tk11))) :
    ∃ fd : FuncData, (∀ (s : Shared) (v : Value), BindsTo s fd ⟨[v], []⟩ [("_law_script", v)]) ∧ ∀ base : Heap, K.In base → base.Ns mainGlobals mg → FnOk l.prog w K mg base CX0 3 fa fd ["_law_script"] (spLaw K) := by
  have e := hfa.symm.trans (PySem.W.mg_of X G a6)
  cases e
  have F0 := fun_mk (st := s_cell) l0 c0 k0
  have F1 := fun_mk (st := s_pool) l1 c1 k1
  have F2 := fun_mk (st := s_draw) l2 c2 k2
  have F3 := fun_mk (st := s_values_right) l3 c3 k3
  have F4 := fun_mk (st := s_which) l4 c4 k4
  have F5 := fun_mk (st := s_others_right) l5 c5 k5
  have F6 := fun_mk (st := s_law) l6 c6 k6
  refine ⟨_, fun s v => .of_eq rfl, fun base _ _ => ok_law (A := ⟨f0, (PySem.W.fnOf "_law_cell" "_law_cell" (defArgs s_cell) (defBody s_cell) (defScope s_cell) .none kV0 dc0 pm0 an0 cd0 ct0),
    f1, (PySem.W.fnOf "_law_pool" "_law_pool" (defArgs s_pool) (defBody s_pool) (defScope s_pool) .none kV1 dc1 pm1 an1 cd1 ct1),
    f2, (PySem.W.fnOf "_law_draw" "_law_draw" (defArgs s_draw) (defBody s_draw) (defScope s_draw) .none kV2 dc2 pm2 an2 cd2 ct2),
    f3, (PySem.W.fnOf "_law_values_right" "_law_values_right" (defArgs s_values_right) (defBody s_values_right) (defScope s_values_right) .none kV3 dc3 pm3 an3 cd3 ct3),
    f4, (PySem.W.fnOf "_law_which" "_law_which" (defArgs s_which) (defBody s_which) (defScope s_which) .none kV4 dc4 pm4 an4 cd4 ct4),
    f5, (PySem.W.fnOf "_law_others_right" "_law_others_right" (defArgs s_others_right) (defBody s_others_right) (defScope s_others_right) .none kV5 dc5 pm5 an5 cd5 ct5),
    fa, (PySem.W.fnOf "law" "law" (defArgs s_law) (defBody s_law) (defScope s_law) .none kV6 dc6 pm6 an6 cd6 ct6),
    tk0,
    tk1,
    tk2,
    tk3,
    tk4,
    tk5,
    tk6,
    tk7,
    tk8,
    tk9,
    tk10,
    tk11,
    [kc0, kc1, kc2, kc3, kc4, kc5, kc6, kc7, kc8, kc9, kc10, kc11, kc12, kc13, kc14, kc15, kc16, kc17, kc18, kc19, kc20, kc21, kc22, kc23, kc24, kc25, kc26, kc27, kc28, kc29],
    kn0,
    kn1,
    kn2,
    kn3,
    kn4,
    kn5,
    kn6,
    kn7,
    kn8,
    kn9,
    kn10,
    kn11,
    kn12,
    kn13,
    kn14,
    kn15,
    kn19,
    kn22,
    kn23,
    kn24,
    kn25,
    kn26⟩) ?_⟩
  exact {
    F_cell := F0
    B_cell := F0.binds fun _ _ _ _ _ _ us hl => match us, hl with | [_, _], _ => rfl
    g_cell := PySem.W.mg_of X G a0
    F_pool := F1
    B_pool := F1.binds fun _ _ _ _ _ _ us hl => match us, hl with | [_], _ => rfl
    g_pool := PySem.W.mg_of X G a1
    F_draw := F2
    B_draw := F2.binds fun _ _ _ _ _ _ us hl => match us, hl with | [_, _], _ => rfl
    g_draw := PySem.W.mg_of X G a2
    F_values_right := F3
    B_values_right := F3.binds fun _ _ _ _ _ _ us hl => match us, hl with | [_], _ => rfl
    g_values_right := PySem.W.mg_of X G a3
    F_which := F4
    B_which := F4.binds fun _ _ _ _ _ _ us hl => match us, hl with | [_], _ => rfl
    g_which := PySem.W.mg_of X G a4
    F_others_right := F5
    B_others_right := F5.binds fun _ _ _ _ _ _ us hl => match us, hl with | [_, _], _ => rfl
    g_others_right := PySem.W.mg_of X G a5
    F_law := F6
    B_law := F6.binds fun _ _ _ _ _ _ us hl => match us, hl with | [_], _ => rfl
    g_law := PySem.W.mg_of X G a6
    m_ArithmeticError := PySem.W.mg_none_of X G z0
    m_LookupError := PySem.W.mg_none_of X G z1
    m_ValueError := PySem.W.mg_none_of X G z2
    m_abs := PySem.W.mg_none_of X G z3
    m_all := PySem.W.mg_none_of X G z4
    m_divmod := PySem.W.mg_none_of X G z5
    m_isinstance := PySem.W.mg_none_of X G z6
    m_len := PySem.W.mg_none_of X G z7
    m_list := PySem.W.mg_none_of X G z8
    m_max := PySem.W.mg_none_of X G z9
    m_min := PySem.W.mg_none_of X G z10
    m_range := PySem.W.mg_none_of X G z11
    g_MOST_SURFACES := PySem.W.mg_of X G y0
    g_MOST_SIZE := PySem.W.mg_of X G y1
    g_MOST_COLOUR := PySem.W.mg_of X G y2
    g_MOST_ORDERS := PySem.W.mg_of X G y3
    g_MOST_COPIES := PySem.W.mg_of X G y4
    g_MOST_KEYS := PySem.W.mg_of X G y5
    g_MOST_RECOLOURS := PySem.W.mg_of X G y6
    g_MOST_PAIRS := PySem.W.mg_of X G y7
    g_MOST_REPEAT := PySem.W.mg_of X G y8
    g_MOST_LEVELS := PySem.W.mg_of X G y9
    g_MOST_PARTS := PySem.W.mg_of X G y10
    g_MOST_EDITS := PySem.W.mg_of X G y11
    g_InvalidStage := PySem.W.mg_of X G ca0
    g_InvalidSurface := PySem.W.mg_of X G ca1
    g_InvalidCell := PySem.W.mg_of X G ca2
    g_InvalidRect := PySem.W.mg_of X G ca3
    g_InvalidNumber := PySem.W.mg_of X G ca4
    g_InvalidColour := PySem.W.mg_of X G ca5
    g_InvalidPairs := PySem.W.mg_of X G ca6
    g_InvalidForm := PySem.W.mg_of X G ca7
    g_InvalidLine := PySem.W.mg_of X G ca8
    g_NotAScript := PySem.W.mg_of X G ca9
    g_NotAPicture := PySem.W.mg_of X G ca10
    g_InvalidPatch := PySem.W.mg_of X G ca11
    g_InvalidPass := PySem.W.mg_of X G ca12
    g_InvalidEdit := PySem.W.mg_of X G ca13
    g_InvalidOrder := PySem.W.mg_of X G ca14
    g_InvalidText := PySem.W.mg_of X G ca15
    g_DifferentStages := PySem.W.mg_of X G ca16
    g_UsesKeys := PySem.W.mg_of X G ca17
    g_NoBeginning := PySem.W.mg_of X G ca18
    g_Guarded := PySem.W.mg_of X G ca19
    g_Busy := PySem.W.mg_of X G ca20
    g_NothingToUndo := PySem.W.mg_of X G ca21
    g_TooManyOrders := PySem.W.mg_of X G ca22
    g_TooManyCopies := PySem.W.mg_of X G ca23
    g_TooManyKeys := PySem.W.mg_of X G ca24
    g_TooManyRecolours := PySem.W.mg_of X G ca25
    g_TooManyEdits := PySem.W.mg_of X G ca26
    g_FormError := PySem.W.mg_of X G ca27
    g_StateError := PySem.W.mg_of X G ca28
    g_LimitError := PySem.W.mg_of X G ca29
    C_InvalidStage := Vm.clB_ok cb0
    I_InvalidStage := ⟨_, _, .none, .none, _, _, _, _, _, _, _, _, _, _, _, _, cl0, cc0⟩
    C_InvalidSurface := Vm.clB_ok cb1
    I_InvalidSurface := ⟨_, _, .none, .none, _, _, _, _, _, _, _, _, _, _, _, _, cl1, cc1⟩
    C_InvalidCell := Vm.clB_ok cb2
    I_InvalidCell := ⟨_, _, .none, .none, _, _, _, _, _, _, _, _, _, _, _, _, cl2, cc2⟩
    C_InvalidRect := Vm.clB_ok cb3
    I_InvalidRect := ⟨_, _, .none, .none, _, _, _, _, _, _, _, _, _, _, _, _, cl3, cc3⟩
    C_InvalidNumber := Vm.clB_ok cb4
    I_InvalidNumber := ⟨_, _, .none, .none, _, _, _, _, _, _, _, _, _, _, _, _, cl4, cc4⟩
    C_InvalidColour := Vm.clB_ok cb5
    I_InvalidColour := ⟨_, _, .none, .none, _, _, _, _, _, _, _, _, _, _, _, _, cl5, cc5⟩
    C_InvalidPairs := Vm.clB_ok cb6
    I_InvalidPairs := ⟨_, _, .none, .none, _, _, _, _, _, _, _, _, _, _, _, _, cl6, cc6⟩
    C_InvalidForm := Vm.clB_ok cb7
    I_InvalidForm := ⟨_, _, .none, .none, _, _, _, _, _, _, _, _, _, _, _, _, cl7, cc7⟩
    C_InvalidLine := Vm.clB_ok cb8
    I_InvalidLine := ⟨_, _, .none, .none, _, _, _, _, _, _, _, _, _, _, _, _, cl8, cc8⟩
    C_NotAScript := Vm.clB_ok cb9
    I_NotAScript := ⟨_, _, .none, .none, _, _, _, _, _, _, _, _, _, _, _, _, cl9, cc9⟩
    C_NotAPicture := Vm.clB_ok cb10
    I_NotAPicture := ⟨_, _, .none, .none, _, _, _, _, _, _, _, _, _, _, _, _, cl10, cc10⟩
    C_InvalidPatch := Vm.clB_ok cb11
    I_InvalidPatch := ⟨_, _, .none, .none, _, _, _, _, _, _, _, _, _, _, _, _, cl11, cc11⟩
    C_InvalidPass := Vm.clB_ok cb12
    I_InvalidPass := ⟨_, _, .none, .none, _, _, _, _, _, _, _, _, _, _, _, _, cl12, cc12⟩
    C_InvalidEdit := Vm.clB_ok cb13
    I_InvalidEdit := ⟨_, _, .none, .none, _, _, _, _, _, _, _, _, _, _, _, _, cl13, cc13⟩
    C_InvalidOrder := Vm.clB_ok cb14
    I_InvalidOrder := ⟨_, _, .none, .none, _, _, _, _, _, _, _, _, _, _, _, _, cl14, cc14⟩
    C_InvalidText := Vm.clB_ok cb15
    I_InvalidText := ⟨_, _, .none, .none, _, _, _, _, _, _, _, _, _, _, _, _, cl15, cc15⟩
    C_Guarded := Vm.clB_ok cb19
    I_Guarded := ⟨_, _, .none, .none, _, _, _, _, _, _, _, _, _, _, _, _, cl19, cc19⟩
    C_TooManyOrders := Vm.clB_ok cb22
    I_TooManyOrders := ⟨_, _, .none, .none, _, _, _, _, _, _, _, _, _, _, _, _, cl22, cc22⟩
    C_TooManyCopies := Vm.clB_ok cb23
    I_TooManyCopies := ⟨_, _, .none, .none, _, _, _, _, _, _, _, _, _, _, _, _, cl23, cc23⟩
    C_TooManyKeys := Vm.clB_ok cb24
    I_TooManyKeys := ⟨_, _, .none, .none, _, _, _, _, _, _, _, _, _, _, _, _, cl24, cc24⟩
    C_TooManyRecolours := Vm.clB_ok cb25
    I_TooManyRecolours := ⟨_, _, .none, .none, _, _, _, _, _, _, _, _, _, _, _, _, cl25, cc25⟩
    C_TooManyEdits := Vm.clB_ok cb26
    I_TooManyEdits := ⟨_, _, .none, .none, _, _, _, _, _, _, _, _, _, _, _, _, cl26, cc26⟩
    X_DifferentStages := cx16
    k_DifferentStages := ck16
    X_UsesKeys := cx17
    k_UsesKeys := ck17
    X_NoBeginning := cx18
    k_NoBeginning := ck18
    X_Busy := cx20
    k_Busy := ck20
    X_NothingToUndo := cx21
    k_NothingToUndo := ck21
    all_F := exB_ok ch_all_F
    all_I := isB_ok ch_all_I }
end K13
open PySem PySem.W PyProof.Rows
set_option maxHeartbeats 0 in
theorem PySem.Challenge.cw_allscreens_k13_limits_and_errors_holds : PySem.Challenge.rw_allscreens_k13_limits_and_errors.Holds := by
  w_on; o_law; k_head; (case hw => w_witness2)
  k_fill
  refine L2.walk_of (l := PySem.Challenge.rw_allscreens_k13_limits_and_errors) (n := 63) (k := 3) (x := "_law_script") (CX := fun _ => L2.CX0) (sp := fun w => K13.spLaw _) rfl (by decide) rfl ⟨rfl, by decide, by decide⟩ (fun w h Y => PySem.W.kIn_of Y) ?F (fun _ _ a ns hl _ hS => K13.spLaw_of hl hS) (fun _ _ _ _ _ h => h)
  case F =>
    intro w mg fa h KX G hmg
    refine' K13.all_mk (l := PySem.Challenge.rw_allscreens_k13_limits_and_errors) (w := w) KX G hmg ?ca0 ?ca1 ?ca2 ?ca3 ?ca4 ?ca5 ?ca6 ?ca7 ?ca8 ?ca9 ?ca10 ?ca11 ?ca12 ?ca13 ?ca14 ?ca15 ?ca16 ?ca17 ?ca18 ?ca19 ?ca20 ?ca21 ?ca22 ?ca23 ?ca24 ?ca25 ?ca26 ?ca27 ?ca28 ?ca29 ?ci0 ?cl0 ?cc0 ?cb0 ?ci1 ?cl1 ?cc1 ?cb1 ?ci2 ?cl2 ?cc2 ?cb2 ?ci3 ?cl3 ?cc3 ?cb3 ?ci4 ?cl4 ?cc4 ?cb4 ?ci5 ?cl5 ?cc5 ?cb5 ?ci6 ?cl6 ?cc6 ?cb6 ?ci7 ?cl7 ?cc7 ?cb7 ?ci8 ?cl8 ?cc8 ?cb8 ?ci9 ?cl9 ?cc9 ?cb9 ?ci10 ?cl10 ?cc10 ?cb10 ?ci11 ?cl11 ?cc11 ?cb11 ?ci12 ?cl12 ?cc12 ?cb12 ?ci13 ?cl13 ?cc13 ?cb13 ?ci14 ?cl14 ?cc14 ?cb14 ?ci15 ?cl15 ?cc15 ?cb15 ?ci19 ?cl19 ?cc19 ?cb19 ?ci22 ?cl22 ?cc22 ?cb22 ?ci23 ?cl23 ?cc23 ?cb23 ?ci24 ?cl24 ?cc24 ?cb24 ?ci25 ?cl25 ?cc25 ?cb25 ?ci26 ?cl26 ?cc26 ?cb26 ?cx16 ?ck16 ?cx17 ?ck17 ?cx18 ?ck18 ?cx20 ?ck20 ?cx21 ?ck21 ?ch_all_F ?ch_all_I ?a0 ?l0 ?c0 ?k0 ?a1 ?l1 ?c1 ?k1 ?a2 ?l2 ?c2 ?k2 ?a3 ?l3 ?c3 ?k3 ?a4 ?l4 ?c4 ?k4 ?a5 ?l5 ?c5 ?k5 ?a6 ?l6 ?c6 ?k6 ?z0 ?z1 ?z2 ?z3 ?z4 ?z5 ?z6 ?z7 ?z8 ?z9 ?z10 ?z11 ?y0 ?y1 ?y2 ?y3 ?y4 ?y5 ?y6 ?y7 ?y8 ?y9 ?y10 ?y11
    (case ca0 => k_is); (case ca1 => k_is); (case ca2 => k_is); (case ca3 => k_is); (case ca4 => k_is); (case ca5 => k_is); (case ca6 => k_is); (case ca7 => k_is); (case ca8 => k_is); (case ca9 => k_is); (case ca10 => k_is); (case ca11 => k_is); (case ca12 => k_is); (case ca13 => k_is); (case ca14 => k_is); (case ca15 => k_is); (case ca16 => k_is); (case ca17 => k_is); (case ca18 => k_is); (case ca19 => k_is); (case ca20 => k_is); (case ca21 => k_is); (case ca22 => k_is); (case ca23 => k_is); (case ca24 => k_is); (case ca25 => k_is); (case ca26 => k_is); (case ca27 => k_is); (case ca28 => k_is); (case ca29 => k_is); (case ci0 => k_is); (case cl0 => k_is); (case cc0 => k_is); (case cb0 => kernel_rfl); (case ci1 => k_is); (case cl1 => k_is); (case cc1 => k_is); (case cb1 => kernel_rfl); (case ci2 => k_is); (case cl2 => k_is); (case cc2 => k_is); (case cb2 => kernel_rfl); (case ci3 => k_is); (case cl3 => k_is); (case cc3 => k_is); (case cb3 => kernel_rfl); (case ci4 => k_is); (case cl4 => k_is); (case cc4 => k_is); (case cb4 => kernel_rfl); (case ci5 => k_is); (case cl5 => k_is); (case cc5 => k_is); (case cb5 => kernel_rfl); (case ci6 => k_is); (case cl6 => k_is); (case cc6 => k_is); (case cb6 => kernel_rfl); (case ci7 => k_is); (case cl7 => k_is); (case cc7 => k_is); (case cb7 => kernel_rfl); (case ci8 => k_is); (case cl8 => k_is); (case cc8 => k_is); (case cb8 => kernel_rfl); (case ci9 => k_is); (case cl9 => k_is); (case cc9 => k_is); (case cb9 => kernel_rfl); (case ci10 => k_is); (case cl10 => k_is); (case cc10 => k_is); (case cb10 => kernel_rfl); (case ci11 => k_is); (case cl11 => k_is); (case cc11 => k_is); (case cb11 => kernel_rfl); (case ci12 => k_is); (case cl12 => k_is); (case cc12 => k_is); (case cb12 => kernel_rfl); (case ci13 => k_is); (case cl13 => k_is); (case cc13 => k_is); (case cb13 => kernel_rfl); (case ci14 => k_is); (case cl14 => k_is); (case cc14 => k_is); (case cb14 => kernel_rfl); (case ci15 => k_is); (case cl15 => k_is); (case cc15 => k_is); (case cb15 => kernel_rfl); (case ci19 => k_is); (case cl19 => k_is); (case cc19 => k_is); (case cb19 => kernel_rfl); (case ci22 => k_is); (case cl22 => k_is); (case cc22 => k_is); (case cb22 => kernel_rfl); (case ci23 => k_is); (case cl23 => k_is); (case cc23 => k_is); (case cb23 => kernel_rfl); (case ci24 => k_is); (case cl24 => k_is); (case cc24 => k_is); (case cb24 => kernel_rfl); (case ci25 => k_is); (case cl25 => k_is); (case cc25 => k_is); (case cb25 => kernel_rfl); (case ci26 => k_is); (case cl26 => k_is); (case cc26 => k_is); (case cb26 => kernel_rfl); (case cx16 => k_exc); (case ck16 => k_is); (case cx17 => k_exc); (case ck17 => k_is); (case cx18 => k_exc); (case ck18 => k_is); (case cx20 => k_exc); (case ck20 => k_is); (case cx21 => k_exc); (case ck21 => k_is); (case ch_all_F => kernel_rfl); (case ch_all_I => kernel_rfl); (case a0 => k_is); (case l0 => k_is); (case c0 => k_is); (case k0 => k_is); (case a1 => k_is); (case l1 => k_is); (case c1 => k_is); (case k1 => k_is); (case a2 => k_is); (case l2 => k_is); (case c2 => k_is); (case k2 => k_is); (case a3 => k_is); (case l3 => k_is); (case c3 => k_is); (case k3 => k_is); (case a4 => k_is); (case l4 => k_is); (case c4 => k_is); (case k4 => k_is); (case a5 => k_is); (case l5 => k_is); (case c5 => k_is); (case k5 => k_is); (case a6 => k_is); (case l6 => k_is); (case c6 => k_is); (case k6 => k_is); (case z0 => k_is); (case z1 => k_is); (case z2 => k_is); (case z3 => k_is); (case z4 => k_is); (case z5 => k_is); (case z6 => k_is); (case z7 => k_is); (case z8 => k_is); (case z9 => k_is); (case z10 => k_is); (case z11 => k_is); (case y0 => k_is); (case y1 => k_is); (case y2 => k_is); (case y3 => k_is); (case y4 => k_is); (case y5 => k_is); (case y6 => k_is); (case y7 => k_is); (case y8 => k_is); (case y9 => k_is); (case y10 => k_is); (case y11 => k_is)

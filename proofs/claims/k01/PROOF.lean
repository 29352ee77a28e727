import PyProof.Rows.All
import Wide.All
import OpenK.AllK
import Wide.FinOn
import HandS.ForMost
import HandS.IsInst
import HandS.WideBits
import HandS.TupLe
import HandS.TupAny
import PySem.Challenge.RW_allscreens_k01_rectangles_of_any_value
set_option Elab.async false
set_option linter.all false
set_option maxRecDepth 100000
set_option maxHeartbeats 4000000
namespace Vk
open PySem PySem.Spec PyProof.Rows L2

/-! ## reading, one step at a time -/
section
variable {K : PySem.W.Frag} {D : Ends} {σ : L2.St} {H : Hp} {Q : VK} {t u : TS} {te ta tb tc : TE} {g : TG} {i : Nat} {v x y : V} {r r' : R2}
theorem rd_seq (h : t { D with nx := u D } σ H) : tSeq t u D σ H := h
theorem rd_asg (h : te σ H fun x H1 => g x σ H1 D.nx) : tAsg te g D σ H := h
theorem rd_ret (h : te σ H D.rt) : tRet te D σ H := h
theorem rd_drop (h : te σ H fun _ H1 => D.nx σ H1) : tDrop te D σ H := h
theorem rd_nx (h : D.nx σ H) : tNext D σ H := h
theorem rd_nm {Qg : L2.St → Hp → Prop} (h : Qg (σ.set i (some v)) H) : gName i v σ H Qg := h
theorem rd_var (h : σ[i]? = some (some v)) (q : Q v H) : tVar i σ H Q := ⟨v, h, q⟩
theorem rd_c (q : Q v H) : tC v σ H Q := q
theorem rd_op (h : ta σ H fun x H1 => tb σ H1 fun y H2 => r x y H2 Q) : tOp r ta tb σ H Q := h
theorem rd_un {ru : V → Hp → VK → Prop} (h : ta σ H fun x H1 => ru x H1 Q) : tUn ru ta σ H Q := h
theorem rd_i0 {g : Int → Int → V} {a b : Int} (q : Q (g a b) H) : rI0 g (.int a) (.int b) H Q := ⟨a, b, rfl, rfl, q⟩
theorem rd_i {C : Int → Int → Prop} {g : Int → Int → V} {a b : Int} (c : C a b) (q : Q (g a b) H) : rI C g (.int a) (.int b) H Q := ⟨a, b, rfl, rfl, c, q⟩
theorem rd_u {g : Int → V} {a : Int} (q : Q (g a) H) : rU g (.int a) H Q := ⟨a, rfl, q⟩
theorem rd_eq (h : scal x y = true) (q : Q (.bl (decide (x = y))) H) : rEq x y H Q := ⟨h, q⟩
theorem rd_ne (h : scal x y = true) (q : Q (.bl (!decide (x = y))) H) : rNe x y H Q := ⟨h, q⟩
theorem rd_test {Qt : Bool → Hp → Prop} (h : te σ H fun x H' => ∃ k, x = .bl k ∧ Qt k H') : tTest te σ H Qt := h
theorem rd_tb {Qt : Bool → Hp → Prop} (h : te σ H fun x H' => ∃ k, x = .bl k ∧ Qt k H') : tB te σ H Qt := h
theorem rd_bl {b : Bool} {R : Bool → Prop} (h : R b) : ∃ k, V.bl b = .bl k ∧ R k := ⟨b, rfl, h⟩
theorem rd_2 {b : Bool} {A B : Prop} (h1 : b = true → A) (h2 : b = false → B) : if b = true then A else B := by
  cases b with
  | true => exact iteT (h1 rfl)
  | false => exact iteF (h2 rfl)
theorem rd_chain (h : ta σ H fun x H1 => tb σ H1 fun y H2 => r x y H2 fun z H3 => ∃ k, z = .bl k ∧ (if k = true then tc σ H3 fun w' H4 => r' y w' H4 Q else Q (.bl false) H3)) : tChain r r' ta tb tc σ H Q := h
theorem rd_ifs {c : TT} (h : c σ H fun b H1 => if b = true then t D σ H1 else u D σ H1) : tIfS c t u D σ H := h
theorem rd_ife {c : TT} (h : c σ H fun b H1 => if b = true then ta σ H1 Q else tb σ H1 Q) : tIf c ta tb σ H Q := h
theorem rd_and {a b : TT} {Qt : Bool → Hp → Prop} (h : a σ H fun c H1 => if c = true then b σ H1 Qt else Qt false H1) : tAnd a b σ H Qt := h
theorem rd_or {a b : TT} {Qt : Bool → Hp → Prop} (h : a σ H fun c H1 => if c = true then Qt true H1 else b σ H1 Qt) : tOr a b σ H Qt := h
theorem rd_not {a : TT} {Qt : Bool → Hp → Prop} (h : a σ H fun c H1 => Qt (!c) H1) : tNot a σ H Qt := h
theorem rd_andV (h : ta σ H fun x H1 => ∃ c, x = .bl c ∧ if c = true then tb σ H1 Q else Q (.bl false) H1) : tAndV ta tb σ H Q := h
theorem rd_orV (h : ta σ H fun x H1 => ∃ c, x = .bl c ∧ if c = true then Q (.bl true) H1 else tb σ H1 Q) : tOrV ta tb σ H Q := h
theorem rd_notV (h : ta σ H fun x H1 => ∃ c, x = .bl c ∧ Q (.bl (!c)) H1) : tNotV ta σ H Q := h
theorem rd_yes {Qt : Bool → Hp → Prop} (h : Qt true H) : tYes σ H Qt := h
theorem rd_nil {Qa : List V → Hp → Prop} (q : Qa [] H) : tNil σ H Qa := q
theorem rd_cons {tr : TA} {Qa : List V → Hp → Prop} (h : ta σ H fun x H1 => tr σ H1 fun xs H2 => Qa (x :: xs) H2) : tCons ta tr σ H Qa := h
theorem rd_call {sp : Sp} {dvs : List V} {E : XK} {tl : TA} (h : tl σ H fun vs H1 => sp (vs ++ dvs) H1 Q E) : tCall sp dvs E tl σ H Q := h
theorem rd_cb {rc : List V → Hp → VK → Prop} {tl : TA} (h : tl σ H fun vs H1 => rc vs H1 Q) : tCB rc tl σ H Q := h
theorem rd_sub {to ti : TE} {ts : TSet} {Qg : L2.St → Hp → Prop} (h : to σ H fun o H1 => ti σ H1 fun i H2 => ts o i v H2 fun H3 => Qg σ H3) : gSub to ti ts v σ H Qg := h
theorem rd_tup {tl : TA} (h : tl σ H fun xs H1 => xs.length ≤ sizeLine ∧ ∀ p, H1 p = none → Q (.ref p) (upd H1 p (.tup xs))) : tTup tl σ H Q := h
theorem rd_lst {tl : TA} (h : tl σ H fun xs H1 => xs.length ≤ sizeLine ∧ ∀ p, H1 p = none → Q (.ref p) (upd H1 p (.lst xs))) : tLst tl σ H Q := h
theorem rd_ixl {p : Addr} {xs : List V} {a : Int} (h : SqL K H p xs) (e : atI xs a = some v) (q : Q v H) : rIxL K (.ref p) (.int a) H Q := ⟨p, xs, a, v, rfl, rfl, h, e, q⟩
theorem rd_ixt {p : Addr} {xs : List V} {a : Int} (h : SqT K H p xs) (e : atI xs a = some v) (q : Q v H) : rIxT K (.ref p) (.int a) H Q := ⟨p, xs, a, v, rfl, rfl, h, e, q⟩
theorem rd_setl {p : Addr} {xs : List V} {a : Int} {j : Nat} {Qh : Hp → Prop} (h : H p = some (.lst xs)) (e : ixN xs.length a = some j) (q : Qh (upd H p (.lst (xs.set j v)))) : rSetL (.ref p) (.int a) v H Qh := ⟨p, xs, a, j, rfl, rfl, h, e, q⟩
theorem rd_T {A B : Prop} (h : A) : if true = true then A else B := iteT h
theorem rd_Tt {b : Bool} {A B : Prop} (e : b = true) (h : A) : if b = true then A else B := (if_pos e).symm ▸ h
theorem rd_Ff {b : Bool} {A B : Prop} (e : b = false) (h : B) : if b = true then A else B := (if_neg (by rw [e]; exact Bool.false_ne_true) : (if b = true then A else B) = B).symm ▸ h
theorem rd_F {A B : Prop} (h : B) : if false = true then A else B := iteF h
end

/-! ## further rules -/
theorem room64 {k : Nat} {A : Around} {e : Env} (hr : Room k (A.deeper e)) : (A.deeper e).units + 64 < cLine := hr.units
section
variable {X : Cx}
theorem call_repr_bl : CallR X (.builtin "repr") (fun xs H Q => ∃ b : Bool, xs = [.bl b] ∧ Q (.str (if b then "True" else "False")) H) := by
  intro ps s σ H xs us Q I rel h
  obtain ⟨b, rfl, q⟩ := h
  obtain ⟨u0, rfl, e⟩ := vals1 rel
  cases (show u0 = Value.bool b from e)
  exact PySem.P.repr_of_bool ⟨.str (if b then "True" else "False"), H, I.tok _, ⟨_, rfl⟩, q⟩
/-- only keywords -/
theorem pe_callK0 {CX : CXT} {k : Nat} {f : Addr} {fd : FuncData} {ps ks : List Str} {sp : Sp} {E : XK} {nm : Str} {p0 pos : Pos} {kws : List Keyword} {tk : TA} {g : List Value → List Value → List Value} {gV : List V → List V → List V}
    (F : FnOk X.prog X.w X.K X.mg X.base CX k f fd ps sp) (room : Room k X.A) (isg : Gl X nm) (hm : X.mg nm = some (.ref f)) (kp : PySem.W.keepIn X.K (.ref f) = true) (kb : KBinds X.K fd ps ks g gV) (pa : Passes CX X E)
    (hkw : PK X kws tk) (h1 : (backToKw pos (keywordEach kws X.env)).all (·.1.isSome) = true := by rfl) (h2 : (backToKw pos (keywordEach kws X.env)).filterMap (·.1) = ks := by rfl)
    (h3 : (nm == ("__debug__" : Str)) = false := by decide) (h4 : ((backTo pos (starEach [] X.env)).any (·.1) || (backToKw pos (keywordEach kws X.env)).any (·.1.isNone)) = false := by rfl) :
    PE X (.Call (.Name nm p0) [] kws pos) (tCallK sp gV E tNil tk) :=
  ⟨fun pins s σ H Q I hw => wpAny_Call_Name_kw (ld_glob I isg hm (PySem.W.callWith_KW0 (h₀ := X.base) I.ok.mod.kin kp h1
    (thn (hkw.run pos pins s σ H _ I hw) fun ws s2 ⟨zs, H2, I2, rz, q2⟩ => ⟨I2.kIn, h2 ▸ run_fnk (us := []) (vs := []) F room kb pa I2 .nil rz q2⟩) h4) h3)⟩
end
theorem rd_callK {σ : L2.St} {H : Hp} {Q : VK} {sp : Sp} {gV : List V → List V → List V} {E : XK} {t tk : TA} (h : t σ H fun vs H1 => tk σ H1 fun zs H2 => sp (gV vs zs) H2 Q E) : tCallK sp gV E t tk σ H Q := h
abbrev kCat : List Value → List Value → List Value := fun us ws => us ++ ws
abbrev kCatV : List V → List V → List V := fun us ws => us ++ ws

/-! ## heaps: what a call that touches one list leaves -/
/-- all but the objects at B is as it was -/
def But (B : List Addr) (H H' : Hp) : Prop := ∀ b o, b ∉ B → H b = some o → H' b = some o
theorem But.refl {B : List Addr} {H : Hp} : But B H H := fun _ _ _ h => h
theorem But.trans {B : List Addr} {H H1 H2 : Hp} (e : But B H H1) (f : But B H1 H2) : But B H H2 := fun b o n h => f b o n (e b o n h)
theorem But.wide {B B' : List Addr} {H H' : Hp} (e : But B H H') (s : ∀ b, b ∉ B' → b ∉ B) : But B' H H' := fun b o n h => e b o (s b n) h
theorem But.of {B : List Addr} {H H' : Hp} (e : Same H H') : But B H H' := fun b o _ h => e b o h
theorem But.set {B : List Addr} {a : Addr} {H H' : Hp} {o : HO} (e : But B H H') (m : a ∈ B) : But B H (upd H' a o) := fun b u n h =>
  (upd_ne (fun z => n (by rw [z]; exact m))).trans (e b u n h)
theorem But.new {B : List Addr} {p : Addr} {H H' : Hp} {o : HO} (e : But B H H') (n : H' p = none) : But B H (upd H' p o) := fun b u nb h =>
  (upd_ne (ne_of_none (e b u nb h) n)).trans (e b u nb h)
/-- an object that H does not know may change -/
theorem But.mut {B : List Addr} {p : Addr} {H H' : Hp} {o : HO} (e : But B H H') (n : H p = none) : But B H (upd H' p o) := fun b u nb h =>
  (upd_ne (ne_of_none h n)).trans (e b u nb h)
theorem same_of_but {B : List Addr} {H H' : Hp} (e : But B H H') (n : ∀ p, p ∈ B → H p = none) : Same H H' := fun b o h => e b o (fun m => by rw [n b m] at h; cases h) h
theorem same_mut {H H' : Hp} {p : Addr} {o : HO} (e : Same H H') (n : H p = none) : Same H (upd H' p o) := fun b u h => (upd_ne (ne_of_none h n)).trans (e b u h)
theorem same_new {H : Hp} {p : Addr} {o : HO} (h : H p = none) : Same H (upd H p o) := fun b u e => (upd_ne (ne_of_none e h)).trans e
theorem But.seqL {K : PySem.W.Frag} {B : List Addr} {b : Addr} {H H' : Hp} {xs : List V} (e : But B H H') (n : b ∉ B) (h : SqL K H b xs) : SqL K H' b xs := by
  rcases h with (h | ⟨o, h⟩) | h
  · exact .inl (.inl (e _ _ n h))
  · exact .inl (.inr ⟨o, e _ _ n h⟩)
  · exact .inr h
/-- what stood is not among new objects -/
theorem But.seqL' {K : PySem.W.Frag} {B : List Addr} {b : Addr} {H H' : Hp} {xs : List V} (e : But B H H') (n : ∀ p, p ∈ B → H p = none) (h : SqL K H b xs) : SqL K H' b xs := by
  rcases h with (h | ⟨o, h⟩) | h
  · exact .inl (.inl (e _ _ (fun m => by rw [n _ m] at h; cases h) h))
  · exact .inl (.inr ⟨o, e _ _ (fun m => by rw [n _ m] at h; cases h) h⟩)
  · exact .inr h
theorem same_sqT {K : PySem.W.Frag} {H H' : Hp} {a : Addr} {xs : List V} (e : Same H H') (h : SqT K H a xs) : SqT K H' a xs := by
  rcases h with (h | ⟨o, h⟩) | h
  · exact .inl (.inl (e _ _ h))
  · exact .inl (.inr ⟨o, e _ _ h⟩)
  · exact .inr h
theorem But.free {B : List Addr} {H H' : Hp} {p : Addr} (e : But B H H') (n : p ∉ B) (h : H' p = none) : H p = none := by
  cases q : H p with
  | none => rfl
  | some o =>
    rw [e p o n q] at h
    cases h
/-- a pool of draws: three ints -/
def Pool (H : Hp) (a : Addr) : Prop := ∃ x d c : Int, H a = some (.lst [.int x, .int d, .int c])
theorem Pool.same {H H' : Hp} {a : Addr} (e : Same H H') (h : Pool H a) : Pool H' a := let ⟨x, d, c, h⟩ := h; ⟨x, d, c, e _ _ h⟩
theorem Pool.but {B : List Addr} {H H' : Hp} {a : Addr} (e : But B H H') (n : a ∉ B) (h : Pool H a) : Pool H' a := let ⟨x, d, c, h⟩ := h; ⟨x, d, c, e _ _ n h⟩
theorem Pool.ne {H : Hp} {a p : Addr} (h : Pool H a) (n : H p = none) : p ≠ a := fun e => by
  obtain ⟨x, d, c, h⟩ := h
  rw [e, h] at n
  cases n
theorem Pool.new {H : Hp} {a p : Addr} {o : HO} (h : Pool H a) (n : H p = none) : Pool (upd H p o) a := h.same (same_new n)
theorem Pool.upd {H : Hp} {a p : Addr} {o : HO} (h : Pool H a) (n : a ≠ p) : Pool (L2.upd H p o) a := let ⟨x, d, c, h⟩ := h; ⟨x, d, c, (upd_ne n).trans h⟩
theorem le_line {n : Nat} (h : n ≤ 1000) : n ≤ sizeLine := Nat.le_of_lt (small1000 h)
theorem atI_lt {α : Type} {xs : List α} {r : Int} (h0 : 0 ≤ r) (h1 : r < xs.length) : ∃ v, atI xs r = some v ∧ v ∈ xs := by
  obtain ⟨n, rfl⟩ := Int.eq_ofNat_of_zero_le h0
  have hn : n < xs.length := by omega
  exact ⟨xs[n], atI_nat (List.getElem?_eq_getElem hn), List.getElem_mem hn⟩
theorem ixN_lt {n : Nat} {r : Int} (h0 : 0 ≤ r) (h1 : r < n) : ixN n r = some r.toNat := by
  unfold ixN
  rw [if_pos h0, if_pos h1]
/-- some stretch of a list of ints is one -/
theorem cut_ints (ns : List Int) (lo hi : Option Int) : ∃ ms : List Int, cutV (ns.map V.int) lo hi = ms.map V.int :=
  ⟨_, by unfold cutV; rw [← List.map_drop, ← List.map_take]⟩
theorem mem_ints {ms : List Int} {i : Nat} {x : V} (h : (ms.map V.int)[i]? = some x) : ∃ n, x = .int n := by
  rw [List.getElem?_map] at h
  cases e : ms[i]? with
  | none => rw [e] at h; cases h
  | some n => rw [e] at h; cases h; exact ⟨n, rfl⟩
/-- a divisor below 2 ^ 64 is C's -/
theorem divp_small {i j : Int} (h0 : 0 < j) (h1 : j < 18446744073709551616) : CDivP i j := by
  refine ⟨h0, ?_⟩
  have hl : j.natAbs.log2 < 64 := by
    have hn : j.natAbs ≠ 0 := by omega
    exact (Nat.log2_lt hn).mpr (by omega)
  have hj : ¬ (j == 0) = true := by simpa using (show j ≠ 0 by omega)
  have hd : decide (j.natAbs.log2 / 30 + 1 > 300) = false := decide_eq_false (by omega)
  show (decide ((if (j == 0) = true then 0 else j.natAbs.log2 / 30 + 1) > 300) && _) = false
  rw [if_neg hj, hd, Bool.false_and]
end Vk
local macro_rules | `(tactic| walk_at "rd1") => `(tactic| first
  | ((with_reducible apply Vk.rd_var); exact rfl)
  | (with_reducible refine Vk.rd_c ?_)
  | (with_reducible refine Vk.rd_seq ?_)
  | (with_reducible refine Vk.rd_asg ?_)
  | (with_reducible refine Vk.rd_ret ?_)
  | (with_reducible refine Vk.rd_drop ?_)
  | (with_reducible refine Vk.rd_nx ?_)
  | (with_reducible refine Vk.rd_nm ?_)
  | (with_reducible refine Vk.rd_op ?_)
  | (with_reducible refine Vk.rd_un ?_)
  | (with_reducible refine Vk.rd_i0 ?_)
  | ((with_reducible refine Vk.rd_i ?_ ?_); (first | decide | (show (0 : Int) < _; decide) | exact ⟨by decide, by decide⟩ | exact ⟨by decide, by decide, by decide⟩ | exact .inl ⟨by decide, by decide⟩ | exact .inr ⟨by decide, by decide⟩ | exact .inl ⟨by omega, by omega⟩ | exact .inr ⟨by omega, by omega⟩ | exact ⟨by omega, by omega⟩ | (show (0 : Int) < _; omega)))
  | (with_reducible refine Vk.rd_u ?_)
  | ((with_reducible refine Vk.rd_eq ?_ ?_); exact rfl)
  | ((with_reducible refine Vk.rd_ne ?_ ?_); exact rfl)
  | (with_reducible refine Vk.rd_test ?_)
  | (with_reducible refine Vk.rd_tb ?_)
  | (with_reducible refine Vk.rd_bl ?_)
  | (with_reducible refine Vk.rd_chain ?_)
  | (with_reducible refine Vk.rd_ifs ?_)
  | (with_reducible refine Vk.rd_ife ?_)
  | (with_reducible refine Vk.rd_and ?_)
  | (with_reducible refine Vk.rd_or ?_)
  | (with_reducible refine Vk.rd_not ?_)
  | (with_reducible refine Vk.rd_andV ?_)
  | (with_reducible refine Vk.rd_orV ?_)
  | (with_reducible refine Vk.rd_notV ?_)
  | (with_reducible refine Vk.rd_nil ?_)
  | (with_reducible refine Vk.rd_yes ?_)
  | (with_reducible refine Vk.rd_cons ?_)
  | (with_reducible refine Vk.rd_cb ?_)
  | (with_reducible refine Vk.rd_call ?_)
  | (with_reducible refine Vk.rd_callK ?_)
  | (with_reducible refine Vk.rd_sub ?_)
  | (with_reducible refine Vk.rd_tup ?_)
  | (with_reducible refine Vk.rd_lst ?_)
  | ((with_reducible apply Vk.rd_ixl); (first | assumption | exact .inl (.inl L2.upd_same) | exact .inl (.inl (by assumption))); (first | exact rfl | assumption))
  | ((with_reducible apply Vk.rd_ixt); (first | assumption | exact .inl (.inl L2.upd_same) | exact .inl (.inl (by assumption))); (first | exact rfl | assumption))
  | ((with_reducible apply Vk.rd_setl); (first | assumption | exact L2.upd_same); (exact rfl))
  | (with_reducible refine Vk.rd_T ?_)
  | (with_reducible refine Vk.rd_F ?_)
  | ((with_reducible apply Vk.rd_Tt); (first | exact rfl | assumption))
  | ((with_reducible apply Vk.rd_Ff); (first | exact rfl | assumption)))
local macro_rules | `(tactic| walk_at "rd") => `(tactic| repeat walk_at "rd1")
namespace K01
open PySem PySem.Spec PyProof.Rows L2 Vk
def topS (i : Nat) : Stmt := PySem.Challenge.pw_allscreens_k01_rectangles_of_any_value.main.body.getD i (.Pass ⟨0, 0, 0, 0⟩)
abbrev s_is_int : Stmt := topS 2
abbrev N_is_int : List Str := ["value"]
theorem sc_is_int : FnScope N_is_int ["value"] (defScope s_is_int) := ⟨rfl, rfl, rfl, by decide +kernel, rfl, by decide +kernel, by decide +kernel⟩
abbrev s_is_between : Stmt := topS 3
abbrev N_is_between : List Str := ["value", "least", "most"]
theorem sc_is_between : FnScope N_is_between ["value", "least", "most"] (defScope s_is_between) := ⟨rfl, rfl, rfl, by decide +kernel, rfl, by decide +kernel, by decide +kernel⟩
abbrev s_is_number : Stmt := topS 4
abbrev N_is_number : List Str := ["value"]
theorem sc_is_number : FnScope N_is_number ["value"] (defScope s_is_number) := ⟨rfl, rfl, rfl, by decide +kernel, rfl, by decide +kernel, by decide +kernel⟩
abbrev s_is_rect : Stmt := topS 6
abbrev N_is_rect : List Str := ["value", "number"]
theorem sc_is_rect : FnScope N_is_rect ["value"] (defScope s_is_rect) := ⟨rfl, rfl, rfl, by decide +kernel, rfl, by decide +kernel, by decide +kernel⟩
abbrev s_cell : Stmt := topS 8
abbrev N_cell : List Str := ["_law_script", "_law_k", "_law_state_here", "_law_cell_here"]
theorem sc_cell : FnScope N_cell ["_law_script", "_law_k"] (defScope s_cell) := ⟨rfl, rfl, rfl, by decide +kernel, rfl, by decide +kernel, by decide +kernel⟩
abbrev s_pool : Stmt := topS 9
abbrev N_pool : List Str := ["_law_cell_here", "_law_digits"]
theorem sc_pool : FnScope N_pool ["_law_cell_here"] (defScope s_pool) := ⟨rfl, rfl, rfl, by decide +kernel, rfl, by decide +kernel, by decide +kernel⟩
abbrev s_draw : Stmt := topS 10
abbrev N_draw : List Str := ["_law_pool_here", "_law_many", "_law_old", "_law_digit"]
theorem sc_draw : FnScope N_draw ["_law_pool_here", "_law_many"] (defScope s_draw) := ⟨rfl, rfl, rfl, by decide +kernel, rfl, by decide +kernel, by decide +kernel⟩
abbrev s_within : Stmt := topS 11
abbrev N_within : List Str := ["_law_thing_here", "_law_low", "_law_high"]
theorem sc_within : FnScope N_within ["_law_thing_here", "_law_low", "_law_high"] (defScope s_within) := ⟨rfl, rfl, rfl, by decide +kernel, rfl, by decide +kernel, by decide +kernel⟩
abbrev s_due : Stmt := topS 12
abbrev N_due : List Str := ["_law_thing_here"]
theorem sc_due : FnScope N_due ["_law_thing_here"] (defScope s_due) := ⟨rfl, rfl, rfl, by decide +kernel, rfl, by decide +kernel, by decide +kernel⟩
abbrev s_number : Stmt := topS 13
abbrev N_number : List Str := ["_law_pool_here", "_law_some"]
theorem sc_number : FnScope N_number ["_law_pool_here"] (defScope s_number) := ⟨rfl, rfl, rfl, by decide +kernel, rfl, by decide +kernel, by decide +kernel⟩
abbrev s_thing : Stmt := topS 14
abbrev N_thing : List Str := ["_law_pool_here", "_law_found", "_law_odd", "_law_turn", "_law_way", "_law_k"]
theorem sc_thing : FnScope N_thing ["_law_pool_here"] (defScope s_thing) := ⟨rfl, rfl, rfl, by decide +kernel, rfl, by decide +kernel, by decide +kernel⟩
abbrev s_right : Stmt := topS 15
abbrev N_right : List Str := ["_law_pool_here", "_law_turn", "_law_thing_here"]
theorem sc_right : FnScope N_right ["_law_pool_here"] (defScope s_right) := ⟨rfl, rfl, rfl, by decide +kernel, rfl, by decide +kernel, by decide +kernel⟩
abbrev s_law : Stmt := topS 16
abbrev N_law : List Str := ["_law_script", "_law_k"]
theorem sc_law : FnScope N_law ["_law_script"] (defScope s_law) := ⟨rfl, rfl, rfl, by decide +kernel, rfl, by decide +kernel, by decide +kernel⟩
structure Ad where
  f_is_int : Addr
  d_is_int : FuncData
  f_is_between : Addr
  d_is_between : FuncData
  f_is_number : Addr
  d_is_number : FuncData
  f_is_rect : Addr
  d_is_rect : FuncData
  f_cell : Addr
  d_cell : FuncData
  f_pool : Addr
  d_pool : FuncData
  f_draw : Addr
  d_draw : FuncData
  f_within : Addr
  d_within : FuncData
  f_due : Addr
  d_due : FuncData
  f_number : Addr
  d_number : FuncData
  f_thing : Addr
  d_thing : FuncData
  f_right : Addr
  d_right : FuncData
  f_law : Addr
  d_law : FuncData
  t_MOST_SIZE : Tok
structure Txt (K : PySem.W.Frag) (mg : Str → Option Value) (A : Ad) : Prop where
  F_is_int : Fun K "is_int" "is_int" s_is_int A.f_is_int A.d_is_int
  B_is_int : Binds K A.d_is_int ["value"] []
  g_is_int : mg "is_int" = some (.ref A.f_is_int)
  F_is_between : Fun K "is_between" "is_between" s_is_between A.f_is_between A.d_is_between
  B_is_between : Binds K A.d_is_between ["value", "least", "most"] []
  g_is_between : mg "is_between" = some (.ref A.f_is_between)
  F_is_number : Fun K "is_number" "is_number" s_is_number A.f_is_number A.d_is_number
  B_is_number : Binds K A.d_is_number ["value"] []
  g_is_number : mg "is_number" = some (.ref A.f_is_number)
  F_is_rect : Fun K "is_rect" "is_rect" s_is_rect A.f_is_rect A.d_is_rect
  B_is_rect : Binds K A.d_is_rect ["value"] []
  g_is_rect : mg "is_rect" = some (.ref A.f_is_rect)
  F_cell : Fun K "_law_cell" "_law_cell" s_cell A.f_cell A.d_cell
  B_cell : Binds K A.d_cell ["_law_script", "_law_k"] []
  g_cell : mg "_law_cell" = some (.ref A.f_cell)
  F_pool : Fun K "_law_pool" "_law_pool" s_pool A.f_pool A.d_pool
  B_pool : Binds K A.d_pool ["_law_cell_here"] []
  g_pool : mg "_law_pool" = some (.ref A.f_pool)
  F_draw : Fun K "_law_draw" "_law_draw" s_draw A.f_draw A.d_draw
  B_draw : Binds K A.d_draw ["_law_pool_here", "_law_many"] []
  g_draw : mg "_law_draw" = some (.ref A.f_draw)
  F_within : Fun K "_law_within" "_law_within" s_within A.f_within A.d_within
  B_within : Binds K A.d_within ["_law_thing_here", "_law_low", "_law_high"] []
  g_within : mg "_law_within" = some (.ref A.f_within)
  F_due : Fun K "_law_due" "_law_due" s_due A.f_due A.d_due
  B_due : Binds K A.d_due ["_law_thing_here"] []
  g_due : mg "_law_due" = some (.ref A.f_due)
  F_number : Fun K "_law_number" "_law_number" s_number A.f_number A.d_number
  B_number : Binds K A.d_number ["_law_pool_here"] []
  g_number : mg "_law_number" = some (.ref A.f_number)
  F_thing : Fun K "_law_thing" "_law_thing" s_thing A.f_thing A.d_thing
  B_thing : Binds K A.d_thing ["_law_pool_here"] []
  g_thing : mg "_law_thing" = some (.ref A.f_thing)
  F_right : Fun K "_law_right" "_law_right" s_right A.f_right A.d_right
  B_right : Binds K A.d_right ["_law_pool_here"] []
  g_right : mg "_law_right" = some (.ref A.f_right)
  F_law : Fun K "law" "law" s_law A.f_law A.d_law
  B_law : Binds K A.d_law ["_law_script"] []
  g_law : mg "law" = some (.ref A.f_law)
  K_is_rect_value : KBinds K A.d_is_rect ["value"] ["value"] kCat kCatV
  m_abs : mg "abs" = none
  m_all : mg "all" = none
  m_bool : mg "bool" = none
  m_divmod : mg "divmod" = none
  m_int : mg "int" = none
  m_isinstance : mg "isinstance" = none
  m_len : mg "len" = none
  m_max : mg "max" = none
  m_min : mg "min" = none
  m_range : mg "range" = none
  m_repr : mg "repr" = none
  m_tuple : mg "tuple" = none
  g_MOST_SIZE : mg "MOST_SIZE" = some (.int 1000000000000 A.t_MOST_SIZE)
section
variable {P : Program} {w : World} {K : PySem.W.Frag} {mg : Str → Option Value} {base : Heap} {A : Ad}
/-! ### pools -/
def spCell (K : PySem.W.Frag) : Sp := fun vs H Q _ => ∃ (a : Addr) (ns : List Int) (k : Int), vs = [.ref a, .int k] ∧ SqL K H a (ns.map V.int) ∧ 0 ≤ k ∧ k ≤ 1000 ∧ ∀ z H', Same H H' → Q (.int z) H'
theorem ok_cell (T : Txt K mg A) : FnOk P w K mg base CX0 1 A.f_cell A.d_cell ["_law_script", "_law_k"] (spCell K) := by
  refine T.F_cell.ok sc_cell (fun vs H Q E h => ?_) (fun cdv A0 outer s H vs Q E hr h => ?_)
  · obtain ⟨a, ns, k, rfl, _⟩ := h
    rfl
  · obtain ⟨a, ns, k, rfl, hS, k0, k1, q⟩ := h
    refine ⟨_, (pss_cons (ps_if (pt_cmpR op_lt (pv 1) (pe_callB call_len_seq (by rfl) T.m_len PySem.boot_len (pa_cons (pv 0) pa_nil)) (nomark _))
        (pss_one (ps_ret (pe_ix ix_list (pv 0) (pv 1) (fun _ _ => rfl))))
        pss_nil)
      (pss_cons (ps_set (i := 2) sc_cell.nd rfl (.inl rfl) (pe_op op_mod (pe_op op_mul pe_int (pe_op op_add (pe_op op_add (pe_op op_mul (pv 1) (pv 1)) (pe_op op_mul pe_int (pv 1))) pe_int)) pe_int))
      (pss_cons (ps_for PassesOwn.never rfl (pi_list (pe_slice sl_list (pv 0) po_none (po_some pe_int))) (pg_name (i := 3) sc_cell.nd rfl (.inl rfl))
        (pss_one (ps_set (i := 2) sc_cell.nd rfl (.inl rfl) (pe_op op_mod (pe_op op_add (pe_op op_mul (pv 2) pe_int) (pv 3)) pe_int))))
      (pss_one (ps_ret (pv 2)))))), ?_⟩
    walk_at "rd"
    refine ⟨a, _, rfl, .inl hS, ?_⟩
    walk_at "rd"
    refine rd_2 (fun e => ?_) (fun e => ?_)
    · have hk := of_decide_eq_true e
      obtain ⟨v, e1, e2⟩ := atI_lt k0 hk
      obtain ⟨n, _, rfl⟩ := List.mem_map.mp e2
      walk_at "rd"
      exact q _ _ (Same.refl _)
    · walk_at "rd"
      obtain ⟨ms, em⟩ := cut_ints ns none (some 3)
      refine ⟨.ref a, rfl, 3, rfl, a, _, rfl, hS, fun p np => ⟨p, rfl, ⟨_, .inl (.inl upd_same)⟩, ?_⟩⟩
      rw [em]
      refine for_list (xs := ms.map V.int) (fun i σ H' => ∃ z y, σ = [some (.ref a), some (.int k), some (.int z), y] ∧ Same H H' ∧ H' p = some (.lst (ms.map V.int)))
        ⟨_, none, rfl, same_new np, upd_same⟩ (fun i σ H' _ h => ?_) (fun i x σ H' hx h => ?_) (fun σ H' h => ?_)
      · obtain ⟨z, y, rfl, sm, e⟩ := h
        exact .inl (.inl e)
      · obtain ⟨z, y, rfl, sm, e⟩ := h
        obtain ⟨n, rfl⟩ := mem_ints hx
        walk_at "rd"
        exact ⟨_, _, rfl, sm, e⟩
      · obtain ⟨z, y, rfl, sm, e⟩ := h
        walk_at "rd"
        exact q _ _ sm
def spPool : Sp := fun vs H Q _ => ∃ z : Int, vs = [.int z] ∧ ∀ p H', H p = none → Same H H' → Pool H' p → Q (.ref p) H'
theorem ok_pool (T : Txt K mg A) : FnOk P w K mg base CX0 1 A.f_pool A.d_pool ["_law_cell_here"] spPool := by
  refine T.F_pool.ok sc_pool (fun vs H Q E h => ?_) (fun cdv A0 outer s H vs Q E hr h => ?_)
  · obtain ⟨z, rfl, _⟩ := h
    rfl
  · obtain ⟨z, rfl, q⟩ := h
    refine ⟨_, (pss_cons (ps_set (i := 1) sc_pool.nd rfl (.inl rfl) (pe_ifExp (pw_or (pt_cmpR op_lt (pv 0) pe_int (nomark _)) (pw_or1 (pt_cmpR op_ge (pv 0) (pe_op op_pow pe_int pe_int) (nomark _)))).pt (pe_callB call_abs (by rfl) T.m_abs (by decide +kernel) (pa_cons (pv 0) pa_nil)) pe_int))
      (pss_one (ps_ret (pe_lst (pa_cons (pe_op op_mod (pv 0) pe_int) (pa_cons (pv 1) (pa_cons pe_int pa_nil))))))), ?_⟩
    have fin : ∀ p x d c, H p = none → Q (.ref p) (upd H p (.lst [.int x, .int d, .int c])) := fun p x d c np => q p _ np (same_new np) ⟨x, d, c, upd_same⟩
    walk_at "rd"
    refine rd_2 (fun e => ?_) (fun e => ?_)
    · walk_at "rd"
      refine ⟨_, rfl, ?_⟩
      walk_at "rd"
      exact ⟨le_line (Nat.le_of_ble_eq_true rfl), fun p np => fin p _ _ _ np⟩
    · walk_at "rd"
      refine rd_2 (fun e => ?_) (fun e => ?_)
      · walk_at "rd"
        refine ⟨_, rfl, ?_⟩
        walk_at "rd"
        exact ⟨le_line (Nat.le_of_ble_eq_true rfl), fun p np => fin p _ _ _ np⟩
      · walk_at "rd"
        exact ⟨le_line (Nat.le_of_ble_eq_true rfl), fun p np => fin p _ _ _ np⟩
def spDraw : Sp := fun vs H Q _ => ∃ (a : Addr) (m : Int), vs = [.ref a, .int m] ∧ Pool H a ∧ 0 < m ∧ m < 18446744073709551616 ∧ ∀ r H', 0 ≤ r → r < m → But [a] H H' → Pool H' a → Q (.int r) H'
theorem ok_draw (T : Txt K mg A) : FnOk P w K mg base CX0 1 A.f_draw A.d_draw ["_law_pool_here", "_law_many"] spDraw := by
  refine T.F_draw.ok sc_draw (fun vs H Q E h => ?_) (fun cdv A0 outer s H vs Q E hr h => ?_)
  · obtain ⟨a, m, rfl, _⟩ := h
    rfl
  · obtain ⟨a, m, rfl, ⟨x, d, c, hP⟩, m0, m1, q⟩ := h
    have ma : a ∈ [a] := List.mem_singleton.mpr rfl
    refine ⟨_, (pss_cons (ps_asg (pe_op op_add (pe_ix ix_list (pv 0) pe_int (fun _ _ => rfl)) pe_int) (pg_sub (pv 0) pe_int set_list))
      (pss_cons (ps_set (i := 2) sc_draw.nd rfl (.inl rfl) (pe_ix ix_list (pv 0) pe_int (fun _ _ => rfl)))
      (pss_cons (ps_asg (pe_op op_mod (pe_op op_add (pe_op op_add (pe_op op_mul (pv 2) (pe_op op_add (pe_op op_mod (pv 2) pe_int) pe_int)) (pe_op op_mul pe_int (pe_ix ix_list (pv 0) pe_int (fun _ _ => rfl)))) pe_int) pe_int) (pg_sub (pv 0) pe_int set_list))
      (pss_cons (ps_if (pt_cmpR op_gt (pe_ix ix_list (pv 0) pe_int (fun _ _ => rfl)) pe_int (nomark _))
        (pss_cons (ps_asg (pe_callB call_divmodW (by rfl) T.m_divmod (by decide +kernel) (pa_cons (pe_ix ix_list (pv 0) pe_int (fun _ _ => rfl)) (pa_cons (pv 1) pa_nil))) (pg_tup rfl (pgs_cons (pg_sub (pv 0) pe_int set_list) (pgs_cons (pg_name (i := 3) sc_draw.nd rfl (.inl rfl)) pgs_nil))))
        (pss_one (ps_ret (pv 3))))
        pss_nil)
      (pss_one (ps_ret (pe_op op_mod (pe_op op_fdiv (pe_ix ix_list (pv 0) pe_int (fun _ _ => rfl)) pe_int) (pv 1)))))))), ?_⟩
    walk_at "rd"
    refine rd_2 (fun e => ?_) (fun e => ?_)
    · walk_at "rd"
      refine ⟨_, _, rfl, divp_small m0 m1, fun p np => ⟨p, _, rfl, .inl (.inl upd_same), rfl, _, _, rfl, ?_⟩⟩
      have na : a ≠ p := fun z => by
        rw [← z, upd_same] at np
        cases np
      have hP2 := (upd_ne (o := .tup [.int (d / m), .int (d % m)]) na).trans (upd_same (H := upd H a (.lst ([.int x, .int d, .int c].set 2 (.int (c + 1))))) (a := a) (o := .lst (([.int x, .int d, .int c].set 2 (.int (c + 1))).set 0 (.int ((x * (x % 43013 + 28009) + 70009 * (c + 1) + 19) % 2147482943)))))
      walk_at "rd"
      refine ⟨_, _, rfl, ?_⟩
      walk_at "rd"
      refine ⟨rfl, ?_⟩
      walk_at "rd"
      refine q _ _ (Int.emod_nonneg _ (by omega)) (Int.emod_lt_of_pos _ m0) (((((But.refl.set ma).set ma).new np).set ma)) ⟨_, _, _, upd_same⟩
    · walk_at "rd"
      refine q _ _ (Int.emod_nonneg _ (by omega)) (Int.emod_lt_of_pos _ m0) ((But.refl.set ma).set ma) ⟨_, _, _, upd_same⟩
end
/-! ### values -/
inductive Kd (B : List Addr) (H : Hp) : V → String → Prop
  | non : Kd B H .non "NoneType"
  | bl (b : Bool) : Kd B H (.bl b) "bool"
  | int (i : Int) : Kd B H (.int i) "int"
  | str (x : Str) : Kd B H (.str x) "str"
  | lst {p : Addr} {xs : List V} (e : H p = some (.lst xs)) (n : p ∉ B) : Kd B H (.ref p) "list"
  | tup {p : Addr} {xs : List V} (e : H p = some (.tup xs)) (n : p ∉ B) : Kd B H (.ref p) "tuple"
  | dct {p : Addr} {kvs : List (Key × V)} (e : H p = some (.dK kvs)) (n : p ∉ B) : Kd B H (.ref p) "dict"
theorem Kd.but {B : List Addr} {H H' : Hp} {v : V} {T : String} (e : But B H H') (k : Kd B H v T) : Kd B H' v T := by
  cases k with
  | non => exact .non
  | bl b => exact .bl b
  | int i => exact .int i
  | str x => exact .str x
  | lst h n => exact .lst (e _ _ n h) n
  | tup h n => exact .tup (e _ _ n h) n
  | dct h n => exact .dct (e _ _ n h) n
theorem Kd.wide {B B' : List Addr} {H : Hp} {v : V} {T : String} (s : ∀ b, b ∉ B → b ∉ B') (k : Kd B H v T) : Kd B' H v T := by
  cases k with
  | non => exact .non
  | bl b => exact .bl b
  | int i => exact .int i
  | str x => exact .str x
  | lst h n => exact .lst h (s _ n)
  | tup h n => exact .tup h (s _ n)
  | dct h n => exact .dct h (s _ n)
theorem Kd.tyx {B : List Addr} {K : PySem.W.Frag} {H : Hp} {v : V} {T : String} (k : Kd B H v T) : TyX K H v (.type T) := by
  cases k with
  | non => exact .base .non
  | bl b => exact .base (.bl b)
  | int i => exact .base (.int i)
  | str x => exact .base (.str x)
  | lst h n => exact .base (.lst h)
  | tup h n => exact .base (.tup h)
  | dct h n => exact .base (.dK h)
def isi (T n : String) : Bool := T == n || (T == "bool" && n == "int")
theorem isi_ok {B : List Addr} {H : Hp} {v : V} {T : String} (k : Kd B H v T) : kitB T "int" = some (isi T "int") ∧ kitB T "bool" = some (isi T "bool") ∧ kitB T "tuple" = some (isi T "tuple") := by
  cases k <;> exact ⟨by decide +kernel, by decide +kernel, by decide +kernel⟩
theorem rd_isi {B : List Addr} {K : PySem.W.Frag} {H : Hp} {v : V} {T n : String} {b : Bool} {Q : VK} (k : Kd B H v T) (e : kitB T n = some b) (q : Q (.bl b) H) : rIsi K [v, .ty n] H Q :=
  ⟨v, .ty n, .type T, .type n, b, rfl, .ty n, k.tyx, kit_ty e, q⟩
def isInt : V → Bool
  | .int _ => true
  | _ => false
def betw (lo hi : Int) : V → Bool
  | .int i => decide (lo ≤ i) && decide (i ≤ hi)
  | _ => false
theorem betw_not {lo hi : Int} {v : V} (h : isInt v = false) : betw lo hi v = false := by
  cases v with
  | int i => cases h
  | _ => rfl
section
variable {P : Program} {w : World} {K : PySem.W.Frag} {mg : Str → Option Value} {base : Heap} {A : Ad}
def spIsInt : Sp := fun vs H Q _ => ∃ (B : List Addr) (v : V) (Ty : String), vs = [v] ∧ Kd B H v Ty ∧ Q (.bl (isInt v)) H
theorem ok_is_int (T : Txt K mg A) : FnOk P w K mg base CX0 1 A.f_is_int A.d_is_int ["value"] spIsInt := by
  refine T.F_is_int.ok sc_is_int (fun vs H Q E h => ?_) (fun cdv A0 outer s H vs Q E hr h => ?_)
  · obtain ⟨B, v, Ty, rfl, _⟩ := h
    rfl
  · obtain ⟨B, v, Ty, rfl, hk, q⟩ := h
    obtain ⟨e1, e2, _⟩ := isi_ok hk
    refine ⟨_, (pss_one (ps_ret (pe_and (pe_callB call_isi (by rfl) T.m_isinstance (by decide +kernel) (pa_cons (pv 0) (pa_cons (pe_bltn (v := .ty "int") (by rfl) T.m_int (by decide +kernel) rfl) pa_nil))) (pe_one (pe_not (pe_callB call_isi (by rfl) T.m_isinstance (by decide +kernel) (pa_cons (pv 0) (pa_cons (pe_bltn (v := .ty "bool") (by rfl) T.m_bool (by decide +kernel) rfl) pa_nil)))))))), ?_⟩
    walk_at "rd"
    refine rd_isi hk e1 ?_
    cases hk <;> (walk_at "rd"; (first | exact q | (refine rd_isi (Kd.bl (B := B) _) e2 ?_; walk_at "rd"; exact q) | (refine rd_isi (Kd.int (B := B) _) e2 ?_; walk_at "rd"; exact q)))
def spBetween : Sp := fun vs H Q _ => ∃ (B : List Addr) (v : V) (Ty : String) (lo hi : Int), vs = [v, .int lo, .int hi] ∧ Kd B H v Ty ∧ Q (.bl (betw lo hi v)) H
theorem ok_is_between (T : Txt K mg A) : FnOk P w K mg base CX0 2 A.f_is_between A.d_is_between ["value", "least", "most"] spBetween := by
  have G_is_int : FnOk P w K mg base CX0 1 A.f_is_int A.d_is_int ["value"] spIsInt := ok_is_int T
  refine T.F_is_between.ok sc_is_between (fun vs H Q E h => ?_) (fun cdv A0 outer s H vs Q E hr h => ?_)
  · obtain ⟨B, v, Ty, lo, hi, rfl, _⟩ := h
    rfl
  · obtain ⟨B, v, Ty, lo, hi, rfl, hk, q⟩ := h
    refine ⟨_, (pss_one (ps_ret (pe_and (pe_call G_is_int (hr.mono (by decide)) (by rfl) T.g_is_int T.F_is_int.kp T.B_is_int .nil pass0 (pa_cons (pv 0) pa_nil)) (pe_one (pe_chain op_le op_le (pv 1) (pv 0) (pv 2)))))), ?_⟩
    walk_at "rd"
    refine ⟨B, v, Ty, rfl, hk, ?_⟩
    cases hk with
    | int i =>
      walk_at "rd"
      refine rd_2 (fun e => ?_) (fun e => ?_)
      · walk_at "rd"
        have e' : betw lo hi (.int i) = decide (i ≤ hi) := by
          show (decide (lo ≤ i) && decide (i ≤ hi)) = _
          rw [e, Bool.true_and]
        rw [e'] at q
        exact q
      · have e' : betw lo hi (.int i) = false := by
          show (decide (lo ≤ i) && decide (i ≤ hi)) = _
          rw [e, Bool.false_and]
        rw [e'] at q
        exact q
    | _ => (walk_at "rd"; exact q)
def spNumb : Sp := fun vs H Q _ => ∃ (B : List Addr) (v : V) (Ty : String), vs = [v] ∧ Kd B H v Ty ∧ Q (.bl (betw (-1000000000000) 1000000000000 v)) H
theorem ok_is_number (T : Txt K mg A) : FnOk P w K mg base CX0 3 A.f_is_number A.d_is_number ["value"] spNumb := by
  have G_is_between : FnOk P w K mg base CX0 2 A.f_is_between A.d_is_between ["value", "least", "most"] spBetween := ok_is_between T
  refine T.F_is_number.ok sc_is_number (fun vs H Q E h => ?_) (fun cdv A0 outer s H vs Q E hr h => ?_)
  · obtain ⟨B, v, Ty, rfl, _⟩ := h
    rfl
  · obtain ⟨B, v, Ty, rfl, hk, q⟩ := h
    refine ⟨_, (pss_one (ps_ret (pe_call G_is_between (hr.mono (by decide)) (by rfl) T.g_is_between T.F_is_between.kp T.B_is_between .nil pass0 (pa_cons (pv 0) (pa_cons (pe_un un_neg (pe_glob (v := .int (1000000000000)) (by rfl) T.g_MOST_SIZE ⟨_, rfl⟩)) (pa_cons (pe_glob (v := .int (1000000000000)) (by rfl) T.g_MOST_SIZE ⟨_, rfl⟩) pa_nil)))))), ?_⟩
    walk_at "rd"
    exact ⟨B, v, Ty, _, _, rfl, hk, q⟩
theorem ok_within (T : Txt K mg A) : FnOk P w K mg base CX0 1 A.f_within A.d_within ["_law_thing_here", "_law_low", "_law_high"] spBetween := by
  refine T.F_within.ok sc_within (fun vs H Q E h => ?_) (fun cdv A0 outer s H vs Q E hr h => ?_)
  · obtain ⟨B, v, Ty, lo, hi, rfl, _⟩ := h
    rfl
  · obtain ⟨B, v, Ty, lo, hi, rfl, hk, q⟩ := h
    obtain ⟨e1, e2, _⟩ := isi_ok hk
    refine ⟨_, (pss_one (ps_ret (pe_and (pe_callB call_isi (by rfl) T.m_isinstance (by decide +kernel) (pa_cons (pv 0) (pa_cons (pe_bltn (v := .ty "int") (by rfl) T.m_int (by decide +kernel) rfl) pa_nil))) (pe_and (pe_not (pe_callB call_isi (by rfl) T.m_isinstance (by decide +kernel) (pa_cons (pv 0) (pa_cons (pe_bltn (v := .ty "bool") (by rfl) T.m_bool (by decide +kernel) rfl) pa_nil)))) (pe_one (pe_chain op_le op_le (pv 1) (pv 0) (pv 2))))))), ?_⟩
    walk_at "rd"
    refine rd_isi hk e1 ?_
    cases hk with
    | int i =>
      walk_at "rd"
      refine rd_isi (Kd.int (B := B) i) e2 ?_
      walk_at "rd"
      refine rd_2 (fun e => ?_) (fun e => ?_)
      · walk_at "rd"
        have e' : betw lo hi (.int i) = decide (i ≤ hi) := by
          show (decide (lo ≤ i) && decide (i ≤ hi)) = _
          rw [e, Bool.true_and]
        rw [e'] at q
        exact q
      · have e' : betw lo hi (.int i) = false := by
          show (decide (lo ≤ i) && decide (i ≤ hi)) = _
          rw [e, Bool.false_and]
        rw [e'] at q
        exact q
    | bl b =>
      walk_at "rd"
      refine rd_isi (Kd.bl (B := B) b) e2 ?_
      walk_at "rd"
      exact q
    | _ => (walk_at "rd"; exact q)
end
/-! ### rectangles -/
def rectL : List V → Bool
  | [x, y, a, b] => betw (-1000000000000) 1000000000000 x && betw (-1000000000000) 1000000000000 y && (betw 0 1000000000000 a && betw 0 1000000000000 b)
  | _ => false
def rectOf (H : Hp) : V → Bool
  | .ref p => match H p with
    | some (.tup xs) => rectL xs
    | _ => false
  | _ => false
/-- a value, and one level of what is in it, if it is a tuple -/
def Thing (B : List Addr) (H : Hp) (v : V) : Prop := (∃ T, Kd B H v T) ∧ ∀ p xs, v = .ref p → H p = some (.tup xs) → ∀ x ∈ xs, ∃ T, Kd B H x T
theorem rectL_len {xs : List V} (h : xs.length ≠ 4) : rectL xs = false := by
  match xs, h with
  | [], _ => rfl
  | [_], _ => rfl
  | [_, _], _ => rfl
  | [_, _, _], _ => rfl
  | [_, _, _, _], h => exact absurd rfl h
  | _ :: _ :: _ :: _ :: _ :: _, _ => rfl
theorem rectOf_no {H : Hp} {p : Addr} {o : HO} (e : H p = some o) (n : ∀ xs, o ≠ .tup xs) : rectOf H (.ref p) = false := by
  show (match H p with | some (.tup xs) => rectL xs | _ => false) = _
  rw [e]
  cases o with
  | tup xs => exact absurd rfl (n xs)
  | _ => rfl
theorem rectOf_tup {H : Hp} {p : Addr} {xs : List V} (e : H p = some (.tup xs)) : rectOf H (.ref p) = rectL xs := by
  show (match H p with | some (.tup xs) => rectL xs | _ => false) = _
  rw [e]
theorem betw_int {lo hi : Int} {v : V} (h : betw lo hi v = true) : ∃ i, v = .int i ∧ lo ≤ i ∧ i ≤ hi := by
  cases v with
  | int i =>
    have h' : (decide (lo ≤ i) && decide (i ≤ hi)) = true := h
    rw [Bool.and_eq_true, decide_eq_true_eq, decide_eq_true_eq] at h'
    exact ⟨i, rfl, h'.1, h'.2⟩
  | _ => cases h
theorem betw_bound {lo lo' hi : Int} {v : V} (h : betw lo hi v = false) (l : lo ≤ lo') : betw lo' hi v = false := by
  cases v with
  | int i =>
    have h' : (decide (lo ≤ i) && decide (i ≤ hi)) = false := h
    show (decide (lo' ≤ i) && decide (i ≤ hi)) = false
    by_cases a : lo ≤ i
    · rw [decide_eq_true a, Bool.true_and] at h'
      rw [h', Bool.and_false]
    · rw [decide_eq_false (show ¬ lo' ≤ i by omega), Bool.false_and]
  | _ => rfl
theorem rectL_not {xs : List V} (h : (xs.map (betw (-1000000000000) 1000000000000)).all id = false) : rectL xs = false := by
  match xs, h with
  | [], _ => rfl
  | [_], _ => rfl
  | [_, _], _ => rfl
  | [_, _, _], _ => rfl
  | [x, y, a, b], h =>
    cases hx : betw (-1000000000000) 1000000000000 x with
    | false => simp only [rectL, hx, Bool.false_and]
    | true =>
      cases hy : betw (-1000000000000) 1000000000000 y with
      | false => simp only [rectL, hy, Bool.false_and, Bool.and_false]
      | true =>
        cases ha : betw (-1000000000000) 1000000000000 a with
        | false => simp only [rectL, betw_bound (lo' := 0) ha (by decide), Bool.false_and, Bool.and_false]
        | true =>
          cases hb : betw (-1000000000000) 1000000000000 b with
          | false => simp only [rectL, betw_bound (lo' := 0) hb (by decide), Bool.and_false]
          | true => simp [hx, hy, ha, hb] at h
  | _ :: _ :: _ :: _ :: _ :: _, _ => rfl
theorem all_nums {xs : List V} (hl : xs.length = 4) (h : (xs.map (betw (-1000000000000) 1000000000000)).all id = true) : ∃ i j k l : Int, xs = [.int i, .int j, .int k, .int l] ∧ rectL xs = (decide (0 ≤ k) && decide (0 ≤ l)) := by
  match xs, hl with
  | [x, y, a, b], _ =>
    simp only [List.map_cons, List.map_nil, List.all_cons, List.all_nil, Bool.and_eq_true, id] at h
    obtain ⟨hx, hy, ha, hb, _⟩ := h
    obtain ⟨i, rfl, _, _⟩ := betw_int hx
    obtain ⟨j, rfl, _, _⟩ := betw_int hy
    obtain ⟨k, rfl, _, k2⟩ := betw_int ha
    obtain ⟨l, rfl, _, l2⟩ := betw_int hb
    refine ⟨i, j, k, l, rfl, ?_⟩
    show (betw _ _ (.int i) && betw _ _ (.int j) && ((decide (0 ≤ k) && decide (k ≤ 1000000000000)) && (decide (0 ≤ l) && decide (l ≤ 1000000000000)))) = _
    rw [hx, hy, decide_eq_true k2, decide_eq_true l2]
    simp
section
variable {P : Program} {w : World} {K : PySem.W.Frag} {mg : Str → Option Value} {base : Heap} {A : Ad}
def spRect : Sp := fun vs H Q _ => ∃ (B : List Addr) (v : V), vs = [v] ∧ Thing B H v ∧ ∀ H', Same H H' → Q (.bl (rectOf H v)) H'
theorem ok_is_rect (T : Txt K mg A) : FnOk P w K mg base CX0 4 A.f_is_rect A.d_is_rect ["value"] spRect := by
  have G_is_number : FnOk P w K mg base CX0 3 A.f_is_number A.d_is_number ["value"] spNumb := ok_is_number T
  refine T.F_is_rect.ok sc_is_rect (fun vs H Q E h => ?_) (fun cdv A0 outer s H vs Q E hr h => ?_)
  · obtain ⟨B, v, rfl, _⟩ := h
    rfl
  · obtain ⟨B, v, rfl, ⟨⟨Ty, hk⟩, hI⟩, q⟩ := h
    obtain ⟨_, _, e3⟩ := isi_ok hk
    have q0 := q H (Same.refl H)
    refine ⟨_, (pss_cons (ps_if (pw_or (pt_not (pt_val (pe_callB call_isi (by rfl) T.m_isinstance (by decide +kernel) (pa_cons (pv 0) (pa_cons (pe_bltn (v := .ty "tuple") (by rfl) T.m_tuple (by decide +kernel) rfl) pa_nil))))) (pw_or1 (pt_cmpR op_ne (pe_callB call_len_seq (by rfl) T.m_len PySem.boot_len (pa_cons (pv 0) pa_nil)) pe_int (nomark _)))).pt
        (pss_one (ps_ret pe_bl))
        pss_nil)
      (pss_cons (ps_if (pt_not (pt_val (pe_callB (cr_all rfl) (by rfl) T.m_all (by decide +kernel) (pa_cons (pe_lc (own := [("number", 1)]) rfl sc_is_rect.nd (pi_tup (pv 0)) (blkOk_by (N := N_is_rect) (sc := defScope s_is_rect) (by decide +kernel)) (fun _ _ _ _ _ => (pg_name (i := 1) sc_is_rect.nd rfl (.inl rfl))) (fun _ _ _ _ _ => pts_nil) (fun _ _ _ _ _ => (pe_call G_is_number (hr.mono (by decide)) (by rfl) T.g_is_number T.F_is_number.kp T.B_is_number .nil pass0 (pa_cons (pv 1) pa_nil)))) pa_nil))))
        (pss_one (ps_ret pe_bl))
        pss_nil)
      (pss_one (ps_ret (pe_and (pe_cmpR op_ge (pe_ix ix_tup (pv 0) pe_int (fun _ _ => rfl)) pe_int (nomark _)) (pe_one (pe_cmpR op_ge (pe_ix ix_tup (pv 0) pe_int (fun _ _ => rfl)) pe_int (nomark _)))))))), ?_⟩
    walk_at "rd"
    refine rd_isi hk e3 ?_
    cases hk with
    | @tup p xs e n =>
      have hT : SqT K H p xs := .inl (.inl e)
      rw [rectOf_tup e] at q q0
      walk_at "rd"
      refine ⟨p, xs, rfl, .inr hT, ?_⟩
      walk_at "rd"
      refine rd_2 (fun e4 => ?_) (fun e4 => ?_)
      · walk_at "rd"
        rw [rectL_len (fun z => by rw [z] at e4; cases e4)] at q0
        exact q0
      · have hl : xs.length = 4 := by
          by_cases z : xs.length = 4
          · exact z
          · rw [decide_eq_false (fun y => z (by have := V.int.inj y; omega))] at e4
            cases e4
        walk_at "rd"
        refine ⟨.ref p, rfl, p, rfl, ⟨xs, hT⟩, fun L nL => ?_⟩
        refine lc_tup (xs := xs) (fun i H' => Same H H' ∧ H' L = some (.lst (((xs.take i).map (betw (-1000000000000) 1000000000000)).map V.bl))) ⟨same_new nL, upd_same⟩ (fun i H' _ h => same_sqT h.1 hT) (fun i x H' hx h => ?_) (fun H' h => ?_)
        · obtain ⟨sm, eL⟩ := h
          obtain ⟨Tx, kx⟩ := hI p xs rfl e x (List.mem_of_getElem? hx)
          refine ⟨rfl, ?_⟩
          walk_at "rd"
          refine ⟨B, x, Tx, rfl, kx.but (.of sm), _, eL, ?_, fun b o hb => ?_, ?_⟩
          · rw [List.length_map, List.length_map, List.length_take]
            exact small1000 (by omega)
          · exact (upd_ne (ne_of_none hb nL)).trans (sm b o hb)
          · rw [upd_same, List.take_add_one, hx]
            simp only [Option.toList, List.map_append, List.map_cons, List.map_nil]
        · obtain ⟨sm, eL⟩ := h
          rw [List.take_length] at eL
          refine ⟨L, _, rfl, .inl (.inl eL), ?_⟩
          walk_at "rd"
          cases ea : (xs.map (betw (-1000000000000) 1000000000000)).all id with
          | false =>
            walk_at "rd"
            rw [rectL_not ea] at q
            exact q _ sm
          | true =>
            obtain ⟨i, j, k, l, rfl, er⟩ := all_nums hl ea
            have hT' := same_sqT sm hT
            walk_at "rd"
            refine rd_2 (fun ek => ?_) (fun ek => ?_)
            · walk_at "rd"
              rw [er, ek, Bool.true_and] at q
              exact q _ sm
            · rw [er, ek, Bool.false_and] at q
              exact q _ sm
    | lst e n =>
      rw [rectOf_no e (fun _ z => by cases z)] at q0
      walk_at "rd"
      exact q0
    | dct e n =>
      rw [rectOf_no e (fun _ z => by cases z)] at q0
      walk_at "rd"
      exact q0
    | _ => (walk_at "rd"; exact q0)
theorem ok_due (T : Txt K mg A) : FnOk P w K mg base CX0 2 A.f_due A.d_due ["_law_thing_here"] spRect := by
  have G_within : FnOk P w K mg base CX0 1 A.f_within A.d_within ["_law_thing_here", "_law_low", "_law_high"] spBetween := ok_within T
  refine T.F_due.ok sc_due (fun vs H Q E h => ?_) (fun cdv A0 outer s H vs Q E hr h => ?_)
  · obtain ⟨B, v, rfl, _⟩ := h
    rfl
  · obtain ⟨B, v, rfl, ⟨⟨Ty, hk⟩, hI⟩, q⟩ := h
    obtain ⟨_, _, e3⟩ := isi_ok hk
    have q0 := q H (Same.refl H)
    refine ⟨_, (pss_cons (ps_if (pw_or (pt_not (pt_val (pe_callB call_isi (by rfl) T.m_isinstance (by decide +kernel) (pa_cons (pv 0) (pa_cons (pe_bltn (v := .ty "tuple") (by rfl) T.m_tuple (by decide +kernel) rfl) pa_nil))))) (pw_or1 (pt_cmpR op_ne (pe_callB call_len_seq (by rfl) T.m_len PySem.boot_len (pa_cons (pv 0) pa_nil)) pe_int (nomark _)))).pt
        (pss_one (ps_ret pe_bl))
        pss_nil)
      (pss_cons (ps_if (pw_or (pt_not (pt_val (pe_call G_within (hr.mono (by decide)) (by rfl) T.g_within T.F_within.kp T.B_within .nil pass0 (pa_cons (pe_ix ix_tup (pv 0) pe_int (fun _ _ => rfl)) (pa_cons (pe_op op_sub pe_int (pe_op op_pow pe_int pe_int)) (pa_cons (pe_op op_pow pe_int pe_int) pa_nil)))))) (pw_or1 (pt_not (pt_val (pe_call G_within (hr.mono (by decide)) (by rfl) T.g_within T.F_within.kp T.B_within .nil pass0 (pa_cons (pe_ix ix_tup (pv 0) pe_int (fun _ _ => rfl)) (pa_cons (pe_op op_sub pe_int (pe_op op_pow pe_int pe_int)) (pa_cons (pe_op op_pow pe_int pe_int) pa_nil)))))))).pt
        (pss_one (ps_ret pe_bl))
        pss_nil)
      (pss_one (ps_ret (pe_and (pe_call G_within (hr.mono (by decide)) (by rfl) T.g_within T.F_within.kp T.B_within .nil pass0 (pa_cons (pe_ix ix_tup (pv 0) pe_int (fun _ _ => rfl)) (pa_cons pe_int (pa_cons (pe_op op_pow pe_int pe_int) pa_nil)))) (pe_one (pe_call G_within (hr.mono (by decide)) (by rfl) T.g_within T.F_within.kp T.B_within .nil pass0 (pa_cons (pe_ix ix_tup (pv 0) pe_int (fun _ _ => rfl)) (pa_cons pe_int (pa_cons (pe_op op_pow pe_int pe_int) pa_nil)))))))))), ?_⟩
    walk_at "rd"
    refine rd_isi hk e3 ?_
    cases hk with
    | @tup p xs e n =>
      have hT : SqT K H p xs := .inl (.inl e)
      rw [rectOf_tup e] at q0
      walk_at "rd"
      refine ⟨p, xs, rfl, .inr hT, ?_⟩
      walk_at "rd"
      refine rd_2 (fun e4 => ?_) (fun e4 => ?_)
      · walk_at "rd"
        rw [rectL_len (fun z => by rw [z] at e4; cases e4)] at q0
        exact q0
      · have hl : xs.length = 4 := by
          by_cases z : xs.length = 4
          · exact z
          · rw [decide_eq_false (fun y => z (by have := V.int.inj y; omega))] at e4
            cases e4
        match xs, hl, hI p xs rfl e, hT, q0 with
        | [x, y, a, b], _, hI, hT, q0 =>
          obtain ⟨T1, k1⟩ := hI x (by simp)
          obtain ⟨T2, k2⟩ := hI y (by simp)
          obtain ⟨T3, k3⟩ := hI a (by simp)
          obtain ⟨T4, k4⟩ := hI b (by simp)
          have er : rectL [x, y, a, b] = (betw (-1000000000000) 1000000000000 x && betw (-1000000000000) 1000000000000 y && (betw 0 1000000000000 a && betw 0 1000000000000 b)) := rfl
          rw [er] at q0
          walk_at "rd"
          refine ⟨B, x, T1, -1000000000000, 1000000000000, rfl, k1, ?_⟩
          cases hx : betw (-1000000000000) 1000000000000 x with
          | false =>
            rw [hx] at q0
            walk_at "rd"
            exact q0
          | true =>
            rw [hx] at q0
            walk_at "rd"
            refine ⟨B, y, T2, -1000000000000, 1000000000000, rfl, k2, ?_⟩
            cases hy : betw (-1000000000000) 1000000000000 y with
            | false =>
              rw [hy] at q0
              walk_at "rd"
              exact q0
            | true =>
              rw [hy] at q0
              walk_at "rd"
              refine ⟨B, a, T3, 0, 1000000000000, rfl, k3, ?_⟩
              cases ha : betw 0 1000000000000 a with
              | false =>
                rw [ha] at q0
                walk_at "rd"
                exact q0
              | true =>
                rw [ha] at q0
                walk_at "rd"
                exact ⟨B, b, T4, 0, 1000000000000, rfl, k4, q0⟩
    | lst e n =>
      rw [rectOf_no e (fun _ z => by cases z)] at q0
      walk_at "rd"
      exact q0
    | dct e n =>
      rw [rectOf_no e (fun _ z => by cases z)] at q0
      walk_at "rd"
      exact q0
    | _ => (walk_at "rd"; exact q0)
end
section
variable {P : Program} {w : World} {K : PySem.W.Frag} {mg : Str → Option Value} {base : Heap} {A : Ad}
def spNumber : Sp := fun vs H Q _ => ∃ (a : Addr), vs = [.ref a] ∧ Pool H a ∧ ∀ (n : Int) H', But [a] H H' → Pool H' a → Q (.int n) H'
theorem ok_number (T : Txt K mg A) : FnOk P w K mg base CX0 2 A.f_number A.d_number ["_law_pool_here"] spNumber := by
  have G_draw : FnOk P w K mg base CX0 1 A.f_draw A.d_draw ["_law_pool_here", "_law_many"] spDraw := ok_draw T
  refine T.F_number.ok sc_number (fun vs H Q E h => ?_) (fun cdv A0 outer s H vs Q E hr h => ?_)
  · obtain ⟨a, rfl, _⟩ := h
    rfl
  · obtain ⟨a, rfl, hP, q⟩ := h
    refine ⟨_, (pss_cons (ps_set (i := 1) sc_number.nd rfl (.inl rfl) (pe_lst (pa_cons pe_int (pa_cons pe_int (pa_cons (pe_un un_neg pe_int) (pa_cons (pe_op op_pow pe_int pe_int) (pa_cons (pe_op op_add (pe_op op_pow pe_int pe_int) pe_int) (pa_cons (pe_op op_sub pe_int (pe_op op_pow pe_int pe_int)) (pa_cons (pe_op op_sub (pe_un un_neg pe_int) (pe_op op_pow pe_int pe_int)) (pa_cons (pe_op op_sub (pe_op op_pow pe_int pe_int) pe_int) (pa_cons pe_int (pa_cons (pe_op op_pow pe_int pe_int) pa_nil))))))))))))
      (pss_one (ps_ret (pe_ix ix_list (pv 1) (pe_call G_draw (hr.mono (by decide)) (by rfl) T.g_draw T.F_draw.kp T.B_draw .nil pass0 (pa_cons (pv 0) (pa_cons pe_int pa_nil))) (fun _ _ => rfl))))), ?_⟩
    walk_at "rd"
    refine ⟨le_line (Nat.le_of_ble_eq_true rfl), fun p np => ?_⟩
    walk_at "rd"
    refine ⟨a, 10, rfl, hP.new np, by decide, by decide, fun r H1 r0 r1 e1 hP1 => ?_⟩
    have npa : p ∉ [a] := fun z => hP.ne np (List.mem_singleton.mp z)
    have hL := e1 _ _ npa upd_same
    obtain ⟨n, e, hn⟩ : ∃ n : Int, atI _ r = some (V.int n) ∧ True := by
      obtain ⟨v, e, hv⟩ := atI_lt (xs := [V.int 0, .int 1, .int (-1), .int (10 ^ Int.toNat 12), .int (10 ^ Int.toNat 12 + 1), .int (0 - 10 ^ Int.toNat 12), .int (-1 - 10 ^ Int.toNat 12), .int (10 ^ Int.toNat 12 - 1), .int 7, .int (10 ^ Int.toNat 30)]) r0 r1
      have : ∃ n, v = .int n := by
        simp only [List.mem_cons, List.not_mem_nil, or_false] at hv
        rcases hv with rfl | rfl | rfl | rfl | rfl | rfl | rfl | rfl | rfl | rfl <;> exact ⟨_, rfl⟩
      obtain ⟨n, rfl⟩ := this
      exact ⟨n, e, True.intro⟩
    refine ⟨p, _, r, .int n, rfl, rfl, .inl (.inl hL), e, ?_⟩
    exact q _ _ (((But.refl.new np).trans e1)) hP1
end
theorem Thing.but {B : List Addr} {H H' : Hp} {v : V} (e : But B H H') (t : Thing B H v) : Thing B H' v := by
  obtain ⟨⟨T, k⟩, hI⟩ := t
  refine ⟨⟨T, k.but e⟩, fun p xs hv h x hx => ?_⟩
  subst hv
  cases k with
  | lst e0 n => rw [e _ _ n e0] at h; cases h
  | dct e0 n => rw [e _ _ n e0] at h; cases h
  | tup e0 n =>
    rw [e _ _ n e0] at h
    cases h
    obtain ⟨T2, k2⟩ := hI p _ rfl e0 x hx
    exact ⟨T2, k2.but e⟩
theorem Thing.new {B : List Addr} {H : Hp} {p : Addr} {o : HO} {v : V} (t : Thing B H v) (n : H p = none) : Thing B (upd H p o) v := t.but (.of (same_new n))
theorem Thing.wide {B B' : List Addr} {H : Hp} {v : V} (s : ∀ b, b ∉ B → b ∉ B') (t : Thing B H v) : Thing B' H v := by
  obtain ⟨⟨T, k⟩, hI⟩ := t
  exact ⟨⟨T, k.wide s⟩, fun p xs hv h x hx => let ⟨T2, k2⟩ := hI p xs hv h x hx; ⟨T2, k2.wide s⟩⟩
theorem Thing.kd {B : List Addr} {H : Hp} {v : V} (t : Thing B H v) : ∃ T, Kd B H v T := t.1
theorem thing_at {B : List Addr} {H : Hp} {v : V} {T : String} (k : Kd B H v T) (n : ∀ p, v ≠ .ref p) : Thing B H v := ⟨⟨T, k⟩, fun p _ e => absurd e (n p)⟩
theorem thing_lst {B : List Addr} {H : Hp} {p : Addr} {xs : List V} (e : H p = some (.lst xs)) (n : p ∉ B) : Thing B H (.ref p) := ⟨⟨_, .lst e n⟩, fun q ys eq h => by cases eq; rw [e] at h; cases h⟩
theorem thing_dct {B : List Addr} {H : Hp} {p : Addr} {xs : List (Key × V)} (e : H p = some (.dK xs)) (n : p ∉ B) : Thing B H (.ref p) := ⟨⟨_, .dct e n⟩, fun q ys eq h => by cases eq; rw [e] at h; cases h⟩
theorem thing_tup {B : List Addr} {H : Hp} {p : Addr} {xs : List V} (e : H p = some (.tup xs)) (n : p ∉ B) (h : ∀ x ∈ xs, ∃ T, Kd B H x T) : Thing B H (.ref p) := ⟨⟨_, .tup e n⟩, fun q ys eq h' => by
  cases eq
  rw [e] at h'
  cases h'
  exact h⟩
/-- the objects at B stand -/
def Tr (B : List Addr) (H : Hp) : Prop := ∀ b, b ∈ B → H b ≠ none
theorem Tr.out {B : List Addr} {H : Hp} {p : Addr} (t : Tr B H) (n : H p = none) : p ∉ B := fun m => t p m n
theorem Tr.upd {B : List Addr} {H : Hp} {p : Addr} {o : HO} (t : Tr B H) : Tr B (upd H p o) := fun b m z => by
  by_cases e : b = p
  · rw [e, upd_same] at z
    cases z
  · rw [upd_ne e] at z
    exact t b m z
theorem thing_tupN {B : List Addr} {H : Hp} {p : Addr} (xs : List V) (t : Tr B H) (np : H p = none) (h : ∀ x ∈ xs, ∃ T, Kd B (L2.upd H p (.tup xs)) x T) : Thing B (L2.upd H p (.tup xs)) (.ref p) := thing_tup upd_same (t.out np) h
theorem thing_lstN {B : List Addr} {H : Hp} {p : Addr} (xs : List V) (t : Tr B H) (np : H p = none) : Thing B (L2.upd H p (.lst xs)) (.ref p) := thing_lst upd_same (t.out np)
theorem thing_dctN {B : List Addr} {H : Hp} {p : Addr} (xs : List (Key × V)) (t : Tr B H) (np : H p = none) : Thing B (L2.upd H p (.dK xs)) (.ref p) := thing_dct upd_same (t.out np)
theorem tr_two {H : Hp} {a D : Addr} {xs : List V} (hP : Pool H a) (hD : H D = some (.lst xs)) : Tr [a, D] H := fun b m z => by
  rcases List.mem_cons.mp m with rfl | m
  · obtain ⟨x, d, c, e⟩ := hP
    rw [e] at z
    cases z
  · rw [List.mem_singleton.mp m, hD] at z
    cases z
theorem mem_cut {xs : List V} {lo hi : Option Int} {x : V} (h : x ∈ cutV xs lo hi) : x ∈ xs := List.mem_of_mem_drop (List.mem_of_mem_take h)
theorem one_two {a D b : Addr} (h : b ∉ [a, D]) : b ∉ [a] := fun m => h (List.mem_cons.mpr (.inl (List.mem_singleton.mp m)))
section
variable {P : Program} {w : World} {K : PySem.W.Frag} {mg : Str → Option Value} {base : Heap} {A : Ad}
def spThing : Sp := fun vs H Q _ => ∃ (a : Addr), vs = [.ref a] ∧ Pool H a ∧ ∀ (v : V) H', But [a] H H' → Pool H' a → Thing [a] H' v → Q v H'
/-- between the turns of the second loop -/
structure Mid (a D O : Addr) (odd : List V) (H H' : Hp) : Prop where
  but : But [a] H H'
  pool : Pool H' a
  found : ∃ xs, xs.length = 4 ∧ H' D = some (.lst xs) ∧ ∀ x ∈ xs, ∃ T, Kd [a, D] H' x T
  odds : H' O = some (.lst odd)
  each : ∀ x ∈ odd, Thing [a, D] H' x
  da : D ≠ a
  oa : O ∉ [a, D]
theorem Mid.draw {a D O : Addr} {odd : List V} {H H' H1 : Hp} (m : Mid a D O odd H H') (e : But [a] H' H1) (hP : Pool H1 a) : Mid a D O odd H H1 := by
  obtain ⟨xs, hl, hD, hx⟩ := m.found
  have e2 : But [a, D] H' H1 := e.wide fun b => one_two
  exact ⟨m.but.trans e, hP, ⟨xs, hl, e _ _ (fun z => m.da (List.mem_singleton.mp z)) hD, fun x h => let ⟨T, k⟩ := hx x h; ⟨T, k.but e2⟩⟩, e _ _ (one_two m.oa) m.odds, fun x h => (m.each x h).but e2, m.da, m.oa⟩
theorem ok_thing (T : Txt K mg A) : FnOk P w K mg base CX0 3 A.f_thing A.d_thing ["_law_pool_here"] spThing := by
  have G_draw : FnOk P w K mg base CX0 1 A.f_draw A.d_draw ["_law_pool_here", "_law_many"] spDraw := ok_draw T
  have G_number : FnOk P w K mg base CX0 2 A.f_number A.d_number ["_law_pool_here"] spNumber := ok_number T
  refine T.F_thing.ok sc_thing (fun vs H Q E h => ?_) (fun cdv A0 outer s H vs Q E hr h => ?_)
  · obtain ⟨a, rfl, _⟩ := h
    rfl
  · obtain ⟨a, rfl, hP, q⟩ := h
    refine ⟨_, (pss_cons (ps_setLc (own := [("_law_k", 5)]) (i := 1) rfl sc_thing.nd rfl rfl (sw_true rfl rfl rfl (by decide +kernel)) (pi_range1 (by rfl) T.m_range (pa_cons pe_int pa_nil)) (blkOk_by (N := N_thing) (sc := defScope s_thing) (by decide +kernel)) (fun _ _ _ _ _ => (pg_name (i := 5) sc_thing.nd rfl (.inl rfl))) (fun _ _ _ _ _ => pts_nil) (fun _ _ _ _ _ => (pe_ifExp (pt_cmpR op_eq (pe_call G_draw (hr.mono (by decide)) (by rfl) T.g_draw T.F_draw.kp T.B_draw .nil pass0 (pa_cons (pv 0) (pa_cons pe_int pa_nil))) pe_int (nomark _)) (pe_call G_number (hr.mono (by decide)) (by rfl) T.g_number T.F_number.kp T.B_number .nil pass0 (pa_cons (pv 0) pa_nil)) (pe_call G_draw (hr.mono (by decide)) (by rfl) T.g_draw T.F_draw.kp T.B_draw .nil pass0 (pa_cons (pv 0) (pa_cons (pe_op op_pow pe_int pe_int) pa_nil))))))
      (pss_cons (ps_set (i := 2) sc_thing.nd rfl (.inl rfl) (pe_lst (pa_cons pe_non (pa_cons pe_bl (pa_cons pe_bl (pa_cons pe_str (pa_cons pe_str (pa_cons (pe_tup pa_nil) (pa_cons (pe_tup (pa_cons pe_int pa_nil)) (pa_cons (pe_lst pa_nil) (pa_cons (pe_lst (pa_cons pe_int pa_nil)) (pa_cons pe_dnewK (pa_cons (pe_disp (pps_cons pe_int pe_int pps_nil) rfl rfl (by simp) (by decide)) (pa_cons (pe_tup (pa_cons pe_int (pa_cons pe_int (pa_cons pe_int (pa_cons pe_int pa_nil))))) pa_nil))))))))))))))
      (pss_cons (ps_for PassesOwn.never rfl (pi_range1 (by rfl) T.m_range (pa_cons (pe_callB (call_max2 rfl) (by rfl) T.m_max (by decide +kernel) (pa_cons pe_int (pa_cons (pe_op op_sub (pe_call G_draw (hr.mono (by decide)) (by rfl) T.g_draw T.F_draw.kp T.B_draw .nil pass0 (pa_cons (pv 0) (pa_cons pe_int pa_nil))) pe_int) pa_nil))) pa_nil)) (pg_name (i := 3) sc_thing.nd rfl (.inl rfl))
        (pss_one (ps_asg (pe_ix ix_list (pv 2) (pe_call G_draw (hr.mono (by decide)) (by rfl) T.g_draw T.F_draw.kp T.B_draw .nil pass0 (pa_cons (pv 0) (pa_cons pe_int pa_nil))) (fun _ _ => rfl)) (pg_sub (pv 1) (pe_call G_draw (hr.mono (by decide)) (by rfl) T.g_draw T.F_draw.kp T.B_draw .nil pass0 (pa_cons (pv 0) (pa_cons pe_int pa_nil))) set_list))))
      (pss_cons (ps_set (i := 4) sc_thing.nd rfl (.inl rfl) (pe_call G_draw (hr.mono (by decide)) (by rfl) T.g_draw T.F_draw.kp T.B_draw .nil pass0 (pa_cons (pv 0) (pa_cons pe_int pa_nil))))
      (pss_cons (ps_if (pt_cmpR op_eq (pv 4) pe_int (nomark _))
        (pss_one (ps_ret (pv 1)))
        pss_nil)
      (pss_cons (ps_if (pt_cmpR op_lt (pv 4) pe_int (nomark _))
        (pss_one (ps_ret (pe_callTy call_tuple_of (by rfl) T.m_tuple (by decide +kernel) (pa_cons (pe_ifExp (pt_cmpR op_eq (pv 4) pe_int (nomark _)) (pe_slice sl_list (pv 1) (po_some pe_int) po_none) (pe_op op_cat (pv 1) (pe_lst (pa_cons pe_int pa_nil)))) pa_nil))))
        pss_nil)
      (pss_cons (ps_if (pt_cmpR op_lt (pv 4) pe_int (nomark _))
        (pss_one (ps_ret (pe_ifExp (pt_cmpR op_eq (pv 4) pe_int (nomark _)) (pe_ix ix_list (pv 2) (pe_call G_draw (hr.mono (by decide)) (by rfl) T.g_draw T.F_draw.kp T.B_draw .nil pass0 (pa_cons (pv 0) (pa_cons pe_int pa_nil))) (fun _ _ => rfl)) (pe_tup (pa_cons (pe_callTy call_tuple_of (by rfl) T.m_tuple (by decide +kernel) (pa_cons (pv 1) pa_nil)) pa_nil)))))
        pss_nil)
      (pss_one (ps_ret (pe_callTy call_tuple_of (by rfl) T.m_tuple (by decide +kernel) (pa_cons (pv 1) pa_nil))))))))))), ?_⟩
    walk_at "rd"
    -- found
    refine ⟨4, rfl, by decide, by decide, fun D nD => ?_⟩
    have da : D ≠ a := hP.ne nD
    have da' : D ∉ [a] := fun z => da (List.mem_singleton.mp z)
    refine lc_range (fun i H' => But [a] H H' ∧ Pool H' a ∧ ∃ ns : List Int, ns.length = i ∧ H' D = some (.lst (ns.map V.int))) ⟨But.refl.new nD, hP.new nD, [], rfl, upd_same⟩ (fun i H' hi h => ?_) (fun H' h => ?_)
    · obtain ⟨b1, p1, ns, hl, hD⟩ := h
      have fin : ∀ (n : Int) H4, But [a] H' H4 → Pool H4 a → ∃ acc, H4 D = some (.lst acc) ∧ acc.length < sizeLine ∧ (But [a] H (upd H4 D (.lst (acc ++ [.int n]))) ∧ Pool (upd H4 D (.lst (acc ++ [.int n]))) a ∧ ∃ ns : List Int, ns.length = i + 1 ∧ (upd H4 D (.lst (acc ++ [.int n]))) D = some (.lst (ns.map V.int))) := fun n H4 b2 p2 =>
        ⟨_, b2 _ _ da' hD, by rw [List.length_map, hl]; exact small1000 (by have : (4 : Int).toNat = 4 := rfl; omega), (b1.trans b2).mut nD, p2.upd (Ne.symm da), ns ++ [n], by rw [List.length_append, hl]; rfl, by rw [upd_same, List.map_append]; rfl⟩
      refine ⟨rfl, ?_⟩
      walk_at "rd"
      refine ⟨a, 4, rfl, p1, by decide, by decide, fun r H1 r0 r1 e1 p2 => ?_⟩
      walk_at "rd"
      refine rd_2 (fun e => ?_) (fun e => ?_)
      · walk_at "rd"
        exact ⟨a, rfl, p2, fun n H2 e2 p3 => fin n H2 (e1.trans e2) p3⟩
      · walk_at "rd"
        exact ⟨a, _, rfl, p2, by decide, by decide, fun n H2 _ _ e2 p3 => fin n H2 (e1.trans e2) p3⟩
    · obtain ⟨b1, p1, ns, hl, hD⟩ := h
      -- odd
      walk_at "rd"
      have t0 := tr_two p1 hD
      refine ⟨le_line (Nat.le_of_ble_eq_true rfl), fun q1 n1 => ?_⟩
      walk_at "rd"
      refine ⟨le_line (Nat.le_of_ble_eq_true rfl), fun q2 n2 => ?_⟩
      walk_at "rd"
      refine ⟨le_line (Nat.le_of_ble_eq_true rfl), fun q3 n3 => ?_⟩
      walk_at "rd"
      refine ⟨le_line (Nat.le_of_ble_eq_true rfl), fun q4 n4 => ?_⟩
      walk_at "rd"
      refine fun q5 n5 => ?_
      walk_at "rd"
      refine fun q6 n6 => ⟨upd_same, [(.inl 1, .int 2)], rfl, by decide, ?_⟩
      rw [upd_upd]
      walk_at "rd"
      refine ⟨le_line (Nat.le_of_ble_eq_true rfl), fun q7 n7 => ?_⟩
      walk_at "rd"
      refine ⟨le_line (Nat.le_of_ble_eq_true rfl), fun O nO => ?_⟩
      -- what stands there
      have t1 := t0.upd (p := q1) (o := .tup [])
      have t2 := t1.upd (p := q2) (o := .tup [.int 4])
      have t3 := t2.upd (p := q3) (o := .lst [])
      have t4 := t3.upd (p := q4) (o := .lst [.int 5])
      have t5 := t4.upd (p := q5) (o := .dK [])
      have t6 := t5.upd (p := q6) (o := .dK (mergeK [] [(.inl 1, .int 2)]))
      have t7 := t6.upd (p := q7) (o := .tup [.int 0, .int 0, .int 1, .int 1])
      have x1 := thing_tupN [] t0 n1 (fun x h => by cases h)
      have x2 := thing_tupN [.int 4] t1 n2 (fun x h => by
        cases List.mem_singleton.mp h
        exact ⟨_, .int 4⟩)
      have x3 := thing_lstN [] t2 n3
      have x4 := thing_lstN [.int 5] t3 n4
      have x5 := thing_dctN [] t4 n5
      have x6 := thing_dctN (mergeK [] [(.inl 1, .int 2)]) t5 n6
      have x7 := thing_tupN [.int 0, .int 0, .int 1, .int 1] t6 n7 (fun x h => by
        simp only [List.mem_cons, List.not_mem_nil, or_false] at h
        rcases h with rfl | rfl | rfl | rfl <;> exact ⟨_, .int _⟩)
      have oa := t7.out nO
      have sm7 : Same H' _ := (((((((same_new n1).trans (same_new n2)).trans (same_new n3)).trans (same_new n4)).trans (same_new n5)).trans (same_new n6)).trans (same_new n7)).trans (same_new (o := .lst [.non, .bl true, .bl false, .str "3", .str "", .ref q1, .ref q2, .ref q3, .ref q4, .ref q5, .ref q6, .ref q7]) nO)
      refine rd_nm ?_
      have M0 : Mid a D O [.non, .bl true, .bl false, .str "3", .str "", .ref q1, .ref q2, .ref q3, .ref q4, .ref q5, .ref q6, .ref q7] H _ :=
        ⟨b1.trans (.of sm7), p1.same sm7, ⟨_, by rw [List.length_map, hl]; rfl, sm7 _ _ hD, fun x hx => by
          obtain ⟨n, _, rfl⟩ := List.mem_map.mp hx
          exact ⟨_, .int n⟩⟩, upd_same, fun x hx => by
          simp only [List.mem_cons, List.not_mem_nil, or_false] at hx
          rcases hx with rfl | rfl | rfl | rfl | rfl | rfl | rfl | rfl | rfl | rfl | rfl | rfl
          · exact thing_at .non (fun _ z => by cases z)
          · exact thing_at (.bl true) (fun _ z => by cases z)
          · exact thing_at (.bl false) (fun _ z => by cases z)
          · exact thing_at (.str _) (fun _ z => by cases z)
          · exact thing_at (.str _) (fun _ z => by cases z)
          · exact (((((((x1.new n2).new n3).new n4).new n5).new n6).new n7).new nO)
          · exact ((((((x2.new n3).new n4).new n5).new n6).new n7).new nO)
          · exact (((((x3.new n4).new n5).new n6).new n7).new nO)
          · exact ((((x4.new n5).new n6).new n7).new nO)
          · exact (((x5.new n6).new n7).new nO)
          · exact ((x6.new n7).new nO)
          · exact (x7.new nO), da, oa⟩
      revert M0
      generalize upd _ O _ = H8
      intro M0
      have lodd : [V.non, .bl true, .bl false, .str "3", .str "", .ref q1, .ref q2, .ref q3, .ref q4, .ref q5, .ref q6, .ref q7].length = 12 := rfl
      revert M0 lodd
      generalize [V.non, .bl true, .bl false, .str "3", .str "", .ref q1, .ref q2, .ref q3, .ref q4, .ref q5, .ref q6, .ref q7] = odd
      intro M0 lodd
      clear x1 x2 x3 x4 x5 x6 x7 sm7
      walk_at "rd"
      refine ⟨.ref a, rfl, a, 4, rfl, M0.pool, by decide, by decide, fun r H1 r0 r1 e1 hP1 => ⟨_, _, rfl, rfl, _, _, rfl, _, rfl, ?_, ?_, ?_⟩⟩
      · show -(2 ^ 62) ≤ (if r - 1 > 0 then r - 1 else 0)
        split <;> omega
      · show (if r - 1 > 0 then r - 1 else 0) < 2 ^ 62
        split <;> omega
      have M1 := M0.draw e1 hP1
      refine for_range (fun i σ H' => ∃ y3, σ = [some (.ref a), some (.ref D), some (.ref O), y3, none, none] ∧ Mid a D O odd H H') ⟨none, rfl, M1⟩ (fun i σ H2 hi h => ?_) (fun σ H2 h => ?_)
      · obtain ⟨y3, rfl, m⟩ := h
        walk_at "rd"
        refine ⟨a, 12, rfl, m.pool, by decide, by decide, fun r1 H3 r10 r11 e2 hP2 => ?_⟩
        have m2 := m.draw e2 hP2
        obtain ⟨v, ev, hv⟩ := atI_lt (xs := odd) r10 (by rw [lodd]; exact r11)
        refine ⟨O, odd, r1, v, rfl, rfl, .inl (.inl m2.odds), ev, ?_⟩
        walk_at "rd"
        refine ⟨a, 4, rfl, m2.pool, by decide, by decide, fun r2 H4 r20 r21 e3 hP3 => ?_⟩
        have m3 := m2.draw e3 hP3
        obtain ⟨xs, hx4, hD4, hxs⟩ := m3.found
        refine ⟨D, xs, r2, r2.toNat, rfl, rfl, hD4, ixN_lt r20 (by omega), ?_⟩
        have eb : But [a, D] H4 (upd H4 D (.lst (xs.set r2.toNat v))) := But.refl.set (List.mem_cons.mpr (.inr (List.mem_singleton.mpr rfl)))
        refine ⟨_, rfl, ⟨m3.but.mut nD, m3.pool.upd (Ne.symm da), ⟨_, by rw [List.length_set]; exact hx4, upd_same, fun x hx => ?_⟩, ?_, fun x hx => (m3.each x hx).but eb, da, m3.oa⟩⟩
        · rcases List.mem_or_eq_of_mem_set hx with hx | rfl
          · obtain ⟨T1, k1⟩ := hxs x hx
            exact ⟨T1, k1.but eb⟩
          · exact ((m3.each _ hv).but eb).kd
        · exact (upd_ne (fun z => m3.oa (by rw [z]; exact List.mem_cons.mpr (.inr (List.mem_singleton.mpr rfl))))).trans m3.odds
      · obtain ⟨y3, rfl, m⟩ := h
        walk_at "rd"
        refine ⟨a, 16, rfl, m.pool, by decide, by decide, fun way H3 r10 r11 e2 hP2 => ?_⟩
        have m2 := m.draw e2 hP2
        obtain ⟨xs, hx4, hD4, hxs⟩ := m2.found
        have hL4 : SqL K H3 D xs := .inl (.inl hD4)
        have w1 : ∀ {H : Hp} {x : V} {B : List Addr}, (∃ T, Kd [a, D] H x T) → ∃ T, Kd [a] H x T := fun ⟨T, k⟩ => ⟨T, k.wide fun b => one_two⟩
        -- a new tuple of xs's kind
        have ft : ∀ (ys : List V) H4 t, Same H3 H4 → H4 t = none → (∀ x ∈ ys, ∃ T, Kd [a, D] H3 x T) → Q (.ref t) (upd H4 t (.tup ys)) := fun ys H4 t sm nt hy =>
          q _ _ ((m2.but.trans (.of sm)).new nt) ((m2.pool.same sm).new nt) (thing_tup upd_same (fun z => (m2.pool.same sm).ne nt (List.mem_singleton.mp z)) fun x hx => by
            obtain ⟨T1, k1⟩ := w1 (B := []) (hy x hx)
            exact ⟨T1, (k1.but (.of sm)).but (.of (same_new nt))⟩)
        walk_at "rd"
        refine rd_2 (fun e => ?_) (fun e => ?_)
        · walk_at "rd"
          exact q _ _ m2.but m2.pool (thing_lst hD4 da')
        walk_at "rd"
        refine rd_2 (fun e => ?_) (fun e => ?_)
        · walk_at "rd"
          refine rd_2 (fun e => ?_) (fun e => ?_)
          · refine ⟨.ref D, rfl, 1, rfl, D, xs, rfl, hL4, fun p np => ?_⟩
            walk_at "rd"
            exact ⟨p, _, rfl, .inl ⟨.inl (.inl upd_same), fun t nt => ft _ _ _ (same_new np) nt fun x hx => hxs x (mem_cut hx)⟩⟩
          · walk_at "rd"
            refine ⟨le_line (Nat.le_of_ble_eq_true rfl), fun p np => ?_⟩
            have dp : D ≠ p := ne_of_none hD4 np
            refine ⟨D, p, xs, _, rfl, rfl, (upd_ne dp).trans hD4, upd_same, le_line (by show xs.length + 1 ≤ 1000; omega), fun p2 np2 => ?_⟩
            walk_at "rd"
            refine ⟨p2, _, rfl, .inl ⟨.inl (.inl upd_same), fun t nt => ft _ _ _ ((same_new np).trans (same_new np2)) nt fun x hx => ?_⟩⟩
            rcases List.mem_append.mp hx with hx | hx
            · exact hxs x hx
            · rw [List.mem_singleton.mp hx]
              exact ⟨_, .int 0⟩
        walk_at "rd"
        refine rd_2 (fun e => ?_) (fun e => ?_)
        · walk_at "rd"
          refine rd_2 (fun e => ?_) (fun e => ?_)
          · walk_at "rd"
            refine ⟨a, 12, rfl, m2.pool, by decide, by decide, fun r1 H4 r10 r11 e3 hP3 => ?_⟩
            have m3 := m2.draw e3 hP3
            obtain ⟨v, ev, hv⟩ := atI_lt (xs := odd) r10 (by rw [lodd]; exact r11)
            exact ⟨O, odd, r1, v, rfl, rfl, .inl (.inl m3.odds), ev, q _ _ m3.but m3.pool ((m3.each v hv).wide fun b => one_two)⟩
          · walk_at "rd"
            refine ⟨D, xs, rfl, .inl ⟨hL4, fun t nt => ?_⟩⟩
            walk_at "rd"
            refine ⟨le_line (Nat.le_of_ble_eq_true rfl), fun t2 nt2 => ?_⟩
            have sm := (same_new (o := .tup xs) nt)
            refine q _ _ ((m2.but.trans (.of sm)).new nt2) ((m2.pool.same sm).new nt2) (thing_tup upd_same (fun z => (m2.pool.same sm).ne nt2 (List.mem_singleton.mp z)) fun x hx => ?_)
            cases List.mem_singleton.mp hx
            exact ⟨_, (Kd.tup upd_same (fun z => m2.pool.ne nt (List.mem_singleton.mp z))).but (.of (same_new nt2))⟩
        · walk_at "rd"
          exact ⟨D, xs, rfl, .inl ⟨hL4, fun t nt => ft _ _ _ (Same.refl _) nt hxs⟩⟩
end
section
variable {P : Program} {w : World} {K : PySem.W.Frag} {mg : Str → Option Value} {base : Heap} {A : Ad}
theorem dp_txt {K : PySem.W.Frag} {H : Hp} {p : Addr} (xs : List Str) (h : SqL K H p (xs.map V.str)) : Dp K H (.ref p) (.list (xs.map PyData.str)) := by
  refine .lst h ?_
  clear h
  induction xs with
  | nil => exact .nil
  | cons x r ih => exact .cons (.str x) ih
theorem rectOf_but {B : List Addr} {H H' : Hp} {v : V} (e : But B H H') (t : Thing B H v) : rectOf H' v = rectOf H v := by
  obtain ⟨⟨T, k⟩, _⟩ := t
  cases k with
  | lst h n => rw [rectOf_no h (fun _ z => by cases z), rectOf_no (e _ _ n h) (fun _ z => by cases z)]
  | dct h n => rw [rectOf_no h (fun _ z => by cases z), rectOf_no (e _ _ n h) (fun _ z => by cases z)]
  | tup h n => rw [rectOf_tup h, rectOf_tup (e _ _ n h)]
  | _ => rfl
def spRight : Sp := fun vs H Q _ => ∃ (a : Addr), vs = [.ref a] ∧ Pool H a ∧ ∀ H', But [a] H H' → Q (.bl true) H'
theorem ok_right (T : Txt K mg A) : FnOk P w K mg base CX0 5 A.f_right A.d_right ["_law_pool_here"] spRight := by
  have G_thing : FnOk P w K mg base CX0 3 A.f_thing A.d_thing ["_law_pool_here"] spThing := ok_thing T
  have G_is_rect : FnOk P w K mg base CX0 4 A.f_is_rect A.d_is_rect ["value"] spRect := ok_is_rect T
  have G_due : FnOk P w K mg base CX0 2 A.f_due A.d_due ["_law_thing_here"] spRect := ok_due T
  refine T.F_right.ok sc_right (fun vs H Q E h => ?_) (fun cdv A0 outer s H vs Q E hr h => ?_)
  · obtain ⟨a, rfl, _⟩ := h
    rfl
  · obtain ⟨a, rfl, hP, q⟩ := h
    have hu64 := room64 hr
    refine ⟨_, (pss_cons (ps_for PassesOwn.never rfl (pi_range1 (by rfl) T.m_range (pa_cons pe_int pa_nil)) (pg_name (i := 1) sc_right.nd rfl (.inl rfl))
        (pss_cons (ps_set (i := 2) sc_right.nd rfl (.inl rfl) (pe_call G_thing (hr.mono (by decide)) (by rfl) T.g_thing T.F_thing.kp T.B_thing .nil pass0 (pa_cons (pv 0) pa_nil)))
        (pss_one (ps_if (pt_cmpR (op_neD hu64) (pe_lst (pa_cons (pe_callB call_repr_bl (by rfl) T.m_repr (by decide +kernel) (pa_cons (pe_call G_is_rect (hr.mono (by decide)) (by rfl) T.g_is_rect T.F_is_rect.kp T.B_is_rect .nil pass0 (pa_cons (pv 2) pa_nil)) pa_nil)) (pa_cons (pe_callB call_repr_bl (by rfl) T.m_repr (by decide +kernel) (pa_cons (pe_callK0 G_is_rect (hr.mono (by decide)) (by rfl) T.g_is_rect T.F_is_rect.kp T.K_is_rect_value pass0 (pk_cons (pv 2) pk_nil)) pa_nil)) pa_nil))) (pe_op op_rep (pe_lst (pa_cons (pe_callB call_repr_bl (by rfl) T.m_repr (by decide +kernel) (pa_cons (pe_call G_due (hr.mono (by decide)) (by rfl) T.g_due T.F_due.kp T.B_due .nil pass0 (pa_cons (pv 2) pa_nil)) pa_nil)) pa_nil)) pe_int) (nomark _))
          (pss_one (ps_ret pe_bl))
          pss_nil))))
      (pss_cons (ps_if (pw_or (pt_cmpR op_isnot_bl (pe_call G_is_rect (hr.mono (by decide)) (by rfl) T.g_is_rect T.F_is_rect.kp T.B_is_rect .nil pass0 (pa_cons (pe_tup (pa_cons pe_int (pa_cons pe_int (pa_cons pe_int (pa_cons pe_int pa_nil))))) pa_nil)) pe_bl (nomark _)) (pw_or1 (pt_cmpR op_isnot_bl (pe_call G_is_rect (hr.mono (by decide)) (by rfl) T.g_is_rect T.F_is_rect.kp T.B_is_rect .nil pass0 (pa_cons (pe_tup (pa_cons (pe_op op_sub pe_int (pe_op op_pow pe_int pe_int)) (pa_cons (pe_op op_pow pe_int pe_int) (pa_cons (pe_op op_pow pe_int pe_int) (pa_cons pe_int pa_nil))))) pa_nil)) pe_bl (nomark _)))).pt
        (pss_one (ps_ret pe_bl))
        pss_nil)
      (pss_one (ps_ret (pe_cmpR op_eq (pe_glob (v := .int (1000000000000)) (by rfl) T.g_MOST_SIZE ⟨_, rfl⟩) (pe_op op_pow pe_int pe_int) (nomark _)))))), ?_⟩
    walk_at "rd"
    refine ⟨16, rfl, by decide, by decide, ?_⟩
    refine for_range (fun i σ H' => ∃ y1 y2, σ = [some (.ref a), y1, y2] ∧ But [a] H H' ∧ Pool H' a) ⟨none, none, rfl, But.refl, hP⟩ (fun i σ H1 hi h => ?_) (fun σ H1 h => ?_)
    · obtain ⟨y1, y2, rfl, b1, p1⟩ := h
      walk_at "rd"
      refine ⟨a, rfl, p1, fun v H2 b2 p2 tv => ?_⟩
      obtain ⟨b, hb⟩ : ∃ b, rectOf H2 v = b := ⟨_, rfl⟩
      walk_at "rd"
      refine ⟨[a], v, rfl, tv, fun H3 s3 => ?_⟩
      rw [hb]
      walk_at "rd"
      refine ⟨b, rfl, ?_⟩
      walk_at "rd"
      have tv3 := tv.but (.of s3)
      have hb3 : rectOf H3 v = b := (rectOf_but (.of s3) tv).trans hb
      refine ⟨[a], v, rfl, tv3, fun H4 s4 => ?_⟩
      rw [hb3]
      walk_at "rd"
      refine ⟨b, rfl, ?_⟩
      walk_at "rd"
      refine ⟨le_line (Nat.le_of_ble_eq_true rfl), fun p np => ?_⟩
      walk_at "rd"
      have s5 := s3.trans (s4.trans (same_new (o := .lst [.str (if b = true then "True" else "False"), .str (if b = true then "True" else "False")]) np))
      have tv5 := tv.but (.of s5)
      have hb5 := (rectOf_but (.of s5) tv).trans hb
      refine ⟨[a], v, rfl, tv5, fun H5 s6 => ?_⟩
      rw [hb5]
      have hp5 := s6 _ _ (upd_same (H := H4) (a := p) (o := .lst [.str (if b = true then "True" else "False"), .str (if b = true then "True" else "False")]))
      walk_at "rd"
      refine ⟨b, rfl, ?_⟩
      walk_at "rd"
      refine ⟨le_line (Nat.le_of_ble_eq_true rfl), fun l2 np2 => ?_⟩
      walk_at "rd"
      refine ⟨l2, 2, _, rfl, rfl, upd_same, by decide, by decide, le_line (Nat.le_of_ble_eq_true rfl), fun l3 np3 => ?_⟩
      have hp6 : (upd (upd H5 l2 (.lst [.str (if b = true then "True" else "False")])) l3 (.lst (List.replicate (Int.toNat 2) [V.str (if b = true then "True" else "False")]).flatten)) p = some (.lst ([(if b = true then "True" else "False" : Str), (if b = true then "True" else "False" : Str)].map V.str)) := (same_new np3) _ _ ((same_new np2) _ _ hp5)
      have hp7 : (upd (upd H5 l2 (.lst [.str (if b = true then "True" else "False")])) l3 (.lst (List.replicate (Int.toNat 2) [V.str (if b = true then "True" else "False")]).flatten)) l3 = some (.lst ([(if b = true then "True" else "False" : Str), (if b = true then "True" else "False" : Str)].map V.str)) := upd_same
      have fin := b1.trans (b2.trans (.of (s5.trans (s6.trans ((same_new (o := .lst [.str (if b = true then "True" else "False")]) np2).trans (same_new (o := .lst (List.replicate (Int.toNat 2) [V.str (if b = true then "True" else "False")]).flatten) np3))))))
      refine ⟨_, _, dp_txt _ (.inl (.inl hp6)), dp_txt _ (.inl (.inl hp7)), ?_, ?_, ?_⟩
      · cases b <;> decide +kernel
      · cases b <;> decide +kernel
      · have ev : PyData.eqv (.list ([(if b = true then "True" else "False" : Str), (if b = true then "True" else "False" : Str)].map PyData.str)) (.list ([(if b = true then "True" else "False" : Str), (if b = true then "True" else "False" : Str)].map PyData.str)) = true := by
          cases b <;> decide +kernel
        rw [ev]
        walk_at "rd"
        exact ⟨_, _, rfl, fin, p2.same (s5.trans (s6.trans ((same_new np2).trans (same_new np3))))⟩
    · obtain ⟨y1, y2, rfl, b1, p1⟩ := h
      walk_at "rd"
      refine ⟨le_line (Nat.le_of_ble_eq_true rfl), fun p np => ?_⟩
      walk_at "rd"
      have tp : Thing [a] (upd H1 p (.tup [.int 0, .int 0, .int 0, .int 0])) (.ref p) := thing_tup upd_same (fun z => p1.ne np (List.mem_singleton.mp z)) (fun x hx => by
        simp only [List.mem_cons, List.not_mem_nil, or_false] at hx
        rcases hx with rfl | rfl | rfl | rfl <;> exact ⟨_, .int _⟩)
      refine ⟨[a], _, rfl, tp, fun H2 s2 => ?_⟩
      rw [rectOf_tup upd_same]
      walk_at "rd"
      have r0 : rectL [.int 0, .int 0, .int 0, .int 0] = true := by decide +kernel
      rw [r0]
      refine ⟨true, true, rfl, rfl, ?_⟩
      walk_at "rd"
      refine ⟨le_line (Nat.le_of_ble_eq_true rfl), fun p3 np3 => ?_⟩
      walk_at "rd"
      have p2 := (p1.new np (o := .tup [.int 0, .int 0, .int 0, .int 0])).same s2
      refine ⟨[a], _, rfl, thing_tup upd_same (fun z => p2.ne np3 (List.mem_singleton.mp z)) (fun x hx => ?_), fun H3 s3 => ?_⟩
      · simp only [List.mem_cons, List.not_mem_nil, or_false] at hx
        rcases hx with rfl | rfl | rfl | rfl <;> exact ⟨_, .int _⟩
      rw [rectOf_tup upd_same]
      have r1 : rectL [.int (0 - 10 ^ Int.toNat 12), .int (10 ^ Int.toNat 12), .int (10 ^ Int.toNat 12), .int 0] = true := by decide +kernel
      rw [r1]
      walk_at "rd"
      refine ⟨true, true, rfl, rfl, ?_⟩
      walk_at "rd"
      have r2 : decide (V.int 1000000000000 = V.int (10 ^ Int.toNat 12)) = true := by decide +kernel
      rw [r2]
      exact q _ ((b1.new np).trans (.of (s2.trans ((same_new np3).trans s3))))
def spLaw (K : PySem.W.Frag) : Sp := fun vs H Q _ => ∃ (a : Addr) (ns : List Int), vs = [.ref a] ∧ SqL K H a (ns.map V.int) ∧ ns.length ≤ 63 ∧ ∀ H', Q (.bl true) H'
theorem spLaw_of {K : PySem.W.Frag} {H : Hp} {a : Addr} {ns : List Int} {E : XK} (hl : ns.length ≤ 63) (hS : SqL K H a (ns.map V.int)) : spLaw K [.ref a] H (fun v _ => v = .bl true) E := ⟨a, ns, rfl, hS, hl, fun _ => rfl⟩
theorem ok_law (T : Txt K mg A) : FnOk P w K mg base CX0 6 A.f_law A.d_law ["_law_script"] (spLaw K) := by
  have G_right : FnOk P w K mg base CX0 5 A.f_right A.d_right ["_law_pool_here"] spRight := ok_right T
  have G_pool : FnOk P w K mg base CX0 1 A.f_pool A.d_pool ["_law_cell_here"] spPool := ok_pool T
  have G_cell : FnOk P w K mg base CX0 1 A.f_cell A.d_cell ["_law_script", "_law_k"] (spCell K) := ok_cell T
  refine T.F_law.ok sc_law (fun vs H Q E h => ?_) (fun cdv A0 outer s H vs Q E hr h => ?_)
  · obtain ⟨a, ns, rfl, _⟩ := h
    rfl
  · obtain ⟨a, ns, rfl, hS, hl, q⟩ := h
    refine ⟨_, (pss_one (ps_ret (pe_callB (cr_all rfl) (by rfl) T.m_all (by decide +kernel) (pa_cons (pe_lc (own := [("_law_k", 1)]) rfl sc_law.nd (pi_range1 (by rfl) T.m_range (pa_cons (pe_callB (call_max2 rfl) (by rfl) T.m_max (by decide +kernel) (pa_cons pe_int (pa_cons (pe_callB (call_min2 rfl) (by rfl) T.m_min (by decide +kernel) (pa_cons (pe_callB call_len_seq (by rfl) T.m_len PySem.boot_len (pa_cons (pv 0) pa_nil)) (pa_cons pe_int pa_nil))) pa_nil))) pa_nil)) (blkOk_by (N := N_law) (sc := defScope s_law) (by decide +kernel)) (fun _ _ _ _ _ => (pg_name (i := 1) sc_law.nd rfl (.inl rfl))) (fun _ _ _ _ _ => pts_nil) (fun _ _ _ _ _ => (pe_call G_right (hr.mono (by decide)) (by rfl) T.g_right T.F_right.kp T.B_right .nil pass0 (pa_cons (pe_call G_pool (hr.mono (by decide)) (by rfl) T.g_pool T.F_pool.kp T.B_pool .nil pass0 (pa_cons (pe_call G_cell (hr.mono (by decide)) (by rfl) T.g_cell T.F_cell.kp T.B_cell .nil pass0 (pa_cons (pv 0) (pa_cons (pv 1) pa_nil))) pa_nil)) pa_nil)))) pa_nil)))), ?_⟩
    walk_at "rd"
    have hb : ∀ x : Int, x ≤ 63 → -(2 ^ 62) ≤ (if x > 2 then x else 2) ∧ (if x > 2 then x else 2) < 2 ^ 62 ∧ (if x > 2 then x else 2).toNat ≤ 63 := fun x hx => by
      split <;> omega
    have hm : (if (6 : Int) < ((ns.map V.int).length : Int) then (6 : Int) else ((ns.map V.int).length : Int)) ≤ 63 := by split <;> omega
    refine ⟨.ref a, rfl, a, _, rfl, .inl hS, _, _, rfl, _, _, rfl, _, rfl, (hb _ hm).1, (hb _ hm).2.1, fun D nD => ?_⟩
    have hn := (hb _ hm).2.2
    refine lc_range (fun i H' => Same H H' ∧ H' D = some (.lst (List.replicate i (.bl true)))) ⟨same_new nD, upd_same⟩ (fun i H1 hi h => ?_) (fun H1 h => ?_)
    · obtain ⟨s1, hD⟩ := h
      refine ⟨rfl, ?_⟩
      walk_at "rd"
      refine ⟨a, ns, _, rfl, s1.seq hS, by omega, by omega, fun z H2 s2 => ?_⟩
      walk_at "rd"
      refine ⟨z, rfl, fun p H3 np s3 p3 => ?_⟩
      walk_at "rd"
      refine ⟨p, rfl, p3, fun H4 b4 => ?_⟩
      have s12 := s1.trans s2
      have dp : D ∉ [p] := fun m => ne_of_none (s2 _ _ hD) np (List.mem_singleton.mp m)
      have s4 : Same H H4 := same_of_but ((But.of (s12.trans s3)).trans b4) (fun b m => by
        cases List.mem_singleton.mp m
        exact s12.free np)
      refine ⟨_, b4 _ _ dp (s3 _ _ (s2 _ _ hD)), ?_, same_mut s4 nD, ?_⟩
      · rw [List.length_replicate]
        exact small1000 (by omega)
      · rw [upd_same, ← List.replicate_succ']
    · obtain ⟨s1, hD⟩ := h
      obtain ⟨n, hn'⟩ : ∃ n, H1 D = some (.lst ((List.replicate n true).map V.bl)) := ⟨_, by rw [List.map_replicate]; exact hD⟩
      refine ⟨D, _, rfl, .inl (.inl hn'), ?_⟩
      have ha : (List.replicate n true).all id = true := by
        rw [List.all_replicate]
        cases n <;> rfl
      rw [ha]
      exact q _
end
theorem kb_is_rect {K : PySem.W.Frag} {f : Addr} {fd : FuncData} (F : Fun K "is_rect" "is_rect" s_is_rect f fd) : KBinds K fd ["value"] ["value"] kCat kCatV := by
  obtain ⟨oc, od, kV, doc, pm, an, cdv, ct, osl, rfl, _, _⟩ := F.ex
  refine ⟨fun s us ws _ hl => ?_, fun r1 r2 => r1.append r2⟩
  match us, ws, hl with
  | [], [_], _ => exact .of_eq rfl
  | [_], [], _ => exact .of_eq rfl
  | [], [], hl => cases hl
  | [_], _ :: _, hl => simp [kCat] at hl
  | [], _ :: _ :: _, hl => simp [kCat] at hl
  | _ :: _ :: _, _, hl => simp [kCat] at hl
theorem all_mk {l : PySem.W.OpenLaw} {w : World} {K : PySem.W.Frag} {h : Heap} {mg : Str → Option Value} {fa : Addr} (X : K.In h) (G : h.Ns mainGlobals mg) (hfa : mg "law" = some (.ref fa))
    {f0 : Addr} {od0 an0 : Option Addr} {sl0 : Array (Option Value)} {oc0 kV0 dc0 pm0 cd0 ct0 : Value}
    {f1 : Addr} {od1 an1 : Option Addr} {sl1 : Array (Option Value)} {oc1 kV1 dc1 pm1 cd1 ct1 : Value}
    {f2 : Addr} {od2 an2 : Option Addr} {sl2 : Array (Option Value)} {oc2 kV2 dc2 pm2 cd2 ct2 : Value}
    {f3 : Addr} {od3 an3 : Option Addr} {sl3 : Array (Option Value)} {oc3 kV3 dc3 pm3 cd3 ct3 : Value}
    {f4 : Addr} {od4 an4 : Option Addr} {sl4 : Array (Option Value)} {oc4 kV4 dc4 pm4 cd4 ct4 : Value}
    {f5 : Addr} {od5 an5 : Option Addr} {sl5 : Array (Option Value)} {oc5 kV5 dc5 pm5 cd5 ct5 : Value}
    {f6 : Addr} {od6 an6 : Option Addr} {sl6 : Array (Option Value)} {oc6 kV6 dc6 pm6 cd6 ct6 : Value}
    {f7 : Addr} {od7 an7 : Option Addr} {sl7 : Array (Option Value)} {oc7 kV7 dc7 pm7 cd7 ct7 : Value}
    {f8 : Addr} {od8 an8 : Option Addr} {sl8 : Array (Option Value)} {oc8 kV8 dc8 pm8 cd8 ct8 : Value}
    {f9 : Addr} {od9 an9 : Option Addr} {sl9 : Array (Option Value)} {oc9 kV9 dc9 pm9 cd9 ct9 : Value}
    {f10 : Addr} {od10 an10 : Option Addr} {sl10 : Array (Option Value)} {oc10 kV10 dc10 pm10 cd10 ct10 : Value}
    {f11 : Addr} {od11 an11 : Option Addr} {sl11 : Array (Option Value)} {oc11 kV11 dc11 pm11 cd11 ct11 : Value}
    {f12 : Addr} {od12 an12 : Option Addr} {sl12 : Array (Option Value)} {oc12 kV12 dc12 pm12 cd12 ct12 : Value}
    {tk0 : Tok}
    (a0 : PySem.W.nsIn K mainGlobals "is_int" = some (some (.ref f0)))
    (l0 : K.lookup f0 = some ⟨oc0, od0, .func (PySem.W.fnOf "is_int" "is_int" (defArgs s_is_int) (defBody s_is_int) (defScope s_is_int) .none kV0 dc0 pm0 an0 cd0 ct0), sl0⟩)
    (c0 : PySem.W.codeIn K cd0 "is_int" = true) (k0 : PySem.W.keepIn K (.ref f0) = true)
    (a1 : PySem.W.nsIn K mainGlobals "is_between" = some (some (.ref f1)))
    (l1 : K.lookup f1 = some ⟨oc1, od1, .func (PySem.W.fnOf "is_between" "is_between" (defArgs s_is_between) (defBody s_is_between) (defScope s_is_between) .none kV1 dc1 pm1 an1 cd1 ct1), sl1⟩)
    (c1 : PySem.W.codeIn K cd1 "is_between" = true) (k1 : PySem.W.keepIn K (.ref f1) = true)
    (a2 : PySem.W.nsIn K mainGlobals "is_number" = some (some (.ref f2)))
    (l2 : K.lookup f2 = some ⟨oc2, od2, .func (PySem.W.fnOf "is_number" "is_number" (defArgs s_is_number) (defBody s_is_number) (defScope s_is_number) .none kV2 dc2 pm2 an2 cd2 ct2), sl2⟩)
    (c2 : PySem.W.codeIn K cd2 "is_number" = true) (k2 : PySem.W.keepIn K (.ref f2) = true)
    (a3 : PySem.W.nsIn K mainGlobals "is_rect" = some (some (.ref f3)))
    (l3 : K.lookup f3 = some ⟨oc3, od3, .func (PySem.W.fnOf "is_rect" "is_rect" (defArgs s_is_rect) (defBody s_is_rect) (defScope s_is_rect) .none kV3 dc3 pm3 an3 cd3 ct3), sl3⟩)
    (c3 : PySem.W.codeIn K cd3 "is_rect" = true) (k3 : PySem.W.keepIn K (.ref f3) = true)
    (a4 : PySem.W.nsIn K mainGlobals "_law_cell" = some (some (.ref f4)))
    (l4 : K.lookup f4 = some ⟨oc4, od4, .func (PySem.W.fnOf "_law_cell" "_law_cell" (defArgs s_cell) (defBody s_cell) (defScope s_cell) .none kV4 dc4 pm4 an4 cd4 ct4), sl4⟩)
    (c4 : PySem.W.codeIn K cd4 "_law_cell" = true) (k4 : PySem.W.keepIn K (.ref f4) = true)
    (a5 : PySem.W.nsIn K mainGlobals "_law_pool" = some (some (.ref f5)))
    (l5 : K.lookup f5 = some ⟨oc5, od5, .func (PySem.W.fnOf "_law_pool" "_law_pool" (defArgs s_pool) (defBody s_pool) (defScope s_pool) .none kV5 dc5 pm5 an5 cd5 ct5), sl5⟩)
    (c5 : PySem.W.codeIn K cd5 "_law_pool" = true) (k5 : PySem.W.keepIn K (.ref f5) = true)
    (a6 : PySem.W.nsIn K mainGlobals "_law_draw" = some (some (.ref f6)))
    (l6 : K.lookup f6 = some ⟨oc6, od6, .func (PySem.W.fnOf "_law_draw" "_law_draw" (defArgs s_draw) (defBody s_draw) (defScope s_draw) .none kV6 dc6 pm6 an6 cd6 ct6), sl6⟩)
    (c6 : PySem.W.codeIn K cd6 "_law_draw" = true) (k6 : PySem.W.keepIn K (.ref f6) = true)
    (a7 : PySem.W.nsIn K mainGlobals "_law_within" = some (some (.ref f7)))
    (l7 : K.lookup f7 = some ⟨oc7, od7, .func (PySem.W.fnOf "_law_within" "_law_within" (defArgs s_within) (defBody s_within) (defScope s_within) .none kV7 dc7 pm7 an7 cd7 ct7), sl7⟩)
    (c7 : PySem.W.codeIn K cd7 "_law_within" = true) (k7 : PySem.W.keepIn K (.ref f7) = true)
    (a8 : PySem.W.nsIn K mainGlobals "_law_due" = some (some (.ref f8)))
    (l8 : K.lookup f8 = some ⟨oc8, od8, .func (PySem.W.fnOf "_law_due" "_law_due" (defArgs s_due) (defBody s_due) (defScope s_due) .none kV8 dc8 pm8 an8 cd8 ct8), sl8⟩)
    (c8 : PySem.W.codeIn K cd8 "_law_due" = true) (k8 : PySem.W.keepIn K (.ref f8) = true)
    (a9 : PySem.W.nsIn K mainGlobals "_law_number" = some (some (.ref f9)))
    (l9 : K.lookup f9 = some ⟨oc9, od9, .func (PySem.W.fnOf "_law_number" "_law_number" (defArgs s_number) (defBody s_number) (defScope s_number) .none kV9 dc9 pm9 an9 cd9 ct9), sl9⟩)
    (c9 : PySem.W.codeIn K cd9 "_law_number" = true) (k9 : PySem.W.keepIn K (.ref f9) = true)
    (a10 : PySem.W.nsIn K mainGlobals "_law_thing" = some (some (.ref f10)))
    (l10 : K.lookup f10 = some ⟨oc10, od10, .func (PySem.W.fnOf "_law_thing" "_law_thing" (defArgs s_thing) (defBody s_thing) (defScope s_thing) .none kV10 dc10 pm10 an10 cd10 ct10), sl10⟩)
    (c10 : PySem.W.codeIn K cd10 "_law_thing" = true) (k10 : PySem.W.keepIn K (.ref f10) = true)
    (a11 : PySem.W.nsIn K mainGlobals "_law_right" = some (some (.ref f11)))
    (l11 : K.lookup f11 = some ⟨oc11, od11, .func (PySem.W.fnOf "_law_right" "_law_right" (defArgs s_right) (defBody s_right) (defScope s_right) .none kV11 dc11 pm11 an11 cd11 ct11), sl11⟩)
    (c11 : PySem.W.codeIn K cd11 "_law_right" = true) (k11 : PySem.W.keepIn K (.ref f11) = true)
    (a12 : PySem.W.nsIn K mainGlobals "law" = some (some (.ref f12)))
    (l12 : K.lookup f12 = some ⟨oc12, od12, .func (PySem.W.fnOf "law" "law" (defArgs s_law) (defBody s_law) (defScope s_law) .none kV12 dc12 pm12 an12 cd12 ct12), sl12⟩)
    (c12 : PySem.W.codeIn K cd12 "law" = true) (k12 : PySem.W.keepIn K (.ref f12) = true)
    (z0 : PySem.W.nsIn K mainGlobals "abs" = some none)
    (z1 : PySem.W.nsIn K mainGlobals "all" = some none)
    (z2 : PySem.W.nsIn K mainGlobals "bool" = some none)
    (z3 : PySem.W.nsIn K mainGlobals "divmod" = some none)
    (z4 : PySem.W.nsIn K mainGlobals "int" = some none)
    (z5 : PySem.W.nsIn K mainGlobals "isinstance" = some none)
    (z6 : PySem.W.nsIn K mainGlobals "len" = some none)
    (z7 : PySem.W.nsIn K mainGlobals "max" = some none)
    (z8 : PySem.W.nsIn K mainGlobals "min" = some none)
    (z9 : PySem.W.nsIn K mainGlobals "range" = some none)
    (z10 : PySem.W.nsIn K mainGlobals "repr" = some none)
    (z11 : PySem.W.nsIn K mainGlobals "tuple" = some none)
    (y0 : PySem.W.nsIn K mainGlobals "MOST_SIZE" = some (some (.int 1000000000000 tk0))) :
    ∃ fd : FuncData, (∀ (s : Shared) (v : Value), BindsTo s fd ⟨[v], []⟩ [("_law_script", v)]) ∧ ∀ base : Heap, K.In base → base.Ns mainGlobals mg → FnOk l.prog w K mg base CX0 6 fa fd ["_law_script"] (spLaw K) := by
  have e := hfa.symm.trans (PySem.W.mg_of X G a12)
  cases e
  have F0 := fun_mk (st := s_is_int) l0 c0 k0
  have F1 := fun_mk (st := s_is_between) l1 c1 k1
  have F2 := fun_mk (st := s_is_number) l2 c2 k2
  have F3 := fun_mk (st := s_is_rect) l3 c3 k3
  have F4 := fun_mk (st := s_cell) l4 c4 k4
  have F5 := fun_mk (st := s_pool) l5 c5 k5
  have F6 := fun_mk (st := s_draw) l6 c6 k6
  have F7 := fun_mk (st := s_within) l7 c7 k7
  have F8 := fun_mk (st := s_due) l8 c8 k8
  have F9 := fun_mk (st := s_number) l9 c9 k9
  have F10 := fun_mk (st := s_thing) l10 c10 k10
  have F11 := fun_mk (st := s_right) l11 c11 k11
  have F12 := fun_mk (st := s_law) l12 c12 k12
  refine ⟨_, fun s v => .of_eq rfl, fun base _ _ => ok_law (A := ⟨f0, (PySem.W.fnOf "is_int" "is_int" (defArgs s_is_int) (defBody s_is_int) (defScope s_is_int) .none kV0 dc0 pm0 an0 cd0 ct0),
    f1, (PySem.W.fnOf "is_between" "is_between" (defArgs s_is_between) (defBody s_is_between) (defScope s_is_between) .none kV1 dc1 pm1 an1 cd1 ct1),
    f2, (PySem.W.fnOf "is_number" "is_number" (defArgs s_is_number) (defBody s_is_number) (defScope s_is_number) .none kV2 dc2 pm2 an2 cd2 ct2),
    f3, (PySem.W.fnOf "is_rect" "is_rect" (defArgs s_is_rect) (defBody s_is_rect) (defScope s_is_rect) .none kV3 dc3 pm3 an3 cd3 ct3),
    f4, (PySem.W.fnOf "_law_cell" "_law_cell" (defArgs s_cell) (defBody s_cell) (defScope s_cell) .none kV4 dc4 pm4 an4 cd4 ct4),
    f5, (PySem.W.fnOf "_law_pool" "_law_pool" (defArgs s_pool) (defBody s_pool) (defScope s_pool) .none kV5 dc5 pm5 an5 cd5 ct5),
    f6, (PySem.W.fnOf "_law_draw" "_law_draw" (defArgs s_draw) (defBody s_draw) (defScope s_draw) .none kV6 dc6 pm6 an6 cd6 ct6),
    f7, (PySem.W.fnOf "_law_within" "_law_within" (defArgs s_within) (defBody s_within) (defScope s_within) .none kV7 dc7 pm7 an7 cd7 ct7),
    f8, (PySem.W.fnOf "_law_due" "_law_due" (defArgs s_due) (defBody s_due) (defScope s_due) .none kV8 dc8 pm8 an8 cd8 ct8),
    f9, (PySem.W.fnOf "_law_number" "_law_number" (defArgs s_number) (defBody s_number) (defScope s_number) .none kV9 dc9 pm9 an9 cd9 ct9),
    f10, (PySem.W.fnOf "_law_thing" "_law_thing" (defArgs s_thing) (defBody s_thing) (defScope s_thing) .none kV10 dc10 pm10 an10 cd10 ct10),
    f11, (PySem.W.fnOf "_law_right" "_law_right" (defArgs s_right) (defBody s_right) (defScope s_right) .none kV11 dc11 pm11 an11 cd11 ct11),
    fa, (PySem.W.fnOf "law" "law" (defArgs s_law) (defBody s_law) (defScope s_law) .none kV12 dc12 pm12 an12 cd12 ct12),
    tk0⟩) ?_⟩
  exact {
    F_is_int := F0
    B_is_int := F0.binds fun _ _ _ _ _ _ us hl => match us, hl with | [_], _ => rfl
    g_is_int := PySem.W.mg_of X G a0
    F_is_between := F1
    B_is_between := F1.binds fun _ _ _ _ _ _ us hl => match us, hl with | [_, _, _], _ => rfl
    g_is_between := PySem.W.mg_of X G a1
    F_is_number := F2
    B_is_number := F2.binds fun _ _ _ _ _ _ us hl => match us, hl with | [_], _ => rfl
    g_is_number := PySem.W.mg_of X G a2
    F_is_rect := F3
    B_is_rect := F3.binds fun _ _ _ _ _ _ us hl => match us, hl with | [_], _ => rfl
    g_is_rect := PySem.W.mg_of X G a3
    F_cell := F4
    B_cell := F4.binds fun _ _ _ _ _ _ us hl => match us, hl with | [_, _], _ => rfl
    g_cell := PySem.W.mg_of X G a4
    F_pool := F5
    B_pool := F5.binds fun _ _ _ _ _ _ us hl => match us, hl with | [_], _ => rfl
    g_pool := PySem.W.mg_of X G a5
    F_draw := F6
    B_draw := F6.binds fun _ _ _ _ _ _ us hl => match us, hl with | [_, _], _ => rfl
    g_draw := PySem.W.mg_of X G a6
    F_within := F7
    B_within := F7.binds fun _ _ _ _ _ _ us hl => match us, hl with | [_, _, _], _ => rfl
    g_within := PySem.W.mg_of X G a7
    F_due := F8
    B_due := F8.binds fun _ _ _ _ _ _ us hl => match us, hl with | [_], _ => rfl
    g_due := PySem.W.mg_of X G a8
    F_number := F9
    B_number := F9.binds fun _ _ _ _ _ _ us hl => match us, hl with | [_], _ => rfl
    g_number := PySem.W.mg_of X G a9
    F_thing := F10
    B_thing := F10.binds fun _ _ _ _ _ _ us hl => match us, hl with | [_], _ => rfl
    g_thing := PySem.W.mg_of X G a10
    F_right := F11
    B_right := F11.binds fun _ _ _ _ _ _ us hl => match us, hl with | [_], _ => rfl
    g_right := PySem.W.mg_of X G a11
    F_law := F12
    B_law := F12.binds fun _ _ _ _ _ _ us hl => match us, hl with | [_], _ => rfl
    g_law := PySem.W.mg_of X G a12
    K_is_rect_value := kb_is_rect F3
    m_abs := PySem.W.mg_none_of X G z0
    m_all := PySem.W.mg_none_of X G z1
    m_bool := PySem.W.mg_none_of X G z2
    m_divmod := PySem.W.mg_none_of X G z3
    m_int := PySem.W.mg_none_of X G z4
    m_isinstance := PySem.W.mg_none_of X G z5
    m_len := PySem.W.mg_none_of X G z6
    m_max := PySem.W.mg_none_of X G z7
    m_min := PySem.W.mg_none_of X G z8
    m_range := PySem.W.mg_none_of X G z9
    m_repr := PySem.W.mg_none_of X G z10
    m_tuple := PySem.W.mg_none_of X G z11
    g_MOST_SIZE := PySem.W.mg_of X G y0 }
end K01
open PySem PySem.W PyProof.Rows
set_option maxHeartbeats 0 in
theorem PySem.Challenge.cw_allscreens_k01_rectangles_of_any_value_holds : PySem.Challenge.rw_allscreens_k01_rectangles_of_any_value.Holds := by
  w_on; o_law; k_head; (case hw => w_witness2)
  k_fill
  refine L2.walk_of (l := PySem.Challenge.rw_allscreens_k01_rectangles_of_any_value) (n := 63) (k := 6) (x := "_law_script") (CX := fun _ => L2.CX0) (sp := fun w => K01.spLaw _) rfl (by decide) rfl ⟨rfl, by decide, by decide⟩ (fun w h Y => PySem.W.kIn_of Y) ?F (fun _ _ a ns hl _ hS => K01.spLaw_of hl hS) (fun _ _ _ _ _ h => h)
  case F =>
    intro w mg fa h KX G hmg
    refine' K01.all_mk (l := PySem.Challenge.rw_allscreens_k01_rectangles_of_any_value) (w := w) KX G hmg ?a0 ?l0 ?c0 ?k0 ?a1 ?l1 ?c1 ?k1 ?a2 ?l2 ?c2 ?k2 ?a3 ?l3 ?c3 ?k3 ?a4 ?l4 ?c4 ?k4 ?a5 ?l5 ?c5 ?k5 ?a6 ?l6 ?c6 ?k6 ?a7 ?l7 ?c7 ?k7 ?a8 ?l8 ?c8 ?k8 ?a9 ?l9 ?c9 ?k9 ?a10 ?l10 ?c10 ?k10 ?a11 ?l11 ?c11 ?k11 ?a12 ?l12 ?c12 ?k12 ?z0 ?z1 ?z2 ?z3 ?z4 ?z5 ?z6 ?z7 ?z8 ?z9 ?z10 ?z11 ?y0
    (case a0 => k_is); (case l0 => k_is); (case c0 => k_is); (case k0 => k_is); (case a1 => k_is); (case l1 => k_is); (case c1 => k_is); (case k1 => k_is); (case a2 => k_is); (case l2 => k_is); (case c2 => k_is); (case k2 => k_is); (case a3 => k_is); (case l3 => k_is); (case c3 => k_is); (case k3 => k_is); (case a4 => k_is); (case l4 => k_is); (case c4 => k_is); (case k4 => k_is); (case a5 => k_is); (case l5 => k_is); (case c5 => k_is); (case k5 => k_is); (case a6 => k_is); (case l6 => k_is); (case c6 => k_is); (case k6 => k_is); (case a7 => k_is); (case l7 => k_is); (case c7 => k_is); (case k7 => k_is); (case a8 => k_is); (case l8 => k_is); (case c8 => k_is); (case k8 => k_is); (case a9 => k_is); (case l9 => k_is); (case c9 => k_is); (case k9 => k_is); (case a10 => k_is); (case l10 => k_is); (case c10 => k_is); (case k10 => k_is); (case a11 => k_is); (case l11 => k_is); (case c11 => k_is); (case k11 => k_is); (case a12 => k_is); (case l12 => k_is); (case c12 => k_is); (case k12 => k_is); (case z0 => k_is); (case z1 => k_is); (case z2 => k_is); (case z3 => k_is); (case z4 => k_is); (case z5 => k_is); (case z6 => k_is); (case z7 => k_is); (case z8 => k_is); (case z9 => k_is); (case z10 => k_is); (case z11 => k_is); (case y0 => k_is)

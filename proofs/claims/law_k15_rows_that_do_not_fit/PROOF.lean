import PyProof.Rows.All
import Wide.All
import OpenK.AllK
import Wide.FinOn
import HandS.ForMost
import HandS.Zip
import HandS.Wide
import HandS.WideBits
import HandS.IsInst
import HandS.Walk
import HandS.Exc
import HandS.ExcInit
import HandS.ExcIs
import KE.KExcSuper
import KE.KExcIs
import HandS.WordsExc
import HandS.ExcOwn
import KE.RegKIsAll
import HandS.Conv
import HandS.AnyAll
import HandS.GenList
import HandS.EndTab
import PyProof.FString
import PyProof.FString4
import HandS.FStr
import HandS.TupAny
import HandS.Rev
import PySem.Challenge.RW_layerask_k15_rows_that_do_not_fit
set_option Elab.async false
set_option linter.all false
set_option maxRecDepth 100000
set_option maxHeartbeats 0
namespace Lk
open PySem PySem.Spec PyProof.Rows L2
/-! ### readings, one step each -/
section
variable {K : PySem.W.Frag} {σ : L2.St} {H : Hp} {Q : VK} {v x y : V} {i j : Int} {te ta tb : TE} {tt tu : TT} {r : R2} {t : TA} {t1 t2 : TS} {g : TG} {nx bk ct : L2.St → Hp → Prop} {rt : VK}
theorem a_var {k : Nat} (h : σ[k]? = some (some v)) (q : Q v H) : tVar k σ H Q := ⟨v, h, q⟩
theorem a_c (q : Q v H) : tC v σ H Q := q
theorem a_op (q : ta σ H fun x H1 => tb σ H1 fun y H2 => r x y H2 Q) : tOp r ta tb σ H Q := q
theorem a_un {r : V → Hp → VK → Prop} (q : ta σ H fun x H1 => r x H1 Q) : tUn r ta σ H Q := q
theorem a_i0 {f : Int → Int → V} (q : Q (f i j) H) : rI0 f (.int i) (.int j) H Q := ⟨i, j, rfl, rfl, q⟩
theorem a_iC {C : Int → Int → Prop} {f : Int → Int → V} (hc : C i j) (q : Q (f i j) H) : rI C f (.int i) (.int j) H Q := ⟨i, j, rfl, rfl, hc, q⟩
theorem a_u {f : Int → V} (q : Q (f i) H) : rU f (.int i) H Q := ⟨i, rfl, q⟩
theorem dec_V {i j : Int} : decide (V.int i = V.int j) = decide (i = j) := by
  by_cases h : i = j
  · subst h; simp
  · rw [decide_eq_false h, decide_eq_false (fun e => h (V.int.inj e))]
theorem dec_S {a b : Str} : decide (V.str a = V.str b) = decide (a = b) := by
  by_cases h : a = b
  · subst h; simp
  · rw [decide_eq_false h, decide_eq_false (fun e => h (V.str.inj e))]
theorem dec_B {a b : Bool} : decide (V.bl a = V.bl b) = decide (a = b) := by
  by_cases h : a = b
  · subst h; simp
  · rw [decide_eq_false h, decide_eq_false (fun e => h (V.bl.inj e))]
theorem a_eqI (q : Q (.bl (decide (i = j))) H) : rEq (.int i) (.int j) H Q := ⟨rfl, by rw [dec_V]; exact q⟩
theorem a_neI (q : Q (.bl (!decide (i = j))) H) : rNe (.int i) (.int j) H Q := ⟨rfl, by rw [dec_V]; exact q⟩
theorem a_eqS {a b : Str} (q : Q (.bl (decide (a = b))) H) : rEq (.str a) (.str b) H Q := ⟨rfl, by rw [dec_S]; exact q⟩
theorem a_neS {a b : Str} (q : Q (.bl (!decide (a = b))) H) : rNe (.str a) (.str b) H Q := ⟨rfl, by rw [dec_S]; exact q⟩
theorem a_eqB {a b : Bool} (q : Q (.bl (decide (a = b))) H) : rEq (.bl a) (.bl b) H Q := ⟨rfl, by rw [dec_B]; exact q⟩
theorem a_neB {a b : Bool} (q : Q (.bl (!decide (a = b))) H) : rNe (.bl a) (.bl b) H Q := ⟨rfl, by rw [dec_B]; exact q⟩
theorem a_test {R : Bool → Hp → Prop} (q : te σ H fun x H' => ∃ k, x = .bl k ∧ R k H') : tTest te σ H R := q
theorem a_tB {R : Bool → Hp → Prop} (q : te σ H fun x H' => ∃ k, x = .bl k ∧ R k H') : tB te σ H R := q
theorem a_bl {P : Bool → Prop} {b : Bool} (q : P b) : ∃ k, V.bl b = V.bl k ∧ P k := ⟨b, rfl, q⟩
theorem a_and {R : Bool → Hp → Prop} (q : tt σ H fun c H1 => if c = true then tu σ H1 R else R false H1) : tAnd tt tu σ H R := q
theorem a_or {R : Bool → Hp → Prop} (q : tt σ H fun c H1 => if c = true then R true H1 else tu σ H1 R) : tOr tt tu σ H R := q
theorem a_not {R : Bool → Hp → Prop} (q : tt σ H fun c H1 => R (!c) H1) : tNot tt σ H R := q
theorem a_ifx (q : tt σ H fun c H1 => if c = true then ta σ H1 Q else tb σ H1 Q) : tIf tt ta tb σ H Q := q
theorem a_nil {R : List V → Hp → Prop} (q : R [] H) : tNil σ H R := q
theorem a_cons {R : List V → Hp → Prop} (q : te σ H fun x H1 => t σ H1 fun xs H2 => R (x :: xs) H2) : tCons te t σ H R := q
theorem a_call {sp : Sp} {dvs : List V} {E : XK} (q : t σ H fun vs H1 => sp (vs ++ dvs) H1 Q E) : tCall sp dvs E t σ H Q := q
theorem a_cb {r : List V → Hp → VK → Prop} (q : t σ H fun vs H1 => r vs H1 Q) : tCB r t σ H Q := q
theorem a_tup (q : t σ H fun xs H1 => xs.length ≤ sizeLine ∧ ∀ p, H1 p = none → Q (.ref p) (upd H1 p (.tup xs))) : tTup t σ H Q := q
theorem a_lst (q : t σ H fun xs H1 => xs.length ≤ sizeLine ∧ ∀ p, H1 p = none → Q (.ref p) (upd H1 p (.lst xs))) : tLst t σ H Q := q
theorem a_seq (q : t1 ⟨t2 ⟨nx, rt, bk, ct⟩, rt, bk, ct⟩ σ H) : tSeq t1 t2 ⟨nx, rt, bk, ct⟩ σ H := q
theorem a_next (q : nx σ H) : tNext ⟨nx, rt, bk, ct⟩ σ H := q
theorem a_asg (q : te σ H fun x H1 => g x σ H1 nx) : tAsg te g ⟨nx, rt, bk, ct⟩ σ H := q
theorem a_gname {k : Nat} {R : L2.St → Hp → Prop} (q : R (σ.set k (some v)) H) : gName k v σ H R := q
theorem a_gsub {to ti : TE} {s : TSet} {R : L2.St → Hp → Prop} (q : to σ H fun o H1 => ti σ H1 fun i H2 => s o i v H2 fun H3 => R σ H3) : gSub to ti s v σ H R := q
theorem a_gtup {a : Addr} {xs : List V} {n : Nat} {u : TGs} {R : L2.St → Hp → Prop} (h : H a = some (.tup xs)) (hn : xs.length = n) (q : u xs σ H R) : gTup K n u (.ref a) σ H R := ⟨a, xs, rfl, .inl (.inl h), hn, q⟩
theorem a_gcons {u : TGs} {xs : List V} {R : L2.St → Hp → Prop} (q : g v σ H fun σ' H' => u xs σ' H' R) : gCons g u (v :: xs) σ H R := ⟨v, xs, rfl, q⟩
theorem a_gnil {R : L2.St → Hp → Prop} (q : R σ H) : gNil [] σ H R := ⟨rfl, q⟩
theorem a_ret (q : te σ H rt) : tRet te ⟨nx, rt, bk, ct⟩ σ H := q
theorem a_retN (q : rt .non H) : tRetN ⟨nx, rt, bk, ct⟩ σ H := q
theorem a_drop (q : te σ H fun _ H1 => nx σ H1) : tDrop te ⟨nx, rt, bk, ct⟩ σ H := q
theorem a_ifS (q : tt σ H fun b H1 => if b = true then t1 ⟨nx, rt, bk, ct⟩ σ H1 else t2 ⟨nx, rt, bk, ct⟩ σ H1) : tIfS tt t1 t2 ⟨nx, rt, bk, ct⟩ σ H := q
theorem a_aug {k : Nat} {ti : TIp} (h : σ[k]? = some (some x)) (q : te σ H fun y H1 => ti x y H1 fun z H2 => nx (σ.set k (some z)) H2) : tAug k te ti ⟨nx, rt, bk, ct⟩ σ H := ⟨x, h, q⟩
theorem a_ip {f : Int → Int → Int} (q : Q (.int (f i j)) H) : ipI f (.int i) (.int j) H Q := ⟨i, j, rfl, rfl, q⟩
theorem a_for {wi : TI} (q : wi σ H fun J H1 => ∃ W : Nat → Nat → L2.St → Hp → Prop, (∃ m, W 0 m σ H1) ∧ ∀ i m σ H, W i m σ H →
  (J.stop i H ∧ nx σ H) ∨ (J.go i H ∧ ∃ N : L2.St → Hp → Prop, (∀ σ' H', N σ' H' → ∃ m', m' < m ∧ W (i + 1) m' σ' H') ∧ ∀ x H', J.yld i H x H' → g x σ H' fun σ2 H2 => t1 ⟨N, rt, nx, N⟩ σ2 H2)) : tFor wi g t1 ⟨nx, rt, bk, ct⟩ σ H := q
theorem a_while (W : Nat → L2.St → Hp → Prop) (m0 : Nat) (h0 : W m0 σ H) (q : ∀ m σ H, W m σ H → tt σ H fun b H1 => if b = true then ∃ N : L2.St → Hp → Prop, (∀ σ' H', N σ' H' → ∃ m', m' < m ∧ W m' σ' H') ∧ t1 ⟨N, rt, nx, N⟩ σ H1 else nx σ H1) :
    tWhile tt t1 ⟨nx, rt, bk, ct⟩ σ H := ⟨W, ⟨m0, h0⟩, q⟩
theorem a_rng1 {R : It → Hp → Prop} (q : t σ H fun vs H1 => ∃ j : Int, vs = [.int j] ∧ -(2 ^ 62) ≤ j ∧ j < 2 ^ 62 ∧ R (Itr 0 j.toNat) H1) : iRng1 t σ H R := q
theorem a_exrng {P : Int → Prop} (h1 : -(2 ^ 62) ≤ j) (h2 : j < 2 ^ 62) (q : P j) : ∃ j' : Int, [V.int j] = [V.int j'] ∧ -(2 ^ 62) ≤ j' ∧ j' < 2 ^ 62 ∧ P j' := ⟨j, rfl, h1, h2, q⟩
theorem a_iList {R : It → Hp → Prop} (q : te σ H fun x H1 => ∃ a, x = .ref a ∧ (∃ xs, SqL K H1 a xs) ∧ R (Itl K a) H1) : iList K te σ H R := q
theorem a_exl {a : Addr} {xs : List V} {R : Addr → Prop} (h : SqL K H a xs) (q : R a) : ∃ a', V.ref a = V.ref a' ∧ (∃ xs, SqL K H a' xs) ∧ R a' := ⟨a, rfl, ⟨xs, h⟩, q⟩
theorem a_zip {R : It → Hp → Prop} (q : t σ H fun vs H1 => ∃ a b xs ys, vs = [.ref a, .ref b] ∧ SqL K H1 a xs ∧ SqL K H1 b ys ∧ R (Itz K a b) H1) : iZip K t σ H R := q
theorem a_lc {wi : TI} {vs : List Nat} (q : wi σ H fun J H1 => ∀ D, H1 D = none → ∃ W : Nat → Nat → Hp → Prop, (∃ m, W 0 m (upd H1 D (.lst []))) ∧ ∀ i m H, W i m H →
  (J.stop i H ∧ Q (.ref D) H) ∨ (J.go i H ∧ ∃ Nx : Hp → Prop, (∀ H', Nx H' → ∃ m', m' < m ∧ W (i + 1) m' H') ∧ ∀ x H', J.yld i H x H' → g x (wipe σ vs) H' fun σ2 H2 => wipe σ2 vs = wipe σ vs ∧ tt σ2 H2 fun b H3 =>
    if b = true then te σ2 H3 fun y H4 => ∃ acc, H4 D = some (.lst acc) ∧ acc.length < sizeLine ∧ Nx (upd H4 D (.lst (acc ++ [y]))) else Nx H3)) : tLc wi g tt te vs σ H Q := q
theorem a_yes {R : Bool → Hp → Prop} (q : R true H) : tYes σ H R := q
theorem a_bm {T : String} {r : V → List V → Hp → VK → Prop} {to : TE} (q : to σ H fun x H1 => tyV K T x H1 ∧ t σ H1 fun xs H2 => r x xs H2 Q) : tBM K T r to t σ H Q := q
theorem a_tyL {a : Addr} {xs : List V} {R : Prop} (h : SqL K H a xs) (q : R) : tyV K "list" (.ref a) H ∧ R := ⟨.inl ⟨rfl, _, h⟩, q⟩
theorem a_append {a : Addr} {xs : List V} (h : H a = some (.lst xs)) (hl : xs.length < sizeLine) (q : Q .non (upd H a (.lst (xs ++ [y])))) : rAppend (.ref a) [y] H Q := ⟨a, xs, y, rfl, rfl, h, hl, q⟩
theorem a_popAt0 {a : Addr} {xs : List V} (h : H a = some (.lst (y :: xs))) (q : Q y (upd H a (.lst xs))) : rPopAt (.ref a) [.int 0] H Q := by
  refine ⟨a, y :: xs, 0, 0, y, rfl, rfl, h, by decide, by decide, ?_, rfl, q⟩
  exact (ixN_seq (n := (y :: xs).length) (i := 0) (j := 0) (by unfold ixN; rw [if_pos (by omega), if_pos (by rw [List.length_cons]; omega)]; rfl)).1
theorem a_setL {a : Addr} {xs : List V} {k : Nat} {R : Hp → Prop} (h : H a = some (.lst xs)) (hk : k < xs.length) (q : R (upd H a (.lst (xs.set k v)))) : rSetL (.ref a) (.int (k : Int)) v H R := by
  refine ⟨a, xs, k, k, rfl, rfl, h, ?_, q⟩
  unfold ixN
  rw [if_pos (by omega), if_pos (by omega)]
  simp
theorem a_ixL {a : Addr} {xs : List V} (h : SqL K H a xs) (e : atI xs i = some v) (q : Q v H) : rIxL K (.ref a) (.int i) H Q := ⟨a, xs, i, v, rfl, rfl, h, e, q⟩
theorem a_ixT {a : Addr} {xs : List V} (h : SqT K H a xs) (e : atI xs i = some v) (q : Q v H) : rIxT K (.ref a) (.int i) H Q := ⟨a, xs, i, v, rfl, rfl, h, e, q⟩
theorem a_cat {a b : Addr} {xs zs : List V} (ha : H a = some (.lst xs)) (hb : H b = some (.lst zs)) (hl : xs.length + zs.length ≤ sizeLine) (q : ∀ p, H p = none → Q (.ref p) (upd H p (.lst (xs ++ zs)))) : rCat (.ref a) (.ref b) H Q := ⟨a, b, xs, zs, rfl, rfl, ha, hb, hl, q⟩
theorem a_len {a : Addr} {xs : List V} {P : List V → Prop} (h : SqL K H a xs) (q : P xs) : ∃ p ys, [V.ref a] = [V.ref p] ∧ (SqL K H p ys ∨ SqT K H p ys) ∧ P ys := ⟨a, xs, rfl, .inl h, q⟩
theorem a_abs {P : Int → Prop} (q : P i) : ∃ j, [V.int i] = [V.int j] ∧ P j := ⟨i, rfl, q⟩
theorem a_int {P : Int → Prop} {R : Bool → Prop} (q : P i) : (∃ j, [V.int i] = [V.int j] ∧ P j) ∨ ∃ k, [V.int i] = [V.bl k] ∧ R k := .inl ⟨i, rfl, q⟩
end
/-! ### rules whose K is named -/
section
variable {X : Cx} {K : PySem.W.Frag}
theorem ixL_ (h : X.K = K) : IxR X (rIxL K) := by subst h; exact ix_list
theorem ixT_ (h : X.K = K) : IxR X (rIxT K) := by subst h; exact ix_tup
theorem slL_ (h : X.K = K) : SlR X (rSlL K) := by subst h; exact sl_list
theorem piL_ {tg l : Expr} {tl : TE} (h : X.K = K) (hl : PE X l tl) : PI X tg l (iList K tl) := by subst h; exact pi_list hl
theorem piZ_ {tg it : Expr} {ta : TA} (h : X.K = K) (hl : PI X tg it (iZip X.K ta)) : PI X tg it (iZip K ta) := by subst h; exact hl
theorem pgT_ {tg : Expr} {n : Nat} {t : TGs} (h : X.K = K) (hl : PG X tg (gTup X.K n t)) : PG X tg (gTup K n t) := by subst h; exact hl
theorem lenK_ (h : X.K = K) : CallR X (.builtin "len") (fun xs H Q => ∃ p ys, xs = [.ref p] ∧ (SqL K H p ys ∨ SqT K H p ys) ∧ Q (.int ys.length) H) := by subst h; exact call_len_seq
theorem bmK_ {e : Expr} {T : String} {r : V → List V → Hp → VK → Prop} {to : TE} {t : TA} (h : X.K = K) (hl : PE X e (tBM X.K T r to t)) : PE X e (tBM K T r to t) := by subst h; exact hl
end
theorem ifd {p : Prop} [Decidable p] {A B : Prop} (h1 : p → A) (h2 : ¬ p → B) : if decide p = true then A else B := by
  by_cases h : p
  · rw [if_pos (decide_eq_true h)]; exact h1 h
  · rw [if_neg (by rw [decide_eq_false h]; decide)]; exact h2 h
theorem ifnd {p : Prop} [Decidable p] {A B : Prop} (h1 : ¬ p → A) (h2 : p → B) : if (!decide p) = true then A else B := by
  by_cases h : p
  · rw [decide_eq_true h, if_neg (by decide)]; exact h2 h
  · rw [decide_eq_false h, if_pos (by decide)]; exact h1 h
theorem ift {A B : Prop} (h : A) : if true = true then A else B := by rw [if_pos rfl]; exact h
theorem iff' {A B : Prop} (h : B) : if false = true then A else B := by rw [if_neg (by decide)]; exact h
theorem ifb {b : Bool} {A B : Prop} (h1 : b = true → A) (h2 : b = false → B) : if b = true then A else B := by
  cases b
  · exact iff' (h2 rfl)
  · exact ift (h1 rfl)
theorem sql {K : PySem.W.Frag} {H : Hp} {a : Addr} {xs : List V} (h : H a = some (.lst xs)) : SqL K H a xs := .inl (.inl h)
theorem sqt {K : PySem.W.Frag} {H : Hp} {a : Addr} {xs : List V} (h : H a = some (.tup xs)) : SqT K H a xs := .inl (.inl h)
theorem sz {n : Nat} (h : n ≤ 1000000) : n ≤ sizeLine := by rw [sizeLine_eq]; omega
theorem szl {n : Nat} (h : n ≤ 1000000) : n < sizeLine := by rw [sizeLine_eq]; omega
theorem same_upd {H : Hp} {p : Addr} {o : HO} (h : H p = none) : Same H (upd H p o) := fun b x e => by
  rw [upd_ne (ne_of_none e h)]
  exact e
theorem atI_at {α : Type} {xs : List α} {i : Int} (h0 : 0 ≤ i) (h : i.toNat < xs.length) : atI xs i = some xs[i.toNat] := by
  have e := atI_nat (List.getElem?_eq_getElem h)
  have z : ((i.toNat : Nat) : Int) = i := Int.toNat_of_nonneg h0
  rw [z] at e
  exact e
/-! ### the steps -/
local macro_rules | `(tactic| walk_at "lk side") => `(tactic| first | assumption | (show _ ∧ _; omega) | (unfold CMul; omega) | (unfold CPow; omega) | omega | (refine sql ?_; assumption) | (refine sqt ?_; assumption))
end Lk

namespace Lk
open PySem PySem.Spec PyProof.Rows L2
/-! ### the state of the draws: two addresses; all else is kept -/
def StA (H : Hp) (st c : Addr) : Prop := ∃ (cs : List Int) (m : Int), H st = some (.lst [.ref c, .int m]) ∧ H c = some (.lst (cs.map V.int)) ∧ cs.length ≤ 63
def Gd (st c : Addr) (H H' : Hp) : Prop := ∀ a o, H a = some o → a ≠ st → a ≠ c → H' a = some o
theorem Gd.refl {st c : Addr} (H : Hp) : Gd st c H H := fun _ _ h _ _ => h
theorem Gd.trans {st c : Addr} {H H1 H2 : Hp} (a : Gd st c H H1) (b : Gd st c H1 H2) : Gd st c H H2 := fun x o h h1 h2 => b x o (a x o h h1 h2) h1 h2
theorem Gd.of {st c : Addr} {H H' : Hp} (h : Same H H') : Gd st c H H' := fun a o e _ _ => h a o e
theorem StA.same {st c : Addr} {H H' : Hp} (s : StA H st c) (h : Same H H') : StA H' st c := by
  obtain ⟨cs, m, h1, h2, h3⟩ := s
  exact ⟨cs, m, h _ _ h1, h _ _ h2, h3⟩
theorem StA.ne {st c : Addr} {H : Hp} (s : StA H st c) : st ≠ c := by
  obtain ⟨cs, m, h1, h2, _⟩ := s
  refine ne_of h1 h2 fun e => ?_
  have e1 : [V.ref c, V.int m] = cs.map V.int := HO.lst.inj e
  cases cs with
  | nil => simp at e1
  | cons x r => simp at e1
theorem StA.neS {st c a : Addr} {H : Hp} (s : StA H st c) (h : H a = none) : a ≠ st ∧ a ≠ c := by
  obtain ⟨cs, m, h1, h2, _⟩ := s
  exact ⟨fun e => by rw [e, h1] at h; simp at h, fun e => by rw [e, h2] at h; simp at h⟩
/-- a fact about another object -/
structure Ob (st c : Addr) (H : Hp) (a : Addr) (o : HO) : Prop where
  at_ : H a = some o
  ns : a ≠ st
  nc : a ≠ c
theorem Ob.go {st c a : Addr} {H H' : Hp} {o : HO} (h : Ob st c H a o) (g : Gd st c H H') : Ob st c H' a o := ⟨g a o h.at_ h.ns h.nc, h.ns, h.nc⟩
theorem Ob.same {st c a : Addr} {H H' : Hp} {o : HO} (h : Ob st c H a o) (g : Same H H') : Ob st c H' a o := h.go (Gd.of g)
theorem Ob.new {st c a : Addr} {H : Hp} {o : HO} (s : StA H st c) (h : H a = none) : Ob st c (upd H a o) a o := ⟨upd_same, (s.neS h).1, (s.neS h).2⟩
theorem Ob.mk' {st c a : Addr} {H H' : Hp} {o : HO} (s : StA H st c) (h : H a = none) (e : H' a = some o) : Ob st c H' a o := ⟨e, (s.neS h).1, (s.neS h).2⟩
theorem supd {H H' : Hp} {p : Addr} {o : HO} (s : Same H H') (h : H' p = none) : Same H (upd H' p o) := s.trans (same_upd h)
/-- an object that H does not know changes -/
theorem smut {H H' : Hp} {p : Addr} {o : HO} (s : Same H H') (h : H p = none) : Same H (L2.upd H' p o) := fun a u ha => by
  rw [upd_ne (ne_of_none ha h)]
  exact s a u ha
theorem Gd.mut {st c : Addr} {H H' : Hp} {p : Addr} {o : HO} (s : Gd st c H H') (h : H p = none) : Gd st c H (L2.upd H' p o) := fun a u ha h1 h2 => by
  rw [upd_ne (ne_of_none ha h)]
  exact s a u ha h1 h2
theorem StA.mut {st c : Addr} {H : Hp} {p : Addr} {o : HO} (s : StA H st c) (h1 : p ≠ st) (h2 : p ≠ c) : StA (L2.upd H p o) st c := by
  obtain ⟨cs, m, e1, e2, e3⟩ := s
  exact ⟨cs, m, by rw [upd_ne h1.symm]; exact e1, by rw [upd_ne h2.symm]; exact e2, e3⟩
/-! ### comprehensions -/
theorem take_app {α : Type} {ys : List α} {j : Nat} {y : α} (h : ys[j]? = some y) : ys.take j ++ [y] = ys.take (j + 1) := by
  rw [List.take_add_one, h]
  rfl
section
variable {K : PySem.W.Frag} {σ : L2.St} {H : Hp} {Q : VK} {te tl : TE} {tt : TT} {g : TG}
/-- over a list, nothing that H knows changes -/
theorem lc_same {a : Addr} {k : Nat} {xs ys : List V} (hx : SqL K H a xs) (hlen : ys.length = xs.length) (hz : ys.length ≤ 1000000)
    (he : ∀ (j : Nat) (x : V), xs[j]? = some x → ∀ H' (R : VK), Same H H' → (∀ y H'', Same H' H'' → ys[j]? = some y → R y H'') → te ((wipe σ [k]).set k (some x)) H' R)
    (q : ∀ D H', H D = none → Same H H' → H' D = some (.lst ys) → Q (.ref D) H') :
    ∀ D, H D = none → ∃ W : Nat → Nat → Hp → Prop, (∃ m, W 0 m (upd H D (.lst []))) ∧ ∀ i m H, W i m H →
      ((Itl K a).stop i H ∧ Q (.ref D) H) ∨ ((Itl K a).go i H ∧ ∃ Nx : Hp → Prop, (∀ H', Nx H' → ∃ m', m' < m ∧ W (i + 1) m' H') ∧ ∀ x H', (Itl K a).yld i H x H' → gName k x (wipe σ [k]) H' fun σ2 H2 => wipe σ2 [k] = wipe σ [k] ∧ tYes σ2 H2 fun b H3 =>
        if b = true then te σ2 H3 fun y H4 => ∃ acc, H4 D = some (.lst acc) ∧ acc.length < sizeLine ∧ Nx (upd H4 D (.lst (acc ++ [y]))) else Nx H3) := by
  intro D hD
  refine lc_list (K := K) (a := a) (xs := xs) (Qd := Q (.ref D)) (fun i H' => Same H H' ∧ H' D = some (.lst (ys.take i))) ⟨same_upd hD, upd_same⟩ (fun i H' _ h => h.1.seq hx) ?_ ?_
  · rintro i x H' hi ⟨s, e⟩
    refine a_gname ?_
    refine ⟨by simp [wipe], a_yes (ift ?_)⟩
    refine he i x hi H' _ s fun y H'' s2 ey => ?_
    refine ⟨_, s2 _ _ e, ?_, smut (s.trans s2) hD, ?_⟩
    · refine szl ?_
      rw [List.length_take]
      omega
    · rw [upd_same, take_app ey]
  · rintro H' ⟨s, e⟩
    refine q D H' hD s ?_
    rw [e, ← hlen, List.take_length]
/-- over a range, nothing that H knows changes -/
theorem lr_same {k n : Nat} {ys : List V} (hlen : ys.length = n) (hz : ys.length ≤ 1000000)
    (he : ∀ j : Nat, j < n → ∀ H' (R : VK), Same H H' → (∀ y H'', Same H' H'' → ys[j]? = some y → R y H'') → te ((wipe σ [k]).set k (some (.int (j : Int)))) H' R)
    (q : ∀ D H', H D = none → Same H H' → H' D = some (.lst ys) → Q (.ref D) H') :
    ∀ D, H D = none → ∃ W : Nat → Nat → Hp → Prop, (∃ m, W 0 m (upd H D (.lst []))) ∧ ∀ i m H, W i m H →
      ((Itr 0 n).stop i H ∧ Q (.ref D) H) ∨ ((Itr 0 n).go i H ∧ ∃ Nx : Hp → Prop, (∀ H', Nx H' → ∃ m', m' < m ∧ W (i + 1) m' H') ∧ ∀ x H', (Itr 0 n).yld i H x H' → gName k x (wipe σ [k]) H' fun σ2 H2 => wipe σ2 [k] = wipe σ [k] ∧ tYes σ2 H2 fun b H3 =>
        if b = true then te σ2 H3 fun y H4 => ∃ acc, H4 D = some (.lst acc) ∧ acc.length < sizeLine ∧ Nx (upd H4 D (.lst (acc ++ [y]))) else Nx H3) := by
  intro D hD
  refine lc_range (lo := 0) (n := n) (Qd := Q (.ref D)) (fun i H' => Same H H' ∧ H' D = some (.lst (ys.take i))) ⟨same_upd hD, upd_same⟩ ?_ ?_
  · rintro i H' hi ⟨s, e⟩
    refine a_gname ?_
    refine ⟨by simp [wipe], a_yes (ift ?_)⟩
    rw [Int.zero_add]
    refine he i hi H' _ s fun y H'' s2 ey => ?_
    refine ⟨_, s2 _ _ e, ?_, smut (s.trans s2) hD, ?_⟩
    · refine szl ?_
      rw [List.length_take]
      omega
    · rw [upd_same, take_app ey]
  · rintro H' ⟨s, e⟩
    refine q D H' hD s ?_
    rw [e, ← hlen, List.take_length]
/-- over a range, the element draws -/
theorem lr_draw {st c : Addr} {k n : Nat} {P : V → Prop} (hz : n ≤ 1000000) (s0 : StA H st c)
    (he : ∀ j : Nat, j < n → ∀ H' (R : VK), StA H' st c → Gd st c H H' → (∀ y H'', P y → StA H'' st c → Gd st c H' H'' → R y H'') → te ((wipe σ [k]).set k (some (.int (j : Int)))) H' R)
    (q : ∀ D H' ys, H D = none → StA H' st c → Gd st c H H' → ys.length = n → (∀ y ∈ ys, P y) → Ob st c H' D (.lst ys) → Q (.ref D) H') :
    ∀ D, H D = none → ∃ W : Nat → Nat → Hp → Prop, (∃ m, W 0 m (upd H D (.lst []))) ∧ ∀ i m H, W i m H →
      ((Itr 0 n).stop i H ∧ Q (.ref D) H) ∨ ((Itr 0 n).go i H ∧ ∃ Nx : Hp → Prop, (∀ H', Nx H' → ∃ m', m' < m ∧ W (i + 1) m' H') ∧ ∀ x H', (Itr 0 n).yld i H x H' → gName k x (wipe σ [k]) H' fun σ2 H2 => wipe σ2 [k] = wipe σ [k] ∧ tYes σ2 H2 fun b H3 =>
        if b = true then te σ2 H3 fun y H4 => ∃ acc, H4 D = some (.lst acc) ∧ acc.length < sizeLine ∧ Nx (upd H4 D (.lst (acc ++ [y]))) else Nx H3) := by
  intro D hD
  have nD := s0.neS hD
  refine lc_range (lo := 0) (n := n) (Qd := Q (.ref D)) (fun i H' => StA H' st c ∧ Gd st c H H' ∧ ∃ ys : List V, ys.length = i ∧ i ≤ n ∧ (∀ y ∈ ys, P y) ∧ H' D = some (.lst ys))
    ⟨s0.mut nD.1 nD.2, (Gd.refl H).mut hD, [], rfl, Nat.zero_le _, (fun y hy => by simp at hy), upd_same⟩ ?_ ?_
  · rintro i H' hi ⟨s, gd, ys, e1, e2, e3, e4⟩
    refine a_gname ?_
    refine ⟨by simp [wipe], a_yes (ift ?_)⟩
    rw [Int.zero_add]
    refine he i hi H' _ s gd fun y H'' py s2 g2 => ?_
    refine ⟨_, g2 _ _ e4 nD.1 nD.2, szl (by omega), s2.mut nD.1 nD.2, (gd.trans g2).mut hD, ys ++ [y], by rw [List.length_append, e1]; rfl, by omega, fun z hz => ?_, upd_same⟩
    rcases List.mem_append.mp hz with h | h
    · exact e3 z h
    · have := List.mem_singleton.mp h
      rw [this]; exact py
  · rintro H' ⟨s, gd, ys, e1, e2, e3, e4⟩
    exact q D H' ys hD s gd e1 e3 ⟨e4, nD.1, nD.2⟩
end
/-! ### loops, their ends by parts -/
section
variable {K : PySem.W.Frag} {g : TG} {tb : TS} {σ : L2.St} {H : Hp} {nx : L2.St → Hp → Prop} {rt : VK}
theorem fo_list {a : Addr} {xs : List V} (Pv : Nat → L2.St → Hp → Prop) (h0 : Pv 0 σ H) (hl : ∀ i σ H, i ≤ xs.length → Pv i σ H → SqL K H a xs)
    (hs : ∀ i x σ H, xs[i]? = some x → Pv i σ H → g x σ H fun σ2 H2 => tb ⟨Pv (i + 1), rt, nx, Pv (i + 1)⟩ σ2 H2) (hd : ∀ σ H, Pv xs.length σ H → nx σ H) :
    ∃ W : Nat → Nat → L2.St → Hp → Prop, (∃ m, W 0 m σ H) ∧ ∀ i m σ H, W i m σ H →
      ((Itl K a).stop i H ∧ nx σ H) ∨ ((Itl K a).go i H ∧ ∃ N : L2.St → Hp → Prop, (∀ σ' H', N σ' H' → ∃ m', m' < m ∧ W (i + 1) m' σ' H') ∧ ∀ x H', (Itl K a).yld i H x H' → g x σ H' fun σ2 H2 => tb ⟨N, rt, nx, N⟩ σ2 H2) :=
  for_list (D := ⟨nx, rt, fun _ _ => False, fun _ _ => False⟩) Pv h0 hl hs hd
theorem fo_range {n : Nat} (Pv : Nat → L2.St → Hp → Prop) (h0 : Pv 0 σ H)
    (hs : ∀ i σ H, i < n → Pv i σ H → g (.int (i : Int)) σ H fun σ2 H2 => tb ⟨Pv (i + 1), rt, nx, Pv (i + 1)⟩ σ2 H2) (hd : ∀ σ H, Pv n σ H → nx σ H) :
    ∃ W : Nat → Nat → L2.St → Hp → Prop, (∃ m, W 0 m σ H) ∧ ∀ i m σ H, W i m σ H →
      ((Itr 0 n).stop i H ∧ nx σ H) ∨ ((Itr 0 n).go i H ∧ ∃ N : L2.St → Hp → Prop, (∀ σ' H', N σ' H' → ∃ m', m' < m ∧ W (i + 1) m' σ' H') ∧ ∀ x H', (Itr 0 n).yld i H x H' → g x σ H' fun σ2 H2 => tb ⟨N, rt, nx, N⟩ σ2 H2) :=
  for_range (lo := 0) (D := ⟨nx, rt, fun _ _ => False, fun _ _ => False⟩) Pv h0 (fun i σ H hi p => by rw [Int.zero_add]; exact hs i σ H hi p) hd
theorem fo_zip {a b : Addr} {xs ys : List V} (hl : xs.length = ys.length) (Pv : Nat → L2.St → Hp → Prop) (h0 : Pv 0 σ H) (hq : ∀ i σ H, Pv i σ H → SqL K H a xs ∧ SqL K H b ys)
    (hs : ∀ (i : Nat) (x y : V) (T : Addr) (σ : L2.St) (H : Hp), xs[i]? = some x → ys[i]? = some y → Pv i σ H → H T = none → g (.ref T) σ (upd H T (.tup [x, y])) fun σ2 H2 => tb ⟨Pv (i + 1), rt, nx, Pv (i + 1)⟩ σ2 H2) (hd : ∀ σ H, Pv xs.length σ H → nx σ H) :
    ∃ W : Nat → Nat → L2.St → Hp → Prop, (∃ m, W 0 m σ H) ∧ ∀ i m σ H, W i m σ H →
      ((Itz K a b).stop i H ∧ nx σ H) ∨ ((Itz K a b).go i H ∧ ∃ N : L2.St → Hp → Prop, (∀ σ' H', N σ' H' → ∃ m', m' < m ∧ W (i + 1) m' σ' H') ∧ ∀ v H', (Itz K a b).yld i H v H' → g v σ H' fun σ2 H2 => tb ⟨N, rt, nx, N⟩ σ2 H2) :=
  RZ.for_zipL (D := ⟨nx, rt, fun _ _ => False, fun _ _ => False⟩) hl Pv h0 hq hs hd
end
theorem getV {xs : List Int} {i : Nat} {x : V} (h : (xs.map V.int)[i]? = some x) : ∃ n, xs[i]? = some n ∧ x = .int n := by
  rw [List.getElem?_map] at h
  cases e : xs[i]? with
  | none => rw [e] at h; cases h
  | some n => rw [e] at h; exact ⟨n, rfl, (Option.some.inj h).symm⟩
theorem a_exz {K : PySem.W.Frag} {H : Hp} {a b : Addr} {xs ys : List V} {R : Addr → Addr → Prop} (h1 : SqL K H a xs) (h2 : SqL K H b ys) (q : R a b) : ∃ a' b' xs ys, [V.ref a, V.ref b] = [V.ref a', V.ref b'] ∧ SqL K H a' xs ∧ SqL K H b' ys ∧ R a' b' := ⟨a, b, xs, ys, rfl, h1, h2, q⟩
/-! ### a comprehension as a whole -/
section
variable {K : PySem.W.Frag} {σ : L2.St} {H : Hp} {Q : VK} {te tl : TE} {ta : TA} {vs : List Nat}
theorem c_same {a : Addr} {k : Nat} {xs : List V} (ys : List V) (hv : vs = [k]) (ht : ∀ R : VK, R (.ref a) H → tl σ H R) (hx : SqL K H a xs) (hlen : ys.length = xs.length) (hz : ys.length ≤ 1000000)
    (he : ∀ (j : Nat) (x : V), xs[j]? = some x → ∀ H' (R : VK), Same H H' → (∀ y H'', Same H' H'' → ys[j]? = some y → R y H'') → te ((wipe σ [k]).set k (some x)) H' R)
    (q : ∀ D H', H D = none → Same H H' → H' D = some (.lst ys) → Q (.ref D) H') : tLc (iList K tl) (gName k) tYes te vs σ H Q := by
  subst hv
  refine ht (fun x H1 => ∃ a, x = .ref a ∧ (∃ xs, SqL K H1 a xs) ∧ _) ⟨a, rfl, ⟨xs, hx⟩, ?_⟩
  exact lc_same hx hlen hz he q
theorem c_rng {k n : Nat} (ys : List V) (hv : vs = [k]) (hn : n ≤ 1000000) (ht : ∀ R : List V → Hp → Prop, R [.int (n : Int)] H → ta σ H R) (hlen : ys.length = n)
    (he : ∀ j : Nat, j < n → ∀ H' (R : VK), Same H H' → (∀ y H'', Same H' H'' → ys[j]? = some y → R y H'') → te ((wipe σ [k]).set k (some (.int (j : Int)))) H' R)
    (q : ∀ D H', H D = none → Same H H' → H' D = some (.lst ys) → Q (.ref D) H') : tLc (iRng1 ta) (gName k) tYes te vs σ H Q := by
  subst hv
  refine ht (fun vs H1 => ∃ j : Int, vs = [.int j] ∧ -(2 ^ 62) ≤ j ∧ j < 2 ^ 62 ∧ _) ⟨(n : Int), rfl, by omega, by omega, ?_⟩
  rw [Int.toNat_natCast]
  exact lr_same hlen (by omega) he q
theorem c_draw {st c : Addr} {k n : Nat} (P : V → Prop) (hv : vs = [k]) (hn : n ≤ 1000000) (ht : ∀ R : List V → Hp → Prop, R [.int (n : Int)] H → ta σ H R) (s0 : StA H st c)
    (he : ∀ j : Nat, j < n → ∀ H' (R : VK), StA H' st c → Gd st c H H' → (∀ y H'', P y → StA H'' st c → Gd st c H' H'' → R y H'') → te ((wipe σ [k]).set k (some (.int (j : Int)))) H' R)
    (q : ∀ D H' ys, H D = none → StA H' st c → Gd st c H H' → ys.length = n → (∀ y ∈ ys, P y) → Ob st c H' D (.lst ys) → Q (.ref D) H') : tLc (iRng1 ta) (gName k) tYes te vs σ H Q := by
  subst hv
  refine ht (fun vs H1 => ∃ j : Int, vs = [.int j] ∧ -(2 ^ 62) ≤ j ∧ j < 2 ^ 62 ∧ _) ⟨(n : Int), rfl, by omega, by omega, ?_⟩
  rw [Int.toNat_natCast]
  exact lr_draw hn s0 he q
end
/-! ### more readings -/
theorem cdw {i j : Int} (h0 : 0 < j) (h1 : j < 9223372036854775808) : CDivW i j := by
  refine ⟨h0, ?_⟩
  have hn : j.natAbs ≠ 0 := by omega
  have h2 : j.natAbs < 2 ^ 63 := by
    have : (2 : Nat) ^ 63 = 9223372036854775808 := by decide
    omega
  have := (Nat.log2_lt hn).mpr h2
  omega
def In (lo hi : Int) (l : List Int) : Prop := ∀ e ∈ l, lo ≤ e ∧ e < hi
theorem in_getD {lo hi x : Int} {l : List Int} (h : In lo hi l) (h0 : 0 ≤ x) (h1 : x < (l.length : Int)) : lo ≤ l.getD x.toNat 0 ∧ l.getD x.toNat 0 < hi := by
  have hx : x.toNat < l.length := by omega
  rw [List.getD_eq_getElem?_getD, List.getElem?_eq_getElem hx]
  exact h _ (List.getElem_mem hx)
theorem at0 {α : Type} {y : α} {xs : List α} : atI (y :: xs) 0 = some y := atI_nat (j := 0) rfl
theorem at_int {l : List Int} {x : Int} (h0 : 0 ≤ x) (h1 : x < (l.length : Int)) : atI (l.map V.int) x = some (.int (l.getD x.toNat 0)) := by
  have hx : x.toNat < l.length := by omega
  have e := atI_nat (xs := l.map V.int) (j := x.toNat) (v := .int (l.getD x.toNat 0)) (by
    rw [List.getElem?_map, List.getElem?_eq_getElem hx, List.getD_eq_getElem?_getD, List.getElem?_eq_getElem hx]
    rfl)
  have z : ((x.toNat : Nat) : Int) = x := Int.toNat_of_nonneg h0
  rw [z] at e
  exact e
section
variable {σ : L2.St} {H : Hp} {v y : V} {tt : TT} {t1 : TS} {nx bk ct : L2.St → Hp → Prop} {rt : VK}
theorem a_setL0 {a : Addr} {xs : List V} {R : Hp → Prop} (h : H a = some (.lst (y :: xs))) (q : R (upd H a (.lst (v :: xs)))) : rSetL (.ref a) (.int 0) v H R :=
  a_setL (k := 0) h (by rw [List.length_cons]; omega) q
theorem a_setL1 {a : Addr} {z : V} {xs : List V} {R : Hp → Prop} (h : H a = some (.lst (z :: y :: xs))) (q : R (upd H a (.lst (z :: v :: xs)))) : rSetL (.ref a) (.int 1) v H R :=
  a_setL (k := 1) h (by rw [List.length_cons, List.length_cons]; omega) q
theorem a_while2 (A : L2.St → Hp → Prop) (post : ∀ σ H, A σ H → nx σ H) (W : Nat → L2.St → Hp → Prop) (m0 : Nat) (h0 : W m0 σ H)
    (q : ∀ nx' : L2.St → Hp → Prop, (∀ σ H, A σ H → nx' σ H) → ∀ m σ H, W m σ H → tt σ H fun b H1 => if b = true then ∃ N : L2.St → Hp → Prop, (∀ σ' H', N σ' H' → ∃ m', m' < m ∧ W m' σ' H') ∧ t1 ⟨N, rt, nx', N⟩ σ H1 else nx' σ H1) :
    tWhile tt t1 ⟨nx, rt, bk, ct⟩ σ H := ⟨W, ⟨m0, h0⟩, q nx post⟩
end
end Lk

namespace Lk
open PySem PySem.Spec PyProof.Rows L2
/-! ### the law's own def, where it is known that no repr is under way around it -/
def FreeA (A : Around) : Prop := A.guards = some []
/-- what a call promises at one surrounding -/
def RunsAt (P : Program) (w : World) (K : PySem.W.Frag) (mg : Str → Option Value) (base : Heap) (CX : CXT) (k : Nat) (f : Addr) (fd : FuncData) (ps : List Str) (sp : Sp) : Prop :=
  ∀ (A : Around) (outer : List Env) (s : Shared) (H : Hp) (args : Args) (us : List Value) (vs : List V) (Q : VK) (E : XK), FreeA A → Room k A → Env0 P w K mg base A outer s H → BindsTo s fd args (ps.zip us) → Vals vs us → sp vs H Q E →
    codeAny (model P w) A (.call (.ref f) args) (CR CX outer P w H s Q E) s
theorem runs_of {P : Program} {w : World} {K : PySem.W.Frag} {mg : Str → Option Value} {base : Heap} {CX : CXT} {k : Nat} {f : Addr} {x qual : Str} {st : Stmt} {fd : FuncData} {N ps : List Str} {sp : Sp} (F : Fun K x qual st f fd) (S : FnScope N ps (defScope st))
    (len : ∀ vs H Q E, sp vs H Q E → vs.length = ps.length)
    (body : ∀ (cdv : Value) (A : Around) (outer : List Env) (s : Shared) (H : Hp) (vs : List V) (Q : VK) (E : XK), FreeA A → Room k (A.deeper (envOfC qual (defScope st) s.heap.objs.size f cdv)) → sp vs H Q E →
      ∃ t, PSs (cxOf CX P w K mg base N qual (defScope st) f cdv A outer s H E).nox (defBody st) t ∧ t { nx := fun _ H' => Q .non H', rt := Q } (start N vs) H) : RunsAt P w K mg base CX (k + 1) f fd ps sp := by
  obtain ⟨oc, od, kV, doc, pm, an, cdv, ct, osl, efd, lk, hcode⟩ := F.ex
  subst efd
  intro A outer s H args us vs Q E fa room env bind rel want
  have nargs := len _ _ _ _ want
  have kin : K.In s.heap := env.mod.kin.keeps fun b o e => (env.bs b o e).1
  have nol : s.heap.NoLimit := env.mod.nolimit.keeps fun b o e => (env.bs b o e).1
  have cells : ∀ y ∈ ps.zip us, (defScope st).names.lookup y.1 = some .local ∨ ((defScope st).names.lookup y.1 = some .cell ∧ ((cellsFrom (s.heap.objs.size + 1) (defScope st).names []).lookup y.1).isSome = true) := by
    rintro ⟨n, v⟩ hy
    refine (S.par n (List.of_mem_zip hy).1).imp id fun q => ?_
    exact ⟨q, PySem.W.cellsFrom_some _ _ _ (.inl q)⟩
  refine codeAny_call_function room.depth (kin _ _ lk) rfl S.co S.gen rfl (PySem.W.codeRec_of kin hcode) (bind _ _ _ _ ?_)
  refine wpAny_newFunctionEnv_cells S.kind cells ?_
  intro e1 h1 s1 h2
  subst h1
  refine ⟨nol.keeps h2.toInCall.keep, codeAny_func ?_⟩
  obtain ⟨t, ht, want'⟩ := body cdv A outer s H vs Q E fa (room.deeper _) want
  have J := inv_start (CX := CX) (P := P) (w := w) (E := E) (cd := cdv) (qual := qual) (f := f) S room.hd env nargs rel h2
  refine wpAny_mono (ht.nox.run [] s1 (start N vs) H _ J want') ?_ fun _ _ z => z
  intro fl s' hs
  cases fl with
  | ret u =>
    obtain ⟨v, σ', H', J', rv, q⟩ := hs
    exact ⟨v, H', J'.os, J'.bare, J'.base, J'.hok, rv, q⟩
  | next =>
    obtain ⟨σ', H', J', q⟩ := hs
    exact ⟨V.non, H', J'.os, J'.bare, J'.base, J'.hok, rfl, q⟩
  | brk => exact hs.elim fun _ h => h.elim fun _ h => h.2.elim
  | cont => exact hs.elim fun _ h => h.elim fun _ h => h.2.elim
/-! ### the head for such a law -/
section
variable {P : Program} {w : World} {K : PySem.W.Frag} {mg mb : Str → Option Value} {CX : CXT} {k : Nat} {fa a : Addr} {fd : FuncData} {x : Str} {sp : Sp} {s₁ : Shared} {vs : List Value} {ns : List Int}
abbrev lawEnd (s₁ : Shared) : Result → Shared → Prop := fun r s' => r = .ok (.ret (.bool true)) ∧ OldK s₁.heap s'.heap ∧ s'.os = s₁.os ∧ AllBare s'.gens
/-- from an abstract heap in which at most the script stands -/
theorem law_from (KX : K.In s₁.heap) (hns : s₁.heap.Ns mainGlobals mg) (hb : s₁.heap.Ns builtinsNs mb) (hbb : ∀ x : Str, x ≠ "__name__" → mb x = bootBuiltins x) (hlim : s₁.heap.NoLimit) (hg : s₁.gens = #[])
    (ha : s₁.heap.get? a = some { cls := .type "list", data := .seq vs.toArray }) (room : Room k callerA)
    (F : ∀ base : Heap, K.In base → base.Ns mainGlobals mg → RunsAt P w K mg base CX k fa fd [x] sp) (hbind : ∀ (s : Shared) (u : Value), BindsTo s fd ⟨[u], []⟩ [(x, u)])
    (H : Hp) (hO : Only H) (hok : HOk P w H s₁.heap) (hA : ∀ b, H b ≠ none → b = a) (hK : H a ≠ none → K.lookup a = none) (want : sp [.ref a] H (fun v _ => v = .bl true) fun _ _ _ => False)
    (hCX : ∀ e s', CX [] H s₁ (fun _ _ _ => False) e s' → False) : codeAny (model P w) callerA (.call (.ref fa) ⟨[.ref a], []⟩) (lawEnd s₁) s₁ := by
  have only : ∀ {b : Addr}, b ≠ a → H b = none := fun {b} hb => by
    cases q : H b with
    | none => rfl
    | some u => exact absurd (hA b (by rw [q]; exact nofun)) hb
  have dicts : ∀ {b : Addr} {o : Obj} {es : Array DictEntry} {ep : Nat}, s₁.heap.get? b = some o → o.data = .dict es ep → H b = none := by
    intro b o es ep e d
    by_cases hb : b = a
    · subst hb
      obtain rfl := Option.some.inj (ha.symm.trans e)
      exact nomatch d
    · exact only hb
  have spaces : ∀ {b : Addr} {m : Str → Option Value}, s₁.heap.Ns b m → (hidT s₁.heap H).Ns b m := by
    rintro b m ⟨o, es, ep, e, d, r⟩
    exact ⟨o, es, ep, hidT_get e (dicts e d), d, r⟩
  have kin : K.In (hidT s₁.heap H) := by
    intro b o e
    refine hidT_get (KX b o e) ?_
    by_cases hb : b = a
    · subst hb
      cases q : H b with
      | none => rfl
      | some u =>
        have z := hK (by rw [q]; exact nofun)
        rw [e] at z
        exact nomatch z
    · exact only hb
  obtain ⟨mc, l1, l2⟩ := hlim
  have env : Env0 P w K mg (hidT s₁.heap H) callerA [] s₁ H :=
    ⟨rfl, ⟨kin, spaces hns, ⟨mb, spaces hb, hbb⟩, ⟨mc, spaces l1, l2⟩⟩, fun b o e => of_hidT e, Nat.le_of_eq (hidT_size _ _), trivial, fun b z => absurd (show b ∈ ([] : List Addr) from z) (by simp), hok, .of_eq hg⟩
  refine codeAny_mono (F _ kin (spaces hns) callerA [] s₁ H ⟨[.ref a], []⟩ [.ref a] [.ref a] _ _ rfl room env (hbind s₁ (.ref a)) (.cons rfl .nil) want) ?_
  intro r s' h
  cases r with
  | error e => exact (hCX e s' h).elim
  | ok fl =>
    cases fl with
    | ret u =>
      obtain ⟨v, H', os, bare, un, hok', rv, rfl⟩ := h
      obtain rfl : u = Value.bool true := rv
      refine ⟨rfl, OldK.of_keep ?_, os, bare⟩
      intro b o e
      rcases hO b with z | ⟨ob, xs, z⟩
      · exact un.keep b o e z (fun q => absurd (show b ∈ ([] : List Addr) from q) (by simp)) (by simp)
      · obtain ⟨e1, _⟩ := hok b _ z
        obtain ⟨e2, _⟩ := hok' b _ (un.frzs b ob _ z)
        obtain rfl := Option.some.inj (e1.symm.trans e)
        exact e2
    | next => exact False.elim h
    | brk => exact False.elim h
    | cont => exact False.elim h
theorem ints_vals : ∀ {vs : List Value} {ns : List Int}, IntsAre vs ns → Vals (ns.map V.int) vs
  | _, _, .nil => .nil
  | _, _, .cons n t h => .cons ⟨t, rfl⟩ (ints_vals h)
theorem law_runs (KX : K.In s₁.heap) (hns : s₁.heap.Ns mainGlobals mg) (hb : s₁.heap.Ns builtinsNs mb) (hbb : ∀ x : Str, x ≠ "__name__" → mb x = bootBuiltins x) (hlim : s₁.heap.NoLimit) (hg : s₁.gens = #[])
    (ha : s₁.heap.get? a = some { cls := .type "list", data := .seq vs.toArray }) (hi : IntsAre vs ns) (hl : ns.length ≤ sizeLine) (room : Room k callerA)
    (F : ∀ base : Heap, K.In base → base.Ns mainGlobals mg → RunsAt P w K mg base CX k fa fd [x] sp) (hbind : ∀ (s : Shared) (u : Value), BindsTo s fd ⟨[u], []⟩ [(x, u)])
    (hsp : ∀ H : Hp, Only H → SqL K H a (ns.map V.int) → sp [.ref a] H (fun v _ => v = .bl true) fun _ _ _ => False)
    (hCX : ∀ H e s', CX [] H s₁ (fun _ _ _ => False) e s' → False) : codeAny (model P w) callerA (.call (.ref fa) ⟨[.ref a], []⟩) (lawEnd s₁) s₁ := by
  have rel := ints_vals hi
  have nlen := hi.length
  by_cases hk : K.lookup a = none
  · have hS : SqL K (fun b => if b = a then some (.frz { cls := .type "list", data := .seq vs.toArray } (.lst (ns.map V.int))) else none) a (ns.map V.int) := .inl (.inr ⟨_, if_pos rfl⟩)
    have hO : Only (fun b => if b = a then some (.frz { cls := .type "list", data := .seq vs.toArray } (.lst (ns.map V.int))) else none) := by
      intro b
      by_cases hb : b = a
      · exact .inr ⟨_, _, if_pos hb⟩
      · exact .inl (if_neg hb)
    refine law_from KX hns hb hbb hlim hg ha room F hbind _ hO ?_ ?_ (fun _ => hk) (hsp _ hO hS) (hCX _)
    · intro b u z
      by_cases hb : b = a
      · subst hb
        obtain rfl := Option.some.inj ((if_pos rfl).symm.trans z)
        exact ⟨ha, by rw [List.length_map]; exact hl, vs, _, rel, ha⟩
      · exact nomatch (if_neg hb).symm.trans z
    · intro b z
      by_cases hb : b = a
      · exact hb
      · exact absurd (if_neg hb) z
  · obtain ⟨o, ho⟩ := Option.ne_none_iff_exists'.mp hk
    obtain rfl := Option.some.inj (ha.symm.trans (KX a o ho))
    have hS : SqL K (fun _ => none) a (ns.map V.int) := .inr ⟨_, vs.toArray, _, ho, rfl, rfl, rfl, by rw [List.size_toArray, nlen]; exact hl, by simpa using rel⟩
    have hO : Only (fun _ => none) := fun _ => .inl rfl
    exact law_from KX hns hb hbb hlim hg ha room F hbind _ hO (fun b u z => nomatch (show (none : Option HO) = some u from z)) (fun b z => absurd rfl z) (fun z => absurd rfl z) (hsp _ hO hS) (hCX _)
end
theorem walk_free {l : PySem.W.OpenLaw} {n k : Nat} {q : Program} {loose : List Str} {XP : (Str → Option Value) → Heap → Prop} {YP : World → Heap → Prop} {d : DefRec} {K : Params → PySem.W.Frag} {CX : CXT} {sp : PySem.W.Frag → Sp} {x : Str}
    (hn : l.most = some n) (hn2 : n ≤ sizeLine) (hdf : d.params.defaults = []) (room : Room k callerA) (hY : ∀ (w : World) (h : Heap), YP w h → (K w.params).In h)
    (F : ∀ (w : World) (mg : Str → Option Value) (fa : Addr) (h : Heap), (K w.params).In h → h.Ns mainGlobals mg → mg d.name = some (.ref fa) →
      ∃ fd : FuncData, (∀ (s : Shared) (u : Value), BindsTo s fd ⟨[u], []⟩ [(x, u)]) ∧ ∀ base : Heap, (K w.params).In base → base.Ns mainGlobals mg → RunsAt l.prog w (K w.params) mg base CX k fa fd [x] (sp (K w.params)))
    (hsp : ∀ (K : PySem.W.Frag) (H : Hp) (a : Addr) (ns : List Int), ns.length ≤ n → Only H → SqL K H a (ns.map V.int) → sp K [.ref a] H (fun v _ => v = .bl true) fun _ _ _ => False)
    (hCX : ∀ (H : Hp) (s : Shared) (e : Value) (s' : Shared), CX [] H s (fun _ _ _ => False) e s' → False) :
    PySem.W.WalkO q loose XP YP l.row.toRowW d [] (fun f vs => PySem.call f vs) := by
  refine Att.attach_call hn hdf ?_
  intro w s₀ s₁ mg mb fa o pm cd doc a vs ns G Y ho hd hcd hmg hobj hints hlen hg
  obtain ⟨fd, hb, hF⟩ := F w mg fa _ (hY w _ Y) G.T.g hmg
  exact law_runs (hY w _ Y) G.T.g G.T.b G.T.builtins G.T.nolimit hg hobj hints (Nat.le_trans hlen hn2) room hF hb (fun H hO hS => hsp _ H a ns hlen hO hS) fun H e s' => hCX H s₁ e s'
/-! ### repr -/
def rRep (K : PySem.W.Frag) : List V → Hp → VK → Prop := fun vs H Q => (vs = [.non] ∧ Q (.str "None") H) ∨ ∃ (a : Addr) (d : PyData), vs = [.ref a] ∧ Dp K H (.ref a) d ∧ d.showable = true ∧ d.hasDict = false ∧ d.depth ≤ 20 ∧ d.shown.length ≤ sizeLine ∧ Q (.str d.shown) H
theorem call_rep {X : Cx} {K : PySem.W.Frag} (hK : X.K = K) (hu : X.A.units + 64 < cLine) (hG : FreeA X.A) : CallR X (.builtin "repr") (rRep K) := by
  subst hK
  intro pins s σ H vs us Q I r h
  rcases h with ⟨rfl, q⟩ | ⟨a, d, rfl, hd, h1, h2, h3, h4, q⟩
  · cases r with
    | cons r1 r2 =>
    cases r2
    cases r1
    exact PySem.P.repr_of_none ⟨.str _, H, I.tok _, ⟨_, rfl⟩, q⟩
  rw [Vals.ref1 r]
  obtain ⟨as, rd⟩ := Dp.reads I d _ _ hd (rfl : RelV (.ref a) (.ref a))
  refine repr_of_reads' rd h1 (fun z => by rw [h2] at z; exact nomatch z) hG (by omega) (fun _ _ e => e) (fun h' u tk k => ?_) h4
  exact ⟨.str d.shown, H, I.kept k, ⟨u, rfl⟩, q⟩
end Lk

namespace Lk
open PySem PySem.Spec PyProof.Rows L2
/-! ### data: ==, repr, isinstance -/
theorem hu64 {A : Around} {k : Nat} (hr : Room k A) : A.units + 64 < cLine := by
  have := hr.un
  omega
section
variable {X : Cx} {K : PySem.W.Frag}
theorem eqD_ (h : X.K = K) (hu : X.A.units + 64 < cLine) : OpR X (compareOp .Eq) (rEqD K) := by subst h; exact op_eqD hu
theorem neD_ (h : X.K = K) (hu : X.A.units + 64 < cLine) : OpR X (compareOp .NotEq) (rNeD K) := by subst h; exact op_neD hu
theorem isi_ (h : X.K = K) : CallR X (.builtin "isinstance") (rIsi K) := by subst h; exact call_isi
end
section
variable {K : PySem.W.Frag} {H : Hp} {Q : VK} {x y : V}
theorem a_isi {T U : String} {b : Bool} (ty : TyX K H x (.type T)) (h : kitB T U = some b) (q : Q (.bl b) H) : rIsi K [x, .ty U] H Q := ⟨x, .ty U, .type T, .type U, b, rfl, .ty U, ty, kit_ty h, q⟩
theorem ty_tup {a : Addr} {xs : List V} (h : H a = some (.tup xs)) : TyX K H (.ref a) (.type "tuple") := .base (.tup h)
theorem ty_lst {a : Addr} {xs : List V} (h : H a = some (.lst xs)) : TyX K H (.ref a) (.type "list") := .base (.lst h)
theorem ty_bl {b : Bool} : TyX K H (.bl b) (.type "bool") := .base (.bl b)
theorem ty_int {i : Int} : TyX K H (.int i) (.type "int") := .base (.int i)
theorem kb_tt : kitB "tuple" "tuple" = some true := by decide +kernel
theorem kb_ll : kitB "list" "list" = some true := by decide +kernel
theorem kb_bb : kitB "bool" "bool" = some true := by decide +kernel
theorem kb_ib : kitB "int" "bool" = some false := by decide +kernel
theorem kb_ii : kitB "int" "int" = some true := by decide +kernel
theorem a_eqD {d e : PyData} (h1 : Dp K H x d) (h2 : Dp K H y e) (s1 : SeqAt.shaped d = true) (s2 : SeqAt.shaped e = true) (q : Q (.bl (PyData.eqv d e)) H) : rEqD K x y H Q := ⟨d, e, h1, h2, s1, s2, q⟩
theorem a_neD {d e : PyData} (h1 : Dp K H x d) (h2 : Dp K H y e) (s1 : SeqAt.shaped d = true) (s2 : SeqAt.shaped e = true) (q : Q (.bl (!PyData.eqv d e)) H) : rNeD K x y H Q := ⟨d, e, h1, h2, s1, s2, q⟩
end
/-! ### a comprehension of new objects -/
section
variable {K : PySem.W.Frag} {σ : L2.St} {H : Hp} {Q : VK} {te tl : TE} {vs : List Nat}
theorem c_new {a : Addr} {k : Nat} {xs : List V} (S : Nat → HO → Prop) (hv : vs = [k]) (ht : ∀ R : VK, R (.ref a) H → tl σ H R) (hx : SqL K H a xs) (hz : xs.length ≤ 1000000)
    (he : ∀ (j : Nat) (x : V), xs[j]? = some x → ∀ H' (R : VK), Same H H' → (∀ b H'' o, Same H' H'' → H' b = none → H'' b = some o → S j o → R (.ref b) H'') → te ((wipe σ [k]).set k (some x)) H' R)
    (q : ∀ D H' (as : List Addr), H D = none → Same H H' → as.length = xs.length → H' D = some (.lst (as.map V.ref)) → (∀ (j : Nat) (b : Addr), as[j]? = some b → ∃ o, H' b = some o ∧ S j o) → Q (.ref D) H') : tLc (iList K tl) (gName k) tYes te vs σ H Q := by
  subst hv
  refine ht (fun x H1 => ∃ a, x = .ref a ∧ (∃ xs, SqL K H1 a xs) ∧ _) ⟨a, rfl, ⟨xs, hx⟩, ?_⟩
  intro D hD
  refine lc_list (K := K) (a := a) (xs := xs) (Qd := Q (.ref D)) (fun i H' => Same H H' ∧ i ≤ xs.length ∧ ∃ as : List Addr, as.length = i ∧ H' D = some (.lst (as.map V.ref)) ∧ ∀ (j : Nat) (b : Addr), as[j]? = some b → ∃ o, H' b = some o ∧ S j o ∧ b ≠ D)
    ⟨same_upd hD, Nat.zero_le _, [], rfl, upd_same, fun j b e => by simp at e⟩ (fun i H' _ h => h.1.seq hx) ?_ ?_
  · rintro i x H' hi ⟨s, hil, as, e1, e2, e3⟩
    refine a_gname ?_
    refine ⟨by simp [wipe], a_yes (ift ?_)⟩
    refine he i x hi H' _ s fun b H'' o s2 nb eb sb => ?_
    have hi2 := (List.getElem?_eq_some_iff.mp hi).1
    have nbD : b ≠ D := fun z => by rw [z, e2] at nb; exact nomatch nb
    refine ⟨_, s2 _ _ e2, szl (by rw [List.length_map]; omega), smut (s.trans s2) hD, by omega, as ++ [b], by rw [List.length_append, e1]; rfl, by rw [upd_same, List.map_append]; rfl, fun j c ec => ?_⟩
    by_cases hj : j < as.length
    · rw [List.getElem?_append_left hj] at ec
      obtain ⟨u, h1, h2, h3⟩ := e3 j c ec
      exact ⟨u, by rw [upd_ne h3]; exact s2 _ _ h1, h2, h3⟩
    · have hj2 : j = as.length := by
        have := (List.getElem?_eq_some_iff.mp ec).1
        rw [List.length_append] at this
        have z : [b].length = 1 := rfl
        omega
      subst hj2
      rw [List.getElem?_append_right (Nat.le_refl _), Nat.sub_self] at ec
      obtain rfl : b = c := Option.some.inj ec
      exact ⟨o, by rw [upd_ne nbD]; exact eb, by rw [e1]; exact sb, nbD⟩
  · rintro H' ⟨s, _, as, e1, e2, e3⟩
    refine q D H' as hD s e1 e2 fun j b e => ?_
    obtain ⟨o, h1, h2, _⟩ := e3 j b e
    exact ⟨o, h1, h2⟩
end
/-- lists of ints as data -/
def dInts (l : List Int) : List PyData := l.map PyData.int
theorem dp_ints {K : PySem.W.Frag} {H : Hp} : ∀ l : List Int, DpAll K H (l.map V.int) (dInts l)
  | [] => .nil
  | i :: l => .cons (.int i) (dp_ints l)
theorem dp_lst {K : PySem.W.Frag} {H : Hp} {a : Addr} {l : List Int} (h : H a = some (.lst (l.map V.int))) : Dp K H (.ref a) (.list (dInts l)) := .lst (sql h) (dp_ints l)
/-! ### how long a repr is -/
mutual
def costD : PyData → Nat
  | .none => 5
  | .bool _ => 5
  | .int _ => 42
  | .str x => (reprText x).length
  | .list xs => 2 + costL xs
  | .tuple xs => 3 + costL xs
  | .dict _ => 0
def costL : List PyData → Nat
  | [] => 0
  | x :: xs => (costD x + 2) + costL xs
end
mutual
def tame : PyData → Bool
  | .none => true
  | .bool _ => true
  | .int i => decide (i.natAbs < 10 ^ 38)
  | .str _ => true
  | .list xs => tameL xs
  | .tuple xs => tameL xs
  | .dict _ => false
def tameL : List PyData → Bool
  | [] => true
  | x :: xs => tame x && tameL xs
end
theorem textFrom_le : ∀ (ts : List Str) (k : Nat) (acc : Str), (textFrom k acc ts).length ≤ acc.length + piled ts
  | [], _, acc => Nat.le_add_right _ _
  | t :: r, k, acc => by
    refine Nat.le_trans (textFrom_le r (k + 1) (acc ++ (if k > 0 then ", " else "" : String) ++ t)) ?_
    rw [strLen_append, strLen_append, piled_cons]
    have : (Str.ofString (if k > 0 then ", " else "" : String)).length ≤ 2 := by split <;> decide
    omega
theorem listText_le (ts : List Str) : (listText ts).length ≤ 2 + piled ts := by
  unfold listText
  rw [strLen_append]
  have h := textFrom_le ts 0 "["
  have e1 : (("[" : String) : Str).length = 1 := rfl
  have e2 : (("]" : String) : Str).length = 1 := rfl
  rw [e1] at h
  rw [e2]
  omega
theorem join_le : ∀ ts : List Str, (Str.join ", " ts).length ≤ piled ts := fun ts => by
  cases ts with
  | nil => exact Nat.zero_le _
  | cons t r =>
    have := join_length_add (t :: r) nofun
    omega
theorem tupleText_le (ts : List Str) : (tupleText ts).length ≤ 3 + piled ts := by
  unfold tupleText
  rw [strLen_append, strLen_append]
  have h := join_le ts
  have e1 : (("(" : String) : Str).length = 1 := rfl
  have e2 : (Str.ofString (if ts.length == 1 then ",)" else ")" : String)).length ≤ 2 := by split <;> decide
  rw [e1]
  omega
mutual
theorem shown_le : ∀ d : PyData, tame d = true → d.shown.length ≤ costD d ∧ d.showable = true ∧ d.hasDict = false
  | .none, _ => ⟨by decide, by simp only [PyData.showable], by simp only [PyData.hasDict]⟩
  | .bool b, _ => ⟨by cases b <;> decide, by simp only [PyData.showable], by simp only [PyData.hasDict]⟩
  | .int i, h => by
    unfold tame at h
    have h' : i.natAbs < 10 ^ 38 := of_decide_eq_true h
    refine ⟨?_, ?_, by simp only [PyData.hasDict]⟩
    · have e := int_text_length_le10 (k := 38) (by decide) h'
      show (Str.ofString (toString i)).length ≤ 42
      rw [PySem.ofString_length]
      omega
    · unfold PyData.showable
      refine decide_eq_true ?_
      by_cases h0 : i.natAbs = 0
      · rw [h0]
        decide
      · have h3 : (10 : Nat) ^ 38 ≤ 2 ^ 1920 := by decide +kernel
        exact (Nat.log2_lt h0).mpr (by omega)
  | .str x, _ => ⟨by unfold PyData.shown costD; exact Nat.le_refl _, by simp only [PyData.showable], by simp only [PyData.hasDict]⟩
  | .list xs, h => by
    unfold tame at h
    obtain ⟨h1, h2, h3⟩ := shownL_le xs h
    refine ⟨?_, by unfold PyData.showable; exact h2, by unfold PyData.hasDict; exact h3⟩
    unfold PyData.shown costD
    have := listText_le (PyData.shownAll xs)
    omega
  | .tuple xs, h => by
    unfold tame at h
    obtain ⟨h1, h2, h3⟩ := shownL_le xs h
    refine ⟨?_, by unfold PyData.showable; exact h2, by unfold PyData.hasDict; exact h3⟩
    unfold PyData.shown costD
    have := tupleText_le (PyData.shownAll xs)
    omega
  | .dict _, h => by
    unfold tame at h
    exact nomatch h
theorem shownL_le : ∀ xs : List PyData, tameL xs = true → piled (PyData.shownAll xs) ≤ costL xs ∧ PyData.showableAll xs = true ∧ PyData.hasDictAll xs = false
  | [], _ => ⟨Nat.zero_le _, by unfold PyData.showableAll; rfl, by unfold PyData.hasDictAll; rfl⟩
  | x :: xs, h => by
    unfold tameL at h
    obtain ⟨a, b⟩ := Bool.and_eq_true_iff.mp h
    obtain ⟨h1, h2, h3⟩ := shown_le x a
    obtain ⟨g1, g2, g3⟩ := shownL_le xs b
    refine ⟨?_, ?_, ?_⟩
    · unfold PyData.shownAll costL
      rw [piled_cons]
      omega
    · unfold PyData.showableAll
      rw [h2, g2]
      rfl
    · unfold PyData.hasDictAll
      rw [h3, g3]
      rfl
end
theorem a_rep {K : PySem.W.Frag} {H : Hp} {Q : VK} {a : Addr} {d : PyData} (h : Dp K H (.ref a) d) (ht : tame d = true) (hc : costD d ≤ 1000000) (hd : d.depth ≤ 20) (q : Q (.str d.shown) H) : rRep K [.ref a] H Q := by
  obtain ⟨h1, h2, h3⟩ := shown_le d ht
  exact .inr ⟨a, d, rfl, h, h2, h3, hd, sz (by omega), q⟩
theorem a_repV {K : PySem.W.Frag} {H : Hp} {Q : VK} {v : V} {d : PyData} (h : Dp K H v d) (hr : d = .none ∨ ∃ a, v = .ref a) (ht : tame d = true) (hc : costD d ≤ 1000000) (hd : d.depth ≤ 20) (q : Q (.str d.shown) H) : rRep K [v] H Q := by
  rcases hr with rfl | ⟨a, rfl⟩
  · cases h
    exact .inl ⟨rfl, q⟩
  · exact a_rep h ht hc hd q
theorem costL_ints : ∀ l : List Int, costL (dInts l) = 44 * l.length
  | [] => rfl
  | i :: l => by
    unfold dInts
    rw [List.map_cons]
    unfold costL costD
    have e := costL_ints l
    unfold dInts at e
    rw [e, List.length_cons]
    omega
theorem tameL_ints {lo hi : Int} (h1 : -1000000000000 ≤ lo) (h2 : hi ≤ 1000000000000) : ∀ l : List Int, In lo hi l → tameL (dInts l) = true
  | [], _ => rfl
  | i :: l, h => by
    unfold dInts
    rw [List.map_cons]
    unfold tameL tame
    have e := tameL_ints h1 h2 l fun x hx => h x (List.mem_cons_of_mem _ hx)
    unfold dInts at e
    have b := h i List.mem_cons_self
    have b2 : i.natAbs < 10 ^ 38 := by
      have z : (10 : Nat) ^ 38 = 100000000000000000000000000000000000000 := by decide +kernel
      omega
    rw [e, decide_eq_true b2]
    rfl
mutual
theorem eqv_self : ∀ d : PyData, d.hasDict = false → PyData.eqv d d = true
  | .none, _ => by unfold PyData.eqv; rfl
  | .bool b, _ => by unfold PyData.eqv; exact beq_self_eq_true b
  | .int i, _ => by unfold PyData.eqv; exact beq_self_eq_true i
  | .str x, _ => by unfold PyData.eqv; exact beq_self_eq_true x
  | .list xs, h => by
    unfold PyData.eqv
    exact eqvL_self xs (by unfold PyData.hasDict at h; exact h)
  | .tuple xs, h => by
    unfold PyData.eqv
    exact eqvL_self xs (by unfold PyData.hasDict at h; exact h)
  | .dict _, h => by
    unfold PyData.hasDict at h
    exact nomatch h
theorem eqvL_self : ∀ xs : List PyData, PyData.hasDictAll xs = false → PyData.eqvAll xs xs = true
  | [], _ => by unfold PyData.eqvAll; rfl
  | x :: xs, h => by
    unfold PyData.hasDictAll at h
    obtain ⟨a, b⟩ := Bool.or_eq_false_iff.mp h
    unfold PyData.eqvAll
    rw [eqv_self x a, eqvL_self xs b]
    rfl
end
mutual
def flatTo : Nat → PyData → Bool
  | _, .none => true
  | _, .bool _ => true
  | _, .int _ => true
  | n + 1, .list xs => flatToL n xs
  | n + 1, .tuple xs => flatToL n xs
  | _, .str x => (PyData.str x).canLay0
  | _, _ => false
def flatToL : Nat → List PyData → Bool
  | _, [] => true
  | n, x :: xs => flatTo n x && flatToL n xs
end
mutual
theorem flat_ok : ∀ (n : Nat) (d : PyData), flatTo n d = true → d.canLay0 = true ∧ d.depth ≤ n ∧ d.hasDict = false
  | _, .none, _ => ⟨by unfold PyData.canLay0; rfl, by unfold PyData.depth; omega, by unfold PyData.hasDict; rfl⟩
  | _, .bool _, _ => ⟨by unfold PyData.canLay0; rfl, by unfold PyData.depth; omega, by unfold PyData.hasDict; rfl⟩
  | _, .int _, _ => ⟨by unfold PyData.canLay0; rfl, by unfold PyData.depth; omega, by unfold PyData.hasDict; rfl⟩
  | n + 1, .list xs, h => by
    unfold flatTo at h
    obtain ⟨a, b, c⟩ := flatL_ok n xs h
    exact ⟨by unfold PyData.canLay0; exact a, by unfold PyData.depth; omega, by unfold PyData.hasDict; exact c⟩
  | n + 1, .tuple xs, h => by
    unfold flatTo at h
    obtain ⟨a, b, c⟩ := flatL_ok n xs h
    exact ⟨by unfold PyData.canLay0; exact a, by unfold PyData.depth; omega, by unfold PyData.hasDict; exact c⟩
  | 0, .list _, h => by unfold flatTo at h; exact nomatch h
  | 0, .tuple _, h => by unfold flatTo at h; exact nomatch h
  | _, .str _, h => ⟨by unfold flatTo at h; exact h, by unfold PyData.depth; omega, by unfold PyData.hasDict; rfl⟩
  | _, .dict _, h => by unfold flatTo at h; exact nomatch h
theorem flatL_ok : ∀ (n : Nat) (xs : List PyData), flatToL n xs = true → PyData.canLayAll0 xs = true ∧ PyData.depthAll xs ≤ n ∧ PyData.hasDictAll xs = false
  | _, [], _ => ⟨by unfold PyData.canLayAll0; rfl, by unfold PyData.depthAll; omega, by unfold PyData.hasDictAll; rfl⟩
  | n, x :: xs, h => by
    unfold flatToL at h
    obtain ⟨a, b⟩ := Bool.and_eq_true_iff.mp h
    obtain ⟨h1, h2, h3⟩ := flat_ok n x a
    obtain ⟨g1, g2, g3⟩ := flatL_ok n xs b
    refine ⟨by unfold PyData.canLayAll0; rw [h1, g1]; rfl, by unfold PyData.depthAll; exact Nat.max_le.mpr ⟨h2, g2⟩, by unfold PyData.hasDictAll; rw [h3, g3]; rfl⟩
end
theorem shaped_flat {n : Nat} {d : PyData} (h : flatTo n d = true) (hn : n ≤ 64) : SeqAt.shaped d = true := by
  obtain ⟨a, b, _⟩ := flat_ok n d h
  unfold SeqAt.shaped
  rw [a, decide_eq_true (by omega)]
  rfl
theorem flatL_ints (n : Nat) : ∀ l : List Int, flatToL n (dInts l) = true
  | [] => by unfold dInts; rw [List.map_nil]; unfold flatToL; rfl
  | i :: l => by
    unfold dInts
    rw [List.map_cons]
    unfold flatToL
    have e := flatL_ints n l
    unfold dInts at e
    rw [e]
    cases n <;> (unfold flatTo; rfl)
theorem depthL_ints : ∀ l : List Int, PyData.depthAll (dInts l) = 0
  | [] => by unfold dInts; rw [List.map_nil]; unfold PyData.depthAll; rfl
  | i :: l => by
    unfold dInts
    rw [List.map_cons]
    unfold PyData.depthAll
    have e := depthL_ints l
    unfold dInts at e
    rw [e]
    unfold PyData.depth
    rfl
theorem depth_ints (l : List Int) : PyData.depth (.list (dInts l)) = 1 := by
  unfold PyData.depth
  rw [depthL_ints]
end Lk

/-! ### slices with a step -/
namespace Lk
open PySem PySem.Spec PyProof.Rows L2
def pickV (xs : List V) (lo hi st : Option Int) : List V :=
  (sliceRange (sliceBounds lo hi st xs.length).1 (sliceBounds lo hi st xs.length).2.1 (sliceBounds lo hi st xs.length).2.2).filterMap (xs[·]?)
theorem vals_at {xs : List V} : ∀ {us : List Value}, Vals xs us → ∀ i : Nat, (xs[i]? = none ∧ us[i]? = none) ∨ ∃ x u, xs[i]? = some x ∧ us[i]? = some u ∧ RelV x u := by
  induction xs with
  | nil => intro us r i; cases r; exact .inl ⟨by simp, by simp⟩
  | cons x xs ih =>
    intro us r i
    cases r with
    | cons r1 r2 =>
      cases i with
      | zero => exact .inr ⟨_, _, rfl, rfl, r1⟩
      | succ i =>
        simp only [List.getElem?_cons_succ]
        exact ih r2 i
theorem vals_pick {xs : List V} {us : List Value} (r : Vals xs us) : ∀ is : List Nat, Vals (is.filterMap (xs[·]?)) (is.filterMap (us.toArray[·]?))
  | [] => .nil
  | i :: is => by
    have ih := vals_pick r is
    rw [List.filterMap_cons, List.filterMap_cons]
    simp only [List.getElem?_toArray] at ih ⊢
    rcases vals_at r i with ⟨h1, h2⟩ | ⟨x, u, h1, h2, h3⟩
    · rw [h1, h2]
      exact ih
    · rw [h1, h2]
      exact .cons h3 ih
theorem pickV_length (xs : List V) (us : List Value) (r : Vals xs us) (lo hi st : Option Int) : (pickV xs lo hi st).length = (slicePick us.toArray lo hi st).size := by
  have hl := r.length
  have := (vals_pick r (sliceRange (sliceBounds lo hi st xs.length).1 (sliceBounds lo hi st xs.length).2.1 (sliceBounds lo hi st xs.length).2.2)).length
  unfold pickV slicePick
  rw [List.size_toArray, List.size_toArray, this, hl]
section
variable {X : Cx} {e : Expr} {te : TE} {lo hi : Option Expr} {tl th : TO} {pos p2 : Pos} {st : Expr} {ts : TO}
def tSl3 (K : PySem.W.Frag) (te : TE) (tl th ts : TO) : TE := fun σ H Q => te σ H fun x H1 => tl σ H1 fun l H2 => th σ H2 fun u H3 => ts σ H3 fun z H4 =>
  ∃ a xs, x = .ref a ∧ SqL K H4 a xs ∧ z ≠ some 0 ∧ (pickV xs l u z).length ≤ sizeLine ∧ ∀ p, H4 p = none → Q (.ref p) (upd H4 p (.lst (pickV xs l u z)))
theorem pe_slice3 (he : PE X e te) (hl : PO X lo tl) (hu : PO X hi th) (hs : PO X (some st) ts) : PE X (.Subscript e (.Slice lo hi (some st) p2) pos) (tSl3 X.K te tl th ts) := by
  refine ⟨fun pins s σ H Q I h => ?_⟩
  refine Subscript_ (thn (he.run pins s σ H _ I h) fun v s1 ⟨x, H1, I1, r1, q1⟩ => ?_)
  refine wpAny_Slice (thn (hl.run pins s1 σ H1 _ I1 q1) fun vl s2 ⟨l, H2, I2, pl, q2⟩ => thn (hu.run pins s2 σ H2 _ I2 q2) fun vu s3 ⟨u, H3, I3, pu, q3⟩ => thn (hs.run pins s3 σ H3 _ I3 q3) fun vs s4 ⟨z, H4, I4, ps, q4⟩ => ?_)
  obtain ⟨a, xs, rfl, hx, hz0, hlen0, q⟩ := q4
  have I5 : Inv X pins σ H4 { s4 with heap := s4.heap.push { cls := .type "slice", data := .fields #[vl, vu, vs] } } := I4.kept (t' := s4.toks) fun b ob q => Heap.get?_push_of_some _ q
  cases r1
  obtain ⟨its, r, ht, hz⟩ := I5.list hx
  have hlen := r.length
  show wpAny (model X.prog X.w) X.A (subscriptTail e (.Slice lo hi (some st) p2) (.ref a) (.ref s4.heap.objs.size)) (EP X pins σ Q) X.xe { s4 with heap := s4.heap.push { cls := .type "slice", data := .fields #[vl, vu, vs] } }
  refine tail_any (ops := [.ref a, .ref s4.heap.objs.size]) ht.isList.typeIs slot_list_getitem.lookup ?_ (by with_unfolding_all rfl)
  refine wpAny_getItem_list_slice ht.isList (Heap.IsSliceOf.new ..) pl pu ps hz0 ?_ (by rw [List.size_toArray] <;> omega)
  have e : (slicePick its.toArray l u z) = ((sliceRange (sliceBounds l u z xs.length).1 (sliceBounds l u z xs.length).2.1 (sliceBounds l u z xs.length).2.2).filterMap (its.toArray[·]?)).toArray := by
    unfold slicePick
    rw [List.size_toArray, hlen]
  have rp := vals_pick r (sliceRange (sliceBounds l u z xs.length).1 (sliceBounds l u z xs.length).2.1 (sliceBounds l u z xs.length).2.2)
  rw [e]
  refine ⟨.ref (s4.heap.push { cls := .type "slice", data := .fields #[vl, vu, vs] }).objs.size, _, I5.laid (t' := s4.toks) (o := .lst (pickV xs l u z)) (fun b ob q => Heap.get?_push_of_some _ q) (Nat.le_refl _) ?_, rfl, q _ (I5.hok.fresh (Nat.le_refl _))⟩
  exact ⟨hlen0, _, 0, rp, Heap.get?_push_size _ rfl⟩
end
/-! ### the maths of it -/
theorem range_two (a n : Nat) : sliceRange (a : Int) (n : Int) 2 = (List.range ((n - a + 1) / 2)).map (fun k => a + 2 * k) := by
  unfold sliceRange
  by_cases h : (a : Int) < n
  · have e : ((n : Int) - a + 2 - 1) / 2 = (((n - a + 1) / 2 : Nat) : Int) := by omega
    simp only [show (2 : Int) > 0 by decide, if_true, h, e, Int.toNat_natCast]
    apply List.map_congr_left
    intro k _
    omega
  · have e : (n - a + 1) / 2 = 0 := by omega
    simp [h, e]
theorem bounds_ev (n : Nat) : sliceBounds none none (some 2) n = (((0 : Nat) : Int), (n : Int), 2) := by simp [sliceBounds]
theorem bounds_od (n : Nat) : sliceBounds (some 1) none (some 2) n = (((min 1 n : Nat) : Int), (n : Int), 2) := by
  simp [sliceBounds] <;> omega
theorem fm_some {α β : Type} (f : α → Option β) : ∀ (l : List α) (g : α → β), (∀ x ∈ l, f x = some (g x)) → l.filterMap f = l.map g
  | [], _, _ => rfl
  | x :: r, g, h => by
    rw [List.filterMap_cons, h x (List.mem_cons_self ..), fm_some f r g fun y hy => h y (List.mem_cons_of_mem _ hy)]
    rfl
/-- xs[::2] -/
theorem pick_ev (g : Nat → V) (m : Nat) : pickV ((List.range (2 * m)).map g) none none (some 2) = (List.range m).map fun k => g (2 * k) := by
  unfold pickV
  rw [List.length_map, List.length_range, bounds_ev, range_two]
  have e : (2 * m - 0 + 1) / 2 = m := by omega
  rw [e, List.filterMap_map]
  refine fm_some _ _ _ fun k hk => ?_
  have := List.mem_range.1 hk
  show ((List.range (2 * m)).map g)[0 + 2 * k]? = _
  rw [List.getElem?_map, List.getElem?_range (by omega)]
  simp
/-- xs[1::2] -/
theorem pick_od (g : Nat → V) (m : Nat) : pickV ((List.range (2 * m)).map g) (some 1) none (some 2) = (List.range m).map fun k => g (2 * k + 1) := by
  unfold pickV
  rw [List.length_map, List.length_range, bounds_od, range_two]
  have e : (2 * m - min 1 (2 * m) + 1) / 2 = m := by omega
  rw [e, List.filterMap_map]
  refine fm_some _ _ _ fun k hk => ?_
  have := List.mem_range.1 hk
  show ((List.range (2 * m)).map g)[min 1 (2 * m) + 2 * k]? = _
  rw [List.getElem?_map, List.getElem?_range (by omega)]
  simp [show min 1 (2 * m) + 2 * k = 2 * k + 1 by omega]
end Lk

namespace Lk
open PySem PySem.Spec PyProof.Rows L2
/-! ### sum, max of a list, K named -/
theorem sumK_ {X : Cx} {K : PySem.W.Frag} (h : X.K = K) (hc : X.calm = true) : CallR X (.builtin "sum") (rSum K) := by subst h; exact cr_sum hc
theorem sl3K_ {X : Cx} {K : PySem.W.Frag} {e : Expr} {te : TE} {tl th ts : TO} (h : X.K = K) (hl : PE X e (tSl3 X.K te tl th ts)) : PE X e (tSl3 K te tl th ts) := by subst h; exact hl
section
variable {K : PySem.W.Frag} {σ : L2.St} {H : Hp} {Q : VK} {te : TE} {tl th ts : TO} {x : V} {j : Int}
theorem a_sl3 (q : te σ H fun x H1 => tl σ H1 fun l H2 => th σ H2 fun u H3 => ts σ H3 fun z H4 =>
    ∃ a xs, x = .ref a ∧ SqL K H4 a xs ∧ z ≠ some 0 ∧ (pickV xs l u z).length ≤ sizeLine ∧ ∀ p, H4 p = none → Q (.ref p) (upd H4 p (.lst (pickV xs l u z)))) : tSl3 K te tl th ts σ H Q := q
theorem a_sl {r : V → Option Int → Option Int → Hp → VK → Prop} (q : te σ H fun x H1 => tl σ H1 fun l H2 => th σ H2 fun u H3 => r x l u H3 Q) : tSl r te tl th σ H Q := q
theorem a_part {R : Option Int → Hp → Prop} (q : te σ H fun x H1 => ∃ i, x = .int i ∧ R (some i) H1) : tPart te σ H R := q
theorem a_nopart {R : Option Int → Hp → Prop} (q : R none H) : tNoPart σ H R := q
theorem a_exi {P : Int → Prop} (q : P j) : ∃ i, V.int j = V.int i ∧ P i := ⟨j, rfl, q⟩
theorem a_andV {ta tb : TE} (q : ta σ H fun x H1 => ∃ c, x = .bl c ∧ if c = true then tb σ H1 Q else Q (.bl false) H1) : tAndV ta tb σ H Q := q
theorem a_orV {ta tb : TE} (q : ta σ H fun x H1 => ∃ c, x = .bl c ∧ if c = true then Q (.bl true) H1 else tb σ H1 Q) : tOrV ta tb σ H Q := q
theorem a_notV {ta : TE} (q : ta σ H fun x H1 => ∃ c, x = .bl c ∧ Q (.bl (!c)) H1) : tNotV ta σ H Q := q
theorem a_chain {r r' : R2} {ta tb tc : TE} (q : ta σ H fun x H1 => tb σ H1 fun y H2 => r x y H2 fun z H3 => ∃ k, z = .bl k ∧ (if k = true then tc σ H3 fun w' H4 => r' y w' H4 Q else Q (.bl false) H3)) : tChain r r' ta tb tc σ H Q := q
theorem a_slL {a : Addr} {xs : List V} {lo hi : Option Int} (h : SqL K H a xs) (q : ∀ p, H p = none → Q (.ref p) (upd H p (.lst (cutV xs lo hi)))) : rSlL K (.ref a) lo hi H Q := ⟨a, xs, rfl, h, q⟩
theorem a_sum {a : Addr} {ns : List Int} (h : SqL K H a (ns.map V.int)) (q : Q (.int ns.sum) H) : rSum K [.ref a] H Q := ⟨a, ns, rfl, h, q⟩
end
/-! ### comprehensions over zip, and over a range with a test -/
theorem wipe2 {σ : L2.St} {k1 k2 : Nat} (h : k1 ≠ k2) {x y : Option V} : wipe (((wipe σ [k1, k2]).set k1 x).set k2 y) [k1, k2] = wipe σ [k1, k2] := by
  simp only [wipe]
  refine List.ext_getElem? fun i => ?_
  simp only [List.getElem?_set, List.length_set]
  by_cases h1 : k1 = i
  · subst h1; simp
  · by_cases h2 : k2 = i
    · subst h2; simp [h1]
    · simp [h1, h2]
theorem wipe1 {σ : L2.St} {k : Nat} {x : Option V} : wipe ((wipe σ [k]).set k x) [k] = wipe σ [k] := by simp [wipe]
section
variable {K : PySem.W.Frag} {σ : L2.St} {H : Hp} {Q : VK} {te tl : TE} {tt : TT} {ta : TA} {vs : List Nat}
theorem c_zip {k1 k2 : Nat} {xs ys : List V} (zs : List V) (hv : vs = [k1, k2]) (hk : k1 ≠ k2) (ht : ∀ R : List V → Hp → Prop, (∀ a b H', Same H H' → SqL K H' a xs → SqL K H' b ys → R [.ref a, .ref b] H') → ta σ H R)
    (hlen : zs.length = min xs.length ys.length) (hz : zs.length ≤ 1000000)
    (he : ∀ (j : Nat) (x y : V), xs[j]? = some x → ys[j]? = some y → ∀ H' (R : VK), Same H H' → (∀ z H'', Same H' H'' → zs[j]? = some z → R z H'') → te (((wipe σ [k1, k2]).set k1 (some x)).set k2 (some y)) H' R)
    (q : ∀ D H', H D = none → Same H H' → H' D = some (.lst zs) → Q (.ref D) H') : tLc (iZip K ta) (gTup K 2 (gCons (gName k1) (gCons (gName k2) gNil))) tYes te vs σ H Q := by
  subst hv
  refine ht (fun vs H1 => ∃ a b xs ys, vs = [.ref a, .ref b] ∧ SqL K H1 a xs ∧ SqL K H1 b ys ∧ _) fun a b H1 s1 hx hy => ⟨a, b, xs, ys, rfl, hx, hy, ?_⟩
  intro D hD
  refine lc_it (walk_zip (K := K) (a := a) (b := b) (xs := xs) (ys := ys) hlen) (Qd := Q (.ref D)) (fun i H' => Same H1 H' ∧ H' D = some (.lst (zs.take i))) ⟨same_upd hD, upd_same⟩ (fun i H' _ h => ⟨h.1.seq hx, h.1.seq hy⟩) ?_ ?_
  · rintro i v H' H'' hi ⟨s, e⟩ ⟨T, x, y, rfl, nT, rfl, ex, ey⟩
    refine a_gtup upd_same rfl (a_gcons (a_gname (a_gcons (a_gname (a_gnil ⟨wipe2 hk, a_yes (ift ?_)⟩)))))
    have sT := s.trans (same_upd (o := .tup [x, y]) nT)
    refine he i x y ex ey _ _ (s1.trans sT) fun z H3 s3 ez => ?_
    refine ⟨_, s3 _ _ (same_upd nT _ _ e), ?_, smut (sT.trans s3) hD, ?_⟩
    · refine szl ?_
      rw [List.length_take]
      omega
    · rw [upd_same, take_app ez]
  · rintro H' ⟨s, e⟩
    refine q D H' (s1.free hD) (s1.trans s) ?_
    rw [e, List.take_length]
/-- over a range, with a test -/
theorem c_rngF {k n : Nat} (f : Nat → Bool) (g : Nat → V) (hv : vs = [k]) (hn : n ≤ 1000000) (ht : ∀ R : List V → Hp → Prop, R [.int (n : Int)] H → ta σ H R)
    (hc : ∀ j : Nat, j < n → ∀ H' (R : Bool → Hp → Prop), Same H H' → R (f j) H' → tt ((wipe σ [k]).set k (some (.int (j : Int)))) H' R)
    (he : ∀ j : Nat, j < n → f j = true → ∀ H' (R : VK), Same H H' → R (g j) H' → te ((wipe σ [k]).set k (some (.int (j : Int)))) H' R)
    (q : ∀ D H', H D = none → Same H H' → H' D = some (.lst (((List.range n).filter f).map g)) → Q (.ref D) H') : tLc (iRng1 ta) (gName k) tt te vs σ H Q := by
  subst hv
  refine ht (fun vs H1 => ∃ j : Int, vs = [.int j] ∧ -(2 ^ 62) ≤ j ∧ j < 2 ^ 62 ∧ _) ⟨(n : Int), rfl, by omega, by omega, ?_⟩
  rw [Int.toNat_natCast]
  intro D hD
  refine lc_range (lo := 0) (n := n) (Qd := Q (.ref D)) (fun i H' => Same H H' ∧ i ≤ n ∧ H' D = some (.lst (((List.range i).filter f).map g))) ⟨same_upd hD, Nat.zero_le _, upd_same⟩ ?_ ?_
  · rintro i H' hi ⟨s, _, e⟩
    refine a_gname ⟨wipe1, ?_⟩
    rw [Int.zero_add]
    refine hc i hi H' _ s ?_
    cases hf : f i with
    | true =>
      refine ift (he i hi hf H' _ s ?_)
      refine ⟨_, e, ?_, smut s hD, hi, ?_⟩
      · refine szl ?_
        rw [List.length_map]
        refine Nat.le_trans (List.length_filter_le _ _) ?_
        rw [List.length_range]
        omega
      · rw [upd_same, List.range_succ, List.filter_append, List.map_append]
        simp [List.filter, hf]
    | false =>
      refine iff' ⟨s, hi, ?_⟩
      rw [e, List.range_succ, List.filter_append]
      simp [List.filter, hf]
  · rintro H' ⟨s, _, e⟩
    exact q D H' hD s e
end
theorem evens_eq (T : List Int) (m : Nat) (h : T.length = 2 * m) : pickV (T.map V.int) none none (some 2) = ((List.range m).map fun k => V.int (T.getD (2 * k) 0)) := by
  have e : T.map V.int = (List.range (2 * m)).map fun k => V.int (T.getD k 0) := by
    refine List.ext_getElem? fun i => ?_
    rw [List.getElem?_map, List.getElem?_map]
    by_cases hi : i < 2 * m
    · rw [List.getElem?_range hi, List.getElem?_eq_getElem (by omega)]
      simp [List.getD_eq_getElem?_getD, List.getElem?_eq_getElem (show i < T.length by omega)]
    · rw [List.getElem?_eq_none (by omega), List.getElem?_eq_none (by rw [List.length_range]; omega)]
      rfl
  rw [e, pick_ev]
theorem odds_eq (T : List Int) (m : Nat) (h : T.length = 2 * m) : pickV (T.map V.int) (some 1) none (some 2) = ((List.range m).map fun k => V.int (T.getD (2 * k + 1) 0)) := by
  have e : T.map V.int = (List.range (2 * m)).map fun k => V.int (T.getD k 0) := by
    refine List.ext_getElem? fun i => ?_
    rw [List.getElem?_map, List.getElem?_map]
    by_cases hi : i < 2 * m
    · rw [List.getElem?_range hi, List.getElem?_eq_getElem (by omega)]
      simp [List.getD_eq_getElem?_getD, List.getElem?_eq_getElem (show i < T.length by omega)]
    · rw [List.getElem?_eq_none (by omega), List.getElem?_eq_none (by rw [List.length_range]; omega)]
      rfl
  rw [e, pick_od]
theorem cut1 (x : V) (xs : List V) : cutV (x :: xs) (some 1) none = xs := by
  unfold cutV
  have h1 : HT.sIx (x :: xs).length 0 (some 1) = 1 := by
    show (if (1 : Int) < 0 then ((1 : Int) + ((x :: xs).length : Int)).toNat else min (1 : Int).toNat (x :: xs).length) = 1
    rw [if_neg (by decide), List.length_cons]
    show min 1 (xs.length + 1) = 1
    omega
  have h2 : HT.sIx (x :: xs).length (x :: xs).length none = (x :: xs).length := rfl
  rw [h1, h2, List.drop_one, List.tail_cons, List.length_cons]
  exact List.take_of_length_le (by omega)
theorem sum_range (f : Nat → Int) : ∀ n, ((List.range n).map f).sum = (List.range n).foldl (fun acc k => acc + f k) 0
  | 0 => rfl
  | n + 1 => by
    rw [List.range_succ, List.map_append, List.sum_append, sum_range f n, List.foldl_append]
    simp
theorem getRg {α : Type} {f : Nat → α} {m j : Nat} {x : α} (h : ((List.range m).map f)[j]? = some x) : j < m ∧ x = f j := by
  rw [List.getElem?_map] at h
  by_cases hj : j < m
  · rw [List.getElem?_range hj] at h
    exact ⟨hj, (Option.some.inj h).symm⟩
  · rw [List.getElem?_eq_none (by rw [List.length_range]; omega)] at h
    cases h
theorem rg_at {α : Type} {f : Nat → α} {m j : Nat} (h : j < m) : ((List.range m).map f)[j]? = some (f j) := by
  rw [List.getElem?_map, List.getElem?_range h]
  rfl
theorem flat1 (l : List Int) : flatTo 1 (.list (dInts l)) = true := by
  unfold flatTo
  exact flatL_ints 0 _
theorem neL_same {K : PySem.W.Frag} {H : Hp} {Q : VK} {a b : Addr} {l : List Int} (ha : H a = some (.lst (l.map V.int))) (hb : H b = some (.lst (l.map V.int))) (q : Q (.bl false) H) : rNeD K (.ref a) (.ref b) H Q := by
  refine a_neD (dp_lst ha) (dp_lst hb) (shaped_flat (flat1 l) (by decide)) (shaped_flat (flat1 l) (by decide)) ?_
  rw [eqv_self _ (flat_ok 1 _ (flat1 l)).2.2]
  exact q
theorem eqL_same {K : PySem.W.Frag} {H : Hp} {Q : VK} {a b : Addr} {l : List Int} (ha : H a = some (.lst (l.map V.int))) (hb : H b = some (.lst (l.map V.int))) (q : Q (.bl true) H) : rEqD K (.ref a) (.ref b) H Q := by
  refine a_eqD (dp_lst ha) (dp_lst hb) (shaped_flat (flat1 l) (by decide)) (shaped_flat (flat1 l) (by decide)) ?_
  rw [eqv_self _ (flat_ok 1 _ (flat1 l)).2.2]
  exact q
end Lk

/-! ### an own error whose __init__ calls super().__init__(..) and keeps one field -/
namespace PySem
namespace LkX
open PySem.W PySem.Calls PyProof.Rows PySem.HandSPX
def eArgs (par : Str) (p1 p2 : Pos) : Arguments := { posonlyargs := [], args := [{ arg := "self", annotation := none, pos := p1 }, { arg := par, annotation := none, pos := p2 }], vararg := none, kwonlyargs := [], kw_defaults := [], kwarg := none, defaults := [] }
def eBody (par : Str) (msg : Expr) (a1 a2 a3 a4 a5 q1 q2 q3 q4 : Pos) : List Stmt :=
  [.Expr (.Call (.Attribute (.Call (.Name "super" a1) [] [] a2) "__init__" a3) [msg] [] a4) a5, .Assign [.Attribute (.Name "self" q1) par q2] (.Name par q3) q4]
/-- what the written part says of such a class, at C, and of its __init__, at fI; cc its cell, cda its code -/
structure XcTxt (prog : Program) (K : Frag) (C fI cc cda : Addr) (qual par : Str) (scope : Scope) (msg : Expr) : Prop where
  cls : ∃ nm q N bs bm sn sub ab col dd k0 k1 k2 k3 k5, K.lookup C = some (excClassObj nm q C N bs bm true sn sub ab col dd k0 k1 k2 k3 k5 "ValueError.__new__") ∧ refsVE bm = true
  sa : findIn K (.ref C) "__setattr__" = some (some (.builtin "object.__setattr__"))
  iC : findIn K (.ref C) "__init__" = some (some (.ref fI))
  tC : typeIn K (.ref fI) = some (.type "function")
  noN : findIn K (.ref C) par = some none
  fn : ∃ (oc : Value) (od : Option Addr) (doc pm : Value) (an : Option Addr) (ct : Value) (osl : Array (Option Value)) (p1 p2 a1 a2 a3 a4 a5 q1 q2 q3 q4 : Pos),
    K.lookup fI = some ⟨oc, od, .func (ksFn "__init__" qual (eArgs par p1 p2) (eBody par msg a1 a2 a3 a4 a5 q1 q2 q3 q4) scope .none .none doc pm an (.ref cda) ct cc), osl⟩ ∧ (a3.endLine == a4.line) = true
  cd : codeIn K (.ref cda) qual = true
  code : ∃ (ccl : Value) (cdd : Option Addr) (vs : Array Value) (ccs : Array (Option Value)) (file : Str) (tf : Tok), K.lookup cda = some ⟨ccl, cdd, .fields vs, ccs⟩ ∧ vs[2]? = some (.str file tf) ∧ ((prog.main.file : Str) == file) = true
  cell : ∃ (cl : Value) (cld : Option Addr) (csl : Array (Option Value)), K.lookup cc = some ⟨cl, cld, .cell (some (.ref C)), csl⟩
  sup : nsIn K mainGlobals "super" = some none
  opq : nsIn K cStatics "thirdparty.any" = some none
  self : mroIn K C (.ref C) = some true
  sin : ks_superIn K C C "__init__" = some (some (.builtin "ValueError.__init__"))
  sub : subIn K (.ref C) (.type "ValueError") = some true
  top : (prog.main.scope.names.lookup ("super" : Str)).isSome = false
/-- the scope of __init__ -/
structure XcScope (scope : Scope) (par : Str) : Prop where
  kind : scope.kind = .function
  co : scope.isCoroutine = false
  gen : scope.isGenerator = false
  nocell : ∀ x ∈ scope.names, x.2 ≠ .cell
  sup : scope.names.lookup ("super" : Str) = some .globalImplicit
  cls : scope.names.lookup ("__class__" : Str) = some .free
  slf : scope.names.lookup ("self" : Str) = some .local
  prm : scope.names.lookup par = some .local
  ne : par ≠ "self"
  dbg : (par == ("__debug__" : Str)) = false
section
variable {prog : Program} {w : World} {A : Around} {E : Value → Shared → Prop} {R : Result → Shared → Prop} {s : Shared} {K : Frag} {mg mb : Str → Option Value} {C fI cc cda : Addr} {qual par : Str} {scope : Scope} {msg : Expr}
/-- what __init__ leaves of a fresh error at x -/
structure Inited (h h' : Heap) (x C dx t1 : Addr) (par : Str) (v : Value) : Prop where
  keep : ∀ b o, b ≠ x → h.get? b = some o → h'.get? b = some o
  obj : h'.get? x = some { cls := .ref C, dict := some dx, data := .fields #[.ref t1, .none, .none, .none, .bool false, .none] }
  dbig : h.objs.size ≤ dx
  dne : dx ≠ x
  ns : h'.Ns1 dx (fun y => if y = par then some v else none)
theorem cls_of (T : XcTxt prog K C fI cc cda qual par scope msg) : ∃ cd, clsIn K C = some cd ∧ refsVE cd.mro = true ∧ cd.hasDict = true := by
  obtain ⟨nm, q, N, bs, bm, sn, sub, ab, col, dd, k0, k1, k2, k3, k5, hC, hbm⟩ := T.cls
  exact ⟨_, by unfold clsIn; rw [hC] <;> rfl, (show refsVE (.ref C :: bm) = true from hbm), rfl⟩
/-- the bound ValueError.__init__ called -/
theorem x_base {u e t0 : Addr} {rest : List Value} {Q : Value → Shared → Prop} {h : Heap} {g : Array GenState} {d : Drawn} {t : Nat} {os : OsState} (T : XcTxt prog K C fI cc cda qual par scope msg) (X : K.In h) (he : h.get? e = some (excO C t0)) (hu : h.get? u = some (kxs_mw "ValueError.__init__" e)) (hrest : rest.length ≤ sizeLine)
    (hq : ∀ h' t1, (∀ b o, b ≠ e → h.get? b = some o → h'.get? b = some o) → h'.get? e = some (excO C t1) → Q .none ⟨h', g, d, t, os⟩) :
    wpAny (model prog w) A (call (.ref u) rest) Q E ⟨h, g, d, t, os⟩ := by
  obtain ⟨nm, q, N, bs, bm, sn, sub, ab, col, dd, k0, k1, k2, k3, k5, hC, hbm⟩ := T.cls
  refine wpAny_call (codeAny_of_tree ?_)
  show wpAny _ A.in1 (callAny (.ref u) ⟨rest, []⟩) _ _ _
  simp only [callAny]
  refine wpAny_bind (wpAny_load hu ?_)
  simp only [kxs_mw, show (Value.type "method-wrapper" == Value.type "method" || Value.type "method-wrapper" == Value.type "builtin_function_or_method" || Value.type "method-wrapper" == Value.type "method-wrapper") = true by decide, if_true]
  refine KFB.if_so (by decide) ?_
  refine wpAny_bind (check_bound_init F.excBase_ValueError.toExcCallFacts (X _ _ hC) he rfl ?_)
  refine wpAny_bind (wpAny_pure (wpAny_pure ⟨plainId_quiet F.excBase_ValueError.init.plain _, codeAny_builtin F.excBase_ValueError.initEntry ?_⟩))
  rw [Around.under_plainId F.excBase_ValueError.init.plain _]
  wp_walk
  refine hq _ h.objs.size (fun b o hb ho => ?_) ?_
  · rw [Heap.get?_update_other _ _ (Ne.symm hb)]
    exact Heap.get?_push_of_some _ ho
  · rw [Heap.get?_update_self _ (Heap.get?_push_of_some _ he) rfl]
    rfl
theorem call_text {o msg : Expr} {name : Str} {apos pos : Pos} {env : Env} (hline : (apos.endLine == pos.line) = true) (hne : starEach [msg] env = [(false, eval msg env)]) :
    eval (.Call (.Attribute o name apos) [msg] [] pos) env = (do
      let ov ← attributeBase o name env (eval o env)
      standAt apos.atName
      let (f, first) ← holding [ov] (getMethod ov name (do return (← importBound o env).getD true))
      callWith pos f first (backTo pos (starEach [msg] env)) []) := by
  have e : eval (.Call (.Attribute o name apos) [msg] [] pos) env = (do
    let ov ← attributeBase o name env (eval o env)
    standAt apos.atName
    methodCall o name apos pos env ov (1 + 0) (backTo pos (starEach [msg] env)) (backToKw pos (keywordEach [] env))) := rfl
  rw [e]
  unfold methodCall
  have hf : methodCallForm (1 + 0) (backTo pos (starEach [msg] env)) (backToKw pos (keywordEach [] env)) = true := by
    rw [hne]
    rfl
  simp only [hf, methodCallPos, hline, Bool.not_true, Bool.false_or, if_true]
  rfl
theorem x_init (T : XcTxt prog K C fI cc cda qual par scope msg) (S : XcScope scope par) {x t0 : Addr} {v : Value} (X : K.In s.heap) (hg : s.heap.Ns mainGlobals mg) (hb : s.heap.Ns builtinsNs mb) (hbb : ∀ x : Str, x ≠ "__name__" → mb x = bootBuiltins x)
    (hlim : s.heap.NoLimit) (hx : s.heap.get? x = some (excO C t0)) (hnx : K.lookup x = none) (hroom : A.depth < recursionLimit)
    (hmsg : ∀ (L : Addr) (A' : Around) (s' : Shared) (E' : Value → Shared → Prop) (Q : Value → Shared → Prop), s'.heap.Ns L (fun y => (([("self", Value.ref x), (par, v)] : List (Str × Value)).reverse.lookup y)) →
      (∀ m t tk, Q (.str m t) { s' with toks := tk }) → wpAny (model prog w) A' (eval msg (ksEnv qual scope L fI (.ref cda) cc)) Q E' s')
    (hbind : ∀ (p1 p2 : Pos) (body : List Stmt) (doc pm : Value) (an : Option Addr) (ct : Value), bindArgs (ksFn "__init__" qual (eArgs par p1 p2) body scope .none .none doc pm an (.ref cda) ct cc) ⟨[.ref x, v], []⟩ = pure ([("self", .ref x), (par, v)] : List (Str × Value)))
    (hne : ∀ (env : Env), starEach [msg] env = [(false, eval msg env)])
    (hq : ∀ h' tk dx t1, Inited s.heap h' x C dx t1 par v → R (.ok (.ret .none)) { s with heap := h', toks := tk }) :
    codeAny (model prog w) A (.call (.ref fI) ⟨[.ref x, v], []⟩) R s := by
  obtain ⟨oc, od, doc, pm, an, ct, osl, p1, p2, a1, a2, a3, a4, a5, q1, q2, q3, q4, hfI, hline⟩ := T.fn
  obtain ⟨ccl, cdd, vs, ccs, file, tf, hcode, hvs, hfile⟩ := T.code
  obtain ⟨cl, cld, csl, hcell⟩ := T.cell
  obtain ⟨cd, hcd, hmro, hdict⟩ := cls_of T
  have hnsf : ("self" : Str) ≠ par := fun z => S.ne z.symm
  refine ks_codeAny_call_defAt (body := eBody par msg a1 a2 a3 a4 a5 q1 q2 q3 q4) (binds := ([("self", .ref x), (par, v)] : List (Str × Value))) hroom (X _ _ hfI) rfl hlim (codeRec_of X T.cd) rfl (BindsTo.of_eq (hbind _ _ _ _ _ _ _)) S.nocell ?_ ?_ S.co S.gen S.kind
  · intro y hy
    simp only [List.mem_cons, List.not_mem_nil, or_false] at hy
    rcases hy with rfl | rfl
    · exact S.slf
    · exact S.prm
  intro h₁ hn k
  have hxL : s.heap.objs.size ≠ x := Nat.ne_of_gt (Heap.lt_size hx)
  have X₁ : K.In h₁ := X.keeps k
  have hx₁ := k _ _ hx
  have hg₁ := hg.keeps k
  have hb₁ := hb.keeps k
  obtain ⟨oD, hD1, hD2⟩ : ∃ oD, h₁.get? C = some oD ∧ oD.data = .cls cd := by
    have z := hcd
    unfold clsIn at z
    split at z
    · rename_i c d cd' sl ho
      cases z
      exact ⟨_, X₁ _ _ ho, rfl⟩
    · cases z
  have hself : (([("self", Value.ref x), (par, v)] : List (Str × Value)).reverse.lookup ("self" : Str)) = some (.ref x) := by
    have z : (("self" : Str) == par) = false := by simpa using hnsf
    simp [List.lookup, z]
  have hparv : (([("self", Value.ref x), (par, v)] : List (Str × Value)).reverse.lookup par) = some v := by simp [List.lookup]
  have hxC : x ≠ C := fun z => by
    rw [z, hD1] at hx₁
    rw [Option.some.inj hx₁] at hD2
    exact nomatch hD2
  refine ks_wpAt_execs_cons (ks_wpAt_Expr_any (hi := by show (scope.kind == .module && _) = false; rw [S.kind]; rfl) (ks_wpAt_MethodCall (he := call_text hline (hne _)) ?_))
  refine ks_wpAt_super_base (env := ksEnv qual scope s.heap.objs.size fI (.ref cda) cc) S.sup S.cls rfl rfl (X₁ _ _ hfI) rfl (ar := { arg := "self", annotation := none, pos := p1 }) rfl rfl (X₁ _ _ hcode) rfl hvs hfile T.top ?_
  refine ks_loadName_global S.kind S.sup (loadGlobal_builtin (env := ksEnv qual scope s.heap.objs.size fI (.ref cda) cc) hg₁ (mg_none_of X hg T.sup) hb₁ ((hbb _ (by decide +kernel)).trans (by first | rfl | kernel_rfl)) ⟨rfl, ?_⟩)
  refine wpAny_loadName_free S.kind S.cls rfl ⟨_, X₁ _ _ hcell, rfl⟩ ?_
  refine wpAny_loadName_local S.kind S.slf hn hself ?_
  refine ks_wpAny_isType_cls hD1 hD2 ⟨rfl, ?_⟩
  refine ks_wpAny_call_super hD1 hD2 hx₁ rfl (fun c e => nomatch e) (looks_mroIn X₁ T.self) (fun h2 e2 k2 => ?_)
  have X₂ : K.In h2 := X₁.keeps k2
  have hx₂ := k2 _ _ hx₁
  have I₂ : InstAt h2 x (excO C t0) C none := ⟨hx₂, rfl, rfl, trivial⟩
  have hm : alongIn K "__init__" ((cd.mro.dropWhile (· != .ref C)).drop 1) = some (some (.builtin "ValueError.__init__")) := by
    have z := T.sin
    unfold ks_superIn at z
    rw [hcd] at z
    exact z
  refine kxs_getMethod kxs_ValueError e2 (looks_opaque X₂ T.opq) (l₀ := cd.mro) ((looks_clsIn X₂ hcd).andThen .now) rfl X₂ hm (I₂.type.andThen (looks_subIn X₂ T.sub)) hxC rfl ?_
  have X₃ : K.In (h2.push (kxs_mw "ValueError.__init__" x)) := X₂.keeps fun b o e => Heap.get?_push_of_some _ e
  have k3 : ∀ b o, h2.get? b = some o → (h2.push (kxs_mw "ValueError.__init__" x)).get? b = some o := fun b o e => Heap.get?_push_of_some _ e
  have hn₃ : (h2.push (kxs_mw "ValueError.__init__" x)).Ns s.heap.objs.size (fun y => ([("self", Value.ref x), (par, v)] : List (Str × Value)).reverse.lookup y) := (hn.keeps k2).keeps k3
  rw [hne]
  refine kxs_callWith (i := "ValueError.__init__") (x := x) rfl ?_
  refine evalArgs_plain ?_
  refine spliced_cons ?_
  refine hmsg _ _ _ _ _ hn₃ fun m tm tk => ?_
  refine spliced_nil ?_
  refine ⟨show (h2.push (kxs_mw "ValueError.__init__" x)).get? h2.objs.size = _ from Heap.get?_push_at rfl rfl, ?_⟩
  refine x_base T X₃ (k3 _ _ hx₂) (Heap.get?_push_at rfl rfl) (Nat.le_trans (show 1 ≤ sizeLine by decide) (Nat.le_refl _)) fun h4 t1 k4 hx4 => ?_
  have hCx : x ≠ C := hxC
  have X₄ : K.In h4 := fun b o e => k4 b o (fun z => by rw [z, hnx] at e; cases e) (X₃ _ _ e)
  have hn₄ : h4.Ns s.heap.objs.size (fun y => ([("self", Value.ref x), (par, v)] : List (Str × Value)).reverse.lookup y) := hn₃.at (fun o q => k4 _ o hxL q)
  dsimp only
  refine wpAt_of_wpAny (wpAny_execs_cons (plainObj_wpAny_Assign_Attribute ?_))
  refine wpAny_Name (wpAny_loadName_local S.kind (show (ksEnv qual scope s.heap.objs.size fI (.ref cda) cc).kindOf par = some .local from S.prm) hn₄ hparv ?_) S.dbg
  refine wpAny_Name (wpAny_loadName_local S.kind (show (ksEnv qual scope s.heap.objs.size fI (.ref cda) cc).kindOf "self" = some .local from S.slf) hn₄ hself ?_) (by decide)
  refine set_plain X₄ (ox := excO C t1) (od := none) ⟨hx4, rfl, rfl, trivial⟩ T.sa ?_
  refine exc_osa X₄ hx4 hcd hmro hdict T.noN (fun h5 tk5 dx k5 dn dne hx5 hn5 => ?_)
  refine wpAny_execs_nil (hq h5 tk5 dx t1 ⟨fun b o hb e => k5 b o hb (k4 b o hb (k3 _ _ (k2 _ _ (k _ _ e)))), hx5, Nat.le_of_lt (Nat.lt_of_lt_of_le hn₄.lt dn), dne, hn5⟩)
theorem one_size (v : Value) : [v].length ≤ sizeLine := by
  rw [sizeLine_eq]
  exact (by decide : 1 ≤ 16777216)
/-- a made error -/
structure OwnMade (h h' : Heap) (e C d : Addr) (par : Str) (v : Value) : Prop where
  keep : ∀ b o, h.get? b = some o → h'.get? b = some o
  new : h.objs.size ≤ e
  obj : ∃ oe vs, h'.get? e = some oe ∧ oe.cls = .ref C ∧ oe.dict = some d ∧ oe.data = .fields vs ∧ vs[1]? = some .none
  dbig : h.objs.size ≤ d
  dne : d ≠ e
  ns : h'.Ns1 d (fun y => if y = par then some v else none)
theorem x_made (T : XcTxt prog K C fI cc cda qual par scope msg) (S : XcScope scope par) {v : Value} (X : K.In s.heap) (hg : s.heap.Ns mainGlobals mg) (hb : s.heap.Ns builtinsNs mb) (hbb : ∀ x : Str, x ≠ "__name__" → mb x = bootBuiltins x)
    (hlim : s.heap.NoLimit) (hroom : A.depth + 1 < recursionLimit)
    (hmsg : ∀ (x L : Addr) (A' : Around) (s' : Shared) (E' : Value → Shared → Prop) (Q : Value → Shared → Prop), s'.heap.Ns L (fun y => (([("self", Value.ref x), (par, v)] : List (Str × Value)).reverse.lookup y)) →
      (∀ m t tk, Q (.str m t) { s' with toks := tk }) → wpAny (model prog w) A' (eval msg (ksEnv qual scope L fI (.ref cda) cc)) Q E' s')
    (hbind : ∀ (x : Addr) (p1 p2 : Pos) (body : List Stmt) (doc pm : Value) (an : Option Addr) (ct : Value), bindArgs (ksFn "__init__" qual (eArgs par p1 p2) body scope .none .none doc pm an (.ref cda) ct cc) ⟨[.ref x, v], []⟩ = pure ([("self", .ref x), (par, v)] : List (Str × Value)))
    (hne : ∀ (env : Env), starEach [msg] env = [(false, eval msg env)])
    (hq : ∀ h' tk e d, OwnMade s.heap h' e C d par v → R (.ok (.ret (.ref e))) { s with heap := h', toks := tk }) :
    codeAny (model prog w) A (.call (.ref C) ⟨[v], []⟩) R s := by
  obtain ⟨nm, q, N, bs, bm, sn, sub, ab, col, dd, k0, k1, k2, k3, k5, hC, hbm⟩ := T.cls
  obtain ⟨hp, g, dr, tk, os⟩ := s
  have k : ∀ b o, hp.get? b = some o → ((hp.push (kdv_tup [v])).push (excO C hp.objs.size)).get? b = some o := fun b o e => Heap.get?_push_of_some _ (Heap.get?_push_of_some _ e)
  have hget : ((hp.push (kdv_tup [v])).push (excO C hp.objs.size)).get? (hp.objs.size + 1) = some (excO C hp.objs.size) := by heap_get
  have hnx : K.lookup (hp.objs.size + 1) = none := by
    cases e : K.lookup (hp.objs.size + 1) with
    | none => rfl
    | some o =>
      have z : hp.get? (hp.objs.size + 1) = some o := X _ _ e
      exact absurd (Nat.lt_of_succ_lt (Heap.lt_size z)) (Nat.lt_irrefl _)
  refine call_own F.excBase_ValueError (fun X => refsVE_contains X bm hbm) (X _ _ hC) (looks_findIn X T.iC) (fun self => bind_fn X self T.tC) (one_size v) ?_
  refine x_init (s := ⟨(hp.push (kdv_tup [v])).push (excO C hp.objs.size), g, dr, tk, os⟩) T S (X.keeps k) (hg.keeps k) (hb.keeps k) hbb (hlim.keeps k) hget hnx ?_ (hmsg _) (hbind _) hne fun h' tk' dx t1 ⟨k', hx, dn, dne, hns⟩ => ?_
  · show A.depth + 1 < recursionLimit
    exact hroom
  · have old : ∀ b o, hp.get? b = some o → h'.get? b = some o := fun b o e => k' b o (Nat.ne_of_lt (Nat.lt_succ_of_lt (Heap.lt_size e))) (k b o e)
    have z : hp.objs.size + 1 + 1 ≤ dx := by
      first
        | (simpa only [Heap.size_push] using dn)
        | exact dn
        | (have q := dn; rw [Heap.size_push, Heap.size_push] at q; exact q)
    exact ⟨rfl, hq h' tk' (hp.objs.size + 1) dx ⟨old, Nat.le_succ _, ⟨_, _, hx, rfl, rfl, rfl, rfl⟩, Nat.le_trans (Nat.le_trans (Nat.le_succ _) (Nat.le_succ _)) z, dne, hns⟩⟩
end
end LkX
end PySem
namespace PySem.W
open PySem PySem.Spec PySem.Calls PyProof.Rows
/-- isinstance of an own error with fields -/
theorem kitx_excD {K : Frag} {x D : Addr} {ox : Obj} {od : Option Obj} (hga : findIn K (.ref D) "__getattribute__" = some (some (.builtin "BaseException.__getattribute__"))) (hgt : findIn K (.ref D) "__getattr__" = some none) (hsub : subIn K (.ref D) (.type "BaseException") = some true) (hdct : hasDictIn K D = true) (ha : findIn K (.ref D) "__class__" = some (some (.builtin "object.__class__")))
    (hn : specialIn K (.builtin "object.__class__") "__get__" = some (some (.builtin "getset_descriptor.__get__"))) (htk : takesIn K (.builtin "object.__class__") = some true) (hm : mroIn K D (.type "object") = some true) :
    KitX K (.ref x) (.ref D) (fun h => InstAt h x ox D od) where
  ty := fun _ _ _ I => I.type
  it := fun _ _ X _ => by
    obtain ⟨cdD, hcD, _⟩ := any_some hdct
    unfold clsIn at hcD
    split at hcD
    · rename_i c' d' cd' sl' ho
      intro A' Q' E' s' k q
      unfold isType loadHead
      exact wpAny_bind (wpAny_loadPart (k _ _ (X _ _ ho)) (wpAny_pure q))
    · cases hcD
  ne := fun h tp dd its n sl X htp => by
    obtain ⟨cdD, hcD, _⟩ := any_some hdct
    refine Bool.eq_false_iff.mpr fun q => ?_
    have e : D = tp := Value.ref.inj (beq_iff_eq.mp q)
    subst e
    unfold clsIn at hcD
    split at hcD
    · rename_i c' d' cd' sl' ho
      have z := (X _ _ ho).symm.trans htp
      cases z
    · cases hcD
  ca := fun X I k => kx_classE X I hga hgt hsub (findObj_dataE (by obtain ⟨cd, hc, _⟩ := any_some hdct; rw [hc]; rfl) ha hn htk) hm k
end PySem.W
namespace Lk
open PySem PySem.Spec PyProof.Rows L2
open PySem.LkX
/-- all of an own error's class with one field -/
structure Err (P : Program) (w : World) (K : PySem.W.Frag) (mg : Str → Option Value) (name par : Str) (C : Addr) (ok : V → Prop) : Prop where
  txt : ∃ (fI cc cda : Addr) (qual : Str) (scope : Scope) (msg : Expr), XcTxt P K C fI cc cda qual par scope msg ∧ XcScope scope par ∧
    (∀ (v : V) (v' : Value), RelV v v' → ok v → ∀ (x L : Addr) (A' : Around) (s' : Shared) (E' : Value → Shared → Prop) (Q : Value → Shared → Prop), s'.heap.Ns L (fun y => (([("self", Value.ref x), (par, v')] : List (Str × Value)).reverse.lookup y)) →
      (∀ m t tk, Q (.str m t) { s' with toks := tk }) → wpAny (model P w) A' (eval msg (PySem.W.ksEnv qual scope L fI (.ref cda) cc)) Q E' s') ∧
    (∀ (v : Value) (x : Addr) (p1 p2 : Pos) (body : List Stmt) (doc pm : Value) (an : Option Addr) (ct : Value), bindArgs (PySem.W.ksFn "__init__" qual (eArgs par p1 p2) body scope .none .none doc pm an (.ref cda) ct cc) ⟨[.ref x, v], []⟩ = pure ([("self", .ref x), (par, v)] : List (Str × Value))) ∧
    (∀ (env : Env), starEach [msg] env = [(false, eval msg env)])
  gC : mg name = some (.ref C)
  kC : PySem.W.keepIn K (.ref C) = true
  ga : PySem.W.findIn K (.ref C) "__getattribute__" = some (some (.builtin "BaseException.__getattribute__"))
  gg : PySem.W.findIn K (.ref C) "__getattr__" = some none
  noN : PySem.W.findIn K (.ref C) par = some none
  exC : PySem.W.subIn K (.ref C) (.type "BaseException") = some true
  tyC : PySem.W.typeIn K (.ref C) = some (.type "type")
  hdC : PySem.W.hasDictIn K C = true
  te : PySem.W.exmOne K (.ref C) (.ref C) = some true
  ha : PySem.W.findIn K (.ref C) "__class__" = some (some (.builtin "object.__class__"))
  hn : PySem.W.specialIn K (.builtin "object.__class__") "__get__" = some (some (.builtin "getset_descriptor.__get__"))
  ht : PySem.W.takesIn K (.builtin "object.__class__") = some true
  hm : PySem.W.mroIn K C (.type "object") = some true
theorem relO_one {v : V} {v' : Value} {par : Str} (r : RelV v v') (f : Str) : RelO (List.lookup f [(par, v)]) (if f = par then some v' else none) := by
  by_cases hw : f = par
  · subst hw
    rw [if_pos rfl]
    have q : List.lookup f [(f, v)] = some v := by simp [List.lookup]
    rw [q]
    exact r
  · rw [if_neg hw]
    have qw : (f == par) = false := by simpa using hw
    have q2 : List.lookup f [(par, v)] = none := by simp [List.lookup, qw]
    rw [q2]
    trivial
section
variable {X : Cx} {C : Addr} {name par : Str} {ok : V → Prop}
def tMkE (C : Addr) (par : Str) (ok : V → Prop) (ta : TA) : L2.St → Hp → XK → Prop := fun σ H Q => ta σ H fun vs H1 => ∃ v, vs = [v] ∧ ok v ∧ ∀ d, H1 d = none → Q (.ref C) (some d) (upd H1 d (.xd [(par, v)]))
theorem pmk_err {a : Expr} {ta : TA} {p pos : Pos} {k : Nat} (T : Err X.prog X.w X.K X.mg name par C ok) (hr : Room (k + 1) X.A) (ha : PA X [a] ta) (hg : Gl X name := by rfl) (hdb : (name == ("__debug__" : Str)) = false := by decide)
    (he : starEach (a :: []) X.env = (false, eval a X.env) :: starEach [] X.env := by rfl) (hpl : (backTo pos (starEach [] X.env)).any (·.1) = false := by rfl) :
    PMk X (.Call (.Name name p) [a] [] pos) (tMkE C par ok ta) := by
  intro pins s σ H Q I h
  refine wpAny_Call_Name_kw (ld_glob I hg T.gC ?_ hdb)
  refine PySem.W.callWith_K (h₀ := X.base) I.ok.mod.kin T.kC (thn (ha.run pos pins s σ H _ I h) fun us s1 hh => ?_) he hpl
  obtain ⟨vs, H1, I1, r1, v, ev, okv, q1⟩ := hh
  subst ev
  refine ⟨I1.kIn, ?_⟩
  cases r1 with
  | cons rv rn =>
    rename_i v' us'
    cases rn
    show wpAny _ _ (call (.ref C) [v']) _ _ _
    have hlim := I1.nolimit
    obtain ⟨fI, cc, cda, qual, scope, msg, TX, SX, hmsg, hbind, hne⟩ := T.txt
    obtain ⟨mb, hb, hbb⟩ := I1.ok.mod.blt
    have hg1 := I1.ok.mod.glob.keeps I1.bk
    have hb1 := hb.keeps I1.bk
    obtain ⟨hp, g, dr, tk, os⟩ := s1
    refine wpAny_call (x_made TX SX I1.kIn hg1 hb1 hbb hlim (by have := hr.dp; omega) (hmsg v v' rv okv) (hbind v') hne fun h' tk' e d M => ?_)
    show MkP X pins σ Q (.ref e) ⟨h', g, dr, tk', os⟩
    obtain ⟨oe, fv, hoe, hc, hd, hdat, h1⟩ := M.obj
    have hns := M.ns
    obtain ⟨G', g1, g2⟩ := restrict h' fun b => decide (b ≠ e)
    have gk : ∀ b, b ≠ e → G'.get? b = h'.get? b := fun b hb => g1 b (decide_eq_true hb)
    have ge : G'.get? e = none := g2 e (by simp)
    have old : ∀ b o, hp.get? b = some o → G'.get? b = some o := fun b o q => (gk b (Nat.ne_of_lt (Nat.lt_of_lt_of_le (Heap.lt_size q) M.new))).trans (M.keep b o q)
    have ob : ObjOk X.prog X.w (upd H1 d (.xd [(par, v)])) G' d (.xd [(par, v)]) :=
      ⟨_, hns.at (fun o q => (gk d M.dne).trans q), fun f => relO_one rv f⟩
    have J : Inv X pins σ (upd H1 d (.xd [(par, v)])) ⟨G', g, dr, tk', os⟩ := I1.laid (t' := tk') old M.dbig ob
    refine ⟨e, oe, fv, ⟨G', g, dr, tk', os⟩, _, .ref C, some d, rfl, J, fun b o q => ?_, ge, hoe, ⟨hc, hd⟩, hdat, h1, ?_, rfl, I1.bare, raises_own T.exC T.tyC, q1 d (I1.hok.fresh M.dbig)⟩
    · by_cases hb : b = e
      · have q' : G'.get? b = some o := q
        rw [hb, ge] at q'; cases q'
      · exact (gk b hb).symm.trans q
    · rw [upd_ne (Ne.symm M.dne)]
      exact I1.hok.fresh M.new
/-- raise C(e) -/
def tRaiseE (C : Addr) (par : Str) (ok : V → Prop) (W : WX) (ta : TA) : TS := fun _ σ H => tMkE C par ok ta σ H fun cls d H' => W cls d σ H'
theorem ps_raiseE {a : Expr} {ta : TA} {W : WX} {p pos pos2 : Pos} {k : Nat} (hc : X.calm = true) (T : Err X.prog X.w X.K X.mg name par C ok) (hr : Room (k + 1) X.A) (tk : Takes X W) (ha : PA X [a] ta) (hg : Gl X name := by rfl) (hdb : (name == ("__debug__" : Str)) = false := by decide)
    (he : starEach (a :: []) X.env = (false, eval a X.env) :: starEach [] X.env := by rfl) (hpl : (backTo pos (starEach [] X.env)).any (·.1) = false := by rfl) :
    PS X (.Raise (some (.Call (.Name name p) [a] [] pos)) none pos2) (tRaiseE C par ok W ta) := ps_raise hc tk (pmk_err T hr ha hg hdb he hpl)
/-- e.field, e the exception that the suite holds -/
def tByE (C : Addr) (par : Str) (a : Addr) (cls : Value) (d : Option Addr) (te : TE) : TE := fun σ H Q => te σ H fun x H1 => x = .ref a ∧ cls = .ref C ∧ ∃ (dd : Addr) (v : V), d = some dd ∧ H1 dd = some (.xd [(par, v)]) ∧ Q v H1
theorem pe_byE {P : Program} {w : World} {K : PySem.W.Frag} {mg : Str → Option Value} {a : Addr} {oe : Obj} {cls : Value} {d : Option Addr} {pn : List (Addr × Obj)} {e : Expr} {te : TE} {pos : Pos} (hK : X.K = K) (T : Err P w K mg name par C ok) (hz : Zc cls d oe) (hf : ∃ vs, oe.data = .fields vs) (he : PE (X.suite a ((a, oe) :: pn)) e te)
    (hb : attributeBase e par X.env (eval e X.env) = eval e X.env := by rfl) :
    PE (X.suite a ((a, oe) :: pn)) (.Attribute e par pos) (tByE C par a cls d te) := by
  subst hK
  refine ⟨fun pins s σ H Q I h => ?_⟩
  refine attr_of hb (thn (he.run pins s σ H _ I h) fun u s1 hh => ?_)
  obtain ⟨x, H1, I1, rx, ex, ec, dd, v, ed, ea, q⟩ := hh
  subst ex
  obtain rfl : u = Value.ref a := rx
  subst ec
  subst ed
  obtain ⟨ha, _⟩ := I1.pin (a, oe) (List.mem_append_left _ List.mem_cons_self)
  obtain ⟨vs, hd⟩ := hf
  have hx : ObjOk X.prog X.w H1 s1.heap dd (.xd [(par, v)]) := I1.hok dd _ ea
  obtain ⟨mA, hns, hr⟩ := hx
  obtain ⟨od, ho, hl⟩ := lookIn_ns hns
  have l : List.lookup par [(par, v)] = some v := by simp [List.lookup]
  obtain ⟨u, hu, ru⟩ := RelO.some_of (v := v) (o := mA par) (by rw [← l]; exact hr par)
  have J : PySem.W.InstAt s1.heap a oe C (some od) := ⟨ha, hz.1, by unfold PySem.W.notCls; rw [hd] <;> rfl, by rw [hz.2]; exact ho⟩
  exact HandSPX.exc_get I1.kIn J T.ga T.gg T.exC (PySem.W.findObj_own T.hdC T.noN rfl (by rw [hl, hu])) (handed_of ru) ⟨v, H1, I1.tok _, ru, q⟩
/-- isinstance(e, c) -/
def rIsD (K : PySem.W.Frag) (C a : Addr) (cls : Value) (d : Option Addr) : List V → Hp → VK → Prop := fun xs H Q => ∃ (c : V) (cv : Value) (b : Bool) (dd : Addr) (fs : List (Str × V)), xs = [.ref a, c] ∧ cls = .ref C ∧ d = some dd ∧ H dd = some (.xd fs) ∧ (∀ u, RelV c u → u = cv) ∧ PySem.W.kitOne K (.ref C) cv = some b ∧ Q (.bl b) H
theorem call_isD {P : Program} {w : World} {K : PySem.W.Frag} {mg : Str → Option Value} {a : Addr} {oe : Obj} {cls : Value} {d : Option Addr} {pn : List (Addr × Obj)} (hK : X.K = K) (T : Err P w K mg name par C ok) (hz : Zc cls d oe) (hf : ∃ vs, oe.data = .fields vs) : CallR (X.suite a ((a, oe) :: pn)) (.builtin "isinstance") (rIsD K C a cls d) := by
  subst hK
  intro pins s σ H xs us Q I r h
  obtain ⟨c, cv, b, dd, fs, rfl, ec, ed, hdd, hcv, e, q⟩ := h
  subst ec
  subst ed
  cases r with
  | cons rx rr =>
    cases rr with
    | cons rt rr =>
      cases rr
      cases rx
      have ec := hcv _ rt
      subst ec
      obtain ⟨hget, _⟩ := I.pin (a, oe) (List.mem_append.mpr (.inl List.mem_cons_self))
      obtain ⟨vs, hv⟩ := hf
      have hx : ObjOk X.prog X.w H s.heap dd (.xd fs) := I.hok dd _ hdd
      obtain ⟨mA, hns, hr⟩ := hx
      obtain ⟨od, ho, hl⟩ := lookIn_ns hns
      have J : PySem.W.InstAt s.heap a oe C (some od) := ⟨hget, hz.1, by unfold PySem.W.notCls; rw [hv] <;> rfl, by rw [hz.2]; exact ho⟩
      exact PySem.W.kia_one (PySem.W.kitx_excD T.ga T.gg T.exC T.hdC T.ha T.hn T.ht T.hm) I.kIn J e (fun z => nomatch z) fun tk => ⟨.bl b, H, I.kept (t' := tk) fun _ _ z => z, rfl, q⟩
end
end Lk

namespace Lk
open PySem PySem.Spec PyProof.Rows L2
/-- the truth of an int -/
def tTrI (ta : TE) : TT := fun σ H Q => ta σ H fun x H' => ∃ i, x = .int i ∧ Q (i != 0) H'
theorem pt_int1 {X : Cx} {a : Expr} {ta : TE} (ha : PE X a ta) (he : ∀ whole, isTrue a X.env whole = (do let v ← whole; standAt a.pos; holding [v] (truthy v))) : PT X a (tTrI ta) := by
  refine ⟨fun pins s σ H Q I h => ?_⟩
  exact isTrue_plain (thn (ha.run pins s σ H _ I h) fun v s1 ⟨x, H1, I1, r1, q1⟩ => by
    obtain ⟨i, rfl, q⟩ := q1
    exact tru_ok pins s1 σ H1 (.int i) v Q I1 r1 ⟨_, rfl, q⟩) (he _)
section
variable {K : PySem.W.Frag} {σ : L2.St} {H : Hp} {Q : VK} {te : TE} {t : TA} {x : V}
theorem a_trI {R : Bool → Hp → Prop} (q : te σ H fun x H' => ∃ i, x = .int i ∧ R (i != 0) H') : tTrI te σ H R := q
theorem a_raiseE {C : Addr} {par : Str} {ok : V → Prop} {W : WX} {D : Ends} (q : t σ H fun vs H1 => ∃ v, vs = [v] ∧ ok v ∧ ∀ d, H1 d = none → W (.ref C) (some d) σ (upd H1 d (.xd [(par, v)]))) : tRaiseE C par ok W t D σ H := q
theorem a_byE {C a : Addr} {par : Str} {cls : Value} {d : Option Addr} (q : te σ H fun x H1 => x = .ref a ∧ cls = .ref C ∧ ∃ (dd : Addr) (v : V), d = some dd ∧ H1 dd = some (.xd [(par, v)]) ∧ Q v H1) : tByE C par a cls d te σ H Q := q
theorem a_callS {sp : Sp} {E : L2.St → XK} (q : t σ H fun vs H1 => sp vs H1 Q (E σ)) : tCallS sp E t σ H Q := q
theorem a_notN (q : Q (.bl (!decide (x = .non))) H) : (fun x y H Q => y = V.non ∧ Q (V.bl (!decide (x = .non))) H : R2) x .non H Q := ⟨rfl, q⟩
end
end Lk

namespace Lk
open PySem PySem.Spec PyProof.Rows L2
/-! ### the truth of a list -/
def tTrL (K : PySem.W.Frag) (ta : TE) : TT := fun σ H Q => ta σ H fun x H' => ∃ a xs, x = .ref a ∧ SqL K H' a xs ∧ Q (!xs.isEmpty) H'
theorem ptL_ {X : Cx} {K : PySem.W.Frag} (h : X.K = K) {a : Expr} {ta : TE} (ha : PE X a ta) (he : ∀ whole, isTrue a X.env whole = (do let v ← whole; standAt a.pos; holding [v] (truthy v))) : PT X a (tTrL K ta) := by
  subst h
  refine ⟨fun pins s σ H Q I h => ?_⟩
  exact isTrue_plain (thn (ha.run pins s σ H _ I h) fun v s1 ⟨x, H1, I1, r1, q1⟩ => by
    obtain ⟨a, xs, rfl, hx, q⟩ := q1
    exact tru_ok pins s1 σ H1 (.ref a) v Q I1 r1 ⟨_, .inl ⟨xs, hx, rfl⟩, q⟩) (he _)
theorem bm0K_ {X : Cx} {K : PySem.W.Frag} {e : Expr} {T : String} {r : V → List V → Hp → VK → Prop} {to : TE} (h : X.K = K) (hl : PE X e (tBM0 X.K T r to)) : PE X e (tBM0 K T r to) := by subst h; exact hl
theorem listK_ {X : Cx} {K : PySem.W.Frag} (h : X.K = K) : CallR X (.type "list") (fun xs H Q => ∃ p ys, xs = [.ref p] ∧ (SqL K H p ys ∨ SqT K H p ys) ∧ ∀ l, H l = none → Q (.ref l) (upd H l (.lst ys))) := by subst h; exact call_list_of
section
variable {K : PySem.W.Frag} {σ : L2.St} {H : Hp} {Q : VK} {te : TE} {t : TA} {x : V} {i j : Int}
theorem a_trL {R : Bool → Hp → Prop} (q : te σ H fun x H' => ∃ a xs, x = .ref a ∧ SqL K H' a xs ∧ R (!xs.isEmpty) H') : tTrL K te σ H R := q
theorem a_bm0 {T : String} {r : V → List V → Hp → VK → Prop} {to : TE} (q : to σ H fun x H1 => tyV K T x H1 ∧ r x [] H1 Q) : tBM0 K T r to σ H Q := q
theorem a_extl {a : Addr} {xs : List V} {P : Bool → Prop} (h : SqL K H a xs) (q : P (!xs.isEmpty)) : ∃ a' xs, V.ref a = .ref a' ∧ SqL K H a' xs ∧ P (!xs.isEmpty) := ⟨a, xs, rfl, h, q⟩
theorem a_rng2 {R : It → Hp → Prop} (q : t σ H fun vs H1 => ∃ i j : Int, vs = [.int i, .int j] ∧ (-(2 ^ 62) ≤ i ∧ i < 2 ^ 62 ∧ -(2 ^ 62) ≤ j ∧ j < 2 ^ 62) ∧ R (Itr i (j - i).toNat) H1) : iRng2 t σ H R := q
theorem a_exrng2 {P : Int → Int → Prop} (h : -(2 ^ 62) ≤ i ∧ i < 2 ^ 62 ∧ -(2 ^ 62) ≤ j ∧ j < 2 ^ 62) (q : P i j) : ∃ i' j' : Int, [V.int i, V.int j] = [.int i', .int j'] ∧ (-(2 ^ 62) ≤ i' ∧ i' < 2 ^ 62 ∧ -(2 ^ 62) ≤ j' ∧ j' < 2 ^ 62) ∧ P i' j' := ⟨i, j, rfl, h, q⟩
theorem a_rng3 {R : It → Hp → Prop} (q : t σ H fun vs H1 => ∃ (i j c : Int) (n : Nat), vs = [.int i, .int j, .int c] ∧ RgC i j c n ∧ R (Itc i c n) H1) : iRng3 t σ H R := q
theorem a_exrng3 {P : Int → Int → Nat → Prop} (h : -(2 ^ 62) ≤ i ∧ i < 2 ^ 62 ∧ -(2 ^ 62) ≤ j ∧ j < 2 ^ 62) (q : P i (-1) (i - j).toNat) : ∃ (i' j' c : Int) (n : Nat), [V.int i, V.int j, V.int (-1)] = [.int i', .int j', .int c] ∧ RgC i' j' c n ∧ P i' c n :=
  ⟨i, j, -1, _, rfl, RgC.neg h.1 h.2.1 h.2.2.1 h.2.2.2, q⟩
theorem a_max2 {P : Int → Prop} (q : P (if j > i then j else i)) : ∃ i' j', [V.int i, V.int j] = [.int i', .int j'] ∧ P (if j' > i' then j' else i') := ⟨i, j, rfl, q⟩
theorem a_min2 {P : Int → Prop} (q : P (if j < i then j else i)) : ∃ i' j', [V.int i, V.int j] = [.int i', .int j'] ∧ P (if j' < i' then j' else i') := ⟨i, j, rfl, q⟩
theorem a_list {a : Addr} {xs : List V} {P : Addr → List V → Prop} (h : SqL K H a xs) (q : P a xs) : ∃ p ys, [V.ref a] = [.ref p] ∧ (SqL K H p ys ∨ SqT K H p ys) ∧ P p ys := ⟨a, xs, rfl, .inl h, q⟩
theorem a_lstRg {tr : L2.St → Hp → (Int → Int → Hp → Prop) → Prop} (q : tr σ H fun a b H1 => RgOk a b ∧ ∀ q, H1 q = none → Q (.ref q) (upd H1 q (.lst (rgV a b)))) : tLstRg tr σ H Q := q
theorem a_rg1 {R : Int → Int → Hp → Prop} (q : te σ H fun x H1 => ∃ n, x = .int n ∧ R 0 n H1) : tRg1 te σ H R := q
theorem a_popL {a : Addr} {xs : List V} {y : V} (h : H a = some (.lst (xs ++ [y]))) (q : Q y (upd H a (.lst xs))) : rPop (.ref a) [] H Q := by
  refine ⟨a, xs ++ [y], y, rfl, rfl, h, ?_, ?_⟩
  · simp
  · rw [List.dropLast_concat]
    exact q
end
section
variable {g : TG} {tb : TS} {σ : L2.St} {H : Hp} {nx : L2.St → Hp → Prop} {rt : VK}
theorem fo_rng2 {lo : Int} {n : Nat} (Pv : Nat → L2.St → Hp → Prop) (h0 : Pv 0 σ H)
    (hs : ∀ i σ H, i < n → Pv i σ H → g (.int (lo + (i : Int))) σ H fun σ2 H2 => tb ⟨Pv (i + 1), rt, nx, Pv (i + 1)⟩ σ2 H2) (hd : ∀ σ H, Pv n σ H → nx σ H) :
    ∃ W : Nat → Nat → L2.St → Hp → Prop, (∃ m, W 0 m σ H) ∧ ∀ i m σ H, W i m σ H →
      ((Itr lo n).stop i H ∧ nx σ H) ∨ ((Itr lo n).go i H ∧ ∃ N : L2.St → Hp → Prop, (∀ σ' H', N σ' H' → ∃ m', m' < m ∧ W (i + 1) m' σ' H') ∧ ∀ x H', (Itr lo n).yld i H x H' → g x σ H' fun σ2 H2 => tb ⟨N, rt, nx, N⟩ σ2 H2) :=
  for_range (lo := lo) (D := ⟨nx, rt, fun _ _ => False, fun _ _ => False⟩) Pv h0 hs hd
theorem fo_down {lo : Int} {n : Nat} (Pv : Nat → L2.St → Hp → Prop) (h0 : Pv 0 σ H)
    (hs : ∀ i σ H, i < n → Pv i σ H → g (.int (lo - (i : Int))) σ H fun σ2 H2 => tb ⟨Pv (i + 1), rt, nx, Pv (i + 1)⟩ σ2 H2) (hd : ∀ σ H, Pv n σ H → nx σ H) :
    ∃ W : Nat → Nat → L2.St → Hp → Prop, (∃ m, W 0 m σ H) ∧ ∀ i m σ H, W i m σ H →
      ((Itc lo (-1) n).stop i H ∧ nx σ H) ∨ ((Itc lo (-1) n).go i H ∧ ∃ N : L2.St → Hp → Prop, (∀ σ' H', N σ' H' → ∃ m', m' < m ∧ W (i + 1) m' σ' H') ∧ ∀ x H', (Itc lo (-1) n).yld i H x H' → g x σ H' fun σ2 H2 => tb ⟨N, rt, nx, N⟩ σ2 H2) :=
  for_rangeC (lo := lo) (c := -1) (D := ⟨nx, rt, fun _ _ => False, fun _ _ => False⟩) Pv h0 (fun i σ H hi p => by
    have e : lo + (i : Int) * -1 = lo - (i : Int) := by omega
    rw [e]
    exact hs i σ H hi p) hd
end
/-- a comprehension over a list of ints, with a test -/
theorem c_lstF {K : PySem.W.Frag} {σ : L2.St} {H : Hp} {Q : VK} {te tl : TE} {tt : TT} {vs : List Nat} {a : Addr} {k : Nat} {xs : List Int} (f : Int → Bool) (hv : vs = [k]) (ht : ∀ R : VK, R (.ref a) H → tl σ H R) (hx : SqL K H a (xs.map V.int)) (hz : xs.length ≤ 1000000)
    (hc : ∀ x : Int, ∀ H' (R : Bool → Hp → Prop), Same H H' → R (f x) H' → tt ((wipe σ [k]).set k (some (.int x))) H' R)
    (he : ∀ x : Int, f x = true → ∀ H' (R : VK), Same H H' → R (.int x) H' → te ((wipe σ [k]).set k (some (.int x))) H' R)
    (q : ∀ D H', H D = none → Same H H' → H' D = some (.lst ((xs.filter f).map V.int)) → Q (.ref D) H') : tLc (iList K tl) (gName k) tt te vs σ H Q := by
  subst hv
  refine ht (fun x H1 => ∃ a, x = .ref a ∧ (∃ xs, SqL K H1 a xs) ∧ _) ⟨a, rfl, ⟨_, hx⟩, ?_⟩
  intro D hD
  refine lc_list (K := K) (a := a) (xs := xs.map V.int) (Qd := Q (.ref D)) (fun i H' => Same H H' ∧ H' D = some (.lst (((xs.take i).filter f).map V.int))) ⟨same_upd hD, upd_same⟩ (fun i H' _ h => h.1.seq hx) ?_ ?_
  · rintro i x H' hi ⟨s, e⟩
    obtain ⟨n, hn, rfl⟩ := getV hi
    have hlen := (List.getElem?_eq_some_iff.mp hn).1
    refine a_gname ⟨wipe1, ?_⟩
    refine hc n H' _ s ?_
    have ht : xs.take (i + 1) = xs.take i ++ [n] := (take_app hn).symm
    cases hf : f n with
    | true =>
      refine ift (he n hf H' _ s ?_)
      refine ⟨_, e, ?_, smut s hD, ?_⟩
      · refine szl ?_
        rw [List.length_map]
        refine Nat.le_trans (List.length_filter_le _ _) ?_
        rw [List.length_take]
        omega
      · rw [upd_same, ht, List.filter_append, List.map_append]
        simp [List.filter, hf]
    | false =>
      refine iff' ⟨s, ?_⟩
      rw [e, ht, List.filter_append]
      simp [List.filter, hf]
  · rintro H' ⟨s, e⟩
    refine q D H' hD s ?_
    rw [e, List.length_map, List.take_length]
/-! ### == of two lists of ints -/
theorem eqv_ints : ∀ a b : List Int, PyData.eqvAll (dInts a) (dInts b) = decide (a = b)
  | [], [] => by unfold dInts; simp [PyData.eqvAll]
  | [], y :: s => by unfold dInts; simp [PyData.eqvAll]
  | x :: r, [] => by unfold dInts; simp [PyData.eqvAll]
  | x :: r, y :: s => by
    have ih := eqv_ints r s
    unfold dInts at *
    rw [List.map_cons, List.map_cons]
    simp only [PyData.eqvAll, ih, PyData.eqv]
    by_cases h : x = y
    · subst h
      simp
    · simp [h]
theorem eqL_ints {K : PySem.W.Frag} {H : Hp} {Q : VK} {a b : Addr} {l m : List Int} (ha : H a = some (.lst (l.map V.int))) (hb : H b = some (.lst (m.map V.int))) (q : Q (.bl (decide (l = m))) H) : rEqD K (.ref a) (.ref b) H Q := by
  refine a_eqD (dp_lst ha) (dp_lst hb) (shaped_flat (flat1 l) (by decide)) (shaped_flat (flat1 m) (by decide)) ?_
  have : PyData.eqv (.list (dInts l)) (.list (dInts m)) = decide (l = m) := by
    rw [← eqv_ints]
    simp [PyData.eqv]
  rw [this]
  exact q
/-- xs[::-1] -/
theorem bounds_rev (n : Nat) : sliceBounds none none (some (-1)) n = ((n : Int) - 1, -1, -1) := by simp [sliceBounds]
theorem range_down (n : Nat) : sliceRange ((n : Int) - 1) (-1) (-1) = (List.range n).map (fun k => n - 1 - k) := by
  unfold sliceRange
  by_cases h : (n : Int) - 1 > -1
  · have e : ((n : Int) - 1 - -1 - -1 - 1) / (- -1) = (n : Int) := by
      rw [show (- -1 : Int) = 1 from rfl, Int.ediv_one]
      omega
    simp only [show ¬ ((-1 : Int) > 0) by decide, if_false, h, if_true, e, Int.toNat_natCast]
    apply List.map_congr_left
    intro k hk
    have := List.mem_range.1 hk
    omega
  · have e : n = 0 := by omega
    subst e
    simp
theorem pick_rev (g : Nat → V) (m : Nat) : pickV ((List.range m).map g) none none (some (-1)) = (List.range m).map fun k => g (m - 1 - k) := by
  unfold pickV
  rw [List.length_map, List.length_range, bounds_rev, range_down, List.filterMap_map]
  refine fm_some _ _ _ fun k hk => ?_
  have := List.mem_range.1 hk
  show ((List.range m).map g)[m - 1 - k]? = _
  rw [List.getElem?_map, List.getElem?_range (by omega)]
  rfl
end Lk

namespace Lk
/-! ### numbers modulo p -/
def C (p a b : Int) : Prop := a % p = b % p
theorem C.refl {p : Int} (a : Int) : C p a a := rfl
theorem C.symm {p a b : Int} (h : C p a b) : C p b a := Eq.symm h
theorem C.trans {p a b c : Int} (h : C p a b) (k : C p b c) : C p a c := Eq.trans h k
theorem C.of {p a b : Int} (h : a = b) : C p a b := by rw [h]; exact rfl
theorem C.add {p a b c d : Int} (h : C p a b) (k : C p c d) : C p (a + c) (b + d) := by
  unfold C at *
  rw [Int.add_emod, h, k, ← Int.add_emod]
theorem C.mul {p a b c d : Int} (h : C p a b) (k : C p c d) : C p (a * c) (b * d) := by
  unfold C at *
  rw [Int.mul_emod, h, k, ← Int.mul_emod]
theorem C.mod {p a : Int} : C p (a % p) a := Int.emod_emod_of_dvd a (Int.dvd_refl p)
theorem C.eq {p a b : Int} (h : C p a b) (h0 : 0 ≤ b) (h1 : b < p) : a % p = b := by
  unfold C at h
  rw [h, Int.emod_eq_of_lt h0 h1]
theorem C.pow {p a b : Int} (h : C p a b) : ∀ n : Nat, C p (a ^ n) (b ^ n)
  | 0 => C.of (by rw [Int.pow_zero, Int.pow_zero])
  | n + 1 => by
    rw [Int.pow_succ, Int.pow_succ]
    exact C.mul (C.pow h n) h
/-! ### trial division -/
def PrimeI (n : Int) : Prop := 2 ≤ n ∧ ∀ k : Int, 2 ≤ k → k * k ≤ n → n % k ≠ 0
open Classical in
noncomputable def isP (n : Int) : Bool := decide (PrimeI n)
theorem isP_t {n : Int} (h : PrimeI n) : isP n = true := by
  unfold isP
  exact @decide_eq_true _ (Classical.propDecidable _) h
theorem isP_f {n : Int} (h : ¬ PrimeI n) : isP n = false := by
  unfold isP
  exact @decide_eq_false _ (Classical.propDecidable _) h
noncomputable def goodM (n : Int) : Bool := decide (n ≤ 2147483647) && isP n
theorem good_isP {n : Int} (h1 : n ≤ 2147483647) : goodM n = isP n := by
  unfold goodM
  rw [decide_eq_true h1, Bool.true_and]
theorem good_big {n : Int} (h1 : ¬ n ≤ 2147483647) : goodM n = false := by
  unfold goodM
  rw [decide_eq_false h1, Bool.false_and]
theorem good_low {n : Int} (h1 : n < 2) : goodM n = false := by
  rw [good_isP (by omega)]
  exact isP_f fun z => by have := z.1; omega
theorem isP_small {n : Int} (h : n < 4) : isP n = decide (1 < n) := by
  by_cases h1 : 1 < n
  · rw [decide_eq_true h1]
    refine isP_t ⟨by omega, fun k hk hkk => ?_⟩
    have : 2 * 2 ≤ k * k := Int.mul_le_mul hk hk (by omega) (by omega)
    omega
  · rw [decide_eq_false h1]
    exact isP_f fun z => by have := z.1; omega
theorem isP_even {n : Int} (h : 4 ≤ n) (h2 : n % 2 = 0) : isP n = false := isP_f fun z => z.2 2 (by omega) (by omega) h2
/-- nothing below d divides -/
def None (n d : Int) : Prop := ∀ k, 2 ≤ k → k < d → n % k ≠ 0
theorem isP_found {n d : Int} (h2 : 2 ≤ d) (hd : d * d ≤ n) (h : n % d = 0) : isP n = false := isP_f fun z => z.2 d h2 hd h
theorem isP_end {n d : Int} (hn : 2 ≤ n) (h : None n d) (h2 : 2 ≤ d) (hd : ¬ d * d ≤ n) : isP n = true := by
  refine isP_t ⟨hn, fun k hk hkk => h k hk ?_⟩
  by_cases hlt : k < d
  · exact hlt
  · have : d * d ≤ k * k := Int.mul_le_mul (by omega) (by omega) (by omega) (by omega)
    omega
theorem none_two {n : Int} : None n 2 := fun k _ _ => by omega
theorem none_three {n : Int} (h : ¬ n % 2 = 0) : None n 3 := fun k h1 h2 => by
  have : k = 2 := by omega
  rw [this]
  exact h
theorem none_one {n d : Int} (h : None n d) (hd : ¬ n % d = 0) : None n (d + 1) := fun k h1 h2 => by
  by_cases e : k = d
  · rw [e]; exact hd
  · exact h k h1 (by omega)
theorem none_next {n d : Int} (h : None n d) (hd : ¬ n % d = 0) (ho : d % 2 = 1) (hn : ¬ n % 2 = 0) : None n (d + 2) := fun k h1 h2 => by
  by_cases e : k = d + 1
  · intro z
    refine hn ?_
    have h3 : (k : Int) ∣ n := Int.dvd_of_emod_eq_zero z
    have h4 : (2 : Int) ∣ k := ⟨(d + 1) / 2, by omega⟩
    have h5 := Int.dvd_trans h4 h3
    omega
  · exact none_one h hd k h1 (by omega)
theorem sq_le {d n : Int} (h : 1 ≤ d) (hd : d * d ≤ n) : d ≤ n := by
  have : d * 1 ≤ d * d := Int.mul_le_mul_of_nonneg_left h (by omega)
  omega
def primes11 : List Int := [2, 3, 5, 7, 11, 13, 97, 251, 65537, 1000003, 2147483647]
/-! ### powers -/
theorem pow_start {p b : Int} {e : Nat} : C p (1 * (b % p) ^ e) (b ^ e) := by
  rw [Int.one_mul]
  exact C.pow C.mod e
theorem pow_one {p r b l : Int} {x : Int} (hl : 0 < l) (h : C p (r * b ^ l.toNat) x) : C p (r * b % p * b ^ (l - 1).toNat) x := by
  refine C.trans (C.mul C.mod (C.refl _)) (C.trans (C.of ?_) h)
  have e : l.toNat = (l - 1).toNat + 1 := by omega
  rw [e, Int.pow_succ, Int.mul_assoc, Int.mul_comm b]
theorem pow_odd {p r s l : Int} {x : Int} (hl : 0 < l) (ho : l % 2 = 1) (h : C p (r * s ^ l.toNat) x) : C p (r * s % p * (s * s % p) ^ (l / 2 ^ (1 : Int).toNat).toNat) x := by
  refine C.trans (C.mul C.mod (C.pow C.mod _)) (C.trans (C.of ?_) h)
  have e : l.toNat = 2 * (l / 2 ^ (1 : Int).toNat).toNat + 1 := by
    show l.toNat = 2 * (l / 2).toNat + 1
    omega
  rw [e, Int.pow_succ, Int.pow_mul]
  have : s * s = s ^ 2 := by rw [Int.pow_succ, Int.pow_succ, Int.pow_zero, Int.one_mul]
  rw [this, Int.mul_assoc, Int.mul_comm s]
theorem pow_even {p r s l : Int} {x : Int} (hl : 0 < l) (ho : l % 2 = 0) (h : C p (r * s ^ l.toNat) x) : C p (r * (s * s % p) ^ (l / 2 ^ (1 : Int).toNat).toNat) x := by
  refine C.trans (C.mul (C.refl _) (C.pow C.mod _)) (C.trans (C.of ?_) h)
  have e : l.toNat = 2 * (l / 2 ^ (1 : Int).toNat).toNat := by
    show l.toNat = 2 * (l / 2).toNat
    omega
  rw [e, Int.pow_mul]
  have : s * s = s ^ 2 := by rw [Int.pow_succ, Int.pow_succ, Int.pow_zero, Int.one_mul]
  rw [this]
theorem primes_in {p : Int} (h : p ∈ primes11) : 2 ≤ p ∧ p ≤ 2147483647 := by
  simp only [primes11, List.mem_cons, List.not_mem_nil, or_false] at h
  omega
theorem half_odd {p a l : Int} (hl : 0 ≤ l) (ho : l % 2 = 1) : a ^ l.toNat % p = a ^ (l / 2).toNat % p * (a ^ (l / 2).toNat % p) % p * a % p := by
  have h : C p (a ^ (l / 2).toNat % p * (a ^ (l / 2).toNat % p) % p * a) (a ^ l.toNat) := by
    refine C.trans (C.mul (C.mod.trans (C.mul C.mod C.mod)) (C.refl a)) (C.of ?_)
    have e : l.toNat = (l / 2).toNat + (l / 2).toNat + 1 := by omega
    rw [e, Int.pow_succ, Int.pow_add]
  exact h.symm
theorem half_even {p a l : Int} (hl : 0 ≤ l) (ho : ¬ l % 2 = 1) : a ^ l.toNat % p = a ^ (l / 2).toNat % p * (a ^ (l / 2).toNat % p) % p := by
  have h : C p (a ^ (l / 2).toNat % p * (a ^ (l / 2).toNat % p)) (a ^ l.toNat) := by
    refine C.trans (C.mul C.mod C.mod) (C.of ?_)
    have e : l.toNat = (l / 2).toNat + (l / 2).toNat := by omega
    rw [e, Int.pow_add]
  exact h.symm
end Lk

namespace Lk
open PySem PySem.Spec PyProof.Rows L2
/-! ### a heap without the addresses that change -/
def hid (M : List Addr) (H : Hp) : Hp := fun a => if a ∈ M then none else H a
def Al (M : List Addr) (H : Hp) : Prop := ∀ a ∈ M, H a ≠ none
theorem hid_of {M : List Addr} {H : Hp} {a : Addr} {o : HO} (h : hid M H a = some o) : H a = some o ∧ a ∉ M := by
  unfold hid at h
  by_cases e : a ∈ M
  · rw [if_pos e] at h; cases h
  · rw [if_neg e] at h; exact ⟨h, e⟩
theorem hid_in {M : List Addr} {H : Hp} {a : Addr} {o : HO} (h : H a = some o) (e : a ∉ M) : hid M H a = some o := by
  unfold hid
  rw [if_neg e]
  exact h
theorem hid_sub {M : List Addr} {H : Hp} : Same (hid M H) H := fun a o h => (hid_of h).1
theorem hid_same {M : List Addr} {H H' : Hp} (s : Same H H') : Same (hid M H) (hid M H') := fun a o h => hid_in (s a o (hid_of h).1) (hid_of h).2
theorem Al.same {M : List Addr} {H H' : Hp} (l : Al M H) (s : Same H H') : Al M H' := fun a ha e => by
  cases h : H a with
  | none => exact l a ha h
  | some o => rw [s a o h] at e; cases e
theorem Al.new {M : List Addr} {H : Hp} {p : Addr} (l : Al M H) (n : H p = none) : p ∉ M := fun h => l p h n
theorem Al.cons {M : List Addr} {H : Hp} {p : Addr} {o : HO} (l : Al M H) (h : H p = some o) : Al (p :: M) H := fun a ha => by
  rcases List.mem_cons.mp ha with e | e
  · rw [e, h]; exact nofun
  · exact l a e
theorem hid_more {M M' : List Addr} {H : Hp} (h : ∀ a ∈ M, a ∈ M') : Same (hid M' H) (hid M H) := fun a o e => hid_in (hid_of e).1 fun z => (hid_of e).2 (h a z)
theorem hid_cons {p : Addr} {M : List Addr} {H : Hp} : Same (hid (p :: M) H) (hid M H) := hid_more fun a h => List.mem_cons_of_mem _ h
/-- a change at a hidden address is not seen -/
theorem hid_mut {M : List Addr} {H : Hp} {p : Addr} {o : HO} (h : p ∈ M) : Same (hid M H) (hid M (L2.upd H p o)) := fun a u e => by
  obtain ⟨e1, e2⟩ := hid_of e
  refine hid_in ?_ e2
  rw [upd_ne (show a ≠ p from fun z => e2 (by rw [z]; exact h))]
  exact e1
theorem hid_mut' {M : List Addr} {H : Hp} {p : Addr} {o : HO} (h : p ∈ M) : Same (hid M (L2.upd H p o)) (hid M H) := fun a u e => by
  obtain ⟨e1, e2⟩ := hid_of e
  refine hid_in ?_ e2
  rw [upd_ne (show a ≠ p from fun z => e2 (by rw [z]; exact h))] at e1
  exact e1
theorem hid_fresh {p : Addr} {M : List Addr} {H : Hp} (n : H p = none) : Same (hid M H) (hid (p :: M) H) := fun a u e => by
  obtain ⟨e1, e2⟩ := hid_of e
  refine hid_in e1 fun z => ?_
  rcases List.mem_cons.mp z with h | h
  · rw [h, n] at e1; cases e1
  · exact e2 h
theorem hid_none {M : List Addr} {H : Hp} {p : Addr} (n : H p = none) : hid M H p = none := by
  unfold hid
  split
  · rfl
  · exact n
/-! ### the row of the draws -/
def StR (H : Hp) (st : Addr) : Prop := ∃ (n : Int) (l : List Int), H st = some (.lst ((n :: l).map V.int)) ∧ 0 ≤ n ∧ l.length ≤ 5000
theorem StR.same {st : Addr} {H H' : Hp} (s : StR H st) (h : Same H H') : StR H' st := by
  obtain ⟨n, l, h1, h2, h3⟩ := s
  exact ⟨n, l, h _ _ h1, h2, h3⟩
/-- drawing goes on: the row, and which addresses may change -/
structure Dr (st : Addr) (M : List Addr) (H : Hp) : Prop where
  row : StR H st
  mem : st ∈ M
  al : Al M H
theorem Dr.same {st : Addr} {M : List Addr} {H H' : Hp} (d : Dr st M H) (s : Same H H') : Dr st M H' := ⟨d.row.same s, d.mem, d.al.same s⟩
theorem Dr.cons {st p : Addr} {M : List Addr} {H : Hp} {o : HO} (d : Dr st M H) (h : H p = some o) : Dr st (p :: M) H := ⟨d.row, List.mem_cons_of_mem _ d.mem, d.al.cons h⟩
theorem Dr.tail {st p : Addr} {M : List Addr} {H : Hp} (d : Dr st (p :: M) H) (h : st ∈ M) : Dr st M H := ⟨d.row, h, fun a ha => d.al a (List.mem_cons_of_mem _ ha)⟩
theorem Dr.mut {st p : Addr} {M : List Addr} {H : Hp} {o : HO} (d : Dr st M H) (h : p ≠ st) : Dr st M (L2.upd H p o) := by
  obtain ⟨⟨n, l, h1, h2, h3⟩, hm, al⟩ := d
  refine ⟨⟨n, l, by rw [upd_ne h.symm]; exact h1, h2, h3⟩, hm, fun a ha => ?_⟩
  by_cases e : a = p
  · rw [e, upd_same]; exact nofun
  · rw [upd_ne e]; exact al a ha
theorem Dr.one {st : Addr} {H : Hp} (s : StR H st) : Dr st [st] H := ⟨s, List.mem_cons_self, fun a ha => by
  obtain ⟨n, l, h1, _⟩ := s
  rw [List.mem_singleton.mp ha, h1]
  exact nofun⟩
/-- what a draw does: nothing but the row changes -/
def Rw (st : Addr) (H H' : Hp) : Prop := ∀ a o, H a = some o → a ≠ st → H' a = some o
theorem Rw.refl {st : Addr} (H : Hp) : Rw st H H := fun _ _ h _ => h
theorem Rw.trans {st : Addr} {H H1 H2 : Hp} (a : Rw st H H1) (b : Rw st H1 H2) : Rw st H H2 := fun x o h n => b x o (a x o h n) n
theorem Rw.of {st : Addr} {H H' : Hp} (s : Same H H') : Rw st H H' := fun a o h _ => s a o h
theorem Rw.new {st : Addr} {H H' : Hp} {p : Addr} {o : HO} (d : Rw st H H') (n : H' p = none) : Rw st H (upd H' p o) := d.trans (Rw.of (same_upd n))
/-- a place that H does not know may change -/
theorem Rw.mut {st : Addr} {H H' : Hp} {p : Addr} {o : HO} (d : Rw st H H') (n : H p = none) : Rw st H (upd H' p o) := fun a u e ne => by
  rw [upd_ne (ne_of_none e n)]
  exact d a u e ne
theorem Rw.hid {st : Addr} {M : List Addr} {H H' : Hp} (g : Rw st H H') (m : st ∈ M) : Same (hid M H) (hid M H') := fun a u e => by
  obtain ⟨e1, e2⟩ := hid_of e
  exact hid_in (g a u e1 fun z => e2 (z ▸ m)) e2
theorem Dr.step {st : Addr} {M : List Addr} {H H' : Hp} (d : Dr st M H) (s : StR H' st) (g : Rw st H H') : Dr st M H' := by
  refine ⟨s, d.mem, fun a ha => ?_⟩
  by_cases e : a = st
  · obtain ⟨n, l, h1, _⟩ := s
    rw [e, h1]; exact nofun
  · cases h : H a with
    | none => exact absurd h (d.al a ha)
    | some o => rw [g a o h e]; exact nofun
theorem cut_take (ns : List Int) (k : Nat) : cutV (ns.map V.int) none (some (k : Int)) = (ns.take k).map V.int := by
  unfold cutV
  rw [HT.sIx_nat, List.length_map]
  have h1 : HT.sIx ns.length 0 none = 0 := rfl
  rw [h1, List.drop_zero, Nat.sub_zero, List.map_take]
  by_cases h : k ≤ ns.length
  · rw [Nat.min_eq_left h]
  · rw [Nat.min_eq_right (by omega), List.take_of_length_le (by simp), List.take_of_length_le (by rw [List.length_map]; omega)]
theorem a_isN {H : Hp} {Q : VK} {x : V} (q : Q (.bl (decide (x = .non))) H) : (fun x y H Q => y = V.non ∧ Q (V.bl (decide (x = .non))) H : R2) x .non H Q := ⟨rfl, q⟩
theorem a_brk {nx bk ct : L2.St → Hp → Prop} {rt : VK} {σ : L2.St} {H : Hp} (q : bk σ H) : tBreak ⟨nx, rt, bk, ct⟩ σ H := q
theorem in_at {lo hi x : Int} {l : List Int} {i : Nat} (h : In lo hi l) (e : l[i]? = some x) : lo ≤ x ∧ x < hi := h x (List.mem_of_getElem? e)
theorem in_D {lo hi : Int} {l : List Int} {i : Nat} (h : In lo hi l) (hi' : i < l.length) : lo ≤ l.getD i 0 ∧ l.getD i 0 < hi := by
  have e : l[i]? = some (l.getD i 0) := by rw [List.getD_eq_getElem?_getD, List.getElem?_eq_getElem hi']; rfl
  exact in_at h e
theorem at_rg {f : Nat → V} {m : Nat} {x : Int} {k : Nat} (hx : x = (k : Int)) (hk : k < m) : atI ((List.range m).map f) x = some (f k) := by
  rw [hx]
  exact atI_nat (rg_at hk)
/-! ### comprehensions that draw -/
section
variable {K : PySem.W.Frag} {σ : L2.St} {H : Hp} {Q : VK} {te tl : TE} {ta : TA} {vs : List Nat}
/-- over a range; Inv speaks of what is not hidden -/
theorem g_gen {st : Addr} {M : List Addr} {k n : Nat} (Inv : Nat → List V → Hp → Prop) (mono : ∀ i ys H1 H2, Same H1 H2 → Inv i ys H1 → Inv i ys H2) (hn : n ≤ 1000000) (d0 : Dr st M H) (i0 : Inv 0 [] (hid M H))
    (he : ∀ (j : Nat) (D : Addr) (ys : List V) (H' : Hp) (R : VK), j < n → ys.length = j → H D = none → Dr st (D :: M) H' → Rw st H H' → Same (hid M H) (hid (D :: M) H') → Inv j ys (hid (D :: M) H') →
      (∀ y H'', StR H'' st → Rw st H' H'' → Inv (j + 1) (ys ++ [y]) (hid (D :: M) H'') → R y H'') → te ((wipe σ [k]).set k (some (.int (j : Int)))) H' R)
    (q : ∀ D H' ys, H D = none → Dr st M H' → Rw st H H' → ys.length = n → Inv n ys (hid M H') → H' D = some (.lst ys) → Q (.ref D) H') :
    ∀ D, H D = none → ∃ W : Nat → Nat → Hp → Prop, (∃ m, W 0 m (upd H D (.lst []))) ∧ ∀ i m H, W i m H →
      ((Itr 0 n).stop i H ∧ Q (.ref D) H) ∨ ((Itr 0 n).go i H ∧ ∃ Nx : Hp → Prop, (∀ H', Nx H' → ∃ m', m' < m ∧ W (i + 1) m' H') ∧ ∀ x H', (Itr 0 n).yld i H x H' → gName k x (wipe σ [k]) H' fun σ2 H2 => wipe σ2 [k] = wipe σ [k] ∧ tYes σ2 H2 fun b H3 =>
        if b = true then te σ2 H3 fun y H4 => ∃ acc, H4 D = some (.lst acc) ∧ acc.length < sizeLine ∧ Nx (upd H4 D (.lst (acc ++ [y]))) else Nx H3) := by
  intro D hD
  have nD := d0.al.new hD
  have nst : D ≠ st := fun z => nD (z ▸ d0.mem)
  have s0 : ∀ o, Same (hid M H) (hid (D :: M) (upd H D o)) := fun o a u e => hid_mut (List.mem_cons_self) _ _ (hid_fresh hD _ _ e)
  refine lc_range (lo := 0) (n := n) (Qd := Q (.ref D)) (fun i H' => ∃ ys : List V, ys.length = i ∧ i ≤ n ∧ H' D = some (.lst ys) ∧ Dr st (D :: M) H' ∧ Rw st H H' ∧ Inv i ys (hid (D :: M) H'))
    ⟨[], rfl, Nat.zero_le _, upd_same, (d0.same (same_upd hD)).cons upd_same, (Rw.refl H).mut hD, mono _ _ _ _ (s0 _) i0⟩ ?_ ?_
  · rintro i H' hi ⟨ys, e1, e2, e3, d1, r1, iv⟩
    refine a_gname ?_
    refine ⟨by simp [wipe], a_yes (ift ?_)⟩
    rw [Int.zero_add]
    have sM : Same (hid M H) (hid (D :: M) H') := fun a u e => by
      obtain ⟨g1, g2⟩ := hid_of (r1.hid d0.mem a u e)
      refine hid_in g1 fun z => ?_
      rcases List.mem_cons.mp z with h | h
      · have := (hid_of e).1
        rw [h, hD] at this; cases this
      · exact g2 h
    refine he i D ys H' _ hi e1 hD d1 r1 sM iv fun y H'' s2 r2 iv2 => ?_
    refine ⟨ys, r2 _ _ e3 nst, szl (by omega), ys ++ [y], by rw [List.length_append, e1]; rfl, by omega, upd_same, (d1.step s2 r2).mut nst, (r1.trans r2).mut hD, mono _ _ _ _ (hid_mut List.mem_cons_self) iv2⟩
  · rintro H' ⟨ys, e1, e2, e3, d1, r1, iv⟩
    exact q D H' ys hD (d1.tail d0.mem) r1 e1 (mono _ _ _ _ hid_cons iv) e3
/-- what a draw leaves free was free -/
theorem Rw.free {st D : Addr} {H H' : Hp} (r : Rw st H H') (s : StR H' st) (h : H' D = none) : H D = none := by
  cases e : H D with
  | none => rfl
  | some o =>
    by_cases z : D = st
    · obtain ⟨n, l, h1, _⟩ := s
      rw [z, h1] at h; cases h
    · rw [r D o e z] at h; cases h
theorem c_gen {st : Addr} {M : List Addr} {k : Nat} (Pn : Nat → Prop) (Inv : Nat → List V → Hp → Prop) (mono : ∀ i ys H1 H2, Same H1 H2 → Inv i ys H1 → Inv i ys H2) (hv : vs = [k]) (hn : ∀ n, Pn n → n ≤ 1000000) (d0 : Dr st M H)
    (ht : ∀ R : List V → Hp → Prop, (∀ (n : Nat) H1, Pn n → StR H1 st → Rw st H H1 → R [.int (n : Int)] H1) → ta σ H R) (i0 : Inv 0 [] (hid M H))
    (he : ∀ (n j : Nat) (D : Addr) (ys : List V) (H' : Hp) (R : VK), Pn n → j < n → ys.length = j → H D = none → Dr st (D :: M) H' → Rw st H H' → Same (hid M H) (hid (D :: M) H') → Inv j ys (hid (D :: M) H') →
      (∀ y H'', StR H'' st → Rw st H' H'' → Inv (j + 1) (ys ++ [y]) (hid (D :: M) H'') → R y H'') → te ((wipe σ [k]).set k (some (.int (j : Int)))) H' R)
    (q : ∀ n D H' ys, Pn n → H D = none → Dr st M H' → Rw st H H' → ys.length = n → Inv n ys (hid M H') → H' D = some (.lst ys) → Q (.ref D) H') : tLc (iRng1 ta) (gName k) tYes te vs σ H Q := by
  subst hv
  refine ht (fun vs H1 => ∃ j : Int, vs = [.int j] ∧ -(2 ^ 62) ≤ j ∧ j < 2 ^ 62 ∧ _) fun n H1 hP s1 r1 => ⟨(n : Int), rfl, by omega, by have := hn n hP; omega, ?_⟩
  rw [Int.toNat_natCast]
  have d1 := d0.step s1 r1
  refine g_gen (st := st) (M := M) Inv mono (hn n hP) d1 (mono _ _ _ _ (r1.hid d0.mem) i0) ?_ ?_
  · intro j D ys H' R hj hl hD d2 r2 s2 iv r
    exact he n j D ys H' R hP hj hl (r1.free s1 hD) d2 (r1.trans r2) (fun a u e => s2 _ _ (r1.hid d0.mem _ _ e)) iv r
  · intro D H' ys hD d2 r2 hl iv e
    exact q n D H' ys hP (r1.free s1 hD) d2 (r1.trans r2) hl iv e
/-- over a range; the elements are numbers -/
theorem c_nums {st : Addr} {M : List Addr} {k : Nat} (Pn : Nat → Prop) (P : Int → Prop) (hv : vs = [k]) (hn : ∀ n, Pn n → n ≤ 1000000) (d0 : Dr st M H)
    (ht : ∀ R : List V → Hp → Prop, (∀ (n : Nat) H1, Pn n → StR H1 st → Rw st H H1 → R [.int (n : Int)] H1) → ta σ H R)
    (he : ∀ (n j : Nat) (H' : Hp) (R : VK), Pn n → j < n → Dr st M H' → Rw st H H' → (∀ y H'', StR H'' st → Rw st H' H'' → P y → R (.int y) H'') → te ((wipe σ [k]).set k (some (.int (j : Int)))) H' R)
    (q : ∀ n D H' (l : List Int), Pn n → H D = none → Dr st M H' → Rw st H H' → l.length = n → (∀ x ∈ l, P x) → H' D = some (.lst (l.map V.int)) → Q (.ref D) H') : tLc (iRng1 ta) (gName k) tYes te vs σ H Q := by
  refine c_gen (st := st) (M := M) Pn (fun i ys _ => ∃ l : List Int, ys = l.map V.int ∧ ∀ x ∈ l, P x) (fun _ _ _ _ _ h => h) hv hn d0 ht ⟨[], rfl, fun x hx => by simp at hx⟩ ?_ ?_
  · rintro n j D ys H' R hP hj hl hD d1 r1 _ ⟨l, rfl, hl2⟩ r
    refine he n j H' R hP hj (d1.tail d0.mem) r1 fun y H'' s2 r2 py => r _ _ s2 r2 ⟨l ++ [y], by rw [List.map_append]; rfl, fun x hx => ?_⟩
    rcases List.mem_append.mp hx with h | h
    · exact hl2 x h
    · rw [List.mem_singleton.mp h]; exact py
  · rintro n D H' ys hP hD d1 r1 hl ⟨l, rfl, hl2⟩ e
    exact q n D H' l hP hD d1 r1 (by rw [List.length_map] at hl; exact hl) hl2 e
end
/-- a comprehension over a list of ints, with a test -/
theorem c_lstM {K : PySem.W.Frag} {σ : L2.St} {H : Hp} {Q : VK} {te tl : TE} {tt : TT} {vs : List Nat} {a : Addr} {k : Nat} {xs : List Int} (f : Int → Bool) (hv : vs = [k]) (ht : ∀ R : VK, R (.ref a) H → tl σ H R) (hx : SqL K H a (xs.map V.int)) (hz : xs.length ≤ 1000000)
    (hc : ∀ x : Int, x ∈ xs → ∀ H' (R : Bool → Hp → Prop), Same H H' → R (f x) H' → tt ((wipe σ [k]).set k (some (.int x))) H' R)
    (he : ∀ x : Int, x ∈ xs → f x = true → ∀ H' (R : VK), Same H H' → R (.int x) H' → te ((wipe σ [k]).set k (some (.int x))) H' R)
    (q : ∀ D H', H D = none → Same H H' → H' D = some (.lst ((xs.filter f).map V.int)) → Q (.ref D) H') : tLc (iList K tl) (gName k) tt te vs σ H Q := by
  subst hv
  refine ht (fun x H1 => ∃ a, x = .ref a ∧ (∃ xs, SqL K H1 a xs) ∧ _) ⟨a, rfl, ⟨_, hx⟩, ?_⟩
  intro D hD
  refine lc_list (K := K) (a := a) (xs := xs.map V.int) (Qd := Q (.ref D)) (fun i H' => Same H H' ∧ H' D = some (.lst (((xs.take i).filter f).map V.int))) ⟨same_upd hD, upd_same⟩ (fun i H' _ h => h.1.seq hx) ?_ ?_
  · rintro i x H' hi ⟨s, e⟩
    obtain ⟨n, hn, rfl⟩ := getV hi
    have hlen := (List.getElem?_eq_some_iff.mp hn).1
    refine a_gname ⟨wipe1, ?_⟩
    refine hc n (List.mem_of_getElem? hn) H' _ s ?_
    have ht : xs.take (i + 1) = xs.take i ++ [n] := (take_app hn).symm
    cases hf : f n with
    | true =>
      refine ift (he n (List.mem_of_getElem? hn) hf H' _ s ?_)
      refine ⟨_, e, ?_, smut s hD, ?_⟩
      · refine szl ?_
        rw [List.length_map]
        refine Nat.le_trans (List.length_filter_le _ _) ?_
        rw [List.length_take]
        omega
      · rw [upd_same, ht, List.filter_append, List.map_append]
        simp [List.filter, hf]
    | false =>
      refine iff' ⟨s, ?_⟩
      rw [e, ht, List.filter_append]
      simp [List.filter, hf]
  · rintro H' ⟨s, e⟩
    refine q D H' hD s ?_
    rw [e, List.length_map, List.take_length]
end Lk

namespace Lk
open PySem PySem.Spec PyProof.Rows L2 GxR
/-! ### a generator expression: its own frame -/
/-- the context of a generator expression's frame: made at s, its iterator's objects at fp -/
abbrev gxCx (X : Cx) (s : Shared) (H : Hp) (cenv : Env) (fp : List Addr) (A : Around) : Cx := { X with A := A, s_0 := s, H_0 := H, env := cenv, outer := X.stack, stack := cenv :: X.stack, ex := fp, fn := fun _ => false, calm := true, pn := [], xe := fun _ _ => False }
theorem over_gx {A : Around} {elt tg iter : Expr} {scope : Scope} {pos : Pos} {it : Value} {env : Env} :
    A.over (.compLoop (.GeneratorExp elt [⟨tg, iter, [], 0⟩] scope pos) 0 it .none env) [] = A.deeper env := by
  first
    | rfl
    | (obtain ⟨hd, d, fr, gs, u⟩ := A; simp [Around.over, Around.deeper, marksOver, frameCount, unitsOf, envsOf, guardsOf, pushEnvs, pushGuards, Code.envs, Code.env?, Code.isFrame, Code.guards, Code.isGuard, Code.weight, Code.frames, Code.isCreation, Code.isCaller, Code.cUnits])
theorem over_gx0 {A : Around} {elt tg iter : Expr} {scope : Scope} {pos : Pos} {it : Value} {env : Env} :
    A.over (.compStart (.GeneratorExp elt [⟨tg, iter, [], 0⟩] scope pos) 0 it .none env) [] = A.deeper env := by
  first
    | rfl
    | (obtain ⟨hd, d, fr, gs, u⟩ := A; simp [Around.over, Around.deeper, marksOver, frameCount, unitsOf, envsOf, guardsOf, pushEnvs, pushGuards, Code.envs, Code.env?, Code.isFrame, Code.guards, Code.isGuard, Code.weight, Code.frames, Code.isCreation, Code.isCaller, Code.cUnits])
section
variable {X : Cx} {pins : List (Addr × Obj)} {σ : L2.St} {H : Hp} {s : Shared}
theorem gx_start {scope : Scope} {own : List (Str × Nat)} {fp : List Addr} {A : Around} {code : Value} {h' : Heap} {g' : Array GenState} {d' : Drawn} {t' : Nat} {m : Str → Option Value} (I : Inv X pins σ H s) (ok : BlkOk X.N X.env.scope scope own) (hN : X.N.Nodup) (hcell : ∀ y ∈ scope.names, y.2 ≠ .cell)
    (hfp : ∀ b ∈ fp, FpOk X pins H b ∧ b < s.heap.objs.size) (hA : A.frames = some (genEnv scope (cloFrom X.env.cells scope.names []) s.heap.objs.size code builtinsNs X.env :: X.stack)) (hh : A.handled = none)
    (kp : ∀ b o, s.heap.get? b = some o → h'.get? b = some o) (hns : h'.Ns s.heap.objs.size m) (hb : AllBare g') :
    Inv (gxCx X s H (genEnv scope (cloFrom X.env.cells scope.names []) s.heap.objs.size code builtinsNs X.env) fp A) [] (wipe σ (own.map (·.2))) H { s with heap := h', gens := g', drawn := d', toks := t' } := by
  have hfree : ∀ y ∈ scope.names, y.2 = .free → ∃ c, X.env.cells.lookup y.1 = some c := fun y hy e => by
    rcases ok.free y hy e with k | k
    · exact I.ok.has _ (.inl k)
    · exact I.ok.has _ (.inr k)
  have cm : ∀ {y c}, (cloFrom X.env.cells scope.names []).lookup y = some c → X.env.cells.lookup y = some c ∧ c < s.heap.objs.size ∧ (y, NameKind.free) ∈ scope.names := fun {y c} e => by
    rcases cloFrom_mem (PySem.mem_of_lookup e) with hm | ⟨h1, rfl⟩
    · cases hm
    · obtain ⟨c, hc⟩ := hfree _ h1 rfl
      rw [hc]
      obtain ⟨w, z⟩ := I.cell _ _ hc
      exact ⟨rfl, z.lt, h1⟩
  have look : ∀ {y}, scope.names.lookup y = some .free → ∃ c, (cloFrom X.env.cells scope.names []).lookup y = some c ∧ X.env.cells.lookup y = some c := fun {y} hl => by
    have hy : (y, NameKind.free) ∈ scope.names := PySem.mem_of_lookup hl
    obtain ⟨c', e'⟩ := mem_lookup (cloFrom_has (cells := X.env.cells) (acc := []) hy)
    exact ⟨c', e', (cm e').1⟩
  have okB : (gxCx X s H (genEnv scope (cloFrom X.env.cells scope.names []) s.heap.objs.size code builtinsNs X.env) fp A).Ok := by
    refine ⟨I.ok.mod, ok.kind, I.ok.glob, rfl, Nat.le_refl _, fun y z c e1 e2 => I.ok.inj y z c (cm e1).1 (cm e2).1, fun y hy => ?_, fun y c z e => absurd z (by simp), fun _ => hh, hA, .inr ⟨rfl, rfl⟩, fun b hb => ⟨Nat.ne_of_lt (hfp b hb).2, fun y c e z => (hfp b hb).1.2.2.2.2.1 y c (cm e).1 z⟩,
      I.bs, Nat.le_trans I.ok.bsz I.sz, fun b o e hb => ?_, fun b hb z => ?_, I.stack, I.stkFree⟩
    · rcases hy with hy | hy
      · exact absurd rfl (hcell _ (PySem.mem_of_lookup hy))
      · obtain ⟨c, h1, _⟩ := look hy
        exact ⟨c, h1⟩
    · rcases (hfp b hb).1.2.2.2.1 with z | z
      · exact I.ok.noex b o e z
      · exact absurd (Nat.lt_of_lt_of_le (Heap.lt_size e) (Nat.le_trans I.ok.bsz z)) (Nat.lt_irrefl _)
    · rcases List.mem_cons.mp (I.stkSub b z) with z | z
      · exact (hfp b hb).1.2.1 z
      · exact (hfp b hb).1.2.2.1 z
  refine ⟨okB, rfl, hb, Un.kept kp, ⟨m, hns, fun i y av e1 e2 e3 => ?_⟩, fun y c e => ?_, I.hok.fresh (Nat.le_refl _), fun y c e => I.freeC y c (cm e).1, fun p hp => absurd (show p ∈ ([] : List (Addr × Obj)) ++ [] from hp) (by simp), I.hok.kept kp, by rw [wipe_length]; exact I.len⟩
  · obtain ⟨e2, hne⟩ := wipe_some e2
    have e3 : Vis scope y := e3
    have no : ¬ (scope.names.lookup y = some .local ∨ scope.names.lookup y = some .cell) := fun hh => by
      have hy : ∃ k, (k = NameKind.local ∨ k = .cell) ∧ scope.names.lookup y = some k := by
        rcases hh with h | h
        · exact ⟨_, .inl rfl, h⟩
        · exact ⟨_, .inr rfl, h⟩
      obtain ⟨k, hk, hl⟩ := hy
      rcases ok.own _ (PySem.mem_of_lookup hl) hk with e' | e'
      · obtain ⟨p, hp, hpy⟩ := List.mem_map.mp e'
        have e3 := ok.ix p hp
        have : p.1 = y := hpy
        rw [this] at e3
        exact hne (List.mem_map.mpr ⟨p, hp, nodup_ix hN e3 e1⟩)
      · exact e' (List.mem_of_getElem? e1)
    have hfr : scope.names.lookup y = some .free := by
      rcases e3 with h | h | h
      · exact absurd (.inl h) no
      · exact absurd (.inr h) no
      · exact h
    obtain ⟨m0, hn, hl⟩ := I.loc
    have hvis : Vis X.env.scope y := (ok.free _ (PySem.mem_of_lookup hfr) rfl).elim (fun k => .inr (.inl k)) (fun k => .inr (.inr k))
    obtain ⟨w, r, q⟩ := hl i y av e1 e2 hvis
    refine ⟨w, r, .inr ⟨.inr hfr, ?_⟩⟩
    obtain ⟨c, h1, h2⟩ := look hfr
    rcases q with ⟨k, _⟩ | ⟨_, c', e', z⟩
    · have k : X.env.scope.names.lookup y = some .local := k
      rcases ok.free _ (PySem.mem_of_lookup hfr) rfl with k' | k' <;> rw [show X.env.scope.names.lookup y = _ from k'] at k <;> cases k
    · rw [h2] at e'; cases e'
      exact ⟨c, h1, z.keeps kp⟩
  · obtain ⟨w, z⟩ := I.cell y c (cm e).1
    exact ⟨w, z.keeps kp⟩
/-- other generators' states, other marks -/
theorem inv_gens {g' : Array GenState} (I : Inv X pins σ H s) (hg : AllBare g') : Inv X pins σ H { s with gens := g' } :=
  ⟨I.ok, I.os, hg, I.base, I.loc, I.cell, I.free, I.freeC, I.pin, I.hok, I.len⟩
end
/-! ### its run -/
section
variable {X : Cx} {A : Around} {tg elt iter : Expr} {scope : Scope} {pos : Pos} {it : Addr} {fp : List Addr} {tn : Nat → Heap → Prop} {J : It} {g : TG} {te : TE} {γ : Type} {pg : List (Addr × Obj)} {sp : γ → List (Addr × Obj) → Prop} {vs : List Nat} {σ0 : L2.St}
  {W : Nat → Nat → γ → Hp → Prop} {Out : Nat → Nat → γ → V → Hp → Prop} {Fin : γ → Hp → Prop}
def gxR (X : Cx) (pg : List (Addr × Obj)) (sp : γ → List (Addr × Obj) → Prop) (σ0 : L2.St) (Fin : γ → Hp → Prop) : Nat → Shared → Shared → Prop := fun n s₀ s1 => ∃ (c : γ) (H : Hp) (pins' : List (Addr × Obj)), sp c pins' ∧ (∀ p ∈ pins', s₀.heap.get? p.1 = some p.2) ∧ Inv X (pg ++ pins') σ0 H s1 ∧ Fin c H
def gxY (X : Cx) (pg : List (Addr × Obj)) (sp : γ → List (Addr × Obj) → Prop) (fp : List Addr) (W : Nat → Nat → γ → Hp → Prop) (Out : Nat → Nat → γ → V → Hp → Prop) : Protocol := fun n s₀ v s1 kap =>
  ∃ (i m : Nat) (c : γ) (H : Hp) (pins' : List (Addr × Obj)) (y : V) (σ2 : L2.St), m ≤ n ∧ sp c pins' ∧ (∀ p ∈ pins', s₀.heap.get? p.1 = some p.2) ∧ RelV y v ∧ Inv X (pg ++ pins') σ2 H s1 ∧ Out i m c y H ∧
    ∀ s' c' m' pins'', m' < m → W (i + 1) m' c' H → sp c' pins'' → Inv X (pg ++ pins'') σ2 H s' → (∀ b ∈ fp, ∀ o, s1.heap.get? b = some o → s'.heap.get? b = some o) → kap (.send .none) s'
theorem gx_loop (hov : A.over (.compLoop (.GeneratorExp elt [⟨tg, iter, [], 0⟩] scope pos) 0 (.ref it) .none X.env) [] = X.A) (hc : X.calm = true) (hxe : ∀ e s, ¬ X.xe e s) (hco : X.env.scope.isCoroutine = false)
    (T : Turn X.prog X.w X.K tg J fp it tn) (hg : PG X tg g) (he : PE X elt te)
    (hfp : ∀ b ∈ fp, b ≠ X.env.locals ∧ b ∉ X.fs ∧ (b ∈ X.ex ∨ X.s_0.heap.objs.size ≤ b) ∧ (∀ x c, X.env.cells.lookup x = some c → c ≠ b) ∧ ∀ p ∈ X.pn ++ pg, p.1 ≠ b) (hsp : ∀ c pins', sp c pins' → ∀ p ∈ pins', p.1 ∉ fp)
    (turn : ∀ i m c H, W i m c H → (J.stop i H ∧ Fin c H) ∨ (J.go i H ∧ ∀ x H', J.yld i H x H' → g x σ0 H' fun σ2 H2 => wipe σ2 vs = σ0 ∧ te σ2 H2 fun y H3 => Out i m c y H3)) :
    ∀ (n m i : Nat) (c : γ) (s₀ s : Shared) (H : Hp) (pins' : List (Addr × Obj)), m ≤ n → W i m c H → sp c pins' → (∀ p ∈ pins', s₀.heap.get? p.1 = some p.2) → Inv X (pg ++ pins') σ0 H s → tn i s.heap → (∀ b ∈ fp, H b = none) →
      Seg (model X.prog X.w) A (fun n s₀ r s₁ => r = .ok .next ∧ gxR X pg sp σ0 Fin n s₀ s₁) (gxY X pg sp fp W Out) (n + 1) s₀ (.compLoop (.GeneratorExp elt [⟨tg, iter, [], 0⟩] scope pos) 0 (.ref it) .none X.env)
        ((model X.prog X.w).den (.compLoop (.GeneratorExp elt [⟨tg, iter, [], 0⟩] scope pos) 0 (.ref it) .none X.env)) [] s := by
  have stat : ∀ {H' : Hp} {c : γ} {pins' : List (Addr × Obj)}, sp c pins' → (∀ b ∈ fp, H' b = none) → ∀ b ∈ fp, FpOk X (pg ++ pins') H' b := fun {H' c pins'} hs hn b hb => by
    obtain ⟨f1, f2, f3, f4, f5⟩ := hfp b hb
    refine ⟨hn b hb, f1, f2, f3, f4, fun p hp => ?_⟩
    rcases List.mem_append.mp hp with z | z
    · exact f5 p (List.mem_append_left _ z)
    · rcases List.mem_append.mp z with z | z
      · exact f5 p (List.mem_append_right _ z)
      · exact fun e => hsp c pins' hs p z (by rw [e]; exact hb)
  have hy : ∀ v, yieldOut X.env v = yieldValue v := fun v => by simp only [yieldOut, hco, Bool.false_eq_true, if_false]
  have key : ∀ (n : Nat), (∀ (m i : Nat) (c : γ) (s₀ s : Shared) (H : Hp) (pins' : List (Addr × Obj)), m < n → W i m c H → sp c pins' → (∀ p ∈ pins', s₀.heap.get? p.1 = some p.2) → Inv X (pg ++ pins') σ0 H s → tn i s.heap → (∀ b ∈ fp, H b = none) →
        Seg (model X.prog X.w) A (fun n s₀ r s₁ => r = .ok .next ∧ gxR X pg sp σ0 Fin n s₀ s₁) (gxY X pg sp fp W Out) n s₀ (.compLoop (.GeneratorExp elt [⟨tg, iter, [], 0⟩] scope pos) 0 (.ref it) .none X.env)
          ((model X.prog X.w).den (.compLoop (.GeneratorExp elt [⟨tg, iter, [], 0⟩] scope pos) 0 (.ref it) .none X.env)) [] s) →
      ∀ (m i : Nat) (c : γ) (s₀ s : Shared) (H : Hp) (pins' : List (Addr × Obj)), m ≤ n → W i m c H → sp c pins' → (∀ p ∈ pins', s₀.heap.get? p.1 = some p.2) → Inv X (pg ++ pins') σ0 H s → tn i s.heap → (∀ b ∈ fp, H b = none) →
        Seg (model X.prog X.w) A (fun n s₀ r s₁ => r = .ok .next ∧ gxR X pg sp σ0 Fin n s₀ s₁) (gxY X pg sp fp W Out) (n + 1) s₀ (.compLoop (.GeneratorExp elt [⟨tg, iter, [], 0⟩] scope pos) 0 (.ref it) .none X.env)
          ((model X.prog X.w).den (.compLoop (.GeneratorExp elt [⟨tg, iter, [], 0⟩] scope pos) 0 (.ref it) .none X.env)) [] s := by
    intro n next m i c s₀ s H pins' hm hW hs hs0 I st hn
    show Seg _ A _ _ _ s₀ _ ((compTurn (.GeneratorExp elt [⟨tg, iter, [], 0⟩] scope pos) 0 (.ref it) .none X.env).onRaise (leaving X.env)) [] s
    rw [compTurn_gen, Sem.onRaise_eq_wrap]
    refine seg_bind_wrap (wpAny_standAt ?_)
    rcases turn i m c H hW with ⟨stop, fin⟩ | ⟨go, step⟩
    · have td := T.done X rfl rfl rfl hc i (pg ++ pins') s σ0 H X.xe I (stat hs hn) st stop
      refine seg_bind_wrap ?_
      rw [hov]
      refine wpAny_mono td (fun r s1 ⟨hr, I1⟩ => ?_) fun e s' hx => absurd hx (hxe e s')
      subst hr
      exact seg_end (.ok .next) ⟨rfl, c, H, pins', hs, hs0, I1, fin⟩
    · have ti := T.item X rfl rfl rfl hc i (pg ++ pins') s σ0 H X.xe I (stat hs hn) st go
      refine seg_bind_wrap ?_
      rw [hov]
      refine wpAny_mono ti (fun r s6 ⟨u, hr, h6⟩ => ?_) fun e s' hx => absurd hx (hxe e s')
      subst hr
      refine seg_bind_wrap ?_
      rw [hov]
      refine wpAny_mono h6 (fun _ s7 ⟨x, H7, I7, r7, y7, st7, n7⟩ => ?_) fun e s' hx => absurd hx (hxe e s')
      have I7' := I7.pinned (stat hs n7) (T.obj _ _ st7)
      refine seg_bind_wrap ?_
      rw [hov]
      refine wpAny_mono (hg.run _ s7 σ0 H7 x u _ I7' r7 (step x H7 y7)) (fun _ s8 ⟨σ8, H8, I8, hw8, q8⟩ => ?_) fun e s' hx => absurd hx (hxe e s')
      simp only [List.forIn_nil]
      refine seg_bind_wrap (wpAny_pure ?_)
      simp only [if_true, hy]
      rw [Sem.bind_eq_wrap', Sem.bind_eq_wrap', Sem.wrap_wrap, Sem.wrap_wrap]
      refine seg_wrap ?_
      rw [hov]
      refine wpAny_mono (he.run _ s8 σ8 H8 _ I8 q8) (fun v s9 ⟨y, H9, I9, r9, q9⟩ => ?_) fun e s' hx => absurd hx (hxe e s')
      refine seg_at (seg_yield rfl rfl rfl ⟨i, m, c, H9, pins', y, σ8, hm, hs, hs0, r9, I9.unpinned, q9, fun s'' c' m' pins'' hm' hW' hs' I'' hk => ?_⟩)
      have fk : ∀ b ∈ fp, ∀ o, s7.heap.get? b = some o → s9.heap.get? b = some o ∧ H9 b = none := fun b hb o e =>
        let z := I9.pin (b, o) (List.mem_append_right _ (List.mem_append_right _ (mem_pinsAt hb e)))
        ⟨z.1, z.2.1⟩
      have hl : σ0.length = σ8.length := by rw [← hw8, wipe_length]
      refine seg_again rfl (next m' (i + 1) c' s'' s'' H9 pins'' (by omega) hW' hs' (fun p hp => (I''.pin p (List.mem_append_right _ (List.mem_append_right _ hp))).1) (I''.weak hl fun j v e => ?_) (T.keep _ _ _ st7 fun b hb o e => hk b hb o (fk b hb o e).1) fun b hb => ?_)
      · rw [← hw8] at e
        exact (wipe_some e).1
      · obtain ⟨o, e, _⟩ := T.obj _ _ st7 b hb
        exact (fk b hb o e).2
  intro n
  induction n with
  | zero => exact key 0 fun m i c s₀ s H pins' h => absurd h (Nat.not_lt_zero _)
  | succ n ih => exact key (n + 1) fun m i c s₀ s H pins' h => ih m i c s₀ s H pins' (Nat.le_of_lt_succ h)
/-- from its start -/
theorem gx_fresh {n m : Nat} {c : γ} {s₀ s : Shared} {H : Hp} {pins' : List (Addr × Obj)} (hov : A.over (.compLoop (.GeneratorExp elt [⟨tg, iter, [], 0⟩] scope pos) 0 (.ref it) .none X.env) [] = X.A) (hov' : A.over (.compStart (.GeneratorExp elt [⟨tg, iter, [], 0⟩] scope pos) 0 (.ref it) .none X.env) [] = X.A)
    (T : Turn X.prog X.w X.K tg J fp it tn) (st : tn 0 s.heap)
    (loop : Seg (model X.prog X.w) A (fun n s₀ r s₁ => r = .ok .next ∧ gxR X pg sp σ0 Fin n s₀ s₁) (gxY X pg sp fp W Out) n s₀ (.compLoop (.GeneratorExp elt [⟨tg, iter, [], 0⟩] scope pos) 0 (.ref it) .none X.env)
        ((model X.prog X.w).den (.compLoop (.GeneratorExp elt [⟨tg, iter, [], 0⟩] scope pos) 0 (.ref it) .none X.env)) [] s) :
    Seg (model X.prog X.w) A (fun n s₀ r s₁ => r = .ok .next ∧ gxR X pg sp σ0 Fin n s₀ s₁) (gxY X pg sp fp W Out) n s₀ (.compStart (.GeneratorExp elt [⟨tg, iter, [], 0⟩] scope pos) 0 (.ref it) .none X.env)
        ((model X.prog X.w).den (.compStart (.GeneratorExp elt [⟨tg, iter, [], 0⟩] scope pos) 0 (.ref it) .none X.env)) [] s := by
  show Seg _ A _ _ _ s₀ _ ((compStart (.GeneratorExp elt [⟨tg, iter, [], 0⟩] scope pos) 0 (.ref it) .none X.env).onRaise (leaving X.env)) [] s
  unfold compStart
  rw [Sem.onRaise_eq_wrap]
  show Seg _ A _ _ _ s₀ _ ((ask >>= _).wrap _ _ _ _) [] s
  refine seg_bind_wrap (wpAny_askSetting ?_)
  split
  · exact seg_again rfl loop
  · first
      | exact seg_bind_wrap (wpAny_rule (seg_bind_wrap (wpAny_standAt (seg_bind_wrap (T.self _ 0 s _ _ st (seg_again rfl loop))))))
      | (refine seg_bind_wrap (wpAny_rule ?_); show Seg _ A _ _ _ s₀ _ ((standAt iter.pos >>= _).wrap _ _ _ _) [] s; exact seg_bind_wrap (wpAny_standAt (seg_bind_wrap (T.self _ 0 s _ _ st (seg_again rfl loop)))))
end
/-! ### all(..), sum(..) over it -/
section
variable {X : Cx} {A0 : Around} {fp : List Addr} {σ0 : L2.St} {a : Addr} {g : Nat} {go : Obj} {R : Result → Shared → Prop}
theorem inv_set {pins : List (Addr × Obj)} {σ : L2.St} {H : Hp} {s : Shared} {x : GenState} (I : Inv X pins σ H s) (hx : x.bare = true) : Inv X pins σ H (s.setGen g x) :=
  inv_gens I (allBare_setGen I.bare hx)
theorem inv_ext {pins : List (Addr × Obj)} {σ : L2.St} {H : Hp} {s : Shared} {h' : Heap} (I : Inv X pins σ H s) (k : ∀ b u, s.heap.get? b = some u → h'.get? b = some u) : Inv X pins σ H { s with heap := h' } := I.kept (t' := s.toks) k
def outAll (W : Nat → Nat → Unit → Hp → Prop) (QF : Hp → Prop) : Nat → Nat → Unit → V → Hp → Prop := fun i m c y H => ∃ b, y = .bl b ∧ if b = true then ∃ m', m' < m ∧ W (i + 1) m' c H else QF H
theorem all_gx {W : Nat → Nat → Unit → Hp → Prop} {QF : Hp → Prop} {Fin : Unit → Hp → Prop} (hh : A0.handled = none) (hroom : A0.in1.depth < recursionLimit) (hgo : ∀ h : Heap, h.get? a = some go → h.IsGen a g)
    (hT : ∀ H s1, Inv X [(a, go)] σ0 H s1 → Fin () H → R (.ok (.ret (.bool true))) s1) (hF : ∀ σ H s1, Inv X [(a, go)] σ H s1 → QF H → R (.ok (.ret (.bool false))) s1) :
    ∀ (n : Nat) (gs : GenState) (s : Shared), s.gens[g]? = some gs → s.heap.IsGen a g → s.heap.NoLimit →
      gs.Goes (model X.prog X.w) A0.in1.in1 (fun n s₀ r s₁ => r = .ok .next ∧ gxR X [(a, go)] (fun (_ : Unit) pins' => pins' = []) σ0 Fin n s₀ s₁) (gxY X [(a, go)] (fun (_ : Unit) pins' => pins' = []) fp W (outAll W QF)) (n + 1) (.send .none) (s.setGen g .running) →
      codeAny (model X.prog X.w) A0 (.builtin "all.loop" ⟨[.ref a], []⟩) R s := by
  have key : ∀ (n : Nat), (∀ (gs : GenState) (s : Shared), s.gens[g]? = some gs → s.heap.IsGen a g → s.heap.NoLimit → 0 < n →
      gs.Goes (model X.prog X.w) A0.in1.in1 (fun n s₀ r s₁ => r = .ok .next ∧ gxR X [(a, go)] (fun (_ : Unit) pins' => pins' = []) σ0 Fin n s₀ s₁) (gxY X [(a, go)] (fun (_ : Unit) pins' => pins' = []) fp W (outAll W QF)) n (.send .none) (s.setGen g .running) →
      codeAny (model X.prog X.w) A0 (.builtin "all.loop" ⟨[.ref a], []⟩) R s) → ∀ (gs : GenState) (s : Shared), s.gens[g]? = some gs → s.heap.IsGen a g → s.heap.NoLimit →
      gs.Goes (model X.prog X.w) A0.in1.in1 (fun n s₀ r s₁ => r = .ok .next ∧ gxR X [(a, go)] (fun (_ : Unit) pins' => pins' = []) σ0 Fin n s₀ s₁) (gxY X [(a, go)] (fun (_ : Unit) pins' => pins' = []) fp W (outAll W QF)) (n + 1) (.send .none) (s.setGen g .running) →
      codeAny (model X.prog X.w) A0 (.builtin "all.loop" ⟨[.ref a], []⟩) R s := by
    intro n next gs s hgs hg hl hgoes
    have hlt : g + 1 ≤ s.gens.size := by
      rcases Nat.lt_or_ge g s.gens.size with h | h
      · exact h
      · rw [Array.getElem?_eq_none h] at hgs; cases hgs
    refine codeAny_builtin F.entry_all_loop ?_
    rw [Around.under_plainId F.plain_all_loop _]
    show wpAny _ A0.in1 (pyNext (.ref a) >>= _) _ _ s
    refine wpAny_bind (GenW.wpAny_gsz (n := g + 1) hlt (wpAny_pyNext_genexpQ hh hl hroom hg hgs hgoes (fun v s₁ gs' hb hv hsz => ?_) (fun s₁ hp h' hk _ => ?_)))
    · obtain ⟨i, m, c, H, pins', y, σ2, hm, hs, _, rv, I, ⟨b, rfl, q⟩, hkap⟩ := hv
      subst hs
      have I' : Inv X [(a, go)] σ2 H s₁ := I
      obtain rfl : v = Value.bool b := rv
      refine wpAny_bind (wpAny_holding (wpAny_truthy_bool ?_))
      refine wpAny_bind (wpAny_letGo ?_)
      cases b with
      | true =>
        obtain ⟨m', hm', hW⟩ := q
        simp only [if_true]
        have J := inv_set (g := g) I' hb
        have hs1 : g < s₁.gens.size := by
          have q : (s₁.setGen g gs').gens.size = s₁.gens.size := GenW.setGen_size s₁ g gs'
          rw [q] at hsz
          exact hsz
        have goes := hkap ((s₁.setGen g gs').setGen g .running) c m' [] hm' hW rfl (inv_set J rfl) fun b _ o e => e
        cases n with
        | zero => omega
        | succ n => exact wpAny_pure ⟨plainId_quiet F.plain_all_loop _, next gs' _ (setGen_at hs1) (hgo _ (J.pin (a, go) (List.mem_append_right _ List.mem_cons_self)).1) J.nolimit (Nat.succ_pos _) goes⟩
      | false =>
        simp only [Bool.false_eq_true, if_false]
        exact wpAny_bind (wpAny_rule (wpAny_pure (hF _ _ _ (inv_set I' hb) q)))
    · obtain ⟨c, H, pins', hs, _, I, fin⟩ := hp
      subst hs
      have I' : Inv X [(a, go)] σ0 H s₁ := I
      exact wpAny_bind (wpAny_rule (wpAny_pure (hT _ _ (inv_ext (inv_set I' rfl) hk) fin)))
  intro n
  induction n with
  | zero => exact key 0 fun gs s _ _ _ h => absurd h (Nat.lt_irrefl _)
  | succ n ih => exact key (n + 1) fun gs s h1 h2 h3 _ h4 => ih gs s h1 h2 h3 h4
/-- the list that sum fills -/
abbrev sumO (acc : Int) (tA : Tok) (c : Nat) : Obj := { cls := .type "list", dict := none, data := .seq #[.int acc tA] c, slots := #[] }
def spSum (S : Addr) : Int → List (Addr × Obj) → Prop := fun acc pins' => ∃ tA c, pins' = [(S, sumO acc tA c)]
def outSum (W : Nat → Nat → Int → Hp → Prop) : Nat → Nat → Int → V → Hp → Prop := fun i m c y H => ∃ v, y = .int v ∧ ∃ m', m' < m ∧ W (i + 1) m' (c + v) H
/-- sum writes its list -/
theorem inv_sum {pins : List (Addr × Obj)} {σ : L2.St} {H : Hp} {s : Shared} {S : Addr} {o o' : Obj} {h' : Heap} {t' : Nat} (I : Inv X (pins ++ [(S, o)]) σ H s) (hpn : X.pn = []) (hS : X.s_0.heap.objs.size ≤ S) (hL : S ≠ X.env.locals) (hC : ∀ x c, X.env.cells.lookup x = some c → c ≠ S) (hp : ∀ p ∈ pins, p.1 ≠ S)
    (hd : ∀ v, o'.data ≠ .cell v) (kp : ∀ b u, b ≠ S → s.heap.get? b = some u → h'.get? b = some u) (e' : h'.get? S = some o') : Inv X (pins ++ [(S, o')]) σ H { s with heap := h', toks := t' } := by
  have eS := I.pin (S, o) (List.mem_append_right _ (List.mem_append_right _ List.mem_cons_self))
  have I0 : Inv X pins σ H s := I.pins_of fun p hp => I.pin p (List.mem_append_right _ (List.mem_append_left _ hp))
  have nc : ∀ b, b ∉ [S] → b ≠ S := fun b hb e => hb (by rw [e]; exact List.mem_singleton.mpr rfl)
  have nt : ∀ b u, H b = some u → b ≠ S := fun b u q hb => by rw [hb, eS.2.1] at q; cases q
  have J : Inv X pins σ H { s with heap := h', gens := s.gens, drawn := s.drawn, toks := t' } := by
    refine I0.step (g' := s.gens) (t' := t') (d' := s.drawn) (ch := [S]) (fun b hb => ?_)
      (fun b ob _ _ hc q _ => kp b ob (nc b hc) q) (fun b ob _ _ hc q _ => ⟨ob.slots, kp b ob (nc b hc) q⟩) (fun _ _ _ _ n => n) (fun b ob hc q => ⟨ob, kp b ob (nc b hc) q⟩)
      (fun _ _ q => q) (fun _ _ _ q => q) (fun b ps q => ⟨#[], by rw [q]; simp⟩) (fun m hm => ?_) (fun b u q => ?_) I.bare
    · rw [List.mem_singleton.mp hb]
      refine ⟨.inr hS, hL, hC, fun p hp' => ?_⟩
      rcases List.mem_append.mp hp' with z | z
      · rw [hpn] at z; cases z
      · exact hp p z
    · obtain ⟨ob, es, ep, ho, r⟩ := hm
      exact ⟨ob, es, ep, kp _ ob (Ne.symm hL) ho, r⟩
    · refine (I0.hok b u q).stay (fun c v hc y => kp c v ?_ y) (fun _ y => y) fun _ _ y => y
      rcases hc with y | y
      · rw [y]; exact nt b u q
      · exact nt c _ y
  refine J.pins_of fun p hp' => ?_
  rcases List.mem_append.mp hp' with z | z
  · exact J.pin p (List.mem_append_right _ z)
  · rw [List.mem_singleton.mp z]
    exact ⟨e', eS.2.1, hL, eS.2.2.2.1, hd⟩
theorem sum_gx {W : Nat → Nat → Int → Hp → Prop} {Fin : Int → Hp → Prop} {S : Addr} (hh : A0.handled = none) (hroom : A0.in1.depth < recursionLimit) (hgo : ∀ h : Heap, h.get? a = some go → h.IsGen a g)
    (hpn : X.pn = []) (hS : X.s_0.heap.objs.size ≤ S) (hL : S ≠ X.env.locals) (hC : ∀ x c, X.env.cells.lookup x = some c → c ≠ S) (haS : a ≠ S) (hSf : S ∉ fp)
    (hT : ∀ c t H s1 pins', Inv X ([(a, go)] ++ pins') σ0 H s1 → Fin c H → R (.ok (.ret (.int c t))) s1) :
    ∀ (n : Nat) (gs : GenState) (s : Shared) (acc : Int) (tA : Tok) (cc : Nat) (st : Int), (st = 0 ∨ st = 2) → s.heap.get? S = some (sumO acc tA cc) → s.gens[g]? = some gs → s.heap.IsGen a g → s.heap.NoLimit →
      gs.Goes (model X.prog X.w) A0.in1.in1 (fun n s₀ r s₁ => r = .ok .next ∧ gxR X [(a, go)] (spSum S) σ0 Fin n s₀ s₁) (gxY X [(a, go)] (spSum S) fp W (outSum W)) (n + 1) (.send .none) (s.setGen g .running) →
      codeAny (model X.prog X.w) A0 (.builtin "sum.loop" ⟨[.ref a, .ref S, rawInt st, rawInt 0], []⟩) R s := by
  have key : ∀ (n : Nat), (∀ (gs : GenState) (s : Shared) (acc : Int) (tA : Tok) (cc : Nat) (st : Int), (st = 0 ∨ st = 2) → s.heap.get? S = some (sumO acc tA cc) → s.gens[g]? = some gs → s.heap.IsGen a g → s.heap.NoLimit → 0 < n →
      gs.Goes (model X.prog X.w) A0.in1.in1 (fun n s₀ r s₁ => r = .ok .next ∧ gxR X [(a, go)] (spSum S) σ0 Fin n s₀ s₁) (gxY X [(a, go)] (spSum S) fp W (outSum W)) n (.send .none) (s.setGen g .running) →
      codeAny (model X.prog X.w) A0 (.builtin "sum.loop" ⟨[.ref a, .ref S, rawInt st, rawInt 0], []⟩) R s) → ∀ (gs : GenState) (s : Shared) (acc : Int) (tA : Tok) (cc : Nat) (st : Int), (st = 0 ∨ st = 2) → s.heap.get? S = some (sumO acc tA cc) → s.gens[g]? = some gs → s.heap.IsGen a g → s.heap.NoLimit →
      gs.Goes (model X.prog X.w) A0.in1.in1 (fun n s₀ r s₁ => r = .ok .next ∧ gxR X [(a, go)] (spSum S) σ0 Fin n s₀ s₁) (gxY X [(a, go)] (spSum S) fp W (outSum W)) (n + 1) (.send .none) (s.setGen g .running) →
      codeAny (model X.prog X.w) A0 (.builtin "sum.loop" ⟨[.ref a, .ref S, rawInt st, rawInt 0], []⟩) R s := by
    intro n next gs s acc tA cc st hst hSo hgs hg hl hgoes
    have hlt : g + 1 ≤ s.gens.size := by
      rcases Nat.lt_or_ge g s.gens.size with h | h
      · exact h
      · rw [Array.getElem?_eq_none h] at hgs; cases hgs
    refine codeAny_builtin F.entry_sum_loop ?_
    rw [Around.under_plainId F.plain_sum_loop _]
    show wpAny _ A0.in1 (seqItems? (.ref S) >>= _) _ _ s
    refine wpAny_bind (wpAny_seqItems hSo rfl ?_)
    show wpAny _ A0.in1 (tryCatch (pyNext (.ref a)) _ >>= _) _ _ s
    refine wpAny_bind (wpAny_tryCatch (GenW.wpAny_gsz (n := g + 1) hlt (wpAny_pyNext_genexpQ hh hl hroom hg hgs hgoes (fun v s₁ gs' hb hv hsz => ?_) (fun s₁ hp h' hk _ => ?_))))
    · obtain ⟨i, m, c, H, pins', y, σ2, hm, ⟨tA1, c1, rfl⟩, hs0, rv, I, ⟨v, rfl, m', hm', hW⟩, hkap⟩ := hv
      have eq0 := hs0 (S, sumO c tA1 c1) List.mem_cons_self
      have eq1 : (s.setGen g .running).heap.get? S = some (sumO acc tA cc) := hSo
      rw [eq1] at eq0
      obtain ⟨rfl, rfl, rfl⟩ : acc = c ∧ tA = tA1 ∧ cc = c1 := by
        have := Option.some.inj eq0
        simp only [sumO, Obj.mk.injEq, Data.seq.injEq] at this
        simp at this
        exact ⟨this.1.1, this.1.2, this.2⟩
      obtain ⟨t, rfl⟩ := rv
      have J := inv_set (g := g) I hb
      have eS := (J.pin (S, sumO acc tA cc) (List.mem_append_right _ (List.mem_append_right _ List.mem_cons_self))).1
      have hs1 : g < s₁.gens.size := by
        have q : (s₁.setGen g gs').gens.size = s₁.gens.size := GenW.setGen_size s₁ g gs'
        rw [q] at hsz
        exact hsz
      have hfa : ∀ {h' : Heap}, (∀ b u, b ≠ S → s₁.heap.get? b = some u → h'.get? b = some u) → h'.get? a = some go := fun k => k a go haS (J.pin (a, go) (List.mem_append_right _ (List.mem_append_left _ List.mem_cons_self))).1
      have fin : ∀ (h' : Heap) (t' tA' : Nat) (c' : Nat) (st' : Int), (st' = 0 ∨ st' = 2) → (∀ b u, b ≠ S → s₁.heap.get? b = some u → h'.get? b = some u) → h'.get? S = some (sumO (acc + v) tA' c') →
          codeAny (model X.prog X.w) A0 (.builtin "sum.loop" ⟨[.ref a, .ref S, rawInt st', rawInt 0], []⟩) R { s₁.setGen g gs' with heap := h', toks := t' } := by
        intro h' t' tA' c' st' hst' kp eS'
        have I2 := inv_sum (o' := sumO (acc + v) tA' c') (t' := t') J hpn hS hL hC (fun p hp => by rw [List.mem_singleton.mp hp]; exact haS) (fun _ z => by cases z) kp eS'
        have goes := hkap ({ s₁.setGen g gs' with heap := h', toks := t' }.setGen g .running) (acc + v) m' [(S, sumO (acc + v) tA' c')] hm' hW ⟨tA', c', rfl⟩ (inv_set I2 rfl) fun b hb' o e => kp b o (fun z => hSf (z ▸ hb')) e
        cases n with
        | zero => omega
        | succ n => exact next gs' _ _ _ _ _ hst' eS' (setGen_at (s := s₁) hs1) (hgo _ (hfa kp)) I2.nolimit (Nat.succ_pos _) goes
      have up : ∀ {b : Addr} {u : Obj} {f : Obj → Obj}, b ≠ S → s₁.heap.get? b = some u → ((s₁.setGen g gs').heap.update S f).get? b = some u := fun {b u f} hb e => (Heap.get?_update_other _ _ (Ne.symm hb)).trans e
      rcases hst with rfl | rfl
      · show wpAny _ A0.in1 (if (_ : Bool) = true then (mkInt (acc + v) >>= _) else _) _ _ _
        split
        · refine wpAny_bind (wpAny_mkInt ?_)
          show wpAny _ A0.in1 (updateSeq S (fun _ => #[.int (acc + v) (s₁.setGen g gs').toks]) >>= _) _ _ _
          refine wpAny_bind ?_
          refine wpAny_updateSeq eS rfl (wpAny_pure ⟨plainId_quiet F.plain_sum_loop _, ?_⟩)
          exact fin _ _ _ _ 0 (.inl rfl) (fun b u hb e => up hb e) (Heap.get?_update_self _ eS rfl)
        · refine wpAny_bind (wpAny_rule ?_)
          refine wpAny_bind (wpAny_attempt (wpAny_holding (wpAny_add_int ?_)))
          show wpAny _ A0.in1 (updateSeq S (fun _ => #[.int (acc + v) (s₁.setGen g gs').toks]) >>= _) _ _ _
          refine wpAny_bind (wpAny_updateSeq eS rfl ?_)
          have hS₂ := Heap.get?_update_self (Obj.mapSeq fun _ => #[Value.int (acc + v) (s₁.setGen g gs').toks]) eS rfl
          refine wpAny_bind (wpAny_letGo ?_)
          refine wpAny_bind (wpAny_updateSeq hS₂ rfl (wpAny_pure ⟨plainId_quiet F.plain_sum_loop _, ?_⟩))
          exact fin _ _ _ _ 2 (.inr rfl) (fun b u hb e => (Heap.get?_update_other _ _ (Ne.symm hb)).trans (up hb e)) (Heap.get?_update_self _ hS₂ rfl)
      · show wpAny _ A0.in1 ((holding [Value.int v t] (binaryOp .Add (.int acc tA) (.int v t))).attempt >>= _) _ _ _
        refine wpAny_bind (wpAny_attempt (wpAny_holding (wpAny_add_int ?_)))
        show wpAny _ A0.in1 (updateSeq S (fun _ => #[.int (acc + v) (s₁.setGen g gs').toks]) >>= _) _ _ _
        refine wpAny_bind (wpAny_updateSeq eS rfl ?_)
        have hS₂ := Heap.get?_update_self (Obj.mapSeq fun _ => #[Value.int (acc + v) (s₁.setGen g gs').toks]) eS rfl
        refine wpAny_bind (wpAny_letGo ?_)
        refine wpAny_bind (wpAny_updateSeq hS₂ rfl (wpAny_pure ⟨plainId_quiet F.plain_sum_loop _, ?_⟩))
        exact fin _ _ _ _ 2 (.inr rfl) (fun b u hb e => (Heap.get?_update_other _ _ (Ne.symm hb)).trans (up hb e)) (Heap.get?_update_self _ hS₂ rfl)
    · obtain ⟨c, H, pins', ⟨tA1, c1, rfl⟩, hs0, I, fn⟩ := hp
      have eq0 := hs0 (S, sumO c tA1 c1) List.mem_cons_self
      have eq1 : (s.setGen g .running).heap.get? S = some (sumO acc tA cc) := hSo
      rw [eq1] at eq0
      obtain ⟨rfl, rfl, rfl⟩ : acc = c ∧ tA = tA1 ∧ cc = c1 := by
        have := Option.some.inj eq0
        simp only [sumO, Obj.mk.injEq, Data.seq.injEq] at this
        simp at this
        exact ⟨this.1.1, this.1.2, this.2⟩
      exact wpAny_pure (hT acc tA H _ _ (inv_ext (inv_set I rfl) hk) fn)
  intro n
  induction n with
  | zero => exact key 0 fun gs s acc tA cc st _ _ _ _ _ h => absurd h (Nat.lt_irrefl _)
  | succ n ih => exact key (n + 1) fun gs s acc tA cc st h0 h1 h2 h3 h4 _ h5 => ih gs s acc tA cc st h0 h1 h2 h3 h4 h5
end
/-! ### it is made -/
section
variable {X : Cx}
/-- all that is known of it -/
structure GxMade (X : Cx) (pins : List (Addr × Obj)) (σ : L2.St) (scope : Scope) (vs : List Nat) (elt tg iter : Expr) (gpos : Pos) (J : It) (H2 : Hp) (it : Addr) (fp : List Addr) (tn : Nat → Heap → Prop) (code : Value) (s4 s5 : Shared) (a : Addr) (g : Nat) (go : Obj) : Prop where
  turn : Turn X.prog X.w X.K tg J fp it tn
  i4 : Inv X pins σ H2 s4
  fpk : ∀ b ∈ fp, FpOk X pins H2 b ∧ b < s4.heap.objs.size
  i5 : Inv (gxCx X s4 H2 (genEnv scope (cloFrom X.env.cells scope.names []) s4.heap.objs.size code builtinsNs X.env) fp (X.A.in1.in1.deeper (genEnv scope (cloFrom X.env.cells scope.names []) s4.heap.objs.size code builtinsNs X.env))) [(a, go)] (wipe σ vs) H2 s5
  st5 : tn 0 s5.heap
  gen : s5.gens[g]? = some (.fresh (.compStart (.GeneratorExp elt [⟨tg, iter, [], 0⟩] scope gpos) 0 (.ref it) .none (genEnv scope (cloFrom X.env.cells scope.names []) s4.heap.objs.size code builtinsNs X.env)))
  isg : ∀ h : Heap, h.get? a = some go → h.IsGen a g
  big : s4.heap.objs.size < a
  low : a < s5.heap.objs.size
  keep : ∀ b o, s4.heap.get? b = some o → s5.heap.get? b = some o
  cel : ∀ x c, (cloFrom X.env.cells scope.names []).lookup x = some c → c < s4.heap.objs.size
theorem gx_make {k : Nat} {c P : Addr} {elt tg iter : Expr} {gpos : Pos} {scope : Scope} {own : List (Str × Nat)} {wi : TI} {Q' : Value → Shared → Prop} {R : It → Hp → Prop} {pins : List (Addr × Obj)} {σ : L2.St} {H : Hp} {s : Shared}
    (hr : Room (k + 3) X.A) (TB : TabB X.base X.mg c P) (hcode : X.env.code = .ref c) (hN : X.N.Nodup) (ok : BlkOk X.N X.env.scope scope own) (hcell : ∀ y ∈ scope.names, y.2 ≠ .cell) (hdot : scope.names.lookup (".0" : Str) = some NameKind.local) (hco : scope.isCoroutine = false)
    (hi : PI X tg iter wi) (hs : ∀ v, genFold iter X.env v = pure v) (I : Inv X pins σ H s) (h : wi σ H fun J H1 => TabG H1 P ∧ ∀ H2, Tabbed P H1 H2 → R J H2)
    (hQ : ∀ J H2 it fp tn code s4 s5 a g go, R J H2 → GxMade X pins σ scope (own.map (·.2)) elt tg iter gpos J H2 it fp tn code s4 s5 a g go → Q' (.ref a) s5) :
    wpAny (model X.prog X.w) X.A (eval (.GeneratorExp elt [⟨tg, iter, [], 0⟩] scope gpos) X.env) Q' X.xe s := by
  have hfree : ∀ y ∈ scope.names, y.2 = .free → ∃ c, X.env.cells.lookup y.1 = some c := fun y hy e => by
    rcases ok.free y hy e with k | k
    · exact I.ok.has _ (.inl k)
    · exact I.ok.has _ (.inr k)
  refine wpAny_GeneratorExp_make hco (closure_ok hfree) hcell hdot ok.kind hr.depth ?_ hs
  refine thn (hi.run pins s σ H _ I h) fun xv s1 hx => thn hx fun itv s2 h2 => ?_
  obtain ⟨it, fp, tn, J, H1, rfl, I2, T, st2, f2, ⟨ps, hP, ht⟩, q⟩ := h2
  have hPs : s2.heap.get? P = some { cls := .none, data := .fields ps } := I2.hok P _ hP
  have cd : PySem.W.CodeHd s2.heap c P := TB.code.keeps fun b u e => I2.bk b u e
  refine ⟨I2.nolimit, ?_⟩
  have cont : ∀ (code : Value) (h3 : Heap) (tk : Nat) (ps' : Array Value), Heap.ExtBut P s2.heap h3 → s2.heap.objs.size ≤ h3.objs.size → h3.get? P = some { cls := .none, data := .fields ps' } → (∃ more, ps' = ps ++ more) → TriplesOk ps'.toList →
      wpAny (model X.prog X.w) X.A (builtinsFor X.env.globals X.env.builtins) (fun bi s₄ =>
        ∀ h', h'.Ns s₄.heap.objs.size (fun y => if y = ".0" then some (Value.ref it) else none) → Heap.SameBut s₄.heap.objs.size (s₄.heap.push { cls := .type "frame", data := .dict #[] }) h' →
          Q' (.ref h'.objs.size) { s₄ with
            gens := s₄.gens.push (.fresh (.compStart (.GeneratorExp elt [⟨tg, iter, [], 0⟩] scope gpos) 0 (.ref it) .none (genEnv scope (cloFrom X.env.cells scope.names []) s₄.heap.objs.size code bi X.env))),
            toks := s₄.toks + 1 + 1 + 1,
            heap := h'.push { cls := .type "generator", data := .fields #[.int s₄.gens.size 0, .str "<genexpr>" (s₄.toks + 1), .str (X.env.qual ++ "<genexpr>") (s₄.toks + 1 + 1)] } }) X.xe { s2 with heap := h3, toks := tk } := by
    intro code h3 tk ps' hx hsz hP3 hmore ht3
    obtain ⟨bm, ob, e1, e2, e3, e4, e5, e6, e7, e8⟩ := TB.bm
    have keep3 : ∀ b u, b ≠ P → s2.heap.get? b = some u → h3.get? b = some u := fun b u hb e => hx b u hb e
    refine wpAny_builtinsFor (m := X.mg) (by rw [I2.ok.glob]; exact (I2.mod.glob.keeps I2.bk).extBut hx TB.gP) e1 e2 (keep3 _ _ e4 (I2.bk _ _ e5)) e6 e7 e8 ?_
    intro h' hns' hsb
    obtain ⟨more, rfl⟩ := hmore
    have J4 := inv_tab (more := more) (h' := h3) (g' := s2.gens) (d' := s2.drawn) (t' := tk) I2 hP keep3 hP3 I2.bare
    generalize hs4 : ({ s2 with heap := h3, gens := s2.gens, drawn := s2.drawn, toks := tk } : Shared) = s4 at J4
    have es4 : ({ s2 with heap := h3, toks := tk } : Shared) = s4 := hs4
    have eh4 : s4.heap = h3 := by rw [← es4]
    have eg4 : s4.gens = s2.gens := by rw [← es4]
    replace hns' : h'.Ns s4.heap.objs.size (fun y => if y = ".0" then some (Value.ref it) else none) := by rw [eh4]; exact hns'
    replace hsb : Heap.SameBut s4.heap.objs.size (s4.heap.push { cls := .type "frame", data := .dict #[] }) h' := by rw [eh4]; exact hsb
    have hH2 : Tabbed P H1 (upd H1 P (.tbl (ps ++ more))) := ⟨⟨ps ++ more, upd_same, ht3⟩, fun b hb => upd_ne hb⟩
    have hrk := q _ hH2
    have nP : ∀ b ∈ fp, b ≠ P := fun b hb z => by
      have := (f2 b hb).1
      rw [z, hP] at this; cases this
    have fpk : ∀ b ∈ fp, FpOk X pins (upd H1 P (.tbl (ps ++ more))) b ∧ b < s4.heap.objs.size := fun b hb => by
      obtain ⟨o, e, _⟩ := T.obj _ _ st2 b hb
      refine ⟨⟨by rw [upd_ne (nP b hb)]; exact (f2 b hb).1, (f2 b hb).2⟩, ?_⟩
      rw [eh4]
      exact Heap.lt_size (keep3 b o (nP b hb) e)
    have kp1 : ∀ b o, s4.heap.get? b = some o → h'.get? b = some o := fun b o e => hsb.extBut b o (Nat.ne_of_lt (Heap.lt_size e)) (Heap.get?_push_of_some _ e)
    have hsz' : h'.objs.size = s4.heap.objs.size + 1 := by rw [hsb.1, Heap.size_push]
    have hA : (X.A.in1.in1.deeper (genEnv scope (cloFrom X.env.cells scope.names []) s4.heap.objs.size code builtinsNs X.env)).frames = some (genEnv scope (cloFrom X.env.cells scope.names []) s4.heap.objs.size code builtinsNs X.env :: X.stack) :=
      Around.frames_deeper (show X.A.in1.in1.frames = some X.stack from I2.ok.frames)
    generalize hgo : ({ cls := .type "generator", data := .fields #[.int s4.gens.size 0, .str "<genexpr>" (s4.toks + 1), .str (X.env.qual ++ "<genexpr>") (s4.toks + 1 + 1)] } : Obj) = go
    have kp2 : ∀ b o, s4.heap.get? b = some o → (h'.push go).get? b = some o := fun b o e => Heap.get?_push_of_some _ (kp1 b o e)
    have J5 := gx_start (A := X.A.in1.in1.deeper (genEnv scope (cloFrom X.env.cells scope.names []) s4.heap.objs.size code builtinsNs X.env)) (code := code) (h' := h'.push go)
      (g' := s4.gens.push (.fresh (.compStart (.GeneratorExp elt [⟨tg, iter, [], 0⟩] scope gpos) 0 (.ref it) .none (genEnv scope (cloFrom X.env.cells scope.names []) s4.heap.objs.size code builtinsNs X.env)))) (d' := s4.drawn) (t' := s4.toks + 1 + 1 + 1)
      J4 ok hN hcell fpk hA hr.hd kp2 (hns'.push _) (AllBare.push J4.bare rfl)
    have hga : (h'.push go).get? h'.objs.size = some go := by
      rw [← hgo]
      exact Heap.get?_push_size _ rfl
    have hlow : h'.objs.size < (h'.push go).objs.size := by rw [Heap.size_push]; exact Nat.lt_succ_self _
    have hcel : ∀ x c, (cloFrom X.env.cells scope.names []).lookup x = some c → c < s4.heap.objs.size := fun x c e => by
      rcases cloFrom_mem (PySem.mem_of_lookup e) with hm | ⟨h1, rfl⟩
      · cases hm
      · obtain ⟨c, hc⟩ := hfree _ h1 rfl
        rw [hc]
        obtain ⟨w, z⟩ := J4.cell _ _ hc
        exact z.lt
    refine hQ J _ it fp tn code s4 _ h'.objs.size s4.gens.size go hrk ⟨T, J4, fpk, J5.pins_of fun p hp => ?_, ?_, Array.getElem?_push_size .., fun h e => ?_, by omega, hlow, kp2, hcel⟩
    · rw [List.mem_singleton.mp hp]
      refine ⟨hga, J4.hok.fresh (by omega), ?_, fun hb => ?_, fun v z => by rw [← hgo] at z; cases z⟩
      · show h'.objs.size ≠ s4.heap.objs.size
        omega
      · rcases List.mem_cons.mp (J4.stkSub _ hb) with z | z
        · have h9 : h'.objs.size < s4.heap.objs.size := Nat.lt_of_le_of_lt (Nat.le_of_eq z) J4.lt
          omega
        · exact J4.nofs (show s4.heap.objs.size ≤ h'.objs.size by omega) z
    · refine T.keep _ _ _ st2 fun b hb o e => ?_
      refine kp2 b o ?_
      rw [eh4]
      exact keep3 b o (nP b hb) e
    · rw [← hgo] at e
      exact ⟨_, _, _, e, rfl, rfl, rfl⟩
  cases hf : codeAmong gpos ps.toList with
  | none =>
    refine wpAny_genexprCodeX hcode (cd.code hPs ht) (cd.tab hPs) hf fun c' h' tk hx hge hlt hco' _ htab' _ => ?_
    obtain ⟨o1, vs, f1, tf, fl, tg', inF, tx, tt, op, _, _, _, _, _, _, _, _, _, htr, _⟩ := hco'
    exact cont _ h' tk _ hx (Nat.le_trans hge (Nat.le_of_lt hlt)) htab'.2 ⟨_, rfl⟩ htr
  | some cv =>
    refine wpAny_genexprCode_hit hcode (cd.code hPs ht) hf ?_
    exact cont cv s2.heap s2.toks ps (Heap.ExtBut.refl _ _) (Nat.le_refl _) hPs ⟨#[], by simp⟩ ht
theorem gx_none (X : Cx) (s : Shared) (H : Hp) (cenv : Env) (fp : List Addr) (A : Around) : ∀ e s', ¬ (gxCx X s H cenv fp A).xe e s' := fun _ _ h => h
/-- back in the def's own frame -/
theorem gx_back {pins : List (Addr × Obj)} {σ : L2.St} {scope : Scope} {vs : List Nat} {elt tg iter : Expr} {gpos : Pos} {J : It} {H2 H' : Hp} {it : Addr} {fp : List Addr} {tn : Nat → Heap → Prop} {code : Value} {s4 s5 s' : Shared} {a : Addr} {g : Nat} {go : Obj} {σ' : L2.St} {pins' : List (Addr × Obj)} {cenv : Env} {A' : Around}
    (M : GxMade X pins σ scope vs elt tg iter gpos J H2 it fp tn code s4 s5 a g go) (I : Inv (gxCx X s4 H2 cenv fp A') pins' σ' H' s') : Inv X pins σ H' s' :=
  M.i4.call' (ch := fp) I.os I.base I.hok I.bare fun b hb => ⟨(M.fpk b hb).1.2.2.2.1, (M.fpk b hb).1.2.1, (M.fpk b hb).1.2.2.2.2.1, (M.fpk b hb).1.2.2.2.2.2⟩
theorem gx_fp {pins : List (Addr × Obj)} {σ : L2.St} {scope : Scope} {vs : List Nat} {elt tg iter : Expr} {gpos : Pos} {J : It} {H2 : Hp} {it : Addr} {fp : List Addr} {tn : Nat → Heap → Prop} {code : Value} {s4 s5 : Shared} {a : Addr} {g : Nat} {go : Obj}
    (M : GxMade X pins σ scope vs elt tg iter gpos J H2 it fp tn code s4 s5 a g go) : ∀ b ∈ fp, b ≠ (gxCx X s4 H2 (genEnv scope (cloFrom X.env.cells scope.names []) s4.heap.objs.size code builtinsNs X.env) fp (X.A.in1.in1.deeper (genEnv scope (cloFrom X.env.cells scope.names []) s4.heap.objs.size code builtinsNs X.env))).env.locals ∧ b ∉ frs X.stack ∧ (b ∈ fp ∨ s4.heap.objs.size ≤ b) ∧ (∀ x c, (cloFrom X.env.cells scope.names []).lookup x = some c → c ≠ b) ∧ ∀ p ∈ [] ++ [(a, go)], p.1 ≠ b := fun b hb => by
  have ok := M.i5.ok
  refine ⟨(ok.exf b hb).1, ok.exfs b hb, .inl hb, (ok.exf b hb).2, fun p hp e => ?_⟩
  have := (M.fpk b hb).2
  have h2 := M.big
  rw [List.mem_singleton.mp (show p ∈ [(a, go)] from hp)] at e
  have e : a = b := e
  exact absurd (Nat.lt_trans h2 (by rw [e]; exact this)) (Nat.lt_irrefl _)
/-- all(elt for tg in iter) -/
def tAllG (P : Addr) (wi : TI) (g : TG) (te : TE) (vs : List Nat) : TE := fun σ H Q => wi σ H fun J H1 => TabG H1 P ∧ ∀ H2, Tabbed P H1 H2 → ∃ W : Nat → Nat → Hp → Prop, (∃ m, W 0 m H2) ∧ ∀ i m H, W i m H →
  (J.stop i H ∧ Q (.bl true) H) ∨ (J.go i H ∧ ∀ x H', J.yld i H x H' → g x (wipe σ vs) H' fun σ2 H3 => wipe σ2 vs = wipe σ vs ∧ te σ2 H3 fun y H4 => ∃ b, y = .bl b ∧ if b = true then ∃ m', m' < m ∧ W (i + 1) m' H4 else Q (.bl false) H4)
/-- sum(elt for tg in iter) -/
def tSumG (P : Addr) (wi : TI) (g : TG) (te : TE) (vs : List Nat) : TE := fun σ H Q => wi σ H fun J H1 => TabG H1 P ∧ ∀ H2, Tabbed P H1 H2 → ∃ W : Nat → Nat → Int → Hp → Prop, (∃ m, W 0 m 0 H2) ∧ ∀ i m c H, W i m c H →
  (J.stop i H ∧ Q (.int c) H) ∨ (J.go i H ∧ ∀ x H', J.yld i H x H' → g x (wipe σ vs) H' fun σ2 H3 => wipe σ2 vs = wipe σ vs ∧ te σ2 H3 fun y H4 => ∃ v, y = .int v ∧ ∃ m', m' < m ∧ W (i + 1) m' (c + v) H4)
theorem pe_allG {k : Nat} {c P : Addr} {elt tg iter : Expr} {p pos gpos : Pos} {scope : Scope} {own : List (Str × Nat)} {wi : TI} {g : TG} {te : TE}
    (hr : Room (k + 3) X.A) (hg : Gl X "all") (hm : X.mg "all" = none) (TB : TabB X.base X.mg c P) (hcode : X.env.code = .ref c) (hN : X.N.Nodup) (ok : BlkOk X.N X.env.scope scope own) (hcell : ∀ y ∈ scope.names, y.2 ≠ .cell) (hdot : scope.names.lookup (".0" : Str) = some NameKind.local) (hco : scope.isCoroutine = false)
    (hi : PI X tg iter wi)
    (hgt : ∀ (s : Shared) (H : Hp) (C : Addr) (cl : List (Str × Addr)) (fp : List Addr) (code : Value), PG (gxCx X s H (genEnv scope cl C code builtinsNs X.env) fp (X.A.in1.in1.deeper (genEnv scope cl C code builtinsNs X.env))) tg g)
    (he : ∀ (s : Shared) (H : Hp) (C : Addr) (cl : List (Str × Addr)) (fp : List Addr) (code : Value), PE (gxCx X s H (genEnv scope cl C code builtinsNs X.env) fp (X.A.in1.in1.deeper (genEnv scope cl C code builtinsNs X.env))) elt te)
    (hs : ∀ v, genFold iter X.env v = pure v := by intro _; rfl)
    (hst : starEach [.GeneratorExp elt [⟨tg, iter, [], 0⟩] scope gpos] X.env = (false, eval (.GeneratorExp elt [⟨tg, iter, [], 0⟩] scope gpos) X.env) :: starEach [] X.env := by rfl) :
    PE X (.Call (.Name "all" p) [.GeneratorExp elt [⟨tg, iter, [], 0⟩] scope gpos] [] pos) (tAllG P wi g te (own.map (·.2))) := by
  refine ⟨fun pins s σ H Q I h => ?_⟩
  refine wpAny_Call_Name_kw (ld_blt I hg hm boot_all ?_)
  refine PyProof.Rows.callWith_builtin1 ?_ hst (by rfl)
  rw [hst]
  show wpAny _ _ (spliced ((false, eval (.GeneratorExp elt [⟨tg, iter, [], 0⟩] scope gpos) X.env) :: backTo pos (starEach [] X.env))) _ _ s
  refine Calls.spliced_cons (gx_make hr TB hcode hN ok hcell hdot hco hi hs I h fun J H2 it fp tn code s4 s5 a gn go hq M => ?_)
  refine Calls.spliced_nil ?_
  obtain ⟨W, ⟨m0, w0⟩, turn⟩ := hq
  have ga : s5.heap.get? a = some go := (M.i5.pin (a, go) (List.mem_append_right _ List.mem_cons_self)).1
  refine call_function_tree F.kind_all F.plain_all F.entry_all (F.args_all1 _) ?_
  unfold Builtin.«all»
  refine wpAny_bind (m := oneArg "all" _) (wpAny_pure ?_)
  refine wpAny_bind (wpAny_pyIter_gen (M.isg _ ga) ?_)
  refine wpAny_pure ⟨plainId_quiet F.plain_all_loop _, ?_⟩
  have hrn : (X.A.in1).depth < recursionLimit := (hr.in1).depth
  have loop := gx_loop (X := gxCx X s4 H2 (genEnv scope (cloFrom X.env.cells scope.names []) s4.heap.objs.size code builtinsNs X.env) fp (X.A.in1.in1.deeper (genEnv scope (cloFrom X.env.cells scope.names []) s4.heap.objs.size code builtinsNs X.env)))
    (A := X.A.in1.in1) (iter := iter) (scope := scope) (pos := gpos) (pg := [(a, go)]) (sp := fun (_ : Unit) pins' => pins' = []) (vs := own.map (·.2)) (σ0 := wipe σ (own.map (·.2))) (W := fun i m _ H => W i m H) (Out := outAll (fun i m _ H => W i m H) (fun H => Q (.bl false) H)) (Fin := fun _ H => Q (.bl true) H)
    over_gx rfl (gx_none _ _ _ _ _ _) hco M.turn (hgt _ _ _ _ _ _) (he _ _ _ _ _ _) (gx_fp M) (fun _ pins' hp p hp' => by rw [hp] at hp'; cases hp') (fun i m c H hw => turn i m H hw)
  refine all_gx (X := gxCx X s4 H2 (genEnv scope (cloFrom X.env.cells scope.names []) s4.heap.objs.size code builtinsNs X.env) fp (X.A.in1.in1.deeper (genEnv scope (cloFrom X.env.cells scope.names []) s4.heap.objs.size code builtinsNs X.env))) (fp := fp) (go := go) (g := gn) (σ0 := wipe σ (own.map (·.2)))
    (W := fun i m _ H => W i m H) (QF := fun H => Q (.bl false) H) (Fin := fun _ H => Q (.bl true) H) hr.hd hrn M.isg (fun H' s' I' q => ⟨.bl true, H', gx_back M I', rfl, q⟩) (fun σ' H' s' I' q => ⟨.bl false, H', gx_back M I', rfl, q⟩) m0 _ s5 M.gen (M.isg _ ga) M.i5.nolimit ⟨rfl, ?_⟩
  have I6 := inv_set (g := gn) (x := .running) M.i5 rfl
  refine gx_fresh (m := m0) (c := ()) (H := H2) (pins' := []) over_gx over_gx0 M.turn (show tn 0 (s5.setGen gn .running).heap from M.st5) (loop m0 m0 0 () _ _ H2 [] (Nat.le_refl _) w0 rfl (fun p hp => by cases hp) I6 M.st5 fun b hb => (M.fpk b hb).1.1)
theorem pe_sumG {k : Nat} {c P : Addr} {elt tg iter : Expr} {p pos gpos : Pos} {scope : Scope} {own : List (Str × Nat)} {wi : TI} {g : TG} {te : TE}
    (hr : Room (k + 3) X.A) (hg : Gl X "sum") (hm : X.mg "sum" = none) (TB : TabB X.base X.mg c P) (hcode : X.env.code = .ref c) (hN : X.N.Nodup) (ok : BlkOk X.N X.env.scope scope own) (hcell : ∀ y ∈ scope.names, y.2 ≠ .cell) (hdot : scope.names.lookup (".0" : Str) = some NameKind.local) (hco : scope.isCoroutine = false)
    (hi : PI X tg iter wi)
    (hgt : ∀ (s : Shared) (H : Hp) (C : Addr) (cl : List (Str × Addr)) (fp : List Addr) (code : Value), PG (gxCx X s H (genEnv scope cl C code builtinsNs X.env) fp (X.A.in1.in1.deeper (genEnv scope cl C code builtinsNs X.env))) tg g)
    (he : ∀ (s : Shared) (H : Hp) (C : Addr) (cl : List (Str × Addr)) (fp : List Addr) (code : Value), PE (gxCx X s H (genEnv scope cl C code builtinsNs X.env) fp (X.A.in1.in1.deeper (genEnv scope cl C code builtinsNs X.env))) elt te)
    (hs : ∀ v, genFold iter X.env v = pure v := by intro _; rfl)
    (hst : starEach [.GeneratorExp elt [⟨tg, iter, [], 0⟩] scope gpos] X.env = (false, eval (.GeneratorExp elt [⟨tg, iter, [], 0⟩] scope gpos) X.env) :: starEach [] X.env := by rfl) :
    PE X (.Call (.Name "sum" p) [.GeneratorExp elt [⟨tg, iter, [], 0⟩] scope gpos] [] pos) (tSumG P wi g te (own.map (·.2))) := by
  refine ⟨fun pins s σ H Q I h => ?_⟩
  refine wpAny_Call_Name_kw (ld_blt I hg hm boot_sum ?_)
  refine PyProof.Rows.callWith_builtin1 ?_ hst (by rfl)
  rw [hst]
  show wpAny _ _ (spliced ((false, eval (.GeneratorExp elt [⟨tg, iter, [], 0⟩] scope gpos) X.env) :: backTo pos (starEach [] X.env))) _ _ s
  refine Calls.spliced_cons (gx_make hr TB hcode hN ok hcell hdot hco hi hs I h fun J H2 it fp tn code s4 s5 a gn go hq M => ?_)
  refine Calls.spliced_nil ?_
  obtain ⟨W, ⟨m0, w0⟩, turn⟩ := hq
  have ga : s5.heap.get? a = some go := (M.i5.pin (a, go) (List.mem_append_right _ List.mem_cons_self)).1
  refine call_function_tree F.kind_sum F.plain_sum F.entry_sum (F.args_sum1 _) ?_
  unfold Builtin.«sum»
  simp only [List.length_cons, List.length_nil]
  rw [if_neg (by decide)]
  refine wpAny_bind (wpAny_of_eq (show Builtin.Builtins.bindParams "sum" ["start"] 0 { } = pure [none] from rfl) ?_)
  refine wpAny_bind (wpAny_pyIter_gen (M.isg _ ga) ?_)
  refine wpAny_bind (wpAny_mkInt ?_)
  refine wpAny_bind (wpAny_pure ?_)
  simp only [List.forIn_cons, List.forIn_nil]
  refine wpAny_bind (wpAny_bind (wpAny_bind (wpAny_isInstance (T := "int") (b := false) (typeIs_int _ _ _) PySem.sub_int_str ?_)))
  simp only [Bool.false_eq_true, if_false]
  refine wpAny_pure (wpAny_bind (wpAny_bind (wpAny_isInstance (T := "int") (b := false) (typeIs_int _ _ _) PySem.sub_int_bytes ?_)))
  simp only [Bool.false_eq_true, if_false]
  refine wpAny_pure (wpAny_bind (wpAny_bind (wpAny_isInstance (T := "int") (b := false) (typeIs_int _ _ _) PySem.sub_int_bytearray ?_)))
  simp only [Bool.false_eq_true, if_false]
  refine wpAny_pure (wpAny_pure ?_)
  refine wpAny_bind (wpAny_newObj_type ?_)
  have hrn : (X.A.in1).depth < recursionLimit := (hr.in1).depth
  have big := M.big
  have low := M.low
  have kp : ∀ b u, s5.heap.get? b = some u → (s5.heap.push (sumO 0 s5.toks 0)).get? b = some u := fun b u e => Heap.get?_push_of_some _ e
  have eS : (s5.heap.push (sumO 0 s5.toks 0)).get? s5.heap.objs.size = some (sumO 0 s5.toks 0) := Heap.get?_push_size _ rfl
  have I6 := M.i5.kept (t' := s5.toks + 1) kp
  have hlt := M.i5.lt
  have I7 := I6.pins_of (pins' := [(a, go)] ++ [(s5.heap.objs.size, sumO 0 s5.toks 0)]) fun p hp => by
    rcases List.mem_append.mp hp with z | z
    · exact I6.pin p (List.mem_append_right _ z)
    · rw [List.mem_singleton.mp z]
      exact ⟨eS, M.i5.hok.fresh (Nat.le_refl _), Nat.ne_of_gt hlt, M.i5.nofs (Nat.le_refl _), fun v z => by cases z⟩
  have loop := gx_loop (X := gxCx X s4 H2 (genEnv scope (cloFrom X.env.cells scope.names []) s4.heap.objs.size code builtinsNs X.env) fp (X.A.in1.in1.deeper (genEnv scope (cloFrom X.env.cells scope.names []) s4.heap.objs.size code builtinsNs X.env)))
    (A := X.A.in1.in1) (iter := iter) (scope := scope) (pos := gpos) (pg := [(a, go)]) (sp := spSum s5.heap.objs.size) (vs := own.map (·.2)) (σ0 := wipe σ (own.map (·.2))) (W := W) (Out := outSum W) (Fin := fun c H => Q (.int c) H)
    over_gx rfl (gx_none _ _ _ _ _ _) hco M.turn (hgt _ _ _ _ _ _) (he _ _ _ _ _ _) (gx_fp M) (fun _ pins' ⟨t1, c1, hp⟩ p hp' hb => by
      rw [hp] at hp'
      rw [List.mem_singleton.mp hp'] at hb
      have h1 := (M.fpk _ hb).2
      have h2 : s5.heap.objs.size < s4.heap.objs.size := h1
      exact absurd (Nat.lt_trans (Nat.lt_trans h2 big) low) (Nat.lt_irrefl _)) (fun i m c H hw => turn i m c H hw)
  have sf : s5.heap.objs.size ∉ fp := fun hb => absurd (Nat.lt_trans (Nat.lt_trans (M.fpk _ hb).2 big) low) (Nat.lt_irrefl _)
  refine wpAny_pure ⟨plainId_quiet F.plain_sum_loop _, ?_⟩
  refine sum_gx (X := gxCx X s4 H2 (genEnv scope (cloFrom X.env.cells scope.names []) s4.heap.objs.size code builtinsNs X.env) fp (X.A.in1.in1.deeper (genEnv scope (cloFrom X.env.cells scope.names []) s4.heap.objs.size code builtinsNs X.env))) (fp := fp) (go := go) (g := gn) (σ0 := wipe σ (own.map (·.2))) (S := s5.heap.objs.size)
    (W := W) (Fin := fun c H => Q (.int c) H) hr.hd hrn M.isg rfl (Nat.le_of_lt (Nat.lt_trans big low)) (Nat.ne_of_gt hlt) (fun x c e z => ?_) (Nat.ne_of_lt low) sf (fun c t H' s' pins' I' q => ⟨.int c, H', gx_back M I', ⟨t, rfl⟩, q⟩) m0 _ _ 0 s5.toks 0 0 (.inl rfl) eS M.gen (M.isg _ (kp _ _ ga)) I7.nolimit ⟨rfl, ?_⟩
  · have h1 := M.cel x c e
    have z : c = s5.heap.objs.size := z
    exact absurd (Nat.lt_trans (Nat.lt_trans (by rw [z] at h1; exact h1) big) low) (Nat.lt_irrefl _)
  · have I8 := inv_set (g := gn) (x := .running) I7 rfl
    have st8 : tn 0 (s5.heap.push (sumO 0 s5.toks 0)) := M.turn.keep _ _ _ M.st5 fun b _ o e => kp b o e
    exact gx_fresh (m := m0) (c := (0 : Int)) (H := H2) (pins' := [(s5.heap.objs.size, sumO 0 s5.toks 0)]) over_gx over_gx0 M.turn st8 (loop m0 m0 0 0 _ _ H2 [(s5.heap.objs.size, sumO 0 s5.toks 0)] (Nat.le_refl _) w0 ⟨_, _, rfl⟩ (fun p hp => by rw [List.mem_singleton.mp hp]; exact eS) I8 st8 fun b hb => (M.fpk b hb).1.1)
end
end Lk

namespace Lk
open PySem PySem.Spec PyProof.Rows L2 GxR
/-! ### a def whose code object is known -/
section
variable {P : Program} {w : World} {K : PySem.W.Frag} {mg : Str → Option Value} {base : Heap}
theorem okC {x qual : Str} {st : Stmt} {f c : Addr} {fd : FuncData} {N ps : List Str} {k : Nat} {sp : Sp} (F : Fun K x qual st f fd) (hc : fd.code = .ref c) (S : FnScope N ps (defScope st)) (len : ∀ vs H Q E, sp vs H Q E → vs.length = ps.length)
    (body : ∀ (A : Around) (outer : List Env) (s : Shared) (H : Hp) (vs : List V) (Q : VK) (E : XK), Room k (A.deeper (envOfC qual (defScope st) s.heap.objs.size f (.ref c))) → sp vs H Q E →
      ∃ t, PSs (cxOf CX0 P w K mg base N qual (defScope st) f (.ref c) A outer s H E).nox (defBody st) t ∧ t { nx := fun _ H' => Q .non H', rt := Q } (start N vs) H) : FnOk P w K mg base CX0 (k + 1) f fd ps sp := by
  obtain ⟨_, _, _, _, _, _, cdv, _, _, efd, lk, hcd⟩ := F.ex
  subst efd
  obtain rfl : cdv = .ref c := hc
  refine fn_of lk hcd S len fun A outer s H vs Q E hr h => ?_
  obtain ⟨t, ht, q⟩ := body A outer s H vs Q E hr h
  exact ⟨t, ht.nox, q⟩
theorem okCX {x qual : Str} {st : Stmt} {f c : Addr} {fd : FuncData} {N ps : List Str} {k : Nat} {sp : Sp} (F : Fun K x qual st f fd) (hc : fd.code = .ref c) (S : FnScope N ps (defScope st)) (len : ∀ vs H Q E, sp vs H Q E → vs.length = ps.length)
    (body : ∀ (A : Around) (outer : List Env) (s : Shared) (H : Hp) (vs : List V) (Q : VK) (E : XK), Room k (A.deeper (envOfC qual (defScope st) s.heap.objs.size f (.ref c))) → sp vs H Q E →
      ∃ t, PSs (cxOf (L2.CX P w) P w K mg base N qual (defScope st) f (.ref c) A outer s H E) (defBody st) t ∧ t { nx := fun _ H' => Q .non H', rt := Q } (start N vs) H) : FnOk P w K mg base (L2.CX P w) (k + 1) f fd ps sp := by
  obtain ⟨_, _, _, _, _, _, cdv, _, _, efd, lk, hcd⟩ := F.ex
  subst efd
  obtain rfl : cdv = .ref c := hc
  exact fn_of lk hcd S len body
end
/-! ### the head, with tables -/
section
variable {P : Program} {w : World} {K : PySem.W.Frag} {mg mb : Str → Option Value} {CX : CXT} {k : Nat} {fa a : Addr} {fd : FuncData} {x : Str} {sp : Sp} {s₁ : Shared} {vs : List Value} {ns : List Int}
/-- the code objects and their tables: empty, not in K -/
def TabsK (K : PySem.W.Frag) (h : Heap) (cs : List (Addr × Addr)) : Prop := ∀ p ∈ cs, PySem.W.CodeHd h p.1 p.2 ∧ h.get? p.2 = some (PySem.W.tabObj #[]) ∧ K.lookup p.2 = none
theorem law_fromT {cs : List (Addr × Addr)} (KX : K.In s₁.heap) (hns : s₁.heap.Ns mainGlobals mg) (hb : s₁.heap.Ns builtinsNs mb) (hbb : ∀ x : Str, x ≠ "__name__" → mb x = bootBuiltins x) (hlim : s₁.heap.NoLimit) (hg : s₁.gens = #[])
    (hT : TabsK K s₁.heap cs) (hbm : ∃ (bm : Addr) (ob : Obj), mg "__builtins__" = some (.ref bm) ∧ bm ≠ builtinsNs ∧ s₁.heap.get? bm = some ob ∧ ob.cls = .type "module" ∧ ob.dict = some builtinsNs ∧ ob.data = .plain)
    (ha : s₁.heap.get? a = some { cls := .type "list", data := .seq vs.toArray }) (room : Room k callerA)
    (F : ∀ base : Heap, K.In base → base.Ns mainGlobals mg → (∀ p ∈ cs, TabB base mg p.1 p.2) → RunsAt P w K mg base CX k fa fd [x] sp) (hbind : ∀ (s : Shared) (u : Value), BindsTo s fd ⟨[u], []⟩ [(x, u)])
    (H : Hp) (hO : ∀ b, H b = none ∨ (∃ ob xs, H b = some (.frz ob (.lst xs))) ∨ b ∈ cs.map (·.2) ∧ H b = some (.tbl #[])) (hok : HOk P w H s₁.heap) (hA : ∀ b, H b ≠ none → b = a ∨ b ∈ cs.map (·.2)) (hK : H a ≠ none → K.lookup a = none) (hP : ∀ p ∈ cs, H p.2 = some (.tbl #[]))
    (want : sp [.ref a] H (fun v _ => v = .bl true) fun _ _ _ => False) (hCX : ∀ e s', CX [] H s₁ (fun _ _ _ => False) e s' → False) : codeAny (model P w) callerA (.call (.ref fa) ⟨[.ref a], []⟩) (lawEnd s₁) s₁ := by
  have tabAt : ∀ {b : Addr}, b ∈ cs.map (·.2) → s₁.heap.get? b = some (PySem.W.tabObj #[]) ∧ K.lookup b = none := fun {b} hb => by
    obtain ⟨p, hp, e⟩ := List.mem_map.mp hb
    rw [← e]
    exact (hT p hp).2
  have plain : ∀ {b : Addr} {o : Obj}, s₁.heap.get? b = some o → (∀ vs n, o.data ≠ .seq vs n) → o.data ≠ .fields #[] → H b = none := fun {b o} e h1 h2 => by
    cases q : H b with
    | none => rfl
    | some u =>
      exfalso
      rcases hA b (by rw [q]; exact nofun) with z | z
      · rw [z, ha] at e
        cases e
        exact h1 _ _ rfl
      · rw [(tabAt z).1] at e
        cases e
        exact h2 rfl
  have dicts : ∀ {b : Addr} {o : Obj} {es : Array DictEntry} {ep : Nat}, s₁.heap.get? b = some o → o.data = .dict es ep → H b = none := fun {b o es ep} e d =>
    plain e (fun _ _ z => by rw [d] at z; cases z) fun z => by rw [d] at z; cases z
  have spaces : ∀ {b : Addr} {m : Str → Option Value}, s₁.heap.Ns b m → (hidT s₁.heap H).Ns b m := by
    rintro b m ⟨o, es, ep, e, d, r⟩
    exact ⟨o, es, ep, hidT_get e (dicts e d), d, r⟩
  have kin : K.In (hidT s₁.heap H) := by
    intro b o e
    refine hidT_get (KX b o e) ?_
    cases q : H b with
    | none => rfl
    | some u =>
      exfalso
      rcases hA b (by rw [q]; exact nofun) with z | z
      · subst z
        have z := hK (by rw [q]; exact nofun)
        rw [e] at z
        exact nomatch z
      · rw [(tabAt z).2] at e
        exact nomatch e
  obtain ⟨mc, l1, l2⟩ := hlim
  have TB : ∀ p ∈ cs, TabB (hidT s₁.heap H) mg p.1 p.2 := fun p hp => by
    obtain ⟨hc, ht, _⟩ := hT p hp
    refine ⟨?_, ?_, fun z => ?_⟩
    · obtain ⟨o, us, file, tf, flags, tg, inF, text, tt, e1, r1, r2, r3, rest⟩ := hc
      refine ⟨o, us, file, tf, flags, tg, inF, text, tt, hidT_get e1 (plain e1 (fun vs n z => ?_) fun z => ?_), r1, r2, r3, rest⟩
      · rw [r2] at z
        cases z
      · rw [r2] at z
        cases z
        simp at r3
    · obtain ⟨bm, ob, b1, b2, b3, b4, b5, b6⟩ := hbm
      have nG : bm ≠ mainGlobals := fun q => by
        obtain ⟨o, es, ep, e, hd, _⟩ := hns
        rw [q, e] at b3
        cases b3
        rw [hd] at b6
        cases b6
      have nP : bm ≠ p.2 := fun q => by
        rw [q, ht] at b3
        cases b3
        cases b6
      refine ⟨bm, ob, b1, b2, nG, nP, hidT_get b3 (plain b3 (fun vs n z => ?_) fun z => ?_), b4, b5, b6⟩
      · rw [b6] at z
        cases z
      · rw [b6] at z
        cases z
    · obtain ⟨o, es, ep, e, hd, _⟩ := hns
      rw [z, ht] at e
      cases e
      cases hd
  have env : Env0 P w K mg (hidT s₁.heap H) callerA [] s₁ H :=
    ⟨rfl, ⟨kin, spaces hns, ⟨mb, spaces hb, hbb⟩, ⟨mc, spaces l1, l2⟩⟩, fun b o e => of_hidT e, Nat.le_of_eq (hidT_size _ _), trivial, fun b z => absurd (show b ∈ ([] : List Addr) from z) (by simp), hok, .of_eq hg⟩
  refine codeAny_mono (F _ kin (spaces hns) TB callerA [] s₁ H ⟨[.ref a], []⟩ [.ref a] [.ref a] _ _ rfl room env (hbind s₁ (.ref a)) (.cons rfl .nil) want) ?_
  intro r s' h
  cases r with
  | error e => exact (hCX e s' h).elim
  | ok fl =>
    cases fl with
    | ret u =>
      obtain ⟨v, H', os, bare, un, hok', rv, rfl⟩ := h
      obtain rfl : u = Value.bool true := rv
      have still : ∀ b o, b ∉ cs.map (·.2) → s₁.heap.get? b = some o → s'.heap.get? b = some o := fun b o nb e => by
        rcases hO b with z | ⟨ob, xs, z⟩ | ⟨z, _⟩
        · exact un.keep b o e z (fun q => absurd (show b ∈ ([] : List Addr) from q) (by simp)) (by simp)
        · obtain ⟨e1, _⟩ := hok b _ z
          obtain ⟨e2, _⟩ := hok' b _ (un.frzs b ob _ z)
          obtain rfl := Option.some.inj (e1.symm.trans e)
          exact e2
        · exact absurd z nb
      have grown : ∀ p ∈ cs, ∃ more : Array Value, s'.heap.get? p.2 = some (PySem.W.tabObj more) := fun p hp => by
        obtain ⟨more, z⟩ := un.tbls p.2 #[] (hP p hp)
        exact ⟨_, hok' p.2 _ z⟩
      refine ⟨rfl, ⟨fun b o e => ?_, fun b o e => ?_⟩, os, bare⟩
      · by_cases hb : b ∈ cs.map (·.2)
        · obtain ⟨p, hp, ep⟩ := List.mem_map.mp hb
          obtain ⟨more, hm⟩ := grown p hp
          obtain ⟨hc, ht, _⟩ := hT p hp
          rw [← ep] at e ⊢
          rw [ht] at e
          cases e
          exact .inr (.inl ⟨(hc.tab ht).isCodeTable, rfl, #[], more, rfl, by rw [Array.empty_append]; exact hm⟩)
        · exact .inl (still b o hb e)
      · by_cases hb : b ∈ cs.map (·.2)
        · obtain ⟨p, hp, ep⟩ := List.mem_map.mp hb
          obtain ⟨more, hm⟩ := grown p hp
          rw [← ep]
          exact ⟨_, hm⟩
        · exact ⟨o, still b o hb e⟩
    | next => exact False.elim h
    | brk => exact False.elim h
    | cont => exact False.elim h
theorem law_runsT {cs : List (Addr × Addr)} (KX : K.In s₁.heap) (hns : s₁.heap.Ns mainGlobals mg) (hb : s₁.heap.Ns builtinsNs mb) (hbb : ∀ x : Str, x ≠ "__name__" → mb x = bootBuiltins x) (hlim : s₁.heap.NoLimit) (hg : s₁.gens = #[])
    (hT : TabsK K s₁.heap cs) (hbm : ∃ (bm : Addr) (ob : Obj), mg "__builtins__" = some (.ref bm) ∧ bm ≠ builtinsNs ∧ s₁.heap.get? bm = some ob ∧ ob.cls = .type "module" ∧ ob.dict = some builtinsNs ∧ ob.data = .plain)
    (ha : s₁.heap.get? a = some { cls := .type "list", data := .seq vs.toArray }) (hi : IntsAre vs ns) (hl : ns.length ≤ sizeLine) (room : Room k callerA)
    (F : ∀ base : Heap, K.In base → base.Ns mainGlobals mg → (∀ p ∈ cs, TabB base mg p.1 p.2) → RunsAt P w K mg base CX k fa fd [x] sp) (hbind : ∀ (s : Shared) (u : Value), BindsTo s fd ⟨[u], []⟩ [(x, u)])
    (hsp : ∀ H : Hp, (∀ p ∈ cs, H p.2 = some (.tbl #[])) → SqL K H a (ns.map V.int) → sp [.ref a] H (fun v _ => v = .bl true) fun _ _ _ => False)
    (hCX : ∀ H e s', CX [] H s₁ (fun _ _ _ => False) e s' → False) : codeAny (model P w) callerA (.call (.ref fa) ⟨[.ref a], []⟩) (lawEnd s₁) s₁ := by
  have rel := ints_vals hi
  have nlen := hi.length
  have mem : ∀ p ∈ cs, p.2 ∈ cs.map (·.2) := fun p hp => List.mem_map.mpr ⟨p, hp, rfl⟩
  have tabAt : ∀ {b : Addr}, b ∈ cs.map (·.2) → s₁.heap.get? b = some (PySem.W.tabObj #[]) := fun {b} hb => by
    obtain ⟨p, hp, e⟩ := List.mem_map.mp hb
    rw [← e]
    exact (hT p hp).2.1
  have aT : a ∉ cs.map (·.2) := fun z => by
    have q := tabAt z
    rw [ha] at q
    have z' : Data.seq vs.toArray _ = Data.fields #[] := congrArg Obj.data (Option.some.inj q)
    cases z'
  by_cases hk : K.lookup a = none
  · refine law_fromT KX hns hb hbb hlim hg hT hbm ha room F hbind (fun b => if b = a then some (.frz { cls := .type "list", data := .seq vs.toArray } (.lst (ns.map V.int))) else if b ∈ cs.map (·.2) then some (.tbl #[]) else none) (fun b => ?_) (fun b u z => ?_) (fun b z => ?_) (fun _ => hk) (fun p hp => ?_) (hsp _ (fun p hp => ?_) (.inl (.inr ⟨_, if_pos rfl⟩))) (hCX _)
    · by_cases hb : b = a
      · exact .inr (.inl ⟨_, _, if_pos hb⟩)
      · by_cases hb2 : b ∈ cs.map (·.2)
        · exact .inr (.inr ⟨hb2, (if_neg hb).trans (if_pos hb2)⟩)
        · exact .inl ((if_neg hb).trans (if_neg hb2))
    · by_cases hb : b = a
      · subst hb
        obtain rfl := Option.some.inj ((if_pos rfl).symm.trans z)
        exact ⟨ha, by rw [List.length_map]; exact hl, vs, _, rel, ha⟩
      · have z1 := (if_neg hb).symm.trans z
        by_cases hb2 : b ∈ cs.map (·.2)
        · obtain rfl := Option.some.inj ((if_pos hb2).symm.trans z1)
          exact tabAt hb2
        · exact nomatch (if_neg hb2).symm.trans z1
    · by_cases hb : b = a
      · exact .inl hb
      · by_cases hb2 : b ∈ cs.map (·.2)
        · exact .inr hb2
        · exact absurd ((if_neg hb).trans (if_neg hb2)) z
    · exact (if_neg (show ¬ p.2 = a from fun z => aT (by rw [← z]; exact mem p hp))).trans (if_pos (mem p hp))
    · exact (if_neg (show ¬ p.2 = a from fun z => aT (by rw [← z]; exact mem p hp))).trans (if_pos (mem p hp))
  · obtain ⟨o, ho⟩ := Option.ne_none_iff_exists'.mp hk
    obtain rfl := Option.some.inj (ha.symm.trans (KX a o ho))
    refine law_fromT KX hns hb hbb hlim hg hT hbm ha room F hbind (fun b => if b ∈ cs.map (·.2) then some (.tbl #[]) else none) (fun b => ?_) (fun b u z => ?_) (fun b z => ?_) (fun z => absurd (show (if a ∈ cs.map (·.2) then some (HO.tbl #[]) else none) = none from if_neg aT) z) (fun p hp => if_pos (mem p hp)) (hsp _ (fun p hp => if_pos (mem p hp)) (.inr ⟨_, vs.toArray, _, ho, rfl, rfl, rfl, by rw [List.size_toArray, nlen]; exact hl, by simpa using rel⟩)) (hCX _)
    · by_cases hb2 : b ∈ cs.map (·.2)
      · exact .inr (.inr ⟨hb2, if_pos hb2⟩)
      · exact .inl (if_neg hb2)
    · by_cases hb2 : b ∈ cs.map (·.2)
      · obtain rfl := Option.some.inj ((if_pos hb2).symm.trans z)
        exact tabAt hb2
      · exact nomatch (if_neg hb2).symm.trans z
    · by_cases hb2 : b ∈ cs.map (·.2)
      · exact .inr hb2
      · exact absurd (if_neg hb2) z
end
/-- what the text's tops tell of a def's table -/
def TellsT (q : Program) (K : PySem.W.Frag) (h : Heap) : Prop := ∀ (y : Str) (d : DefRec) (c P : Addr), (recsOf q).find? (fun e => e.name == y) = some d → PySem.W.tabIn K y = some (c, P) → PySem.W.CodeHd h c P ∧ h.get? P = some (PySem.W.tabObj #[])
theorem walk_T {l : PySem.W.OpenLaw} {n k : Nat} {q : Program} {loose : List Str} {XP : (Str → Option Value) → Heap → Prop} {YP : World → Heap → Prop} {d : DefRec} {K : Params → PySem.W.Frag} {CX : CXT} {sp : PySem.W.Frag → List Addr → Sp} {x : Str}
    (hn : l.most = some n) (hn2 : n ≤ sizeLine) (hdf : d.params.defaults = []) (room : Room k callerA) (hY : ∀ (w : World) (h : Heap), YP w h → (K w.params).In h)
    (F : ∀ (w : World) (mg : Str → Option Value) (fa : Addr) (h : Heap), (K w.params).In h → h.Ns mainGlobals mg → TellsT q (K w.params) h → mg d.name = some (.ref fa) →
      ∃ (fd : FuncData) (cs : List (Addr × Addr)), TabsK (K w.params) h cs ∧ (∀ (s : Shared) (u : Value), BindsTo s fd ⟨[u], []⟩ [(x, u)]) ∧ ∀ base : Heap, (K w.params).In base → base.Ns mainGlobals mg → (∀ p ∈ cs, TabB base mg p.1 p.2) → RunsAt l.prog w (K w.params) mg base CX k fa fd [x] (sp (K w.params) (cs.map (·.2))))
    (hsp : ∀ (K : PySem.W.Frag) (ts : List Addr) (H : Hp) (a : Addr) (ns : List Int), ns.length ≤ n → (∀ p ∈ ts, H p = some (.tbl #[])) → SqL K H a (ns.map V.int) → sp K ts [.ref a] H (fun v _ => v = .bl true) fun _ _ _ => False)
    (hCX : ∀ (H : Hp) (s : Shared) (e : Value) (s' : Shared), CX [] H s (fun _ _ _ => False) e s' → False) :
    PySem.W.WalkO q loose XP YP l.row.toRowW d [] (fun f vs => PySem.call f vs) := by
  refine Att.attach_call hn hdf ?_
  intro w s₀ s₁ mg mb fa o pm cd doc a vs ns G Y ho hd hcd hmg hobj hints hlen hg
  have KX := hY w _ Y
  obtain ⟨fd, cs, hT, hb, hF⟩ := F w mg fa _ KX G.T.g (fun y d' c P h1 h2 => PySem.W.tab_of G.T KX h1 h2) hmg
  exact law_runsT KX G.T.g G.T.b G.T.builtins G.T.nolimit hg hT G.T.bmain hobj hints (Nat.le_trans hlen hn2) room hF hb (fun H hP hS => hsp _ _ H a ns hlen (fun p hp => by
    obtain ⟨z, hz, e⟩ := List.mem_map.mp hp
    rw [← e]
    exact hP z hz) hS) fun H e s' => hCX H s₁ e s'
theorem tabIn_of {K : PySem.W.Frag} {x : Str} {f c p : Addr} {oc cl : Value} {od cd : Option Addr} {fd : FuncData} {sl cs : Array (Option Value)} {vs : Array Value} (a : PySem.W.nsIn K mainGlobals x = some (some (.ref f))) (l : K.lookup f = some ⟨oc, od, .func fd, sl⟩) (hc : fd.code = .ref c) (lC : K.lookup c = some ⟨cl, cd, .fields vs, cs⟩) (v : (vs[11]? : Option Value) = some (.ref p)) : PySem.W.tabIn K x = some (c, p) := by
  unfold PySem.W.tabIn
  simp only [a, l, hc, lC, v]
end Lk

namespace Lk
open PySem PySem.Spec PyProof.Rows L2 GxR
/-! ### an error's message, an f-string -/
section
variable {P : Program} {w : World} {A' : Around} {E' : Value → Shared → Prop} {Q : Value → Shared → Prop} {s' : Shared} {qual : Str} {scope : Scope} {L fI cda cc x : Addr} {par m : Str} {mj kk : Nat} {mp p5 p6 p7 : Pos} {v : V} {v' : Value}
theorem fs_name {Q' : Value → Shared → Prop} (hk : scope.kind = .function) (hl : scope.names.lookup par = some .local) (hne : par ≠ "self") (hdb : (par == ("__debug__" : Str)) = false) {s2 : Shared}
    (hns : s2.heap.Ns L (fun y => (([("self", Value.ref x), (par, v')] : List (Str × Value)).reverse.lookup y))) (q : Q' v' s2) : wpAny (model P w) A' (eval (.Name par p5) (PySem.W.ksEnv qual scope L fI (.ref cda) cc)) Q' E' s2 :=
  wpAny_Name (wpAny_loadName_local (by exact hk) (by exact hl) hns (by simp [List.lookup]) q) hdb
theorem fs_str (hk : scope.kind = .function) (hl : scope.names.lookup par = some .local) (hne : par ≠ "self") (hdb : (par == ("__debug__" : Str)) = false) (hm : m.length ≤ 1000) (rv : RelV v v') (ok : ∃ z : Str, v = .str z ∧ z.length ≤ 1000)
    (hns : s'.heap.Ns L (fun y => (([("self", Value.ref x), (par, v')] : List (Str × Value)).reverse.lookup y))) (hq : ∀ m t tk, Q (.str m t) { s' with toks := tk }) :
    wpAny (model P w) A' (eval (.JoinedStr [.Constant (.str m) mj mp, .FormattedValue (.Name par p5) (-1) none p6] p7) (PySem.W.ksEnv qual scope L fI (.ref cda) cc)) Q E' s' := by
  obtain ⟨z, rfl, hz⟩ := ok
  obtain ⟨t, rfl⟩ := rv
  have big : sizeLine ≥ 1000000 := by rw [sizeLine_eq]; omega
  have e0 : (Str.empty ++ m).length ≤ 1000 := by rw [strLen_append]; show 0 + m.length ≤ 1000; omega
  refine wpAny_JoinedStr ?_
  show Joins _ _ _ [eval (.Constant (.str m) mj mp) _, eval (.FormattedValue (.Name par p5) (-1) none p6) _] _ _ _
  refine PySem.wpAny_Constant_str ⟨m, _, rfl, by omega, ?_⟩
  have e1 : ((Str.empty ++ m) ++ z).length ≤ 2000 := by rw [strLen_append]; omega
  refine wpAny_FormattedValue_plain (fs_name hk hl hne hdb (by exact hns) ?_)
  refine wpAny_formatField_str ⟨z, _, rfl, by omega, ?_⟩ ⟨z, _, rfl, by omega, ?_⟩ (by omega)
  · exact ⟨by omega, hq _ _ _⟩
  · exact ⟨by omega, hq _ _ _⟩
theorem fs_int (hk : scope.kind = .function) (hl : scope.names.lookup par = some .local) (hne : par ≠ "self") (hdb : (par == ("__debug__" : Str)) = false) (hm : m.length ≤ 1000) (rv : RelV v v') (ok : ∃ z : Int, v = .int z ∧ z.natAbs < 10 ^ 38)
    (hns : s'.heap.Ns L (fun y => (([("self", Value.ref x), (par, v')] : List (Str × Value)).reverse.lookup y))) (hq : ∀ m t tk, Q (.str m t) { s' with toks := tk }) :
    wpAny (model P w) A' (eval (.JoinedStr [.Constant (.str m) mj mp, .FormattedValue (.Name par p5) (-1) none p6] p7) (PySem.W.ksEnv qual scope L fI (.ref cda) cc)) Q E' s' := by
  obtain ⟨z, rfl, hz⟩ := ok
  obtain ⟨t, rfl⟩ := rv
  have big : sizeLine ≥ 1000000 := by rw [sizeLine_eq]; omega
  have e0 : (Str.empty ++ m).length ≤ 1000 := by rw [strLen_append]; show 0 + m.length ≤ 1000; omega
  have ez : (Str.ofString (toString z)).length ≤ 100 := by
    have e := int_text_length_le10 (k := 38) (by decide) hz
    rw [PySem.ofString_length]
    omega
  have lg : z.natAbs.log2 < 1920 := by
    by_cases h0 : z.natAbs = 0
    · rw [h0]; decide
    · have h3 : (10 : Nat) ^ 38 ≤ 2 ^ 1920 := by decide +kernel
      exact (Nat.log2_lt h0).mpr (by omega)
  refine wpAny_JoinedStr ?_
  show Joins _ _ _ [eval (.Constant (.str m) mj mp) _, eval (.FormattedValue (.Name par p5) (-1) none p6) _] _ _ _
  refine PySem.wpAny_Constant_str ⟨m, _, rfl, by omega, ?_⟩
  have e1 : ((Str.empty ++ m) ++ Str.ofString (toString z)).length ≤ 2000 := by rw [strLen_append]; omega
  refine wpAny_FormattedValue_plain (fs_name hk hl hne hdb (by exact hns) ?_)
  refine wpAny_formatField_int lg ⟨_, _, rfl, by omega, ?_⟩
  exact ⟨by omega, hq _ _ _⟩
end
/-! ### all but the tables stay -/
def Nt (H H' : Hp) : Prop := ∀ b o, H b = some o → (∀ ps, o ≠ .tbl ps) → H' b = some o
theorem Nt.refl (H : Hp) : Nt H H := fun _ _ h _ => h
theorem Nt.trans {H H1 H2 : Hp} (a : Nt H H1) (b : Nt H1 H2) : Nt H H2 := fun c o h n => b c o (a c o h n) n
theorem Nt.of {H H' : Hp} (s : Same H H') : Nt H H' := fun b o h _ => s b o h
theorem Nt.lst {H H' : Hp} (n : Nt H H') {a : Addr} {xs : List V} (h : H a = some (.lst xs)) : H' a = some (.lst xs) := n a _ h nofun
theorem Nt.tup {H H' : Hp} (n : Nt H H') {a : Addr} {xs : List V} (h : H a = some (.tup xs)) : H' a = some (.tup xs) := n a _ h nofun
theorem Nt.xd {H H' : Hp} (n : Nt H H') {a : Addr} {xs : List (Str × V)} (h : H a = some (.xd xs)) : H' a = some (.xd xs) := n a _ h nofun
theorem Nt.rd {H H' : Hp} (n : Nt H H') {a : Addr} {o : HO} (ho : ∀ ps, o ≠ .tbl ps) (h : Rd H a o) : Rd H' a o := by
  rcases h with h | ⟨ob, h⟩
  · exact .inl (n a _ h ho)
  · exact .inr ⟨ob, n a _ h nofun⟩
theorem Nt.sql {K : PySem.W.Frag} {H H' : Hp} (n : Nt H H') {a : Addr} {xs : List V} (h : SqL K H a xs) : SqL K H' a xs := h.imp (n.rd nofun) id
theorem Nt.sqt {K : PySem.W.Frag} {H H' : Hp} (n : Nt H H') {a : Addr} {xs : List V} (h : SqT K H a xs) : SqT K H' a xs := h.imp (n.rd nofun) id
mutual
theorem Nt.dp {K : PySem.W.Frag} {H H' : Hp} (n : Nt H H') : ∀ {v : V} {d : PyData}, Dp K H v d → Dp K H' v d
  | _, _, .non => .non
  | _, _, .bl b => .bl b
  | _, _, .int i => .int i
  | _, _, .str x => .str x
  | _, _, .lst h r => .lst (n.sql h) (n.dpAll r)
  | _, _, .tup h r => .tup (n.sqt h) (n.dpAll r)
theorem Nt.dpAll {K : PySem.W.Frag} {H H' : Hp} (n : Nt H H') : ∀ {vs : List V} {ds : List PyData}, DpAll K H vs ds → DpAll K H' vs ds
  | _, _, .nil => .nil
  | _, _, .cons h r => .cons (n.dp h) (n.dpAll r)
end
theorem dp_same {K : PySem.W.Frag} {H H' : Hp} (s : Same H H') {v : V} {d : PyData} (h : Dp K H v d) : Dp K H' v d := (Nt.of s).dp h
theorem Nt.upd {H H' : Hp} {p : Addr} {o : HO} (n : Nt H H') (h : H' p = none) : Nt H (L2.upd H' p o) := n.trans (Nt.of (same_upd h))
theorem Nt.mut {H H' : Hp} {p : Addr} {o : HO} (n : Nt H H') (h : H p = none) : Nt H (L2.upd H' p o) := fun a u e nt => by
  rw [upd_ne (ne_of_none e h)]
  exact n a u e nt
theorem Nt.hid {M : List Addr} {H H' : Hp} (n : Nt H H') : Nt (hid M H) (hid M H') := fun a u e nt => hid_in (n a u (hid_of e).1 nt) (hid_of e).2
def TabsG (ts : List Addr) (H : Hp) : Prop := ∀ P ∈ ts, TabG H P
theorem TabsG.same {ts : List Addr} {H H' : Hp} (t : TabsG ts H) (s : Same H H') : TabsG ts H' := fun P hP => by
  obtain ⟨ps, h1, h2⟩ := t P hP
  exact ⟨ps, s _ _ h1, h2⟩
theorem TabsG.upd {ts : List Addr} {H : Hp} {p : Addr} {o : HO} (t : TabsG ts H) (h : p ∉ ts) : TabsG ts (L2.upd H p o) := fun P hP => by
  obtain ⟨ps, h1, h2⟩ := t P hP
  exact ⟨ps, by rw [upd_ne (show P ≠ p from fun z => h (z ▸ hP))]; exact h1, h2⟩
theorem TabsG.new {ts : List Addr} {H : Hp} {p : Addr} (t : TabsG ts H) (h : H p = none) : p ∉ ts := fun hp => by
  obtain ⟨ps, h1, _⟩ := t p hp
  rw [h] at h1; cases h1
theorem TabsG.ne {ts : List Addr} {H : Hp} {p : Addr} {o : HO} (t : TabsG ts H) (h : H p = some o) (ho : ∀ ps, o ≠ .tbl ps) : p ∉ ts := fun hp => by
  obtain ⟨ps, h1, _⟩ := t p hp
  rw [h] at h1; cases h1
  exact ho ps rfl
theorem tabbed_nt {P : Addr} {H H' : Hp} (h : TabG H P) (t : Tabbed P H H') : Nt H H' := fun b o e n => by
  by_cases hb : b = P
  · obtain ⟨ps, h1, _⟩ := h
    rw [hb, h1] at e; cases e
    exact absurd rfl (n ps)
  · rw [t.2 b hb]; exact e
theorem tabbed_tabs {P : Addr} {ts : List Addr} {H H' : Hp} (g : TabsG ts H) (t : Tabbed P H H') : TabsG ts H' := fun Q hQ => by
  by_cases hb : Q = P
  · rw [hb]; exact t.1
  · obtain ⟨ps, h1, h2⟩ := g Q hQ
    exact ⟨ps, by rw [t.2 Q hb]; exact h1, h2⟩
theorem Nt.free {H H' : Hp} {ts : List Addr} (n : Nt H H') (t : TabsG ts H') {p : Addr} (ht : ∀ b ps, H b = some (.tbl ps) → b ∈ ts) (h : H' p = none) : H p = none := by
  cases e : H p with
  | none => rfl
  | some o =>
    by_cases hh : ∃ ps, o = .tbl ps
    · obtain ⟨ps, rfl⟩ := hh
      obtain ⟨ps', h1, _⟩ := t p (ht p ps e)
      rw [h] at h1; cases h1
    · rw [n p o e fun ps z => hh ⟨ps, z⟩] at h; cases h
/-! ### a generator expression over a list -/
section
variable {K : PySem.W.Frag} {σ : L2.St} {H : Hp} {Q : VK} {te tl : TE} {vs : List Nat} {P a : Addr} {ts : List Addr} {k : Nat}
theorem g_all {xs : List V} (bs : List Bool) (hv : vs = [k]) (ht : ∀ R : VK, R (.ref a) H → tl σ H R) (hx : SqL K H a xs) (hP : P ∈ ts) (t0 : TabsG ts H) (hl : bs.length = xs.length)
    (he : ∀ (j : Nat) (x : V) (b : Bool), xs[j]? = some x → bs[j]? = some b → ∀ H' (R : VK), Nt H H' → TabsG ts H' → (∀ H'', Nt H' H'' → TabsG ts H'' → R (.bl b) H'') → te ((wipe σ [k]).set k (some x)) H' R)
    (q : ∀ H', Nt H H' → TabsG ts H' → Q (.bl (bs.all id)) H') : tAllG P (iList K tl) (gName k) te vs σ H Q := by
  subst hv
  refine ht (fun x H1 => ∃ a, x = .ref a ∧ (∃ xs, SqL K H1 a xs) ∧ _) ⟨a, rfl, ⟨xs, hx⟩, t0 P hP, fun H2 hT => ?_⟩
  have n2 := tabbed_nt (t0 P hP) hT
  refine ⟨fun i m H' => m = xs.length - i ∧ i ≤ xs.length ∧ Nt H H' ∧ TabsG ts H' ∧ (bs.take i).all id = true, ⟨_, rfl, Nat.zero_le _, n2, tabbed_tabs t0 hT, rfl⟩, ?_⟩
  rintro i m H' ⟨rfl, hi, n3, t3, hall⟩
  have hq := n3.sql hx
  by_cases hlt : i < xs.length
  · refine .inr ⟨⟨xs, xs[i], hq, by simp [hlt]⟩, fun x H4 y => ?_⟩
    obtain ⟨e, y⟩ := y
    subst e
    have hxi := y xs hq
    refine a_gname ⟨by simp [wipe], ?_⟩
    have hb : bs[i]? = some bs[i] := List.getElem?_eq_getElem (by omega)
    refine he i x _ hxi hb _ _ n3 t3 fun H5 n5 t5 => ⟨_, rfl, ?_⟩
    have hs : (bs.take (i + 1)).all id = bs[i] := by
      rw [← take_app hb, List.all_append, hall]
      simp
    cases hbi : bs[i] with
    | true =>
      rw [if_pos rfl]
      exact ⟨_, by omega, rfl, by omega, n3.trans n5, t5, by rw [hs, hbi]⟩
    | false =>
      rw [if_neg (by decide)]
      have hf : bs.all id = false := by
        rw [← List.take_append_drop (i + 1) bs, List.all_append, hs, hbi, Bool.false_and]
      have := q H5 (n3.trans n5) t5
      rw [hf] at this
      exact this
  · have e : i = xs.length := by omega
    subst e
    refine .inl ⟨⟨xs, hq, Nat.le_refl _⟩, ?_⟩
    have hf : bs.all id = true := by
      rw [← hl, List.take_length] at hall
      exact hall
    have := q H' n3 t3
    rw [hf] at this
    exact this
theorem g_sum {xs : List V} (vals : List Int) (hv : vs = [k]) (ht : ∀ R : VK, R (.ref a) H → tl σ H R) (hx : SqL K H a xs) (hP : P ∈ ts) (t0 : TabsG ts H) (hl : vals.length = xs.length)
    (he : ∀ (j : Nat) (x : V) (b : Int), xs[j]? = some x → vals[j]? = some b → ∀ H' (R : VK), Nt H H' → TabsG ts H' → (∀ H'', Nt H' H'' → TabsG ts H'' → R (.int b) H'') → te ((wipe σ [k]).set k (some x)) H' R)
    (q : ∀ H', Nt H H' → TabsG ts H' → Q (.int vals.sum) H') : tSumG P (iList K tl) (gName k) te vs σ H Q := by
  subst hv
  refine ht (fun x H1 => ∃ a, x = .ref a ∧ (∃ xs, SqL K H1 a xs) ∧ _) ⟨a, rfl, ⟨xs, hx⟩, t0 P hP, fun H2 hT => ?_⟩
  have n2 := tabbed_nt (t0 P hP) hT
  refine ⟨fun i m c H' => m = xs.length - i ∧ i ≤ xs.length ∧ Nt H H' ∧ TabsG ts H' ∧ c = (vals.take i).sum, ⟨_, rfl, Nat.zero_le _, n2, tabbed_tabs t0 hT, rfl⟩, ?_⟩
  rintro i m c H' ⟨rfl, hi, n3, t3, rfl⟩
  have hq := n3.sql hx
  by_cases hlt : i < xs.length
  · refine .inr ⟨⟨xs, xs[i], hq, by simp [hlt]⟩, fun x H4 y => ?_⟩
    obtain ⟨e, y⟩ := y
    subst e
    have hxi := y xs hq
    refine a_gname ⟨by simp [wipe], ?_⟩
    have hb : vals[i]? = some vals[i] := List.getElem?_eq_getElem (by omega)
    refine he i x _ hxi hb _ _ n3 t3 fun H5 n5 t5 => ⟨_, rfl, ?_⟩
    refine ⟨_, by omega, rfl, by omega, n3.trans n5, t5, ?_⟩
    rw [← take_app hb, List.sum_append]
    simp
  · have e : i = xs.length := by omega
    subst e
    refine .inl ⟨⟨xs, hq, Nat.le_refl _⟩, ?_⟩
    have := q H' n3 t3
    rw [← hl, List.take_length]
    exact this
end
/-! ### data -/
def tyD : PyData → String
  | .none => "NoneType"
  | .bool _ => "bool"
  | .int _ => "int"
  | .str _ => "str"
  | .list _ => "list"
  | .tuple _ => "tuple"
  | .dict _ => "dict"
theorem ty_sql {K : PySem.W.Frag} {H : Hp} {a : Addr} {xs : List V} (h : SqL K H a xs) : TyX K H (.ref a) (.type "list") := by
  rcases h with (h | ⟨o, h⟩) | ⟨o, its, n, h, c, _⟩
  · exact .base (.lst h)
  · exact .base (.frz h)
  · exact .kList h c
theorem ty_sqt {K : PySem.W.Frag} {H : Hp} {a : Addr} {xs : List V} (h : SqT K H a xs) : TyX K H (.ref a) (.type "tuple") := by
  rcases h with (h | ⟨o, h⟩) | ⟨o, its, n, h, c, _⟩
  · exact .base (.tup h)
  · exact .fTuple h
  · exact .kTuple h c
theorem ty_dp {K : PySem.W.Frag} {H : Hp} {v : V} {d : PyData} (h : Dp K H v d) : TyX K H v (.type (tyD d)) := by
  cases h with
  | non => exact .base .non
  | bl b => exact .base (.bl b)
  | int i => exact .base (.int i)
  | str x => exact .base (.str x)
  | lst h r => exact ty_sql h
  | tup h r => exact ty_sqt h
/-- isinstance of data -/
def isB (U : String) : PyData → Bool
  | .none => false
  | .bool _ => U == "bool" || U == "int"
  | .int _ => U == "int"
  | .str _ => U == "str"
  | .list _ => U == "list"
  | .tuple _ => U == "tuple"
  | .dict _ => U == "dict"
theorem a_isD {K : PySem.W.Frag} {H : Hp} {Q : VK} {v : V} {d : PyData} {U : String} (h : Dp K H v d) (hU : U = "list" ∨ U = "tuple" ∨ U = "int" ∨ U = "bool") (q : Q (.bl (isB U d)) H) : rIsi K [v, .ty U] H Q := by
  have t := ty_dp h
  cases h with
  | non => rcases hU with rfl | rfl | rfl | rfl <;> first | exact a_isi (T := "NoneType") (b := true) t (by decide +kernel) q | exact a_isi (T := "NoneType") (b := false) t (by decide +kernel) q
  | bl b => rcases hU with rfl | rfl | rfl | rfl <;> first | exact a_isi (T := "bool") (b := true) t (by decide +kernel) q | exact a_isi (T := "bool") (b := false) t (by decide +kernel) q
  | int i => rcases hU with rfl | rfl | rfl | rfl <;> first | exact a_isi (T := "int") (b := true) t (by decide +kernel) q | exact a_isi (T := "int") (b := false) t (by decide +kernel) q
  | str x => rcases hU with rfl | rfl | rfl | rfl <;> first | exact a_isi (T := "str") (b := true) t (by decide +kernel) q | exact a_isi (T := "str") (b := false) t (by decide +kernel) q
  | lst h r => rcases hU with rfl | rfl | rfl | rfl <;> first | exact a_isi (T := "list") (b := true) t (by decide +kernel) q | exact a_isi (T := "list") (b := false) t (by decide +kernel) q
  | tup h r => rcases hU with rfl | rfl | rfl | rfl <;> first | exact a_isi (T := "tuple") (b := true) t (by decide +kernel) q | exact a_isi (T := "tuple") (b := false) t (by decide +kernel) q
theorem dpAll_len {K : PySem.W.Frag} {H : Hp} : ∀ {vs : List V} {ds : List PyData}, DpAll K H vs ds → vs.length = ds.length
  | _, _, .nil => rfl
  | _, _, .cons _ r => by rw [List.length_cons, List.length_cons, dpAll_len r]
theorem dpAll_at {K : PySem.W.Frag} {H : Hp} : ∀ {vs : List V} {ds : List PyData}, DpAll K H vs ds → ∀ {i : Nat} {v : V}, vs[i]? = some v → ∃ d, ds[i]? = some d ∧ Dp K H v d
  | _, _, .nil, i, v, e => by simp at e
  | _, _, .cons h r, 0, v, e => by cases e; exact ⟨_, rfl, h⟩
  | _, _, .cons h r, i + 1, v, e => by
    obtain ⟨d, h1, h2⟩ := dpAll_at r (i := i) (v := v) (by simpa using e)
    exact ⟨d, by simpa using h1, h2⟩
theorem dpAll_at' {K : PySem.W.Frag} {H : Hp} : ∀ {vs : List V} {ds : List PyData}, DpAll K H vs ds → ∀ {i : Nat} {d : PyData}, ds[i]? = some d → ∃ v, vs[i]? = some v ∧ Dp K H v d
  | _, _, .nil, i, v, e => by simp at e
  | _, _, .cons h r, 0, v, e => by cases e; exact ⟨_, rfl, h⟩
  | _, _, .cons h r, i + 1, v, e => by
    obtain ⟨d, h1, h2⟩ := dpAll_at' r (i := i) (d := v) (by simpa using e)
    exact ⟨d, by simpa using h1, h2⟩
theorem dp_int {K : PySem.W.Frag} {H : Hp} {v : V} {i : Int} (h : Dp K H v (.int i)) : v = .int i := by cases h; rfl
theorem dp_list {K : PySem.W.Frag} {H : Hp} {v : V} {ds : List PyData} (h : Dp K H v (.list ds)) : ∃ a xs, v = .ref a ∧ SqL K H a xs ∧ DpAll K H xs ds := by
  cases h with
  | lst h r => exact ⟨_, _, rfl, h, r⟩
theorem dp_tuple {K : PySem.W.Frag} {H : Hp} {v : V} {ds : List PyData} (h : Dp K H v (.tuple ds)) : ∃ a xs, v = .ref a ∧ SqT K H a xs ∧ DpAll K H xs ds := by
  cases h with
  | tup h r => exact ⟨_, _, rfl, h, r⟩
theorem dpAll_app {K : PySem.W.Frag} {H : Hp} : ∀ {vs ws : List V} {ds es : List PyData}, DpAll K H vs ds → DpAll K H ws es → DpAll K H (vs ++ ws) (ds ++ es)
  | _, _, _, _, .nil, r => r
  | _, _, _, _, .cons h r, s => .cons h (dpAll_app r s)
theorem dpAll_ints {K : PySem.W.Frag} {H : Hp} {vs : List V} {l : List Int} (h : DpAll K H vs (dInts l)) : vs = l.map V.int := by
  induction l generalizing vs with
  | nil => cases h; rfl
  | cons i r ih =>
    cases h with
    | cons h1 h2 =>
      cases h1
      rw [ih h2]
      rfl
theorem a_gtupT {K : PySem.W.Frag} {a : Addr} {xs : List V} {n : Nat} {u : TGs} {σ : L2.St} {H : Hp} {R : L2.St → Hp → Prop} (h : SqT K H a xs) (hn : xs.length = n) (q : u xs σ H R) : gTup K n u (.ref a) σ H R := ⟨a, xs, rfl, h, hn, q⟩
end Lk

namespace Lk
open PySem PySem.Spec PyProof.Rows L2 GxR
open PySem.LkX
/-! ### a caught error of one of several classes -/
section
variable {X : Cx} {P : Program} {w : World} {K : PySem.W.Frag} {mg : Str → Option Value} {a : Addr} {oe : Obj} {cls : Value} {d : Option Addr} {pn : List (Addr × Obj)}
/-- e.field -/
def tByX (P : Program) (w : World) (K : PySem.W.Frag) (mg : Str → Option Value) (par : Str) (a : Addr) (cls : Value) (d : Option Addr) (te : TE) : TE := fun σ H Q => ∃ (C : Addr) (name : Str) (ok : V → Prop), Err P w K mg name par C ok ∧ tByE C par a cls d te σ H Q
theorem pe_byX {par : Str} {e : Expr} {te : TE} {pos : Pos} (hK : X.K = K) (hz : Zc cls d oe) (hf : ∃ vs, oe.data = .fields vs) (he : PE (X.suite a ((a, oe) :: pn)) e te)
    (hb : attributeBase e par X.env (eval e X.env) = eval e X.env := by rfl) : PE (X.suite a ((a, oe) :: pn)) (.Attribute e par pos) (tByX P w K mg par a cls d te) := by
  refine ⟨fun pins s σ H Q I h => ?_⟩
  obtain ⟨C, name, ok, T, q⟩ := h
  exact (pe_byE hK T hz hf he hb).run pins s σ H Q I q
/-- isinstance(e, c) -/
def rIsX (P : Program) (w : World) (K : PySem.W.Frag) (mg : Str → Option Value) (a : Addr) (cls : Value) (d : Option Addr) : List V → Hp → VK → Prop := fun xs H Q => ∃ (C : Addr) (name par : Str) (ok : V → Prop), Err P w K mg name par C ok ∧ rIsD K C a cls d xs H Q
theorem call_isX (hK : X.K = K) (hz : Zc cls d oe) (hf : ∃ vs, oe.data = .fields vs) : CallR (X.suite a ((a, oe) :: pn)) (.builtin "isinstance") (rIsX P w K mg a cls d) := by
  intro pins s σ H xs us Q I r h
  obtain ⟨C, name, par, ok, T, q⟩ := h
  exact call_isD hK T hz hf pins s σ H xs us Q I r q
end
theorem maxK_ {X : Cx} {K : PySem.W.Frag} (h : X.K = K) (hc : X.calm = true) : CallR X (.builtin "max") (rMax K) := by subst h; exact cr_max hc
theorem tupK_ {X : Cx} {K : PySem.W.Frag} (h : X.K = K) : CallR X (.type "tuple") (fun xs H Q => ∃ p ys, xs = [.ref p] ∧ ((SqL K H p ys ∧ ∀ l, H l = none → Q (.ref l) (upd H l (.tup ys))) ∨ (SqT K H p ys ∧ Q (.ref p) H))) := by subst h; exact call_tuple_of
theorem piE_ {X : Cx} {K : PySem.W.Frag} {tg it : Expr} {ta : TA} (h : X.K = K) (hl : PI X tg it (iEnum X.K ta)) : PI X tg it (iEnum K ta) := by subst h; exact hl
theorem gxRoom {k n : Nat} {A : Around} {env : Env} (hr : Room n A) (h : k + 3 ≤ n) : Room k (A.in1.in1.deeper env) := (((hr.mono h).in1).in1).deeper env
theorem a_len2 {K : PySem.W.Frag} {H : Hp} {a : Addr} {xs : List V} {P : List V → Prop} (h : SqT K H a xs) (q : P xs) : ∃ p ys, [V.ref a] = [V.ref p] ∧ (SqL K H p ys ∨ SqT K H p ys) ∧ P ys := ⟨a, xs, rfl, .inr h, q⟩
theorem a_enum {K : PySem.W.Frag} {σ : L2.St} {H : Hp} {t : TA} {R : It → Hp → Prop} (q : t σ H fun vs H1 => ∃ a xs, vs = [.ref a] ∧ SqL K H1 a xs ∧ R (Ite K a) H1) : iEnum K t σ H R := q
section
variable {K : PySem.W.Frag} {g : TG} {tb : TS} {σ : L2.St} {H : Hp} {nx : L2.St → Hp → Prop} {rt : VK}
theorem fo_enum {a : Addr} {xs : List V} (Pv : Nat → L2.St → Hp → Prop) (h0 : Pv 0 σ H) (hl : ∀ i σ H, i ≤ xs.length → Pv i σ H → SqL K H a xs)
    (hs : ∀ (i : Nat) (x : V) (T : Addr) (σ : L2.St) (H : Hp), xs[i]? = some x → Pv i σ H → H T = none → g (.ref T) σ (upd H T (.tup [.int (i : Int), x])) fun σ2 H2 => tb ⟨Pv (i + 1), rt, nx, Pv (i + 1)⟩ σ2 H2) (hd : ∀ σ H, Pv xs.length σ H → nx σ H) :
    ∃ W : Nat → Nat → L2.St → Hp → Prop, (∃ m, W 0 m σ H) ∧ ∀ i m σ H, W i m σ H →
      ((Ite K a).stop i H ∧ nx σ H) ∨ ((Ite K a).go i H ∧ ∃ N : L2.St → Hp → Prop, (∀ σ' H', N σ' H' → ∃ m', m' < m ∧ W (i + 1) m' σ' H') ∧ ∀ v H', (Ite K a).yld i H v H' → g v σ H' fun σ2 H2 => tb ⟨N, rt, nx, N⟩ σ2 H2) := by
  refine ⟨fun i m σ H => m = xs.length - i ∧ i ≤ xs.length ∧ Pv i σ H, ⟨_, rfl, Nat.zero_le _, h0⟩, ?_⟩
  rintro i m σ H ⟨rfl, hi, p⟩
  have q := hl i σ H hi p
  by_cases hlt : i < xs.length
  · refine .inr ⟨?_, Pv (i + 1), fun σ' H' p' => ⟨xs.length - (i + 1), by omega, rfl, hlt, p'⟩, fun v H' y => ?_⟩
    · exact ⟨xs, xs[i], q, by simp [hlt]⟩
    · obtain ⟨T, x, rfl, hT, rfl, hx⟩ := y
      exact hs i x T σ H (hx xs q) p hT
  · have e : i = xs.length := by omega
    subst e
    exact .inl ⟨⟨xs, q, Nat.le_refl _⟩, hd σ H p⟩
end
end Lk

namespace Lk
open PySem PySem.Spec PyProof.Rows L2 GxR
/-! ### new objects, the heap not written out -/
def tTupA (t : TA) : TE := fun σ H Q => t σ H fun xs H1 => xs.length ≤ sizeLine ∧ ∀ p H', H1 p = none → Same H1 H' → H' p = some (.tup xs) → Q (.ref p) H'
def tLstA (t : TA) : TE := fun σ H Q => t σ H fun xs H1 => xs.length ≤ sizeLine ∧ ∀ p H', H1 p = none → Same H1 H' → H' p = some (.lst xs) → Q (.ref p) H'
theorem pe_tupA {X : Cx} {es : List Expr} {t : TA} {n : Nat} {pos : Pos} (h : PA X es t) : PE X (.Tuple es n pos) (tTupA t) := by
  refine ⟨fun pins s σ H Q I hq => ?_⟩
  refine wpAny_Tuple_spliced (thn (h.run pos pins s σ H _ I hq) fun us s1 ⟨xs, H1, I1, r, z, q⟩ => ⟨by rw [← r.length]; exact z, ?_⟩)
  have free : H1 s1.heap.objs.size = none := I1.hok.fresh (Nat.le_refl _)
  exact ⟨.ref s1.heap.objs.size, L2.upd H1 s1.heap.objs.size (.tup xs), I1.laid (t' := s1.toks) (fun b u e => Heap.get?_push_of_some _ e) (Nat.le_refl _) ⟨z, us, r, ⟨_, Heap.get?_push_size _ rfl, rfl, _, rfl⟩⟩, rfl, q _ _ free (same_upd free) upd_same⟩
theorem pe_lstA {X : Cx} {es : List Expr} {t : TA} {pos : Pos} (h : PA X es t) : PE X (.List es pos) (tLstA t) := by
  refine ⟨fun pins s σ H Q I hq => ?_⟩
  refine wpAny_List_spliced (thn (h.run pos pins s σ H _ I hq) fun us s1 ⟨xs, H1, I1, r, z, q⟩ => ⟨by rw [← r.length]; exact z, ?_⟩)
  have free : H1 s1.heap.objs.size = none := I1.hok.fresh (Nat.le_refl _)
  exact ⟨.ref s1.heap.objs.size, L2.upd H1 s1.heap.objs.size (.lst xs), I1.laid (t' := s1.toks) (fun b u e => Heap.get?_push_of_some _ e) (Nat.le_refl _) ⟨z, us, 0, r, Heap.get?_push_size _ rfl⟩, rfl, q _ _ free (same_upd free) upd_same⟩
section
variable {K : PySem.W.Frag} {σ : L2.St} {H : Hp} {Q : VK} {t : TA}
theorem a_tupA (q : t σ H fun xs H1 => xs.length ≤ sizeLine ∧ ∀ p H', H1 p = none → Same H1 H' → H' p = some (.tup xs) → Q (.ref p) H') : tTupA t σ H Q := q
theorem a_lstA (q : t σ H fun xs H1 => xs.length ≤ sizeLine ∧ ∀ p H', H1 p = none → Same H1 H' → H' p = some (.lst xs) → Q (.ref p) H') : tLstA t σ H Q := q
theorem a_catA {a b : Addr} {xs zs : List V} (ha : H a = some (.lst xs)) (hb : H b = some (.lst zs)) (hl : xs.length + zs.length ≤ 1000000) (q : ∀ p H', H p = none → Same H H' → H' p = some (.lst (xs ++ zs)) → Q (.ref p) H') : rCat (.ref a) (.ref b) H Q :=
  a_cat ha hb (sz hl) fun p n => q p _ n (same_upd n) upd_same
theorem a_slA {a : Addr} {xs : List V} {lo hi : Option Int} (h : SqL K H a xs) (q : ∀ p H', H p = none → Same H H' → H' p = some (.lst (cutV xs lo hi)) → Q (.ref p) H') : rSlL K (.ref a) lo hi H Q := a_slL h fun p n => q p _ n (same_upd n) upd_same
theorem flat_one {α : Type} (x : α) : ∀ n : Nat, (List.replicate n [x]).flatten = List.replicate n x
  | 0 => rfl
  | n + 1 => by rw [List.replicate_succ, List.flatten_cons, flat_one x n]; rfl
theorem a_rep1 {a : Addr} {x : V} {k : Nat} (h : H a = some (.lst [x])) (hk : k ≤ 100000) (q : ∀ p H', H p = none → Same H H' → H' p = some (.lst (List.replicate k x)) → Q (.ref p) H') : L2.rRep (.ref a) (.int (k : Int)) H Q := by
  refine ⟨a, k, [x], rfl, rfl, h, by omega, by omega, sz (by rw [Int.toNat_natCast]; show 1 * k ≤ 1000000; omega), fun p n => ?_⟩
  rw [Int.toNat_natCast, flat_one]
  exact q p _ n (same_upd n) upd_same
end
theorem sat {H H' : Hp} {t : Addr} {o : HO} (s : Same H H') (e : H t = some o) : H' t = some o := s _ _ e
theorem dpx {K : PySem.W.Frag} {st : Addr} {M : List Addr} {H H' : Hp} {t : Addr} {xs : List V} {ds : List PyData} (d : Dr st M H) (n : H t = none) (e : H' t = some (.tup xs)) (h : DpAll K (hid M H') xs ds) : Dp K (hid M H') (.ref t) (.tuple ds) := .tup (sqt (hid_in e (d.al.new n))) h
theorem dpy {K : PySem.W.Frag} {st : Addr} {M : List Addr} {H H' : Hp} {t : Addr} {xs : List V} {ds : List PyData} (d : Dr st M H) (n : H t = none) (e : H' t = some (.lst xs)) (h : DpAll K (hid M H') xs ds) : Dp K (hid M H') (.ref t) (.list ds) := .lst (sql (hid_in e (d.al.new n))) h
theorem dp_rep {K : PySem.W.Frag} {H : Hp} {v : V} {d : PyData} (h : Dp K H v d) : ∀ n : Nat, DpAll K H (List.replicate n v) (List.replicate n d)
  | 0 => .nil
  | n + 1 => by rw [List.replicate_succ, List.replicate_succ]; exact .cons h (dp_rep h n)
theorem dpAll_take {K : PySem.W.Frag} {H : Hp} : ∀ {vs : List V} {ds : List PyData} (k : Nat), DpAll K H vs ds → DpAll K H (vs.take k) (ds.take k)
  | _, _, 0, _ => by rw [List.take_zero, List.take_zero]; exact .nil
  | _, _, k + 1, .nil => by rw [List.take_nil, List.take_nil]; exact .nil
  | _, _, k + 1, .cons h r => by rw [List.take_succ_cons, List.take_succ_cons]; exact .cons h (dpAll_take k r)
theorem dpAll_drop {K : PySem.W.Frag} {H : Hp} : ∀ {vs : List V} {ds : List PyData} (k : Nat), DpAll K H vs ds → DpAll K H (vs.drop k) (ds.drop k)
  | _, _, 0, h => by rw [List.drop_zero, List.drop_zero]; exact h
  | _, _, k + 1, .nil => by rw [List.drop_nil, List.drop_nil]; exact .nil
  | _, _, k + 1, .cons h r => by rw [List.drop_succ_cons, List.drop_succ_cons]; exact dpAll_drop k r
theorem cut_takeG (xs : List V) (k : Nat) : cutV xs none (some (k : Int)) = xs.take k := by
  unfold cutV
  rw [HT.sIx_nat]
  have h1 : HT.sIx xs.length 0 none = 0 := rfl
  rw [h1, List.drop_zero, Nat.sub_zero]
  by_cases h : k ≤ xs.length
  · rw [Nat.min_eq_left h]
  · rw [Nat.min_eq_right (by omega), List.take_of_length_le (Nat.le_refl _), List.take_of_length_le (by omega)]
theorem cut_fromG (xs : List V) (k : Nat) : cutV xs (some ((k : Int) + 1)) none = xs.drop (k + 1) := by
  unfold cutV
  rw [show ((k : Int) + 1) = ((k + 1 : Nat) : Int) by push_cast; rfl, HT.sIx_nat, HT.sIx_none]
  by_cases h : k + 1 ≤ xs.length
  · rw [Nat.min_eq_left h, List.take_of_length_le (by simp)]
  · rw [Nat.min_eq_right (by omega), List.drop_of_length_le (Nat.le_refl _), List.drop_of_length_le (by omega)]
    simp
theorem dInts_app (a b : List Int) : dInts (a ++ b) = dInts a ++ dInts b := by unfold dInts; rw [List.map_append]
theorem dInts_rep (n : Nat) (x : Int) : dInts (List.replicate n x) = List.replicate n (.int x) := by unfold dInts; rw [List.map_replicate]
theorem at_some {xs : List V} {v : V} {d : Int} (h0 : 0 ≤ d) (h : xs[d.toNat]? = some v) : atI xs d = some v := by
  have := atI_nat h
  rw [Int.toNat_of_nonneg h0] at this
  exact this
theorem catA_ {X : Cx} {K : PySem.W.Frag} (h : X.K = K) : OpR X (binaryOp .Add) (rCatA K) := by subst h; exact op_catA
theorem slT_ {X : Cx} {K : PySem.W.Frag} (h : X.K = K) : SlR X (rSlT K) := by subst h; exact sl_tup
theorem a_catT {K : PySem.W.Frag} {H : Hp} {Q : VK} {a b : Addr} {xs ys : List V} (ha : SqT K H a xs) (hb : SqT K H b ys) (hl : xs.length + ys.length ≤ 1000000) (hx : xs ≠ []) (hy : ys ≠ []) (q : ∀ p H', H p = none → Same H H' → H' p = some (.tup (xs ++ ys)) → Q (.ref p) H') : rCatA K (.ref a) (.ref b) H Q :=
  ⟨a, b, xs, ys, rfl, rfl, ha, hb, sz hl, fun z => absurd z hx, fun _ z => absurd z hy, fun _ _ p n => q p _ n (same_upd n) upd_same⟩
theorem a_slT {K : PySem.W.Frag} {H : Hp} {Q : VK} {a : Addr} {xs : List V} {lo hi : Option Int} (h : SqT K H a xs) (hw : ¬ (HT.sIx xs.length 0 lo = 0 ∧ HT.sIx xs.length xs.length hi = xs.length)) (q : ∀ p H', H p = none → Same H H' → H' p = some (.tup (cutV xs lo hi)) → Q (.ref p) H') : rSlT K (.ref a) lo hi H Q :=
  ⟨a, xs, rfl, h, hw, fun p n => q p _ n (same_upd n) upd_same⟩
end Lk

namespace Lk
open PySem PySem.Spec PyProof.Rows L2 GxR
/-! ### circuits as data -/
def intK (d : PyData) : Bool := isB "int" d && !isB "bool" d
theorem intK_int {d : PyData} (h : intK d = true) : ∃ i, d = .int i := by
  cases d <;> simp [intK, isB] at h
  exact ⟨_, rfl⟩
theorem isB_list {d : PyData} (h : isB "list" d = true) : ∃ xs, d = .list xs := by
  cases d <;> simp [isB] at h
  exact ⟨_, rfl⟩
theorem isB_tuple {d : PyData} (h : isB "tuple" d = true) : ∃ xs, d = .tuple xs := by
  cases d <;> simp [isB] at h
  exact ⟨_, rfl⟩
def numB (p : Int) : PyData → Bool
  | .int i => decide (0 ≤ i ∧ i < p)
  | _ => false
theorem numB_no {p : Int} {d : PyData} (h : intK d = false) : numB p d = false := by
  cases d <;> simp [intK, isB] at h <;> rfl
def areN (d : PyData) (many p : Int) : Bool := match d with
  | .list xs => decide ((xs.length : Int) = many) && xs.all (numB p)
  | _ => false
theorem areN_no {d : PyData} {many p : Int} (h : isB "list" d = false) : areN d many p = false := by
  cases d <;> simp [isB] at h <;> rfl
theorem areN_list {xs : List PyData} {many p : Int} : areN (.list xs) many p = (decide ((xs.length : Int) = many) && xs.all (numB p)) := rfl
/-- a gate: its first entry is a text -/
def gdom (g : PyData) : Prop := ∀ xs, g = .tuple xs → (xs.length = 4 ∨ xs.length = 5) → ∃ s r, xs = .str s :: r
def gateB (columns p : Int) : PyData → Bool
  | .tuple [.str s, a, x, b, y] => decide (s = "lin") && ((numB p a && numB p b) && (numB columns x && numB columns y))
  | .tuple [.str s, c, x, y] => decide (s = "mul") && (numB p c && (numB columns x && numB columns y))
  | _ => false
theorem gateB_no {columns p : Int} {d : PyData} (h : isB "tuple" d = false) : gateB columns p d = false := by
  cases d <;> simp [isB] at h <;> rfl
theorem gateB_len {columns p : Int} {xs : List PyData} (h4 : xs.length ≠ 4) (h5 : xs.length ≠ 5) : gateB columns p (.tuple xs) = false := by
  unfold gateB
  split
  · rename_i e; cases e; exact absurd rfl h5
  · rename_i e; cases e; exact absurd rfl h4
  · rfl
theorem are2 {a b : PyData} {p : Int} : areN (.list [a, b]) 2 p = (numB p a && numB p b) := by
  show (decide (((2 : Nat) : Int) = 2) && (numB p a && (numB p b && true))) = _
  rw [Bool.and_true]; rfl
theorem are1 {a : PyData} {p : Int} : areN (.list [a]) 1 p = numB p a := by
  show (decide (((1 : Nat) : Int) = 1) && (numB p a && true)) = _
  rw [Bool.and_true]; rfl
def layB (many columns p : Int) : PyData → Option Str
  | .list xs => if (xs.length : Int) = many then (if xs.all (gateB columns p) = true then none else some "gate") else some "layer"
  | _ => some "layer"
theorem layB_no {many columns p : Int} {d : PyData} (h : isB "list" d = false) : layB many columns p d = some "layer" := by
  cases d <;> simp [isB] at h <;> rfl
def limB (ws : List Int) : Option Str :=
  if 64 < (ws.length : Int) - 1 then some "layers" else if ws.any (fun w => decide (8 < w)) = true then some "columns" else if 4096 < ((ws.dropLast.map fun w => (2 : Int) ^ w.toNat)).sum then some "gates" else none
def formW (p : Int) (ws : List Int) (ls : List PyData) : Prop := ls ≠ [] ∧ ws.length = ls.length + 1 ∧ ∀ w ∈ ws, 0 ≤ w
def formB : PyData → Bool
  | .tuple [.str s, p, .list ws, .list ls] => decide (s = "circuit") && (intK p && (!ls.isEmpty && (decide (ws.length = ls.length + 1) && ws.all (fun e => intK e && (match e with | .int i => decide (0 ≤ i) | _ => false)))))
  | _ => false
def wB (e : PyData) : Bool := intK e && (match e with | .int i => decide (0 ≤ i) | _ => false)
theorem wB_all : ∀ {ws : List PyData}, ws.all wB = true → ∃ l : List Int, ws = dInts l ∧ ∀ w ∈ l, 0 ≤ w
  | [], _ => ⟨[], rfl, fun w h => by simp at h⟩
  | e :: r, h => by
    rw [List.all_cons, Bool.and_eq_true] at h
    obtain ⟨l, rfl, hl⟩ := wB_all h.2
    obtain ⟨h1, h2⟩ := Bool.and_eq_true_iff.mp h.1
    obtain ⟨i, rfl⟩ := intK_int h1
    refine ⟨i :: l, rfl, fun w hw => ?_⟩
    rcases List.mem_cons.mp hw with e | e
    · rw [e]; exact of_decide_eq_true h2
    · exact hl w e
theorem formB_yes {d : PyData} (h : formB d = true) : ∃ p ws ls, d = .tuple [.str "circuit", .int p, .list (dInts ws), .list ls] ∧ formW p ws ls := by
  unfold formB at h
  split at h
  · rename_i s p ws ls
    simp only [Bool.and_eq_true] at h
    obtain ⟨h1, h2, h3, h4, h5⟩ := h
    obtain ⟨i, rfl⟩ := intK_int h2
    obtain ⟨l, rfl, hl⟩ := wB_all (ws := ws) h5
    have e1 := of_decide_eq_true h1
    subst e1
    refine ⟨i, l, ls, rfl, ?_, ?_, hl⟩
    · intro z; rw [z] at h3; simp at h3
    · have := of_decide_eq_true h4
      unfold dInts at this
      rw [List.length_map] at this
      exact this
  · cases h
theorem wB_ints {l : List Int} (h : ∀ w ∈ l, 0 ≤ w) : (dInts l).all wB = true := by
  rw [List.all_eq_true]
  intro e he
  obtain ⟨i, hi, rfl⟩ := List.mem_map.mp he
  show (true && decide (0 ≤ i)) = true
  rw [decide_eq_true (h i hi)]; rfl
theorem formB_of {p : Int} {ws : List Int} {ls : List PyData} (h : formW p ws ls) : formB (.tuple [.str "circuit", .int p, .list (dInts ws), .list ls]) = true := by
  obtain ⟨h1, h2, h3⟩ := h
  have e : formB (.tuple [.str "circuit", .int p, .list (dInts ws), .list ls]) = (decide (("circuit" : Str) = "circuit") && (intK (.int p) && (!ls.isEmpty && (decide ((dInts ws).length = ls.length + 1) && (dInts ws).all wB)))) := rfl
  rw [e, wB_ints h3, decide_eq_true rfl]
  have e2 : (dInts ws).length = ls.length + 1 := by unfold dInts; rw [List.length_map, h2]
  rw [decide_eq_true e2]
  cases ls with
  | nil => exact absurd rfl h1
  | cons x r => rfl
inductive Flt
  | ok
  | part (s : Str)
  | size (s : Str)
  | fld (p : Int)
def lays (p : Int) (ws : List Int) : Nat → List PyData → Option Str
  | _, [] => none
  | i, l :: r => match layB (2 ^ (ws.getD i 0).toNat) (2 ^ (ws.getD (i + 1) 0).toNat) p l with
    | some s => some s
    | none => lays p ws (i + 1) r
noncomputable def chk (p : Int) (ws : List Int) (ls : List PyData) : Flt :=
  if goodM p = true then (match limB ws with | some s => .size s | none => match lays p ws 0 ls with | some s => .part s | none => .ok) else .fld p
def layAt (p : Int) (ws : List Int) (i : Nat) (l : PyData) : Option Str := layB (2 ^ (ws.getD i 0).toNat) (2 ^ (ws.getD (i + 1) 0).toNat) p l
theorem lays_none {p : Int} {ws : List Int} : ∀ {ls : List PyData} {i : Nat}, (∀ j l, ls[j]? = some l → layAt p ws (i + j) l = none) → lays p ws i ls = none
  | [], i, _ => rfl
  | l :: r, i, h => by
    have h0 : layAt p ws i l = none := h 0 l rfl
    unfold layAt at h0
    unfold lays
    rw [h0]
    refine lays_none fun j l' e => ?_
    have := h (j + 1) l' (by simpa using e)
    rw [show i + (j + 1) = i + 1 + j by omega] at this
    exact this
theorem lays_some {p : Int} {ws : List Int} {s : Str} : ∀ {ls : List PyData} {i k : Nat} {l : PyData}, (∀ j l, j < k → ls[j]? = some l → layAt p ws (i + j) l = none) → ls[k]? = some l → layAt p ws (i + k) l = some s → lays p ws i ls = some s
  | [], i, k, l, _, e, _ => by simp at e
  | x :: r, i, 0, l, _, e, h => by
    cases e
    unfold layAt at h
    unfold lays
    rw [Nat.add_zero] at h
    rw [h]
  | x :: r, i, k + 1, l, hn, e, h => by
    have h0 : layAt p ws i x = none := hn 0 x (by omega) rfl
    unfold layAt at h0
    unfold lays
    rw [h0]
    refine lays_some (k := k) (l := l) (fun j l' hj e' => ?_) (by simpa using e) (by rw [show i + 1 + k = i + (k + 1) by omega]; exact h)
    have := hn (j + 1) l' (by omega) (by simpa using e')
    rw [show i + (j + 1) = i + 1 + j by omega] at this
    exact this
theorem isP_no {n k : Int} (h2 : 2 ≤ k) (hk : k * k ≤ n) (h : n % k = 0) : isP n = false := isP_f fun z => z.2 k h2 hk h
theorem isP_yes {n b : Int} (h2 : 2 ≤ n) (hb : n < b * b) (b0 : 0 < b) (h : ∀ k, 2 ≤ k → k < b → n % k ≠ 0) : isP n = true := isP_t ⟨h2, fun k hk hkk => h k hk (by
  by_cases hlt : k < b
  · exact hlt
  · have : b * b ≤ k * k := Int.mul_le_mul (by omega) (by omega) (by omega) (by omega)
    omega)⟩
theorem good5 : goodM 5 = true := by
  rw [good_isP (by omega)]
  refine isP_yes (b := 3) (by omega) (by omega) (by omega) fun k h1 h2 => ?_
  have : k = 2 := by omega
  subst this
  decide
theorem good7 : goodM 7 = true := by
  rw [good_isP (by omega)]
  refine isP_yes (b := 3) (by omega) (by omega) (by omega) fun k h1 h2 => ?_
  have : k = 2 := by omega
  subst this
  decide
theorem good11 : goodM 11 = true := by
  rw [good_isP (by omega)]
  refine isP_yes (b := 4) (by omega) (by omega) (by omega) fun k h1 h2 => ?_
  have : k = 2 ∨ k = 3 := by omega
  rcases this with rfl | rfl <;> decide
theorem good13 : goodM 13 = true := by
  rw [good_isP (by omega)]
  refine isP_yes (b := 4) (by omega) (by omega) (by omega) fun k h1 h2 => ?_
  have : k = 2 ∨ k = 3 := by omega
  rcases this with rfl | rfl <;> decide
theorem good53 : goodM 53 = true := by
  rw [good_isP (by omega)]
  refine isP_yes (b := 8) (by omega) (by omega) (by omega) fun k h1 h2 => ?_
  have : k = 2 ∨ k = 3 ∨ k = 4 ∨ k = 5 ∨ k = 6 ∨ k = 7 := by omega
  rcases this with rfl | rfl | rfl | rfl | rfl | rfl <;> decide
theorem bad9 : goodM 9 = false := by rw [good_isP (by omega)]; exact isP_no (k := 3) (by omega) (by omega) (by omega)
theorem bad91 : goodM 91 = false := by rw [good_isP (by omega)]; exact isP_no (k := 7) (by omega) (by omega) (by omega)
theorem a_max {K : PySem.W.Frag} {H : Hp} {Q : VK} {a : Addr} {ns : List Int} (h : SqL K H a (ns.map V.int)) (hl : 0 < ns.length) (q : ∀ m, m ∈ ns → (∀ y, y ∈ ns → y ≤ m) → Q (.int m) H) : rMax K [.ref a] H Q := ⟨a, ns, rfl, h, hl, q⟩
theorem form4 {s : Str} {d1 : PyData} {ws ls : List PyData} : formB (.tuple [.str s, d1, .list ws, .list ls]) = (decide (s = "circuit") && (intK d1 && (!ls.isEmpty && (decide (ws.length = ls.length + 1) && ws.all wB)))) := rfl
theorem form_no2 {s : Str} {d1 d2 d3 : PyData} (h : isB "list" d2 = false) : formB (.tuple [.str s, d1, d2, d3]) = false := by
  cases d2 <;> simp [isB] at h <;> rfl
theorem form_no3 {s : Str} {d1 d2 d3 : PyData} (h : isB "list" d3 = false) : formB (.tuple [.str s, d1, d2, d3]) = false := by
  cases d3 <;> simp [isB] at h <;> (cases d2 <;> rfl)
theorem form_no {d : PyData} (h : isB "tuple" d = false) : formB d = false := by
  cases d <;> simp [isB] at h <;> rfl
theorem form_nos {s : Str} {d1 d2 d3 : PyData} (h : s ≠ "circuit") : formB (.tuple [.str s, d1, d2, d3]) = false := by
  cases d2 <;> first | rfl | (cases d3 <;> first | rfl | (rw [form4, decide_eq_false h]; rfl))
theorem form_no1 {s : Str} {d1 d2 d3 : PyData} (h : intK d1 = false) : formB (.tuple [.str s, d1, d2, d3]) = false := by
  cases d2 <;> first | rfl | (cases d3 <;> first | rfl | (rw [form4, h, Bool.false_and, Bool.and_false]))
theorem form_len {xs : List PyData} (h : xs.length ≠ 4) : formB (.tuple xs) = false := by
  unfold formB
  split
  · rename_i e; cases e; exact absurd rfl h
  · rfl
def fdom (d : PyData) : Prop := ∀ xs, d = .tuple xs → xs.length = 4 → ∃ s r, xs = .str s :: r
theorem len4 {α : Type} {xs : List α} (h : xs.length = 4) : ∃ a b c d, xs = [a, b, c, d] := by
  match xs, h with
  | [a, b, c, d], _ => exact ⟨a, b, c, d, rfl⟩
theorem len5 {α : Type} {xs : List α} (h : xs.length = 5) : ∃ a b c d e, xs = [a, b, c, d, e] := by
  match xs, h with
  | [a, b, c, d, e], _ => exact ⟨a, b, c, d, e, rfl⟩
theorem dp4 {K : PySem.W.Frag} {H : Hp} {ys : List V} {a b c d : PyData} (h : DpAll K H ys [a, b, c, d]) : ∃ w x y z, ys = [w, x, y, z] ∧ Dp K H w a ∧ Dp K H x b ∧ Dp K H y c ∧ Dp K H z d := by
  cases h with
  | cons h1 h => cases h with
    | cons h2 h => cases h with
      | cons h3 h => cases h with
        | cons h4 h => cases h; exact ⟨_, _, _, _, rfl, h1, h2, h3, h4⟩
theorem dp5 {K : PySem.W.Frag} {H : Hp} {ys : List V} {a b c d e : PyData} (h : DpAll K H ys [a, b, c, d, e]) : ∃ v w x y z, ys = [v, w, x, y, z] ∧ Dp K H v a ∧ Dp K H w b ∧ Dp K H x c ∧ Dp K H y d ∧ Dp K H z e := by
  cases h with
  | cons h1 h => cases h with
    | cons h2 h => cases h with
      | cons h3 h => cases h with
        | cons h4 h => cases h with
          | cons h5 h => cases h; exact ⟨_, _, _, _, _, rfl, h1, h2, h3, h4, h5⟩
theorem dp_str {K : PySem.W.Frag} {H : Hp} {v : V} {i : Str} (h : Dp K H v (.str i)) : v = .str i := by cases h; rfl
theorem nB {b : Bool} (h : (!b) = true) : b = false := by revert h; cases b <;> simp
theorem nB' {b : Bool} (h : (!b) = false) : b = true := by revert h; cases b <;> simp
theorem gate5 {columns p : Int} {s : Str} {a x b y : PyData} : gateB columns p (.tuple [.str s, a, x, b, y]) = (decide (s = "lin") && ((numB p a && numB p b) && (numB columns x && numB columns y))) := rfl
theorem gate4 {columns p : Int} {s : Str} {c x y : PyData} : gateB columns p (.tuple [.str s, c, x, y]) = (decide (s = "mul") && (numB p c && (numB columns x && numB columns y))) := rfl
theorem dp_new2 {K : PySem.W.Frag} {H : Hp} {l : Addr} {v w : V} {a b : PyData} (n : H l = none) (h1 : Dp K H v a) (h2 : Dp K H w b) : Dp K (L2.upd H l (.lst [v, w])) (.ref l) (.list [a, b]) := .lst (sql upd_same) (.cons (dp_same (same_upd n) h1) (.cons (dp_same (same_upd n) h2) .nil))
theorem dp_new1 {K : PySem.W.Frag} {H : Hp} {l : Addr} {v : V} {a : PyData} (n : H l = none) (h1 : Dp K H v a) : Dp K (L2.upd H l (.lst [v])) (.ref l) (.list [a]) := .lst (sql upd_same) (.cons (dp_same (same_upd n) h1) .nil)
theorem cut_init (xs : List V) : cutV xs none (some (-1)) = xs.dropLast := by
  unfold cutV
  have h1 : HT.sIx xs.length 0 none = 0 := rfl
  have h2 : HT.sIx xs.length xs.length (some (-1)) = xs.length - 1 := by
    unfold HT.sIx
    simp
    omega
  rw [h1, h2, List.drop_zero, Nat.sub_zero, List.dropLast_eq_take]
section
variable {K : PySem.W.Frag} {σ : L2.St} {H : Hp} {Q : VK} {te tl : TE} {vs : List Nat} {P a : Addr} {ts : List Addr} {k : Nat}
theorem g_sumN {xs : List V} (vals : List Int) (hv : vs = [k]) (ht : ∀ R : VK, (∀ a H1, Same H H1 → SqL K H1 a xs → R (.ref a) H1) → tl σ H R) (hP : P ∈ ts) (t0 : TabsG ts H) (hl : vals.length = xs.length)
    (he : ∀ (j : Nat) (x : V) (b : Int), xs[j]? = some x → vals[j]? = some b → ∀ H' (R : VK), Nt H H' → TabsG ts H' → (∀ H'', Nt H' H'' → TabsG ts H'' → R (.int b) H'') → te ((wipe σ [k]).set k (some x)) H' R)
    (q : ∀ H', Nt H H' → TabsG ts H' → Q (.int vals.sum) H') : tSumG P (iList K tl) (gName k) te vs σ H Q := by
  subst hv
  refine ht (fun x H1 => ∃ a, x = .ref a ∧ (∃ xs, SqL K H1 a xs) ∧ _) fun a H0 s0 hx => ⟨a, rfl, ⟨xs, hx⟩, t0.same s0 P hP, fun H2 hT => ?_⟩
  have n2 := tabbed_nt (t0.same s0 P hP) hT
  have n0 := (Nt.of s0).trans n2
  refine ⟨fun i m c H' => m = xs.length - i ∧ i ≤ xs.length ∧ Nt H0 H' ∧ Nt H H' ∧ TabsG ts H' ∧ c = (vals.take i).sum, ⟨_, rfl, Nat.zero_le _, n2, n0, tabbed_tabs (t0.same s0) hT, rfl⟩, ?_⟩
  rintro i m c H' ⟨rfl, hi, n3, n4, t3, rfl⟩
  have hq := n3.sql hx
  by_cases hlt : i < xs.length
  · refine .inr ⟨⟨xs, xs[i], hq, by simp [hlt]⟩, fun x H4 y => ?_⟩
    obtain ⟨e, y⟩ := y
    subst e
    have hxi := y xs hq
    refine a_gname ⟨by simp [wipe], ?_⟩
    have hb : vals[i]? = some vals[i] := List.getElem?_eq_getElem (by omega)
    refine he i x _ hxi hb _ _ n4 t3 fun H5 n5 t5 => ⟨_, rfl, ?_⟩
    refine ⟨_, by omega, rfl, by omega, n3.trans n5, n4.trans n5, t5, ?_⟩
    rw [← take_app hb, List.sum_append]
    simp
  · have e : i = xs.length := by omega
    subst e
    refine .inl ⟨⟨xs, hq, Nat.le_refl _⟩, ?_⟩
    have := q H' n4 t3
    rw [← hl, List.take_length]
    exact this
end
theorem layB_list {many columns p : Int} {xs : List PyData} : layB many columns p (.list xs) = if (xs.length : Int) = many then (if xs.all (gateB columns p) = true then none else some ("gate" : Str)) else some ("layer" : Str) := rfl
theorem limB_none {ws : List Int} (h : limB ws = none) : ∀ w ∈ ws, w ≤ 8 := by
  intro w hw
  unfold limB at h
  split at h
  · cases h
  · split at h
    · cases h
    · rename_i h2
      by_cases z : 8 < w
      · exact absurd (List.any_eq_true.mpr ⟨w, hw, decide_eq_true z⟩) h2
      · omega
/-- a circuit's gates' texts come first -/
def cdom (d : PyData) : Prop := fdom d ∧ ∀ a b ls, d = .tuple [.str "circuit", a, b, .list ls] → ∀ l ∈ ls, ∀ xs, l = .list xs → ∀ g ∈ xs, gdom g
def FltR (d : PyData) (f : Flt) : Prop := (formB d = false ∧ f = .part "circuit") ∨ ∃ p ws ls, d = .tuple [.str "circuit", .int p, .list (dInts ws), .list ls] ∧ formW p ws ls ∧ f = chk p ws ls
def fname : Flt → Str
  | .ok => "none"
  | .part s => s
  | .size s => s
  | .fld _ => "field"
/-! ### the law's circuits -/
theorem StR.ne {H : Hp} {st a : Addr} (s : StR H st) (h : H a = none) : a ≠ st := fun z => by
  obtain ⟨n, l, h1, _⟩ := s
  rw [z, h1] at h; cases h
theorem Dr.fresh {st : Addr} {M : List Addr} {H0 H : Hp} {t : Addr} (d : Dr st M H0) (s0 : Same H0 H) (n : H t = none) : t ∉ M := (d.same s0).al.new n
theorem dpt {K : PySem.W.Frag} {st : Addr} {M : List Addr} {H0 H H' : Hp} {t : Addr} {xs : List V} {ds : List PyData} (d : Dr st M H0) (n : H t = none) (s0 : Same H0 H) (s : Same (L2.upd H t (.tup xs)) H') (h : DpAll K (hid M H') xs ds) : Dp K (hid M H') (.ref t) (.tuple ds) :=
  .tup (sqt (hid_in (s _ _ upd_same) (d.fresh s0 n))) h
theorem dpl {K : PySem.W.Frag} {st : Addr} {M : List Addr} {H0 H H' : Hp} {t : Addr} {xs : List V} {ds : List PyData} (d : Dr st M H0) (n : H t = none) (s0 : Same H0 H) (s : Same (L2.upd H t (.lst xs)) H') (h : DpAll K (hid M H') xs ds) : Dp K (hid M H') (.ref t) (.list ds) :=
  .lst (sql (hid_in (s _ _ upd_same) (d.fresh s0 n))) h
theorem dpAll_same {K : PySem.W.Frag} {H H' : Hp} (s : Same H H') {v : List V} {d : List PyData} (h : DpAll K H v d) : DpAll K H' v d := (Nt.of s).dpAll h
theorem gate_shape {columns p : Int} {g : PyData} (h : gateB columns p g = true) : (∃ c x y : Int, g = .tuple [.str "mul", .int c, .int x, .int y] ∧ (0 ≤ c ∧ c < p) ∧ (0 ≤ x ∧ x < columns) ∧ (0 ≤ y ∧ y < columns)) ∨ (∃ a x b y : Int, g = .tuple [.str "lin", .int a, .int x, .int b, .int y] ∧ (0 ≤ a ∧ a < p) ∧ (0 ≤ x ∧ x < columns) ∧ (0 ≤ b ∧ b < p) ∧ (0 ≤ y ∧ y < columns)) := by
  have num : ∀ {q : Int} {d : PyData}, numB q d = true → ∃ i, d = .int i ∧ 0 ≤ i ∧ i < q := fun {q d} h => by
    cases d <;> simp [numB] at h
    exact ⟨_, rfl, h⟩
  unfold gateB at h
  split at h
  · rename_i s a x b y
    simp only [Bool.and_eq_true] at h
    obtain ⟨h0, ⟨h1, h2⟩, h3, h4⟩ := h
    obtain ⟨a, rfl, ha⟩ := num h1
    obtain ⟨b, rfl, hb⟩ := num h2
    obtain ⟨x, rfl, hx⟩ := num h3
    obtain ⟨y, rfl, hy⟩ := num h4
    rw [of_decide_eq_true h0]
    exact .inr ⟨a, x, b, y, rfl, ha, hx, hb, hy⟩
  · rename_i s c x y
    simp only [Bool.and_eq_true] at h
    obtain ⟨h0, h1, h3, h4⟩ := h
    obtain ⟨a, rfl, ha⟩ := num h1
    obtain ⟨x, rfl, hx⟩ := num h3
    obtain ⟨y, rfl, hy⟩ := num h4
    rw [of_decide_eq_true h0]
    exact .inl ⟨a, x, y, rfl, ha, hx, hy⟩
  · cases h
theorem gate_mul {columns p c x y : Int} (h1 : 0 ≤ c ∧ c < p) (h2 : 0 ≤ x ∧ x < columns) (h3 : 0 ≤ y ∧ y < columns) : gateB columns p (.tuple [.str "mul", .int c, .int x, .int y]) = true := by
  rw [gate4]
  simp [numB, h1, h2, h3]
theorem gate_lin {columns p a x b y : Int} (h1 : 0 ≤ a ∧ a < p) (h2 : 0 ≤ x ∧ x < columns) (h3 : 0 ≤ b ∧ b < p) (h4 : 0 ≤ y ∧ y < columns) : gateB columns p (.tuple [.str "lin", .int a, .int x, .int b, .int y]) = true := by
  rw [gate5]
  simp [numB, h1, h2, h3, h4]
/-- a good circuit in the heap -/
structure GoodC (K : PySem.W.Frag) (G : Hp) (c w L : Addr) (gas : List Addr) (p : Int) (ws : List Int) (ls : List (List PyData)) : Prop where
  tup : G c = some (.tup [.str "circuit", .int p, .ref w, .ref L])
  wid : G w = some (.lst (ws.map V.int))
  lay : G L = some (.lst (gas.map V.ref))
  gl : gas.length = ls.length
  gat : ∀ (j : Nat) (ga : Addr) (gd : List PyData), gas[j]? = some ga → ls[j]? = some gd → ∃ gv, G ga = some (.lst gv) ∧ DpAll K G gv gd
  good : goodM p = true
  pb : 5 ≤ p ∧ p ≤ 53
  len : ws.length = ls.length + 1
  l1 : 1 ≤ ls.length
  l3 : ls.length ≤ 3
  wb : ∀ x ∈ ws, 0 ≤ x ∧ x ≤ 3
  gs : ∀ (j : Nat) (gd : List PyData), ls[j]? = some gd → gd.length = 2 ^ (ws.getD j 0).toNat ∧ ∀ g ∈ gd, gateB (2 ^ (ws.getD (j + 1) 0).toNat) p g = true
theorem GoodC.same {K : PySem.W.Frag} {G G' : Hp} {c w L : Addr} {gas : List Addr} {p : Int} {ws : List Int} {ls : List (List PyData)} (h : GoodC K G c w L gas p ws ls) (s : Same G G') : GoodC K G' c w L gas p ws ls :=
  { h with tup := s _ _ h.tup, wid := s _ _ h.wid, lay := s _ _ h.lay, gat := fun j ga gd e1 e2 => (h.gat j ga gd e1 e2).imp fun gv z => ⟨s _ _ z.1, dpAll_same s z.2⟩ }
theorem pow8 {x : Int} (h0 : 0 ≤ x) (h3 : x ≤ 3) : (1 : Int) ≤ 2 ^ x.toNat ∧ (2 : Int) ^ x.toNat ≤ 8 := by
  have : x.toNat = 0 ∨ x.toNat = 1 ∨ x.toNat = 2 ∨ x.toNat = 3 := by omega
  rcases this with h | h | h | h <;> rw [h] <;> decide
theorem pow8n {x : Int} (h0 : 0 ≤ x) (h3 : x ≤ 3) : 1 ≤ 2 ^ x.toNat ∧ 2 ^ x.toNat ≤ 8 := by
  have : x.toNat = 0 ∨ x.toNat = 1 ∨ x.toNat = 2 ∨ x.toNat = 3 := by omega
  rcases this with h | h | h | h <;> rw [h] <;> decide
theorem in_mem {ws : List Int} {k : Nat} (h : k < ws.length) : ws.getD k 0 ∈ ws := by
  rw [List.getD_eq_getElem?_getD, List.getElem?_eq_getElem h]
  exact List.getElem_mem _
end Lk

namespace Lk
open PySem PySem.Spec PyProof.Rows L2 GxR
/-! ### near circuits -/
def OkD (c : Nat) (d : PyData) : Prop := tame d = true ∧ costD d ≤ c
theorem costL_le {c : Nat} : ∀ {xs : List PyData}, (∀ x ∈ xs, OkD c x) → tameL xs = true ∧ costL xs ≤ (c + 2) * xs.length
  | [], _ => ⟨by unfold tameL; rfl, Nat.zero_le _⟩
  | x :: r, h => by
    obtain ⟨a, b⟩ := costL_le (xs := r) fun y hy => h y (List.mem_cons_of_mem _ hy)
    obtain ⟨e, f⟩ := h x List.mem_cons_self
    unfold tameL costL
    rw [a, e, List.length_cons, Nat.mul_add]
    exact ⟨rfl, by omega⟩
theorem okd_int {i : Int} (h : -1000000000000 < i ∧ i < 1000000000000) : OkD 42 (.int i) := by
  refine ⟨?_, by unfold costD; omega⟩
  unfold tame
  have z : (10 : Nat) ^ 38 = 100000000000000000000000000000000000000 := by decide +kernel
  exact decide_eq_true (by omega)
theorem okd_str {c : Nat} {x : Str} (h : (reprText x).length ≤ c) : OkD c (.str x) := ⟨by unfold tame; rfl, by unfold costD; exact h⟩
theorem okd_up {c c' : Nat} {d : PyData} (h : OkD c d) (hc : c ≤ c') : OkD c' d := ⟨h.1, Nat.le_trans h.2 hc⟩
theorem okd_list {c n : Nat} {xs : List PyData} (h : ∀ x ∈ xs, OkD c x) (hn : (c + 2) * xs.length + 3 ≤ n) : OkD n (.list xs) := by
  obtain ⟨a, b⟩ := costL_le h
  exact ⟨by unfold tame; exact a, by unfold costD; omega⟩
theorem okd_tup {c n : Nat} {xs : List PyData} (h : ∀ x ∈ xs, OkD c x) (hn : (c + 2) * xs.length + 3 ≤ n) : OkD n (.tuple xs) := by
  obtain ⟨a, b⟩ := costL_le h
  exact ⟨by unfold tame; exact a, by unfold costD; omega⟩
theorem okd_ints {n : Nat} {l : List Int} (h : ∀ x ∈ l, -1000000000000 < x ∧ x < 1000000000000) (hn : 44 * l.length + 3 ≤ n) : OkD n (.list (dInts l)) := okd_list (c := 42) (fun x hx => by
  obtain ⟨i, hi, rfl⟩ := List.mem_map.mp hx
  exact okd_int (h i hi)) (by unfold dInts; rw [List.length_map]; exact hn)
theorem okd_tints {n : Nat} {l : List Int} (h : ∀ x ∈ l, -1000000000000 < x ∧ x < 1000000000000) (hn : 44 * l.length + 3 ≤ n) : OkD n (.tuple (dInts l)) := okd_tup (c := 42) (fun x hx => by
  obtain ⟨i, hi, rfl⟩ := List.mem_map.mp hx
  exact okd_int (h i hi)) (by unfold dInts; rw [List.length_map]; exact hn)
theorem depthL_le {n : Nat} : ∀ {xs : List PyData}, (∀ x ∈ xs, PyData.depth x ≤ n) → PyData.depthAll xs ≤ n
  | [], _ => by unfold PyData.depthAll; omega
  | x :: r, h => by
    unfold PyData.depthAll
    exact Nat.max_le.mpr ⟨h x List.mem_cons_self, depthL_le fun y hy => h y (List.mem_cons_of_mem _ hy)⟩
theorem depth_list {n : Nat} {xs : List PyData} (h : ∀ x ∈ xs, PyData.depth x ≤ n) : PyData.depth (.list xs) ≤ n + 1 := by
  have := depthL_le h
  unfold PyData.depth
  omega
theorem depth_tup {n : Nat} {xs : List PyData} (h : ∀ x ∈ xs, PyData.depth x ≤ n) : PyData.depth (.tuple xs) ≤ n + 1 := by
  have := depthL_le h
  unfold PyData.depth
  omega
theorem depth_int {i : Int} {n : Nat} : PyData.depth (.int i) ≤ n := by unfold PyData.depth; omega
theorem depth_str {i : Str} {n : Nat} : PyData.depth (.str i) ≤ n := by unfold PyData.depth; omega
theorem depth_dints {l : List Int} {n : Nat} : ∀ x ∈ dInts l, PyData.depth x ≤ n := fun x hx => by
  obtain ⟨i, _, rfl⟩ := List.mem_map.mp hx
  exact depth_int
/-- a gate, or nearly -/
structure Sm (g : PyData) : Prop where
  ok : OkD 200 g
  dep : PyData.depth g ≤ 2
  dom : gdom g
/-- a layer, or nearly -/
structure SmL (c : Nat) (l : PyData) : Prop where
  ok : OkD c l
  dep : PyData.depth l ≤ 4
  dom : ∀ xs, l = .list xs → ∀ g ∈ xs, gdom g
theorem sml_list {c : Nat} {gd : List PyData} (h : ∀ g ∈ gd, Sm g) (hn : 202 * gd.length + 3 ≤ c) : SmL c (.list gd) :=
  ⟨okd_list (c := 200) (fun x hx => (h x hx).ok) (by omega), by have := depth_list (n := 2) fun x hx => (h x hx).dep; omega, fun xs e g hg => by cases e; exact (h g hg).dom⟩
theorem sml_tup {c : Nat} {gd : List PyData} (h : ∀ g ∈ gd, Sm g) (hn : 202 * gd.length + 3 ≤ c) : SmL c (.tuple gd) :=
  ⟨okd_tup (c := 200) (fun x hx => (h x hx).ok) (by omega), by have := depth_tup (n := 2) fun x hx => (h x hx).dep; omega, fun xs e => by cases e⟩
theorem rep_small : (reprText "mul").length ≤ 42 ∧ (reprText "lin").length ≤ 42 ∧ (reprText "add").length ≤ 42 ∧ (reprText "circuit").length ≤ 42 ∧ (reprText "wires").length ≤ 42 := by decide +kernel
theorem all4 {P : PyData → Prop} {a b c d : PyData} (h1 : P a) (h2 : P b) (h3 : P c) (h4 : P d) : ∀ x ∈ [a, b, c, d], P x := by
  intro x hx
  simp only [List.mem_cons, List.not_mem_nil, or_false] at hx
  rcases hx with rfl | rfl | rfl | rfl <;> assumption
theorem all5 {P : PyData → Prop} {a b c d e : PyData} (h1 : P a) (h2 : P b) (h3 : P c) (h4 : P d) (h5 : P e) : ∀ x ∈ [a, b, c, d, e], P x := by
  intro x hx
  simp only [List.mem_cons, List.not_mem_nil, or_false] at hx
  rcases hx with rfl | rfl | rfl | rfl | rfl <;> assumption
theorem all3 {P : PyData → Prop} {a b c : PyData} (h1 : P a) (h2 : P b) (h3 : P c) : ∀ x ∈ [a, b, c], P x := by
  intro x hx
  simp only [List.mem_cons, List.not_mem_nil, or_false] at hx
  rcases hx with rfl | rfl | rfl <;> assumption
theorem gdom_str {s : Str} {r : List PyData} : gdom (.tuple (.str s :: r)) := fun xs e _ => by cases e; exact ⟨s, r, rfl⟩
theorem okd_tupc {a c n : Nat} {x : PyData} {r : List PyData} (h : OkD a x) (h2 : ∀ y ∈ r, OkD c y) (hn : 5 + a + (c + 2) * r.length ≤ n) : OkD n (.tuple (x :: r)) := by
  obtain ⟨a1, b1⟩ := costL_le h2
  obtain ⟨e, f⟩ := h
  refine ⟨?_, ?_⟩
  · unfold tame tameL
    rw [e, a1]; rfl
  · unfold costD costL
    omega
theorem rep10 : (reprText "mul").length ≤ 10 ∧ (reprText "lin").length ≤ 10 ∧ (reprText "add").length ≤ 10 := by decide +kernel
theorem sm5 {s : Str} {a b c d : Int} (hs : (reprText s).length ≤ 10) (h1 : -1000000000000 < a ∧ a < 1000000000000) (h2 : -1000000000000 < b ∧ b < 1000000000000) (h3 : -1000000000000 < c ∧ c < 1000000000000) (h4 : -1000000000000 < d ∧ d < 1000000000000) : Sm (.tuple [.str s, .int a, .int b, .int c, .int d]) :=
  ⟨okd_tupc (c := 42) (okd_str hs) (all4 (okd_int h1) (okd_int h2) (okd_int h3) (okd_int h4)) (by show 5 + 10 + (42 + 2) * 4 ≤ 200; decide), by have := depth_tup (n := 0) (all5 (P := fun x => PyData.depth x ≤ 0) (depth_str (i := s)) (depth_int (i := a)) (depth_int (i := b)) (depth_int (i := c)) (depth_int (i := d))); omega, gdom_str⟩
theorem sm4 {s : Str} {a b c : Int} (hs : (reprText s).length ≤ 10) (h1 : -1000000000000 < a ∧ a < 1000000000000) (h2 : -1000000000000 < b ∧ b < 1000000000000) (h3 : -1000000000000 < c ∧ c < 1000000000000) : Sm (.tuple [.str s, .int a, .int b, .int c]) :=
  ⟨okd_tupc (c := 42) (okd_str hs) (all3 (okd_int h1) (okd_int h2) (okd_int h3)) (by show 5 + 10 + (42 + 2) * 3 ≤ 200; decide), by have := depth_tup (n := 0) (all4 (P := fun x => PyData.depth x ≤ 0) (depth_str (i := s)) (depth_int (i := a)) (depth_int (i := b)) (depth_int (i := c))); omega, gdom_str⟩
theorem sm_gate {columns p : Int} {g : PyData} (hc : columns ≤ 1000000) (hp : p ≤ 1000000) (h : gateB columns p g = true) : Sm g := by
  rcases gate_shape h with ⟨c, x, y, rfl, h1, h2, h3⟩ | ⟨a, x, b, y, rfl, h1, h2, h3, h4⟩
  · exact sm4 rep10.1 (by omega) (by omega) (by omega)
  · exact sm5 rep10.2.1 (by omega) (by omega) (by omega) (by omega)
/-- a thing that may be handed to checked, and what is due -/
structure Near (d : PyData) (s : Str) : Prop where
  dom : cdom d
  flt : ∃ f, FltR d f ∧ fname f = s
  tm : tame d = true
  cost : costD d ≤ 990000
  dep : PyData.depth d ≤ 20
  kind : d = .none ∨ (∃ xs, d = .list xs) ∨ ∃ xs, d = .tuple xs
theorem Near.ref {K : PySem.W.Frag} {H : Hp} {v : V} {d : PyData} {s : Str} (h : Near d s) (hd : Dp K H v d) : d = .none ∨ ∃ a, v = .ref a := by
  rcases h.kind with h | ⟨xs, rfl⟩ | ⟨xs, rfl⟩
  · exact .inl h
  · obtain ⟨a, _, rfl, _⟩ := dp_list hd
    exact .inr ⟨a, rfl⟩
  · obtain ⟨a, _, rfl, _⟩ := dp_tuple hd
    exact .inr ⟨a, rfl⟩
theorem cdom_t {s : Str} {a b : PyData} {lsd : List PyData} (h : ∀ l ∈ lsd, ∀ xs, l = .list xs → ∀ g ∈ xs, gdom g) : cdom (.tuple [.str s, a, b, .list lsd]) :=
  ⟨fun xs e _ => by cases e; exact ⟨s, _, rfl⟩, fun a' b' ls e => by cases e; exact h⟩
theorem near_t {s : Str} {due : Str} {p : PyData} {wd : PyData} {lsd : List PyData} {c : Nat} {f : Flt} (hs : (reprText s).length ≤ 42) (hp : OkD 42 p ∧ PyData.depth p = 0) (hw : OkD 4000 wd ∧ PyData.depth wd ≤ 1) (hl : ∀ l ∈ lsd, SmL c l) (hc : (c + 2) * lsd.length ≤ 900000) (hf : FltR (.tuple [.str s, p, wd, .list lsd]) f) (hn : fname f = due) :
    Near (.tuple [.str s, p, wd, .list lsd]) due := by
  obtain ⟨l1, l2⟩ := costL_le fun x hx => (hl x hx).ok
  obtain ⟨⟨p1, p2⟩, p3⟩ := hp
  obtain ⟨⟨w1, w2⟩, w3⟩ := hw
  refine ⟨cdom_t fun l hl' => (hl l hl').dom, ⟨f, hf, hn⟩, ?_, ?_, ?_, .inr (.inr ⟨_, rfl⟩)⟩
  · unfold tame tameL tameL tameL tameL tameL
    rw [p1, w1]
    unfold tame
    rw [l1]
    rfl
  · have e1 : costD (.str s) = (reprText s).length := by unfold costD; rfl
    have e2 : costD (.list lsd) = 2 + costL lsd := by rw [costD]
    unfold costD costL costL costL costL costL
    rw [e1, e2]
    omega
  · have d1 := depth_list (n := 4) fun x hx => (hl x hx).dep
    have := depth_tup (n := 5) (all4 (P := fun x => PyData.depth x ≤ 5) (depth_str (i := s)) (show PyData.depth p ≤ 5 by omega) (show PyData.depth wd ≤ 5 by omega) d1)
    omega
theorem flt_no {d : PyData} (h : formB d = false) : FltR d (.part "circuit") := .inl ⟨h, rfl⟩
theorem flt_of {p : Int} {ws : List Int} {ls : List PyData} (h : formW p ws ls) : FltR (.tuple [.str "circuit", .int p, .list (dInts ws), .list ls]) (chk p ws ls) := .inr ⟨p, ws, ls, rfl, h, rfl⟩
/-- what the law's circuit is -/
structure PureC (p : Int) (ws : List Int) (ls : List (List PyData)) : Prop where
  good : goodM p = true
  pb : 5 ≤ p ∧ p ≤ 53
  len : ws.length = ls.length + 1
  l1 : 1 ≤ ls.length
  l3 : ls.length ≤ 3
  wb : ∀ x ∈ ws, 0 ≤ x ∧ x ≤ 3
  gs : ∀ (j : Nat) (gd : List PyData), ls[j]? = some gd → gd.length = 2 ^ (ws.getD j 0).toNat ∧ ∀ g ∈ gd, gateB (2 ^ (ws.getD (j + 1) 0).toNat) p g = true
theorem GoodC.pure {K : PySem.W.Frag} {G : Hp} {c w L : Addr} {gas : List Addr} {p : Int} {ws : List Int} {ls : List (List PyData)} (h : GoodC K G c w L gas p ws ls) : PureC p ws ls := ⟨h.good, h.pb, h.len, h.l1, h.l3, h.wb, h.gs⟩
section
variable {p : Int} {ws : List Int} {ls : List (List PyData)}
theorem PureC.sm (h : PureC p ws ls) {j : Nat} {gd : List PyData} (e : ls[j]? = some gd) : (∀ g ∈ gd, Sm g) ∧ gd.length ≤ 8 ∧ 1 ≤ gd.length := by
  obtain ⟨h1, h2⟩ := h.gs j gd e
  have hj := (List.getElem?_eq_some_iff.mp e).1
  have hlen := h.len
  have b1 := h.wb _ (in_mem (ws := ws) (k := j) (by omega))
  have b2 := h.wb _ (in_mem (ws := ws) (k := j + 1) (by omega))
  have p1 := pow8n b1.1 b1.2
  have p2 := pow8 b2.1 b2.2
  have pb := h.pb
  exact ⟨fun g hg => sm_gate (by omega) (by omega) (h2 g hg), by omega, by omega⟩
theorem PureC.lay (h : PureC p ws ls) {l : PyData} (e : l ∈ ls.map PyData.list) : SmL 2100 l := by
  obtain ⟨gd, h1, rfl⟩ := List.mem_map.mp e
  obtain ⟨j, hj⟩ := List.getElem?_of_mem h1
  obtain ⟨a, b, _⟩ := h.sm hj
  exact sml_list a (by omega)
theorem PureC.widOk (h : PureC p ws ls) : OkD 4000 (.list (dInts ws)) ∧ PyData.depth (.list (dInts ws)) ≤ 1 := by
  have := h.len
  have := h.l3
  exact ⟨okd_ints (fun x hx => by have := h.wb x hx; omega) (by omega), by rw [depth_ints]; omega⟩
theorem pOk {p : Int} (h : -1000000000000 < p ∧ p < 1000000000000) : OkD 42 (.int p) ∧ PyData.depth (.int p) = 0 := ⟨okd_int h, by unfold PyData.depth; rfl⟩
theorem sum_le : ∀ {l : List Int}, (∀ x ∈ l, 0 ≤ x ∧ x ≤ 3) → (l.map fun w => (2 : Int) ^ w.toNat).sum ≤ 8 * (l.length : Int)
  | [], _ => by simp
  | x :: r, h => by
    have a := sum_le (l := r) fun y hy => h y (List.mem_cons_of_mem _ hy)
    have b := pow8 (h x List.mem_cons_self).1 (h x List.mem_cons_self).2
    rw [List.map_cons, List.sum_cons, List.length_cons]
    push_cast
    omega
theorem PureC.lim (h : PureC p ws ls) : limB ws = none := by
  have h1 := h.len
  have h2 := h.l3
  unfold limB
  rw [if_neg (by omega), if_neg, if_neg]
  · have := sum_le (l := ws.dropLast) fun x hx => h.wb x (List.dropLast_subset _ hx)
    rw [List.length_dropLast] at this
    omega
  · intro z
    obtain ⟨w, z1, z2⟩ := List.any_eq_true.mp z
    have := h.wb w z1
    have := of_decide_eq_true z2
    omega
theorem PureC.none (h : PureC p ws ls) {j : Nat} {gd : List PyData} (e : ls[j]? = some gd) : layAt p ws j (.list gd) = none := by
  obtain ⟨h1, h2⟩ := h.gs j gd e
  unfold layAt
  rw [layB_list, if_pos (by rw [h1]; norm_cast), if_pos (List.all_eq_true.mpr h2)]
theorem PureC.formW (h : PureC p ws ls) : formW p ws (ls.map PyData.list) := by
  refine ⟨?_, by rw [List.length_map]; exact h.len, fun w hw => (h.wb w hw).1⟩
  intro z
  have := congrArg List.length z
  rw [List.length_map] at this
  have l1 := h.l1
  rw [this] at l1
  exact absurd l1 (by decide)
theorem PureC.chk (h : PureC p ws ls) : chk p ws (ls.map PyData.list) = .ok := by
  unfold Lk.chk
  rw [if_pos h.good, h.lim]
  rw [lays_none fun j l e => ?_]
  rw [Nat.zero_add]
  rw [List.getElem?_map] at e
  cases e2 : ls[j]? with
  | none => rw [e2] at e; cases e
  | some gd => rw [e2] at e; cases e; exact h.none e2
/-- the layer at k is another thing -/
def repl (ls : List (List PyData)) (k : Nat) (x : PyData) : List PyData := ((ls.take k).map PyData.list ++ [x]) ++ (ls.drop (k + 1)).map PyData.list
theorem PureC.repl (h : PureC p ws ls) {k : Nat} {x : PyData} {s : Str} {due : Str} (hk : k < ls.length) (hx : SmL 2500 x) (hs : layAt p ws k x = some s) (hd : s = due) : Near (.tuple [.str "circuit", .int p, .list (dInts ws), .list (repl ls k x)]) due := by
  have len : (Lk.repl ls k x).length = ls.length := by
    unfold Lk.repl
    simp
    omega
  have l3 := h.l3
  have pb := h.pb
  refine near_t (c := 2500) rep_small.2.2.2.1 (pOk (by omega)) h.widOk (fun l hl => ?_) (by rw [len]; omega) (flt_of ⟨?_, by rw [len]; exact h.len, fun w hw => (h.wb w hw).1⟩) (f := Lk.chk p ws (Lk.repl ls k x)) ?_
  · unfold Lk.repl at hl
    rcases List.mem_append.mp hl with z | z
    · rcases List.mem_append.mp z with z | z
      · have := h.lay (l := l) (by
          obtain ⟨gd, z1, rfl⟩ := List.mem_map.mp z
          exact List.mem_map.mpr ⟨gd, List.mem_of_mem_take z1, rfl⟩)
        exact ⟨okd_up this.ok (by omega), this.dep, this.dom⟩
      · rw [List.mem_singleton.mp z]; exact hx
    · have := h.lay (l := l) (by
        obtain ⟨gd, z1, rfl⟩ := List.mem_map.mp z
        exact List.mem_map.mpr ⟨gd, List.mem_of_mem_drop z1, rfl⟩)
      exact ⟨okd_up this.ok (by omega), this.dep, this.dom⟩
  · intro z
    rw [z] at len
    simp at len
    omega
  · unfold Lk.chk
    rw [if_pos h.good, h.lim]
    have tl : ((ls.take k).map PyData.list).length = k := by simp; omega
    rw [lays_some (k := k) (l := x) (s := s) (fun j l hj e => ?_) ?_ (by rw [Nat.zero_add]; exact hs)]
    · exact hd
    · unfold Lk.repl
      rw [List.getElem?_append_left (by rw [List.length_append, tl]; show k < k + 1; omega), List.getElem?_append_right (by omega), tl, Nat.sub_self]
      rfl
    · rw [Nat.zero_add]
      unfold Lk.repl at e
      rw [List.getElem?_append_left (by rw [List.length_append, tl]; omega), List.getElem?_append_left (by omega), List.getElem?_map, List.getElem?_take, if_pos hj] at e
      cases e2 : ls[j]? with
      | none => rw [e2] at e; cases e
      | some gd => rw [e2] at e; cases e; exact h.none e2
end
section
variable {p : Int} {ws : List Int} {ls : List (List PyData)}
theorem PureC.lays (h : PureC p ws ls) : ∀ l ∈ ls.map PyData.list, SmL 2100 l := fun l hl => h.lay hl
theorem PureC.layC (h : PureC p ws ls) : (2100 + 2) * (ls.map PyData.list).length ≤ 900000 := by
  have := h.l3
  rw [List.length_map]
  omega
theorem PureC.lsOk (h : PureC p ws ls) : OkD 7000 (.list (ls.map PyData.list)) ∧ PyData.depth (.list (ls.map PyData.list)) ≤ 5 := by
  have := h.l3
  exact ⟨okd_list (c := 2100) (fun x hx => (h.lay hx).ok) (by rw [List.length_map]; omega), depth_list fun x hx => (h.lay hx).dep⟩
theorem near_none : Near .none "circuit" := ⟨⟨fun xs e _ => (by cases e), fun a b ls e => (by cases e)⟩, ⟨_, flt_no rfl, rfl⟩, by decide, by decide, by decide, .inl rfl⟩
theorem PureC.n1 (h : PureC p ws ls) : Near (.list [.str "circuit", .int p, .list (dInts ws), .list (ls.map PyData.list)]) "circuit" := by
  obtain ⟨a, b⟩ := h.widOk
  obtain ⟨c, d⟩ := h.lsOk
  have pb := h.pb
  have z := okd_list (n := 990000) (all4 (okd_up (okd_str rep_small.2.2.2.1) (show 42 ≤ 7000 by omega)) (okd_up (okd_int (i := p) (by omega)) (show 42 ≤ 7000 by omega)) (okd_up a (show 4000 ≤ 7000 by omega)) c) (by show (7000 + 2) * 4 + 3 ≤ 990000; omega)
  refine ⟨⟨fun xs e _ => (by cases e), fun a b ls e => (by cases e)⟩, ⟨_, flt_no rfl, rfl⟩, z.1, z.2, ?_, .inr (.inl ⟨_, rfl⟩)⟩
  have := depth_list (n := 5) (all4 (P := fun x => PyData.depth x ≤ 5) (depth_str (i := "circuit")) (depth_int (i := p)) (Nat.le_trans b (by omega)) d)
  omega
theorem PureC.n2 (h : PureC p ws ls) : Near (.tuple [.str "circuit", .int p, .list (dInts ws)]) "circuit" := by
  obtain ⟨a, b⟩ := h.widOk
  have pb := h.pb
  have z := okd_tup (n := 990000) (all3 (okd_up (okd_str rep_small.2.2.2.1) (show 42 ≤ 7000 by omega)) (okd_up (okd_int (i := p) (by omega)) (show 42 ≤ 7000 by omega)) (okd_up a (show 4000 ≤ 7000 by omega))) (by show (7000 + 2) * 3 + 3 ≤ 990000; omega)
  refine ⟨⟨fun xs e hl => (by cases e; simp at hl), fun a b ls e => (by cases e)⟩, ⟨_, flt_no rfl, rfl⟩, z.1, z.2, ?_, .inr (.inr ⟨_, rfl⟩)⟩
  have := depth_tup (n := 5) (all3 (P := fun x => PyData.depth x ≤ 5) (depth_str (i := "circuit")) (depth_int (i := p)) (Nat.le_trans b (by omega)))
  omega
theorem PureC.n3 (h : PureC p ws ls) : Near (.tuple [.str "wires", .int p, .list (dInts ws), .list (ls.map PyData.list)]) "circuit" := by
  have pb := h.pb
  exact near_t rep_small.2.2.2.2 (pOk (by omega)) h.widOk h.lays h.layC (flt_no (form_nos (by decide))) rfl
theorem PureC.n4 (h : PureC p ws ls) : Near (.tuple [.str "circuit", .bool true, .list (dInts ws), .list (ls.map PyData.list)]) "circuit" :=
  near_t rep_small.2.2.2.1 ⟨⟨by decide, by decide⟩, by decide⟩ h.widOk h.lays h.layC (flt_no (form_no1 rfl)) rfl
theorem PureC.n5 (h : PureC p ws ls) : Near (.tuple [.str "circuit", .int p, .tuple (dInts ws), .list (ls.map PyData.list)]) "circuit" := by
  have pb := h.pb
  have l3 := h.l3
  have len := h.len
  exact near_t rep_small.2.2.2.1 (pOk (by omega)) ⟨okd_tints (fun x hx => by have := h.wb x hx; omega) (by omega), depth_tup (n := 0) depth_dints⟩ h.lays h.layC (flt_no (form_no2 rfl)) rfl
theorem PureC.n6 (h : PureC p ws ls) : Near (.tuple [.str "circuit", .int p, .list (dInts ws), .list []]) "circuit" := by
  have pb := h.pb
  refine near_t (c := 0) rep_small.2.2.2.1 (pOk (by omega)) h.widOk (fun l hl => by simp at hl) (by simp) (flt_no ?_) rfl
  rw [form4]
  simp
theorem wid_ok {ws : List Int} (hb : ∀ x ∈ ws, -1000000000000 < x ∧ x < 1000000000000) (hl : ws.length ≤ 70) : OkD 4000 (.list (dInts ws)) ∧ PyData.depth (.list (dInts ws)) ≤ 1 := ⟨okd_ints hb (by omega), by rw [depth_ints]; omega⟩
theorem app_wb {ws : List Int} {y : Int} (h : ∀ x ∈ ws, 0 ≤ x ∧ x ≤ 3) (hy : -10 < y ∧ y < 10) : ∀ x ∈ ws ++ [y], -1000000000000 < x ∧ x < 1000000000000 := fun x hx => by
  rcases List.mem_append.mp hx with z | z
  · have := h x z; omega
  · rw [List.mem_singleton.mp z]; omega
theorem PureC.n7 (h : PureC p ws ls) : Near (.tuple [.str "circuit", .int p, .list (dInts (ws ++ [1])), .list (ls.map PyData.list)]) "circuit" := by
  have pb := h.pb
  have l3 := h.l3
  have len := h.len
  refine near_t rep_small.2.2.2.1 (pOk (by omega)) (wid_ok (app_wb h.wb (by omega)) (by simp; omega)) h.lays h.layC (flt_no ?_) rfl
  rw [form4, decide_eq_false (show ¬ (dInts (ws ++ [1])).length = (ls.map PyData.list).length + 1 from fun z => by
    unfold dInts at z
    simp at z
    omega)]
  simp
theorem drop_wb {ws : List Int} (h : ∀ x ∈ ws, 0 ≤ x ∧ x ≤ 3) : ∀ x ∈ ws.dropLast, 0 ≤ x ∧ x ≤ 3 := fun x hx => h x (List.dropLast_subset _ hx)
theorem PureC.n8 (h : PureC p ws ls) : Near (.tuple [.str "circuit", .int p, .list (dInts (ws.dropLast ++ [0 - 1])), .list (ls.map PyData.list)]) "circuit" := by
  have pb := h.pb
  have l3 := h.l3
  have len := h.len
  refine near_t rep_small.2.2.2.1 (pOk (by omega)) (wid_ok (app_wb (drop_wb h.wb) (by omega)) (by simp; omega)) h.lays h.layC (flt_no ?_) rfl
  have e : (dInts (ws.dropLast ++ [0 - 1])).all wB = false := by
    unfold dInts
    rw [List.map_append, List.all_append]
    show (_ && (wB (.int (0 - 1)) && true)) = false
    rw [show wB (.int (0 - 1)) = false from by decide]
    simp
  rw [form4, e]
  simp
theorem PureC.n9 (h : PureC p ws ls) {m : Int} (hm : goodM m = false) (hb : -1000000000000 < m ∧ m < 1000000000000) : Near (.tuple [.str "circuit", .int m, .list (dInts ws), .list (ls.map PyData.list)]) "field" := by
  refine near_t rep_small.2.2.2.1 (pOk hb) h.widOk h.lays h.layC (flt_of h.formW) ?_
  unfold Lk.chk
  rw [if_neg (by rw [hm]; decide)]
  rfl
def lin0 : PyData := .tuple [.str "lin", .int 0, .int 0, .int 0, .int 0]
theorem sm_lin0 : Sm lin0 := sm5 rep10.2.1 (by omega) (by omega) (by omega) (by omega)
theorem PureC.big (h : PureC p ws ls) {s due : Str} {n m k : Nat} {y : Int} (hy : 0 ≤ y ∧ y < 10) (hn : n = m + 1) (hm : 1 ≤ m) (hn2 : n ≤ 70) (hc : (202 * k + 3 + 2) * m ≤ 900000) (hl : limB (List.replicate n y) = some s) (hd : s = due) : Near (.tuple [.str "circuit", .int p, .list (dInts (List.replicate n y)), .list (List.replicate m (.list (List.replicate k lin0)))]) due := by
  have pb := h.pb
  refine near_t (c := 202 * k + 3) rep_small.2.2.2.1 (pOk (by omega)) (wid_ok (fun x hx => by rw [List.eq_of_mem_replicate hx]; omega) (by rw [List.length_replicate]; omega)) (fun l hl => ?_) (by rw [List.length_replicate]; exact hc) (flt_of ⟨?_, by rw [List.length_replicate, List.length_replicate]; exact hn, fun w hw => by rw [List.eq_of_mem_replicate hw]; omega⟩) (f := Lk.chk p (List.replicate n y) _) ?_
  · rw [List.eq_of_mem_replicate hl]
    exact sml_list (fun g hg => by rw [List.eq_of_mem_replicate hg]; exact sm_lin0) (by rw [List.length_replicate]; omega)
  · intro z
    have := congrArg List.length z
    rw [List.length_replicate] at this
    simp at this
    omega
  · unfold Lk.chk
    rw [if_pos h.good, hl]
    exact hd
theorem lim66 : limB (List.replicate 66 0) = some "layers" := by decide +kernel
theorem lim18 : limB (List.replicate 18 8) = some "gates" := by decide +kernel
theorem PureC.n11 (h : PureC p ws ls) : Near (.tuple [.str "circuit", .int p, .list (dInts (ws.dropLast ++ [9])), .list (ls.map PyData.list)]) "columns" := by
  have pb := h.pb
  have l1 := h.l1
  have l3 := h.l3
  have len := h.len
  have hf := h.formW
  refine near_t rep_small.2.2.2.1 (pOk (by omega)) (wid_ok (app_wb (drop_wb h.wb) (by omega)) (by simp; omega)) h.lays h.layC (flt_of ⟨hf.1, by rw [List.length_append, List.length_dropLast, List.length_map]; show ws.length - 1 + 1 = _; omega, fun w hw => ?_⟩) (f := Lk.chk p (ws.dropLast ++ [9]) _) ?_
  · rcases List.mem_append.mp hw with z | z
    · exact (drop_wb h.wb w z).1
    · rw [List.mem_singleton.mp z]; omega
  · have e : limB (ws.dropLast ++ [9]) = some ("columns" : Str) := by
      unfold limB
      rw [if_neg (by rw [List.length_append, List.length_dropLast]; show ¬ 64 < ((ws.length - 1 + 1 : Nat) : Int) - 1; omega), if_pos (List.any_eq_true.mpr ⟨9, by simp, by decide⟩)]
    unfold Lk.chk
    rw [if_pos h.good, e]
    rfl
theorem PureC.n13 (h : PureC p ws ls) {k : Nat} {gd : List PyData} (e : ls[k]? = some gd) : Near (.tuple [.str "circuit", .int p, .list (dInts ws), .list (Lk.repl ls k (.list (gd ++ gd.take 1)))]) "layer" := by
  have hk := (List.getElem?_eq_some_iff.mp e).1
  obtain ⟨a, b, c⟩ := h.sm e
  obtain ⟨g1, _⟩ := h.gs k gd e
  refine h.repl hk (sml_list (fun g hg => ?_) (by rw [List.length_append, List.length_take]; omega)) (s := "layer") ?_ rfl
  · rcases List.mem_append.mp hg with z | z
    · exact a g z
    · exact a g (List.mem_of_mem_take z)
  · unfold layAt
    rw [layB_list, if_neg]
    intro z
    rw [List.length_append, List.length_take] at z
    have : ((2 ^ (ws.getD k 0).toNat : Nat) : Int) = (2 : Int) ^ (ws.getD k 0).toNat := by norm_cast
    omega
theorem PureC.n14 (h : PureC p ws ls) {k : Nat} {gd : List PyData} (e : ls[k]? = some gd) : Near (.tuple [.str "circuit", .int p, .list (dInts ws), .list (Lk.repl ls k (.tuple gd))]) "layer" := by
  have hk := (List.getElem?_eq_some_iff.mp e).1
  obtain ⟨a, b, c⟩ := h.sm e
  exact h.repl hk (sml_tup a (by omega)) (s := "layer") rfl rfl
theorem PureC.n15 (h : PureC p ws ls) {k i : Nat} {gd : List PyData} {bad : PyData} (e : ls[k]? = some gd) (hi : i < gd.length) (hs : Sm bad) (hb : gateB (2 ^ (ws.getD (k + 1) 0).toNat) p bad = false) : Near (.tuple [.str "circuit", .int p, .list (dInts ws), .list (Lk.repl ls k (.list ((gd.take i ++ [bad]) ++ gd.drop (i + 1))))]) "gate" := by
  have hk := (List.getElem?_eq_some_iff.mp e).1
  obtain ⟨a, b, c⟩ := h.sm e
  obtain ⟨g1, _⟩ := h.gs k gd e
  have hl : ((gd.take i ++ [bad]) ++ gd.drop (i + 1)).length = gd.length := by simp; omega
  refine h.repl hk (sml_list (fun g hg => ?_) (by rw [hl]; omega)) (s := "gate") ?_ rfl
  · rcases List.mem_append.mp hg with z | z
    · rcases List.mem_append.mp z with z | z
      · exact a g (List.mem_of_mem_take z)
      · rw [List.mem_singleton.mp z]; exact hs
    · exact a g (List.mem_of_mem_drop z)
  · unfold layAt
    rw [layB_list, if_pos (by rw [hl, g1]; norm_cast), if_neg]
    intro z
    have := List.all_eq_true.mp z bad (by simp)
    rw [hb] at this
    cases this
/-- the list of the faults -/
def OkF (e : PyData) : Prop := ∃ d s, e = .tuple [d, .str s] ∧ Near d s
theorem OkF.mk {d : PyData} {s : Str} (h : Near d s) : OkF (.tuple [d, .str s]) := ⟨d, s, rfl, h⟩
/-- the bad gates -/
theorem bad_sm {columns p : Int} (hc : 1 ≤ columns ∧ columns ≤ 8) (hp : 5 ≤ p ∧ p ≤ 53) : ∀ g ∈ [PyData.tuple [.str "lin", .int 1, .int 0, .int 1], .tuple [.str "lin", .int p, .int 0, .int 0, .int 0], .tuple [.str "lin", .int 0, .int columns, .int 0, .int 0], .tuple [.str "lin", .int 0, .int 0, .int (0 - 1), .int 0], .tuple [.str "lin", .int 0, .int 0, .int 0, .int columns]] ++ [PyData.tuple [.str "mul", .int 1, .int 0], .tuple [.str "mul", .int (0 - 1), .int 0, .int 0], .tuple [.str "mul", .int 1, .int columns, .int 0], .tuple [.str "mul", .int 1, .int 0, .bool true], .tuple [.str "add", .int 1, .int 0, .int 0], .none, .tuple [], .list [.str "mul", .int 1, .int 0, .int 0]], Sm g ∧ gateB columns p g = false := by
  intro g hg
  have g5 : ∀ {a b c d : Int}, -100 < a ∧ a < 100 → -100 < b ∧ b < 100 → -100 < c ∧ c < 100 → -100 < d ∧ d < 100 → Sm (.tuple [.str "lin", .int a, .int b, .int c, .int d]) := fun h1 h2 h3 h4 => sm5 rep10.2.1 (by omega) (by omega) (by omega) (by omega)
  have g4 : ∀ {a b c : Int} {s : Str}, (reprText s).length ≤ 10 → -100 < a ∧ a < 100 → -100 < b ∧ b < 100 → -100 < c ∧ c < 100 → Sm (.tuple [.str s, .int a, .int b, .int c]) := fun hs h1 h2 h3 => sm4 hs (by omega) (by omega) (by omega)
  simp only [List.cons_append, List.nil_append, List.mem_cons, List.not_mem_nil, or_false] at hg
  rcases hg with rfl | rfl | rfl | rfl | rfl | rfl | rfl | rfl | rfl | rfl | rfl | rfl | rfl
  · exact ⟨g4 rep10.2.1 (by omega) (by omega) (by omega), by rw [gate4]; rfl⟩
  · exact ⟨g5 (by omega) (by omega) (by omega) (by omega), by rw [gate5]; simp [numB]⟩
  · exact ⟨g5 (by omega) (by omega) (by omega) (by omega), by rw [gate5]; simp [numB]⟩
  · exact ⟨g5 (by omega) (by omega) (by omega) (by omega), by rw [gate5]; simp [numB]⟩
  · exact ⟨g5 (by omega) (by omega) (by omega) (by omega), by rw [gate5]; simp [numB]⟩
  · exact ⟨⟨okd_tup (c := 42) (all3 (okd_str rep_small.1) (okd_int (by omega)) (okd_int (by omega))) (by show (42 + 2) * 3 + 3 ≤ 200; decide), by decide, gdom_str⟩, rfl⟩
  · exact ⟨g4 rep10.1 (by omega) (by omega) (by omega), by rw [gate4]; simp [numB]⟩
  · exact ⟨g4 rep10.1 (by omega) (by omega) (by omega), by rw [gate4]; simp [numB]⟩
  · exact ⟨⟨okd_tup (c := 42) (all4 (okd_str rep_small.1) (okd_int (by omega)) (okd_int (by omega)) ⟨by decide, by decide⟩) (by show (42 + 2) * 4 + 3 ≤ 200; decide), by decide, gdom_str⟩, by rw [gate4]; simp [numB]⟩
  · exact ⟨g4 rep10.2.2 (by omega) (by omega) (by omega), by rw [gate4]; rfl⟩
  · exact ⟨⟨⟨by decide, by decide⟩, by decide, fun xs e => by cases e⟩, rfl⟩
  · exact ⟨⟨⟨by decide, by decide⟩, by decide, fun xs e hl => by cases e; simp at hl⟩, rfl⟩
  · exact ⟨⟨okd_list (c := 42) (all4 (okd_str rep_small.1) (okd_int (by omega)) (okd_int (by omega)) (okd_int (by omega))) (by show (42 + 2) * 4 + 3 ≤ 200; decide), by decide, fun xs e => by cases e⟩, rfl⟩
theorem cut_from {α β : Type} {f : α → V} (xs : List α) (k : Nat) : cutV (xs.map f) (some ((k : Int) + 1)) none = (xs.drop (k + 1)).map f := by
  unfold cutV
  rw [show ((k : Int) + 1) = ((k + 1 : Nat) : Int) by push_cast; rfl, HT.sIx_nat, HT.sIx_none, List.length_map, List.map_drop]
  by_cases h : k + 1 ≤ xs.length
  · rw [Nat.min_eq_left h, List.take_of_length_le (by simp)]
  · rw [Nat.min_eq_right (by omega), List.drop_of_length_le (by simp), List.drop_of_length_le (by simp; omega)]
    simp
end
theorem okF_app {a b : List PyData} (h : ∀ e ∈ a, OkF e) (h2 : ∀ e ∈ b, OkF e) : ∀ e ∈ a ++ b, OkF e := fun e he => (List.mem_append.mp he).elim (h e) (h2 e)
theorem okF_nil : ∀ e ∈ ([] : List PyData), OkF e := fun e he => by simp at he
theorem okF_cons {x : PyData} {b : List PyData} (h : OkF x) (h2 : ∀ e ∈ b, OkF e) : ∀ e ∈ x :: b, OkF e := fun e he => (List.mem_cons.mp he).elim (fun z => by rw [z]; exact h) (h2 e)
theorem dp2 {K : PySem.W.Frag} {H : Hp} {ys : List V} {a b : PyData} (h : DpAll K H ys [a, b]) : ∃ w x, ys = [w, x] ∧ Dp K H w a ∧ Dp K H x b := by
  cases h with
  | cons h1 h => cases h with
    | cons h2 h => cases h; exact ⟨_, _, rfl, h1, h2⟩
theorem dpAll_refs {K : PySem.W.Frag} {G : Hp} : ∀ {gas : List Addr} {ls : List (List PyData)}, gas.length = ls.length → (∀ (j : Nat) (ga : Addr) (gd : List PyData), gas[j]? = some ga → ls[j]? = some gd → ∃ gv, G ga = some (.lst gv) ∧ DpAll K G gv gd) → DpAll K G (gas.map V.ref) (ls.map PyData.list)
  | [], [], _, _ => .nil
  | [], y :: r, h, _ => by simp at h
  | x :: r, [], h, _ => by simp at h
  | x :: r, y :: s, h, f => by
    obtain ⟨gv, a, b⟩ := f 0 x y rfl rfl
    rw [List.map_cons, List.map_cons]
    exact .cons (.lst (sql a) b) (dpAll_refs (by simpa using h) fun j ga gd e1 e2 => f (j + 1) ga gd (by simpa using e1) (by simpa using e2))
theorem GoodC.dls {K : PySem.W.Frag} {G : Hp} {c w L : Addr} {gas : List Addr} {p : Int} {ws : List Int} {ls : List (List PyData)} (h : GoodC K G c w L gas p ws ls) : DpAll K G (gas.map V.ref) (ls.map PyData.list) := dpAll_refs h.gl h.gat
theorem TabsG.rw {ts : List Addr} {st : Addr} {H H' : Hp} (t : TabsG ts H) (r : Rw st H H') (h : st ∉ ts) : TabsG ts H' := fun P hP => by
  obtain ⟨ps, h1, h2⟩ := t P hP
  exact ⟨ps, r _ _ h1 (fun z => h (z ▸ hP)), h2⟩
theorem StR.nt {H H' : Hp} {st : Addr} (s : StR H st) (n : Nt H H') : StR H' st := by
  obtain ⟨m, l, h1, h2⟩ := s
  exact ⟨m, l, n.lst h1, h2⟩
theorem GoodC.nt {K : PySem.W.Frag} {G G' : Hp} {c w L : Addr} {gas : List Addr} {p : Int} {ws : List Int} {ls : List (List PyData)} (h : GoodC K G c w L gas p ws ls) (n : Nt G G') : GoodC K G' c w L gas p ws ls :=
  { h with tup := n.tup h.tup, wid := n.lst h.wid, lay := n.lst h.lay, gat := fun j ga gd e1 e2 => (h.gat j ga gd e1 e2).imp fun gv z => ⟨n.lst z.1, n.dpAll z.2⟩ }
def cD (p : Int) (ws : List Int) (ls : List (List PyData)) : PyData := .tuple [.str "circuit", .int p, .list (dInts ws), .list (ls.map PyData.list)]
theorem GoodC.dp {K : PySem.W.Frag} {G : Hp} {c w L : Addr} {gas : List Addr} {p : Int} {ws : List Int} {ls : List (List PyData)} (h : GoodC K G c w L gas p ws ls) : Dp K G (.ref c) (cD p ws ls) :=
  .tup (sqt h.tup) (.cons (.str _) (.cons (.int _) (.cons (.lst (sql h.wid) (dp_ints ws)) (.cons (.lst (sql h.lay) h.dls) .nil))))
theorem PureC.n0 {p : Int} {ws : List Int} {ls : List (List PyData)} (h : PureC p ws ls) : Near (cD p ws ls) "none" ∧ FltR (cD p ws ls) .ok := by
  have pb := h.pb
  have f := flt_of (p := p) h.formW
  rw [h.chk] at f
  exact ⟨near_t rep_small.2.2.2.1 (pOk (by omega)) h.widOk h.lays h.layC f rfl, f⟩
theorem layL : ∀ {xs : List PyData}, (∀ x ∈ xs, PyData.canLay0 x = true) → PyData.canLayAll0 xs = true
  | [], _ => by unfold PyData.canLayAll0; rfl
  | x :: r, h => by
    unfold PyData.canLayAll0
    rw [h x List.mem_cons_self, layL fun y hy => h y (List.mem_cons_of_mem _ hy)]
    rfl
theorem lay_int {i : Int} : PyData.canLay0 (.int i) = true := by unfold PyData.canLay0; rfl
theorem lay_strs : PyData.canLay0 (.str "mul") = true ∧ PyData.canLay0 (.str "lin") = true ∧ PyData.canLay0 (.str "circuit") = true := by decide +kernel
theorem lay_gate {columns p : Int} {g : PyData} (h : gateB columns p g = true) : PyData.canLay0 g = true := by
  rcases gate_shape h with ⟨c, x, y, rfl, _⟩ | ⟨a, x, b, y, rfl, _⟩
  · unfold PyData.canLay0
    exact layL (all4 lay_strs.1 lay_int lay_int lay_int)
  · unfold PyData.canLay0
    exact layL (all5 lay_strs.2.1 lay_int lay_int lay_int lay_int)
theorem PureC.shp {p : Int} {ws : List Int} {ls : List (List PyData)} (h : PureC p ws ls) : SeqAt.shaped (cD p ws ls) = true := by
  have d := h.n0.1.dep
  have l : PyData.canLay0 (cD p ws ls) = true := by
    unfold cD PyData.canLay0
    refine layL (all4 lay_strs.2.2 lay_int ?_ ?_)
    · unfold PyData.canLay0
      exact layL fun x hx => by
        obtain ⟨i, _, rfl⟩ := List.mem_map.mp hx
        exact lay_int
    · unfold PyData.canLay0
      refine layL fun x hx => ?_
      obtain ⟨gd, h1, rfl⟩ := List.mem_map.mp hx
      obtain ⟨j, hj⟩ := List.getElem?_of_mem h1
      unfold PyData.canLay0
      exact layL fun g hg => lay_gate ((h.gs j gd hj).2 g hg)
  unfold SeqAt.shaped
  rw [l, decide_eq_true (by omega)]
  rfl
end Lk

namespace Lk
open PySem PySem.Spec PyProof.Rows L2 GxR
/-! ### tables of columns -/
def LD (cs : List (List Int)) : PyData := .list (cs.map fun c => .list (dInts c))
/-- a list of lists of ints in the heap -/
def LL (K : PySem.W.Frag) (H : Hp) (A : Addr) (cs : List (List Int)) : Prop := ∃ as : List Addr, SqL K H A (as.map V.ref) ∧ as.length = cs.length ∧ ∀ (j : Nat) (a : Addr) (c : List Int), as[j]? = some a → cs[j]? = some c → SqL K H a (c.map V.int)
theorem ll_all {K : PySem.W.Frag} {H : Hp} : ∀ {xs : List V} {cs : List (List Int)}, DpAll K H xs (cs.map fun c => .list (dInts c)) → ∃ as : List Addr, xs = as.map V.ref ∧ as.length = cs.length ∧ ∀ (j : Nat) (a : Addr) (c : List Int), as[j]? = some a → cs[j]? = some c → SqL K H a (c.map V.int)
  | _, [], h => by
    cases h
    exact ⟨[], rfl, rfl, fun j a c e => by simp at e⟩
  | _, c :: r, h => by
    rw [List.map_cons] at h
    cases h with
    | cons h1 h2 =>
      obtain ⟨as, rfl, e1, e2⟩ := ll_all h2
      obtain ⟨a, ys, rfl, hS, hA⟩ := dp_list h1
      obtain rfl := dpAll_ints hA
      refine ⟨a :: as, rfl, by rw [List.length_cons, List.length_cons, e1], fun j b d f1 f2 => ?_⟩
      cases j with
      | zero => cases f1; cases f2; exact hS
      | succ j => exact e2 j b d (by simpa using f1) (by simpa using f2)
theorem ll_of {K : PySem.W.Frag} {H : Hp} {v : V} {cs : List (List Int)} (h : Dp K H v (LD cs)) : ∃ A, v = .ref A ∧ LL K H A cs := by
  obtain ⟨A, xs, rfl, hS, hA⟩ := dp_list h
  obtain ⟨as, rfl, e1, e2⟩ := ll_all hA
  exact ⟨A, rfl, as, hS, e1, e2⟩
theorem LL.nt {K : PySem.W.Frag} {H H' : Hp} {A : Addr} {cs : List (List Int)} (h : LL K H A cs) (n : Nt H H') : LL K H' A cs := by
  obtain ⟨as, h1, h2, h3⟩ := h
  exact ⟨as, n.sql h1, h2, fun j a c e1 e2 => n.sql (h3 j a c e1 e2)⟩
section
variable {K : PySem.W.Frag} {σ : L2.St} {H : Hp} {Q : VK} {te tl : TE} {ta : TA} {vs : List Nat}
/-- a comprehension of new objects over a range -/
theorem c_newR {k n : Nat} (S : Nat → HO → Prop) (hv : vs = [k]) (ht : ∀ R : List V → Hp → Prop, R [.int (n : Int)] H → ta σ H R) (hz : n ≤ 1000000)
    (he : ∀ (j : Nat), j < n → ∀ H' (R : VK), Same H H' → (∀ b H'' o, Same H' H'' → H' b = none → H'' b = some o → S j o → R (.ref b) H'') → te ((wipe σ [k]).set k (some (.int (j : Int)))) H' R)
    (q : ∀ D H' (as : List Addr), H D = none → Same H H' → as.length = n → H' D = some (.lst (as.map V.ref)) → (∀ (j : Nat) (b : Addr), as[j]? = some b → ∃ o, H' b = some o ∧ S j o) → Q (.ref D) H') : tLc (iRng1 ta) (gName k) tYes te vs σ H Q := by
  subst hv
  refine ht (fun vs H1 => ∃ j : Int, vs = [.int j] ∧ -(2 ^ 62) ≤ j ∧ j < 2 ^ 62 ∧ _) ⟨(n : Int), rfl, by omega, by omega, ?_⟩
  rw [Int.toNat_natCast]
  intro D hD
  refine lc_range (lo := 0) (n := n) (Qd := Q (.ref D)) (fun i H' => Same H H' ∧ i ≤ n ∧ ∃ as : List Addr, as.length = i ∧ H' D = some (.lst (as.map V.ref)) ∧ ∀ (j : Nat) (b : Addr), as[j]? = some b → ∃ o, H' b = some o ∧ S j o ∧ b ≠ D)
    ⟨same_upd hD, Nat.zero_le _, [], rfl, upd_same, fun j b e => by simp at e⟩ ?_ ?_
  · rintro i H' hi ⟨s, hil, as, e1, e2, e3⟩
    refine a_gname ?_
    refine ⟨by simp [wipe], a_yes (ift ?_)⟩
    rw [Int.zero_add]
    refine he i hi H' _ s fun b H'' o s2 nb eb sb => ?_
    have nbD : b ≠ D := fun z => by rw [z, e2] at nb; exact nomatch nb
    refine ⟨_, s2 _ _ e2, szl (by rw [List.length_map]; omega), smut (s.trans s2) hD, by omega, as ++ [b], by rw [List.length_append, e1]; rfl, by rw [upd_same, List.map_append]; rfl, fun j c ec => ?_⟩
    by_cases hj : j < as.length
    · rw [List.getElem?_append_left hj] at ec
      obtain ⟨u, h1, h2, h3⟩ := e3 j c ec
      exact ⟨u, by rw [upd_ne h3]; exact s2 _ _ h1, h2, h3⟩
    · have hj2 : j = as.length := by
        have := (List.getElem?_eq_some_iff.mp ec).1
        rw [List.length_append] at this
        have z : [b].length = 1 := rfl
        omega
      subst hj2
      rw [List.getElem?_append_right (Nat.le_refl _), Nat.sub_self] at ec
      obtain rfl : b = c := Option.some.inj ec
      exact ⟨o, by rw [upd_ne nbD]; exact eb, by rw [e1]; exact sb, nbD⟩
  · rintro H' ⟨s, _, as, e1, e2, e3⟩
    refine q D H' as hD s e1 e2 fun j b e => ?_
    obtain ⟨o, h1, h2, _⟩ := e3 j b e
    exact ⟨o, h1, h2⟩
/-- what a list of new lists is -/
theorem ll_new {D : Addr} {as : List Addr} {f : Nat → List Int} {n : Nat} (e : H D = some (.lst (as.map V.ref))) (hl : as.length = n) (h : ∀ (j : Nat) (b : Addr), as[j]? = some b → ∃ o, H b = some o ∧ o = .lst ((f j).map V.int)) : LL K H D ((List.range n).map f) := by
  refine ⟨as, sql e, by simp [hl], fun j a c e1 e2 => ?_⟩
  obtain ⟨o, h1, rfl⟩ := h j a e1
  have hj := (List.getElem?_eq_some_iff.mp e1).1
  rw [List.getElem?_map, List.getElem?_range (by omega)] at e2
  cases e2
  exact sql h1
/-- all entries of all columns -/
theorem c_flat {A : Addr} {k0 k1 : Nat} {cs : List (List Int)} (hv : vs = [k0, k1]) (hk : k0 ≠ k1) (hk0 : k0 < σ.length) (hk1 : k1 < σ.length) (ht : ∀ R : VK, R (.ref A) H → tl σ H R) (hx : LL K H A cs) (hz : cs.flatten.length ≤ 1000000)
    (q : ∀ D H', H D = none → Same H H' → H' D = some (.lst (cs.flatten.map V.int)) → Q (.ref D) H') : tLc2 (iList K tl) (gName k0) tYes (iList K (tVar k0)) (gName k1) tYes (tVar k1) vs [k1] σ H Q := by
  subst hv
  obtain ⟨as, hS, hl, hc⟩ := hx
  refine ht (fun x H1 => ∃ a, x = .ref a ∧ (∃ xs, SqL K H1 a xs) ∧ _) ⟨A, rfl, ⟨_, hS⟩, fun D hD => ?_⟩
  refine ⟨fun i m H' => m = as.length - i ∧ i ≤ as.length ∧ Same H H' ∧ H' D = some (.lst (((cs.take i).flatten).map V.int)), ⟨_, rfl, Nat.zero_le _, same_upd hD, upd_same⟩, ?_⟩
  rintro i m H' ⟨rfl, hi, s, e⟩
  have hq := s.seq hS
  by_cases hlt : i < as.length
  · obtain ⟨c, hci⟩ : ∃ c, cs[i]? = some c := ⟨_, List.getElem?_eq_getElem (by omega)⟩
    obtain ⟨ai, hai⟩ : ∃ a, as[i]? = some a := ⟨_, List.getElem?_eq_getElem hlt⟩
    have hcc := hc i _ _ hai hci
    have hax : (as.map V.ref)[i]? = some (.ref ai) := by rw [List.getElem?_map, hai]; rfl
    refine .inr ⟨⟨as.map V.ref, .ref ai, hq, hax⟩, fun H'' => as.length - (i + 1) < as.length - i ∧ Same H H'' ∧ H'' D = some (.lst (((cs.take (i + 1)).flatten).map V.int)), fun H'' h => ⟨_, h.1, rfl, by omega, h.2⟩, fun x H4 y => ?_⟩
    obtain ⟨e4, y⟩ := y
    subst e4
    have hxi := y _ hq
    rw [hax] at hxi
    cases hxi
    refine a_gname ⟨?_, a_yes (ift ?_)⟩
    · simp [wipe]
      rw [List.set_comm _ _ hk]
      simp
    have hwl : ∀ z : Option V, ((wipe σ [k0, k1]).set k0 z)[k0]? = some z := fun z => List.getElem?_set_self (by rw [wipe_length]; exact hk0)
    refine ⟨_, hwl _, ai, rfl, ⟨_, s.seq hcc⟩, ?_⟩
    have tot : ∀ j, (((cs.take i).flatten) ++ c.take j).length ≤ cs.flatten.length := fun j => by
      have h1 : cs = cs.take i ++ (c :: cs.drop (i + 1)) := by
        obtain ⟨hi', e⟩ := List.getElem?_eq_some_iff.mp hci
        rw [← e, List.getElem_cons_drop, List.take_append_drop]
      have e5 : cs.flatten = (cs.take i).flatten ++ (c ++ (cs.drop (i + 1)).flatten) := by
        rw [← List.flatten_cons, ← List.flatten_append, ← h1]
      rw [e5, List.length_append, List.length_append, List.length_append, List.length_take]
      omega
    refine ⟨fun j m H' => m = c.length - j ∧ j ≤ c.length ∧ Same H H' ∧ H' D = some (.lst (((cs.take i).flatten ++ c.take j).map V.int)), ⟨_, rfl, Nat.zero_le _, s, by rw [List.take_zero, List.append_nil]; exact e⟩, ?_⟩
    rintro j m H5 ⟨rfl, hj, s5, e5⟩
    have hq5 := s5.seq hcc
    by_cases hjl : j < c.length
    · obtain ⟨n, hn⟩ : ∃ n, c[j]? = some n := ⟨_, List.getElem?_eq_getElem hjl⟩
      have hnx : (c.map V.int)[j]? = some (.int n) := by rw [List.getElem?_map, hn]; rfl
      refine .inr ⟨⟨_, .int n, hq5, hnx⟩, fun H'' => c.length - (j + 1) < c.length - j ∧ Same H H'' ∧ H'' D = some (.lst (((cs.take i).flatten ++ c.take (j + 1)).map V.int)), fun H'' h => ⟨_, h.1, rfl, by omega, h.2⟩, fun x H6 y => ?_⟩
      obtain ⟨e6, y⟩ := y
      subst e6
      have hxj := y _ hq5
      rw [hnx] at hxj
      cases hxj
      refine a_gname ⟨?_, a_yes (ift ?_)⟩
      · simp [wipe]
      refine ⟨_, List.getElem?_set_self ?_, _, e5, ?_, by omega, smut s5 hD, ?_⟩
      · rw [wipe_length, List.length_set, wipe_length]; exact hk1
      · refine szl ?_
        rw [List.length_map]
        exact Nat.le_trans (tot j) hz
      · rw [upd_same, ← take_app hn]
        simp
    · have ej : j = c.length := by omega
      subst ej
      refine .inl ⟨⟨_, hq5, by rw [List.length_map]; omega⟩, by omega, s5, ?_⟩
      rw [List.take_length] at e5
      rw [e5, ← take_app hci, List.flatten_append]
      simp
  · have ei : i = as.length := by omega
    subst ei
    refine .inl ⟨⟨_, hq, by rw [List.length_map]; omega⟩, ?_⟩
    rw [hl, List.take_length] at e
    exact q D H' hD s e
end
def rowsF (p cols : Int) : PyData → Flt
  | .list xs => if (xs.length : Int) = 0 then .part "rows" else if Builtin.bitAnd (xs.length : Int) ((xs.length : Int) - 1) = 0 then (if 1024 < (xs.length : Int) then .size "rows" else if xs.all (fun r => areN r cols p) = true then .ok else .part "row") else .part "rows"
  | _ => .part "rows"
theorem rowsF_no {p cols : Int} {d : PyData} (h : isB "list" d = false) : rowsF p cols d = .part "rows" := by
  cases d <;> simp [isB] at h <;> rfl
theorem rowsF_list {p cols : Int} {xs : List PyData} : rowsF p cols (.list xs) = if (xs.length : Int) = 0 then .part "rows" else if Builtin.bitAnd (xs.length : Int) ((xs.length : Int) - 1) = 0 then (if 1024 < (xs.length : Int) then .size "rows" else if xs.all (fun r => areN r cols p) = true then .ok else .part "row") else .part "rows" := rfl
def gv (p : Int) (cs : List (List Int)) : PyData → List Int
  | .tuple [_, .int a, .int x, .int b, .int y] => List.zipWith (fun l r => (a * l + b * r) % p) (cs.getD x.toNat []) (cs.getD y.toNat [])
  | .tuple [_, .int c, .int x, .int y] => List.zipWith (fun l r => c * l * r % p) (cs.getD x.toNat []) (cs.getD y.toNat [])
  | _ => []
/-- columns of n numbers modulo p -/
structure Cols (p : Int) (n : Nat) (cs : List (List Int)) : Prop where
  len : ∀ c ∈ cs, c.length = n
  inp : ∀ c ∈ cs, In 0 p c
theorem Cols.at {p : Int} {n : Nat} {cs : List (List Int)} (h : Cols p n cs) {x : Int} (h0 : 0 ≤ x) (h1 : x < (cs.length : Int)) : ∃ c, cs[x.toNat]? = some c ∧ cs.getD x.toNat [] = c ∧ c.length = n ∧ In 0 p c := by
  have hx : x.toNat < cs.length := by omega
  refine ⟨cs[x.toNat], List.getElem?_eq_getElem hx, ?_, h.len _ (List.getElem_mem _), h.inp _ (List.getElem_mem _)⟩
  rw [List.getD_eq_getElem?_getD, List.getElem?_eq_getElem hx]; rfl
theorem gv_ok {p : Int} {n : Nat} {cs : List (List Int)} {g : PyData} (h : Cols p n cs) (hp : 0 < p) (hg : gateB (cs.length : Int) p g = true) : (gv p cs g).length = n ∧ In 0 p (gv p cs g) := by
  have inz : ∀ {f : Int → Int → Int} {u v : List Int}, (∀ l r, 0 ≤ f l r ∧ f l r < p) → In 0 p (List.zipWith f u v) := fun {f u v} hf e he => by
    obtain ⟨j, hj⟩ := List.getElem?_of_mem he
    rw [List.getElem?_zipWith] at hj
    cases h1 : u[j]? with
    | none => rw [h1] at hj; cases hj
    | some a =>
      cases h2 : v[j]? with
      | none => rw [h1, h2] at hj; cases hj
      | some b => rw [h1, h2] at hj; cases hj; exact hf a b
  rcases gate_shape hg with ⟨c, x, y, rfl, h1, h2, h3⟩ | ⟨a, x, b, y, rfl, h1, h2, h3, h4⟩
  · obtain ⟨u, _, eu, lu, _⟩ := h.at h2.1 h2.2
    obtain ⟨v, _, ev, lv, _⟩ := h.at h3.1 h3.2
    refine ⟨?_, inz fun l r => ⟨Int.emod_nonneg _ (by omega), Int.emod_lt_of_pos _ hp⟩⟩
    show (List.zipWith _ (cs.getD x.toNat []) (cs.getD y.toNat [])).length = n
    rw [List.length_zipWith, eu, ev]; omega
  · obtain ⟨u, _, eu, lu, _⟩ := h.at h2.1 h2.2
    obtain ⟨v, _, ev, lv, _⟩ := h.at h4.1 h4.2
    refine ⟨?_, inz fun l r => ⟨Int.emod_nonneg _ (by omega), Int.emod_lt_of_pos _ hp⟩⟩
    show (List.zipWith _ (cs.getD x.toNat []) (cs.getD y.toNat [])).length = n
    rw [List.length_zipWith, eu, ev]; omega
theorem LL.at {K : PySem.W.Frag} {H : Hp} {A : Addr} {cs : List (List Int)} (h : LL K H A cs) {x : Int} {c : List Int} (h0 : 0 ≤ x) (hc : cs[x.toNat]? = some c) : ∃ (as : List Addr) (a : Addr), SqL K H A (as.map V.ref) ∧ atI (as.map V.ref) x = some (.ref a) ∧ SqL K H a (c.map V.int) := by
  obtain ⟨as, h1, h2, h3⟩ := h
  have hx := (List.getElem?_eq_some_iff.mp hc).1
  have ha : as[x.toNat]? = some as[x.toNat] := List.getElem?_eq_getElem (by omega)
  exact ⟨as, as[x.toNat], h1, at_some h0 (by rw [List.getElem?_map, ha]; rfl), h3 _ _ _ ha hc⟩
theorem zw_at {f : Int → Int → Int} {u v : List Int} {j : Nat} {a b : Int} (h1 : u[j]? = some a) (h2 : v[j]? = some b) : (List.zipWith f u v)[j]? = some (f a b) := by
  rw [List.getElem?_zipWith, h1, h2]
theorem a_rev {K : PySem.W.Frag} {σ : L2.St} {H : Hp} {ta : TA} {R : It → Hp → Prop} (q : ta σ H fun vs H1 => ∃ (a : Addr) (xs : List V), vs = [.ref a] ∧ SqL K H1 a xs ∧ R (Itv K a xs.length) H1) : iRev K ta σ H R := q
theorem hid_new {H H' : Hp} {tb : Addr} (s : Same H H') (n : H tb = none) : Same H (hid [tb] H') := fun a o e => hid_in (s a o e) fun z => by
  rw [List.mem_singleton.mp z, n] at e; cases e
theorem fo_rev {K : PySem.W.Frag} {a : Addr} {xs : List V} {g : TG} {tb : TS} {nx : L2.St → Hp → Prop} {rt : VK} {σ : L2.St} {H : Hp} (Pv : Nat → L2.St → Hp → Prop) (h0 : Pv 0 σ H) (hq : ∀ i σ H, Pv i σ H → SqL K H a xs)
    (hs : ∀ (i : Nat) (x : V) (σ : L2.St) (H : Hp), i < xs.length → xs[xs.length - 1 - i]? = some x → Pv i σ H → g x σ H fun σ2 H2 => tb ⟨Pv (i + 1), rt, nx, Pv (i + 1)⟩ σ2 H2) (hd : ∀ σ H, Pv xs.length σ H → nx σ H) :
    ∃ W : Nat → Nat → L2.St → Hp → Prop, (∃ m, W 0 m σ H) ∧ ∀ i m σ H, W i m σ H →
      ((Itv K a xs.length).stop i H ∧ nx σ H) ∨ ((Itv K a xs.length).go i H ∧ ∃ N : L2.St → Hp → Prop, (∀ σ' H', N σ' H' → ∃ m', m' < m ∧ W (i + 1) m' σ' H') ∧ ∀ v H', (Itv K a xs.length).yld i H v H' → g v σ H' fun σ2 H2 => tb ⟨N, rt, nx, N⟩ σ2 H2) :=
  RT.for_Itv (D := ⟨nx, rt, fun _ _ => False, fun _ _ => False⟩) Pv h0 hq hs hd
theorem list_rg (xs : List V) : xs = (List.range xs.length).map fun k => xs.getD k .non := by
  refine List.ext_getElem? fun i => ?_
  by_cases h : i < xs.length
  · rw [rg_at h, List.getD_eq_getElem?_getD, List.getElem?_eq_getElem h]; rfl
  · rw [List.getElem?_eq_none (by omega), List.getElem?_eq_none (by simp; omega)]
theorem rev_len (xs : List V) : (pickV xs none none (some (-1))).length = xs.length := by
  have := pick_rev (fun k => xs.getD k .non) xs.length
  rw [← list_rg] at this
  rw [this]; simp
theorem at_last {ws : List Int} {k : Nat} (h : ws.length = k + 1) : atI (ws.map V.int) (-1) = some (.int (ws.getD k 0)) := by
  have e : (ws.map V.int)[k]? = some (.int (ws.getD k 0)) := by
    rw [List.getElem?_map, List.getD_eq_getElem?_getD, List.getElem?_eq_getElem (show k < ws.length by omega)]; rfl
  have hx : ixN (ws.map V.int).length (-1) = some k := by
    unfold ixN
    rw [List.length_map, h, if_neg (by omega), if_pos (by omega)]
    congr 1
    omega
  unfold atI
  rw [hx]
  exact e
theorem numB_all {p : Int} : ∀ {xs : List PyData}, xs.all (numB p) = true → ∃ l : List Int, xs = dInts l ∧ In 0 p l
  | [], _ => ⟨[], rfl, fun e he => by simp at he⟩
  | x :: r, h => by
    rw [List.all_cons, Bool.and_eq_true] at h
    obtain ⟨l, rfl, hl⟩ := numB_all h.2
    have h1 := h.1
    cases x <;> simp [numB] at h1
    rename_i i
    refine ⟨i :: l, rfl, fun e he => ?_⟩
    rcases List.mem_cons.mp he with z | z
    · rw [z]; exact h1
    · exact hl e z
theorem areN_yes {d : PyData} {many p : Int} (h : areN d many p = true) : ∃ l : List Int, d = .list (dInts l) ∧ (l.length : Int) = many ∧ In 0 p l := by
  cases d <;> simp [areN] at h
  rename_i xs
  obtain ⟨l, rfl, hl⟩ := numB_all (p := p) (xs := xs) (List.all_eq_true.mpr fun x hx => h.2 x hx)
  refine ⟨l, rfl, ?_, hl⟩
  have := h.1
  unfold dInts at this
  rw [List.length_map] at this
  exact this
theorem areN_lists {many p : Int} : ∀ {xs : List PyData}, xs.all (fun r => areN r many p) = true → ∃ rs : List (List Int), xs = rs.map (fun c => .list (dInts c)) ∧ ∀ r ∈ rs, (r.length : Int) = many ∧ In 0 p r
  | [], _ => ⟨[], rfl, fun r hr => by simp at hr⟩
  | x :: r, h => by
    rw [List.all_cons, Bool.and_eq_true] at h
    obtain ⟨rs, rfl, hr⟩ := areN_lists h.2
    obtain ⟨l, rfl, h1, h2⟩ := areN_yes h.1
    refine ⟨l :: rs, rfl, fun e he => ?_⟩
    rcases List.mem_cons.mp he with z | z
    · rw [z]; exact ⟨h1, h2⟩
    · exact hr e z
theorem rows_ok {p cols : Int} {d : PyData} (h : rowsF p cols d = .ok) : ∃ rs : List (List Int), d = LD rs ∧ 1 ≤ rs.length ∧ rs.length ≤ 1024 ∧ ∀ r ∈ rs, (r.length : Int) = cols ∧ In 0 p r := by
  by_cases hl : isB "list" d = true
  · obtain ⟨xs, rfl⟩ := isB_list hl
    rw [rowsF_list] at h
    split at h
    · cases h
    · rename_i h1
      split at h
      · split at h
        · cases h
        · rename_i h3
          split at h
          · rename_i h4
            obtain ⟨rs, rfl, hr⟩ := areN_lists h4
            rw [List.length_map] at h1 h3
            exact ⟨rs, rfl, by omega, by omega, hr⟩
          · cases h
      · cases h
  · rw [rowsF_no (by revert hl; cases isB "list" d <;> simp)] at h
    cases h
/-- the law's rows in the heap -/
structure RowsH (G : Hp) (A : Addr) (as : List Addr) (rs : List (List Int)) (p : Int) (cols n : Nat) : Prop where
  lst : G A = some (.lst (as.map V.ref))
  al : as.length = rs.length
  rl : rs.length = n
  ok : ∀ r ∈ rs, r.length = cols ∧ In 0 p r
  at_ : ∀ (j : Nat) (a : Addr) (r : List Int), as[j]? = some a → rs[j]? = some r → G a = some (.lst (r.map V.int))
theorem RowsH.same {G G' : Hp} {A : Addr} {as : List Addr} {rs : List (List Int)} {p : Int} {cols n : Nat} (h : RowsH G A as rs p cols n) (s : Same G G') : RowsH G' A as rs p cols n := ⟨s _ _ h.lst, h.al, h.rl, h.ok, fun j a r e1 e2 => s _ _ (h.at_ j a r e1 e2)⟩
theorem RowsH.nt {G G' : Hp} {A : Addr} {as : List Addr} {rs : List (List Int)} {p : Int} {cols n : Nat} (h : RowsH G A as rs p cols n) (s : Nt G G') : RowsH G' A as rs p cols n := ⟨s.lst h.lst, h.al, h.rl, h.ok, fun j a r e1 e2 => s.lst (h.at_ j a r e1 e2)⟩
theorem RowsH.dpAll {K : PySem.W.Frag} {G : Hp} : ∀ {as : List Addr} {rs : List (List Int)}, as.length = rs.length → (∀ (j : Nat) (a : Addr) (r : List Int), as[j]? = some a → rs[j]? = some r → G a = some (.lst (r.map V.int))) → DpAll K G (as.map V.ref) (rs.map fun c => .list (dInts c))
  | [], [], _, _ => .nil
  | [], y :: r, h, _ => by simp at h
  | x :: r, [], h, _ => by simp at h
  | x :: r, y :: s, h, f => by
    rw [List.map_cons, List.map_cons]
    exact .cons (.lst (sql (f 0 x y rfl rfl)) (dp_ints y)) (RowsH.dpAll (by simpa using h) fun j a c e1 e2 => f (j + 1) a c (by simpa using e1) (by simpa using e2))
end Lk

namespace Lk
open PySem PySem.Spec PyProof.Rows L2 GxR
/-! ### rows that do not fit -/
def rname : Flt → Str
  | .ok => "none"
  | .part s => s
  | .size _ => "size"
  | .fld _ => ""
structure NearR (p cols : Int) (d : PyData) (s : Str) : Prop where
  res : rname (rowsF p cols d) = s
  tm : tame d = true
  cost : costD d ≤ 990000
  dep : PyData.depth d ≤ 20
  kind : d = .none ∨ (∃ xs, d = .list xs) ∨ ∃ xs, d = .tuple xs
theorem NearR.ref {K : PySem.W.Frag} {H : Hp} {v : V} {p cols : Int} {d : PyData} {s : Str} (h : NearR p cols d s) (hd : Dp K H v d) : d = .none ∨ ∃ a, v = .ref a := by
  rcases h.kind with h | ⟨xs, rfl⟩ | ⟨xs, rfl⟩
  · exact .inl h
  · obtain ⟨a, _, rfl, _⟩ := dp_list hd
    exact .inr ⟨a, rfl⟩
  · obtain ⟨a, _, rfl, _⟩ := dp_tuple hd
    exact .inr ⟨a, rfl⟩
theorem size_rows {p cols : Int} {d : PyData} {s : Str} (h : rowsF p cols d = .size s) : s = "rows" := by
  by_cases hl : isB "list" d = true
  · obtain ⟨xs, rfl⟩ := isB_list hl
    rw [rowsF_list] at h
    split at h
    · cases h
    · split at h
      · split at h
        · exact (Flt.size.inj h).symm
        · split at h <;> cases h
      · cases h
  · rw [rowsF_no (by revert hl; cases isB "list" d <;> simp)] at h
    cases h
def RowO (x : PyData) : Prop := OkD 480 x ∧ PyData.depth x ≤ 2
section
variable {p cols : Int}
theorem nr_list {xs : List PyData} {s : Str} (hx : ∀ x ∈ xs, RowO x) (hl : xs.length ≤ 2050) (hr : rname (rowsF p cols (.list xs)) = s) : NearR p cols (.list xs) s := by
  have z := okd_list (c := 480) (n := 990000) (fun x h => (hx x h).1) (by omega)
  exact ⟨hr, z.1, z.2, by have := depth_list (n := 2) fun x h => (hx x h).2; omega, .inr (.inl ⟨_, rfl⟩)⟩
theorem nr_tup {xs : List PyData} (hx : ∀ x ∈ xs, RowO x) (hl : xs.length ≤ 2050) : NearR p cols (.tuple xs) "rows" := by
  have z := okd_tup (c := 480) (n := 990000) (fun x h => (hx x h).1) (by omega)
  exact ⟨rfl, z.1, z.2, by have := depth_tup (n := 2) fun x h => (hx x h).2; omega, .inr (.inr ⟨_, rfl⟩)⟩
theorem nr_none : NearR p cols .none "rows" := ⟨rfl, by decide, by decide, by decide, .inl rfl⟩
theorem nr_nil : NearR p cols (.list []) "rows" := nr_list (fun x h => by simp at h) (by simp) (by rw [rowsF_list, if_pos (show (([] : List PyData).length : Int) = 0 from rfl)]; rfl)
theorem nr_three {R : List PyData} (hR : ∀ x ∈ R, RowO x) (hn : R.length = 1 ∨ R.length = 2 ∨ R.length = 4) : NearR p cols (.list ((R ++ R) ++ R)) "rows" := by
  have hl : ((R ++ R) ++ R).length = R.length + R.length + R.length := by rw [List.length_append, List.length_append]
  refine nr_list (fun x h => ?_) (by omega) ?_
  · rcases List.mem_append.mp h with h | h
    · rcases List.mem_append.mp h with h | h <;> exact hR x h
    · exact hR x h
  · have b : Builtin.bitAnd (((R ++ R) ++ R).length : Int) ((((R ++ R) ++ R).length : Int) - 1) ≠ 0 := by
      rw [hl]
      rcases hn with h | h | h <;> rw [h] <;> decide +kernel
    rw [rowsF_list, if_neg (by omega), if_neg b]
    rfl
theorem nr_size {x : PyData} (hx : RowO x) : NearR p cols (.list (List.replicate 2048 x)) "size" := by
  refine nr_list (fun y h => by rw [List.eq_of_mem_replicate h]; exact hx) (by rw [List.length_replicate]; omega) ?_
  rw [rowsF_list, List.length_replicate, if_neg (by decide), if_pos (by decide +kernel), if_pos (by decide)]
  rfl
def WrongO (p cols : Int) (x : PyData) : Prop := RowO x ∧ areN x cols p = false
theorem nr_row {R : List PyData} {k : Nat} {x : PyData} (hR : ∀ x ∈ R, RowO x) (hn : R.length = 1 ∨ R.length = 2 ∨ R.length = 4) (hk : k < R.length) (hx : WrongO p cols x) : NearR p cols (.list ((R.take k ++ [x]) ++ R.drop (k + 1))) "row" := by
  have hl : ((R.take k ++ [x]) ++ R.drop (k + 1)).length = R.length := by simp; omega
  refine nr_list (fun y h => ?_) (by omega) ?_
  · rcases List.mem_append.mp h with h | h
    · rcases List.mem_append.mp h with h | h
      · exact hR y (List.mem_of_mem_take h)
      · rw [List.mem_singleton.mp h]; exact hx.1
    · exact hR y (List.mem_of_mem_drop h)
  · have b : Builtin.bitAnd (((R.take k ++ [x]) ++ R.drop (k + 1)).length : Int) ((((R.take k ++ [x]) ++ R.drop (k + 1)).length : Int) - 1) = 0 := by
      rw [hl]
      rcases hn with h | h | h <;> rw [h] <;> decide +kernel
    rw [rowsF_list, if_neg (by omega), if_pos b, if_neg (by omega), if_neg]
    · rfl
    · intro z
      have := List.all_eq_true.mp z x (by simp)
      rw [hx.2] at this
      cases this
theorem rowO_ints {l : List Int} (h : ∀ x ∈ l, -1000000000000 < x ∧ x < 1000000000000) (hl : l.length ≤ 10) : RowO (.list (dInts l)) := ⟨okd_ints h (by omega), by rw [depth_ints]; omega⟩
theorem rowO_tints {l : List Int} (h : ∀ x ∈ l, -1000000000000 < x ∧ x < 1000000000000) (hl : l.length ≤ 10) : RowO (.tuple (dInts l)) := ⟨okd_tints h (by omega), by have := depth_tup (n := 0) (depth_dints (l := l)); omega⟩
section
variable {r : List Int} (hr : In 0 p r) (hp : 5 ≤ p ∧ p ≤ 53) (hl : (r.length : Int) = cols) (h8 : r.length ≤ 8) (h1 : 1 ≤ r.length)
include hr hp hl h8 h1
theorem in_big : ∀ x ∈ r, -1000000000000 < x ∧ x < 1000000000000 := fun x hx => by have := hr x hx; omega
theorem in_bigA {y : Int} {l : List Int} (hs : ∀ x ∈ l, x ∈ r) (hy : -100 < y ∧ y < 100) : ∀ x ∈ l ++ [y], -1000000000000 < x ∧ x < 1000000000000 := fun x hx => by
  rcases List.mem_append.mp hx with h | h
  · have := hr x (hs x h); omega
  · rw [List.mem_singleton.mp h]; omega
theorem w_more : WrongO p cols (.list (dInts (r ++ [0]))) := by
  refine ⟨rowO_ints (in_bigA hr hp hl h8 h1 (fun x h => h) (by omega)) (by simp; omega), ?_⟩
  rw [areN_list, decide_eq_false (by unfold dInts; simp; omega)]
  rfl
theorem w_less : WrongO p cols (.list (dInts r.dropLast)) := by
  refine ⟨rowO_ints (fun x h => in_big hr hp hl h8 h1 x (List.dropLast_subset _ h)) (by simp; omega), ?_⟩
  rw [areN_list, decide_eq_false (by unfold dInts; simp; omega)]
  rfl
theorem w_tup : WrongO p cols (.tuple (dInts r)) := ⟨rowO_tints (in_big hr hp hl h8 h1) (by omega), rfl⟩
theorem w_last {y : Int} (hy : -100 < y ∧ y < 100) (hb : ¬ (0 ≤ y ∧ y < p)) : WrongO p cols (.list (dInts (r.dropLast ++ [y]))) := by
  refine ⟨rowO_ints (in_bigA hr hp hl h8 h1 (fun x h => List.dropLast_subset _ h) hy) (by simp; omega), ?_⟩
  rw [areN_list]
  have e : (dInts (r.dropLast ++ [y])).all (numB p) = false := by
    rw [dInts_app, List.all_append]
    show (_ && (numB p (.int y) && true)) = false
    rw [show numB p (.int y) = false from decide_eq_false hb]
    simp
  rw [e, Bool.and_false]
theorem w_str : WrongO p cols (.list (dInts r.dropLast ++ [.str "0"])) := by
  refine ⟨⟨okd_list (c := 42) (fun x hx => ?_) (by unfold dInts; simp; omega), ?_⟩, ?_⟩
  · rcases List.mem_append.mp hx with h | h
    · obtain ⟨i, hi, rfl⟩ := List.mem_map.mp h
      exact okd_int (in_big hr hp hl h8 h1 i (List.dropLast_subset _ hi))
    · rw [List.mem_singleton.mp h]; exact okd_str (by decide +kernel)
  · have := depth_list (n := 0) (xs := dInts r.dropLast ++ [.str "0"]) fun x hx => by
      rcases List.mem_append.mp hx with h | h
      · exact depth_dints x h
      · rw [List.mem_singleton.mp h]; exact depth_str
    omega
  · rw [areN_list, List.all_append]
    show (_ && (_ && (numB p (.str "0") && true))) = false
    rw [show numB p (.str "0") = false from rfl]
    simp
theorem w_true : WrongO p cols (.list ([.bool true] ++ dInts (r.drop 1))) := by
  refine ⟨⟨okd_list (c := 42) (fun x hx => ?_) (by unfold dInts; simp; omega), ?_⟩, ?_⟩
  · rcases List.mem_append.mp hx with h | h
    · rw [List.mem_singleton.mp h]; exact ⟨by decide, by decide⟩
    · obtain ⟨i, hi, rfl⟩ := List.mem_map.mp h
      exact okd_int (in_big hr hp hl h8 h1 i (List.mem_of_mem_drop hi))
  · have := depth_list (n := 0) (xs := [.bool true] ++ dInts (r.drop 1)) fun x hx => by
      rcases List.mem_append.mp hx with h | h
      · rw [List.mem_singleton.mp h]; decide
      · exact depth_dints x h
    omega
  · rw [areN_list, List.all_append]
    show (_ && ((numB p (.bool true) && true) && _)) = false
    rw [show numB p (.bool true) = false from rfl]
    simp
end
theorem w_none : WrongO p cols .none := ⟨⟨⟨by decide, by decide⟩, by decide⟩, rfl⟩
def OkR (p cols : Int) (e : PyData) : Prop := ∃ d s, e = .tuple [d, .str s] ∧ NearR p cols d s
theorem okR_nil : ∀ e ∈ ([] : List PyData), OkR p cols e := fun e he => by simp at he
theorem okR_cons {d : PyData} {s : Str} {b : List PyData} (h : NearR p cols d s) (h2 : ∀ e ∈ b, OkR p cols e) : ∀ e ∈ PyData.tuple [d, .str s] :: b, OkR p cols e := fun e he => (List.mem_cons.mp he).elim (fun z => by rw [z]; exact ⟨d, s, rfl, h⟩) (h2 e)
theorem wr_nil : ∀ e ∈ ([] : List PyData), WrongO p cols e := fun e he => by simp at he
theorem wr_cons {x : PyData} {b : List PyData} (h : WrongO p cols x) (h2 : ∀ e ∈ b, WrongO p cols e) : ∀ e ∈ x :: b, WrongO p cols e := fun e he => (List.mem_cons.mp he).elim (fun z => by rw [z]; exact h) (h2 e)
end
theorem drop_one (l : List Int) : cutV (l.map V.int) (some 1) none = (l.drop 1).map V.int := by
  have := cut_fromG (l.map V.int) 0
  rw [show (((0 : Nat) : Int) + 1) = 1 by rfl] at this
  rw [this, List.map_drop]
theorem rows_good {p cols : Int} {rs : List (List Int)} (hn : rs.length = 1 ∨ rs.length = 2 ∨ rs.length = 4) (h : ∀ r ∈ rs, (r.length : Int) = cols ∧ In 0 p r) : rowsF p cols (LD rs) = .ok := by
  have hl : (rs.map fun c => PyData.list (dInts c)).length = rs.length := List.length_map _
  have b : Builtin.bitAnd ((rs.map fun c => PyData.list (dInts c)).length : Int) (((rs.map fun c => PyData.list (dInts c)).length : Int) - 1) = 0 := by
    rw [hl]
    rcases hn with h | h | h <;> rw [h] <;> decide +kernel
  unfold LD
  rw [rowsF_list, if_neg (by rw [hl]; omega), if_pos b, if_neg (by rw [hl]; omega), if_pos]
  rw [List.all_eq_true]
  intro x hx
  obtain ⟨r, hr, rfl⟩ := List.mem_map.mp hx
  obtain ⟨h1, h2⟩ := h r hr
  rw [areN_list, decide_eq_true (by unfold dInts; rw [List.length_map]; exact h1), Bool.true_and, List.all_eq_true]
  intro y hy
  obtain ⟨i, hi, rfl⟩ := List.mem_map.mp hy
  exact decide_eq_true (h2 i hi)
end Lk

namespace Lk
open PySem PySem.Spec PyProof.Rows L2 GxR
local macro_rules | `(tactic| walk_at "side") => `(tactic| first | assumption | exact rfl | omega | (show _ ∧ _; omega) | (unfold CMul; omega) | (unfold CPow; omega) | (exact sql (by assumption)) | (exact sqt (by assumption)) | (exact cdw (by omega) (by omega)))
local macro_rules | `(tactic| walk_at "hs1") => `(tactic| first
  | (with_reducible refine a_seq ?_)
  | (with_reducible refine a_asg ?_)
  | (with_reducible refine a_gname ?_)
  | (with_reducible refine a_op ?_)
  | (with_reducible refine a_c ?_)
  | ((with_reducible refine' a_var ?h ?_); (case h => exact rfl))
  | (with_reducible refine a_i0 ?_)
  | ((with_reducible refine' a_iC ?h ?_); (case h => walk_at "side"))
  | (with_reducible refine a_un ?_)
  | (with_reducible refine a_u ?_)
  | (with_reducible refine a_ifS ?_)
  | (with_reducible refine a_test ?_)
  | (with_reducible refine a_tB ?_)
  | (with_reducible refine a_bl ?_)
  | (with_reducible refine a_eqI ?_)
  | (with_reducible refine a_neI ?_)
  | (with_reducible refine a_eqS ?_)
  | (with_reducible refine a_neS ?_)
  | (with_reducible refine a_eqB ?_)
  | (with_reducible refine a_neB ?_)
  | (with_reducible refine a_and ?_)
  | (with_reducible refine a_or ?_)
  | (with_reducible refine a_not ?_)
  | (with_reducible refine a_ifx ?_)
  | (with_reducible refine a_cons ?_)
  | (with_reducible refine a_nil ?_)
  | (with_reducible refine a_call ?_)
  | (with_reducible refine a_cb ?_)
  | (with_reducible refine a_int ?_)
  | (with_reducible refine a_ret ?_)
  | (with_reducible refine a_drop ?_)
  | (with_reducible refine a_next ?_)
  | (with_reducible refine a_brk ?_)
  | (with_reducible refine a_for ?_)
  | (with_reducible refine a_iList ?_)
  | (with_reducible refine a_rng1 ?_)
  | (with_reducible refine a_zip ?_)
  | (with_reducible refine a_tup ?_)
  | (with_reducible refine a_tupA ?_)
  | (with_reducible refine a_lstA ?_)
  | (with_reducible refine a_lst ?_)
  | (with_reducible refine a_gsub ?_)
  | (with_reducible refine a_gcons ?_)
  | (with_reducible refine a_gnil ?_)
  | ((with_reducible refine' a_aug ?h ?_); (case h => exact rfl))
  | (with_reducible refine a_ip ?_)
  | ((with_reducible refine' a_ixL ?h ?e ?_); (case h => walk_at "side"); (case e => first | exact rfl | exact at0 | exact at_int (by omega) (by omega)))
  | ((with_reducible refine' a_len ?h ?_); (case h => walk_at "side"))
  | (with_reducible refine a_bm ?_)
  | ((with_reducible refine' a_exrng ?h ?h2 ?_); (case h => omega); (case h2 => omega))
  | (with_reducible refine a_abs ?_)
  | (with_reducible refine a_sl3 ?_)
  | (with_reducible refine a_sl ?_)
  | (with_reducible refine a_part ?_)
  | (with_reducible refine a_nopart ?_)
  | (with_reducible refine a_exi ?_)
  | (with_reducible refine a_trI ?_)
  | (with_reducible refine a_trL ?_)
  | (with_reducible refine a_bm0 ?_)
  | (with_reducible refine a_rng2 ?_)
  | ((with_reducible refine' a_exrng2 ?h ?_); (case h => omega))
  | (with_reducible refine a_rng3 ?_)
  | ((with_reducible refine' a_exrng3 ?h ?_); (case h => omega))
  | (with_reducible refine a_max2 ?_)
  | (with_reducible refine a_min2 ?_)
  | (with_reducible refine a_lstRg ?_)
  | (with_reducible refine a_rg1 ?_)
  | (with_reducible refine a_byE ?_)
  | (with_reducible refine a_raiseE ?_)
  | (with_reducible refine a_callS ?_)
  | (with_reducible refine a_notN ?_)
  | (with_reducible refine a_isN ?_)
  | (with_reducible refine a_andV ?_)
  | (with_reducible refine a_orV ?_)
  | (with_reducible refine a_notV ?_)
  | (with_reducible refine a_chain ?_)
  | ((with_reducible refine' a_tyL ?h ?_); (case h => walk_at "side"))
  | ((with_reducible refine' a_ixT ?h ?e ?_); (case h => walk_at "side"); (case e => exact rfl)))
local macro_rules | `(tactic| walk_at "hs") => `(tactic| repeat walk_at "hs1")
local macro_rules | `(tactic| walk_at "sm") => `(tactic| first | exact Same.refl _ | assumption | (refine Same.trans ?_ (by assumption); walk_at "sm"))

/-! ### the text -/
def topS (i : Nat) : Stmt := PySem.Challenge.pw_layerask_k15_rows_that_do_not_fit.main.body.getD i (.Pass ⟨0, 0, 0, 0⟩)
abbrev s_is_prime : Stmt := topS 7
abbrev N_is_prime : List Str := ["number", "divisor"]
theorem sc_is_prime : FnScope N_is_prime ["number"] (defScope s_is_prime) := ⟨rfl, rfl, rfl, by decide +kernel, rfl, by decide +kernel, by decide +kernel⟩
abbrev s_check_modulus : Stmt := topS 8
abbrev N_check_modulus : List Str := ["p"]
theorem sc_check_modulus : FnScope N_check_modulus ["p"] (defScope s_check_modulus) := ⟨rfl, rfl, rfl, by decide +kernel, rfl, by decide +kernel, by decide +kernel⟩
abbrev s_is_number : Stmt := topS 9
abbrev N_is_number : List Str := ["number", "p"]
theorem sc_is_number : FnScope N_is_number ["number", "p"] (defScope s_is_number) := ⟨rfl, rfl, rfl, by decide +kernel, rfl, by decide +kernel, by decide +kernel⟩
abbrev s_is_integer_kind : Stmt := topS 10
abbrev N_is_integer_kind : List Str := ["thing"]
theorem sc_is_integer_kind : FnScope N_is_integer_kind ["thing"] (defScope s_is_integer_kind) := ⟨rfl, rfl, rfl, by decide +kernel, rfl, by decide +kernel, by decide +kernel⟩
abbrev s_are_numbers : Stmt := topS 11
abbrev N_are_numbers : List Str := ["thing", "many", "p", "entry"]
theorem sc_are_numbers : FnScope N_are_numbers ["thing", "many", "p"] (defScope s_are_numbers) := ⟨rfl, rfl, rfl, by decide +kernel, rfl, by decide +kernel, by decide +kernel⟩
abbrev s_modulus : Stmt := topS 17
abbrev N_modulus : List Str := ["circuit"]
theorem sc_modulus : FnScope N_modulus ["circuit"] (defScope s_modulus) := ⟨rfl, rfl, rfl, by decide +kernel, rfl, by decide +kernel, by decide +kernel⟩
abbrev s_depth : Stmt := topS 18
abbrev N_depth : List Str := ["circuit"]
theorem sc_depth : FnScope N_depth ["circuit"] (defScope s_depth) := ⟨rfl, rfl, rfl, by decide +kernel, rfl, by decide +kernel, by decide +kernel⟩
abbrev s_width : Stmt := topS 19
abbrev N_width : List Str := ["circuit", "layer"]
theorem sc_width : FnScope N_width ["circuit", "layer"] (defScope s_width) := ⟨rfl, rfl, rfl, by decide +kernel, rfl, by decide +kernel, by decide +kernel⟩
abbrev s_has_form : Stmt := topS 20
abbrev N_has_form : List Str := ["circuit", "_", "p", "widths", "layers", "bits"]
theorem sc_has_form : FnScope N_has_form ["circuit"] (defScope s_has_form) := ⟨rfl, rfl, rfl, by decide +kernel, rfl, by decide +kernel, by decide +kernel⟩
abbrev s_check_limits : Stmt := topS 21
abbrev N_check_limits : List Str := ["widths", "bits"]
theorem sc_check_limits : FnScope N_check_limits ["widths"] (defScope s_check_limits) := ⟨rfl, rfl, rfl, by decide +kernel, rfl, by decide +kernel, by decide +kernel⟩
abbrev s_is_gate : Stmt := topS 22
abbrev N_is_gate : List Str := ["thing", "columns", "p", "_", "a", "x", "b", "y", "c"]
theorem sc_is_gate : FnScope N_is_gate ["thing", "columns", "p"] (defScope s_is_gate) := ⟨rfl, rfl, rfl, by decide +kernel, rfl, by decide +kernel, by decide +kernel⟩
abbrev s_check_layer : Stmt := topS 23
abbrev N_check_layer : List Str := ["gates", "many", "columns", "p", "gate"]
theorem sc_check_layer : FnScope N_check_layer ["gates", "many", "columns", "p"] (defScope s_check_layer) := ⟨rfl, rfl, rfl, by decide +kernel, rfl, by decide +kernel, by decide +kernel⟩
abbrev s_checked : Stmt := topS 24
abbrev N_checked : List Str := ["circuit", "_", "p", "widths", "layers", "at", "gates"]
theorem sc_checked : FnScope N_checked ["circuit"] (defScope s_checked) := ⟨rfl, rfl, rfl, by decide +kernel, rfl, by decide +kernel, by decide +kernel⟩
abbrev s_checked_rows : Stmt := topS 25
abbrev N_checked_rows : List Str := ["circuit", "rows", "columns", "row"]
theorem sc_checked_rows : FnScope N_checked_rows ["circuit", "rows"] (defScope s_checked_rows) := ⟨rfl, rfl, rfl, by decide +kernel, rfl, by decide +kernel, by decide +kernel⟩
abbrev s_gate_values : Stmt := topS 26
abbrev N_gate_values : List Str := ["gate", "columns", "p", "_", "a", "x", "b", "y", "left", "right", "c"]
theorem sc_gate_values : FnScope N_gate_values ["gate", "columns", "p"] (defScope s_gate_values) := ⟨rfl, rfl, rfl, by decide +kernel, rfl, by decide +kernel, by decide +kernel⟩
abbrev s_table_of : Stmt := topS 27
abbrev N_table_of : List Str := ["columns", "column", "entry"]
theorem sc_table_of : FnScope N_table_of ["columns"] (defScope s_table_of) := ⟨rfl, rfl, rfl, by decide +kernel, rfl, by decide +kernel, by decide +kernel⟩
abbrev s_columns_of : Stmt := topS 28
abbrev N_columns_of : List Str := ["rows", "row", "at"]
theorem sc_columns_of : FnScope N_columns_of ["rows"] (defScope s_columns_of) := ⟨rfl, rfl, rfl, by decide +kernel, rfl, by decide +kernel, by decide +kernel⟩
abbrev s_layer_tables : Stmt := topS 29
abbrev N_layer_tables : List Str := ["circuit", "rows", "columns", "tables", "gates", "gate"]
theorem sc_layer_tables : FnScope N_layer_tables ["circuit", "rows"] (defScope s_layer_tables) := ⟨rfl, rfl, rfl, by decide +kernel, rfl, by decide +kernel, by decide +kernel⟩
abbrev s_run : Stmt := topS 30
abbrev N_run : List Str := ["circuit", "rows"]
theorem sc_run : FnScope N_run ["circuit", "rows"] (defScope s_run) := ⟨rfl, rfl, rfl, by decide +kernel, rfl, by decide +kernel, by decide +kernel⟩
abbrev s__law_stream : Stmt := topS 32
abbrev N__law_stream : List Str := ["script", "row", "cell", "left", "k", "seed"]
theorem sc__law_stream : FnScope N__law_stream ["script"] (defScope s__law_stream) := ⟨rfl, rfl, rfl, by decide +kernel, rfl, by decide +kernel, by decide +kernel⟩
abbrev s__law_take : Stmt := topS 33
abbrev N__law_take : List Str := ["row", "many"]
theorem sc__law_take : FnScope N__law_take ["row", "many"] (defScope s__law_take) := ⟨rfl, rfl, rfl, by decide +kernel, rfl, by decide +kernel, by decide +kernel⟩
abbrev s__law_gate : Stmt := topS 34
abbrev N__law_gate : List Str := ["row", "p", "columns"]
theorem sc__law_gate : FnScope N__law_gate ["row", "p", "columns"] (defScope s__law_gate) := ⟨rfl, rfl, rfl, by decide +kernel, rfl, by decide +kernel, by decide +kernel⟩
abbrev s__law_circuit : Stmt := topS 35
abbrev N__law_circuit : List Str := ["row", "most", "wide", "p", "many", "widths", "k", "layers", "i"]
theorem sc__law_circuit : FnScope N__law_circuit ["row", "most", "wide"] (defScope s__law_circuit) := ⟨rfl, rfl, rfl, by decide +kernel, rfl, by decide +kernel, by decide +kernel⟩
abbrev s__law_inputs : Stmt := topS 36
abbrev N__law_inputs : List Str := ["row", "circuit", "bits", "columns", "k", "r"]
theorem sc__law_inputs : FnScope N__law_inputs ["row", "circuit", "bits"] (defScope s__law_inputs) := ⟨rfl, rfl, rfl, by decide +kernel, rfl, by decide +kernel, by decide +kernel⟩
abbrev s__law_fault : Stmt := topS 37
abbrev N__law_fault : List Str := ["row", "circuit", "rows", "p", "at", "one", "faults", "wrong"]
theorem sc__law_fault : FnScope N__law_fault ["row", "circuit", "rows"] (defScope s__law_fault) := ⟨rfl, rfl, rfl, by decide +kernel, rfl, by decide +kernel, by decide +kernel⟩
abbrev s__law_raised : Stmt := topS 38
abbrev N__law_raised : List Str := ["circuit", "rows", "whole", "e"]
theorem sc__law_raised : FnScope N__law_raised ["circuit", "rows", "whole"] (defScope s__law_raised) := ⟨rfl, rfl, rfl, by decide +kernel, rfl, by decide +kernel, by decide +kernel⟩
abbrev s_law : Stmt := topS 39
abbrev N_law : List Str := ["script", "row", "circuit", "rows", "wrong", "due", "kept"]
theorem sc_law : FnScope N_law ["script"] (defScope s_law) := ⟨rfl, rfl, rfl, by decide +kernel, rfl, by decide +kernel, by decide +kernel⟩
structure Txt (P : Program) (w : World) (K : PySem.W.Frag) (mg : Str → Option Value) where
  f_is_prime : Addr
  fd_is_prime : FuncData
  F_is_prime : Fun K "is_prime" "is_prime" s_is_prime f_is_prime fd_is_prime
  b_is_prime : Binds K fd_is_prime ["number"] []
  g_is_prime : mg "is_prime" = some (.ref f_is_prime)
  f_check_modulus : Addr
  fd_check_modulus : FuncData
  F_check_modulus : Fun K "check_modulus" "check_modulus" s_check_modulus f_check_modulus fd_check_modulus
  b_check_modulus : Binds K fd_check_modulus ["p"] []
  g_check_modulus : mg "check_modulus" = some (.ref f_check_modulus)
  f_is_number : Addr
  fd_is_number : FuncData
  F_is_number : Fun K "is_number" "is_number" s_is_number f_is_number fd_is_number
  b_is_number : Binds K fd_is_number ["number", "p"] []
  g_is_number : mg "is_number" = some (.ref f_is_number)
  f_is_integer_kind : Addr
  fd_is_integer_kind : FuncData
  F_is_integer_kind : Fun K "is_integer_kind" "is_integer_kind" s_is_integer_kind f_is_integer_kind fd_is_integer_kind
  b_is_integer_kind : Binds K fd_is_integer_kind ["thing"] []
  g_is_integer_kind : mg "is_integer_kind" = some (.ref f_is_integer_kind)
  f_are_numbers : Addr
  fd_are_numbers : FuncData
  F_are_numbers : Fun K "are_numbers" "are_numbers" s_are_numbers f_are_numbers fd_are_numbers
  b_are_numbers : Binds K fd_are_numbers ["thing", "many", "p"] []
  g_are_numbers : mg "are_numbers" = some (.ref f_are_numbers)
  f_modulus : Addr
  fd_modulus : FuncData
  F_modulus : Fun K "modulus" "modulus" s_modulus f_modulus fd_modulus
  b_modulus : Binds K fd_modulus ["circuit"] []
  g_modulus : mg "modulus" = some (.ref f_modulus)
  f_depth : Addr
  fd_depth : FuncData
  F_depth : Fun K "depth" "depth" s_depth f_depth fd_depth
  b_depth : Binds K fd_depth ["circuit"] []
  g_depth : mg "depth" = some (.ref f_depth)
  f_width : Addr
  fd_width : FuncData
  F_width : Fun K "width" "width" s_width f_width fd_width
  b_width : Binds K fd_width ["circuit", "layer"] []
  g_width : mg "width" = some (.ref f_width)
  f_has_form : Addr
  fd_has_form : FuncData
  F_has_form : Fun K "has_form" "has_form" s_has_form f_has_form fd_has_form
  b_has_form : Binds K fd_has_form ["circuit"] []
  g_has_form : mg "has_form" = some (.ref f_has_form)
  f_check_limits : Addr
  fd_check_limits : FuncData
  F_check_limits : Fun K "check_limits" "check_limits" s_check_limits f_check_limits fd_check_limits
  b_check_limits : Binds K fd_check_limits ["widths"] []
  g_check_limits : mg "check_limits" = some (.ref f_check_limits)
  f_is_gate : Addr
  fd_is_gate : FuncData
  F_is_gate : Fun K "is_gate" "is_gate" s_is_gate f_is_gate fd_is_gate
  b_is_gate : Binds K fd_is_gate ["thing", "columns", "p"] []
  g_is_gate : mg "is_gate" = some (.ref f_is_gate)
  f_check_layer : Addr
  fd_check_layer : FuncData
  F_check_layer : Fun K "check_layer" "check_layer" s_check_layer f_check_layer fd_check_layer
  b_check_layer : Binds K fd_check_layer ["gates", "many", "columns", "p"] []
  g_check_layer : mg "check_layer" = some (.ref f_check_layer)
  f_checked : Addr
  fd_checked : FuncData
  F_checked : Fun K "checked" "checked" s_checked f_checked fd_checked
  b_checked : Binds K fd_checked ["circuit"] []
  g_checked : mg "checked" = some (.ref f_checked)
  f_checked_rows : Addr
  fd_checked_rows : FuncData
  F_checked_rows : Fun K "checked_rows" "checked_rows" s_checked_rows f_checked_rows fd_checked_rows
  b_checked_rows : Binds K fd_checked_rows ["circuit", "rows"] []
  g_checked_rows : mg "checked_rows" = some (.ref f_checked_rows)
  f_gate_values : Addr
  fd_gate_values : FuncData
  F_gate_values : Fun K "gate_values" "gate_values" s_gate_values f_gate_values fd_gate_values
  b_gate_values : Binds K fd_gate_values ["gate", "columns", "p"] []
  g_gate_values : mg "gate_values" = some (.ref f_gate_values)
  f_table_of : Addr
  fd_table_of : FuncData
  F_table_of : Fun K "table_of" "table_of" s_table_of f_table_of fd_table_of
  b_table_of : Binds K fd_table_of ["columns"] []
  g_table_of : mg "table_of" = some (.ref f_table_of)
  f_columns_of : Addr
  fd_columns_of : FuncData
  F_columns_of : Fun K "columns_of" "columns_of" s_columns_of f_columns_of fd_columns_of
  b_columns_of : Binds K fd_columns_of ["rows"] []
  g_columns_of : mg "columns_of" = some (.ref f_columns_of)
  f_layer_tables : Addr
  fd_layer_tables : FuncData
  F_layer_tables : Fun K "layer_tables" "layer_tables" s_layer_tables f_layer_tables fd_layer_tables
  b_layer_tables : Binds K fd_layer_tables ["circuit", "rows"] []
  g_layer_tables : mg "layer_tables" = some (.ref f_layer_tables)
  f_run : Addr
  fd_run : FuncData
  F_run : Fun K "run" "run" s_run f_run fd_run
  b_run : Binds K fd_run ["circuit", "rows"] []
  g_run : mg "run" = some (.ref f_run)
  f__law_stream : Addr
  fd__law_stream : FuncData
  F__law_stream : Fun K "_law_stream" "_law_stream" s__law_stream f__law_stream fd__law_stream
  b__law_stream : Binds K fd__law_stream ["script"] []
  g__law_stream : mg "_law_stream" = some (.ref f__law_stream)
  f__law_take : Addr
  fd__law_take : FuncData
  F__law_take : Fun K "_law_take" "_law_take" s__law_take f__law_take fd__law_take
  b__law_take : Binds K fd__law_take ["row", "many"] []
  g__law_take : mg "_law_take" = some (.ref f__law_take)
  f__law_gate : Addr
  fd__law_gate : FuncData
  F__law_gate : Fun K "_law_gate" "_law_gate" s__law_gate f__law_gate fd__law_gate
  b__law_gate : Binds K fd__law_gate ["row", "p", "columns"] []
  g__law_gate : mg "_law_gate" = some (.ref f__law_gate)
  f__law_circuit : Addr
  fd__law_circuit : FuncData
  F__law_circuit : Fun K "_law_circuit" "_law_circuit" s__law_circuit f__law_circuit fd__law_circuit
  b__law_circuit : Binds K fd__law_circuit ["row", "most", "wide"] []
  g__law_circuit : mg "_law_circuit" = some (.ref f__law_circuit)
  f__law_inputs : Addr
  fd__law_inputs : FuncData
  F__law_inputs : Fun K "_law_inputs" "_law_inputs" s__law_inputs f__law_inputs fd__law_inputs
  b__law_inputs : Binds K fd__law_inputs ["row", "circuit", "bits"] []
  g__law_inputs : mg "_law_inputs" = some (.ref f__law_inputs)
  f__law_fault : Addr
  fd__law_fault : FuncData
  F__law_fault : Fun K "_law_fault" "_law_fault" s__law_fault f__law_fault fd__law_fault
  b__law_fault : Binds K fd__law_fault ["row", "circuit", "rows"] []
  g__law_fault : mg "_law_fault" = some (.ref f__law_fault)
  f__law_raised : Addr
  fd__law_raised : FuncData
  F__law_raised : Fun K "_law_raised" "_law_raised" s__law_raised f__law_raised fd__law_raised
  b__law_raised : Binds K fd__law_raised ["circuit", "rows", "whole"] []
  g__law_raised : mg "_law_raised" = some (.ref f__law_raised)
  f_law : Addr
  fd_law : FuncData
  F_law : Fun K "law" "law" s_law f_law fd_law
  b_law : Binds K fd_law ["script"] []
  g_law : mg "law" = some (.ref f_law)
  o_are_numbers : Addr
  p_are_numbers : Addr
  hc_are_numbers : fd_are_numbers.code = .ref o_are_numbers
  o_has_form : Addr
  p_has_form : Addr
  hc_has_form : fd_has_form.code = .ref o_has_form
  o_check_limits : Addr
  p_check_limits : Addr
  hc_check_limits : fd_check_limits.code = .ref o_check_limits
  m_abs : mg "abs" = none
  m_all : mg "all" = none
  m_bool : mg "bool" = none
  m_enumerate : mg "enumerate" = none
  m_int : mg "int" = none
  m_isinstance : mg "isinstance" = none
  m_len : mg "len" = none
  m_list : mg "list" = none
  m_max : mg "max" = none
  m_range : mg "range" = none
  m_repr : mg "repr" = none
  m_reversed : mg "reversed" = none
  m_sum : mg "sum" = none
  m_tuple : mg "tuple" = none
  m_zip : mg "zip" = none
  c_GREATEST_MODULUS : ∃ tk, mg "GREATEST_MODULUS" = some (.int 2147483647 tk)
  c_MOST_BITS : ∃ tk, mg "MOST_BITS" = some (.int 8 tk)
  c_MOST_GATES : ∃ tk, mg "MOST_GATES" = some (.int 4096 tk)
  c_MOST_LAYERS : ∃ tk, mg "MOST_LAYERS" = some (.int 64 tk)
  c_MOST_ROWS : ∃ tk, mg "MOST_ROWS" = some (.int 1024 tk)
  C_FieldError : Addr
  E_FieldError : Err P w K mg "FieldError" "number" C_FieldError (fun _ => True)
  C_CircuitError : Addr
  E_CircuitError : Err P w K mg "CircuitError" "part" C_CircuitError (fun v => ∃ z : Str, v = .str z ∧ z.length ≤ 1000)
  C_SizeError : Addr
  E_SizeError : Err P w K mg "SizeError" "limit" C_SizeError (fun v => ∃ z : Str, v = .str z ∧ z.length ≤ 1000)
  C_LayeraskError : Addr
  g_LayeraskError : mg "LayeraskError" = some (.ref C_LayeraskError)
  kit_FieldError_LayeraskError : PySem.W.kitOne K (.ref C_FieldError) (.ref C_LayeraskError) = some true
  kit_CircuitError_LayeraskError : PySem.W.kitOne K (.ref C_CircuitError) (.ref C_LayeraskError) = some true
  kit_SizeError_LayeraskError : PySem.W.kitOne K (.ref C_SizeError) (.ref C_LayeraskError) = some true
  kit_CircuitError_CircuitError : PySem.W.kitOne K (.ref C_CircuitError) (.ref C_CircuitError) = some true
  kit_SizeError_SizeError : PySem.W.kitOne K (.ref C_SizeError) (.ref C_SizeError) = some true
  kit_FieldError_FieldError : PySem.W.kitOne K (.ref C_FieldError) (.ref C_FieldError) = some true
  kit_SizeError_CircuitError : PySem.W.kitOne K (.ref C_SizeError) (.ref C_CircuitError) = some false
  kit_FieldError_CircuitError : PySem.W.kitOne K (.ref C_FieldError) (.ref C_CircuitError) = some false
  kit_FieldError_SizeError : PySem.W.kitOne K (.ref C_FieldError) (.ref C_SizeError) = some false
  exm_FieldError_LayeraskError : PySem.W.exmOne K (.ref C_FieldError) (.ref C_LayeraskError) = some true
  exm_CircuitError_LayeraskError : PySem.W.exmOne K (.ref C_CircuitError) (.ref C_LayeraskError) = some true
  exm_SizeError_LayeraskError : PySem.W.exmOne K (.ref C_SizeError) (.ref C_LayeraskError) = some true
structure Tbs (P : Program) (w : World) (K : PySem.W.Frag) (mg : Str → Option Value) (base : Heap) (T : Txt P w K mg) : Prop where
  tb_are_numbers : GxR.TabB base mg T.o_are_numbers T.p_are_numbers
  tb_has_form : GxR.TabB base mg T.o_has_form T.p_has_form
  tb_check_limits : GxR.TabB base mg T.o_check_limits T.p_check_limits
def Txt.ts {P : Program} {w : World} {K : PySem.W.Frag} {mg : Str → Option Value} (T : Txt P w K mg) : List Addr := [T.p_are_numbers, T.p_has_form, T.p_check_limits]
theorem Txt.mem_are_numbers {P : Program} {w : World} {K : PySem.W.Frag} {mg : Str → Option Value} (T : Txt P w K mg) : T.p_are_numbers ∈ T.ts := by unfold Txt.ts; simp
theorem Txt.mem_has_form {P : Program} {w : World} {K : PySem.W.Frag} {mg : Str → Option Value} (T : Txt P w K mg) : T.p_has_form ∈ T.ts := by unfold Txt.ts; simp
theorem Txt.mem_check_limits {P : Program} {w : World} {K : PySem.W.Frag} {mg : Str → Option Value} (T : Txt P w K mg) : T.p_check_limits ∈ T.ts := by unfold Txt.ts; simp
/-! ### the promises -/
section
variable {P : Program} {w : World} {K : PySem.W.Frag} {mg : Str → Option Value} {base : Heap}
def sp_is_prime : Sp := fun vs H Q _ => ∃ n : Int, vs = [.int n] ∧ n < 1000000000000 ∧ Q (.bl (isP n)) H
theorem ok_is_prime (T : Txt P w K mg) (B : Tbs P w K mg base T) : FnOk P w K mg base CX0 1 T.f_is_prime T.fd_is_prime ["number"] (sp_is_prime) := by
  refine T.F_is_prime.ok sc_is_prime (fun vs H Q E h => ?len) (fun cdv A outer s H vs Q E hr h => ?body)
  · obtain ⟨n, rfl, _⟩ := h
    rfl
  · obtain ⟨n, rfl, hn, q⟩ := h
    refine ⟨_, (pss_cons (ps_if (pt_cmpR op_lt (pv 0) pe_int (nomark _)) (pss_one (ps_ret (pe_cmpR op_gt (pv 0) pe_int (nomark _)))) pss_nil)
      (pss_cons (ps_if (pt_cmpR op_eq (pe_op op_mod (pv 0) pe_int) pe_int (nomark _)) (pss_one (ps_ret pe_bl)) pss_nil)
      (pss_cons (ps_set (i := 1) sc_is_prime.nd rfl (.inl rfl) pe_int)
      (pss_cons (ps_while PassesOwn.never (pt_cmpR op_le (pe_op op_mul (pv 1) (pv 1)) (pv 0) (nomark _)) (pss_cons (ps_if (pt_cmpR op_eq (pe_op op_mod (pv 0) (pv 1)) pe_int (nomark _)) (pss_one (ps_ret pe_bl)) pss_nil)
      (pss_one (ps_aug (i := 1) sc_is_prime.nd rfl (.inl rfl) pe_int ip_add))))
      (pss_one (ps_ret pe_bl)))))), ?_⟩
    walk_at "hs"
    refine ifd (fun h4 => ?_) (fun h4 => ?_)
    · walk_at "hs"
      rw [isP_small h4] at q
      exact q
    · walk_at "hs"
      refine ifd (fun h2 => ?_) (fun h2 => ?_)
      · walk_at "hs"
        rw [isP_even (by omega) h2] at q
        exact q
      · walk_at "hs"
        refine a_while (fun m σ H' => H' = H ∧ ∃ d : Int, σ = [some (.int n), some (.int d)] ∧ 3 ≤ d ∧ d % 2 = 1 ∧ d ≤ n + 2 ∧ None n d ∧ m = (n + 2 - d).toNat) _ ⟨rfl, 3, rfl, by omega, by omega, by omega, none_three h2, rfl⟩ ?_
        rintro m σ H' ⟨rfl, d, rfl, h3, ho, hb, hN, rfl⟩
        walk_at "hs"
        refine ifd (fun hd => ?_) (fun hd => ?_)
        · refine ⟨_, fun _ _ z => z, ?_⟩
          have hle := sq_le (by omega) hd
          walk_at "hs"
          refine ifd (fun hz => ?_) (fun hz => ?_)
          · walk_at "hs"
            rw [isP_found (by omega) hd hz] at q
            exact q
          · walk_at "hs"
            exact ⟨_, by omega, rfl, d + 2, rfl, by omega, by omega, by omega, none_next hN hz ho h2, rfl⟩
        · walk_at "hs"
          rw [isP_end (by omega) hN (by omega) hd] at q
          exact q
def sp_check_modulus (C : Addr) : Sp := fun vs H Q E => ∃ n : Int, vs = [.int n] ∧ (goodM n = true → Q .non H) ∧ (goodM n = false → ∀ d, H d = none → E (.ref C) (some d) (upd H d (.xd [("number", .int n)])))
theorem ok_check_modulus (T : Txt P w K mg) (B : Tbs P w K mg base T) : FnOk P w K mg base (L2.CX P w) 2 T.f_check_modulus T.fd_check_modulus ["p"] (sp_check_modulus T.C_FieldError) := by
  have G_is_prime := ok_is_prime (P := P) (w := w) (base := base) T B
  refine T.F_check_modulus.okX sc_check_modulus (fun vs H Q E h => ?len) (fun cdv A outer s H vs Q E hr h => ?body)
  · obtain ⟨n, rfl, _⟩ := h
    rfl
  · obtain ⟨n, rfl, q1, q2⟩ := h
    refine ⟨_, (pss_one (ps_if (pw_or (pt_cmpR op_lt (pv 0) pe_int (nomark _)) (pw_or (pt_cmpR op_gt (pv 0) (pe_glob (v := .int 2147483647) (by rfl) T.c_GREATEST_MODULUS.choose_spec ⟨_, rfl⟩) (nomark _)) (pw_or1 (pt_not (pt_val (pe_call G_is_prime (hr.mono (by decide)) (by rfl) T.g_is_prime T.F_is_prime.kp T.b_is_prime .nil pass0 (pa_cons (pv 0) pa_nil))))))).pt (pss_one (ps_raiseE (k := 0) (W := fun cls d _ H => E cls d H) rfl T.E_FieldError (hr.mono (by decide)) (takes_of rfl rfl rfl rfl) (by exact (pa_cons (pv 0) pa_nil)))) pss_nil)), ?_⟩
    walk_at "hs"
    refine ifd (fun h2 => ?_) (fun h2 => ?_)
    · refine ift ?_
      walk_at "hs"
      exact ⟨_, rfl, trivial, fun d hd => q2 (good_low h2) d hd⟩
    · walk_at "hs"
      refine ifd (fun h3 => ?_) (fun h3 => ?_)
      · refine ift ?_
        walk_at "hs"
        exact ⟨_, rfl, trivial, fun d hd => q2 (good_big (by omega)) d hd⟩
      · walk_at "hs"
        refine ⟨n, rfl, by omega, ?_⟩
        have hg := good_isP (n := n) (by omega)
        rw [hg] at q1 q2
        walk_at "hs"
        refine ifb (fun h4 => ?_) (fun h4 => ?_)
        · walk_at "hs"
          exact ⟨_, rfl, trivial, fun d hd => q2 (by revert h4; cases isP n <;> simp) d hd⟩
        · walk_at "hs"
          exact q1 (by revert h4; cases isP n <;> simp)
def sp_is_number : Sp := fun vs H Q _ => ∃ a p : Int, vs = [.int a, .int p] ∧ Q (.bl (decide (0 ≤ a ∧ a < p))) H
theorem ok_is_number (T : Txt P w K mg) (B : Tbs P w K mg base T) : FnOk P w K mg base CX0 1 T.f_is_number T.fd_is_number ["number", "p"] (sp_is_number) := by
  refine T.F_is_number.ok sc_is_number (fun vs H Q E h => ?len) (fun cdv A outer s H vs Q E hr h => ?body)
  · obtain ⟨a, p, rfl, _⟩ := h
    rfl
  · obtain ⟨a, p, rfl, q⟩ := h
    refine ⟨_, (pss_one (ps_ret (pe_chain op_le op_lt pe_int (pv 0) (pv 1)))), ?_⟩
    walk_at "hs"
    refine ifd (fun h2 => ?_) (fun h2 => ?_)
    · walk_at "hs"
      rw [show decide (0 ≤ a ∧ a < p) = decide (a < p) from by by_cases z : a < p <;> simp [z, h2]] at q
      exact q
    · rw [show decide (0 ≤ a ∧ a < p) = false from decide_eq_false fun z => h2 z.1] at q
      exact q
def sp_is_integer_kind (K : PySem.W.Frag) : Sp := fun vs H Q _ => ∃ v d, vs = [v] ∧ Dp K H v d ∧ Q (.bl (intK d)) H
theorem ok_is_integer_kind (T : Txt P w K mg) (B : Tbs P w K mg base T) : FnOk P w K mg base CX0 1 T.f_is_integer_kind T.fd_is_integer_kind ["thing"] (sp_is_integer_kind K) := by
  refine T.F_is_integer_kind.ok sc_is_integer_kind (fun vs H Q E h => ?len) (fun cdv A outer s H vs Q E hr h => ?body)
  · obtain ⟨v, d, rfl, _⟩ := h
    rfl
  · obtain ⟨v, d, rfl, hd, q⟩ := h
    refine ⟨_, (pss_one (ps_ret (pe_and (pe_callB (isi_ (K := K) rfl) (by rfl) T.m_isinstance (by decide +kernel) (pa_cons (pv 0) (pa_cons (pe_bltn (v := .ty "int") (by rfl) T.m_int (by decide +kernel) rfl) pa_nil))) (pe_one (pe_not (pe_callB (isi_ (K := K) rfl) (by rfl) T.m_isinstance (by decide +kernel) (pa_cons (pv 0) (pa_cons (pe_bltn (v := .ty "bool") (by rfl) T.m_bool (by decide +kernel) rfl) pa_nil)))))))), ?_⟩
    walk_at "hs"
    refine a_isD hd (.inr (.inr (.inl rfl))) ?_
    walk_at "hs"
    refine ifb (fun h1 => ?_) (fun h1 => ?_)
    · walk_at "hs"
      refine a_isD hd (.inr (.inr (.inr rfl))) ?_
      walk_at "hs"
      have e : intK d = !isB "bool" d := by unfold intK; rw [h1]; rfl
      rw [e] at q
      exact q
    · have e : intK d = false := by unfold intK; rw [h1]; rfl
      rw [e] at q
      walk_at "hs"
      exact q
def sp_are_numbers (K : PySem.W.Frag) (ts : List Addr) : Sp := fun vs H Q _ => ∃ v d many p, vs = [v, .int many, .int p] ∧ Dp K H v d ∧ TabsG ts H ∧ ∀ H', Nt H H' → TabsG ts H' → Q (.bl (areN d many p)) H'
theorem ok_are_numbers (T : Txt P w K mg) (B : Tbs P w K mg base T) : FnOk P w K mg base CX0 5 T.f_are_numbers T.fd_are_numbers ["thing", "many", "p"] (sp_are_numbers K T.ts) := by
  have G_is_integer_kind := ok_is_integer_kind (P := P) (w := w) (base := base) T B
  have G_is_number := ok_is_number (P := P) (w := w) (base := base) T B
  refine okC T.F_are_numbers T.hc_are_numbers sc_are_numbers (fun vs H Q E h => ?len) (fun A outer s H vs Q E hr h => ?body)
  · obtain ⟨v, d, many, p, rfl, _⟩ := h
    rfl
  · obtain ⟨v, d, many, p, rfl, hd, tg, q⟩ := h
    refine ⟨_, (pss_cons (ps_if (pw_or (pt_not (pt_val (pe_callB (isi_ (K := K) rfl) (by rfl) T.m_isinstance (by decide +kernel) (pa_cons (pv 0) (pa_cons (pe_bltn (v := .ty "list") (by rfl) T.m_list (by decide +kernel) rfl) pa_nil))))) (pw_or1 (pt_cmpR op_ne (pe_callB (lenK_ (K := K) rfl) (by rfl) T.m_len PySem.boot_len (pa_cons (pv 0) pa_nil)) (pv 1) (nomark _)))).pt (pss_one (ps_ret pe_bl)) pss_nil)
      (pss_one (ps_ret (pe_allG (k := 1) (hr.mono (by decide)) (by rfl) T.m_all B.tb_are_numbers rfl (own := [("entry", 3)]) sc_are_numbers.nd (blkOk_by (own := [("entry", 3)]) (N := N_are_numbers) (sc := defScope s_are_numbers) (by decide +kernel)) (by decide +kernel) rfl rfl (piL_ (K := K) rfl (pv 0)) (fun _ _ _ _ _ _ => (pg_name (i := 3) sc_are_numbers.nd rfl (.inl rfl))) (fun _ _ _ _ _ _ => (pe_and (pe_call G_is_integer_kind ((gxRoom (k := 1) hr (by decide)).mono (by decide)) (by rfl) T.g_is_integer_kind T.F_is_integer_kind.kp T.b_is_integer_kind .nil pass0 (pa_cons (pv 3) pa_nil)) (pe_one (pe_call G_is_number ((gxRoom (k := 1) hr (by decide)).mono (by decide)) (by rfl) T.g_is_number T.F_is_number.kp T.b_is_number .nil pass0 (pa_cons (pv 3) (pa_cons (pv 2) pa_nil)))))))))), ?_⟩
    walk_at "hs"
    refine a_isD hd (.inl rfl) ?_
    walk_at "hs"
    refine ifb (fun h1 => ?_) (fun h1 => ?_)
    · refine ift ?_
      walk_at "hs"
      have e := areN_no (many := many) (p := p) (show isB "list" d = false by revert h1; cases isB "list" d <;> simp)
      have := q H (Nt.refl H) tg
      rw [e] at this
      exact this
    · obtain ⟨xs, rfl⟩ := isB_list (d := d) (by revert h1; cases isB "list" d <;> simp)
      obtain ⟨a, ys, rfl, hS, hA⟩ := dp_list hd
      have hlen := dpAll_len hA
      walk_at "hs"
      rw [hlen]
      refine ifnd (fun h2 => ?_) (fun h2 => ?_)
      · walk_at "hs"
        have := q H (Nt.refl H) tg
        rw [areN_list, decide_eq_false h2] at this
        exact this
      · walk_at "hs"
        refine g_all (ts := T.ts) (xs.map (numB p)) rfl (fun R r => a_var rfl r) hS T.mem_are_numbers tg (by rw [List.length_map, hlen]) ?_ ?_
        · intro j x b hx hb H' R n t r
          obtain ⟨dx, hdx, hD⟩ := dpAll_at hA hx
          have eb : b = numB p dx := by
            rw [List.getElem?_map, hdx] at hb
            exact (Option.some.inj hb).symm
          walk_at "hs"
          refine ⟨x, dx, rfl, n.dp hD, ?_⟩
          walk_at "hs"
          refine ifb (fun h3 => ?_) (fun h3 => ?_)
          · obtain ⟨i, rfl⟩ := intK_int h3
            obtain rfl := dp_int hD
            walk_at "hs"
            refine ⟨i, p, rfl, ?_⟩
            have := r H' (Nt.refl H') t
            rw [eb] at this
            exact this
          · have := r H' (Nt.refl H') t
            rw [eb, numB_no h3] at this
            exact this
        · intro H' n t
          have := q H' n t
          rw [areN_list, decide_eq_true h2, Bool.true_and] at this
          rw [List.all_map]
          exact this
def sp_modulus (K : PySem.W.Frag) : Sp := fun vs H Q _ => ∃ (a : Addr) (xs : List V) (v : V), vs = [.ref a] ∧ SqT K H a xs ∧ xs[1]? = some v ∧ Q v H
theorem ok_modulus (T : Txt P w K mg) (B : Tbs P w K mg base T) : FnOk P w K mg base CX0 1 T.f_modulus T.fd_modulus ["circuit"] (sp_modulus K) := by
  refine T.F_modulus.ok sc_modulus (fun vs H Q E h => ?len) (fun cdv A outer s H vs Q E hr h => ?body)
  · obtain ⟨a, xs, v, rfl, _⟩ := h
    rfl
  · obtain ⟨a, xs, v, rfl, hS, hv, q⟩ := h
    refine ⟨_, (pss_one (ps_ret (pe_ix (ixT_ (K := K) rfl) (pv 0) pe_int (fun _ _ => rfl)))), ?_⟩
    walk_at "hs"
    refine a_ixT hS (atI_nat (j := 1) hv) ?_
    exact q
def sp_depth (K : PySem.W.Frag) : Sp := fun vs H Q _ => ∃ (a b : Addr) (xs ys : List V), vs = [.ref a] ∧ SqT K H a xs ∧ xs[3]? = some (.ref b) ∧ SqL K H b ys ∧ Q (.int (ys.length : Int)) H
theorem ok_depth (T : Txt P w K mg) (B : Tbs P w K mg base T) : FnOk P w K mg base CX0 1 T.f_depth T.fd_depth ["circuit"] (sp_depth K) := by
  refine T.F_depth.ok sc_depth (fun vs H Q E h => ?len) (fun cdv A outer s H vs Q E hr h => ?body)
  · obtain ⟨a, b, xs, ys, rfl, _⟩ := h
    rfl
  · obtain ⟨a, b, xs, ys, rfl, hS, hv, hL, q⟩ := h
    refine ⟨_, (pss_one (ps_ret (pe_callB (lenK_ (K := K) rfl) (by rfl) T.m_len PySem.boot_len (pa_cons (pe_ix (ixT_ (K := K) rfl) (pv 0) pe_int (fun _ _ => rfl)) pa_nil)))), ?_⟩
    walk_at "hs"
    refine a_ixT hS (atI_nat (j := 3) hv) ?_
    walk_at "hs"
    exact q
def sp_width (K : PySem.W.Frag) : Sp := fun vs H Q _ => ∃ (a b : Addr) (xs : List V) (l : List Int) (k : Nat), vs = [.ref a, .int (k : Int)] ∧ SqT K H a xs ∧ xs[2]? = some (.ref b) ∧ SqL K H b (l.map V.int) ∧ k < l.length ∧ Q (.int (l.getD k 0)) H
theorem ok_width (T : Txt P w K mg) (B : Tbs P w K mg base T) : FnOk P w K mg base CX0 1 T.f_width T.fd_width ["circuit", "layer"] (sp_width K) := by
  refine T.F_width.ok sc_width (fun vs H Q E h => ?len) (fun cdv A outer s H vs Q E hr h => ?body)
  · obtain ⟨a, b, xs, l, k, rfl, _⟩ := h
    rfl
  · obtain ⟨a, b, xs, l, k, rfl, hS, hv, hL, hk, q⟩ := h
    refine ⟨_, (pss_one (ps_ret (pe_ix (ixL_ (K := K) rfl) (pe_ix (ixT_ (K := K) rfl) (pv 0) pe_int (fun _ _ => rfl)) (pv 1) (fun _ _ => rfl)))), ?_⟩
    walk_at "hs"
    refine a_ixT hS (atI_nat (j := 2) hv) ?_
    walk_at "hs"
    rw [Int.toNat_natCast]
    exact q
def sp_has_form (K : PySem.W.Frag) (ts : List Addr) : Sp := fun vs H Q _ => ∃ v d, vs = [v] ∧ Dp K H v d ∧ fdom d ∧ TabsG ts H ∧ ∀ H', Nt H H' → TabsG ts H' → Q (.bl (formB d)) H'
theorem ok_has_form (T : Txt P w K mg) (B : Tbs P w K mg base T) : FnOk P w K mg base CX0 5 T.f_has_form T.fd_has_form ["circuit"] (sp_has_form K T.ts) := by
  have G_is_integer_kind := ok_is_integer_kind (P := P) (w := w) (base := base) T B
  refine okC T.F_has_form T.hc_has_form sc_has_form (fun vs H Q E h => ?len) (fun A outer s H vs Q E hr h => ?body)
  · obtain ⟨v, d, rfl, _⟩ := h
    rfl
  · obtain ⟨v, d, rfl, hd, dom, tg, q⟩ := h
    have no : formB d = false → Q (.bl false) H := fun e => by
      have := q H (Nt.refl H) tg
      rw [e] at this
      exact this
    refine ⟨_, (pss_cons (ps_if (pw_or (pt_not (pt_val (pe_callB (isi_ (K := K) rfl) (by rfl) T.m_isinstance (by decide +kernel) (pa_cons (pv 0) (pa_cons (pe_bltn (v := .ty "tuple") (by rfl) T.m_tuple (by decide +kernel) rfl) pa_nil))))) (pw_or (pt_cmpR op_ne (pe_callB (lenK_ (K := K) rfl) (by rfl) T.m_len PySem.boot_len (pa_cons (pv 0) pa_nil)) pe_int (nomark _)) (pw_or1 (pt_cmpR op_ne (pe_ix (ixT_ (K := K) rfl) (pv 0) pe_int (fun _ _ => rfl)) pe_str (nomark _))))).pt (pss_one (ps_ret pe_bl)) pss_nil)
      (pss_cons (ps_asg (pv 0) (pgT_ (K := K) rfl (pg_tup (n := 4) rfl (pgs_cons (pg_name (i := 1) sc_has_form.nd rfl (.inl rfl)) (pgs_cons (pg_name (i := 2) sc_has_form.nd rfl (.inl rfl)) (pgs_cons (pg_name (i := 3) sc_has_form.nd rfl (.inl rfl)) (pgs_cons (pg_name (i := 4) sc_has_form.nd rfl (.inl rfl)) pgs_nil)))))))
      (pss_cons (ps_if (pw_or (pt_not (pt_val (pe_call G_is_integer_kind (hr.mono (by decide)) (by rfl) T.g_is_integer_kind T.F_is_integer_kind.kp T.b_is_integer_kind .nil pass0 (pa_cons (pv 2) pa_nil)))) (pw_or (pt_not (pt_val (pe_callB (isi_ (K := K) rfl) (by rfl) T.m_isinstance (by decide +kernel) (pa_cons (pv 3) (pa_cons (pe_bltn (v := .ty "list") (by rfl) T.m_list (by decide +kernel) rfl) pa_nil))))) (pw_or1 (pt_not (pt_val (pe_callB (isi_ (K := K) rfl) (by rfl) T.m_isinstance (by decide +kernel) (pa_cons (pv 4) (pa_cons (pe_bltn (v := .ty "list") (by rfl) T.m_list (by decide +kernel) rfl) pa_nil)))))))).pt (pss_one (ps_ret pe_bl)) pss_nil)
      (pss_cons (ps_if (pw_or (pt_not (ptL_ (K := K) rfl (pv 4) (fun _ => rfl))) (pw_or1 (pt_cmpR op_ne (pe_callB (lenK_ (K := K) rfl) (by rfl) T.m_len PySem.boot_len (pa_cons (pv 3) pa_nil)) (pe_op op_add (pe_callB (lenK_ (K := K) rfl) (by rfl) T.m_len PySem.boot_len (pa_cons (pv 4) pa_nil)) pe_int) (nomark _)))).pt (pss_one (ps_ret pe_bl)) pss_nil)
      (pss_one (ps_ret (pe_allG (k := 1) (hr.mono (by decide)) (by rfl) T.m_all B.tb_has_form rfl (own := [("bits", 5)]) sc_has_form.nd (blkOk_by (own := [("bits", 5)]) (N := N_has_form) (sc := defScope s_has_form) (by decide +kernel)) (by decide +kernel) rfl rfl (piL_ (K := K) rfl (pv 3)) (fun _ _ _ _ _ _ => (pg_name (i := 5) sc_has_form.nd rfl (.inl rfl))) (fun _ _ _ _ _ _ => (pe_and (pe_call G_is_integer_kind ((gxRoom (k := 1) hr (by decide)).mono (by decide)) (by rfl) T.g_is_integer_kind T.F_is_integer_kind.kp T.b_is_integer_kind .nil pass0 (pa_cons (pv 5) pa_nil)) (pe_one (pe_cmpR op_ge (pv 5) pe_int (nomark _)))))))))))), ?_⟩
    walk_at "hs"
    refine a_isD hd (.inr (.inl rfl)) ?_
    walk_at "hs"
    refine ifb (fun h1 => ?_) (fun h1 => ?_)
    · refine ift ?_
      walk_at "hs"
      exact no (form_no (nB h1))
    obtain ⟨xs, rfl⟩ := isB_tuple (nB' h1)
    obtain ⟨a, ys, rfl, hS, hA⟩ := dp_tuple hd
    have hlen := dpAll_len hA
    walk_at "hs"
    refine a_len2 hS ?_
    walk_at "hs"
    rw [hlen]
    refine ifnd (fun h2 => ?_) (fun h2 => ?_)
    · refine ift ?_
      walk_at "hs"
      exact no (form_len fun z => h2 (by omega))
    obtain ⟨s, r, e⟩ := dom _ rfl (by omega)
    obtain ⟨d0, d1, d2, d3, rfl⟩ := len4 (xs := xs) (by omega)
    cases e
    obtain ⟨v0, v1, v2, v3, rfl, hD0, hD1, hD2, hD3⟩ := dp4 hA
    obtain rfl := dp_str hD0
    walk_at "hs"
    refine ifnd (fun h3 => ?_) (fun h3 => ?_)
    · walk_at "hs"
      exact no (form_nos h3)
    subst h3
    walk_at "hs"
    refine a_gtupT hS rfl ?_
    walk_at "hs"
    refine ⟨v1, d1, rfl, hD1, ?_⟩
    walk_at "hs"
    refine ifb (fun h4 => ?_) (fun h4 => ?_)
    · refine ift ?_
      walk_at "hs"
      exact no (form_no1 (nB h4))
    have k1 := nB' h4
    obtain ⟨p, rfl⟩ := intK_int k1
    obtain rfl := dp_int hD1
    walk_at "hs"
    refine a_isD hD2 (.inl rfl) ?_
    walk_at "hs"
    refine ifb (fun h5 => ?_) (fun h5 => ?_)
    · refine ift ?_
      walk_at "hs"
      exact no (form_no2 (nB h5))
    obtain ⟨ws, rfl⟩ := isB_list (nB' h5)
    obtain ⟨a2, y2, rfl, hS2, hA2⟩ := dp_list hD2
    have hl2 := dpAll_len hA2
    walk_at "hs"
    refine a_isD hD3 (.inl rfl) ?_
    walk_at "hs"
    refine ifb (fun h6 => ?_) (fun h6 => ?_)
    · walk_at "hs"
      exact no (form_no3 (nB h6))
    obtain ⟨ls, rfl⟩ := isB_list (nB' h6)
    obtain ⟨a3, y3, rfl, hS3, hA3⟩ := dp_list hD3
    have hl3 := dpAll_len hA3
    walk_at "hs"
    refine ⟨_, _, rfl, hS3, ?_⟩
    walk_at "hs"
    refine ifb (fun h7 => ?_) (fun h7 => ?_)
    · refine ift ?_
      walk_at "hs"
      refine no ?_
      have e : y3 = [] := by revert h7; cases y3 <;> simp
      have e2 : ls = [] := by
        rw [e] at hl3
        exact List.length_eq_zero_iff.mp hl3.symm
      rw [form4, e2]
      simp
    have hne : ls.isEmpty = false := by
      have : y3 ≠ [] := by revert h7; cases y3 <;> simp
      cases ls with
      | nil => exact absurd (List.length_eq_zero_iff.mp hl3) this
      | cons x r => rfl
    walk_at "hs"
    rw [hl2, hl3]
    refine ifnd (fun h8 => ?_) (fun h8 => ?_)
    · walk_at "hs"
      refine no ?_
      rw [form4, decide_eq_false (show ¬ ws.length = ls.length + 1 from fun z => h8 (by omega))]
      simp
    walk_at "hs"
    refine g_all (ts := T.ts) (ws.map wB) rfl (fun R r => a_var rfl r) hS2 T.mem_has_form tg (by rw [List.length_map, hl2]) ?_ ?_
    · intro j x b hx hb H' R n t r
      obtain ⟨dx, hdx, hD⟩ := dpAll_at hA2 hx
      have eb : b = wB dx := by
        rw [List.getElem?_map, hdx] at hb
        exact (Option.some.inj hb).symm
      walk_at "hs"
      refine ⟨x, dx, rfl, n.dp hD, ?_⟩
      walk_at "hs"
      refine ifb (fun h9 => ?_) (fun h9 => ?_)
      · obtain ⟨i, rfl⟩ := intK_int h9
        obtain rfl := dp_int hD
        walk_at "hs"
        have := r H' (Nt.refl H') t
        rw [eb] at this
        exact this
      · have := r H' (Nt.refl H') t
        rw [eb] at this
        unfold wB at this
        rw [h9] at this
        exact this
    · intro H' n t
      have := q H' n t
      rw [form4, decide_eq_true rfl, hne, k1, decide_eq_true (show ws.length = ls.length + 1 by omega)] at this
      rw [List.all_map]
      exact this
def sp_check_limits (K : PySem.W.Frag) (ts : List Addr) (C : Addr) : Sp := fun vs H Q E => ∃ (a : Addr) (ws : List Int), vs = [.ref a] ∧ SqL K H a (ws.map V.int) ∧ 1 ≤ ws.length ∧ (∀ w ∈ ws, 0 ≤ w) ∧ TabsG ts H ∧
  (limB ws = none → ∀ H', Nt H H' → TabsG ts H' → Q .non H') ∧ (∀ s, limB ws = some s → ∀ H' x, Nt H H' → TabsG ts H' → H' x = none → E (.ref C) (some x) (upd H' x (.xd [("limit", .str s)])))
theorem ok_check_limits (T : Txt P w K mg) (B : Tbs P w K mg base T) : FnOk P w K mg base (L2.CX P w) 4 T.f_check_limits T.fd_check_limits ["widths"] (sp_check_limits K T.ts T.C_SizeError) := by
  refine okCX T.F_check_limits T.hc_check_limits sc_check_limits (fun vs H Q E h => ?len) (fun A outer s H vs Q E hr h => ?body)
  · obtain ⟨a, ws, rfl, _⟩ := h
    rfl
  · obtain ⟨a, ws, rfl, hS, hl, hw, tg, q1, q2⟩ := h
    refine ⟨_, (pss_cons (ps_if (pt_cmpR op_gt (pe_op op_sub (pe_callB (lenK_ (K := K) rfl) (by rfl) T.m_len PySem.boot_len (pa_cons (pv 0) pa_nil)) pe_int) (pe_glob (v := .int 64) (by rfl) T.c_MOST_LAYERS.choose_spec ⟨_, rfl⟩) (nomark _)) (pss_one (ps_raiseE (k := 0) (W := fun cls d _ H => E cls d H) rfl T.E_SizeError (hr.mono (by decide)) (takes_of rfl rfl rfl rfl) (by exact (pa_cons pe_str pa_nil)))) pss_nil)
      (pss_cons (ps_if (pt_cmpR op_gt (pe_callB (maxK_ (K := K) rfl rfl) (by rfl) T.m_max (by decide +kernel) (pa_cons (pv 0) pa_nil)) (pe_glob (v := .int 8) (by rfl) T.c_MOST_BITS.choose_spec ⟨_, rfl⟩) (nomark _)) (pss_one (ps_raiseE (k := 0) (W := fun cls d _ H => E cls d H) rfl T.E_SizeError (hr.mono (by decide)) (takes_of rfl rfl rfl rfl) (by exact (pa_cons pe_str pa_nil)))) pss_nil)
      (pss_one (ps_if (pt_cmpR op_gt (pe_sumG (k := 0) (hr.mono (by decide)) (by rfl) T.m_sum B.tb_check_limits rfl (own := [("bits", 1)]) sc_check_limits.nd (blkOk_by (own := [("bits", 1)]) (N := N_check_limits) (sc := defScope s_check_limits) (by decide +kernel)) (by decide +kernel) rfl rfl (piL_ (K := K) rfl (pe_slice (slL_ (K := K) rfl) (pv 0) po_none (po_some (pe_un un_neg pe_int)))) (fun _ _ _ _ _ _ => (pg_name (i := 1) sc_check_limits.nd rfl (.inl rfl))) (fun _ _ _ _ _ _ => (pe_op op_shl pe_int (pv 1)))) (pe_glob (v := .int 4096) (by rfl) T.c_MOST_GATES.choose_spec ⟨_, rfl⟩) (nomark _)) (pss_one (ps_raiseE (k := 0) (W := fun cls d _ H => E cls d H) rfl T.E_SizeError (hr.mono (by decide)) (takes_of rfl rfl rfl rfl) (by exact (pa_cons pe_str pa_nil)))) pss_nil)))), ?_⟩
    walk_at "hs"
    rw [List.length_map]
    refine ifd (fun h1 => ?_) (fun h1 => ?_)
    · walk_at "hs"
      refine ⟨_, rfl, ⟨_, rfl, by decide⟩, fun d hd => q2 "layers" ?_ _ _ (Nt.refl H) tg hd⟩
      unfold limB
      rw [if_pos h1]
    walk_at "hs"
    refine a_max hS (by omega) fun m hm hmax => ?_
    walk_at "hs"
    refine ifd (fun h2 => ?_) (fun h2 => ?_)
    · walk_at "hs"
      refine ⟨_, rfl, ⟨_, rfl, by decide⟩, fun d hd => q2 "columns" ?_ _ _ (Nt.refl H) tg hd⟩
      unfold limB
      rw [if_neg h1, if_pos (List.any_eq_true.mpr ⟨m, hm, decide_eq_true h2⟩)]
    have h8 : ∀ w ∈ ws, w ≤ 8 := fun w z => by have := hmax w z; omega
    have e2 : ¬ (ws.any fun w => decide (8 < w)) = true := fun z => by
      obtain ⟨w, z1, z2⟩ := List.any_eq_true.mp z
      have := h8 w z1
      have := of_decide_eq_true z2
      omega
    walk_at "hs"
    refine g_sumN (ts := T.ts) (xs := (ws.dropLast).map V.int) (ws.dropLast.map fun w => (2 : Int) ^ w.toNat) rfl ?_ T.mem_check_limits tg (by simp) ?_ ?_
    · intro R r
      walk_at "hs"
      refine a_slL hS fun p np => ?_
      rw [show cutV (ws.map V.int) none (some (-1)) = ws.dropLast.map V.int by rw [cut_init, List.map_dropLast]]
      exact r p _ (same_upd np) (sql upd_same)
    · intro j x b hx hb H' R n t r
      obtain ⟨w, hw2, rfl⟩ := getV hx
      have hm2 : w ∈ ws := List.dropLast_subset _ (List.mem_of_getElem? hw2)
      have b1 := hw w hm2
      have b2 := h8 w hm2
      walk_at "hs"
      have eb : b = 1 * 2 ^ w.toNat := by
        rw [List.getElem?_map, hw2] at hb
        rw [Int.one_mul]
        exact (Option.some.inj hb).symm
      rw [← eb]
      exact r H' (Nt.refl H') t
    · intro H' n t
      walk_at "hs"
      refine ifd (fun h3 => ?_) (fun h3 => ?_)
      · walk_at "hs"
        refine ⟨_, rfl, ⟨_, rfl, by decide⟩, fun d hd => q2 "gates" ?_ _ _ n t hd⟩
        unfold limB
        rw [if_neg h1, if_neg e2, if_pos h3]
      · walk_at "hs"
        refine q1 ?_ _ n t
        unfold limB
        rw [if_neg h1, if_neg e2, if_neg h3]
def sp_is_gate (K : PySem.W.Frag) (ts : List Addr) : Sp := fun vs H Q _ => ∃ v d columns p, vs = [v, .int columns, .int p] ∧ Dp K H v d ∧ gdom d ∧ TabsG ts H ∧ ∀ H', Nt H H' → TabsG ts H' → Q (.bl (gateB columns p d)) H'
theorem ok_is_gate (T : Txt P w K mg) (B : Tbs P w K mg base T) : FnOk P w K mg base CX0 6 T.f_is_gate T.fd_is_gate ["thing", "columns", "p"] (sp_is_gate K T.ts) := by
  have G_are_numbers := ok_are_numbers (P := P) (w := w) (base := base) T B
  refine T.F_is_gate.ok sc_is_gate (fun vs H Q E h => ?len) (fun cdv A outer s H vs Q E hr h => ?body)
  · obtain ⟨v, d, columns, p, rfl, _⟩ := h
    rfl
  · obtain ⟨v, d, columns, p, rfl, hd, dom, tg, q⟩ := h
    have no : gateB columns p d = false → Q (.bl false) H := fun e => by
      have := q H (Nt.refl H) tg
      rw [e] at this
      exact this
    refine ⟨_, (pss_cons (ps_if (pt_not (pt_val (pe_callB (isi_ (K := K) rfl) (by rfl) T.m_isinstance (by decide +kernel) (pa_cons (pv 0) (pa_cons (pe_bltn (v := .ty "tuple") (by rfl) T.m_tuple (by decide +kernel) rfl) pa_nil))))) (pss_one (ps_ret pe_bl)) pss_nil)
      (pss_cons (ps_if (pw_and (pt_cmpR op_eq (pe_callB (lenK_ (K := K) rfl) (by rfl) T.m_len PySem.boot_len (pa_cons (pv 0) pa_nil)) pe_int (nomark _)) (pw_and1 (pt_cmpR op_eq (pe_ix (ixT_ (K := K) rfl) (pv 0) pe_int (fun _ _ => rfl)) pe_str (nomark _)))).pt (pss_cons (ps_asg (pv 0) (pgT_ (K := K) rfl (pg_tup (n := 5) rfl (pgs_cons (pg_name (i := 3) sc_is_gate.nd rfl (.inl rfl)) (pgs_cons (pg_name (i := 4) sc_is_gate.nd rfl (.inl rfl)) (pgs_cons (pg_name (i := 5) sc_is_gate.nd rfl (.inl rfl)) (pgs_cons (pg_name (i := 6) sc_is_gate.nd rfl (.inl rfl)) (pgs_cons (pg_name (i := 7) sc_is_gate.nd rfl (.inl rfl)) pgs_nil))))))))
      (pss_one (ps_ret (pe_and (pe_call G_are_numbers (hr.mono (by decide)) (by rfl) T.g_are_numbers T.F_are_numbers.kp T.b_are_numbers .nil pass0 (pa_cons (pe_lst (pa_cons (pv 4) (pa_cons (pv 6) pa_nil))) (pa_cons pe_int (pa_cons (pv 2) pa_nil)))) (pe_one (pe_call G_are_numbers (hr.mono (by decide)) (by rfl) T.g_are_numbers T.F_are_numbers.kp T.b_are_numbers .nil pass0 (pa_cons (pe_lst (pa_cons (pv 5) (pa_cons (pv 7) pa_nil))) (pa_cons pe_int (pa_cons (pv 1) pa_nil))))))))) pss_nil)
      (pss_cons (ps_if (pw_and (pt_cmpR op_eq (pe_callB (lenK_ (K := K) rfl) (by rfl) T.m_len PySem.boot_len (pa_cons (pv 0) pa_nil)) pe_int (nomark _)) (pw_and1 (pt_cmpR op_eq (pe_ix (ixT_ (K := K) rfl) (pv 0) pe_int (fun _ _ => rfl)) pe_str (nomark _)))).pt (pss_cons (ps_asg (pv 0) (pgT_ (K := K) rfl (pg_tup (n := 4) rfl (pgs_cons (pg_name (i := 3) sc_is_gate.nd rfl (.inl rfl)) (pgs_cons (pg_name (i := 8) sc_is_gate.nd rfl (.inl rfl)) (pgs_cons (pg_name (i := 5) sc_is_gate.nd rfl (.inl rfl)) (pgs_cons (pg_name (i := 7) sc_is_gate.nd rfl (.inl rfl)) pgs_nil)))))))
      (pss_one (ps_ret (pe_and (pe_call G_are_numbers (hr.mono (by decide)) (by rfl) T.g_are_numbers T.F_are_numbers.kp T.b_are_numbers .nil pass0 (pa_cons (pe_lst (pa_cons (pv 8) pa_nil)) (pa_cons pe_int (pa_cons (pv 2) pa_nil)))) (pe_one (pe_call G_are_numbers (hr.mono (by decide)) (by rfl) T.g_are_numbers T.F_are_numbers.kp T.b_are_numbers .nil pass0 (pa_cons (pe_lst (pa_cons (pv 5) (pa_cons (pv 7) pa_nil))) (pa_cons pe_int (pa_cons (pv 1) pa_nil))))))))) pss_nil)
      (pss_one (ps_ret pe_bl))))), ?_⟩
    walk_at "hs"
    refine a_isD hd (.inr (.inl rfl)) ?_
    walk_at "hs"
    refine ifb (fun h1 => ?_) (fun h1 => ?_)
    · walk_at "hs"
      exact no (gateB_no (nB h1))
    obtain ⟨xs, rfl⟩ := isB_tuple (nB' h1)
    obtain ⟨a, ys, rfl, hS, hA⟩ := dp_tuple hd
    have hlen := dpAll_len hA
    walk_at "hs"
    refine a_len2 hS ?_
    walk_at "hs"
    rw [hlen]
    refine ifd (fun h5 => ?_) (fun h5 => ?_)
    · obtain ⟨s, r, e⟩ := dom _ rfl (.inr (by omega))
      obtain ⟨d0, d1, d2, d3, d4, rfl⟩ := len5 (xs := xs) (by omega)
      cases e
      obtain ⟨v0, v1, v2, v3, v4, rfl, hD0, hD1, hD2, hD3, hD4⟩ := dp5 hA
      obtain rfl := dp_str hD0
      walk_at "hs"
      refine ifd (fun h6 => ?_) (fun h6 => ?_)
      · subst h6
        walk_at "hs"
        refine a_gtupT hS rfl ?_
        walk_at "hs"
        refine ⟨sz (show 2 ≤ 1000000 by decide), fun l1 n1 => ?_⟩
        have s1 := same_upd (o := .lst [v1, v3]) n1
        have e1 := dp_new2 n1 hD1 hD3
        have t1 := tg.upd (o := .lst [v1, v3]) (tg.new n1)
        have N1 := Nt.of s1
        generalize upd H l1 (.lst [v1, v3]) = H1 at *
        walk_at "hs"
        refine ⟨_, _, 2, p, rfl, e1, t1, fun H2 m2 t2 => ?_⟩
        have N2 := N1.trans m2
        walk_at "hs"
        rw [are2]
        refine ifb (fun h7 => ?_) (fun h7 => ?_)
        · walk_at "hs"
          refine ⟨sz (show 2 ≤ 1000000 by decide), fun l2 n2 => ?_⟩
          walk_at "hs"
          refine ⟨_, _, 2, columns, rfl, dp_new2 n2 (N2.dp hD2) (N2.dp hD4), t2.upd (t2.new n2), fun H3 m3 t3 => ?_⟩
          rw [are2]
          have := q H3 ((N2.upd n2).trans m3) t3
          rw [gate5, decide_eq_true rfl, h7] at this
          exact this
        · have := q H2 N2 t2
          rw [gate5, decide_eq_true rfl, h7] at this
          exact this
      · walk_at "hs"
        refine a_len2 hS ?_
        walk_at "hs"
        refine ifd (fun h7 => absurd h7 (by simp)) (fun _ => ?_)
        refine iff' ?_
        walk_at "hs"
        refine no ?_
        rw [gate5, decide_eq_false h6]
        rfl
    refine iff' ?_
    walk_at "hs"
    refine a_len2 hS ?_
    walk_at "hs"
    rw [hlen]
    refine ifd (fun h4 => ?_) (fun h4 => ?_)
    · obtain ⟨s, r, e⟩ := dom _ rfl (.inl (by omega))
      obtain ⟨d0, d1, d2, d3, rfl⟩ := len4 (xs := xs) (by omega)
      cases e
      obtain ⟨v0, v1, v2, v3, rfl, hD0, hD1, hD2, hD3⟩ := dp4 hA
      obtain rfl := dp_str hD0
      walk_at "hs"
      refine ifd (fun h6 => ?_) (fun h6 => ?_)
      · subst h6
        walk_at "hs"
        refine a_gtupT hS rfl ?_
        walk_at "hs"
        refine ⟨sz (show 1 ≤ 1000000 by decide), fun l1 n1 => ?_⟩
        have s1 := same_upd (o := .lst [v1]) n1
        have e1 := dp_new1 n1 hD1
        have t1 := tg.upd (o := .lst [v1]) (tg.new n1)
        have N1 := Nt.of s1
        generalize upd H l1 (.lst [v1]) = H1 at *
        walk_at "hs"
        refine ⟨_, _, 1, p, rfl, e1, t1, fun H2 m2 t2 => ?_⟩
        have N2 := N1.trans m2
        walk_at "hs"
        rw [are1]
        refine ifb (fun h7 => ?_) (fun h7 => ?_)
        · walk_at "hs"
          refine ⟨sz (show 2 ≤ 1000000 by decide), fun l2 n2 => ?_⟩
          walk_at "hs"
          refine ⟨_, _, 2, columns, rfl, dp_new2 n2 (N2.dp hD2) (N2.dp hD3), t2.upd (t2.new n2), fun H3 m3 t3 => ?_⟩
          rw [are2]
          have := q H3 ((N2.upd n2).trans m3) t3
          rw [gate4, decide_eq_true rfl, h7] at this
          exact this
        · have := q H2 N2 t2
          rw [gate4, decide_eq_true rfl, h7] at this
          exact this
      · walk_at "hs"
        refine no ?_
        rw [gate4, decide_eq_false h6]
        rfl
    · refine iff' ?_
      walk_at "hs"
      exact no (gateB_len (fun z => h4 (by omega)) (fun z => h5 (by omega)))
def sp_check_layer (K : PySem.W.Frag) (ts : List Addr) (C : Addr) : Sp := fun vs H Q E => ∃ v d many columns p, vs = [v, .int many, .int columns, .int p] ∧ Dp K H v d ∧ (∀ xs, d = .list xs → ∀ g ∈ xs, gdom g) ∧ TabsG ts H ∧
  (layB many columns p d = none → ∀ H', Nt H H' → TabsG ts H' → Q .non H') ∧ (∀ s, layB many columns p d = some s → ∀ H' x, Nt H H' → TabsG ts H' → H' x = none → E (.ref C) (some x) (upd H' x (.xd [("part", .str s)])))
theorem ok_check_layer (T : Txt P w K mg) (B : Tbs P w K mg base T) : FnOk P w K mg base (L2.CX P w) 7 T.f_check_layer T.fd_check_layer ["gates", "many", "columns", "p"] (sp_check_layer K T.ts T.C_CircuitError) := by
  have G_is_gate := ok_is_gate (P := P) (w := w) (base := base) T B
  refine T.F_check_layer.okX sc_check_layer (fun vs H Q E h => ?len) (fun cdv A outer s H vs Q E hr h => ?body)
  · obtain ⟨v, d, many, columns, p, rfl, _⟩ := h
    rfl
  · obtain ⟨v, d, many, columns, p, rfl, hd, dom, tg, q1, q2⟩ := h
    refine ⟨_, (pss_cons (ps_if (pw_or (pt_not (pt_val (pe_callB (isi_ (K := K) rfl) (by rfl) T.m_isinstance (by decide +kernel) (pa_cons (pv 0) (pa_cons (pe_bltn (v := .ty "list") (by rfl) T.m_list (by decide +kernel) rfl) pa_nil))))) (pw_or1 (pt_cmpR op_ne (pe_callB (lenK_ (K := K) rfl) (by rfl) T.m_len PySem.boot_len (pa_cons (pv 0) pa_nil)) (pv 1) (nomark _)))).pt (pss_one (ps_raiseE (k := 0) (W := fun cls d _ H => E cls d H) rfl T.E_CircuitError (hr.mono (by decide)) (takes_of rfl rfl rfl rfl) (by exact (pa_cons pe_str pa_nil)))) pss_nil)
      (pss_one (ps_for (passes_of rfl) rfl (piL_ (K := K) rfl (pv 0)) (pg_name (i := 4) sc_check_layer.nd rfl (.inl rfl)) (pss_one (ps_if (pt_not (pt_val (pe_call G_is_gate (hr.mono (by decide)) (by rfl) T.g_is_gate T.F_is_gate.kp T.b_is_gate .nil pass0 (pa_cons (pv 4) (pa_cons (pv 2) (pa_cons (pv 3) pa_nil)))))) (pss_one (ps_raiseE (k := 0) (W := fun cls d _ H => E cls d H) rfl T.E_CircuitError (hr.mono (by decide)) (takes_of rfl rfl rfl rfl) (by exact (pa_cons pe_str pa_nil)))) pss_nil))))), ?_⟩
    walk_at "hs"
    refine a_isD hd (.inl rfl) ?_
    walk_at "hs"
    refine ifb (fun h1 => ?_) (fun h1 => ?_)
    · refine ift ?_
      walk_at "hs"
      exact ⟨_, rfl, ⟨_, rfl, by decide⟩, fun x hx => q2 "layer" (layB_no (nB h1)) _ _ (Nt.refl H) tg hx⟩
    obtain ⟨xs, rfl⟩ := isB_list (nB' h1)
    obtain ⟨a, ys, rfl, hS, hA⟩ := dp_list hd
    have hlen := dpAll_len hA
    walk_at "hs"
    rw [hlen]
    refine ifnd (fun h2 => ?_) (fun h2 => ?_)
    · walk_at "hs"
      refine ⟨_, rfl, ⟨_, rfl, by decide⟩, fun x hx => q2 "layer" ?_ _ _ (Nt.refl H) tg hx⟩
      rw [layB_list]
      rw [if_neg h2]
    walk_at "hs"
    refine a_exl hS ?_
    refine fo_list (xs := ys) (fun i σ H' => Nt H H' ∧ TabsG T.ts H' ∧ (xs.take i).all (gateB columns p) = true ∧ ∃ x4, σ = [some (.ref a), some (.int many), some (.int columns), some (.int p), x4]) ⟨Nt.refl H, tg, rfl, none, rfl⟩ (fun i σ H' _ h => h.1.sql hS) ?_ ?_
    · rintro i x σ H' hi ⟨n1, t1, hall, x4, rfl⟩
      obtain ⟨dx, hdx, hD⟩ := dpAll_at hA hi
      walk_at "hs"
      refine ⟨x, dx, columns, p, rfl, n1.dp hD, dom _ rfl dx (List.mem_of_getElem? hdx), t1, fun H2 n2 t2 => ?_⟩
      walk_at "hs"
      refine ifb (fun h3 => ?_) (fun h3 => ?_)
      · walk_at "hs"
        refine ⟨_, rfl, ⟨_, rfl, by decide⟩, fun y hy => q2 "gate" ?_ _ _ (n1.trans n2) t2 hy⟩
        rw [layB_list]
        rw [if_pos h2, if_neg]
        intro z
        have := List.all_eq_true.mp z dx (List.mem_of_getElem? hdx)
        rw [nB h3] at this
        cases this
      · walk_at "hs"
        refine ⟨n1.trans n2, t2, ?_, _, rfl⟩
        rw [← take_app hdx, List.all_append, hall]
        simp [nB' h3]
    · rintro σ H' ⟨n1, t1, hall, x4, rfl⟩
      rw [hlen, List.take_length] at hall
      refine q1 ?_ _ n1 t1
      rw [layB_list]
      rw [if_pos h2, if_pos hall]
def sp_checked (K : PySem.W.Frag) (ts : List Addr) (CC CS CF : Addr) : Sp := fun vs H Q E => ∃ v d f, vs = [v] ∧ Dp K H v d ∧ cdom d ∧ FltR d f ∧ TabsG ts H ∧
  (f = .ok → ∀ H', Nt H H' → TabsG ts H' → Q v H') ∧
  (∀ s, f = .part s → ∀ H' x, Nt H H' → TabsG ts H' → H' x = none → E (.ref CC) (some x) (upd H' x (.xd [("part", .str s)]))) ∧
  (∀ s, f = .size s → ∀ H' x, Nt H H' → TabsG ts H' → H' x = none → E (.ref CS) (some x) (upd H' x (.xd [("limit", .str s)]))) ∧
  (∀ p, f = .fld p → ∀ H' x, Nt H H' → TabsG ts H' → H' x = none → E (.ref CF) (some x) (upd H' x (.xd [("number", .int p)])))
theorem ok_checked (T : Txt P w K mg) (B : Tbs P w K mg base T) : FnOk P w K mg base (L2.CX P w) 8 T.f_checked T.fd_checked ["circuit"] (sp_checked K T.ts T.C_CircuitError T.C_SizeError T.C_FieldError) := by
  have G_check_modulus := ok_check_modulus (P := P) (w := w) (base := base) T B
  have G_check_limits := ok_check_limits (P := P) (w := w) (base := base) T B
  have G_has_form := ok_has_form (P := P) (w := w) (base := base) T B
  have G_check_layer := ok_check_layer (P := P) (w := w) (base := base) T B
  refine T.F_checked.okX sc_checked (fun vs H Q E h => ?len) (fun cdv A outer s H vs Q E hr h => ?body)
  · obtain ⟨v, d, f, rfl, _⟩ := h
    rfl
  · obtain ⟨v, d, f, rfl, hd, dom, hf, tg, q1, q2, q3, q4⟩ := h
    refine ⟨_, (pss_cons (ps_if (pt_not (pt_val (pe_call G_has_form (hr.mono (by decide)) (by rfl) T.g_has_form T.F_has_form.kp T.b_has_form .nil pass0 (pa_cons (pv 0) pa_nil)))) (pss_one (ps_raiseE (k := 0) (W := fun cls d _ H => E cls d H) rfl T.E_CircuitError (hr.mono (by decide)) (takes_of rfl rfl rfl rfl) (by exact (pa_cons pe_str pa_nil)))) pss_nil)
      (pss_cons (ps_asg (pv 0) (pgT_ (K := K) rfl (pg_tup (n := 4) rfl (pgs_cons (pg_name (i := 1) sc_checked.nd rfl (.inl rfl)) (pgs_cons (pg_name (i := 2) sc_checked.nd rfl (.inl rfl)) (pgs_cons (pg_name (i := 3) sc_checked.nd rfl (.inl rfl)) (pgs_cons (pg_name (i := 4) sc_checked.nd rfl (.inl rfl)) pgs_nil)))))))
      (pss_cons (ps_expr (by exact (pe_callS G_check_modulus (hr.mono (by decide)) (by rfl) T.g_check_modulus T.F_check_modulus.kp T.b_check_modulus (fun σ => passAt (takes_of (E := E) rfl rfl rfl rfl) σ) (by exact (pa_cons (pv 2) pa_nil)))))
      (pss_cons (ps_expr (by exact (pe_callS G_check_limits (hr.mono (by decide)) (by rfl) T.g_check_limits T.F_check_limits.kp T.b_check_limits (fun σ => passAt (takes_of (E := E) rfl rfl rfl rfl) σ) (by exact (pa_cons (pv 3) pa_nil)))))
      (pss_cons (ps_for (passes_of rfl) rfl (piE_ (K := K) rfl (pi_enum (by rfl) T.m_enumerate (pa_cons (pv 4) pa_nil))) (pgT_ (K := K) rfl (pg_tup (n := 2) rfl (pgs_cons (pg_name (i := 5) sc_checked.nd rfl (.inl rfl)) (pgs_cons (pg_name (i := 6) sc_checked.nd rfl (.inl rfl)) pgs_nil)))) (pss_one (ps_expr (by exact (pe_callS G_check_layer (hr.mono (by decide)) (by rfl) T.g_check_layer T.F_check_layer.kp T.b_check_layer (fun σ => passAt (takes_of (E := E) rfl rfl rfl rfl) σ) (by exact (pa_cons (pv 6) (pa_cons (pe_op op_shl pe_int (pe_ix (ixL_ (K := K) rfl) (pv 3) (pv 5) (fun _ _ => rfl))) (pa_cons (pe_op op_shl pe_int (pe_ix (ixL_ (K := K) rfl) (pv 3) (pe_op op_add (pv 5) pe_int) (fun _ _ => rfl))) (pa_cons (pv 2) pa_nil))))))))))
      (pss_one (ps_ret (pv 0)))))))), ?_⟩
    walk_at "hs"
    refine ⟨v, d, rfl, hd, dom.1, tg, fun H1 n1 t1 => ?_⟩
    walk_at "hs"
    refine ifb (fun h1 => ?_) (fun h1 => ?_)
    · rcases hf with ⟨_, rfl⟩ | ⟨p, ws, ls, rfl, hw, _⟩
      · walk_at "hs"
        exact ⟨_, rfl, ⟨_, rfl, by decide⟩, fun x hx => q2 "circuit" rfl _ _ n1 t1 hx⟩
      · rw [formB_of hw] at h1
        cases h1
    have h1 := nB' h1
    rcases hf with ⟨h2, _⟩ | ⟨p, ws, ls, rfl, hw, rfl⟩
    · rw [h2] at h1; cases h1
    have hd1 := n1.dp hd
    obtain ⟨a, ys, rfl, hS, hA⟩ := dp_tuple hd1
    obtain ⟨v0, v1, v2, v3, rfl, hD0, hD1, hD2, hD3⟩ := dp4 hA
    obtain rfl := dp_str hD0
    obtain rfl := dp_int hD1
    obtain ⟨a2, y2, rfl, hS2, hA2⟩ := dp_list hD2
    obtain rfl := dpAll_ints hA2
    obtain ⟨a3, y3, rfl, hS3, hA3⟩ := dp_list hD3
    have hl3 := dpAll_len hA3
    obtain ⟨hw1, hw2, hw3⟩ := hw
    walk_at "hs"
    refine a_gtupT hS rfl ?_
    walk_at "hs"
    refine ⟨p, rfl, fun hg => ?_, fun hg x hx => q4 p (by unfold chk; rw [if_neg (by rw [hg]; decide)]) _ _ n1 t1 hx⟩
    walk_at "hs"
    refine ⟨a2, ws, rfl, hS2, by omega, hw3, t1, fun hlim H2 n2 t2 => ?_, fun s hs H2 x n2 t2 hx => q3 s (by unfold chk; rw [if_pos hg, hs]) _ _ (n1.trans n2) t2 hx⟩
    have h8 := limB_none hlim
    walk_at "hs"
    refine a_enum ?_
    walk_at "hs"
    refine ⟨a3, y3, rfl, n2.sql hS3, ?_⟩
    refine fo_enum (xs := y3) (fun i σ H' => Nt H1 H' ∧ TabsG T.ts H' ∧ (∀ j l, j < i → ls[j]? = some l → layAt p ws j l = none) ∧ ∃ x5 x6, σ = [some (.ref a), some (.str "circuit"), some (.int p), some (.ref a2), some (.ref a3), x5, x6]) ⟨n2, t2, fun j l hj => absurd hj (by omega), none, none, rfl⟩ (fun i σ H' _ h => h.1.sql hS3) ?_ ?_
    · rintro i x T0 σ H' hi ⟨n3, t3, hall, x5, x6, rfl⟩ hT
      obtain ⟨dx, hdx, hD⟩ := dpAll_at hA3 hi
      have hi2 : i < ls.length := (List.getElem?_eq_some_iff.mp hdx).1
      refine a_gtup upd_same rfl ?_
      have n4 := n3.upd (o := .tup [.int (i : Int), x]) hT
      have t4 := t3.upd (o := .tup [.int (i : Int), x]) (t3.new hT)
      generalize upd H' T0 (.tup [.int (i : Int), x]) = H4 at *
      have hw' := n4.sql hS2
      have c1 := hw3 _ (show ws.getD (i : Int).toNat 0 ∈ ws by rw [Int.toNat_natCast, List.getD_eq_getElem?_getD, List.getElem?_eq_getElem (show i < ws.length by omega)]; exact List.getElem_mem _)
      have c2 := h8 _ (show ws.getD (i : Int).toNat 0 ∈ ws by rw [Int.toNat_natCast, List.getD_eq_getElem?_getD, List.getElem?_eq_getElem (show i < ws.length by omega)]; exact List.getElem_mem _)
      have c3 := hw3 _ (show ws.getD ((i : Int) + 1).toNat 0 ∈ ws by rw [show ((i : Int) + 1).toNat = i + 1 by omega, List.getD_eq_getElem?_getD, List.getElem?_eq_getElem (show i + 1 < ws.length by omega)]; exact List.getElem_mem _)
      have c4 := h8 _ (show ws.getD ((i : Int) + 1).toNat 0 ∈ ws by rw [show ((i : Int) + 1).toNat = i + 1 by omega, List.getD_eq_getElem?_getD, List.getElem?_eq_getElem (show i + 1 < ws.length by omega)]; exact List.getElem_mem _)
      have elay : layB (1 * 2 ^ (ws.getD (i : Int).toNat 0).toNat) (1 * 2 ^ (ws.getD ((i : Int) + 1).toNat 0).toNat) p dx = layAt p ws i dx := by
        unfold layAt
        rw [Int.one_mul, Int.one_mul, Int.toNat_natCast, show ((i : Int) + 1).toNat = i + 1 by omega]
      walk_at "hs"
      refine ⟨x, dx, _, _, p, rfl, n4.dp hD, dom.2 _ _ _ rfl dx (List.mem_of_getElem? hdx), t4, fun hn H5 n5 t5 => ?_, fun s hs H5 y n5 t5 hy => q2 s ?_ _ _ (n1.trans (n4.trans n5)) t5 hy⟩
      · rw [elay] at hn
        walk_at "hs"
        refine ⟨n4.trans n5, t5, fun j l hj hl => ?_, _, _, rfl⟩
        by_cases hji : j < i
        · exact hall j l hji hl
        · obtain rfl : j = i := by omega
          rw [hdx] at hl
          cases hl
          exact hn
      · rw [elay] at hs
        unfold chk
        rw [if_pos hg, hlim]
        rw [lays_some (k := i) (l := dx) (s := s) (fun j l hj hl => by rw [Nat.zero_add]; exact hall j l hj hl) hdx (by rw [Nat.zero_add]; exact hs)]
    · rintro σ H' ⟨n3, t3, hall, x5, x6, rfl⟩
      rw [hl3] at hall
      walk_at "hs"
      refine q1 ?_ _ (n1.trans n3) t3
      unfold chk
      rw [if_pos hg, hlim]
      rw [lays_none (fun j l hl => by rw [Nat.zero_add]; exact hall j l (List.getElem?_eq_some_iff.mp hl).1 hl)]
def sp_checked_rows (K : PySem.W.Frag) (ts : List Addr) (CC CS : Addr) : Sp := fun vs H Q E => ∃ (c w L : Addr) (p : Int) (ws : List Int) (ys : List V) (v : V) (d : PyData), vs = [.ref c, v] ∧ SqT K H c [.str "circuit", .int p, .ref w, .ref L] ∧ SqL K H w (ws.map V.int) ∧ SqL K H L ys ∧ ys.length < ws.length ∧ (0 ≤ ws.getD ys.length 0 ∧ ws.getD ys.length 0 ≤ 8) ∧ Dp K H v d ∧ TabsG ts H ∧
  (rowsF p (2 ^ (ws.getD ys.length 0).toNat) d = .ok → ∀ H', Nt H H' → TabsG ts H' → Q v H') ∧
  (∀ s, rowsF p (2 ^ (ws.getD ys.length 0).toNat) d = .part s → ∀ H' x, Nt H H' → TabsG ts H' → H' x = none → E (.ref CC) (some x) (upd H' x (.xd [("part", .str s)]))) ∧
  (∀ s, rowsF p (2 ^ (ws.getD ys.length 0).toNat) d = .size s → ∀ H' x, Nt H H' → TabsG ts H' → H' x = none → E (.ref CS) (some x) (upd H' x (.xd [("limit", .str s)])))
theorem ok_checked_rows (T : Txt P w K mg) (B : Tbs P w K mg base T) : FnOk P w K mg base (L2.CX P w) 6 T.f_checked_rows T.fd_checked_rows ["circuit", "rows"] (sp_checked_rows K T.ts T.C_CircuitError T.C_SizeError) := by
  have G_width := ok_width (P := P) (w := w) (base := base) T B
  have G_depth := ok_depth (P := P) (w := w) (base := base) T B
  have G_are_numbers := ok_are_numbers (P := P) (w := w) (base := base) T B
  have G_modulus := ok_modulus (P := P) (w := w) (base := base) T B
  refine T.F_checked_rows.okX sc_checked_rows (fun vs H Q E h => ?len) (fun cdv A outer s H vs Q E hr h => ?body)
  · obtain ⟨c, w, L, p, ws, ys, v, d, rfl, _⟩ := h
    rfl
  · obtain ⟨c, w, L, p, ws, ys, v, d, rfl, hC, hW, hL, hlt, hb, hd, tg, q1, q2, q3⟩ := h
    refine ⟨_, (pss_cons (ps_if (pw_or (pt_not (pt_val (pe_callB (isi_ (K := K) rfl) (by rfl) T.m_isinstance (by decide +kernel) (pa_cons (pv 1) (pa_cons (pe_bltn (v := .ty "list") (by rfl) T.m_list (by decide +kernel) rfl) pa_nil))))) (pw_or (pt_cmpR op_eq (pe_callB (lenK_ (K := K) rfl) (by rfl) T.m_len PySem.boot_len (pa_cons (pv 1) pa_nil)) pe_int (nomark _)) (pw_or1 (pt_cmpR op_ne (pe_op op_and (pe_callB (lenK_ (K := K) rfl) (by rfl) T.m_len PySem.boot_len (pa_cons (pv 1) pa_nil)) (pe_op op_sub (pe_callB (lenK_ (K := K) rfl) (by rfl) T.m_len PySem.boot_len (pa_cons (pv 1) pa_nil)) pe_int)) pe_int (nomark _))))).pt (pss_one (ps_raiseE (k := 0) (W := fun cls d _ H => E cls d H) rfl T.E_CircuitError (hr.mono (by decide)) (takes_of rfl rfl rfl rfl) (by exact (pa_cons pe_str pa_nil)))) pss_nil)
      (pss_cons (ps_if (pt_cmpR op_gt (pe_callB (lenK_ (K := K) rfl) (by rfl) T.m_len PySem.boot_len (pa_cons (pv 1) pa_nil)) (pe_glob (v := .int 1024) (by rfl) T.c_MOST_ROWS.choose_spec ⟨_, rfl⟩) (nomark _)) (pss_one (ps_raiseE (k := 0) (W := fun cls d _ H => E cls d H) rfl T.E_SizeError (hr.mono (by decide)) (takes_of rfl rfl rfl rfl) (by exact (pa_cons pe_str pa_nil)))) pss_nil)
      (pss_cons (ps_set (i := 2) sc_checked_rows.nd rfl (.inl rfl) (pe_op op_shl pe_int (pe_call G_width (hr.mono (by decide)) (by rfl) T.g_width T.F_width.kp T.b_width .nil pass0 (pa_cons (pv 0) (pa_cons (pe_call G_depth (hr.mono (by decide)) (by rfl) T.g_depth T.F_depth.kp T.b_depth .nil pass0 (pa_cons (pv 0) pa_nil)) pa_nil)))))
      (pss_cons (ps_for (passes_of rfl) rfl (piL_ (K := K) rfl (pv 1)) (pg_name (i := 3) sc_checked_rows.nd rfl (.inl rfl)) (pss_one (ps_if (pt_not (pt_val (pe_call G_are_numbers (hr.mono (by decide)) (by rfl) T.g_are_numbers T.F_are_numbers.kp T.b_are_numbers .nil pass0 (pa_cons (pv 3) (pa_cons (pv 2) (pa_cons (pe_call G_modulus (hr.mono (by decide)) (by rfl) T.g_modulus T.F_modulus.kp T.b_modulus .nil pass0 (pa_cons (pv 0) pa_nil)) pa_nil)))))) (pss_one (ps_raiseE (k := 0) (W := fun cls d _ H => E cls d H) rfl T.E_CircuitError (hr.mono (by decide)) (takes_of rfl rfl rfl rfl) (by exact (pa_cons pe_str pa_nil)))) pss_nil)))
      (pss_one (ps_ret (pv 1))))))), ?_⟩
    walk_at "hs"
    refine a_isD hd (.inl rfl) ?_
    walk_at "hs"
    refine ifb (fun h1 => ?_) (fun h1 => ?_)
    · refine ift ?_
      walk_at "hs"
      exact ⟨_, rfl, ⟨_, rfl, by decide⟩, fun x hx => q2 "rows" (rowsF_no (nB h1)) _ _ (Nt.refl H) tg hx⟩
    obtain ⟨xs, rfl⟩ := isB_list (nB' h1)
    obtain ⟨a, zs, rfl, hS, hA⟩ := dp_list hd
    have hlen := dpAll_len hA
    walk_at "hs"
    rw [hlen]
    refine ifd (fun h2 => ?_) (fun h2 => ?_)
    · refine ift ?_
      walk_at "hs"
      exact ⟨_, rfl, ⟨_, rfl, by decide⟩, fun x hx => q2 "rows" (by rw [rowsF_list, if_pos h2]) _ _ (Nt.refl H) tg hx⟩
    walk_at "hs"
    rw [hlen]
    refine ifnd (fun h3 => ?_) (fun h3 => ?_)
    · walk_at "hs"
      exact ⟨_, rfl, ⟨_, rfl, by decide⟩, fun x hx => q2 "rows" (by rw [rowsF_list, if_neg h2, if_neg h3]) _ _ (Nt.refl H) tg hx⟩
    walk_at "hs"
    rw [hlen]
    refine ifd (fun h4 => ?_) (fun h4 => ?_)
    · walk_at "hs"
      exact ⟨_, rfl, ⟨_, rfl, by decide⟩, fun x hx => q3 "rows" (by rw [rowsF_list, if_neg h2, if_pos h3, if_pos h4]) _ _ (Nt.refl H) tg hx⟩
    walk_at "hs"
    refine ⟨c, L, _, ys, rfl, hC, rfl, hL, ?_⟩
    walk_at "hs"
    refine ⟨c, w, _, ws, ys.length, rfl, hC, rfl, hW, hlt, ?_⟩
    walk_at "hs"
    rw [Int.one_mul]
    refine a_exl hS ?_
    generalize hcol : (2 : Int) ^ (ws.getD ys.length 0).toNat = cols at *
    refine fo_list (xs := zs) (fun i σ H' => Nt H H' ∧ TabsG T.ts H' ∧ (xs.take i).all (fun r => areN r cols p) = true ∧ ∃ x3, σ = [some (.ref c), some (.ref a), some (.int cols), x3]) ⟨Nt.refl H, tg, rfl, none, rfl⟩ (fun i σ H' _ h => h.1.sql hS) ?_ ?_
    · rintro i x σ H' hi ⟨n1, t1, hall, x3, rfl⟩
      obtain ⟨dx, hdx, hD⟩ := dpAll_at hA hi
      walk_at "hs"
      refine ⟨c, _, .int p, rfl, n1.sqt hC, rfl, ?_⟩
      walk_at "hs"
      refine ⟨x, dx, cols, p, rfl, n1.dp hD, t1, fun H2 n2 t2 => ?_⟩
      walk_at "hs"
      refine ifb (fun h5 => ?_) (fun h5 => ?_)
      · walk_at "hs"
        refine ⟨_, rfl, ⟨_, rfl, by decide⟩, fun y hy => q2 "row" ?_ _ _ (n1.trans n2) t2 hy⟩
        rw [rowsF_list, if_neg h2, if_pos h3, if_neg h4, if_neg]
        intro z
        have := List.all_eq_true.mp z dx (List.mem_of_getElem? hdx)
        rw [nB h5] at this
        cases this
      · walk_at "hs"
        refine ⟨n1.trans n2, t2, ?_, _, rfl⟩
        rw [← take_app hdx, List.all_append, hall]
        simp [nB' h5]
    · rintro σ H' ⟨n1, t1, hall, x3, rfl⟩
      rw [hlen, List.take_length] at hall
      walk_at "hs"
      refine q1 ?_ _ n1 t1
      rw [rowsF_list, if_neg h2, if_pos h3, if_neg h4, if_pos hall]
def sp_gate_values (K : PySem.W.Frag) : Sp := fun vs H Q _ => ∃ (v : V) (g : PyData) (A : Addr) (cs : List (List Int)) (p : Int) (n : Nat), vs = [v, .ref A, .int p] ∧ Dp K H v g ∧ LL K H A cs ∧ Cols p n cs ∧ n ≤ 1024 ∧ 0 < p ∧ p ≤ 1000 ∧ gateB (cs.length : Int) p g = true ∧ cs.length ≤ 1000 ∧
  ∀ b H', Same H H' → H b = none → H' b = some (.lst ((gv p cs g).map V.int)) → Q (.ref b) H'
theorem ok_gate_values (T : Txt P w K mg) (B : Tbs P w K mg base T) : FnOk P w K mg base CX0 1 T.f_gate_values T.fd_gate_values ["gate", "columns", "p"] (sp_gate_values K) := by
  refine T.F_gate_values.ok sc_gate_values (fun vs H Q E h => ?len) (fun cdv A outer s H vs Q E hr h => ?body)
  · obtain ⟨v, g, A, cs, p, n, rfl, _⟩ := h
    rfl
  · obtain ⟨v, g, A, cs, p, n, rfl, hd, hA, hC, hn, hp, hp2, hg, hcl, q⟩ := h
    have hgv := gv_ok hC hp hg
    rcases gate_shape hg with ⟨c, x, y, rfl, h1, h2, h3⟩ | ⟨a, x, b, y, rfl, h1, h2, h3, h4⟩
    · obtain ⟨cu, hu, eu, lu, iu⟩ := hC.at h2.1 h2.2
      obtain ⟨cw, hw, ew, lw, iw⟩ := hC.at h3.1 h3.2
      obtain ⟨tq, ys, rfl, hS, hV⟩ := dp_tuple hd
      obtain ⟨v0, v1, v2, v3, rfl, hD0, hD1, hD2, hD3⟩ := dp4 hV
      obtain rfl := dp_str hD0
      obtain rfl := dp_int hD1
      obtain rfl := dp_int hD2
      obtain rfl := dp_int hD3
      refine ⟨_, (pss_cons (ps_if (pt_cmpR op_eq (pe_ix (ixT_ (K := K) rfl) (pv 0) pe_int (fun _ _ => rfl)) pe_str (nomark _)) (pss_cons (ps_asg (pv 0) (pgT_ (K := K) rfl (pg_tup (n := 5) rfl (pgs_cons (pg_name (i := 3) sc_gate_values.nd rfl (.inl rfl)) (pgs_cons (pg_name (i := 4) sc_gate_values.nd rfl (.inr rfl)) (pgs_cons (pg_name (i := 5) sc_gate_values.nd rfl (.inl rfl)) (pgs_cons (pg_name (i := 6) sc_gate_values.nd rfl (.inr rfl)) (pgs_cons (pg_name (i := 7) sc_gate_values.nd rfl (.inl rfl)) pgs_nil))))))))
      (pss_one (ps_ret (pe_lc (own := [("left", 8), ("right", 9)]) rfl sc_gate_values.nd (piZ_ (K := K) rfl (pi_zip (by rfl) T.m_zip (pa_cons (pe_ix (ixL_ (K := K) rfl) (pv 1) (pv 5) (fun _ _ => rfl)) (pa_cons (pe_ix (ixL_ (K := K) rfl) (pv 1) (pv 7) (fun _ _ => rfl)) pa_nil)))) (blkOk_by (own := [("left", 8), ("right", 9)]) (N := N_gate_values) (sc := defScope s_gate_values) (by decide +kernel)) (fun _ _ _ _ _ => (pgT_ (K := K) rfl (pg_tup (n := 2) rfl (pgs_cons (pg_name (i := 8) sc_gate_values.nd rfl (.inl rfl)) (pgs_cons (pg_name (i := 9) sc_gate_values.nd rfl (.inl rfl)) pgs_nil))))) (fun _ _ _ _ _ => pts_nil) (fun _ _ _ _ _ => (pe_op op_mod (pe_op op_add (pe_op op_mul (pv 4) (pv 8)) (pe_op op_mul (pv 6) (pv 9))) (pv 2))))))) pss_nil)
      (pss_cons (ps_asg (pv 0) (pgT_ (K := K) rfl (pg_tup (n := 4) rfl (pgs_cons (pg_name (i := 3) sc_gate_values.nd rfl (.inl rfl)) (pgs_cons (pg_name (i := 10) sc_gate_values.nd rfl (.inr rfl)) (pgs_cons (pg_name (i := 5) sc_gate_values.nd rfl (.inl rfl)) (pgs_cons (pg_name (i := 7) sc_gate_values.nd rfl (.inl rfl)) pgs_nil)))))))
      (pss_one (ps_ret (pe_lc (own := [("left", 8), ("right", 9)]) rfl sc_gate_values.nd (piZ_ (K := K) rfl (pi_zip (by rfl) T.m_zip (pa_cons (pe_ix (ixL_ (K := K) rfl) (pv 1) (pv 5) (fun _ _ => rfl)) (pa_cons (pe_ix (ixL_ (K := K) rfl) (pv 1) (pv 7) (fun _ _ => rfl)) pa_nil)))) (blkOk_by (own := [("left", 8), ("right", 9)]) (N := N_gate_values) (sc := defScope s_gate_values) (by decide +kernel)) (fun _ _ _ _ _ => (pgT_ (K := K) rfl (pg_tup (n := 2) rfl (pgs_cons (pg_name (i := 8) sc_gate_values.nd rfl (.inl rfl)) (pgs_cons (pg_name (i := 9) sc_gate_values.nd rfl (.inl rfl)) pgs_nil))))) (fun _ _ _ _ _ => pts_nil) (fun _ _ _ _ _ => (pe_op op_mod (pe_op op_mul (pe_op op_mul (pv 10) (pv 8)) (pv 9)) (pv 2)))))))), ?_⟩
      walk_at "hs"
      refine iff' ?_
      walk_at "hs"
      refine a_gtupT hS rfl ?_
      walk_at "hs"
      have e0 : gv p cs (.tuple [.str "mul", .int c, .int x, .int y]) = List.zipWith (fun l r => c * l * r % p) cu cw := by
        show List.zipWith _ (cs.getD x.toNat []) (cs.getD y.toNat []) = _
        rw [eu, ew]
      rw [e0] at q
      refine c_zip (K := K) (xs := cu.map V.int) (ys := cw.map V.int) ((List.zipWith (fun l r => c * l * r % p) cu cw).map V.int) rfl (by decide) ?_ (by simp) (by simp; omega) ?_ ?_
      · intro R r
        obtain ⟨as, a1, f1, f2, f3⟩ := hA.at h2.1 hu
        obtain ⟨as', a2, f1', f2', f3'⟩ := hA.at h3.1 hw
        walk_at "hs"
        refine a_ixL f1 f2 ?_
        walk_at "hs"
        refine a_ixL f1' f2' ?_
        walk_at "hs"
        exact r _ _ _ (Same.refl _) f3 f3'
      · intro j x' y' hx hy H' R s r
        obtain ⟨l, hl, rfl⟩ := getV hx
        obtain ⟨rr, hr, rfl⟩ := getV hy
        have b1 := in_at iu hl
        have b2 := in_at iw hr
        have m1 : 0 ≤ c * l := Int.mul_nonneg h1.1 b1.1
        have m2 : c * l ≤ 1000 * 1000 := Int.mul_le_mul (by omega) (by omega) b1.1 (by omega)
        walk_at "hs"
        exact r _ _ (Same.refl _) (by rw [List.getElem?_map, zw_at hl hr]; rfl)
      · intro D H' nD s eD
        walk_at "hs"
        exact q D H' s nD eD
    · obtain ⟨cu, hu, eu, lu, iu⟩ := hC.at h2.1 h2.2
      obtain ⟨cw, hw, ew, lw, iw⟩ := hC.at h4.1 h4.2
      obtain ⟨tq, ys, rfl, hS, hV⟩ := dp_tuple hd
      obtain ⟨v0, v1, v2, v3, v4, rfl, hD0, hD1, hD2, hD3, hD4⟩ := dp5 hV
      obtain rfl := dp_str hD0
      obtain rfl := dp_int hD1
      obtain rfl := dp_int hD2
      obtain rfl := dp_int hD3
      obtain rfl := dp_int hD4
      refine ⟨_, (pss_cons (ps_if (pt_cmpR op_eq (pe_ix (ixT_ (K := K) rfl) (pv 0) pe_int (fun _ _ => rfl)) pe_str (nomark _)) (pss_cons (ps_asg (pv 0) (pgT_ (K := K) rfl (pg_tup (n := 5) rfl (pgs_cons (pg_name (i := 3) sc_gate_values.nd rfl (.inl rfl)) (pgs_cons (pg_name (i := 4) sc_gate_values.nd rfl (.inr rfl)) (pgs_cons (pg_name (i := 5) sc_gate_values.nd rfl (.inl rfl)) (pgs_cons (pg_name (i := 6) sc_gate_values.nd rfl (.inr rfl)) (pgs_cons (pg_name (i := 7) sc_gate_values.nd rfl (.inl rfl)) pgs_nil))))))))
      (pss_one (ps_ret (pe_lc (own := [("left", 8), ("right", 9)]) rfl sc_gate_values.nd (piZ_ (K := K) rfl (pi_zip (by rfl) T.m_zip (pa_cons (pe_ix (ixL_ (K := K) rfl) (pv 1) (pv 5) (fun _ _ => rfl)) (pa_cons (pe_ix (ixL_ (K := K) rfl) (pv 1) (pv 7) (fun _ _ => rfl)) pa_nil)))) (blkOk_by (own := [("left", 8), ("right", 9)]) (N := N_gate_values) (sc := defScope s_gate_values) (by decide +kernel)) (fun _ _ _ _ _ => (pgT_ (K := K) rfl (pg_tup (n := 2) rfl (pgs_cons (pg_name (i := 8) sc_gate_values.nd rfl (.inl rfl)) (pgs_cons (pg_name (i := 9) sc_gate_values.nd rfl (.inl rfl)) pgs_nil))))) (fun _ _ _ _ _ => pts_nil) (fun _ _ _ _ _ => (pe_op op_mod (pe_op op_add (pe_op op_mul (pv 4) (pv 8)) (pe_op op_mul (pv 6) (pv 9))) (pv 2))))))) pss_nil)
      (pss_cons (ps_asg (pv 0) (pgT_ (K := K) rfl (pg_tup (n := 4) rfl (pgs_cons (pg_name (i := 3) sc_gate_values.nd rfl (.inl rfl)) (pgs_cons (pg_name (i := 10) sc_gate_values.nd rfl (.inr rfl)) (pgs_cons (pg_name (i := 5) sc_gate_values.nd rfl (.inl rfl)) (pgs_cons (pg_name (i := 7) sc_gate_values.nd rfl (.inl rfl)) pgs_nil)))))))
      (pss_one (ps_ret (pe_lc (own := [("left", 8), ("right", 9)]) rfl sc_gate_values.nd (piZ_ (K := K) rfl (pi_zip (by rfl) T.m_zip (pa_cons (pe_ix (ixL_ (K := K) rfl) (pv 1) (pv 5) (fun _ _ => rfl)) (pa_cons (pe_ix (ixL_ (K := K) rfl) (pv 1) (pv 7) (fun _ _ => rfl)) pa_nil)))) (blkOk_by (own := [("left", 8), ("right", 9)]) (N := N_gate_values) (sc := defScope s_gate_values) (by decide +kernel)) (fun _ _ _ _ _ => (pgT_ (K := K) rfl (pg_tup (n := 2) rfl (pgs_cons (pg_name (i := 8) sc_gate_values.nd rfl (.inl rfl)) (pgs_cons (pg_name (i := 9) sc_gate_values.nd rfl (.inl rfl)) pgs_nil))))) (fun _ _ _ _ _ => pts_nil) (fun _ _ _ _ _ => (pe_op op_mod (pe_op op_mul (pe_op op_mul (pv 10) (pv 8)) (pv 9)) (pv 2)))))))), ?_⟩
      walk_at "hs"
      refine ift ?_
      walk_at "hs"
      refine a_gtupT hS rfl ?_
      walk_at "hs"
      have e0 : gv p cs (.tuple [.str "lin", .int a, .int x, .int b, .int y]) = List.zipWith (fun l r => (a * l + b * r) % p) cu cw := by
        show List.zipWith _ (cs.getD x.toNat []) (cs.getD y.toNat []) = _
        rw [eu, ew]
      rw [e0] at q
      refine c_zip (K := K) (xs := cu.map V.int) (ys := cw.map V.int) ((List.zipWith (fun l r => (a * l + b * r) % p) cu cw).map V.int) rfl (by decide) ?_ (by simp) (by simp; omega) ?_ ?_
      · intro R r
        obtain ⟨as, a1, f1, f2, f3⟩ := hA.at h2.1 hu
        obtain ⟨as', a2, f1', f2', f3'⟩ := hA.at h4.1 hw
        walk_at "hs"
        refine a_ixL f1 f2 ?_
        walk_at "hs"
        refine a_ixL f1' f2' ?_
        walk_at "hs"
        exact r _ _ _ (Same.refl _) f3 f3'
      · intro j x' y' hx hy H' R s r
        obtain ⟨l, hl, rfl⟩ := getV hx
        obtain ⟨rr, hr, rfl⟩ := getV hy
        have b1 := in_at iu hl
        have b2 := in_at iw hr
        walk_at "hs"
        exact r _ _ (Same.refl _) (by rw [List.getElem?_map, zw_at hl hr]; rfl)
      · intro D H' nD s eD
        walk_at "hs"
        exact q D H' s nD eD
def sp_table_of (K : PySem.W.Frag) : Sp := fun vs H Q _ => ∃ (A : Addr) (cs : List (List Int)), vs = [.ref A] ∧ LL K H A cs ∧ cs.flatten.length ≤ 1000000 ∧ ∀ b H', Same H H' → H b = none → H' b = some (.lst (cs.flatten.map V.int)) → Q (.ref b) H'
theorem ok_table_of (T : Txt P w K mg) (B : Tbs P w K mg base T) : FnOk P w K mg base CX0 1 T.f_table_of T.fd_table_of ["columns"] (sp_table_of K) := by
  refine T.F_table_of.ok sc_table_of (fun vs H Q E h => ?len) (fun cdv A outer s H vs Q E hr h => ?body)
  · obtain ⟨A, cs, rfl, _⟩ := h
    rfl
  · obtain ⟨A, cs, rfl, hA, hz, q⟩ := h
    refine ⟨_, (pss_one (ps_ret (pe_lc2 (own := [("column", 1), ("entry", 2)]) (vs1 := [2]) rfl sc_table_of.nd (piL_ (K := K) rfl (pv 0)) (blkOk_by (own := [("column", 1), ("entry", 2)]) (N := N_table_of) (sc := defScope s_table_of) (by decide +kernel)) (by decide) (fun _ _ _ _ _ => (pg_name (i := 1) sc_table_of.nd rfl (.inl rfl))) (fun _ _ _ _ _ => pts_nil) (fun _ _ _ _ _ => (piL_ (K := K) rfl (pv 1))) (fun _ _ _ _ _ => (pg_name (i := 2) sc_table_of.nd rfl (.inl rfl))) (fun _ _ _ _ _ => pts_nil) (fun _ _ _ _ _ => (pv 2))))), ?_⟩
    walk_at "hs"
    refine c_flat rfl (by decide) (show (1 : Nat) < 3 by decide) (show (2 : Nat) < 3 by decide) (fun R r => a_var rfl r) hA hz ?_
    intro D H' nD s eD
    walk_at "hs"
    exact q D H' s nD eD
def sp_columns_of (K : PySem.W.Frag) : Sp := fun vs H Q _ => ∃ (A : Addr) (rs : List (List Int)) (m : Nat), vs = [.ref A] ∧ LL K H A rs ∧ 1 ≤ rs.length ∧ (∀ r ∈ rs, r.length = m) ∧ rs.length ≤ 1024 ∧ m ≤ 1000 ∧ ∀ D H', Same H H' → LL K H' D ((List.range m).map fun j => rs.map fun r => r.getD j 0) → Q (.ref D) H'
theorem ok_columns_of (T : Txt P w K mg) (B : Tbs P w K mg base T) : FnOk P w K mg base CX0 1 T.f_columns_of T.fd_columns_of ["rows"] (sp_columns_of K) := by
  refine T.F_columns_of.ok sc_columns_of (fun vs H Q E h => ?len) (fun cdv A outer s H vs Q E hr h => ?body)
  · obtain ⟨A, rs, m, rfl, _⟩ := h
    rfl
  · obtain ⟨A, rs, m, rfl, hA, h1, hm, hr, hm2, q⟩ := h
    refine ⟨_, (pss_one (ps_ret (pe_lc (own := [("at", 2)]) rfl sc_columns_of.nd (pi_range1 (by rfl) T.m_range (pa_cons (pe_callB (lenK_ (K := K) rfl) (by rfl) T.m_len PySem.boot_len (pa_cons (pe_ix (ixL_ (K := K) rfl) (pv 0) pe_int (fun _ _ => rfl)) pa_nil)) pa_nil)) (blkOk_by (own := [("at", 2)]) (N := N_columns_of) (sc := defScope s_columns_of) (by decide +kernel)) (fun _ _ _ _ _ => (pg_name (i := 2) sc_columns_of.nd rfl (.inr rfl))) (fun _ _ _ _ _ => pts_nil) (fun _ _ _ _ _ => (pe_lc (own := [("row", 1)]) rfl sc_columns_of.nd (piL_ (K := K) rfl (pv 0)) (blkOk_by (own := [("row", 1)]) (N := N_columns_of) (by kernel_rfl)) (fun _ _ _ _ _ => (pg_name (i := 1) sc_columns_of.nd rfl (.inl rfl))) (fun _ _ _ _ _ => pts_nil) (fun _ _ _ _ _ => (pe_ix (ixL_ (K := K) rfl) (pv 1) (pv 2) (fun _ _ => rfl)))))))), ?_⟩
    walk_at "hs"
    obtain ⟨as, f1, f2, f3⟩ := hA
    refine c_newR (n := m) (fun j o => o = .lst ((rs.map fun r => r.getD j 0).map V.int)) rfl ?_ (by omega) ?_ ?_
    · intro R r
      obtain ⟨r0, hr0⟩ : ∃ r0, rs[0]? = some r0 := ⟨_, List.getElem?_eq_getElem (by omega)⟩
      obtain ⟨a0, ha0⟩ : ∃ a0, as[0]? = some a0 := ⟨_, List.getElem?_eq_getElem (by omega)⟩
      have e0 := f3 0 a0 r0 ha0 hr0
      have l0 := hm r0 (List.mem_of_getElem? hr0)
      walk_at "hs"
      refine a_ixL f1 (atI_nat (j := 0) (show (as.map V.ref)[0]? = some (.ref a0) by rw [List.getElem?_map, ha0]; rfl)) ?_
      walk_at "hs"
      rw [List.length_map, l0]
      exact r
    · intro j hj H' R s r
      refine c_same (K := K) (a := A) (xs := as.map V.ref) ((rs.map fun r => r.getD j 0).map V.int) rfl (fun R r => a_var rfl r) (s.seq f1) (by simp [f2]) (by simp; omega) ?_ ?_
      · intro i x hx H2 R2 s2 r2
        rw [List.getElem?_map] at hx
        cases e1 : as[i]? with
        | none => rw [e1] at hx; cases hx
        | some ai =>
          rw [e1] at hx; cases hx
          obtain ⟨ri, e2⟩ : ∃ ri, rs[i]? = some ri := ⟨_, List.getElem?_eq_getElem (by have := (List.getElem?_eq_some_iff.mp e1).1; omega)⟩
          have e3 := (s.trans s2).seq (f3 i ai ri e1 e2)
          have l3 := hm ri (List.mem_of_getElem? e2)
          have hj2 : (j : Int) < (ri.length : Int) := by omega
          walk_at "hs"
          rw [Int.toNat_natCast]
          exact r2 _ _ (Same.refl _) (by rw [List.getElem?_map, List.getElem?_map, e2]; rfl)
      · intro D H2 nD s2 eD
        exact r D H2 _ s2 nD eD rfl
    · intro D H' bs nD s hl e hb
      walk_at "hs"
      exact q D H' s (ll_new e hl hb)
def rowL (p : Int) (cols : Nat) (r : List Int) : Prop := r.length = cols ∧ In 0 p r
def sp_layer_tables (K : PySem.W.Frag) : Sp := fun vs H Q _ => ∃ (c w L A : Addr) (gas : List Addr) (p : Int) (ws : List Int) (ls : List (List PyData)) (rs : List (List Int)), vs = [.ref c, .ref A] ∧ GoodC K H c w L gas p ws ls ∧ LL K H A rs ∧ 1 ≤ rs.length ∧ rs.length ≤ 1024 ∧ (∀ r ∈ rs, r.length = 2 ^ (ws.getD ls.length 0).toNat ∧ In 0 p r) ∧ ∀ v H', Same H H' → Q v H'
theorem ok_layer_tables (T : Txt P w K mg) (B : Tbs P w K mg base T) : FnOk P w K mg base CX0 2 T.f_layer_tables T.fd_layer_tables ["circuit", "rows"] (sp_layer_tables K) := by
  have G_columns_of := ok_columns_of (P := P) (w := w) (base := base) T B
  have G_table_of := ok_table_of (P := P) (w := w) (base := base) T B
  have G_gate_values := ok_gate_values (P := P) (w := w) (base := base) T B
  have G_modulus := ok_modulus (P := P) (w := w) (base := base) T B
  refine T.F_layer_tables.ok sc_layer_tables (fun vs H Q E h => ?len) (fun cdv A outer s H vs Q E hr h => ?body)
  · obtain ⟨c, w, L, A, gas, p, ws, ls, rs, rfl, _⟩ := h
    rfl
  · obtain ⟨c, w, L, A, gas, p, ws, ls, rs, rfl, gc, hA, hr1, hr2, hrs, q⟩ := h
    have pc := gc.pure
    have hpb := pc.pb
    have hlen := pc.len
    have hgl := gc.gl
    have hl3 := pc.l3
    have bw : ∀ k, k ≤ ls.length → 1 ≤ 2 ^ (ws.getD k 0).toNat ∧ 2 ^ (ws.getD k 0).toNat ≤ 8 := fun k hk => by
      have b := pc.wb _ (in_mem (ws := ws) (k := k) (by omega))
      exact pow8n b.1 b.2
    refine ⟨_, (pss_cons (ps_set (i := 2) sc_layer_tables.nd rfl (.inr rfl) (pe_call G_columns_of (hr.mono (by decide)) (by rfl) T.g_columns_of T.F_columns_of.kp T.b_columns_of .nil pass0 (pa_cons (pv 1) pa_nil)))
      (pss_cons (ps_set (i := 3) sc_layer_tables.nd rfl (.inl rfl) (pe_lst (pa_cons (pe_call G_table_of (hr.mono (by decide)) (by rfl) T.g_table_of T.F_table_of.kp T.b_table_of .nil pass0 (pa_cons (pv 2) pa_nil)) pa_nil)))
      (pss_cons (ps_for PassesOwn.never rfl (pi_reversed (by rfl) T.m_reversed (pa_cons (pe_ix (ixT_ (K := K) rfl) (pv 0) pe_int (fun _ _ => rfl)) pa_nil)) (pg_name (i := 4) sc_layer_tables.nd rfl (.inl rfl)) (pss_cons (ps_set (i := 2) sc_layer_tables.nd rfl (.inr rfl) (pe_lc (own := [("gate", 5)]) rfl sc_layer_tables.nd (piL_ (K := K) rfl (pv 4)) (blkOk_by (own := [("gate", 5)]) (N := N_layer_tables) (sc := defScope s_layer_tables) (by decide +kernel)) (fun _ _ _ _ _ => (pg_name (i := 5) sc_layer_tables.nd rfl (.inl rfl))) (fun _ _ _ _ _ => pts_nil) (fun _ _ _ _ _ => (pe_call G_gate_values (hr.mono (by decide)) (by rfl) T.g_gate_values T.F_gate_values.kp T.b_gate_values .nil pass0 (pa_cons (pv 5) (pa_cons (pv 2) (pa_cons (pe_call G_modulus (hr.mono (by decide)) (by rfl) T.g_modulus T.F_modulus.kp T.b_modulus .nil pass0 (pa_cons (pv 0) pa_nil)) pa_nil)))))))
      (pss_one (ps_expr (bmK_ (K := K) rfl (pe_bm PySem.F.plainAttrs_list PySem.F.slot_list_append PySem.F.type_list_append mt_append (pv 3) (pa_cons (pe_call G_table_of (hr.mono (by decide)) (by rfl) T.g_table_of T.F_table_of.kp T.b_table_of .nil pass0 (pa_cons (pv 2) pa_nil)) pa_nil)))))))
      (pss_one (ps_ret (sl3K_ (K := K) rfl (pe_slice3 (pv 3) po_none po_none (po_some (pe_un un_neg pe_int))))))))), ?_⟩
    walk_at "hs"
    refine ⟨A, rs, 2 ^ (ws.getD ls.length 0).toNat, rfl, hA, hr1, fun r hr => (hrs r hr).1, hr2, by have := bw ls.length (Nat.le_refl _); omega, fun D H1 s1 hD => ?_⟩
    generalize hcs : ((List.range (2 ^ (ws.getD ls.length 0).toNat)).map fun j => rs.map fun r => r.getD j 0) = cs0 at *
    have hc0 : cs0.length = 2 ^ (ws.getD ls.length 0).toNat := by rw [← hcs]; simp
    have C0 : Cols p rs.length cs0 := by
      refine ⟨fun c hc => ?_, fun c hc => ?_⟩
      · rw [← hcs] at hc
        obtain ⟨j, _, rfl⟩ := List.mem_map.mp hc
        simp
      · rw [← hcs] at hc
        obtain ⟨j, hj, rfl⟩ := List.mem_map.mp hc
        intro e he
        obtain ⟨r, hr, rfl⟩ := List.mem_map.mp he
        obtain ⟨hr3, hr4⟩ := hrs r hr
        exact in_D hr4 (by rw [hr3]; exact List.mem_range.mp hj)
    have flatB : ∀ {cs : List (List Int)} {k : Nat}, Cols p rs.length cs → cs.length = 2 ^ (ws.getD k 0).toNat → k ≤ ls.length → cs.flatten.length ≤ 1000000 := fun {cs k} hC hl hk => by
      have b := bw k hk
      have : cs.flatten.length = cs.length * rs.length := by
        have z : ∀ (xs : List (List Int)), (∀ c ∈ xs, c.length = rs.length) → xs.flatten.length = xs.length * rs.length := by
          intro xs
          induction xs with
          | nil => intro _; simp
          | cons x r ih =>
            intro hx
            rw [List.flatten_cons, List.length_append, ih fun c hc => hx c (List.mem_cons_of_mem _ hc), hx x List.mem_cons_self, List.length_cons, Nat.add_mul]
            omega
        exact z cs hC.len
      rw [this, hl]
      have : 2 ^ (ws.getD k 0).toNat * rs.length ≤ 8 * 1024 := Nat.mul_le_mul b.2 hr2
      omega
    walk_at "hs"
    refine ⟨D, cs0, rfl, hD, flatB C0 hc0 (Nat.le_refl _), fun b H2 s2 nb eb => ?_⟩
    walk_at "hs"
    refine ⟨sz (show 1 ≤ 1000000 by decide), fun tb ntb => ?_⟩
    have s3 := (s1.trans s2).trans (same_upd (o := .lst [.ref b]) ntb)
    have hD3 : LL K (hid [tb] (upd H2 tb (.lst [.ref b]))) D cs0 := (hD.nt (Nt.of s2)).nt (Nt.of (hid_new (same_upd ntb) ntb))
    have et : (upd H2 tb (.lst [.ref b])) tb = some (.lst (([b] : List Addr).map V.ref)) := upd_same
    have ntb0 : H tb = none := (s1.trans s2).free ntb
    generalize upd H2 tb (.lst [.ref b]) = H3 at *
    have gc3 := gc.same s3
    have hT3 := sqt (K := K) gc3.tup
    have hL3 := sql (K := K) gc3.lay
    walk_at "hs"
    refine a_rev (K := K) ?_
    walk_at "hs"
    refine ⟨L, gas.map V.ref, rfl, hL3, ?_⟩
    refine fo_rev (xs := gas.map V.ref) (fun i σ H' => i ≤ ls.length ∧ Same H H' ∧ ∃ (B : Addr) (cs : List (List Int)) (acc : List Addr) (x4 : Option V), σ = [some (.ref c), some (.ref A), some (.ref B), some (.ref tb), x4, none] ∧ LL K (hid [tb] H') B cs ∧ Cols p rs.length cs ∧ cs.length = 2 ^ (ws.getD (ls.length - i) 0).toNat ∧ H' tb = some (.lst (acc.map V.ref)) ∧ acc.length = i + 1) ⟨Nat.zero_le _, s3, D, cs0, [b], none, rfl, hD3, C0, hc0, et, rfl⟩ (fun i σ H' h => h.2.1.seq (sql gc.lay)) ?_ ?_
    · rintro i x σ H' hi hx ⟨_, s4, B, cs, acc, x4, rfl, hB, hC, hcl, eT, hac⟩
      rw [List.length_map] at hi hx
      rw [List.getElem?_map] at hx
      obtain ⟨ga, hga⟩ : ∃ ga, gas[gas.length - 1 - i]? = some ga := ⟨_, List.getElem?_eq_getElem (by omega)⟩
      rw [hga] at hx
      cases hx
      obtain ⟨gd, hgd⟩ : ∃ gd, ls[gas.length - 1 - i]? = some gd := ⟨_, List.getElem?_eq_getElem (by omega)⟩
      have gc4 := gc.same s4
      obtain ⟨gvs, eG, dG⟩ := gc4.gat _ ga gd hga hgd
      obtain ⟨hgs1, hgs2⟩ := pc.gs _ gd hgd
      have hk : gas.length - 1 - i + 1 = ls.length - i := by omega
      have hcP : (2 : Int) ^ (ws.getD (ls.length - i) 0).toNat = ((cs.length : Nat) : Int) := by rw [hcl]; norm_cast
      rw [hk, hcP] at hgs2
      have hgl2 := dpAll_len dG
      have bcl := bw (ls.length - i) (by omega)
      have bgl := bw (gas.length - 1 - i) (by omega)
      walk_at "hs"
      refine c_new (K := K) (a := ga) (xs := gvs) (fun j o => ∀ g, gd[j]? = some g → o = .lst ((gv p cs g).map V.int)) rfl (fun R r => a_var rfl r) (sql eG) (by omega) ?_ ?_
      · intro j x hx H5 R s5 r
        obtain ⟨g, hg, hdg⟩ := dpAll_at dG hx
        have hT5 := sqt (K := K) (s5 _ _ gc4.tup)
        walk_at "hs"
        refine ⟨c, _, .int p, rfl, hT5, rfl, ?_⟩
        walk_at "hs"
        refine ⟨x, g, B, cs, p, rs.length, rfl, dp_same s5 hdg, (hB.nt (Nt.of hid_sub)).nt (Nt.of s5), hC, hr2, by omega, by omega, ?_, by omega, fun b2 H6 s6 nb2 eb2 => r b2 H6 _ s6 nb2 eb2 fun g' hg' => ?_⟩
        · have := hgs2 g (List.mem_of_getElem? hg)
          first | exact this | (rw [← hcP]; rw [hcl] at this; exact this) | (push_cast at this ⊢; exact this)
        · rw [hg] at hg'; cases hg'; rfl
      · intro D5 H5 bs nD5 s5 hbl eD5 hbs
        have nDt : D5 ≠ tb := fun z => by rw [z, eT] at nD5; cases nD5
        have hLL : LL K (hid [tb] H5) D5 ((List.range gvs.length).map fun j => gv p cs (gd.getD j .none)) := by
          refine ll_new (f := fun j => gv p cs (gd.getD j .none)) (hid_in eD5 (by simp [nDt])) hbl fun j b3 hb3 => ?_
          obtain ⟨o, h1, h2⟩ := hbs j b3 hb3
          have hj := (List.getElem?_eq_some_iff.mp hb3).1
          have hg : gd[j]? = some (gd.getD j .none) := by
            rw [List.getD_eq_getElem?_getD, List.getElem?_eq_getElem (show j < gd.length by omega)]
            rfl
          have ho := h2 _ hg
          have nb3 : b3 ≠ tb := fun z => by
            rw [z, s5 _ _ eT, ho] at h1
            have e1 := HO.lst.inj (Option.some.inj h1)
            cases acc with
            | nil => simp at hac
            | cons x r =>
              cases hgv : gv p cs (gd.getD j .none) with
              | nil => rw [hgv] at e1; cases e1
              | cons y u => rw [hgv] at e1; cases e1
          exact ⟨o, hid_in h1 (by simp [nb3]), ho⟩
        have hC5 : Cols p rs.length ((List.range gvs.length).map fun j => gv p cs (gd.getD j .none)) := by
          have all : ∀ cc ∈ ((List.range gvs.length).map fun j => gv p cs (gd.getD j .none)), cc.length = rs.length ∧ In 0 p cc := fun cc hcc => by
            obtain ⟨j, hj, rfl⟩ := List.mem_map.mp hcc
            have hj := List.mem_range.mp hj
            refine gv_ok hC (by omega) ?_
            have hm : gd.getD j .none ∈ gd := by
              rw [List.getD_eq_getElem?_getD, List.getElem?_eq_getElem (show j < gd.length by omega)]
              exact List.getElem_mem _
            have := hgs2 _ hm
            first | exact this | (push_cast at this ⊢; exact this)
          exact ⟨fun cc h => (all cc h).1, fun cc h => (all cc h).2⟩
        have hcl5 : ((List.range gvs.length).map fun j => gv p cs (gd.getD j .none)).length = 2 ^ (ws.getD (ls.length - (i + 1)) 0).toNat := by
          rw [List.length_map, List.length_range, hgl2, hgs1, show gas.length - 1 - i = ls.length - (i + 1) by omega]
        generalize ((List.range gvs.length).map fun j => gv p cs (gd.getD j .none)) = cs5 at *
        have eT5 := s5 _ _ eT
        walk_at "hs"
        refine ⟨D5, cs5, rfl, hLL.nt (Nt.of hid_sub), flatB hC5 hcl5 (by omega), fun b6 H6 s6 nb6 eb6 => ?_⟩
        have eT6 := s6 _ _ eT5
        walk_at "hs"
        refine a_append eT6 (szl (by rw [List.length_map]; omega)) ?_
        walk_at "hs"
        have ntb' : ∀ {a : Addr} {l : List V}, H a = some (.lst l) → a ≠ tb := fun {a l} e z => by rw [z, ntb0] at e; cases e
        exact ⟨by omega, smut ((s4.trans s5).trans s6) ntb0, D5, cs5, acc ++ [b6], _, rfl, hLL.nt (Nt.of ((hid_same s6).trans (hid_mut (List.mem_singleton.mpr rfl)))), hC5, hcl5, by rw [upd_same, List.map_append]; rfl, by rw [List.length_append, hac]; rfl⟩
    · rintro σ H' ⟨_, s4, B, cs, acc, x4, rfl, hB, hC, hcl, eT, hac⟩
      walk_at "hs"
      refine ⟨_, _, rfl, sql eT, by decide, by rw [rev_len, List.length_map]; exact sz (by omega), fun p' np => ?_⟩
      exact q _ _ (s4.trans (same_upd np))
def sp_run (K : PySem.W.Frag) (ts : List Addr) (CC CS : Addr) : Sp := fun vs H Q E => ∃ (c : Addr) (v : V) (d : PyData), vs = [.ref c, v] ∧ Dp K H v d ∧ TabsG ts H ∧
  ((∃ dC, Dp K H (.ref c) dC ∧ cdom dC ∧ FltR dC (.part "circuit") ∧ ∀ H' x, Nt H H' → TabsG ts H' → H' x = none → E (.ref CC) (some x) (upd H' x (.xd [("part", .str "circuit")]))) ∨
   (∃ w L gas p ws ls, GoodC K H c w L gas p ws ls ∧ (rowsF p (2 ^ (ws.getD ls.length 0).toNat) d = .ok → ∀ v' H', Nt H H' → TabsG ts H' → Q v' H') ∧
    (∀ s, rowsF p (2 ^ (ws.getD ls.length 0).toNat) d = .part s → ∀ H' x, Nt H H' → TabsG ts H' → H' x = none → E (.ref CC) (some x) (upd H' x (.xd [("part", .str s)]))) ∧
    (∀ s, rowsF p (2 ^ (ws.getD ls.length 0).toNat) d = .size s → ∀ H' x, Nt H H' → TabsG ts H' → H' x = none → E (.ref CS) (some x) (upd H' x (.xd [("limit", .str s)])))))
theorem ok_run (T : Txt P w K mg) (B : Tbs P w K mg base T) : FnOk P w K mg base (L2.CX P w) 9 T.f_run T.fd_run ["circuit", "rows"] (sp_run K T.ts T.C_CircuitError T.C_SizeError) := by
  have G_checked := ok_checked (P := P) (w := w) (base := base) T B
  have G_checked_rows := ok_checked_rows (P := P) (w := w) (base := base) T B
  have G_layer_tables := ok_layer_tables (P := P) (w := w) (base := base) T B
  refine T.F_run.okX sc_run (fun vs H Q E h => ?len) (fun cdv A outer s H vs Q E hr h => ?body)
  · obtain ⟨c, v, d, rfl, _⟩ := h
    rfl
  · obtain ⟨c, v, d, rfl, hd, tg, hh⟩ := h
    refine ⟨_, (pss_cons (ps_expr (by exact (pe_callS G_checked (hr.mono (by decide)) (by rfl) T.g_checked T.F_checked.kp T.b_checked (fun σ => passAt (takes_of (E := E) rfl rfl rfl rfl) σ) (by exact (pa_cons (pv 0) pa_nil)))))
      (pss_cons (ps_expr (by exact (pe_callS G_checked_rows (hr.mono (by decide)) (by rfl) T.g_checked_rows T.F_checked_rows.kp T.b_checked_rows (fun σ => passAt (takes_of (E := E) rfl rfl rfl rfl) σ) (by exact (pa_cons (pv 0) (pa_cons (pv 1) pa_nil))))))
      (pss_one (ps_ret (pe_call G_layer_tables (hr.mono (by decide)) (by rfl) T.g_layer_tables T.F_layer_tables.kp T.b_layer_tables .nil pass0 (pa_cons (pv 0) (pa_cons (pv 1) pa_nil))))))), ?_⟩
    rcases hh with ⟨dC, hC, dom, hf, qe⟩ | ⟨w, L, gas, p, ws, ls, gc, q1, q2, q3⟩
    · walk_at "hs"
      exact ⟨.ref c, dC, _, rfl, hC, dom, hf, tg, fun e => (nomatch e), fun s e H1 x n1 t1 hx => by cases e; exact qe _ _ n1 t1 hx, fun s e => (nomatch e), fun s e => (nomatch e)⟩
    · have pc := gc.pure
      obtain ⟨near0, flt0⟩ := pc.n0
      have hlen := pc.len
      walk_at "hs"
      refine ⟨.ref c, cD p ws ls, .ok, rfl, gc.dp, near0.dom, flt0, tg, fun _ H1 n1 t1 => ?_, fun s e => (nomatch e), fun s e => (nomatch e), fun s e => (nomatch e)⟩
      have gc1 := gc.nt n1
      have hgl := gc.gl
      have e1 : (gas.map V.ref).length = ls.length := by rw [List.length_map]; exact hgl
      have b := pc.wb _ (in_mem (ws := ws) (k := ls.length) (by omega))
      walk_at "hs"
      refine ⟨c, w, L, p, ws, gas.map V.ref, v, d, rfl, sqt gc1.tup, sql gc1.wid, sql gc1.lay, by omega, by rw [e1]; omega, n1.dp hd, t1, fun hok H2 n2 t2 => ?_, fun s hs H2 x n2 t2 hx => q2 s (by rw [e1] at hs; exact hs) _ _ (n1.trans n2) t2 hx, fun s hs H2 x n2 t2 hx => q3 s (by rw [e1] at hs; exact hs) _ _ (n1.trans n2) t2 hx⟩
      rw [e1] at hok
      obtain ⟨rs, hrs, r1, r2, r3⟩ := rows_ok hok
      subst hrs
      obtain ⟨A, rfl, hLL⟩ := ll_of ((n1.trans n2).dp hd)
      walk_at "hs"
      refine ⟨c, w, L, A, gas, p, ws, ls, rs, rfl, gc1.nt n2, hLL, r1, r2, fun r hr => ?_, fun v' H3 s3 => ?_⟩
      · obtain ⟨z1, z2⟩ := r3 r hr
        exact ⟨by have : ((2 ^ (ws.getD ls.length 0).toNat : Nat) : Int) = (2 : Int) ^ (ws.getD ls.length 0).toNat := by norm_cast
                  omega, z2⟩
      · walk_at "hs"
        exact q1 hok v' H3 ((n1.trans n2).trans (Nt.of s3)) (t2.same s3)
def sp__law_stream (K : PySem.W.Frag) : Sp := fun vs H Q _ => ∃ (a : Addr) (ns : List Int), vs = [.ref a] ∧ SqL K H a (ns.map V.int) ∧ ns.length ≤ 63 ∧ ∀ H' st, Same H H' → H st = none → StR H' st → Q (.ref st) H'
theorem ok__law_stream (T : Txt P w K mg) (B : Tbs P w K mg base T) : FnOk P w K mg base CX0 1 T.f__law_stream T.fd__law_stream ["script"] (sp__law_stream K) := by
  refine T.F__law_stream.ok sc__law_stream (fun vs H Q E h => ?len) (fun cdv A outer s H vs Q E hr h => ?body)
  · obtain ⟨a, ns, rfl, _⟩ := h
    rfl
  · obtain ⟨a, ns, rfl, hS, hl, q⟩ := h
    refine ⟨_, (pss_cons (ps_set (i := 1) sc__law_stream.nd rfl (.inl rfl) (pe_lst (pa_cons pe_int pa_nil)))
      (pss_cons (ps_for PassesOwn.never rfl (piL_ (K := K) rfl (pe_slice (slL_ (K := K) rfl) (pv 0) po_none (po_some pe_int))) (pg_name (i := 2) sc__law_stream.nd rfl (.inl rfl)) (pss_cons (ps_set (i := 3) sc__law_stream.nd rfl (.inl rfl) (pe_callB call_abs (by rfl) T.m_abs (by decide +kernel) (pa_cons (pe_callTy call_int1 (by rfl) T.m_int (by decide +kernel) (pa_cons (pv 2) pa_nil)) pa_nil)))
      (pss_one (ps_for PassesOwn.never rfl (pi_range1 (by rfl) T.m_range (pa_cons pe_int pa_nil)) (pg_name (i := 4) sc__law_stream.nd rfl (.inl rfl)) (pss_cons (ps_expr (bmK_ (K := K) rfl (pe_bm PySem.F.plainAttrs_list PySem.F.slot_list_append PySem.F.type_list_append mt_append (pv 1) (pa_cons (pe_op op_mod (pv 3) pe_int) pa_nil))))
      (pss_cons (ps_set (i := 3) sc__law_stream.nd rfl (.inl rfl) (pe_op op_fdivW (pv 3) pe_int))
      (pss_one (ps_if (pt_cmpR op_eq (pv 3) pe_int (nomark _)) (pss_one ps_break) pss_nil))))))))
      (pss_cons (ps_set (i := 5) sc__law_stream.nd rfl (.inl rfl) pe_int)
      (pss_cons (ps_for PassesOwn.never rfl (piL_ (K := K) rfl (pe_slice (slL_ (K := K) rfl) (pv 0) po_none (po_some pe_int))) (pg_name (i := 2) sc__law_stream.nd rfl (.inl rfl)) (pss_one (ps_set (i := 5) sc__law_stream.nd rfl (.inl rfl) (pe_op op_mod (pe_callTy call_int1 (by rfl) T.m_int (by decide +kernel) (pa_cons (pe_op op_add (pe_op op_add (pe_op op_mul (pv 5) pe_int) (pv 2)) pe_int) pa_nil)) pe_int))))
      (pss_cons (ps_for PassesOwn.never rfl (pi_range1 (by rfl) T.m_range (pa_cons pe_int pa_nil)) (pg_name (i := 4) sc__law_stream.nd rfl (.inl rfl)) (pss_cons (ps_set (i := 5) sc__law_stream.nd rfl (.inl rfl) (pe_op op_mod (pe_callTy call_int1 (by rfl) T.m_int (by decide +kernel) (pa_cons (pe_op op_add (pe_op op_add (pe_op op_mul (pv 5) pe_int) (pe_op op_mul (pv 4) pe_int)) pe_int) pa_nil)) pe_int))
      (pss_one (ps_expr (bmK_ (K := K) rfl (pe_bm PySem.F.plainAttrs_list PySem.F.slot_list_append PySem.F.type_list_append mt_append (pv 1) (pa_cons (pe_op op_mod (pe_op op_fdivW (pv 5) pe_int) pe_int) pa_nil)))))))
      (pss_one (ps_ret (pv 1)))))))), ?_⟩
    walk_at "hs"
    refine ⟨sz (show 1 ≤ 1000000 by decide), fun st nst => ?_⟩
    have s0 := same_upd (o := .lst [.int 1]) nst
    walk_at "hs"
    refine a_slL (s0.seq hS) fun sl nsl => ?_
    have hcut : cutV (ns.map V.int) none (some 63) = (ns.take 63).map V.int := cut_take ns 63
    rw [hcut]
    have htl : (ns.take 63).length ≤ 63 := by rw [List.length_take]; omega
    have nss : sl ≠ st := fun z => by rw [z, upd_same] at nsl; cases nsl
    have esl : (upd (upd H st (.lst [.int 1])) sl (.lst ((ns.take 63).map V.int))) st = some (.lst [.int 1]) := by rw [upd_ne nss.symm]; exact upd_same
    have s1 := s0.trans (same_upd (o := .lst ((ns.take 63).map V.int)) nsl)
    have nsl0 : H sl = none := s0.free nsl
    have esl2 : (upd (upd H st (.lst [.int 1])) sl (.lst ((ns.take 63).map V.int))) sl = some (.lst ((ns.take 63).map V.int)) := upd_same
    generalize upd (upd H st (.lst [.int 1])) sl (.lst ((ns.take 63).map V.int)) = H1 at *
    refine a_exl (sql esl2) ?_
    refine fo_list (xs := (ns.take 63).map V.int) (fun i σ H' => Same H H' ∧ H' sl = some (.lst ((ns.take 63).map V.int)) ∧ ∃ (l : List Int) (x2 x3 x4 x5 : Option V), σ = [some (.ref a), some (.ref st), x2, x3, x4, x5] ∧ H' st = some (.lst ((1 :: l).map V.int)) ∧ l.length ≤ 60 * i ∧ i ≤ 63)
      ⟨s1, esl2, [], none, none, none, none, rfl, esl, Nat.zero_le _, Nat.zero_le _⟩ (fun i σ H' _ h => sql h.2.1) ?_ ?_
    · rintro i x σ H' hi ⟨s2, e2, l, x2, x3, x4, x5, rfl, e3, hll, hi63⟩
      obtain ⟨v, hv, rfl⟩ := getV hi
      have hi2 := (List.getElem?_eq_some_iff.mp hv).1
      walk_at "hs"
      refine fo_range (fun j σ H' => Same H H' ∧ H' sl = some (.lst ((ns.take 63).map V.int)) ∧ ∃ (l : List Int) (left : Int) (x4 x5 : Option V), σ = [some (.ref a), some (.ref st), some (.int v), some (.int left), x4, x5] ∧ H' st = some (.lst ((1 :: l).map V.int)) ∧ l.length ≤ 60 * i + j ∧ j ≤ 60)
        ⟨s2, e2, l, _, _, _, rfl, e3, hll, by omega⟩ ?_ ?_
      · rintro j σ H' hj ⟨s2, e2, l, left, x4, x5, rfl, e3, hll, hj60⟩
        have hj' : j < 60 := hj
        walk_at "hs"
        refine a_append e3 (szl (by rw [List.length_map, List.length_cons]; omega)) ?_
        walk_at "hs"
        have e4 : (upd H' st (.lst ((1 :: l).map V.int ++ [.int (left % 59)]))) st = some (.lst ((1 :: (l ++ [left % 59])).map V.int)) := by rw [upd_same, List.map_cons, List.map_cons, List.map_append]; rfl
        have e5 : (upd H' st (.lst ((1 :: l).map V.int ++ [.int (left % 59)]))) sl = some (.lst ((ns.take 63).map V.int)) := by rw [upd_ne nss]; exact e2
        have s4 := smut (o := .lst ((1 :: l).map V.int ++ [.int (left % 59)])) s2 nst
        refine ifd (fun hz => ?_) (fun hz => ?_)
        · walk_at "hs"
          exact ⟨s4, e5, _, _, _, _, _, rfl, e4, by rw [List.length_append]; show l.length + 1 ≤ _; omega, by omega⟩
        · walk_at "hs"
          exact ⟨s4, e5, _, _, _, _, rfl, e4, by rw [List.length_append]; show l.length + 1 ≤ _; omega, by omega⟩
      · rintro σ H' ⟨s2, e2, l, left, x4, x5, rfl, e3, hll, _⟩
        have hll : l.length ≤ 60 * i + 60 := hll
        exact ⟨s2, e2, _, _, _, _, _, rfl, e3, by omega, by omega⟩
    · rintro σ H' ⟨s2, e2, l, x2, x3, x4, x5, rfl, e3, hll, hi63⟩
      have hl1 : l.length ≤ 3780 := by omega
      walk_at "hs"
      refine a_slL (s2.seq hS) fun sm nsm => ?_
      rw [hcut]
      have s3 := s2.trans (same_upd (o := .lst ((ns.take 63).map V.int)) nsm)
      have e4 := same_upd (o := .lst ((ns.take 63).map V.int)) nsm _ _ e3
      have em : (upd H' sm (.lst ((ns.take 63).map V.int))) sm = some (.lst ((ns.take 63).map V.int)) := upd_same
      generalize upd H' sm (.lst ((ns.take 63).map V.int)) = H2 at *
      refine a_exl (sql em) ?_
      refine fo_list (xs := (ns.take 63).map V.int) (fun i σ H' => H' = H2 ∧ ∃ (x2 x3 x4 : Option V) (seed : Int), σ = [some (.ref a), some (.ref st), x2, x3, x4, some (.int seed)])
        ⟨rfl, _, _, _, _, rfl⟩ (fun i σ H' _ h => by rw [h.1]; exact sql em) ?_ ?_
      · rintro i x σ H' hi ⟨rfl, x2, x3, x4, seed, rfl⟩
        obtain ⟨v, hv, rfl⟩ := getV hi
        walk_at "hs"
        exact ⟨rfl, _, _, _, _, rfl⟩
      · rintro σ H' ⟨rfl, x2, x3, x4, seed, rfl⟩
        walk_at "hs"
        refine fo_range (fun j σ H3 => Same H H3 ∧ ∃ (l : List Int) (x2 x3 x4 : Option V) (seed : Int), σ = [some (.ref a), some (.ref st), x2, x3, x4, some (.int seed)] ∧ H3 st = some (.lst ((1 :: l).map V.int)) ∧ l.length ≤ 3780 + j ∧ j ≤ 150)
          ⟨s3, l, _, _, _, _, rfl, e4, by omega, by omega⟩ ?_ ?_
        · rintro j σ H3 hj ⟨s5, l, x2, x3, x4, seed, rfl, e5, hl5, hj5⟩
          have hj' : j < 150 := hj
          walk_at "hs"
          refine a_append e5 (szl (by rw [List.length_map, List.length_cons]; omega)) ?_
          walk_at "hs"
          refine ⟨smut s5 nst, l ++ [_], _, _, _, _, rfl, by rw [upd_same, List.map_cons, List.map_cons, List.map_append]; rfl, by rw [List.length_append]; show l.length + 1 ≤ _; omega, by omega⟩
        · rintro σ H3 ⟨s5, l, x2, x3, x4, seed, rfl, e5, hl5, _⟩
          have hl5 : l.length ≤ 3780 + 150 := hl5
          walk_at "hs"
          exact q H3 st s5 nst ⟨1, l, e5, by omega, by omega⟩
def sp__law_take : Sp := fun vs H Q _ => ∃ (st : Addr) (many : Int), vs = [.ref st, .int many] ∧ StR H st ∧ 0 < many ∧ many < 9223372036854775808 ∧ ∀ d H', 0 ≤ d → d < many → StR H' st → Rw st H H' → Q (.int d) H'
theorem ok__law_take (T : Txt P w K mg) (B : Tbs P w K mg base T) : FnOk P w K mg base CX0 1 T.f__law_take T.fd__law_take ["row", "many"] (sp__law_take) := by
  refine T.F__law_take.ok sc__law_take (fun vs H Q E h => ?len) (fun cdv A outer s H vs Q E hr h => ?body)
  · obtain ⟨st, many, rfl, _⟩ := h
    rfl
  · obtain ⟨st, many, rfl, ⟨n, l, e1, hn, hl⟩, hm, hM, q⟩ := h
    refine ⟨_, (pss_cons (ps_if (pt_cmpR op_lt (pe_ix (ixL_ (K := K) rfl) (pv 0) pe_int (fun _ _ => rfl)) (pe_callB (lenK_ (K := K) rfl) (by rfl) T.m_len PySem.boot_len (pa_cons (pv 0) pa_nil)) (nomark _)) (pss_cons (ps_asg (pe_op op_add (pe_ix (ixL_ (K := K) rfl) (pv 0) pe_int (fun _ _ => rfl)) pe_int) (pg_sub (pv 0) pe_int set_list))
      (pss_one (ps_ret (pe_op op_mod (pe_callTy call_int1 (by rfl) T.m_int (by decide +kernel) (pa_cons (pe_ix (ixL_ (K := K) rfl) (pv 0) (pe_op op_sub (pe_ix (ixL_ (K := K) rfl) (pv 0) pe_int (fun _ _ => rfl)) pe_int) (fun _ _ => rfl)) pa_nil)) (pv 1))))) pss_nil)
      (pss_one (ps_ret pe_int))), ?_⟩
    walk_at "hs"
    rw [List.length_map, List.length_cons]
    have e1' : H st = some (.lst (.int n :: l.map V.int)) := e1
    refine ifd (fun hlt => ?_) (fun hlt => ?_)
    · walk_at "hs"
      refine a_setL0 e1' ?_
      have e2 : (upd H st (.lst (.int (n + 1) :: l.map V.int))) st = some (.lst (((n + 1) :: l).map V.int)) := upd_same
      have g2 : Rw st H (upd H st (.lst (.int (n + 1) :: l.map V.int))) := fun a o ha ne => by rw [upd_ne ne]; exact ha
      generalize upd H st (.lst (.int (n + 1) :: l.map V.int)) = H2 at *
      walk_at "hs"
      refine a_ixL (sql e2) (at_int (l := (n + 1) :: l) (x := n + 1 - 1) (by omega) (by rw [List.length_cons]; omega)) ?_
      walk_at "hs"
      exact q _ _ (Int.emod_nonneg _ (by omega)) (Int.emod_lt_of_pos _ hm) ⟨n + 1, l, e2, by omega, hl⟩ g2
    · walk_at "hs"
      exact q _ _ (by omega) hm ⟨n, l, e1, hn, hl⟩ (Rw.refl H)
def sp__law_gate (K : PySem.W.Frag) : Sp := fun vs H Q _ => ∃ (st : Addr) (M : List Addr) (p columns : Int), vs = [.ref st, .int p, .int columns] ∧ Dr st M H ∧ 0 < p ∧ p ≤ 1000 ∧ 0 < columns ∧ columns ≤ 1000 ∧
  ∀ v g H', Rw st H H' → Dr st M H' → Dp K (hid M H') v g → gateB columns p g = true → Q v H'
theorem ok__law_gate (T : Txt P w K mg) (B : Tbs P w K mg base T) : FnOk P w K mg base CX0 2 T.f__law_gate T.fd__law_gate ["row", "p", "columns"] (sp__law_gate K) := by
  have G__law_take := ok__law_take (P := P) (w := w) (base := base) T B
  refine T.F__law_gate.ok sc__law_gate (fun vs H Q E h => ?len) (fun cdv A outer s H vs Q E hr h => ?body)
  · obtain ⟨st, M, p, columns, rfl, _⟩ := h
    rfl
  · obtain ⟨st, M, p, columns, rfl, dr, hp, hp2, hc, hc2, q⟩ := h
    refine ⟨_, (pss_cons (ps_if (pt_cmpR op_eq (pe_call G__law_take (hr.mono (by decide)) (by rfl) T.g__law_take T.F__law_take.kp T.b__law_take .nil pass0 (pa_cons (pv 0) (pa_cons pe_int pa_nil))) pe_int (nomark _)) (pss_one (ps_ret (pe_tup (pa_cons pe_str (pa_cons (pe_call G__law_take (hr.mono (by decide)) (by rfl) T.g__law_take T.F__law_take.kp T.b__law_take .nil pass0 (pa_cons (pv 0) (pa_cons (pv 1) pa_nil))) (pa_cons (pe_call G__law_take (hr.mono (by decide)) (by rfl) T.g__law_take T.F__law_take.kp T.b__law_take .nil pass0 (pa_cons (pv 0) (pa_cons (pv 2) pa_nil))) (pa_cons (pe_call G__law_take (hr.mono (by decide)) (by rfl) T.g__law_take T.F__law_take.kp T.b__law_take .nil pass0 (pa_cons (pv 0) (pa_cons (pv 2) pa_nil))) pa_nil))))))) pss_nil)
      (pss_one (ps_ret (pe_tup (pa_cons pe_str (pa_cons (pe_call G__law_take (hr.mono (by decide)) (by rfl) T.g__law_take T.F__law_take.kp T.b__law_take .nil pass0 (pa_cons (pv 0) (pa_cons (pv 1) pa_nil))) (pa_cons (pe_call G__law_take (hr.mono (by decide)) (by rfl) T.g__law_take T.F__law_take.kp T.b__law_take .nil pass0 (pa_cons (pv 0) (pa_cons (pv 2) pa_nil))) (pa_cons (pe_call G__law_take (hr.mono (by decide)) (by rfl) T.g__law_take T.F__law_take.kp T.b__law_take .nil pass0 (pa_cons (pv 0) (pa_cons (pv 1) pa_nil))) (pa_cons (pe_call G__law_take (hr.mono (by decide)) (by rfl) T.g__law_take T.F__law_take.kp T.b__law_take .nil pass0 (pa_cons (pv 0) (pa_cons (pv 2) pa_nil))) pa_nil))))))))), ?_⟩
    walk_at "hs"
    refine ⟨st, 2, rfl, dr.row, by omega, by omega, fun d H1 d0 d1 sr1 r1 => ?_⟩
    walk_at "hs"
    refine ifd (fun h2 => ?_) (fun h2 => ?_)
    · walk_at "hs"
      refine ⟨st, p, rfl, sr1, by omega, by omega, fun c H2 c0 c1 sr2 r2 => ?_⟩
      walk_at "hs"
      refine ⟨st, columns, rfl, sr2, by omega, by omega, fun x H3 x0 x1 sr3 r3 => ?_⟩
      walk_at "hs"
      refine ⟨st, columns, rfl, sr3, by omega, by omega, fun y H4 y0 y1 sr4 r4 => ?_⟩
      have R := (r1.trans r2).trans (r3.trans r4)
      have dr4 := dr.step sr4 R
      walk_at "hs"
      refine ⟨sz (show 4 ≤ 1000000 by decide), fun t nt => ?_⟩
      exact q _ _ _ (R.new nt) (dr4.same (same_upd nt)) (dpt dr4 nt (Same.refl _) (Same.refl _) (.cons (.str _) (.cons (.int _) (.cons (.int _) (.cons (.int _) .nil))))) (gate_mul ⟨c0, c1⟩ ⟨x0, x1⟩ ⟨y0, y1⟩)
    · walk_at "hs"
      refine ⟨st, p, rfl, sr1, by omega, by omega, fun c H2 c0 c1 sr2 r2 => ?_⟩
      walk_at "hs"
      refine ⟨st, columns, rfl, sr2, by omega, by omega, fun x H3 x0 x1 sr3 r3 => ?_⟩
      walk_at "hs"
      refine ⟨st, p, rfl, sr3, by omega, by omega, fun b H4 b0 b1 sr4 r4 => ?_⟩
      walk_at "hs"
      refine ⟨st, columns, rfl, sr4, by omega, by omega, fun y H5 y0 y1 sr5 r5 => ?_⟩
      have R := ((r1.trans r2).trans (r3.trans r4)).trans r5
      have dr5 := dr.step sr5 R
      walk_at "hs"
      refine ⟨sz (show 5 ≤ 1000000 by decide), fun t nt => ?_⟩
      exact q _ _ _ (R.new nt) (dr5.same (same_upd nt)) (dpt dr5 nt (Same.refl _) (Same.refl _) (.cons (.str _) (.cons (.int _) (.cons (.int _) (.cons (.int _) (.cons (.int _) .nil)))))) (gate_lin ⟨c0, c1⟩ ⟨x0, x1⟩ ⟨b0, b1⟩ ⟨y0, y1⟩)
def sp__law_circuit (K : PySem.W.Frag) : Sp := fun vs H Q _ => ∃ (st : Addr) (most wide : Int), vs = [.ref st, .int most, .int wide] ∧ StR H st ∧ 1 ≤ most ∧ most ≤ 3 ∧ 0 ≤ wide ∧ wide ≤ 3 ∧
  ∀ c w L gas p ws ls H', Rw st H H' → StR H' st → GoodC K (hid [st] H') c w L gas p ws ls → Q (.ref c) H'
theorem ok__law_circuit (T : Txt P w K mg) (B : Tbs P w K mg base T) : FnOk P w K mg base CX0 3 T.f__law_circuit T.fd__law_circuit ["row", "most", "wide"] (sp__law_circuit K) := by
  have G__law_take := ok__law_take (P := P) (w := w) (base := base) T B
  have G__law_gate := ok__law_gate (P := P) (w := w) (base := base) T B
  refine T.F__law_circuit.ok sc__law_circuit (fun vs H Q E h => ?len) (fun cdv A outer s H vs Q E hr h => ?body)
  · obtain ⟨st, most, wide, rfl, _⟩ := h
    rfl
  · obtain ⟨st, most, wide, rfl, sr, m1, m3, w0, w3, q⟩ := h
    refine ⟨_, (pss_cons (ps_set (i := 3) sc__law_circuit.nd rfl (.inr rfl) (pe_ix (ixL_ (K := K) rfl) (pe_lst (pa_cons pe_int (pa_cons pe_int (pa_cons pe_int (pa_cons pe_int (pa_cons pe_int pa_nil)))))) (pe_call G__law_take (hr.mono (by decide)) (by rfl) T.g__law_take T.F__law_take.kp T.b__law_take .nil pass0 (pa_cons (pv 0) (pa_cons pe_int pa_nil))) (fun _ _ => rfl)))
      (pss_cons (ps_set (i := 4) sc__law_circuit.nd rfl (.inl rfl) (pe_op op_add pe_int (pe_call G__law_take (hr.mono (by decide)) (by rfl) T.g__law_take T.F__law_take.kp T.b__law_take .nil pass0 (pa_cons (pv 0) (pa_cons (pv 1) pa_nil)))))
      (pss_cons (ps_set (i := 5) sc__law_circuit.nd rfl (.inr rfl) (pe_lc (own := [("k", 6)]) rfl sc__law_circuit.nd (pi_range1 (by rfl) T.m_range (pa_cons (pe_op op_add (pv 4) pe_int) pa_nil)) (blkOk_by (own := [("k", 6)]) (N := N__law_circuit) (sc := defScope s__law_circuit) (by decide +kernel)) (fun _ _ _ _ _ => (pg_name (i := 6) sc__law_circuit.nd rfl (.inl rfl))) (fun _ _ _ _ _ => pts_nil) (fun _ _ _ _ _ => (pe_call G__law_take (hr.mono (by decide)) (by rfl) T.g__law_take T.F__law_take.kp T.b__law_take .nil pass0 (pa_cons (pv 0) (pa_cons (pe_op op_add (pv 2) pe_int) pa_nil))))))
      (pss_cons (ps_set (i := 7) sc__law_circuit.nd rfl (.inl rfl) (pe_lst pa_nil))
      (pss_cons (ps_for PassesOwn.never rfl (pi_range1 (by rfl) T.m_range (pa_cons (pv 4) pa_nil)) (pg_name (i := 8) sc__law_circuit.nd rfl (.inr rfl)) (pss_one (ps_expr (bmK_ (K := K) rfl (pe_bm PySem.F.plainAttrs_list PySem.F.slot_list_append PySem.F.type_list_append mt_append (pv 7) (pa_cons (pe_lc (own := [("k", 6)]) rfl sc__law_circuit.nd (pi_range1 (by rfl) T.m_range (pa_cons (pe_op op_shl pe_int (pe_ix (ixL_ (K := K) rfl) (pv 5) (pv 8) (fun _ _ => rfl))) pa_nil)) (blkOk_by (own := [("k", 6)]) (N := N__law_circuit) (sc := defScope s__law_circuit) (by decide +kernel)) (fun _ _ _ _ _ => (pg_name (i := 6) sc__law_circuit.nd rfl (.inl rfl))) (fun _ _ _ _ _ => pts_nil) (fun _ _ _ _ _ => (pe_call G__law_gate (hr.mono (by decide)) (by rfl) T.g__law_gate T.F__law_gate.kp T.b__law_gate .nil pass0 (pa_cons (pv 0) (pa_cons (pv 3) (pa_cons (pe_op op_shl pe_int (pe_ix (ixL_ (K := K) rfl) (pv 5) (pe_op op_add (pv 8) pe_int) (fun _ _ => rfl))) pa_nil)))))) pa_nil))))))
      (pss_one (ps_ret (pe_tup (pa_cons pe_str (pa_cons (pv 3) (pa_cons (pv 5) (pa_cons (pv 7) pa_nil)))))))))))), ?_⟩
    walk_at "hs"
    refine ⟨sz (show 5 ≤ 1000000 by decide), fun r nr => ?_⟩
    have sr0 := sr.same (same_upd (o := .lst [.int 5, .int 7, .int 11, .int 13, .int 53]) nr)
    have e0 : (upd H r (.lst [.int 5, .int 7, .int 11, .int 13, .int 53])) r = some (.lst ([5, 7, 11, 13, 53].map V.int)) := upd_same
    have nrs := sr.ne nr
    have R0 : Rw st H (upd H r (.lst [.int 5, .int 7, .int 11, .int 13, .int 53])) := Rw.of (same_upd nr)
    generalize upd H r (.lst [.int 5, .int 7, .int 11, .int 13, .int 53]) = H0 at *
    walk_at "hs"
    refine ⟨st, 5, rfl, sr0, by omega, by omega, fun d H1 d0 d1 sr1 r1 => ?_⟩
    refine a_ixL (sql (r1 _ _ e0 nrs)) (at_int d0 d1) ?_
    obtain ⟨p, hp, hP, p5, p53⟩ : ∃ p : Int, ([5, 7, 11, 13, 53] : List Int).getD d.toNat 0 = p ∧ goodM p = true ∧ 5 ≤ p ∧ p ≤ 53 := by
      have : d.toNat = 0 ∨ d.toNat = 1 ∨ d.toNat = 2 ∨ d.toNat = 3 ∨ d.toNat = 4 := by omega
      rcases this with h | h | h | h | h <;> rw [h]
      · exact ⟨5, rfl, good5, by omega, by omega⟩
      · exact ⟨7, rfl, good7, by omega, by omega⟩
      · exact ⟨11, rfl, good11, by omega, by omega⟩
      · exact ⟨13, rfl, good13, by omega, by omega⟩
      · exact ⟨53, rfl, good53, by omega, by omega⟩
    rw [hp]
    walk_at "hs"
    refine ⟨st, most, rfl, sr1, by omega, by omega, fun d2 H2 f0 f1 sr2 r2 => ?_⟩
    obtain ⟨n, hn⟩ : ∃ n : Nat, 1 + d2 = (n : Int) := ⟨(1 + d2).toNat, by omega⟩
    walk_at "hs"
    rw [hn]
    refine c_nums (st := st) (M := [st]) (k := 6) (fun k => k = n + 1) (fun x => 0 ≤ x ∧ x ≤ wide) rfl (fun k h => by omega) (Dr.one sr2) ?_ ?_ ?_
    · intro R r
      walk_at "hs"
      exact r (n + 1) H2 rfl sr2 (Rw.refl _)
    · intro m j H' R hm hj dj rj r
      walk_at "hs"
      exact ⟨st, wide + 1, rfl, dj.row, by omega, by omega, fun y H'' g0 g1 s r6 => r y H'' s r6 ⟨g0, by omega⟩⟩
    · intro m W H3 ws hm hW dr3 r3 hwl hws eW
      subst hm
      have nWs : W ≠ st := sr2.ne hW
      walk_at "hs"
      refine ⟨Nat.zero_le _, fun L nL => ?_⟩
      have nLs := dr3.row.ne nL
      have nWL : W ≠ L := fun z => by rw [z, nL] at eW; cases eW
      have dr4 : Dr st [L, st] (upd H3 L (.lst [])) := (dr3.same (same_upd nL)).cons upd_same
      have eW4 : hid [L, st] (upd H3 L (.lst [])) W = some (.lst (ws.map V.int)) := hid_in (same_upd nL _ _ eW) (by simp [nWL, nWs])
      have R4 : Rw st H (upd H3 L (.lst [])) := ((R0.trans r1).trans (r2.trans r3)).new nL
      have eL4 : (upd H3 L (.lst [])) L = some (.lst (([] : List Addr).map V.ref)) := upd_same
      generalize upd H3 L (.lst []) = H4 at *
      walk_at "hs"
      rw [Int.toNat_natCast]
      refine fo_range (fun i σ H' => i ≤ n ∧ ∃ (gas : List Addr) (ls : List (List PyData)) (x6 x8 : Option V), σ = [some (.ref st), some (.int most), some (.int wide), some (.int p), some (.int (n : Int)), some (.ref W), x6, some (.ref L), x8] ∧ Rw st H H' ∧ Dr st [L, st] H' ∧ hid [L, st] H' W = some (.lst (ws.map V.int)) ∧ H' L = some (.lst (gas.map V.ref)) ∧ gas.length = i ∧ ls.length = i ∧
        (∀ (j : Nat) (ga : Addr) (gd : List PyData), gas[j]? = some ga → ls[j]? = some gd → ∃ gv, hid [L, st] H' ga = some (.lst gv) ∧ DpAll K (hid [L, st] H') gv gd) ∧
        (∀ (j : Nat) (gd : List PyData), ls[j]? = some gd → gd.length = 2 ^ (ws.getD j 0).toNat ∧ ∀ g ∈ gd, gateB (2 ^ (ws.getD (j + 1) 0).toNat) p g = true))
        ⟨Nat.zero_le _, [], [], none, none, rfl, R4, dr4, eW4, eL4, rfl, rfl, fun j ga gd e => by simp at e, fun j gd e => by simp at e⟩ ?_ ?_
      · rintro i σ H' hi ⟨_, gas, ls, x6, x8, rfl, R5, dr5, eW5, eL5, gl, ll, hgat, hgs⟩
        have hi : i < n := hi
        have wS := sql (K := K) (hid_of eW5).1
        have b1 := hws _ (in_mem (ws := ws) (k := i) (by omega))
        have b2 := hws _ (in_mem (ws := ws) (k := i + 1) (by omega))
        have c1 : ws.getD (i : Int).toNat 0 = ws.getD i 0 := by rw [Int.toNat_natCast]
        have c2 : ws.getD ((i : Int) + 1).toNat 0 = ws.getD (i + 1) 0 := by rw [show ((i : Int) + 1).toNat = i + 1 by omega]
        have p1 := pow8n b1.1 (by omega)
        have p2 := pow8 b2.1 (by omega)
        walk_at "hs"
        refine c_gen (st := st) (M := [L, st]) (k := 6) (fun k => k = 2 ^ (ws.getD i 0).toNat) (fun _ ys G => ∃ gd, DpAll K G ys gd ∧ ∀ g ∈ gd, gateB (2 ^ (ws.getD (i + 1) 0).toNat) p g = true) (fun _ _ _ _ s h => by
          obtain ⟨gd, h1, h2⟩ := h
          exact ⟨gd, dpAll_same s h1, h2⟩) rfl (fun k h => by omega) dr5 ?_ ⟨[], .nil, fun g h => by simp at h⟩ ?_ ?_
        · intro R r
          have b1' : 0 ≤ ws.getD (i : Int).toNat 0 ∧ ws.getD (i : Int).toNat 0 ≤ 3 := by rw [c1]; omega
          walk_at "hs"
          rw [c1]
          have := r (2 ^ (ws.getD i 0).toNat) H' rfl dr5.row (Rw.refl _)
          rw [Int.one_mul]
          rw [show (((2 ^ (ws.getD i 0).toNat : Nat)) : Int) = (2 : Int) ^ (ws.getD i 0).toNat by norm_cast] at this
          exact this
        · rintro m j D ys H6 R hm hj hys hD d6 r6 s6 ⟨gd, hgd, hgg⟩ r
          have wS6 := sql (K := K) (hid_of (s6 _ _ eW5)).1
          have b2' : 0 ≤ ws.getD ((i : Int) + 1).toNat 0 ∧ ws.getD ((i : Int) + 1).toNat 0 ≤ 3 := by rw [c2]; omega
          walk_at "hs"
          rw [c2, Int.one_mul]
          refine ⟨st, D :: [L, st], p, _, rfl, d6, by omega, by omega, by omega, by omega, fun v g H7 r7 d7 hv hg => ?_⟩
          refine r v H7 d7.row r7 ⟨gd ++ [g], dpAll_app (dpAll_same (r7.hid d6.mem) hgd) (.cons hv .nil), fun g' h' => ?_⟩
          rcases List.mem_append.mp h' with z | z
          · exact hgg g' z
          · rw [List.mem_singleton.mp z]; exact hg
        · rintro m D H6 ys hm hD d6 r6 hys ⟨gd, hgd, hgg⟩ eD
          have nDL : D ≠ L := fun z => by rw [z, eL5] at hD; cases hD
          have nDs := dr5.row.ne hD
          have eL6 := r6 _ _ eL5 nLs
          walk_at "hs"
          refine a_append eL6 (szl (by rw [List.length_map]; omega)) ?_
          walk_at "hs"
          have hs1 : Same (hid [L, st] H') (hid [L, st] (upd H6 L (.lst (gas.map V.ref ++ [.ref D])))) := (r6.hid dr5.mem).trans (hid_mut List.mem_cons_self)
          have hs2 : Same (hid [L, st] H6) (hid [L, st] (upd H6 L (.lst (gas.map V.ref ++ [.ref D])))) := hid_mut List.mem_cons_self
          have hLen : gd.length = 2 ^ (ws.getD i 0).toNat := by rw [← dpAll_len hgd, hys, hm]
          refine ⟨by omega, gas ++ [D], ls ++ [gd], _, _, rfl, ?_, d6.mut nLs, hs1 _ _ eW5, by rw [upd_same, List.map_append]; rfl, by rw [List.length_append, gl]; rfl, by rw [List.length_append, ll]; rfl, fun j ga gd' e1 e2 => ?_, fun j gd' e2 => ?_⟩
          · have hLn : H L = none := by
              cases e : H L with
              | none => rfl
              | some o =>
                have := (((R0.trans r1).trans (r2.trans r3)) L o e nLs)
                rw [nL] at this; cases this
            exact (R5.trans r6).mut hLn
          · by_cases hj : j < i
            · rw [List.getElem?_append_left (by omega)] at e1 e2
              obtain ⟨gv, g1, g2⟩ := hgat j ga gd' e1 e2
              exact ⟨gv, hs1 _ _ g1, dpAll_same hs1 g2⟩
            · have hj2 : j = i := by
                have := (List.getElem?_eq_some_iff.mp e1).1
                rw [List.length_append] at this
                have z : [D].length = 1 := rfl
                omega
              subst hj2
              rw [List.getElem?_append_right (by omega), gl, Nat.sub_self] at e1
              rw [List.getElem?_append_right (by omega), ll, Nat.sub_self] at e2
              cases e1
              cases e2
              exact ⟨ys, hs2 _ _ (hid_in eD (by simp [nDL, nDs])), dpAll_same hs2 hgd⟩
          · by_cases hj : j < i
            · rw [List.getElem?_append_left (by omega)] at e2
              exact hgs j gd' e2
            · have hj2 : j = i := by
                have := (List.getElem?_eq_some_iff.mp e2).1
                rw [List.length_append] at this
                have z : [gd].length = 1 := rfl
                omega
              subst hj2
              rw [List.getElem?_append_right (by omega), ll, Nat.sub_self] at e2
              cases e2
              exact ⟨hLen, hgg⟩
      · rintro σ H' ⟨_, gas, ls, x6, x8, rfl, R5, dr5, eW5, eL5, gl, ll, hgat, hgs⟩
        walk_at "hs"
        refine ⟨sz (show 4 ≤ 1000000 by decide), fun t nt => ?_⟩
        have s5 : Same (hid [L, st] H') (hid [st] (upd H' t (.tup [.str "circuit", .int p, .ref W, .ref L]))) := (hid_cons).trans (hid_same (same_upd nt))
        refine q t W L gas p ws ls _ (R5.new nt) (dr5.row.same (same_upd nt)) { tup := hid_in upd_same (by simp [dr5.row.ne nt]), wid := s5 _ _ eW5, lay := hid_in (same_upd nt _ _ eL5) (by simp [nLs]), gl := by omega, gat := fun j ga gd e1 e2 => ?_, good := hP, pb := ⟨p5, p53⟩, len := by omega, l1 := by omega, l3 := by omega, wb := fun x hx => by have := hws x hx; omega, gs := hgs }
        obtain ⟨gv, g1, g2⟩ := hgat j ga gd e1 e2
        exact ⟨gv, s5 _ _ g1, dpAll_same s5 g2⟩
def sp__law_inputs (K : PySem.W.Frag) : Sp := fun vs H Q _ => ∃ (st c w L : Addr) (gas : List Addr) (p : Int) (ws : List Int) (ls : List (List PyData)) (bits : Nat), vs = [.ref st, .ref c, .int (bits : Int)] ∧ StR H st ∧ GoodC K (hid [st] H) c w L gas p ws ls ∧ bits ≤ 2 ∧
  ∀ A as rs H', Rw st H H' → StR H' st → RowsH (hid [st] H') A as rs p (2 ^ (ws.getD ls.length 0).toNat) (2 ^ bits) → Q (.ref A) H'
theorem ok__law_inputs (T : Txt P w K mg) (B : Tbs P w K mg base T) : FnOk P w K mg base CX0 2 T.f__law_inputs T.fd__law_inputs ["row", "circuit", "bits"] (sp__law_inputs K) := by
  have G__law_take := ok__law_take (P := P) (w := w) (base := base) T B
  refine T.F__law_inputs.ok sc__law_inputs (fun vs H Q E h => ?len) (fun cdv A outer s H vs Q E hr h => ?body)
  · obtain ⟨st, c, w, L, gas, p, ws, ls, bits, rfl, _⟩ := h
    rfl
  · obtain ⟨st, c, w, L, gas, p, ws, ls, bits, rfl, sr, gc, hb, q⟩ := h
    have pc := gc.pure
    have hlen := pc.len
    have hpb := pc.pb
    have dr := Dr.one sr
    have hT := sqt (K := K) (hid_of gc.tup).1
    have hW := sql (K := K) (hid_of gc.wid).1
    have b1 := pc.wb _ (in_mem (ws := ws) (k := ls.length) (by omega))
    have p1 := pow8n b1.1 b1.2
    have bp : 2 ^ bits ≤ 4 := by
      have : bits = 0 ∨ bits = 1 ∨ bits = 2 := by omega
      rcases this with h | h | h <;> rw [h] <;> decide
    refine ⟨_, (pss_cons (ps_set (i := 3) sc__law_inputs.nd rfl (.inr rfl) (pe_op op_shl pe_int (pe_ix (ixL_ (K := K) rfl) (pe_ix (ixT_ (K := K) rfl) (pv 1) pe_int (fun _ _ => rfl)) (pe_un un_neg pe_int) (fun _ _ => rfl))))
      (pss_one (ps_ret (pe_lc (own := [("r", 5)]) rfl sc__law_inputs.nd (pi_range1 (by rfl) T.m_range (pa_cons (pe_op op_shl pe_int (pv 2)) pa_nil)) (blkOk_by (own := [("r", 5)]) (N := N__law_inputs) (sc := defScope s__law_inputs) (by decide +kernel)) (fun _ _ _ _ _ => (pg_name (i := 5) sc__law_inputs.nd rfl (.inl rfl))) (fun _ _ _ _ _ => pts_nil) (fun _ _ _ _ _ => (pe_lc (own := [("k", 4)]) rfl sc__law_inputs.nd (pi_range1 (by rfl) T.m_range (pa_cons (pv 3) pa_nil)) (blkOk_by (own := [("k", 4)]) (N := N__law_inputs) (by kernel_rfl)) (fun _ _ _ _ _ => (pg_name (i := 4) sc__law_inputs.nd rfl (.inl rfl))) (fun _ _ _ _ _ => pts_nil) (fun _ _ _ _ _ => (pe_call G__law_take (hr.mono (by decide)) (by rfl) T.g__law_take T.F__law_take.kp T.b__law_take .nil pass0 (pa_cons (pv 0) (pa_cons (pe_ix (ixT_ (K := K) rfl) (pv 1) pe_int (fun _ _ => rfl)) pa_nil)))))))))), ?_⟩
    walk_at "hs"
    refine a_ixL hW (at_last (ws := ws) (k := ls.length) hlen) ?_
    walk_at "hs"
    rw [Int.one_mul]
    refine c_gen (st := st) (M := [st]) (k := 5) (fun k => k = 2 ^ bits) (fun _ ys G => ∃ (as : List Addr) (rs : List (List Int)), ys = as.map V.ref ∧ as.length = rs.length ∧ (∀ r ∈ rs, r.length = 2 ^ (ws.getD ls.length 0).toNat ∧ In 0 p r) ∧ ∀ (j : Nat) (a : Addr) (r : List Int), as[j]? = some a → rs[j]? = some r → G a = some (.lst (r.map V.int))) (fun _ _ _ _ s h => by
      obtain ⟨as, rs, h1, h2, h3, h4⟩ := h
      exact ⟨as, rs, h1, h2, h3, fun j a r e1 e2 => s _ _ (h4 j a r e1 e2)⟩) rfl (fun k h => by omega) dr ?_ ⟨[], [], rfl, rfl, fun r hr => by simp at hr, fun j a r e => by simp at e⟩ ?_ ?_
    · intro R r
      walk_at "hs"
      rw [Int.one_mul, Int.toNat_natCast]
      have := r (2 ^ bits) H rfl sr (Rw.refl _)
      rw [show (((2 ^ bits : Nat)) : Int) = (2 : Int) ^ bits by norm_cast] at this
      exact this
    · rintro m j D ys H6 R hm hj hys hD d6 r6 s6 ⟨as, rs, rfl, f1, f2, f3⟩ r
      have hT6 := sqt (K := K) (hid_of (s6 _ _ gc.tup)).1
      refine c_nums (st := st) (M := D :: [st]) (k := 4) (fun k => k = 2 ^ (ws.getD ls.length 0).toNat) (fun x => 0 ≤ x ∧ x < p) rfl (fun k h => by omega) d6 ?_ ?_ ?_
      · intro R2 r2
        walk_at "hs"
        have := r2 (2 ^ (ws.getD ls.length 0).toNat) H6 rfl d6.row (Rw.refl _)
        rw [show (((2 ^ (ws.getD ls.length 0).toNat : Nat)) : Int) = (2 : Int) ^ (ws.getD ls.length 0).toNat by norm_cast] at this
        exact this
      · intro m2 j2 H7 R2 hm2 hj2 d7 r7 r2
        have hT7 := sqt (K := K) (hid_of ((r7.hid d6.mem) _ _ (s6 _ _ gc.tup))).1
        walk_at "hs"
        exact ⟨st, p, rfl, d7.row, by omega, by omega, fun y H'' g0 g1 s r8 => r2 y H'' s r8 ⟨g0, g1⟩⟩
      · intro m2 D2 H7 l hm2 hD2 d7 r7 hll hls eD2
        have nD2 : D2 ∉ D :: [st] := d6.al.new hD2
        refine r (.ref D2) H7 d7.row r7 ⟨as ++ [D2], rs ++ [l], by rw [List.map_append]; rfl, by rw [List.length_append, List.length_append, f1]; rfl, fun r' hr' => ?_, fun j' a r' e1 e2 => ?_⟩
        · rcases List.mem_append.mp hr' with z | z
          · exact f2 r' z
          · rw [List.mem_singleton.mp z]; exact ⟨by rw [hll, hm2], hls⟩
        · by_cases hjj : j' < as.length
          · rw [List.getElem?_append_left hjj] at e1
            rw [List.getElem?_append_left (by omega)] at e2
            exact (r7.hid d6.mem) _ _ (f3 j' a r' e1 e2)
          · have hj2 : j' = as.length := by
              have := (List.getElem?_eq_some_iff.mp e1).1
              rw [List.length_append] at this
              have z : [D2].length = 1 := rfl
              omega
            subst hj2
            rw [List.getElem?_append_right (Nat.le_refl _), Nat.sub_self] at e1
            rw [f1, List.getElem?_append_right (Nat.le_refl _), Nat.sub_self] at e2
            cases e1
            cases e2
            exact hid_in eD2 nD2
    · rintro m D H6 ys hm hD d6 r6 hys ⟨as, rs, rfl, f1, f2, f3⟩ eD
      walk_at "hs"
      refine q D as rs H6 r6 d6.row ⟨hid_in eD (dr.al.new hD), f1, ?_, f2, f3⟩
      rw [List.length_map] at hys
      omega
def sp__law_fault (K : PySem.W.Frag) : Sp := fun vs H Q _ => ∃ (st c w L A : Addr) (gas as : List Addr) (p : Int) (ws : List Int) (ls : List (List PyData)) (rs : List (List Int)) (n cols : Nat), vs = [.ref st, .ref c, .ref A] ∧ StR H st ∧ GoodC K (hid [st] H) c w L gas p ws ls ∧ RowsH (hid [st] H) A as rs p cols n ∧ (n = 1 ∨ n = 2 ∨ n = 4) ∧ 1 ≤ cols ∧ cols ≤ 8 ∧
  ∀ (t : Addr) v d s H', Rw st H H' → StR H' st → SqT K (hid [st] H') t [v, .str s] → Dp K (hid [st] H') v d → NearR p (cols : Int) d s → Q (.ref t) H'
theorem ok__law_fault (T : Txt P w K mg) (B : Tbs P w K mg base T) : FnOk P w K mg base CX0 2 T.f__law_fault T.fd__law_fault ["row", "circuit", "rows"] (sp__law_fault K) := by
  have G__law_take := ok__law_take (P := P) (w := w) (base := base) T B
  refine T.F__law_fault.ok sc__law_fault (fun vs H Q E h => ?len) (fun cdv A outer s H vs Q E hr h => ?body)
  · obtain ⟨st, c, w, L, A, gas, as, p, ws, ls, rs, n, cols, rfl, _⟩ := h
    rfl
  · obtain ⟨st, c, w, L, A, gas, as, p, ws, ls, rs, n, cols, rfl, sr, gc, rh, hn, hc1, hc8, q⟩ := h
    have hpb := gc.pb
    have dr0 := Dr.one sr
    have hal := rh.al
    have hrl := rh.rl
    refine ⟨_, (pss_cons (ps_set (i := 3) sc__law_fault.nd rfl (.inl rfl) (pe_ix (ixT_ (K := K) rfl) (pv 1) pe_int (fun _ _ => rfl)))
      (pss_cons (ps_set (i := 4) sc__law_fault.nd rfl (.inl rfl) (pe_call G__law_take (hr.mono (by decide)) (by rfl) T.g__law_take T.F__law_take.kp T.b__law_take .nil pass0 (pa_cons (pv 0) (pa_cons (pe_callB (lenK_ (K := K) rfl) (by rfl) T.m_len PySem.boot_len (pa_cons (pv 2) pa_nil)) pa_nil))))
      (pss_cons (ps_set (i := 5) sc__law_fault.nd rfl (.inl rfl) (pe_ix (ixL_ (K := K) rfl) (pv 2) (pv 4) (fun _ _ => rfl)))
      (pss_cons (ps_set (i := 6) sc__law_fault.nd rfl (.inl rfl) (pe_lstA (pa_cons (pe_tupA (pa_cons pe_non (pa_cons pe_str pa_nil))) (pa_cons (pe_tupA (pa_cons (pe_lstA pa_nil) (pa_cons pe_str pa_nil))) (pa_cons (pe_tupA (pa_cons (pe_callTy (tupK_ (K := K) rfl) (by rfl) T.m_tuple (by decide +kernel) (pa_cons (pv 2) pa_nil)) (pa_cons pe_str pa_nil))) (pa_cons (pe_tupA (pa_cons (pe_op op_cat (pe_op op_cat (pv 2) (pv 2)) (pv 2)) (pa_cons pe_str pa_nil))) (pa_cons (pe_tupA (pa_cons (pe_op op_rep (pe_slice (slL_ (K := K) rfl) (pv 2) po_none (po_some pe_int)) pe_int) (pa_cons pe_str pa_nil))) pa_nil)))))))
      (pss_cons (ps_for PassesOwn.never rfl (piL_ (K := K) rfl (pe_lstA (pa_cons (pe_op op_cat (pv 5) (pe_lstA (pa_cons pe_int pa_nil))) (pa_cons (pe_slice (slL_ (K := K) rfl) (pv 5) po_none (po_some (pe_un un_neg pe_int))) (pa_cons (pe_callTy (tupK_ (K := K) rfl) (by rfl) T.m_tuple (by decide +kernel) (pa_cons (pv 5) pa_nil)) (pa_cons pe_non (pa_cons (pe_op op_cat (pe_slice (slL_ (K := K) rfl) (pv 5) po_none (po_some (pe_un un_neg pe_int))) (pe_lstA (pa_cons (pv 3) pa_nil))) (pa_cons (pe_op op_cat (pe_slice (slL_ (K := K) rfl) (pv 5) po_none (po_some (pe_un un_neg pe_int))) (pe_lstA (pa_cons (pe_op op_sub pe_int pe_int) pa_nil))) (pa_cons (pe_op op_cat (pe_lstA (pa_cons pe_bl pa_nil)) (pe_slice (slL_ (K := K) rfl) (pv 5) (po_some pe_int) po_none)) (pa_cons (pe_op op_cat (pe_slice (slL_ (K := K) rfl) (pv 5) po_none (po_some (pe_un un_neg pe_int))) (pe_lstA (pa_cons pe_str pa_nil))) pa_nil)))))))))) (pg_name (i := 7) sc__law_fault.nd rfl (.inl rfl)) (pss_one (ps_expr (bmK_ (K := K) rfl (pe_bm PySem.F.plainAttrs_list PySem.F.slot_list_append PySem.F.type_list_append mt_append (pv 6) (pa_cons (pe_tupA (pa_cons (pe_op op_cat (pe_op op_cat (pe_slice (slL_ (K := K) rfl) (pv 2) po_none (po_some (pv 4))) (pe_lstA (pa_cons (pv 7) pa_nil))) (pe_slice (slL_ (K := K) rfl) (pv 2) (po_some (pe_op op_add (pv 4) pe_int)) po_none)) (pa_cons pe_str pa_nil))) pa_nil))))))
      (pss_one (ps_ret (pe_ix (ixL_ (K := K) rfl) (pv 6) (pe_call G__law_take (hr.mono (by decide)) (by rfl) T.g__law_take T.F__law_take.kp T.b__law_take .nil pass0 (pa_cons (pv 0) (pa_cons pe_int pa_nil))) (fun _ _ => rfl))))))))), ?_⟩
    have ST := sqt (K := K) (hid_of gc.tup).1
    have SA := sql (K := K) (hid_of rh.lst).1
    walk_at "hs"
    rw [List.length_map]
    refine ⟨st, (as.length : Int), rfl, sr, by omega, by omega, fun da H1 a0 a1 sr1 r1' => ?_⟩
    obtain ⟨k, rfl⟩ : ∃ k : Nat, da = (k : Int) := ⟨da.toNat, by omega⟩
    have S1 := r1'.hid dr0.mem
    have rh1 := rh.same S1
    have dr := dr0.step sr1 r1'
    have eA := (hid_of rh1.lst).1
    have dR : DpAll K (hid [st] H1) (as.map V.ref) (rs.map fun c => .list (dInts c)) := RowsH.dpAll rh1.al rh1.at_
    obtain ⟨o1, ho1⟩ : ∃ a, as[k]? = some a := ⟨_, List.getElem?_eq_getElem (by omega)⟩
    obtain ⟨r1, hr1⟩ : ∃ r, rs[k]? = some r := ⟨_, List.getElem?_eq_getElem (by omega)⟩
    obtain ⟨ob0, hob0⟩ : ∃ a, as[0]? = some a := ⟨_, List.getElem?_eq_getElem (by omega)⟩
    obtain ⟨r0, hr0⟩ : ∃ r, rs[0]? = some r := ⟨_, List.getElem?_eq_getElem (by omega)⟩
    have eO := (hid_of (rh1.at_ k o1 r1 ho1 hr1)).1
    have d0 : Dp K (hid [st] H1) (.ref ob0) (.list (dInts r0)) := .lst (sql (rh1.at_ 0 ob0 r0 hob0 hr0)) (dp_ints r0)
    obtain ⟨ol1, oi1⟩ := rh1.ok r1 (List.mem_of_getElem? hr1)
    have htake : (as.map V.ref).take 1 = [.ref ob0] := by
      cases as with
      | nil => simp at hob0
      | cons x y => cases hob0; rfl
    have hRO : ∀ x ∈ (rs.map fun c => PyData.list (dInts c)), RowO x := fun x hx => by
      obtain ⟨r, hr, rfl⟩ := List.mem_map.mp hx
      obtain ⟨z1, z2⟩ := rh1.ok r hr
      exact rowO_ints (fun y hy => by have := z2 y hy; omega) (by omega)
    have hRn : (rs.map fun c => PyData.list (dInts c)).length = 1 ∨ (rs.map fun c => PyData.list (dInts c)).length = 2 ∨ (rs.map fun c => PyData.list (dInts c)).length = 4 := by rw [List.length_map]; omega
    walk_at "hs"
    refine a_ixL (sql eA) (atI_nat (show (as.map V.ref)[k]? = some (.ref o1) by rw [List.getElem?_map, ho1]; rfl)) ?_
    clear ST SA S1 rh1 rh gc
    walk_at "hs"
    refine ⟨sz (show 2 ≤ 1000000 by decide), fun t2 H2 n2 s2 e2 => ?_⟩
    have d2 : Dp K (hid [st] H2) (.ref t2) (.tuple [.none, .str "rows"]) := dpx (dr.same (by walk_at "sm")) n2 e2 (.cons .non (.cons (.str _) .nil))
    walk_at "hs"
    refine ⟨sz (show 0 ≤ 1000000 by decide), fun t3 H3 n3 s3 e3 => ?_⟩
    have l3 : DpAll K (hid [st] H3) _ [] := .nil
    have d3 : Dp K (hid [st] H3) (.ref t3) (.list []) := dpy (dr.same (by walk_at "sm")) n3 e3 l3
    walk_at "hs"
    refine ⟨sz (show 2 ≤ 1000000 by decide), fun t4 H4 n4 s4 e4 => ?_⟩
    have d4 : Dp K (hid [st] H4) (.ref t4) (.tuple [.list [], .str "rows"]) := dpx (dr.same (by walk_at "sm")) n4 e4 (.cons (dp_same (hid_same (by walk_at "sm")) d3) (.cons (.str _) .nil))
    walk_at "hs"
    refine ⟨_, _, rfl, .inl ⟨sql (sat (by walk_at "sm") eA), fun t5 n5 => ?_⟩⟩
    have s5 := same_upd (o := .tup (as.map V.ref)) n5
    have e5 : (upd H4 t5 (.tup (as.map V.ref))) t5 = some (.tup (as.map V.ref)) := upd_same
    generalize upd H4 t5 (.tup (as.map V.ref)) = H5 at *
    have d5 : Dp K (hid [st] H5) (.ref t5) (.tuple (rs.map fun c => .list (dInts c))) := dpx (dr.same (by walk_at "sm")) n5 e5 (dpAll_same (hid_same (by walk_at "sm")) dR)
    walk_at "hs"
    refine ⟨sz (show 2 ≤ 1000000 by decide), fun t6 H6 n6 s6 e6 => ?_⟩
    have d6 : Dp K (hid [st] H6) (.ref t6) (.tuple [.tuple (rs.map fun c => .list (dInts c)), .str "rows"]) := dpx (dr.same (by walk_at "sm")) n6 e6 (.cons (dp_same (hid_same (by walk_at "sm")) d5) (.cons (.str _) .nil))
    walk_at "hs"
    refine a_catA (sat (by walk_at "sm") eA) (sat (by walk_at "sm") eA) (by rw [List.length_map]; omega) fun t7 H7 n7 s7 e7 => ?_
    walk_at "hs"
    refine a_catA e7 (sat (by walk_at "sm") eA) (by rw [List.length_append, List.length_map]; omega) fun t8 H8 n8 s8 e8 => ?_
    have d8 : Dp K (hid [st] H8) (.ref t8) (.list (((rs.map fun c => PyData.list (dInts c)) ++ (rs.map fun c => PyData.list (dInts c))) ++ (rs.map fun c => PyData.list (dInts c)))) := dpy (dr.same (by walk_at "sm")) n8 e8 (dpAll_app (dpAll_app (dpAll_same (hid_same (by walk_at "sm")) dR) (dpAll_same (hid_same (by walk_at "sm")) dR)) (dpAll_same (hid_same (by walk_at "sm")) dR))
    walk_at "hs"
    refine ⟨sz (show 2 ≤ 1000000 by decide), fun t9 H9 n9 s9 e9 => ?_⟩
    have d9 : Dp K (hid [st] H9) (.ref t9) (.tuple [.list (((rs.map fun c => PyData.list (dInts c)) ++ (rs.map fun c => PyData.list (dInts c))) ++ (rs.map fun c => PyData.list (dInts c))), .str "rows"]) := dpx (dr.same (by walk_at "sm")) n9 e9 (.cons (dp_same (hid_same (by walk_at "sm")) d8) (.cons (.str _) .nil))
    walk_at "hs"
    refine a_slA (hi := some ((1 : Nat) : Int)) (sql (sat (by walk_at "sm") eA)) fun t10 H10 n10 s10 e10 => ?_
    rw [cut_takeG, htake] at e10
    walk_at "hs"
    refine a_rep1 (k := 2048) e10 (by decide) fun t11 H11 n11 s11 e11 => ?_
    have d11 : Dp K (hid [st] H11) (.ref t11) (.list (List.replicate 2048 (.list (dInts r0)))) := dpy (dr.same (by walk_at "sm")) n11 e11 (dp_rep (dp_same (hid_same (by walk_at "sm")) d0) 2048)
    walk_at "hs"
    refine ⟨sz (show 2 ≤ 1000000 by decide), fun t12 H12 n12 s12 e12 => ?_⟩
    have d12 : Dp K (hid [st] H12) (.ref t12) (.tuple [.list (List.replicate 2048 (.list (dInts r0))), .str "size"]) := dpx (dr.same (by walk_at "sm")) n12 e12 (.cons (dp_same (hid_same (by walk_at "sm")) d11) (.cons (.str _) .nil))
    walk_at "hs"
    have dF0 : DpAll K (hid [st] H12) _ [.tuple [.none, .str "rows"], .tuple [.list [], .str "rows"], .tuple [.tuple (rs.map fun c => .list (dInts c)), .str "rows"], .tuple [.list (((rs.map fun c => PyData.list (dInts c)) ++ (rs.map fun c => PyData.list (dInts c))) ++ (rs.map fun c => PyData.list (dInts c))), .str "rows"], .tuple [.list (List.replicate 2048 (.list (dInts r0))), .str "size"]] := (.cons (dp_same (hid_same (by walk_at "sm")) d2) (.cons (dp_same (hid_same (by walk_at "sm")) d4) (.cons (dp_same (hid_same (by walk_at "sm")) d6) (.cons (dp_same (hid_same (by walk_at "sm")) d9) (.cons (dp_same (hid_same (by walk_at "sm")) d12) .nil)))))
    have okF : ∀ e ∈ ([.tuple [.none, .str "rows"], .tuple [.list [], .str "rows"], .tuple [.tuple (rs.map fun c => .list (dInts c)), .str "rows"], .tuple [.list (((rs.map fun c => PyData.list (dInts c)) ++ (rs.map fun c => PyData.list (dInts c))) ++ (rs.map fun c => PyData.list (dInts c))), .str "rows"], .tuple [.list (List.replicate 2048 (.list (dInts r0))), .str "size"]] : List PyData), OkR p (cols : Int) e := (okR_cons nr_none (okR_cons nr_nil (okR_cons (nr_tup hRO (by omega)) (okR_cons (nr_three hRO hRn) (okR_cons (nr_size (hRO _ (List.mem_map.mpr ⟨r0, List.mem_of_getElem? hr0, rfl⟩))) okR_nil)))))
    walk_at "hs"
    refine ⟨sz (show 5 ≤ 1000000 by decide), fun t13 H13 n13 s13 e13 => ?_⟩
    have drP := dr.same (show Same H1 H12 from by walk_at "sm")
    have nF : t13 ≠ st := drP.row.ne n13
    have hF1 : H1 t13 = none := (show Same H1 H12 from by walk_at "sm").free n13
    have dF := dpAll_same ((hid_fresh n13).trans (hid_same s13)) dF0
    have eF := e13
    have dr2 := (drP.same s13).cons e13
    walk_at "hs"
    refine ⟨sz (show 1 ≤ 1000000 by decide), fun t14 H14 n14 s14 e14 => ?_⟩
    walk_at "hs"
    refine a_catA (sat (by walk_at "sm") eO) e14 (by rw [List.length_map]; show r1.length + 1 ≤ 1000000; omega) fun t15 H15 n15 s15 e15 => ?_
    have d15 : Dp K (hid [t13, st] H15) (.ref t15) (.list (dInts (r1 ++ [0]))) := dpy (dr2.same (by walk_at "sm")) n15 e15 (by rw [dInts_app]; exact dpAll_app (dp_ints r1) (dp_ints [0]))
    walk_at "hs"
    refine a_slA (sql (sat (by walk_at "sm") eO)) fun t16 H16 n16 s16 e16 => ?_
    rw [show cutV (r1.map V.int) none (some (-1)) = r1.dropLast.map V.int by rw [cut_init, List.map_dropLast]] at e16
    have d16 : Dp K (hid [t13, st] H16) (.ref t16) (.list (dInts r1.dropLast)) := dpy (dr2.same (by walk_at "sm")) n16 e16 (dp_ints r1.dropLast)
    walk_at "hs"
    refine ⟨_, _, rfl, .inl ⟨sql (sat (by walk_at "sm") eO), fun t17 n17 => ?_⟩⟩
    have s17 := same_upd (o := .tup (r1.map V.int)) n17
    have e17 : (upd H16 t17 (.tup (r1.map V.int))) t17 = some (.tup (r1.map V.int)) := upd_same
    generalize upd H16 t17 (.tup (r1.map V.int)) = H17 at *
    have d17 : Dp K (hid [t13, st] H17) (.ref t17) (.tuple (dInts r1)) := dpx (dr2.same (by walk_at "sm")) n17 e17 (dp_ints r1)
    walk_at "hs"
    refine a_slA (sql (sat (by walk_at "sm") eO)) fun t18 H18 n18 s18 e18 => ?_
    rw [show cutV (r1.map V.int) none (some (-1)) = r1.dropLast.map V.int by rw [cut_init, List.map_dropLast]] at e18
    walk_at "hs"
    refine ⟨sz (show 1 ≤ 1000000 by decide), fun t19 H19 n19 s19 e19 => ?_⟩
    walk_at "hs"
    refine a_catA (sat (by walk_at "sm") e18) e19 (by rw [List.length_map, List.length_dropLast]; show r1.length - 1 + 1 ≤ 1000000; omega) fun t20 H20 n20 s20 e20 => ?_
    have d20 : Dp K (hid [t13, st] H20) (.ref t20) (.list (dInts (r1.dropLast ++ [p]))) := dpy (dr2.same (by walk_at "sm")) n20 e20 (by rw [dInts_app]; exact dpAll_app (dp_ints r1.dropLast) (dp_ints [p]))
    walk_at "hs"
    refine a_slA (sql (sat (by walk_at "sm") eO)) fun t21 H21 n21 s21 e21 => ?_
    rw [show cutV (r1.map V.int) none (some (-1)) = r1.dropLast.map V.int by rw [cut_init, List.map_dropLast]] at e21
    walk_at "hs"
    refine ⟨sz (show 1 ≤ 1000000 by decide), fun t22 H22 n22 s22 e22 => ?_⟩
    walk_at "hs"
    refine a_catA (sat (by walk_at "sm") e21) e22 (by rw [List.length_map, List.length_dropLast]; show r1.length - 1 + 1 ≤ 1000000; omega) fun t23 H23 n23 s23 e23 => ?_
    have d23 : Dp K (hid [t13, st] H23) (.ref t23) (.list (dInts (r1.dropLast ++ [0 - 1]))) := dpy (dr2.same (by walk_at "sm")) n23 e23 (by rw [dInts_app]; exact dpAll_app (dp_ints r1.dropLast) (dp_ints [0 - 1]))
    walk_at "hs"
    refine ⟨sz (show 1 ≤ 1000000 by decide), fun t24 H24 n24 s24 e24 => ?_⟩
    walk_at "hs"
    refine a_slA (sql (sat (by walk_at "sm") eO)) fun t25 H25 n25 s25 e25 => ?_
    rw [drop_one] at e25
    walk_at "hs"
    refine a_catA (sat (by walk_at "sm") e24) e25 (by rw [List.length_map, List.length_drop]; show 1 + (r1.length - 1) ≤ 1000000; omega) fun t26 H26 n26 s26 e26 => ?_
    have d26 : Dp K (hid [t13, st] H26) (.ref t26) (.list ([.bool true] ++ dInts (r1.drop 1))) := dpy (dr2.same (by walk_at "sm")) n26 e26 (dpAll_app (.cons (.bl true) .nil) (dp_ints (r1.drop 1)))
    walk_at "hs"
    refine a_slA (sql (sat (by walk_at "sm") eO)) fun t27 H27 n27 s27 e27 => ?_
    rw [show cutV (r1.map V.int) none (some (-1)) = r1.dropLast.map V.int by rw [cut_init, List.map_dropLast]] at e27
    walk_at "hs"
    refine ⟨sz (show 1 ≤ 1000000 by decide), fun t28 H28 n28 s28 e28 => ?_⟩
    walk_at "hs"
    refine a_catA (sat (by walk_at "sm") e27) e28 (by rw [List.length_map, List.length_dropLast]; show r1.length - 1 + 1 ≤ 1000000; omega) fun t29 H29 n29 s29 e29 => ?_
    have d29 : Dp K (hid [t13, st] H29) (.ref t29) (.list (dInts r1.dropLast ++ [.str "0"])) := dpy (dr2.same (by walk_at "sm")) n29 e29 (dpAll_app (dp_ints r1.dropLast) (.cons (.str _) .nil))
    walk_at "hs"
    refine ⟨sz (show 8 ≤ 1000000 by decide), fun t30 H30 n30 s30 e30 => ?_⟩
    have dW : DpAll K (hid [t13, st] H30) _ [.list (dInts (r1 ++ [0])), .list (dInts r1.dropLast), .tuple (dInts r1), .none, .list (dInts (r1.dropLast ++ [p])), .list (dInts (r1.dropLast ++ [0 - 1])), .list ([.bool true] ++ dInts (r1.drop 1)), .list (dInts r1.dropLast ++ [.str "0"])] := (.cons (dp_same (hid_same (by walk_at "sm")) d15) (.cons (dp_same (hid_same (by walk_at "sm")) d16) (.cons (dp_same (hid_same (by walk_at "sm")) d17) (.cons .non (.cons (dp_same (hid_same (by walk_at "sm")) d20) (.cons (dp_same (hid_same (by walk_at "sm")) d23) (.cons (dp_same (hid_same (by walk_at "sm")) d26) (.cons (dp_same (hid_same (by walk_at "sm")) d29) .nil))))))))
    have okW : ∀ e ∈ ([.list (dInts (r1 ++ [0])), .list (dInts r1.dropLast), .tuple (dInts r1), .none, .list (dInts (r1.dropLast ++ [p])), .list (dInts (r1.dropLast ++ [0 - 1])), .list ([.bool true] ++ dInts (r1.drop 1)), .list (dInts r1.dropLast ++ [.str "0"])] : List PyData), WrongO p (cols : Int) e := (wr_cons (w_more oi1 hpb (by omega) (by omega) (by omega)) (wr_cons (w_less oi1 hpb (by omega) (by omega) (by omega)) (wr_cons (w_tup oi1 hpb (by omega) (by omega) (by omega)) (wr_cons w_none (wr_cons (w_last oi1 hpb (by omega) (by omega) (by omega) (by omega) (by omega)) (wr_cons (w_last oi1 hpb (by omega) (by omega) (by omega) (by omega) (by omega)) (wr_cons (w_true oi1 hpb (by omega) (by omega) (by omega)) (wr_cons (w_str oi1 hpb (by omega) (by omega) (by omega)) wr_nil))))))))
    have nW : t30 ∉ [t13, st] := (dr2.same (by walk_at "sm")).al.new n30
    have SW1 : Same H1 H30 := Same.trans (show Same H1 H13 from by walk_at "sm") (show Same H13 H30 from by walk_at "sm")
    have SF : Same H13 H30 := by clear SW1; walk_at "sm"
    replace eF := SF _ _ eF
    replace dF := dpAll_same (hid_same SF) dF
    have eW := e30
    walk_at "hs"
    refine a_exl (sql eW) ?_
    have hwl := dpAll_len dW
    have hRf : ∀ {H' : Hp}, Same H1 H' → DpAll K (hid [t13, st] H') (as.map V.ref) (rs.map fun c => .list (dInts c)) := fun {H'} s => dpAll_same ((hid_fresh hF1).trans (hid_same s)) dR
    refine fo_list (fun i σ H' => Same H1 H' ∧ ∃ (fv : List V) (fd : List PyData) (x7 : Option V), σ = [some (.ref st), some (.ref c), some (.ref A), some (.int p), some (.int (k : Int)), some (.ref o1), some (.ref t13), x7] ∧ H' t13 = some (.lst fv) ∧ DpAll K (hid [t13, st] H') fv fd ∧ (∀ e ∈ fd, OkR p (cols : Int) e) ∧ fd.length = 5 + i ∧ Same (hid [t13, st] H30) (hid [t13, st] H'))
      ⟨SW1, _, _, none, rfl, eF, dF, okF, rfl, Same.refl _⟩ (fun i σ H' _ h => by
        obtain ⟨_, _, _, _, _, _, _, _, _, sH⟩ := h
        exact sql (hid_of (sH _ _ (hid_in eW nW))).1) ?_ ?_
    · rintro i x σ H' hi ⟨s, fv, fd, x7, rfl, eF', dF', okF', lenF', sH⟩
      have hi8 : i < 8 := (List.getElem?_eq_some_iff.mp hi).1
      obtain ⟨dx, hdx, hD⟩ := dpAll_at dW hi
      have wx := okW dx (List.mem_of_getElem? hdx)
      have hfl := dpAll_len dF'
      have drL := (dr.same s).cons eF'
      have hD' := dp_same sH hD
      walk_at "hs"
      refine a_slA (sql (s _ _ eA)) fun u1 Ha m1 q1 f1 => ?_
      rw [cut_takeG] at f1
      walk_at "hs"
      refine ⟨sz (show 1 ≤ 1000000 by decide), fun u2 Hb m2 q2 f2 => ?_⟩
      walk_at "hs"
      refine a_catA (q2 _ _ f1) f2 (by rw [List.length_take, List.length_map]; show _ + 1 ≤ 1000000; omega) fun u3 Hc m3 q3 f3 => ?_
      walk_at "hs"
      refine a_slA (sql ((((s.trans q1).trans q2).trans q3) _ _ eA)) fun u4 Hd m4 q4 f4 => ?_
      rw [cut_fromG] at f4
      refine a_catA (q4 _ _ f3) f4 (by rw [List.length_append, List.length_take, List.length_drop, List.length_map]; show _ + 1 + _ ≤ 1000000; omega) fun u5 He m5 q5 f5 => ?_
      have qe := (((q1.trans q2).trans q3).trans q4)
      have dRe := hRf (s.trans (qe.trans q5))
      have d5 := dpy (drL.same qe) m5 f5 (dpAll_app (dpAll_app (dpAll_take k dRe) (.cons (dp_same (hid_same (qe.trans q5)) hD') .nil)) (dpAll_drop (k + 1) dRe))
      walk_at "hs"
      refine ⟨sz (show 2 ≤ 1000000 by decide), fun u6 Hf m6 q6 f6 => ?_⟩
      have qq := (qe.trans q5).trans q6
      have d6 := dpx (drL.same (qe.trans q5)) m6 f6 (.cons (dp_same (hid_same q6) d5) (.cons (.str "row") .nil))
      walk_at "hs"
      refine a_append (qq _ _ eF') (szl (by omega)) ?_
      walk_at "hs"
      refine ⟨smut (s.trans qq) hF1, _, _, _, rfl, upd_same, dpAll_same (hid_mut List.mem_cons_self) (dpAll_app (dpAll_same (hid_same qq) dF') (.cons d6 .nil)), fun e he => ?_, by rw [List.length_append, lenF']; rfl, (sH.trans (hid_same qq)).trans (hid_mut List.mem_cons_self)⟩
      rcases List.mem_append.mp he with z | z
      · exact okF' e z
      · rw [List.mem_singleton.mp z]
        exact ⟨_, _, rfl, nr_row hRO hRn (by rw [List.length_map]; omega) wx⟩
    · rintro σ H' ⟨s, fv, fd, x7, rfl, eF', dF', okF', lenF', sH⟩
      have lenW : fd.length = 13 := by rw [lenF', hwl]; rfl
      walk_at "hs"
      refine ⟨st, 13, rfl, sr1.same s, by omega, by omega, fun de HE z0 z1 srE rE => ?_⟩
      obtain ⟨fe, hfe⟩ : ∃ fe, fd[de.toNat]? = some fe := ⟨_, List.getElem?_eq_getElem (by omega)⟩
      obtain ⟨v, hv, hD⟩ := dpAll_at' (dpAll_same (hid_cons.trans (rE.hid List.mem_cons_self)) dF') hfe
      obtain ⟨d, s', rfl, near⟩ := okF' fe (List.mem_of_getElem? hfe)
      obtain ⟨tt, xs, rfl, hT, hA⟩ := dp_tuple hD
      obtain ⟨x1, x2, rfl, y1, y2⟩ := dp2 hA
      obtain rfl := dp_str y2
      refine a_ixL (sql (rE _ _ eF' nF)) (at_some z0 hv) ?_
      exact q tt x1 d s' HE ((r1'.trans (Rw.of s)).trans rE) srE hT y1 near
def sp__law_raised (K : PySem.W.Frag) (ts : List Addr) : Sp := fun vs H Q _ => ∃ (c : Addr) (v : V) (d : PyData) (whole : Bool) (res : Str), vs = [.ref c, v, .bl whole] ∧ Dp K H v d ∧ TabsG ts H ∧
  ((whole = true ∧ res = "circuit" ∧ ∃ dC, Dp K H (.ref c) dC ∧ cdom dC ∧ FltR dC (.part "circuit")) ∨ (∃ w L gas p ws ls, GoodC K H c w L gas p ws ls ∧ res = rname (rowsF p (2 ^ (ws.getD ls.length 0).toNat) d))) ∧ ∀ H', Nt H H' → TabsG ts H' → Q (.str res) H'
theorem ok__law_raised (T : Txt P w K mg) (B : Tbs P w K mg base T) : FnOk P w K mg base CX0 10 T.f__law_raised T.fd__law_raised ["circuit", "rows", "whole"] (sp__law_raised K T.ts) := by
  have G_run := ok_run (P := P) (w := w) (base := base) T B
  have G_checked_rows := ok_checked_rows (P := P) (w := w) (base := base) T B
  refine T.F__law_raised.ok sc__law_raised (fun vs H Q E h => ?len) (fun cdv A outer s H vs Q E hr h => ?body)
  · obtain ⟨c, v, d, whole, res, rfl, _⟩ := h
    rfl
  · obtain ⟨c, v, d, whole, res, rfl, hd, tg, hh, q⟩ := h
    refine ⟨_, (pss_cons (ps_try_as (i := 3)   (Wout := fun _ _ _ _ => False) rfl rfl sc__law_raised.nd rfl rfl ⟨rfl, by decide, Or.inl T.g_LayeraskError⟩ takes0
      (fun W pn xe tk _ => (pss_one (ps_if (pt_val (pv 2)) (pss_one (ps_expr (by exact (pe_callS G_run (hr.mono (by decide)) (by rfl) T.g_run T.F_run.kp T.b_run (fun σ => passAt tk σ) (by exact (pa_cons (pv 0) (pa_cons (pv 1) pa_nil))))))) (pss_one (ps_expr (by exact (pe_callS G_checked_rows (hr.mono (by decide)) (by rfl) T.g_checked_rows T.F_checked_rows.kp T.b_checked_rows (fun σ => passAt tk σ) (by exact (pa_cons (pv 0) (pa_cons (pv 1) pa_nil))))))))))
      (fun a oe cls d pn hz hf => (pss_cons (ps_if (pt_val (pe_callB (call_isX (P := P) (w := w) (mg := mg) rfl hz hf) (by rfl) T.m_isinstance (by decide +kernel) (pa_cons (pv 3) (pa_cons (pe_glob (v := .ref T.C_CircuitError) (by rfl) T.E_CircuitError.gC rfl) pa_nil)))) (pss_one (ps_ret (pe_byX (P := P) (w := w) (mg := mg) rfl hz hf (pv 3)))) pss_nil)
      (pss_cons (ps_if (pw_and (pt_val (pe_callB (call_isX (P := P) (w := w) (mg := mg) rfl hz hf) (by rfl) T.m_isinstance (by decide +kernel) (pa_cons (pv 3) (pa_cons (pe_glob (v := .ref T.C_SizeError) (by rfl) T.E_SizeError.gC rfl) pa_nil)))) (pw_and1 (pt_cmpR op_eq (pe_byX (P := P) (w := w) (mg := mg) rfl hz hf (pv 3)) pe_str (nomark _)))).pt (pss_one (ps_ret pe_str)) pss_nil)
      (pss_one (ps_ret pe_str))))))
      (pss_one (ps_ret pe_str))), ?_⟩
    walk_at "hs"
    have partE : ∀ (s : Str) (H1 : Hp) (x : Addr), res = s → Nt H H1 → TabsG T.ts H1 → H1 x = none → Nt H (upd H1 x (.xd [("part", .str s)])) ∧ TabsG T.ts (upd H1 x (.xd [("part", .str s)])) := fun s H1 x e n1 t1 hx => ⟨n1.upd hx, t1.upd (t1.new hx)⟩
    have limE : ∀ (s : Str) (H1 : Hp) (x : Addr), Nt H H1 → TabsG T.ts H1 → H1 x = none → Nt H (upd H1 x (.xd [("limit", .str s)])) ∧ TabsG T.ts (upd H1 x (.xd [("limit", .str s)])) := fun s H1 x n1 t1 hx => ⟨n1.upd hx, t1.upd (t1.new hx)⟩
    cases whole with
    | true =>
      refine ift ?_
      walk_at "hs"
      rcases hh with ⟨_, rfl, dC, hC, dom, hf⟩ | ⟨w, L, gas, p, ws, ls, gc, rfl⟩
      · refine ⟨c, v, d, rfl, hd, tg, .inl ⟨dC, hC, dom, hf, fun H1 x n1 t1 hx => ?_⟩⟩
        obtain ⟨n2, t2⟩ := partE _ H1 x rfl n1 t1 hx
        refine ⟨true, T.exm_CircuitError_LayeraskError, fun _ a na => ?_, fun z => Bool.noConfusion z⟩
        walk_at "hs"
        refine ⟨T.C_CircuitError, _, _, _, T.E_CircuitError, .ref T.C_CircuitError, .ref T.C_CircuitError, true, x, _, rfl, rfl, rfl, upd_same, fun u hu => hu, T.kit_CircuitError_CircuitError, ?_⟩
        walk_at "hs"
        refine ift ?_
        walk_at "hs"
        refine ⟨T.C_CircuitError, _, _, T.E_CircuitError, ?_⟩
        walk_at "hs"
        refine ⟨rfl, rfl, x, .str _, rfl, upd_same, ?_⟩
        walk_at "hs"
        exact q _ n2 t2
      · refine ⟨c, v, d, rfl, hd, tg, .inr ⟨w, L, gas, p, ws, ls, gc, fun e v' H1 n1 t1 => ?_, fun s e H1 x n1 t1 hx => ?_, fun s e H1 x n1 t1 hx => ?_⟩⟩
        · walk_at "hs"
          rw [e] at q
          exact q H1 n1 t1
        · rw [e] at partE q
          obtain ⟨n2, t2⟩ := partE s H1 x rfl n1 t1 hx
          refine ⟨true, T.exm_CircuitError_LayeraskError, fun _ a na => ?_, fun z => Bool.noConfusion z⟩
          walk_at "hs"
          refine ⟨T.C_CircuitError, _, _, _, T.E_CircuitError, .ref T.C_CircuitError, .ref T.C_CircuitError, true, x, _, rfl, rfl, rfl, upd_same, fun u hu => hu, T.kit_CircuitError_CircuitError, ?_⟩
          walk_at "hs"
          refine ift ?_
          walk_at "hs"
          refine ⟨T.C_CircuitError, _, _, T.E_CircuitError, ?_⟩
          walk_at "hs"
          refine ⟨rfl, rfl, x, .str _, rfl, upd_same, ?_⟩
          walk_at "hs"
          exact q _ n2 t2
        · obtain ⟨n2, t2⟩ := limE s H1 x n1 t1 hx
          have es := size_rows e
          subst es
          rw [e] at q
          refine ⟨true, T.exm_SizeError_LayeraskError, fun _ a na => ?_, fun z => Bool.noConfusion z⟩
          walk_at "hs"
          refine ⟨T.C_SizeError, _, _, _, T.E_SizeError, .ref T.C_CircuitError, .ref T.C_CircuitError, false, x, _, rfl, rfl, rfl, upd_same, fun u hu => hu, T.kit_SizeError_CircuitError, ?_⟩
          walk_at "hs"
          refine iff' ?_
          walk_at "hs"
          refine ⟨T.C_SizeError, _, _, _, T.E_SizeError, .ref T.C_SizeError, .ref T.C_SizeError, true, x, _, rfl, rfl, rfl, upd_same, fun u hu => hu, T.kit_SizeError_SizeError, ?_⟩
          walk_at "hs"
          refine ift ?_
          walk_at "hs"
          refine ⟨T.C_SizeError, _, _, T.E_SizeError, ?_⟩
          walk_at "hs"
          refine ⟨rfl, rfl, x, .str _, rfl, upd_same, ?_⟩
          walk_at "hs"
          rw [decide_eq_true rfl]
          refine ift ?_
          walk_at "hs"
          exact q _ n2 t2
    | false =>
      refine iff' ?_
      walk_at "hs"
      rcases hh with ⟨e, _⟩ | ⟨w, L, gas, p, ws, ls, gc, rfl⟩
      · cases e
      · have pc := gc.pure
        have hlen := pc.len
        have hgl := gc.gl
        have e1 : (gas.map V.ref).length = ls.length := by rw [List.length_map]; exact hgl
        have b := pc.wb _ (in_mem (ws := ws) (k := ls.length) (by omega))
        refine ⟨c, w, L, p, ws, gas.map V.ref, v, d, rfl, sqt gc.tup, sql gc.wid, sql gc.lay, by omega, by rw [e1]; omega, hd, tg, fun e H1 n1 t1 => ?_, fun s e H1 x n1 t1 hx => ?_, fun s e H1 x n1 t1 hx => ?_⟩
        · rw [e1] at e
          walk_at "hs"
          rw [e] at q
          exact q H1 n1 t1
        · rw [e1] at e
          rw [e] at partE q
          obtain ⟨n2, t2⟩ := partE s H1 x rfl n1 t1 hx
          refine ⟨true, T.exm_CircuitError_LayeraskError, fun _ a na => ?_, fun z => Bool.noConfusion z⟩
          walk_at "hs"
          refine ⟨T.C_CircuitError, _, _, _, T.E_CircuitError, .ref T.C_CircuitError, .ref T.C_CircuitError, true, x, _, rfl, rfl, rfl, upd_same, fun u hu => hu, T.kit_CircuitError_CircuitError, ?_⟩
          walk_at "hs"
          refine ift ?_
          walk_at "hs"
          refine ⟨T.C_CircuitError, _, _, T.E_CircuitError, ?_⟩
          walk_at "hs"
          refine ⟨rfl, rfl, x, .str _, rfl, upd_same, ?_⟩
          walk_at "hs"
          exact q _ n2 t2
        · rw [e1] at e
          obtain ⟨n2, t2⟩ := limE s H1 x n1 t1 hx
          have es := size_rows e
          subst es
          rw [e] at q
          refine ⟨true, T.exm_SizeError_LayeraskError, fun _ a na => ?_, fun z => Bool.noConfusion z⟩
          walk_at "hs"
          refine ⟨T.C_SizeError, _, _, _, T.E_SizeError, .ref T.C_CircuitError, .ref T.C_CircuitError, false, x, _, rfl, rfl, rfl, upd_same, fun u hu => hu, T.kit_SizeError_CircuitError, ?_⟩
          walk_at "hs"
          refine iff' ?_
          walk_at "hs"
          refine ⟨T.C_SizeError, _, _, _, T.E_SizeError, .ref T.C_SizeError, .ref T.C_SizeError, true, x, _, rfl, rfl, rfl, upd_same, fun u hu => hu, T.kit_SizeError_SizeError, ?_⟩
          walk_at "hs"
          refine ift ?_
          walk_at "hs"
          refine ⟨T.C_SizeError, _, _, T.E_SizeError, ?_⟩
          walk_at "hs"
          refine ⟨rfl, rfl, x, .str _, rfl, upd_same, ?_⟩
          walk_at "hs"
          rw [decide_eq_true rfl]
          refine ift ?_
          walk_at "hs"
          exact q _ n2 t2
def sp_law (K : PySem.W.Frag) (ts : List Addr) : Sp := fun vs H Q _ => ∃ (a : Addr) (ns : List Int), vs = [.ref a] ∧ SqL K H a (ns.map V.int) ∧ ns.length ≤ 63 ∧ TabsG ts H ∧ ∀ H', Q (.bl true) H'
theorem ok_law (T : Txt P w K mg) (B : Tbs P w K mg base T) : RunsAt P w K mg base CX0 11 T.f_law T.fd_law ["script"] (sp_law K T.ts) := by
  have G__law_stream := ok__law_stream (P := P) (w := w) (base := base) T B
  have G__law_circuit := ok__law_circuit (P := P) (w := w) (base := base) T B
  have G__law_inputs := ok__law_inputs (P := P) (w := w) (base := base) T B
  have G__law_fault := ok__law_fault (P := P) (w := w) (base := base) T B
  have G__law_take := ok__law_take (P := P) (w := w) (base := base) T B
  have G__law_raised := ok__law_raised (P := P) (w := w) (base := base) T B
  refine runs_of T.F_law sc_law (fun vs H Q E h => ?len) (fun cdv A outer s H vs Q E hG hr h => ?body)
  · obtain ⟨a, ns, rfl, _⟩ := h
    rfl
  · obtain ⟨a, ns, rfl, hS, hl, tg, q⟩ := h
    refine ⟨_, (pss_cons (ps_set (i := 1) sc_law.nd rfl (.inl rfl) (pe_call G__law_stream (hr.mono (by decide)) (by rfl) T.g__law_stream T.F__law_stream.kp T.b__law_stream .nil pass0 (pa_cons (pv 0) pa_nil)))
      (pss_cons (ps_set (i := 2) sc_law.nd rfl (.inl rfl) (pe_call G__law_circuit (hr.mono (by decide)) (by rfl) T.g__law_circuit T.F__law_circuit.kp T.b__law_circuit .nil pass0 (pa_cons (pv 1) (pa_cons pe_int (pa_cons pe_int pa_nil)))))
      (pss_cons (ps_set (i := 3) sc_law.nd rfl (.inl rfl) (pe_call G__law_inputs (hr.mono (by decide)) (by rfl) T.g__law_inputs T.F__law_inputs.kp T.b__law_inputs .nil pass0 (pa_cons (pv 1) (pa_cons (pv 2) (pa_cons (pe_call G__law_take (hr.mono (by decide)) (by rfl) T.g__law_take T.F__law_take.kp T.b__law_take .nil pass0 (pa_cons (pv 1) (pa_cons pe_int pa_nil))) pa_nil)))))
      (pss_cons (ps_if (pw_or (pt_cmpR op_ne (pe_call G__law_raised (hr.mono (by decide)) (by rfl) T.g__law_raised T.F__law_raised.kp T.b__law_raised .nil pass0 (pa_cons (pv 2) (pa_cons (pv 3) (pa_cons pe_bl pa_nil)))) pe_str (nomark _)) (pw_or1 (pt_cmpR op_ne (pe_call G__law_raised (hr.mono (by decide)) (by rfl) T.g__law_raised T.F__law_raised.kp T.b__law_raised .nil pass0 (pa_cons (pv 2) (pa_cons (pv 3) (pa_cons pe_bl pa_nil)))) pe_str (nomark _)))).pt (pss_one (ps_ret pe_bl)) pss_nil)
      (pss_cons (ps_asg (pe_call G__law_fault (hr.mono (by decide)) (by rfl) T.g__law_fault T.F__law_fault.kp T.b__law_fault .nil pass0 (pa_cons (pv 1) (pa_cons (pv 2) (pa_cons (pv 3) pa_nil)))) (pgT_ (K := K) rfl (pg_tup (n := 2) rfl (pgs_cons (pg_name (i := 4) sc_law.nd rfl (.inl rfl)) (pgs_cons (pg_name (i := 5) sc_law.nd rfl (.inl rfl)) pgs_nil)))))
      (pss_cons (ps_set (i := 6) sc_law.nd rfl (.inl rfl) (pe_callB (call_rep (K := K) rfl (hu64 hr) hG) (by rfl) T.m_repr (by decide +kernel) (pa_cons (pv 4) pa_nil)))
      (pss_cons (ps_if (pw_or (pt_cmpR op_ne (pe_call G__law_raised (hr.mono (by decide)) (by rfl) T.g__law_raised T.F__law_raised.kp T.b__law_raised .nil pass0 (pa_cons (pv 2) (pa_cons (pv 4) (pa_cons pe_bl pa_nil)))) (pv 5) (nomark _)) (pw_or (pt_cmpR op_ne (pe_call G__law_raised (hr.mono (by decide)) (by rfl) T.g__law_raised T.F__law_raised.kp T.b__law_raised .nil pass0 (pa_cons (pv 2) (pa_cons (pv 4) (pa_cons pe_bl pa_nil)))) (pv 5) (nomark _)) (pw_or1 (pt_cmpR op_ne (pe_callB (call_rep (K := K) rfl (hu64 hr) hG) (by rfl) T.m_repr (by decide +kernel) (pa_cons (pv 4) pa_nil)) (pv 6) (nomark _))))).pt (pss_one (ps_ret pe_bl)) pss_nil)
      (pss_one (ps_ret (pe_cmpR op_eq (pe_call G__law_raised (hr.mono (by decide)) (by rfl) T.g__law_raised T.F__law_raised.kp T.b__law_raised .nil pass0 (pa_cons (pe_op (catA_ (K := K) rfl) (pe_slice (slT_ (K := K) rfl) (pv 2) po_none (po_some pe_int)) (pe_tup (pa_cons (pe_lst pa_nil) pa_nil))) (pa_cons (pv 4) (pa_cons pe_bl pa_nil)))) pe_str (nomark _))))))))))), ?_⟩
    walk_at "hs"
    refine ⟨a, ns, rfl, hS, hl, fun H1 st s1 n1 sr1 => ?_⟩
    have tg1 := tg.same s1
    have stT : st ∉ T.ts := tg.new n1
    walk_at "hs"
    refine ⟨st, 2, 2, rfl, sr1, by omega, by omega, by omega, by omega, fun c w L gas p ws ls H2 r2 sr2 gc => ?_⟩
    have pc := gc.pure
    have hlen := pc.len
    have hpb := pc.pb
    have b1 := pc.wb _ (in_mem (ws := ws) (k := ls.length) (by omega))
    have p1 := pow8n b1.1 b1.2
    have tg2 := tg1.rw r2 stT
    have eP : ((2 ^ (ws.getD ls.length 0).toNat : Nat) : Int) = (2 : Int) ^ (ws.getD ls.length 0).toNat := by norm_cast
    walk_at "hs"
    refine ⟨st, 3, rfl, sr2, by omega, by omega, fun db H3 b0 b3 sr3 r3 => ?_⟩
    obtain ⟨bits, rfl⟩ : ∃ k : Nat, db = (k : Int) := ⟨db.toNat, by omega⟩
    have hn : 2 ^ bits = 1 ∨ 2 ^ bits = 2 ∨ 2 ^ bits = 4 := by
      have : bits = 0 ∨ bits = 1 ∨ bits = 2 := by omega
      rcases this with h | h | h <;> rw [h] <;> decide
    refine ⟨st, c, w, L, gas, p, ws, ls, bits, rfl, sr3, gc.same (r3.hid List.mem_cons_self), by omega, fun A as rs H4 r4 sr4 rh => ?_⟩
    have gc4 := gc.same ((r3.hid (M := [st]) List.mem_cons_self).trans (r4.hid List.mem_cons_self))
    have tg4 := (tg2.rw r3 stT).rw r4 stT
    have gc4' := gc4.same hid_sub
    have dA : Dp K (hid [st] H4) (.ref A) (LD rs) := .lst (sql rh.lst) (RowsH.dpAll rh.al rh.at_)
    have hok : rowsF p (2 ^ (ws.getD ls.length 0).toNat) (LD rs) = .ok := rows_good (by rw [rh.rl]; exact hn) (fun r hr => by
      obtain ⟨z1, z2⟩ := rh.ok r hr
      exact ⟨by rw [z1, eP], z2⟩)
    walk_at "hs"
    refine ⟨c, .ref A, LD rs, false, "none", rfl, dp_same hid_sub dA, tg4, .inr ⟨w, L, gas, p, ws, ls, gc4', by rw [hok]; rfl⟩, fun H5 n5 t5 => ?_⟩
    walk_at "hs"
    refine ifnd (fun z => absurd rfl z) (fun _ => ?_)
    walk_at "hs"
    refine ⟨c, .ref A, LD rs, true, "none", rfl, n5.dp (dp_same hid_sub dA), t5, .inr ⟨w, L, gas, p, ws, ls, gc4'.nt n5, by rw [hok]; rfl⟩, fun H6 n6 t6 => ?_⟩
    walk_at "hs"
    refine ifnd (fun z => absurd rfl z) (fun _ => ?_)
    walk_at "hs"
    have n46 := n5.trans n6
    refine ⟨st, c, w, L, A, gas, as, p, ws, ls, rs, _, _, rfl, sr4.nt n46, gc4.nt (n46.hid), rh.nt (n46.hid), hn, p1.1, p1.2, fun t v d s H7 r7 sr7 hT hD near => ?_⟩
    rw [eP] at near
    have gc7 := (((gc4.nt (n46.hid (M := [st]))).same (r7.hid List.mem_cons_self))).same hid_sub
    have dT : Dp K H7 v d := dp_same hid_sub hD
    have tg7 := t6.rw r7 stT
    refine a_gtupT ((Nt.of hid_sub).sqt hT) rfl ?_
    walk_at "hs"
    refine a_repV dT (near.ref dT) near.tm (Nat.le_trans near.cost (by omega)) near.dep ?_
    walk_at "hs"
    refine ⟨c, v, d, false, s, rfl, dT, tg7, .inr ⟨w, L, gas, p, ws, ls, gc7, near.res.symm⟩, fun H8 n8 t8 => ?_⟩
    walk_at "hs"
    refine ifnd (fun z => absurd rfl z) (fun _ => ?_)
    walk_at "hs"
    refine ⟨c, v, d, true, s, rfl, n8.dp dT, t8, .inr ⟨w, L, gas, p, ws, ls, gc7.nt n8, near.res.symm⟩, fun H9 n9 t9 => ?_⟩
    have n79 := n8.trans n9
    have dT9 := n79.dp dT
    have gc9 := gc7.nt n79
    walk_at "hs"
    refine ifnd (fun z => absurd rfl z) (fun _ => ?_)
    walk_at "hs"
    refine a_repV dT9 (near.ref dT9) near.tm (Nat.le_trans near.cost (by omega)) near.dep ?_
    walk_at "hs"
    refine ifnd (fun z => absurd rfl z) (fun _ => ?_)
    walk_at "hs"
    refine a_slT (sqt gc9.tup) (show ¬ (HT.sIx 4 0 none = 0 ∧ HT.sIx 4 4 (some 3) = 4) by decide) fun u1 Ha m1 q1 f1 => ?_
    have f1' : Ha u1 = some (.tup [.str "circuit", .int p, .ref w]) := f1
    walk_at "hs"
    refine ⟨Nat.zero_le _, fun u2 m2 => ?_⟩
    have q2 := same_upd (o := .lst []) m2
    have f2 : (upd Ha u2 (.lst [])) u2 = some (.lst []) := upd_same
    generalize upd Ha u2 (.lst []) = Hb at *
    walk_at "hs"
    refine ⟨sz (show 1 ≤ 1000000 by decide), fun u3 m3 => ?_⟩
    have q3 := same_upd (o := .tup [.ref u2]) m3
    have f3 : (upd Hb u3 (.tup [.ref u2])) u3 = some (.tup [.ref u2]) := upd_same
    generalize upd Hb u3 (.tup [.ref u2]) = Hc at *
    walk_at "hs"
    refine a_catT (sqt (q3 _ _ (q2 _ _ f1'))) (sqt f3) (show 3 + 1 ≤ 1000000 by decide) nofun nofun fun u4 Hd m4 q4 f4 => ?_
    have qq := ((q1.trans q2).trans q3).trans q4
    have gcd := gc9.same qq
    have dC : Dp K Hd (.ref u4) (.tuple [.str "circuit", .int p, .list (dInts ws), .list []]) := .tup (sqt f4) (.cons (.str _) (.cons (.int _) (.cons (.lst (sql gcd.wid) (dp_ints ws)) (.cons (.lst (sql (q4 _ _ (q3 _ _ f2))) .nil) .nil))))
    walk_at "hs"
    refine ⟨u4, v, d, true, "circuit", rfl, dp_same qq dT9, t9.same qq, .inl ⟨rfl, rfl, _, dC, cdom_t (fun l hl => by simp at hl), flt_no (by rw [form4]; simp)⟩, fun HE nE tE => ?_⟩
    walk_at "hs"
    rw [decide_eq_true rfl]
    exact q _
theorem all_mk {l : PySem.W.OpenLaw} {q : Program} {w : World} {K : PySem.W.Frag} {h : Heap} {mg : Str → Option Value} {fa f1 f2 f3 f4 f5 f6 f7 f8 f9 f10 f11 f12 f13 f14 f15 f16 f17 f18 f19 f20 f21 f22 f23 f24 f25 f26 f27 : Addr} (X : K.In h) (G : h.Ns mainGlobals mg) (TL : TellsT q K h) (hfa : mg "law" = some (.ref fa))
    {od1 an1 od2 an2 od3 an3 od4 an4 od5 an5 od6 an6 od7 an7 od8 an8 od9 an9 od10 an10 od11 an11 od12 an12 od13 an13 od14 an14 od15 an15 od16 an16 od17 an17 od18 an18 od19 an19 od20 an20 od21 an21 od22 an22 od23 an23 od24 an24 od25 an25 od26 an26 od27 an27 : Option Addr} {sl1 sl2 sl3 sl4 sl5 sl6 sl7 sl8 sl9 sl10 sl11 sl12 sl13 sl14 sl15 sl16 sl17 sl18 sl19 sl20 sl21 sl22 sl23 sl24 sl25 sl26 sl27 : Array (Option Value)} {oc1 kV1 dc1 pm1 cd1 ct1 oc2 kV2 dc2 pm2 cd2 ct2 oc3 kV3 dc3 pm3 cd3 ct3 oc4 kV4 dc4 pm4 cd4 ct4 oc5 kV5 dc5 pm5  ct5 oc6 kV6 dc6 pm6 cd6 ct6 oc7 kV7 dc7 pm7 cd7 ct7 oc8 kV8 dc8 pm8 cd8 ct8 oc9 kV9 dc9 pm9  ct9 oc10 kV10 dc10 pm10  ct10 oc11 kV11 dc11 pm11 cd11 ct11 oc12 kV12 dc12 pm12 cd12 ct12 oc13 kV13 dc13 pm13 cd13 ct13 oc14 kV14 dc14 pm14 cd14 ct14 oc15 kV15 dc15 pm15 cd15 ct15 oc16 kV16 dc16 pm16 cd16 ct16 oc17 kV17 dc17 pm17 cd17 ct17 oc18 kV18 dc18 pm18 cd18 ct18 oc19 kV19 dc19 pm19 cd19 ct19 oc20 kV20 dc20 pm20 cd20 ct20 oc21 kV21 dc21 pm21 cd21 ct21 oc22 kV22 dc22 pm22 cd22 ct22 oc23 kV23 dc23 pm23 cd23 ct23 oc24 kV24 dc24 pm24 cd24 ct24 oc25 kV25 dc25 pm25 cd25 ct25 oc26 kV26 dc26 pm26 cd26 ct26 oc27 kV27 dc27 pm27 cd27 ct27 : Value}
    (a1 : PySem.W.nsIn K mainGlobals "is_prime" = some (some (.ref f1))) (l1 : K.lookup f1 = some ⟨oc1, od1, .func (PySem.W.fnOf "is_prime" "is_prime" (defArgs s_is_prime) (defBody s_is_prime) (defScope s_is_prime) .none kV1 dc1 pm1 an1 cd1 ct1), sl1⟩) (c1 : PySem.W.codeIn K cd1 "is_prime" = true) (k1 : PySem.W.keepIn K (.ref f1) = true)
    (a2 : PySem.W.nsIn K mainGlobals "check_modulus" = some (some (.ref f2))) (l2 : K.lookup f2 = some ⟨oc2, od2, .func (PySem.W.fnOf "check_modulus" "check_modulus" (defArgs s_check_modulus) (defBody s_check_modulus) (defScope s_check_modulus) .none kV2 dc2 pm2 an2 cd2 ct2), sl2⟩) (c2 : PySem.W.codeIn K cd2 "check_modulus" = true) (k2 : PySem.W.keepIn K (.ref f2) = true)
    (a3 : PySem.W.nsIn K mainGlobals "is_number" = some (some (.ref f3))) (l3 : K.lookup f3 = some ⟨oc3, od3, .func (PySem.W.fnOf "is_number" "is_number" (defArgs s_is_number) (defBody s_is_number) (defScope s_is_number) .none kV3 dc3 pm3 an3 cd3 ct3), sl3⟩) (c3 : PySem.W.codeIn K cd3 "is_number" = true) (k3 : PySem.W.keepIn K (.ref f3) = true)
    (a4 : PySem.W.nsIn K mainGlobals "is_integer_kind" = some (some (.ref f4))) (l4 : K.lookup f4 = some ⟨oc4, od4, .func (PySem.W.fnOf "is_integer_kind" "is_integer_kind" (defArgs s_is_integer_kind) (defBody s_is_integer_kind) (defScope s_is_integer_kind) .none kV4 dc4 pm4 an4 cd4 ct4), sl4⟩) (c4 : PySem.W.codeIn K cd4 "is_integer_kind" = true) (k4 : PySem.W.keepIn K (.ref f4) = true)
    {cd5 : Addr} (a5 : PySem.W.nsIn K mainGlobals "are_numbers" = some (some (.ref f5))) (l5 : K.lookup f5 = some ⟨oc5, od5, .func (PySem.W.fnOf "are_numbers" "are_numbers" (defArgs s_are_numbers) (defBody s_are_numbers) (defScope s_are_numbers) .none kV5 dc5 pm5 an5 (.ref cd5) ct5), sl5⟩) (c5 : PySem.W.codeIn K (.ref cd5) "are_numbers" = true) (k5 : PySem.W.keepIn K (.ref f5) = true)
    (a6 : PySem.W.nsIn K mainGlobals "modulus" = some (some (.ref f6))) (l6 : K.lookup f6 = some ⟨oc6, od6, .func (PySem.W.fnOf "modulus" "modulus" (defArgs s_modulus) (defBody s_modulus) (defScope s_modulus) .none kV6 dc6 pm6 an6 cd6 ct6), sl6⟩) (c6 : PySem.W.codeIn K cd6 "modulus" = true) (k6 : PySem.W.keepIn K (.ref f6) = true)
    (a7 : PySem.W.nsIn K mainGlobals "depth" = some (some (.ref f7))) (l7 : K.lookup f7 = some ⟨oc7, od7, .func (PySem.W.fnOf "depth" "depth" (defArgs s_depth) (defBody s_depth) (defScope s_depth) .none kV7 dc7 pm7 an7 cd7 ct7), sl7⟩) (c7 : PySem.W.codeIn K cd7 "depth" = true) (k7 : PySem.W.keepIn K (.ref f7) = true)
    (a8 : PySem.W.nsIn K mainGlobals "width" = some (some (.ref f8))) (l8 : K.lookup f8 = some ⟨oc8, od8, .func (PySem.W.fnOf "width" "width" (defArgs s_width) (defBody s_width) (defScope s_width) .none kV8 dc8 pm8 an8 cd8 ct8), sl8⟩) (c8 : PySem.W.codeIn K cd8 "width" = true) (k8 : PySem.W.keepIn K (.ref f8) = true)
    {cd9 : Addr} (a9 : PySem.W.nsIn K mainGlobals "has_form" = some (some (.ref f9))) (l9 : K.lookup f9 = some ⟨oc9, od9, .func (PySem.W.fnOf "has_form" "has_form" (defArgs s_has_form) (defBody s_has_form) (defScope s_has_form) .none kV9 dc9 pm9 an9 (.ref cd9) ct9), sl9⟩) (c9 : PySem.W.codeIn K (.ref cd9) "has_form" = true) (k9 : PySem.W.keepIn K (.ref f9) = true)
    {cd10 : Addr} (a10 : PySem.W.nsIn K mainGlobals "check_limits" = some (some (.ref f10))) (l10 : K.lookup f10 = some ⟨oc10, od10, .func (PySem.W.fnOf "check_limits" "check_limits" (defArgs s_check_limits) (defBody s_check_limits) (defScope s_check_limits) .none kV10 dc10 pm10 an10 (.ref cd10) ct10), sl10⟩) (c10 : PySem.W.codeIn K (.ref cd10) "check_limits" = true) (k10 : PySem.W.keepIn K (.ref f10) = true)
    (a11 : PySem.W.nsIn K mainGlobals "is_gate" = some (some (.ref f11))) (l11 : K.lookup f11 = some ⟨oc11, od11, .func (PySem.W.fnOf "is_gate" "is_gate" (defArgs s_is_gate) (defBody s_is_gate) (defScope s_is_gate) .none kV11 dc11 pm11 an11 cd11 ct11), sl11⟩) (c11 : PySem.W.codeIn K cd11 "is_gate" = true) (k11 : PySem.W.keepIn K (.ref f11) = true)
    (a12 : PySem.W.nsIn K mainGlobals "check_layer" = some (some (.ref f12))) (l12 : K.lookup f12 = some ⟨oc12, od12, .func (PySem.W.fnOf "check_layer" "check_layer" (defArgs s_check_layer) (defBody s_check_layer) (defScope s_check_layer) .none kV12 dc12 pm12 an12 cd12 ct12), sl12⟩) (c12 : PySem.W.codeIn K cd12 "check_layer" = true) (k12 : PySem.W.keepIn K (.ref f12) = true)
    (a13 : PySem.W.nsIn K mainGlobals "checked" = some (some (.ref f13))) (l13 : K.lookup f13 = some ⟨oc13, od13, .func (PySem.W.fnOf "checked" "checked" (defArgs s_checked) (defBody s_checked) (defScope s_checked) .none kV13 dc13 pm13 an13 cd13 ct13), sl13⟩) (c13 : PySem.W.codeIn K cd13 "checked" = true) (k13 : PySem.W.keepIn K (.ref f13) = true)
    (a14 : PySem.W.nsIn K mainGlobals "checked_rows" = some (some (.ref f14))) (l14 : K.lookup f14 = some ⟨oc14, od14, .func (PySem.W.fnOf "checked_rows" "checked_rows" (defArgs s_checked_rows) (defBody s_checked_rows) (defScope s_checked_rows) .none kV14 dc14 pm14 an14 cd14 ct14), sl14⟩) (c14 : PySem.W.codeIn K cd14 "checked_rows" = true) (k14 : PySem.W.keepIn K (.ref f14) = true)
    (a15 : PySem.W.nsIn K mainGlobals "gate_values" = some (some (.ref f15))) (l15 : K.lookup f15 = some ⟨oc15, od15, .func (PySem.W.fnOf "gate_values" "gate_values" (defArgs s_gate_values) (defBody s_gate_values) (defScope s_gate_values) .none kV15 dc15 pm15 an15 cd15 ct15), sl15⟩) (c15 : PySem.W.codeIn K cd15 "gate_values" = true) (k15 : PySem.W.keepIn K (.ref f15) = true)
    (a16 : PySem.W.nsIn K mainGlobals "table_of" = some (some (.ref f16))) (l16 : K.lookup f16 = some ⟨oc16, od16, .func (PySem.W.fnOf "table_of" "table_of" (defArgs s_table_of) (defBody s_table_of) (defScope s_table_of) .none kV16 dc16 pm16 an16 cd16 ct16), sl16⟩) (c16 : PySem.W.codeIn K cd16 "table_of" = true) (k16 : PySem.W.keepIn K (.ref f16) = true)
    (a17 : PySem.W.nsIn K mainGlobals "columns_of" = some (some (.ref f17))) (l17 : K.lookup f17 = some ⟨oc17, od17, .func (PySem.W.fnOf "columns_of" "columns_of" (defArgs s_columns_of) (defBody s_columns_of) (defScope s_columns_of) .none kV17 dc17 pm17 an17 cd17 ct17), sl17⟩) (c17 : PySem.W.codeIn K cd17 "columns_of" = true) (k17 : PySem.W.keepIn K (.ref f17) = true)
    (a18 : PySem.W.nsIn K mainGlobals "layer_tables" = some (some (.ref f18))) (l18 : K.lookup f18 = some ⟨oc18, od18, .func (PySem.W.fnOf "layer_tables" "layer_tables" (defArgs s_layer_tables) (defBody s_layer_tables) (defScope s_layer_tables) .none kV18 dc18 pm18 an18 cd18 ct18), sl18⟩) (c18 : PySem.W.codeIn K cd18 "layer_tables" = true) (k18 : PySem.W.keepIn K (.ref f18) = true)
    (a19 : PySem.W.nsIn K mainGlobals "run" = some (some (.ref f19))) (l19 : K.lookup f19 = some ⟨oc19, od19, .func (PySem.W.fnOf "run" "run" (defArgs s_run) (defBody s_run) (defScope s_run) .none kV19 dc19 pm19 an19 cd19 ct19), sl19⟩) (c19 : PySem.W.codeIn K cd19 "run" = true) (k19 : PySem.W.keepIn K (.ref f19) = true)
    (a20 : PySem.W.nsIn K mainGlobals "_law_stream" = some (some (.ref f20))) (l20 : K.lookup f20 = some ⟨oc20, od20, .func (PySem.W.fnOf "_law_stream" "_law_stream" (defArgs s__law_stream) (defBody s__law_stream) (defScope s__law_stream) .none kV20 dc20 pm20 an20 cd20 ct20), sl20⟩) (c20 : PySem.W.codeIn K cd20 "_law_stream" = true) (k20 : PySem.W.keepIn K (.ref f20) = true)
    (a21 : PySem.W.nsIn K mainGlobals "_law_take" = some (some (.ref f21))) (l21 : K.lookup f21 = some ⟨oc21, od21, .func (PySem.W.fnOf "_law_take" "_law_take" (defArgs s__law_take) (defBody s__law_take) (defScope s__law_take) .none kV21 dc21 pm21 an21 cd21 ct21), sl21⟩) (c21 : PySem.W.codeIn K cd21 "_law_take" = true) (k21 : PySem.W.keepIn K (.ref f21) = true)
    (a22 : PySem.W.nsIn K mainGlobals "_law_gate" = some (some (.ref f22))) (l22 : K.lookup f22 = some ⟨oc22, od22, .func (PySem.W.fnOf "_law_gate" "_law_gate" (defArgs s__law_gate) (defBody s__law_gate) (defScope s__law_gate) .none kV22 dc22 pm22 an22 cd22 ct22), sl22⟩) (c22 : PySem.W.codeIn K cd22 "_law_gate" = true) (k22 : PySem.W.keepIn K (.ref f22) = true)
    (a23 : PySem.W.nsIn K mainGlobals "_law_circuit" = some (some (.ref f23))) (l23 : K.lookup f23 = some ⟨oc23, od23, .func (PySem.W.fnOf "_law_circuit" "_law_circuit" (defArgs s__law_circuit) (defBody s__law_circuit) (defScope s__law_circuit) .none kV23 dc23 pm23 an23 cd23 ct23), sl23⟩) (c23 : PySem.W.codeIn K cd23 "_law_circuit" = true) (k23 : PySem.W.keepIn K (.ref f23) = true)
    (a24 : PySem.W.nsIn K mainGlobals "_law_inputs" = some (some (.ref f24))) (l24 : K.lookup f24 = some ⟨oc24, od24, .func (PySem.W.fnOf "_law_inputs" "_law_inputs" (defArgs s__law_inputs) (defBody s__law_inputs) (defScope s__law_inputs) .none kV24 dc24 pm24 an24 cd24 ct24), sl24⟩) (c24 : PySem.W.codeIn K cd24 "_law_inputs" = true) (k24 : PySem.W.keepIn K (.ref f24) = true)
    (a25 : PySem.W.nsIn K mainGlobals "_law_fault" = some (some (.ref f25))) (l25 : K.lookup f25 = some ⟨oc25, od25, .func (PySem.W.fnOf "_law_fault" "_law_fault" (defArgs s__law_fault) (defBody s__law_fault) (defScope s__law_fault) .none kV25 dc25 pm25 an25 cd25 ct25), sl25⟩) (c25 : PySem.W.codeIn K cd25 "_law_fault" = true) (k25 : PySem.W.keepIn K (.ref f25) = true)
    (a26 : PySem.W.nsIn K mainGlobals "_law_raised" = some (some (.ref f26))) (l26 : K.lookup f26 = some ⟨oc26, od26, .func (PySem.W.fnOf "_law_raised" "_law_raised" (defArgs s__law_raised) (defBody s__law_raised) (defScope s__law_raised) .none kV26 dc26 pm26 an26 cd26 ct26), sl26⟩) (c26 : PySem.W.codeIn K cd26 "_law_raised" = true) (k26 : PySem.W.keepIn K (.ref f26) = true)
    (a27 : PySem.W.nsIn K mainGlobals "law" = some (some (.ref f27))) (l27 : K.lookup f27 = some ⟨oc27, od27, .func (PySem.W.fnOf "law" "law" (defArgs s_law) (defBody s_law) (defScope s_law) .none kV27 dc27 pm27 an27 cd27 ct27), sl27⟩) (c27 : PySem.W.codeIn K cd27 "law" = true) (k27 : PySem.W.keepIn K (.ref f27) = true)
    (z_abs : PySem.W.nsIn K mainGlobals "abs" = some none)
    (z_all : PySem.W.nsIn K mainGlobals "all" = some none)
    (z_bool : PySem.W.nsIn K mainGlobals "bool" = some none)
    (z_enumerate : PySem.W.nsIn K mainGlobals "enumerate" = some none)
    (z_int : PySem.W.nsIn K mainGlobals "int" = some none)
    (z_isinstance : PySem.W.nsIn K mainGlobals "isinstance" = some none)
    (z_len : PySem.W.nsIn K mainGlobals "len" = some none)
    (z_list : PySem.W.nsIn K mainGlobals "list" = some none)
    (z_max : PySem.W.nsIn K mainGlobals "max" = some none)
    (z_range : PySem.W.nsIn K mainGlobals "range" = some none)
    (z_repr : PySem.W.nsIn K mainGlobals "repr" = some none)
    (z_reversed : PySem.W.nsIn K mainGlobals "reversed" = some none)
    (z_sum : PySem.W.nsIn K mainGlobals "sum" = some none)
    (z_tuple : PySem.W.nsIn K mainGlobals "tuple" = some none)
    (z_zip : PySem.W.nsIn K mainGlobals "zip" = some none)
    {tk_GREATEST_MODULUS : Tok} (q_GREATEST_MODULUS : PySem.W.nsIn K mainGlobals "GREATEST_MODULUS" = some (some (.int 2147483647 tk_GREATEST_MODULUS)))
    {tk_MOST_BITS : Tok} (q_MOST_BITS : PySem.W.nsIn K mainGlobals "MOST_BITS" = some (some (.int 8 tk_MOST_BITS)))
    {tk_MOST_GATES : Tok} (q_MOST_GATES : PySem.W.nsIn K mainGlobals "MOST_GATES" = some (some (.int 4096 tk_MOST_GATES)))
    {tk_MOST_LAYERS : Tok} (q_MOST_LAYERS : PySem.W.nsIn K mainGlobals "MOST_LAYERS" = some (some (.int 64 tk_MOST_LAYERS)))
    {tk_MOST_ROWS : Tok} (q_MOST_ROWS : PySem.W.nsIn K mainGlobals "MOST_ROWS" = some (some (.int 1024 tk_MOST_ROWS)))
    {C_LayeraskError : Addr} (q_LayeraskError : PySem.W.nsIn K mainGlobals "LayeraskError" = some (some (.ref C_LayeraskError)))
    (sup : PySem.W.nsIn K mainGlobals "super" = some none) (opq : PySem.W.nsIn K cStatics "thirdparty.any" = some none) (top : (l.prog.main.scope.names.lookup ("super" : Str)).isSome = false)
    (hn : PySem.W.specialIn K (.builtin "object.__class__") "__get__" = some (some (.builtin "getset_descriptor.__get__"))) (ht : PySem.W.takesIn K (.builtin "object.__class__") = some true)
    {C_FieldError fI_FieldError cc_FieldError cda_FieldError : Addr} {sc_FieldError : Scope} {nm_FieldError qn_FieldError : Str} {N_FieldError : Addr} {bs_FieldError bm_FieldError sub_FieldError : List Value} {sn_FieldError : List Str} {ab_FieldError : Bool} {col_FieldError : Option Bool} {dd_FieldError od_FieldError an_FieldError : Option Addr} {m0_FieldError m1_FieldError m2_FieldError m3_FieldError m5_FieldError : Option Value}
    {oc_FieldError doc_FieldError pm_FieldError ct_FieldError ccl_FieldError cl_FieldError : Value} {osl_FieldError ccs_FieldError csl_FieldError : Array (Option Value)} {p1_FieldError p2_FieldError a1_FieldError a2_FieldError a3_FieldError a4_FieldError a5_FieldError q1_FieldError q2_FieldError q3_FieldError q4_FieldError : Pos} {vs_FieldError : Array Value} {cdd_FieldError cld_FieldError : Option Addr} {file_FieldError : Str} {tf_FieldError : Tok}
    {msg_FieldError : Str} {mj_FieldError : Nat} {mp_FieldError : Pos}
    (gC_FieldError : PySem.W.nsIn K mainGlobals "FieldError" = some (some (.ref C_FieldError))) (xL_FieldError : K.lookup C_FieldError = some (PySem.excClassObj nm_FieldError qn_FieldError C_FieldError N_FieldError bs_FieldError bm_FieldError true sn_FieldError sub_FieldError ab_FieldError col_FieldError dd_FieldError m0_FieldError m1_FieldError m2_FieldError m3_FieldError m5_FieldError "ValueError.__new__")) (rv_FieldError : PySem.HandSPX.refsVE bm_FieldError = true) (sa_FieldError : PySem.W.findIn K (.ref C_FieldError) "__setattr__" = some (some (.builtin "object.__setattr__"))) (ga_FieldError : PySem.W.findIn K (.ref C_FieldError) "__getattribute__" = some (some (.builtin "BaseException.__getattribute__"))) (gg_FieldError : PySem.W.findIn K (.ref C_FieldError) "__getattr__" = some none) (nb_FieldError : PySem.W.findIn K (.ref C_FieldError) "number" = some none) (iC_FieldError : PySem.W.findIn K (.ref C_FieldError) "__init__" = some (some (.ref fI_FieldError))) (tI_FieldError : PySem.W.typeIn K (.ref fI_FieldError) = some (.type "function")) (lI_FieldError : K.lookup fI_FieldError = some ⟨oc_FieldError, od_FieldError, .func (PySem.W.ksFn "__init__" "FieldError.__init__" (PySem.LkX.eArgs "number" p1_FieldError p2_FieldError) (PySem.LkX.eBody "number" (.Constant (.str msg_FieldError) mj_FieldError mp_FieldError) a1_FieldError a2_FieldError a3_FieldError a4_FieldError a5_FieldError q1_FieldError q2_FieldError q3_FieldError q4_FieldError) sc_FieldError .none .none doc_FieldError pm_FieldError an_FieldError (.ref cda_FieldError) ct_FieldError cc_FieldError), osl_FieldError⟩) (hl_FieldError : (a3_FieldError.endLine == a4_FieldError.line) = true) (cI_FieldError : PySem.W.codeIn K (.ref cda_FieldError) "FieldError.__init__" = true) (lD_FieldError : K.lookup cda_FieldError = some ⟨ccl_FieldError, cdd_FieldError, .fields vs_FieldError, ccs_FieldError⟩) (v2_FieldError : vs_FieldError[2]? = some (.str file_FieldError tf_FieldError)) (hF_FieldError : (l.prog.main.file == file_FieldError) = true) (lC_FieldError : K.lookup cc_FieldError = some ⟨cl_FieldError, cld_FieldError, .cell (some (.ref C_FieldError)), csl_FieldError⟩) (sf_FieldError : PySem.W.mroIn K C_FieldError (.ref C_FieldError) = some true) (sI_FieldError : PySem.W.ks_superIn K C_FieldError C_FieldError "__init__" = some (some (.builtin "ValueError.__init__"))) (sV_FieldError : PySem.W.subIn K (.ref C_FieldError) (.type "ValueError") = some true) (kC_FieldError : PySem.W.keepIn K (.ref C_FieldError) = true) (eC_FieldError : PySem.W.subIn K (.ref C_FieldError) (.type "BaseException") = some true) (tC_FieldError : PySem.W.typeIn K (.ref C_FieldError) = some (.type "type")) (hC_FieldError : PySem.W.hasDictIn K C_FieldError = true) (sC_FieldError : PySem.W.subIn K (.ref C_FieldError) (.ref C_FieldError) = some true) (hA_FieldError : PySem.W.findIn K (.ref C_FieldError) "__class__" = some (some (.builtin "object.__class__"))) (hM_FieldError : PySem.W.mroIn K C_FieldError (.type "object") = some true) (sk_FieldError : sc_FieldError.kind = .function ∧ sc_FieldError.isCoroutine = false ∧ sc_FieldError.isGenerator = false) (sn2_FieldError : ∀ x ∈ sc_FieldError.names, x.2 ≠ .cell) (sl_FieldError : sc_FieldError.names.lookup ("super" : Str) = some .globalImplicit ∧ sc_FieldError.names.lookup ("__class__" : Str) = some .free ∧ sc_FieldError.names.lookup ("self" : Str) = some .local ∧ sc_FieldError.names.lookup ("number" : Str) = some .local)
    {C_CircuitError fI_CircuitError cc_CircuitError cda_CircuitError : Addr} {sc_CircuitError : Scope} {nm_CircuitError qn_CircuitError : Str} {N_CircuitError : Addr} {bs_CircuitError bm_CircuitError sub_CircuitError : List Value} {sn_CircuitError : List Str} {ab_CircuitError : Bool} {col_CircuitError : Option Bool} {dd_CircuitError od_CircuitError an_CircuitError : Option Addr} {m0_CircuitError m1_CircuitError m2_CircuitError m3_CircuitError m5_CircuitError : Option Value}
    {oc_CircuitError doc_CircuitError pm_CircuitError ct_CircuitError ccl_CircuitError cl_CircuitError : Value} {osl_CircuitError ccs_CircuitError csl_CircuitError : Array (Option Value)} {p1_CircuitError p2_CircuitError a1_CircuitError a2_CircuitError a3_CircuitError a4_CircuitError a5_CircuitError q1_CircuitError q2_CircuitError q3_CircuitError q4_CircuitError : Pos} {vs_CircuitError : Array Value} {cdd_CircuitError cld_CircuitError : Option Addr} {file_CircuitError : Str} {tf_CircuitError : Tok}
    {msg_CircuitError : Str} {mj_CircuitError : Nat} {mp_CircuitError p5_CircuitError p6_CircuitError p7_CircuitError : Pos}
    (gC_CircuitError : PySem.W.nsIn K mainGlobals "CircuitError" = some (some (.ref C_CircuitError))) (xL_CircuitError : K.lookup C_CircuitError = some (PySem.excClassObj nm_CircuitError qn_CircuitError C_CircuitError N_CircuitError bs_CircuitError bm_CircuitError true sn_CircuitError sub_CircuitError ab_CircuitError col_CircuitError dd_CircuitError m0_CircuitError m1_CircuitError m2_CircuitError m3_CircuitError m5_CircuitError "ValueError.__new__")) (rv_CircuitError : PySem.HandSPX.refsVE bm_CircuitError = true) (sa_CircuitError : PySem.W.findIn K (.ref C_CircuitError) "__setattr__" = some (some (.builtin "object.__setattr__"))) (ga_CircuitError : PySem.W.findIn K (.ref C_CircuitError) "__getattribute__" = some (some (.builtin "BaseException.__getattribute__"))) (gg_CircuitError : PySem.W.findIn K (.ref C_CircuitError) "__getattr__" = some none) (nb_CircuitError : PySem.W.findIn K (.ref C_CircuitError) "part" = some none) (iC_CircuitError : PySem.W.findIn K (.ref C_CircuitError) "__init__" = some (some (.ref fI_CircuitError))) (tI_CircuitError : PySem.W.typeIn K (.ref fI_CircuitError) = some (.type "function")) (lI_CircuitError : K.lookup fI_CircuitError = some ⟨oc_CircuitError, od_CircuitError, .func (PySem.W.ksFn "__init__" "CircuitError.__init__" (PySem.LkX.eArgs "part" p1_CircuitError p2_CircuitError) (PySem.LkX.eBody "part" (.JoinedStr [.Constant (.str msg_CircuitError) mj_CircuitError mp_CircuitError, .FormattedValue (.Name "part" p5_CircuitError) (-1) none p6_CircuitError] p7_CircuitError) a1_CircuitError a2_CircuitError a3_CircuitError a4_CircuitError a5_CircuitError q1_CircuitError q2_CircuitError q3_CircuitError q4_CircuitError) sc_CircuitError .none .none doc_CircuitError pm_CircuitError an_CircuitError (.ref cda_CircuitError) ct_CircuitError cc_CircuitError), osl_CircuitError⟩) (hl_CircuitError : (a3_CircuitError.endLine == a4_CircuitError.line) = true) (cI_CircuitError : PySem.W.codeIn K (.ref cda_CircuitError) "CircuitError.__init__" = true) (lD_CircuitError : K.lookup cda_CircuitError = some ⟨ccl_CircuitError, cdd_CircuitError, .fields vs_CircuitError, ccs_CircuitError⟩) (v2_CircuitError : vs_CircuitError[2]? = some (.str file_CircuitError tf_CircuitError)) (hF_CircuitError : (l.prog.main.file == file_CircuitError) = true) (lC_CircuitError : K.lookup cc_CircuitError = some ⟨cl_CircuitError, cld_CircuitError, .cell (some (.ref C_CircuitError)), csl_CircuitError⟩) (sf_CircuitError : PySem.W.mroIn K C_CircuitError (.ref C_CircuitError) = some true) (sI_CircuitError : PySem.W.ks_superIn K C_CircuitError C_CircuitError "__init__" = some (some (.builtin "ValueError.__init__"))) (sV_CircuitError : PySem.W.subIn K (.ref C_CircuitError) (.type "ValueError") = some true) (kC_CircuitError : PySem.W.keepIn K (.ref C_CircuitError) = true) (eC_CircuitError : PySem.W.subIn K (.ref C_CircuitError) (.type "BaseException") = some true) (tC_CircuitError : PySem.W.typeIn K (.ref C_CircuitError) = some (.type "type")) (hC_CircuitError : PySem.W.hasDictIn K C_CircuitError = true) (sC_CircuitError : PySem.W.subIn K (.ref C_CircuitError) (.ref C_CircuitError) = some true) (hA_CircuitError : PySem.W.findIn K (.ref C_CircuitError) "__class__" = some (some (.builtin "object.__class__"))) (hM_CircuitError : PySem.W.mroIn K C_CircuitError (.type "object") = some true) (sk_CircuitError : sc_CircuitError.kind = .function ∧ sc_CircuitError.isCoroutine = false ∧ sc_CircuitError.isGenerator = false) (sn2_CircuitError : ∀ x ∈ sc_CircuitError.names, x.2 ≠ .cell) (sl_CircuitError : sc_CircuitError.names.lookup ("super" : Str) = some .globalImplicit ∧ sc_CircuitError.names.lookup ("__class__" : Str) = some .free ∧ sc_CircuitError.names.lookup ("self" : Str) = some .local ∧ sc_CircuitError.names.lookup ("part" : Str) = some .local) (hm_CircuitError : msg_CircuitError.length ≤ 1000)
    {C_SizeError fI_SizeError cc_SizeError cda_SizeError : Addr} {sc_SizeError : Scope} {nm_SizeError qn_SizeError : Str} {N_SizeError : Addr} {bs_SizeError bm_SizeError sub_SizeError : List Value} {sn_SizeError : List Str} {ab_SizeError : Bool} {col_SizeError : Option Bool} {dd_SizeError od_SizeError an_SizeError : Option Addr} {m0_SizeError m1_SizeError m2_SizeError m3_SizeError m5_SizeError : Option Value}
    {oc_SizeError doc_SizeError pm_SizeError ct_SizeError ccl_SizeError cl_SizeError : Value} {osl_SizeError ccs_SizeError csl_SizeError : Array (Option Value)} {p1_SizeError p2_SizeError a1_SizeError a2_SizeError a3_SizeError a4_SizeError a5_SizeError q1_SizeError q2_SizeError q3_SizeError q4_SizeError : Pos} {vs_SizeError : Array Value} {cdd_SizeError cld_SizeError : Option Addr} {file_SizeError : Str} {tf_SizeError : Tok}
    {msg_SizeError : Str} {mj_SizeError : Nat} {mp_SizeError p5_SizeError p6_SizeError p7_SizeError : Pos}
    (gC_SizeError : PySem.W.nsIn K mainGlobals "SizeError" = some (some (.ref C_SizeError))) (xL_SizeError : K.lookup C_SizeError = some (PySem.excClassObj nm_SizeError qn_SizeError C_SizeError N_SizeError bs_SizeError bm_SizeError true sn_SizeError sub_SizeError ab_SizeError col_SizeError dd_SizeError m0_SizeError m1_SizeError m2_SizeError m3_SizeError m5_SizeError "ValueError.__new__")) (rv_SizeError : PySem.HandSPX.refsVE bm_SizeError = true) (sa_SizeError : PySem.W.findIn K (.ref C_SizeError) "__setattr__" = some (some (.builtin "object.__setattr__"))) (ga_SizeError : PySem.W.findIn K (.ref C_SizeError) "__getattribute__" = some (some (.builtin "BaseException.__getattribute__"))) (gg_SizeError : PySem.W.findIn K (.ref C_SizeError) "__getattr__" = some none) (nb_SizeError : PySem.W.findIn K (.ref C_SizeError) "limit" = some none) (iC_SizeError : PySem.W.findIn K (.ref C_SizeError) "__init__" = some (some (.ref fI_SizeError))) (tI_SizeError : PySem.W.typeIn K (.ref fI_SizeError) = some (.type "function")) (lI_SizeError : K.lookup fI_SizeError = some ⟨oc_SizeError, od_SizeError, .func (PySem.W.ksFn "__init__" "SizeError.__init__" (PySem.LkX.eArgs "limit" p1_SizeError p2_SizeError) (PySem.LkX.eBody "limit" (.JoinedStr [.Constant (.str msg_SizeError) mj_SizeError mp_SizeError, .FormattedValue (.Name "limit" p5_SizeError) (-1) none p6_SizeError] p7_SizeError) a1_SizeError a2_SizeError a3_SizeError a4_SizeError a5_SizeError q1_SizeError q2_SizeError q3_SizeError q4_SizeError) sc_SizeError .none .none doc_SizeError pm_SizeError an_SizeError (.ref cda_SizeError) ct_SizeError cc_SizeError), osl_SizeError⟩) (hl_SizeError : (a3_SizeError.endLine == a4_SizeError.line) = true) (cI_SizeError : PySem.W.codeIn K (.ref cda_SizeError) "SizeError.__init__" = true) (lD_SizeError : K.lookup cda_SizeError = some ⟨ccl_SizeError, cdd_SizeError, .fields vs_SizeError, ccs_SizeError⟩) (v2_SizeError : vs_SizeError[2]? = some (.str file_SizeError tf_SizeError)) (hF_SizeError : (l.prog.main.file == file_SizeError) = true) (lC_SizeError : K.lookup cc_SizeError = some ⟨cl_SizeError, cld_SizeError, .cell (some (.ref C_SizeError)), csl_SizeError⟩) (sf_SizeError : PySem.W.mroIn K C_SizeError (.ref C_SizeError) = some true) (sI_SizeError : PySem.W.ks_superIn K C_SizeError C_SizeError "__init__" = some (some (.builtin "ValueError.__init__"))) (sV_SizeError : PySem.W.subIn K (.ref C_SizeError) (.type "ValueError") = some true) (kC_SizeError : PySem.W.keepIn K (.ref C_SizeError) = true) (eC_SizeError : PySem.W.subIn K (.ref C_SizeError) (.type "BaseException") = some true) (tC_SizeError : PySem.W.typeIn K (.ref C_SizeError) = some (.type "type")) (hC_SizeError : PySem.W.hasDictIn K C_SizeError = true) (sC_SizeError : PySem.W.subIn K (.ref C_SizeError) (.ref C_SizeError) = some true) (hA_SizeError : PySem.W.findIn K (.ref C_SizeError) "__class__" = some (some (.builtin "object.__class__"))) (hM_SizeError : PySem.W.mroIn K C_SizeError (.type "object") = some true) (sk_SizeError : sc_SizeError.kind = .function ∧ sc_SizeError.isCoroutine = false ∧ sc_SizeError.isGenerator = false) (sn2_SizeError : ∀ x ∈ sc_SizeError.names, x.2 ≠ .cell) (sl_SizeError : sc_SizeError.names.lookup ("super" : Str) = some .globalImplicit ∧ sc_SizeError.names.lookup ("__class__" : Str) = some .free ∧ sc_SizeError.names.lookup ("self" : Str) = some .local ∧ sc_SizeError.names.lookup ("limit" : Str) = some .local) (hm_SizeError : msg_SizeError.length ≤ 1000)
    (kt_FieldError_LayeraskError : PySem.W.kitOne K (.ref C_FieldError) (.ref C_LayeraskError) = some true)
    (kt_CircuitError_LayeraskError : PySem.W.kitOne K (.ref C_CircuitError) (.ref C_LayeraskError) = some true)
    (kt_SizeError_LayeraskError : PySem.W.kitOne K (.ref C_SizeError) (.ref C_LayeraskError) = some true)
    (kt_CircuitError_CircuitError : PySem.W.kitOne K (.ref C_CircuitError) (.ref C_CircuitError) = some true)
    (kt_SizeError_SizeError : PySem.W.kitOne K (.ref C_SizeError) (.ref C_SizeError) = some true)
    (kt_FieldError_FieldError : PySem.W.kitOne K (.ref C_FieldError) (.ref C_FieldError) = some true)
    (kt_SizeError_CircuitError : PySem.W.kitOne K (.ref C_SizeError) (.ref C_CircuitError) = some false)
    (kt_FieldError_CircuitError : PySem.W.kitOne K (.ref C_FieldError) (.ref C_CircuitError) = some false)
    (kt_FieldError_SizeError : PySem.W.kitOne K (.ref C_FieldError) (.ref C_SizeError) = some false)
    (exm_FieldError_LayeraskError : PySem.W.exmOne K (.ref C_FieldError) (.ref C_LayeraskError) = some true)
    (exm_CircuitError_LayeraskError : PySem.W.exmOne K (.ref C_CircuitError) (.ref C_LayeraskError) = some true)
    (exm_SizeError_LayeraskError : PySem.W.exmOne K (.ref C_SizeError) (.ref C_LayeraskError) = some true)
    {p_are_numbers : Addr} {oC_are_numbers : Value} {dC_are_numbers : Option Addr} {sC_are_numbers : Array (Option Value)} {ws_are_numbers : Array Value} {dr_are_numbers : DefRec}
    (lC_are_numbers : K.lookup cd5 = some ⟨oC_are_numbers, dC_are_numbers, .fields ws_are_numbers, sC_are_numbers⟩) (wv_are_numbers : (ws_are_numbers[11]? : Option Value) = some (.ref p_are_numbers)) (nl_are_numbers : K.lookup p_are_numbers = none) (rr_are_numbers : (recsOf q).find? (fun e => e.name == ("are_numbers" : Str)) = some dr_are_numbers)
    {p_has_form : Addr} {oC_has_form : Value} {dC_has_form : Option Addr} {sC_has_form : Array (Option Value)} {ws_has_form : Array Value} {dr_has_form : DefRec}
    (lC_has_form : K.lookup cd9 = some ⟨oC_has_form, dC_has_form, .fields ws_has_form, sC_has_form⟩) (wv_has_form : (ws_has_form[11]? : Option Value) = some (.ref p_has_form)) (nl_has_form : K.lookup p_has_form = none) (rr_has_form : (recsOf q).find? (fun e => e.name == ("has_form" : Str)) = some dr_has_form)
    {p_check_limits : Addr} {oC_check_limits : Value} {dC_check_limits : Option Addr} {sC_check_limits : Array (Option Value)} {ws_check_limits : Array Value} {dr_check_limits : DefRec}
    (lC_check_limits : K.lookup cd10 = some ⟨oC_check_limits, dC_check_limits, .fields ws_check_limits, sC_check_limits⟩) (wv_check_limits : (ws_check_limits[11]? : Option Value) = some (.ref p_check_limits)) (nl_check_limits : K.lookup p_check_limits = none) (rr_check_limits : (recsOf q).find? (fun e => e.name == ("check_limits" : Str)) = some dr_check_limits)
    : ∃ (fd : FuncData) (cs : List (Addr × Addr)), TabsK K h cs ∧ (∀ (s : Shared) (v : Value), BindsTo s fd ⟨[v], []⟩ [("script", v)]) ∧ ∀ base : Heap, K.In base → base.Ns mainGlobals mg → (∀ p ∈ cs, GxR.TabB base mg p.1 p.2) → RunsAt l.prog w K mg base CX0 11 fa fd ["script"] (sp_law K (cs.map (·.2))) := by
  have e := hfa.symm.trans (PySem.W.mg_of X G a27)
  cases e
  have tt_are_numbers := TL "are_numbers" dr_are_numbers _ _ rr_are_numbers (tabIn_of a5 l5 rfl lC_are_numbers wv_are_numbers)
  have tt_has_form := TL "has_form" dr_has_form _ _ rr_has_form (tabIn_of a9 l9 rfl lC_has_form wv_has_form)
  have tt_check_limits := TL "check_limits" dr_check_limits _ _ rr_check_limits (tabIn_of a10 l10 rfl lC_check_limits wv_check_limits)
  have F1 := fun_mk (st := s_is_prime) l1 c1 k1
  have b1 := F1.binds (ps := ["number"]) fun _ _ _ _ _ _ us hl => match us, hl with | [_], _ => rfl
  have F2 := fun_mk (st := s_check_modulus) l2 c2 k2
  have b2 := F2.binds (ps := ["p"]) fun _ _ _ _ _ _ us hl => match us, hl with | [_], _ => rfl
  have F3 := fun_mk (st := s_is_number) l3 c3 k3
  have b3 := F3.binds (ps := ["number", "p"]) fun _ _ _ _ _ _ us hl => match us, hl with | [_, _], _ => rfl
  have F4 := fun_mk (st := s_is_integer_kind) l4 c4 k4
  have b4 := F4.binds (ps := ["thing"]) fun _ _ _ _ _ _ us hl => match us, hl with | [_], _ => rfl
  have F5 := fun_mk (st := s_are_numbers) l5 c5 k5
  have b5 := F5.binds (ps := ["thing", "many", "p"]) fun _ _ _ _ _ _ us hl => match us, hl with | [_, _, _], _ => rfl
  have F6 := fun_mk (st := s_modulus) l6 c6 k6
  have b6 := F6.binds (ps := ["circuit"]) fun _ _ _ _ _ _ us hl => match us, hl with | [_], _ => rfl
  have F7 := fun_mk (st := s_depth) l7 c7 k7
  have b7 := F7.binds (ps := ["circuit"]) fun _ _ _ _ _ _ us hl => match us, hl with | [_], _ => rfl
  have F8 := fun_mk (st := s_width) l8 c8 k8
  have b8 := F8.binds (ps := ["circuit", "layer"]) fun _ _ _ _ _ _ us hl => match us, hl with | [_, _], _ => rfl
  have F9 := fun_mk (st := s_has_form) l9 c9 k9
  have b9 := F9.binds (ps := ["circuit"]) fun _ _ _ _ _ _ us hl => match us, hl with | [_], _ => rfl
  have F10 := fun_mk (st := s_check_limits) l10 c10 k10
  have b10 := F10.binds (ps := ["widths"]) fun _ _ _ _ _ _ us hl => match us, hl with | [_], _ => rfl
  have F11 := fun_mk (st := s_is_gate) l11 c11 k11
  have b11 := F11.binds (ps := ["thing", "columns", "p"]) fun _ _ _ _ _ _ us hl => match us, hl with | [_, _, _], _ => rfl
  have F12 := fun_mk (st := s_check_layer) l12 c12 k12
  have b12 := F12.binds (ps := ["gates", "many", "columns", "p"]) fun _ _ _ _ _ _ us hl => match us, hl with | [_, _, _, _], _ => rfl
  have F13 := fun_mk (st := s_checked) l13 c13 k13
  have b13 := F13.binds (ps := ["circuit"]) fun _ _ _ _ _ _ us hl => match us, hl with | [_], _ => rfl
  have F14 := fun_mk (st := s_checked_rows) l14 c14 k14
  have b14 := F14.binds (ps := ["circuit", "rows"]) fun _ _ _ _ _ _ us hl => match us, hl with | [_, _], _ => rfl
  have F15 := fun_mk (st := s_gate_values) l15 c15 k15
  have b15 := F15.binds (ps := ["gate", "columns", "p"]) fun _ _ _ _ _ _ us hl => match us, hl with | [_, _, _], _ => rfl
  have F16 := fun_mk (st := s_table_of) l16 c16 k16
  have b16 := F16.binds (ps := ["columns"]) fun _ _ _ _ _ _ us hl => match us, hl with | [_], _ => rfl
  have F17 := fun_mk (st := s_columns_of) l17 c17 k17
  have b17 := F17.binds (ps := ["rows"]) fun _ _ _ _ _ _ us hl => match us, hl with | [_], _ => rfl
  have F18 := fun_mk (st := s_layer_tables) l18 c18 k18
  have b18 := F18.binds (ps := ["circuit", "rows"]) fun _ _ _ _ _ _ us hl => match us, hl with | [_, _], _ => rfl
  have F19 := fun_mk (st := s_run) l19 c19 k19
  have b19 := F19.binds (ps := ["circuit", "rows"]) fun _ _ _ _ _ _ us hl => match us, hl with | [_, _], _ => rfl
  have F20 := fun_mk (st := s__law_stream) l20 c20 k20
  have b20 := F20.binds (ps := ["script"]) fun _ _ _ _ _ _ us hl => match us, hl with | [_], _ => rfl
  have F21 := fun_mk (st := s__law_take) l21 c21 k21
  have b21 := F21.binds (ps := ["row", "many"]) fun _ _ _ _ _ _ us hl => match us, hl with | [_, _], _ => rfl
  have F22 := fun_mk (st := s__law_gate) l22 c22 k22
  have b22 := F22.binds (ps := ["row", "p", "columns"]) fun _ _ _ _ _ _ us hl => match us, hl with | [_, _, _], _ => rfl
  have F23 := fun_mk (st := s__law_circuit) l23 c23 k23
  have b23 := F23.binds (ps := ["row", "most", "wide"]) fun _ _ _ _ _ _ us hl => match us, hl with | [_, _, _], _ => rfl
  have F24 := fun_mk (st := s__law_inputs) l24 c24 k24
  have b24 := F24.binds (ps := ["row", "circuit", "bits"]) fun _ _ _ _ _ _ us hl => match us, hl with | [_, _, _], _ => rfl
  have F25 := fun_mk (st := s__law_fault) l25 c25 k25
  have b25 := F25.binds (ps := ["row", "circuit", "rows"]) fun _ _ _ _ _ _ us hl => match us, hl with | [_, _, _], _ => rfl
  have F26 := fun_mk (st := s__law_raised) l26 c26 k26
  have b26 := F26.binds (ps := ["circuit", "rows", "whole"]) fun _ _ _ _ _ _ us hl => match us, hl with | [_, _, _], _ => rfl
  have F27 := fun_mk (st := s_law) l27 c27 k27
  have b27 := F27.binds (ps := ["script"]) fun _ _ _ _ _ _ us hl => match us, hl with | [_], _ => rfl
  exact ⟨PySem.W.fnOf "law" "law" (defArgs s_law) (defBody s_law) (defScope s_law) .none kV27 dc27 pm27 an27 cd27 ct27, [(cd5, p_are_numbers), (cd9, p_has_form), (cd10, p_check_limits)], fun p hp => by
      simp only [List.mem_cons, List.not_mem_nil, or_false] at hp
      rcases hp with rfl | rfl | rfl
      · exact ⟨tt_are_numbers.1, tt_are_numbers.2, nl_are_numbers⟩
      · exact ⟨tt_has_form.1, tt_has_form.2, nl_has_form⟩
      · exact ⟨tt_check_limits.1, tt_check_limits.2, nl_check_limits⟩, fun s v => .of_eq rfl, fun base _ _ hB =>
    ok_law (⟨_, _, F1, b1, PySem.W.mg_of X G a1,
    _, _, F2, b2, PySem.W.mg_of X G a2,
    _, _, F3, b3, PySem.W.mg_of X G a3,
    _, _, F4, b4, PySem.W.mg_of X G a4,
    _, _, F5, b5, PySem.W.mg_of X G a5,
    _, _, F6, b6, PySem.W.mg_of X G a6,
    _, _, F7, b7, PySem.W.mg_of X G a7,
    _, _, F8, b8, PySem.W.mg_of X G a8,
    _, _, F9, b9, PySem.W.mg_of X G a9,
    _, _, F10, b10, PySem.W.mg_of X G a10,
    _, _, F11, b11, PySem.W.mg_of X G a11,
    _, _, F12, b12, PySem.W.mg_of X G a12,
    _, _, F13, b13, PySem.W.mg_of X G a13,
    _, _, F14, b14, PySem.W.mg_of X G a14,
    _, _, F15, b15, PySem.W.mg_of X G a15,
    _, _, F16, b16, PySem.W.mg_of X G a16,
    _, _, F17, b17, PySem.W.mg_of X G a17,
    _, _, F18, b18, PySem.W.mg_of X G a18,
    _, _, F19, b19, PySem.W.mg_of X G a19,
    _, _, F20, b20, PySem.W.mg_of X G a20,
    _, _, F21, b21, PySem.W.mg_of X G a21,
    _, _, F22, b22, PySem.W.mg_of X G a22,
    _, _, F23, b23, PySem.W.mg_of X G a23,
    _, _, F24, b24, PySem.W.mg_of X G a24,
    _, _, F25, b25, PySem.W.mg_of X G a25,
    _, _, F26, b26, PySem.W.mg_of X G a26,
    _, _, F27, b27, PySem.W.mg_of X G a27,
    cd5, p_are_numbers, rfl,
    cd9, p_has_form, rfl,
    cd10, p_check_limits, rfl,
    PySem.W.mg_none_of X G z_abs,
    PySem.W.mg_none_of X G z_all,
    PySem.W.mg_none_of X G z_bool,
    PySem.W.mg_none_of X G z_enumerate,
    PySem.W.mg_none_of X G z_int,
    PySem.W.mg_none_of X G z_isinstance,
    PySem.W.mg_none_of X G z_len,
    PySem.W.mg_none_of X G z_list,
    PySem.W.mg_none_of X G z_max,
    PySem.W.mg_none_of X G z_range,
    PySem.W.mg_none_of X G z_repr,
    PySem.W.mg_none_of X G z_reversed,
    PySem.W.mg_none_of X G z_sum,
    PySem.W.mg_none_of X G z_tuple,
    PySem.W.mg_none_of X G z_zip,
    ⟨_, PySem.W.mg_of X G q_GREATEST_MODULUS⟩,
    ⟨_, PySem.W.mg_of X G q_MOST_BITS⟩,
    ⟨_, PySem.W.mg_of X G q_MOST_GATES⟩,
    ⟨_, PySem.W.mg_of X G q_MOST_LAYERS⟩,
    ⟨_, PySem.W.mg_of X G q_MOST_ROWS⟩,
    C_FieldError, { txt := ⟨fI_FieldError, cc_FieldError, cda_FieldError, _, sc_FieldError, _, { cls := ⟨nm_FieldError, qn_FieldError, N_FieldError, bs_FieldError, bm_FieldError, sn_FieldError, sub_FieldError, ab_FieldError, col_FieldError, dd_FieldError, m0_FieldError, m1_FieldError, m2_FieldError, m3_FieldError, m5_FieldError, xL_FieldError, rv_FieldError⟩, sa := sa_FieldError, iC := iC_FieldError, tC := tI_FieldError, noN := nb_FieldError, fn := ⟨oc_FieldError, od_FieldError, doc_FieldError, pm_FieldError, an_FieldError, ct_FieldError, osl_FieldError, p1_FieldError, p2_FieldError, a1_FieldError, a2_FieldError, a3_FieldError, a4_FieldError, a5_FieldError, q1_FieldError, q2_FieldError, q3_FieldError, q4_FieldError, lI_FieldError, hl_FieldError⟩, cd := cI_FieldError, code := ⟨ccl_FieldError, cdd_FieldError, vs_FieldError, ccs_FieldError, file_FieldError, tf_FieldError, lD_FieldError, v2_FieldError, hF_FieldError⟩, cell := ⟨cl_FieldError, cld_FieldError, csl_FieldError, lC_FieldError⟩, sup := sup, opq := opq, self := sf_FieldError, sin := sI_FieldError, sub := sV_FieldError, top := top }, { kind := sk_FieldError.1, co := sk_FieldError.2.1, gen := sk_FieldError.2.2, nocell := sn2_FieldError, sup := sl_FieldError.1, cls := sl_FieldError.2.1, slf := sl_FieldError.2.2.1, prm := sl_FieldError.2.2.2, ne := by decide, dbg := by decide }, fun v v' rv ok x L A' s' E' Q hns hq => PySem.wpAny_Constant_str (hq _ _ _), fun v x p1 p2 body doc pm an ct => by first | rfl | with_unfolding_all rfl, fun env => rfl⟩, gC := PySem.W.mg_of X G gC_FieldError, kC := kC_FieldError, ga := ga_FieldError, gg := gg_FieldError, noN := nb_FieldError, exC := eC_FieldError, tyC := tC_FieldError, hdC := hC_FieldError, te := PySem.W.exm_ref eC_FieldError hC_FieldError tC_FieldError sC_FieldError, ha := hA_FieldError, hn := hn, ht := ht, hm := hM_FieldError },
    C_CircuitError, { txt := ⟨fI_CircuitError, cc_CircuitError, cda_CircuitError, _, sc_CircuitError, _, { cls := ⟨nm_CircuitError, qn_CircuitError, N_CircuitError, bs_CircuitError, bm_CircuitError, sn_CircuitError, sub_CircuitError, ab_CircuitError, col_CircuitError, dd_CircuitError, m0_CircuitError, m1_CircuitError, m2_CircuitError, m3_CircuitError, m5_CircuitError, xL_CircuitError, rv_CircuitError⟩, sa := sa_CircuitError, iC := iC_CircuitError, tC := tI_CircuitError, noN := nb_CircuitError, fn := ⟨oc_CircuitError, od_CircuitError, doc_CircuitError, pm_CircuitError, an_CircuitError, ct_CircuitError, osl_CircuitError, p1_CircuitError, p2_CircuitError, a1_CircuitError, a2_CircuitError, a3_CircuitError, a4_CircuitError, a5_CircuitError, q1_CircuitError, q2_CircuitError, q3_CircuitError, q4_CircuitError, lI_CircuitError, hl_CircuitError⟩, cd := cI_CircuitError, code := ⟨ccl_CircuitError, cdd_CircuitError, vs_CircuitError, ccs_CircuitError, file_CircuitError, tf_CircuitError, lD_CircuitError, v2_CircuitError, hF_CircuitError⟩, cell := ⟨cl_CircuitError, cld_CircuitError, csl_CircuitError, lC_CircuitError⟩, sup := sup, opq := opq, self := sf_CircuitError, sin := sI_CircuitError, sub := sV_CircuitError, top := top }, { kind := sk_CircuitError.1, co := sk_CircuitError.2.1, gen := sk_CircuitError.2.2, nocell := sn2_CircuitError, sup := sl_CircuitError.1, cls := sl_CircuitError.2.1, slf := sl_CircuitError.2.2.1, prm := sl_CircuitError.2.2.2, ne := by decide, dbg := by decide }, fun v v' rv ok x L A' s' E' Q hns hq => fs_str sk_CircuitError.1 sl_CircuitError.2.2.2 (by decide) (by decide) hm_CircuitError rv ok hns hq, fun v x p1 p2 body doc pm an ct => by first | rfl | with_unfolding_all rfl, fun env => rfl⟩, gC := PySem.W.mg_of X G gC_CircuitError, kC := kC_CircuitError, ga := ga_CircuitError, gg := gg_CircuitError, noN := nb_CircuitError, exC := eC_CircuitError, tyC := tC_CircuitError, hdC := hC_CircuitError, te := PySem.W.exm_ref eC_CircuitError hC_CircuitError tC_CircuitError sC_CircuitError, ha := hA_CircuitError, hn := hn, ht := ht, hm := hM_CircuitError },
    C_SizeError, { txt := ⟨fI_SizeError, cc_SizeError, cda_SizeError, _, sc_SizeError, _, { cls := ⟨nm_SizeError, qn_SizeError, N_SizeError, bs_SizeError, bm_SizeError, sn_SizeError, sub_SizeError, ab_SizeError, col_SizeError, dd_SizeError, m0_SizeError, m1_SizeError, m2_SizeError, m3_SizeError, m5_SizeError, xL_SizeError, rv_SizeError⟩, sa := sa_SizeError, iC := iC_SizeError, tC := tI_SizeError, noN := nb_SizeError, fn := ⟨oc_SizeError, od_SizeError, doc_SizeError, pm_SizeError, an_SizeError, ct_SizeError, osl_SizeError, p1_SizeError, p2_SizeError, a1_SizeError, a2_SizeError, a3_SizeError, a4_SizeError, a5_SizeError, q1_SizeError, q2_SizeError, q3_SizeError, q4_SizeError, lI_SizeError, hl_SizeError⟩, cd := cI_SizeError, code := ⟨ccl_SizeError, cdd_SizeError, vs_SizeError, ccs_SizeError, file_SizeError, tf_SizeError, lD_SizeError, v2_SizeError, hF_SizeError⟩, cell := ⟨cl_SizeError, cld_SizeError, csl_SizeError, lC_SizeError⟩, sup := sup, opq := opq, self := sf_SizeError, sin := sI_SizeError, sub := sV_SizeError, top := top }, { kind := sk_SizeError.1, co := sk_SizeError.2.1, gen := sk_SizeError.2.2, nocell := sn2_SizeError, sup := sl_SizeError.1, cls := sl_SizeError.2.1, slf := sl_SizeError.2.2.1, prm := sl_SizeError.2.2.2, ne := by decide, dbg := by decide }, fun v v' rv ok x L A' s' E' Q hns hq => fs_str sk_SizeError.1 sl_SizeError.2.2.2 (by decide) (by decide) hm_SizeError rv ok hns hq, fun v x p1 p2 body doc pm an ct => by first | rfl | with_unfolding_all rfl, fun env => rfl⟩, gC := PySem.W.mg_of X G gC_SizeError, kC := kC_SizeError, ga := ga_SizeError, gg := gg_SizeError, noN := nb_SizeError, exC := eC_SizeError, tyC := tC_SizeError, hdC := hC_SizeError, te := PySem.W.exm_ref eC_SizeError hC_SizeError tC_SizeError sC_SizeError, ha := hA_SizeError, hn := hn, ht := ht, hm := hM_SizeError },
    C_LayeraskError, PySem.W.mg_of X G q_LayeraskError,
    kt_FieldError_LayeraskError,
    kt_CircuitError_LayeraskError,
    kt_SizeError_LayeraskError,
    kt_CircuitError_CircuitError,
    kt_SizeError_SizeError,
    kt_FieldError_FieldError,
    kt_SizeError_CircuitError,
    kt_FieldError_CircuitError,
    kt_FieldError_SizeError,
    exm_FieldError_LayeraskError,
    exm_CircuitError_LayeraskError,
    exm_SizeError_LayeraskError⟩ : Txt l.prog w K mg) ⟨hB (cd5, p_are_numbers) (by simp), hB (cd9, p_has_form) (by simp), hB (cd10, p_check_limits) (by simp)⟩⟩
end
end Lk
open PySem PySem.W PyProof.Rows
set_option maxRecDepth 100000 in
set_option maxHeartbeats 0 in
theorem PySem.Challenge.cw_layerask_k15_rows_that_do_not_fit_holds : PySem.Challenge.rw_layerask_k15_rows_that_do_not_fit.Holds := by
  w_on; o_law; k_head; (case hw => w_witness2)
  k_fill
  refine Lk.walk_T (l := PySem.Challenge.rw_layerask_k15_rows_that_do_not_fit) (n := 63) (k := 11) (x := "script") (CX := L2.CX0) (sp := Lk.sp_law) rfl (by decide) rfl ⟨rfl, by decide, by decide⟩ (fun w h Y => PySem.W.kIn_of Y) ?F (fun _ _ _ a ns hl hT hS => ⟨a, ns, rfl, hS, hl, fun p hp => ⟨#[], hT p hp, trivial⟩, fun _ => rfl⟩) (fun _ _ _ _ h => h)
  case F =>
    intro w mg fa h KX G TL hmg
    refine' Lk.all_mk KX G TL hmg ?a1 ?l1 ?c1 ?k1 ?a2 ?l2 ?c2 ?k2 ?a3 ?l3 ?c3 ?k3 ?a4 ?l4 ?c4 ?k4 ?a5 ?l5 ?c5 ?k5 ?a6 ?l6 ?c6 ?k6 ?a7 ?l7 ?c7 ?k7 ?a8 ?l8 ?c8 ?k8 ?a9 ?l9 ?c9 ?k9 ?a10 ?l10 ?c10 ?k10 ?a11 ?l11 ?c11 ?k11 ?a12 ?l12 ?c12 ?k12 ?a13 ?l13 ?c13 ?k13 ?a14 ?l14 ?c14 ?k14 ?a15 ?l15 ?c15 ?k15 ?a16 ?l16 ?c16 ?k16 ?a17 ?l17 ?c17 ?k17 ?a18 ?l18 ?c18 ?k18 ?a19 ?l19 ?c19 ?k19 ?a20 ?l20 ?c20 ?k20 ?a21 ?l21 ?c21 ?k21 ?a22 ?l22 ?c22 ?k22 ?a23 ?l23 ?c23 ?k23 ?a24 ?l24 ?c24 ?k24 ?a25 ?l25 ?c25 ?k25 ?a26 ?l26 ?c26 ?k26 ?a27 ?l27 ?c27 ?k27 ?z_abs ?z_all ?z_bool ?z_enumerate ?z_int ?z_isinstance ?z_len ?z_list ?z_max ?z_range ?z_repr ?z_reversed ?z_sum ?z_tuple ?z_zip ?q_GREATEST_MODULUS ?q_MOST_BITS ?q_MOST_GATES ?q_MOST_LAYERS ?q_MOST_ROWS ?q_LayeraskError ?sup ?opq ?top ?hn ?ht ?gC_FieldError ?xL_FieldError ?rv_FieldError ?sa_FieldError ?ga_FieldError ?gg_FieldError ?nb_FieldError ?iC_FieldError ?tI_FieldError ?lI_FieldError ?hl_FieldError ?cI_FieldError ?lD_FieldError ?v2_FieldError ?hF_FieldError ?lC_FieldError ?sf_FieldError ?sI_FieldError ?sV_FieldError ?kC_FieldError ?eC_FieldError ?tC_FieldError ?hC_FieldError ?sC_FieldError ?hA_FieldError ?hM_FieldError ?sk_FieldError ?sn2_FieldError ?sl_FieldError ?gC_CircuitError ?xL_CircuitError ?rv_CircuitError ?sa_CircuitError ?ga_CircuitError ?gg_CircuitError ?nb_CircuitError ?iC_CircuitError ?tI_CircuitError ?lI_CircuitError ?hl_CircuitError ?cI_CircuitError ?lD_CircuitError ?v2_CircuitError ?hF_CircuitError ?lC_CircuitError ?sf_CircuitError ?sI_CircuitError ?sV_CircuitError ?kC_CircuitError ?eC_CircuitError ?tC_CircuitError ?hC_CircuitError ?sC_CircuitError ?hA_CircuitError ?hM_CircuitError ?sk_CircuitError ?sn2_CircuitError ?sl_CircuitError ?hm_CircuitError ?gC_SizeError ?xL_SizeError ?rv_SizeError ?sa_SizeError ?ga_SizeError ?gg_SizeError ?nb_SizeError ?iC_SizeError ?tI_SizeError ?lI_SizeError ?hl_SizeError ?cI_SizeError ?lD_SizeError ?v2_SizeError ?hF_SizeError ?lC_SizeError ?sf_SizeError ?sI_SizeError ?sV_SizeError ?kC_SizeError ?eC_SizeError ?tC_SizeError ?hC_SizeError ?sC_SizeError ?hA_SizeError ?hM_SizeError ?sk_SizeError ?sn2_SizeError ?sl_SizeError ?hm_SizeError ?kt_FieldError_LayeraskError ?kt_CircuitError_LayeraskError ?kt_SizeError_LayeraskError ?kt_CircuitError_CircuitError ?kt_SizeError_SizeError ?kt_FieldError_FieldError ?kt_SizeError_CircuitError ?kt_FieldError_CircuitError ?kt_FieldError_SizeError ?exm_FieldError_LayeraskError ?exm_CircuitError_LayeraskError ?exm_SizeError_LayeraskError ?lC_are_numbers ?wv_are_numbers ?nl_are_numbers ?rr_are_numbers ?lC_has_form ?wv_has_form ?nl_has_form ?rr_has_form ?lC_check_limits ?wv_check_limits ?nl_check_limits ?rr_check_limits
    (case a1 => k_is)
    (case l1 => k_is)
    (case c1 => k_is)
    (case k1 => k_is)
    (case a2 => k_is)
    (case l2 => k_is)
    (case c2 => k_is)
    (case k2 => k_is)
    (case a3 => k_is)
    (case l3 => k_is)
    (case c3 => k_is)
    (case k3 => k_is)
    (case a4 => k_is)
    (case l4 => k_is)
    (case c4 => k_is)
    (case k4 => k_is)
    (case a5 => k_is)
    (case l5 => k_is)
    (case c5 => k_is)
    (case k5 => k_is)
    (case a6 => k_is)
    (case l6 => k_is)
    (case c6 => k_is)
    (case k6 => k_is)
    (case a7 => k_is)
    (case l7 => k_is)
    (case c7 => k_is)
    (case k7 => k_is)
    (case a8 => k_is)
    (case l8 => k_is)
    (case c8 => k_is)
    (case k8 => k_is)
    (case a9 => k_is)
    (case l9 => k_is)
    (case c9 => k_is)
    (case k9 => k_is)
    (case a10 => k_is)
    (case l10 => k_is)
    (case c10 => k_is)
    (case k10 => k_is)
    (case a11 => k_is)
    (case l11 => k_is)
    (case c11 => k_is)
    (case k11 => k_is)
    (case a12 => k_is)
    (case l12 => k_is)
    (case c12 => k_is)
    (case k12 => k_is)
    (case a13 => k_is)
    (case l13 => k_is)
    (case c13 => k_is)
    (case k13 => k_is)
    (case a14 => k_is)
    (case l14 => k_is)
    (case c14 => k_is)
    (case k14 => k_is)
    (case a15 => k_is)
    (case l15 => k_is)
    (case c15 => k_is)
    (case k15 => k_is)
    (case a16 => k_is)
    (case l16 => k_is)
    (case c16 => k_is)
    (case k16 => k_is)
    (case a17 => k_is)
    (case l17 => k_is)
    (case c17 => k_is)
    (case k17 => k_is)
    (case a18 => k_is)
    (case l18 => k_is)
    (case c18 => k_is)
    (case k18 => k_is)
    (case a19 => k_is)
    (case l19 => k_is)
    (case c19 => k_is)
    (case k19 => k_is)
    (case a20 => k_is)
    (case l20 => k_is)
    (case c20 => k_is)
    (case k20 => k_is)
    (case a21 => k_is)
    (case l21 => k_is)
    (case c21 => k_is)
    (case k21 => k_is)
    (case a22 => k_is)
    (case l22 => k_is)
    (case c22 => k_is)
    (case k22 => k_is)
    (case a23 => k_is)
    (case l23 => k_is)
    (case c23 => k_is)
    (case k23 => k_is)
    (case a24 => k_is)
    (case l24 => k_is)
    (case c24 => k_is)
    (case k24 => k_is)
    (case a25 => k_is)
    (case l25 => k_is)
    (case c25 => k_is)
    (case k25 => k_is)
    (case a26 => k_is)
    (case l26 => k_is)
    (case c26 => k_is)
    (case k26 => k_is)
    (case a27 => k_is)
    (case l27 => k_is)
    (case c27 => k_is)
    (case k27 => k_is)
    (case z_abs => k_is)
    (case z_all => k_is)
    (case z_bool => k_is)
    (case z_enumerate => k_is)
    (case z_int => k_is)
    (case z_isinstance => k_is)
    (case z_len => k_is)
    (case z_list => k_is)
    (case z_max => k_is)
    (case z_range => k_is)
    (case z_repr => k_is)
    (case z_reversed => k_is)
    (case z_sum => k_is)
    (case z_tuple => k_is)
    (case z_zip => k_is)
    (case q_GREATEST_MODULUS => k_is)
    (case q_MOST_BITS => k_is)
    (case q_MOST_GATES => k_is)
    (case q_MOST_LAYERS => k_is)
    (case q_MOST_ROWS => k_is)
    (case q_LayeraskError => k_is)
    (case sup => k_is)
    (case opq => k_is)
    (case top => first | rfl | decide +kernel | kernel_rfl)
    (case hn => k_is)
    (case ht => k_is)
    (case gC_FieldError => k_is)
    (case xL_FieldError => k_is)
    (case rv_FieldError => first | rfl | decide +kernel)
    (case sa_FieldError => k_is)
    (case ga_FieldError => k_is)
    (case gg_FieldError => k_is)
    (case nb_FieldError => k_is)
    (case iC_FieldError => k_is)
    (case tI_FieldError => k_is)
    (case lI_FieldError => k_is)
    (case hl_FieldError => first | rfl | decide +kernel)
    (case cI_FieldError => k_is)
    (case lD_FieldError => k_is)
    (case v2_FieldError => rfl)
    (case hF_FieldError => first | rfl | decide +kernel | kernel_rfl)
    (case lC_FieldError => k_is)
    (case sf_FieldError => k_is)
    (case sI_FieldError => first | ks_is | k_is)
    (case sV_FieldError => k_is)
    (case kC_FieldError => k_is)
    (case eC_FieldError => k_is)
    (case tC_FieldError => k_is)
    (case hC_FieldError => k_is)
    (case sC_FieldError => first | rfl | k_is)
    (case hA_FieldError => k_is)
    (case hM_FieldError => k_is)
    (case sk_FieldError => exact ⟨rfl, rfl, rfl⟩)
    (case sn2_FieldError => decide +kernel)
    (case sl_FieldError => exact ⟨by decide +kernel, by decide +kernel, by decide +kernel, by decide +kernel⟩)
    (case gC_CircuitError => k_is)
    (case xL_CircuitError => k_is)
    (case rv_CircuitError => first | rfl | decide +kernel)
    (case sa_CircuitError => k_is)
    (case ga_CircuitError => k_is)
    (case gg_CircuitError => k_is)
    (case nb_CircuitError => k_is)
    (case iC_CircuitError => k_is)
    (case tI_CircuitError => k_is)
    (case lI_CircuitError => k_is)
    (case hl_CircuitError => first | rfl | decide +kernel)
    (case cI_CircuitError => k_is)
    (case lD_CircuitError => k_is)
    (case v2_CircuitError => rfl)
    (case hF_CircuitError => first | rfl | decide +kernel | kernel_rfl)
    (case lC_CircuitError => k_is)
    (case sf_CircuitError => k_is)
    (case sI_CircuitError => first | ks_is | k_is)
    (case sV_CircuitError => k_is)
    (case kC_CircuitError => k_is)
    (case eC_CircuitError => k_is)
    (case tC_CircuitError => k_is)
    (case hC_CircuitError => k_is)
    (case sC_CircuitError => first | rfl | k_is)
    (case hA_CircuitError => k_is)
    (case hM_CircuitError => k_is)
    (case sk_CircuitError => exact ⟨rfl, rfl, rfl⟩)
    (case sn2_CircuitError => decide +kernel)
    (case sl_CircuitError => exact ⟨by decide +kernel, by decide +kernel, by decide +kernel, by decide +kernel⟩)
    (case hm_CircuitError => decide +kernel)
    (case gC_SizeError => k_is)
    (case xL_SizeError => k_is)
    (case rv_SizeError => first | rfl | decide +kernel)
    (case sa_SizeError => k_is)
    (case ga_SizeError => k_is)
    (case gg_SizeError => k_is)
    (case nb_SizeError => k_is)
    (case iC_SizeError => k_is)
    (case tI_SizeError => k_is)
    (case lI_SizeError => k_is)
    (case hl_SizeError => first | rfl | decide +kernel)
    (case cI_SizeError => k_is)
    (case lD_SizeError => k_is)
    (case v2_SizeError => rfl)
    (case hF_SizeError => first | rfl | decide +kernel | kernel_rfl)
    (case lC_SizeError => k_is)
    (case sf_SizeError => k_is)
    (case sI_SizeError => first | ks_is | k_is)
    (case sV_SizeError => k_is)
    (case kC_SizeError => k_is)
    (case eC_SizeError => k_is)
    (case tC_SizeError => k_is)
    (case hC_SizeError => k_is)
    (case sC_SizeError => first | rfl | k_is)
    (case hA_SizeError => k_is)
    (case hM_SizeError => k_is)
    (case sk_SizeError => exact ⟨rfl, rfl, rfl⟩)
    (case sn2_SizeError => decide +kernel)
    (case sl_SizeError => exact ⟨by decide +kernel, by decide +kernel, by decide +kernel, by decide +kernel⟩)
    (case hm_SizeError => decide +kernel)
    (case kt_FieldError_LayeraskError => kit_is)
    (case kt_CircuitError_LayeraskError => kit_is)
    (case kt_SizeError_LayeraskError => kit_is)
    (case kt_CircuitError_CircuitError => kit_is)
    (case kt_SizeError_SizeError => kit_is)
    (case kt_FieldError_FieldError => kit_is)
    (case kt_SizeError_CircuitError => kit_is)
    (case kt_FieldError_CircuitError => kit_is)
    (case kt_FieldError_SizeError => kit_is)
    (case exm_FieldError_LayeraskError => refine PySem.W.exm_ref ?_ ?_ ?_ ?_ <;> k_is)
    (case exm_CircuitError_LayeraskError => refine PySem.W.exm_ref ?_ ?_ ?_ ?_ <;> k_is)
    (case exm_SizeError_LayeraskError => refine PySem.W.exm_ref ?_ ?_ ?_ ?_ <;> k_is)
    (case lC_are_numbers => k_is)
    (case wv_are_numbers => rfl)
    (case nl_are_numbers => first | k_is | rfl | kernel_rfl)
    (case rr_are_numbers => first | rfl | kernel_rfl)
    (case lC_has_form => k_is)
    (case wv_has_form => rfl)
    (case nl_has_form => first | k_is | rfl | kernel_rfl)
    (case rr_has_form => first | rfl | kernel_rfl)
    (case lC_check_limits => k_is)
    (case wv_check_limits => rfl)
    (case nl_check_limits => first | k_is | rfl | kernel_rfl)
    (case rr_check_limits => first | rfl | kernel_rfl)

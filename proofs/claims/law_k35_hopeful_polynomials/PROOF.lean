import PyProof.Rows.All
import Wide.All
import OpenK.AllK
import Wide.FinOn
import HandS.ForMost
import HandS.Zip
import HandS.Wide
import HandS.WideBits
import HandS.IsInst
import HandS.Walk
import HandS.Exc
import HandS.ExcInit
import HandS.ExcIs
import KE.KExcSuper
import KE.KExcIs
import HandS.WordsExc
import HandS.ExcOwn
import KE.RegKIsAll
import HandS.Conv
import PySem.Challenge.RW_layerask_k35_hopeful_polynomials
set_option Elab.async false
set_option linter.all false
set_option maxRecDepth 100000
set_option maxHeartbeats 4000000
namespace Lk
open PySem PySem.Spec PyProof.Rows L2
/-! ### readings, one step each -/
section
variable {K : PySem.W.Frag} {σ : L2.St} {H : Hp} {Q : VK} {v x y : V} {i j : Int} {te ta tb : TE} {tt tu : TT} {r : R2} {t : TA} {t1 t2 : TS} {g : TG} {nx bk ct : L2.St → Hp → Prop} {rt : VK}
theorem a_var {k : Nat} (h : σ[k]? = some (some v)) (q : Q v H) : tVar k σ H Q := ⟨v, h, q⟩
theorem a_c (q : Q v H) : tC v σ H Q := q
theorem a_op (q : ta σ H fun x H1 => tb σ H1 fun y H2 => r x y H2 Q) : tOp r ta tb σ H Q := q
theorem a_un {r : V → Hp → VK → Prop} (q : ta σ H fun x H1 => r x H1 Q) : tUn r ta σ H Q := q
theorem a_i0 {f : Int → Int → V} (q : Q (f i j) H) : rI0 f (.int i) (.int j) H Q := ⟨i, j, rfl, rfl, q⟩
theorem a_iC {C : Int → Int → Prop} {f : Int → Int → V} (hc : C i j) (q : Q (f i j) H) : rI C f (.int i) (.int j) H Q := ⟨i, j, rfl, rfl, hc, q⟩
theorem a_u {f : Int → V} (q : Q (f i) H) : rU f (.int i) H Q := ⟨i, rfl, q⟩
theorem dec_V {i j : Int} : decide (V.int i = V.int j) = decide (i = j) := by
  by_cases h : i = j
  · subst h; simp
  · rw [decide_eq_false h, decide_eq_false (fun e => h (V.int.inj e))]
theorem dec_S {a b : Str} : decide (V.str a = V.str b) = decide (a = b) := by
  by_cases h : a = b
  · subst h; simp
  · rw [decide_eq_false h, decide_eq_false (fun e => h (V.str.inj e))]
theorem dec_B {a b : Bool} : decide (V.bl a = V.bl b) = decide (a = b) := by
  by_cases h : a = b
  · subst h; simp
  · rw [decide_eq_false h, decide_eq_false (fun e => h (V.bl.inj e))]
theorem a_eqI (q : Q (.bl (decide (i = j))) H) : rEq (.int i) (.int j) H Q := ⟨rfl, by rw [dec_V]; exact q⟩
theorem a_neI (q : Q (.bl (!decide (i = j))) H) : rNe (.int i) (.int j) H Q := ⟨rfl, by rw [dec_V]; exact q⟩
theorem a_eqS {a b : Str} (q : Q (.bl (decide (a = b))) H) : rEq (.str a) (.str b) H Q := ⟨rfl, by rw [dec_S]; exact q⟩
theorem a_neS {a b : Str} (q : Q (.bl (!decide (a = b))) H) : rNe (.str a) (.str b) H Q := ⟨rfl, by rw [dec_S]; exact q⟩
theorem a_eqB {a b : Bool} (q : Q (.bl (decide (a = b))) H) : rEq (.bl a) (.bl b) H Q := ⟨rfl, by rw [dec_B]; exact q⟩
theorem a_neB {a b : Bool} (q : Q (.bl (!decide (a = b))) H) : rNe (.bl a) (.bl b) H Q := ⟨rfl, by rw [dec_B]; exact q⟩
theorem a_test {R : Bool → Hp → Prop} (q : te σ H fun x H' => ∃ k, x = .bl k ∧ R k H') : tTest te σ H R := q
theorem a_tB {R : Bool → Hp → Prop} (q : te σ H fun x H' => ∃ k, x = .bl k ∧ R k H') : tB te σ H R := q
theorem a_bl {P : Bool → Prop} {b : Bool} (q : P b) : ∃ k, V.bl b = V.bl k ∧ P k := ⟨b, rfl, q⟩
theorem a_and {R : Bool → Hp → Prop} (q : tt σ H fun c H1 => if c = true then tu σ H1 R else R false H1) : tAnd tt tu σ H R := q
theorem a_or {R : Bool → Hp → Prop} (q : tt σ H fun c H1 => if c = true then R true H1 else tu σ H1 R) : tOr tt tu σ H R := q
theorem a_not {R : Bool → Hp → Prop} (q : tt σ H fun c H1 => R (!c) H1) : tNot tt σ H R := q
theorem a_ifx (q : tt σ H fun c H1 => if c = true then ta σ H1 Q else tb σ H1 Q) : tIf tt ta tb σ H Q := q
theorem a_nil {R : List V → Hp → Prop} (q : R [] H) : tNil σ H R := q
theorem a_cons {R : List V → Hp → Prop} (q : te σ H fun x H1 => t σ H1 fun xs H2 => R (x :: xs) H2) : tCons te t σ H R := q
theorem a_call {sp : Sp} {dvs : List V} {E : XK} (q : t σ H fun vs H1 => sp (vs ++ dvs) H1 Q E) : tCall sp dvs E t σ H Q := q
theorem a_cb {r : List V → Hp → VK → Prop} (q : t σ H fun vs H1 => r vs H1 Q) : tCB r t σ H Q := q
theorem a_tup (q : t σ H fun xs H1 => xs.length ≤ sizeLine ∧ ∀ p, H1 p = none → Q (.ref p) (upd H1 p (.tup xs))) : tTup t σ H Q := q
theorem a_lst (q : t σ H fun xs H1 => xs.length ≤ sizeLine ∧ ∀ p, H1 p = none → Q (.ref p) (upd H1 p (.lst xs))) : tLst t σ H Q := q
theorem a_seq (q : t1 ⟨t2 ⟨nx, rt, bk, ct⟩, rt, bk, ct⟩ σ H) : tSeq t1 t2 ⟨nx, rt, bk, ct⟩ σ H := q
theorem a_next (q : nx σ H) : tNext ⟨nx, rt, bk, ct⟩ σ H := q
theorem a_asg (q : te σ H fun x H1 => g x σ H1 nx) : tAsg te g ⟨nx, rt, bk, ct⟩ σ H := q
theorem a_gname {k : Nat} {R : L2.St → Hp → Prop} (q : R (σ.set k (some v)) H) : gName k v σ H R := q
theorem a_gsub {to ti : TE} {s : TSet} {R : L2.St → Hp → Prop} (q : to σ H fun o H1 => ti σ H1 fun i H2 => s o i v H2 fun H3 => R σ H3) : gSub to ti s v σ H R := q
theorem a_gtup {a : Addr} {xs : List V} {n : Nat} {u : TGs} {R : L2.St → Hp → Prop} (h : H a = some (.tup xs)) (hn : xs.length = n) (q : u xs σ H R) : gTup K n u (.ref a) σ H R := ⟨a, xs, rfl, .inl (.inl h), hn, q⟩
theorem a_gcons {u : TGs} {xs : List V} {R : L2.St → Hp → Prop} (q : g v σ H fun σ' H' => u xs σ' H' R) : gCons g u (v :: xs) σ H R := ⟨v, xs, rfl, q⟩
theorem a_gnil {R : L2.St → Hp → Prop} (q : R σ H) : gNil [] σ H R := ⟨rfl, q⟩
theorem a_ret (q : te σ H rt) : tRet te ⟨nx, rt, bk, ct⟩ σ H := q
theorem a_retN (q : rt .non H) : tRetN ⟨nx, rt, bk, ct⟩ σ H := q
theorem a_drop (q : te σ H fun _ H1 => nx σ H1) : tDrop te ⟨nx, rt, bk, ct⟩ σ H := q
theorem a_ifS (q : tt σ H fun b H1 => if b = true then t1 ⟨nx, rt, bk, ct⟩ σ H1 else t2 ⟨nx, rt, bk, ct⟩ σ H1) : tIfS tt t1 t2 ⟨nx, rt, bk, ct⟩ σ H := q
theorem a_aug {k : Nat} {ti : TIp} (h : σ[k]? = some (some x)) (q : te σ H fun y H1 => ti x y H1 fun z H2 => nx (σ.set k (some z)) H2) : tAug k te ti ⟨nx, rt, bk, ct⟩ σ H := ⟨x, h, q⟩
theorem a_ip {f : Int → Int → Int} (q : Q (.int (f i j)) H) : ipI f (.int i) (.int j) H Q := ⟨i, j, rfl, rfl, q⟩
theorem a_for {wi : TI} (q : wi σ H fun J H1 => ∃ W : Nat → Nat → L2.St → Hp → Prop, (∃ m, W 0 m σ H1) ∧ ∀ i m σ H, W i m σ H →
  (J.stop i H ∧ nx σ H) ∨ (J.go i H ∧ ∃ N : L2.St → Hp → Prop, (∀ σ' H', N σ' H' → ∃ m', m' < m ∧ W (i + 1) m' σ' H') ∧ ∀ x H', J.yld i H x H' → g x σ H' fun σ2 H2 => t1 ⟨N, rt, nx, N⟩ σ2 H2)) : tFor wi g t1 ⟨nx, rt, bk, ct⟩ σ H := q
theorem a_while (W : Nat → L2.St → Hp → Prop) (m0 : Nat) (h0 : W m0 σ H) (q : ∀ m σ H, W m σ H → tt σ H fun b H1 => if b = true then ∃ N : L2.St → Hp → Prop, (∀ σ' H', N σ' H' → ∃ m', m' < m ∧ W m' σ' H') ∧ t1 ⟨N, rt, nx, N⟩ σ H1 else nx σ H1) :
    tWhile tt t1 ⟨nx, rt, bk, ct⟩ σ H := ⟨W, ⟨m0, h0⟩, q⟩
theorem a_rng1 {R : It → Hp → Prop} (q : t σ H fun vs H1 => ∃ j : Int, vs = [.int j] ∧ -(2 ^ 62) ≤ j ∧ j < 2 ^ 62 ∧ R (Itr 0 j.toNat) H1) : iRng1 t σ H R := q
theorem a_exrng {P : Int → Prop} (h1 : -(2 ^ 62) ≤ j) (h2 : j < 2 ^ 62) (q : P j) : ∃ j' : Int, [V.int j] = [V.int j'] ∧ -(2 ^ 62) ≤ j' ∧ j' < 2 ^ 62 ∧ P j' := ⟨j, rfl, h1, h2, q⟩
theorem a_iList {R : It → Hp → Prop} (q : te σ H fun x H1 => ∃ a, x = .ref a ∧ (∃ xs, SqL K H1 a xs) ∧ R (Itl K a) H1) : iList K te σ H R := q
theorem a_exl {a : Addr} {xs : List V} {R : Addr → Prop} (h : SqL K H a xs) (q : R a) : ∃ a', V.ref a = V.ref a' ∧ (∃ xs, SqL K H a' xs) ∧ R a' := ⟨a, rfl, ⟨xs, h⟩, q⟩
theorem a_zip {R : It → Hp → Prop} (q : t σ H fun vs H1 => ∃ a b xs ys, vs = [.ref a, .ref b] ∧ SqL K H1 a xs ∧ SqL K H1 b ys ∧ R (Itz K a b) H1) : iZip K t σ H R := q
theorem a_lc {wi : TI} {vs : List Nat} (q : wi σ H fun J H1 => ∀ D, H1 D = none → ∃ W : Nat → Nat → Hp → Prop, (∃ m, W 0 m (upd H1 D (.lst []))) ∧ ∀ i m H, W i m H →
  (J.stop i H ∧ Q (.ref D) H) ∨ (J.go i H ∧ ∃ Nx : Hp → Prop, (∀ H', Nx H' → ∃ m', m' < m ∧ W (i + 1) m' H') ∧ ∀ x H', J.yld i H x H' → g x (wipe σ vs) H' fun σ2 H2 => wipe σ2 vs = wipe σ vs ∧ tt σ2 H2 fun b H3 =>
    if b = true then te σ2 H3 fun y H4 => ∃ acc, H4 D = some (.lst acc) ∧ acc.length < sizeLine ∧ Nx (upd H4 D (.lst (acc ++ [y]))) else Nx H3)) : tLc wi g tt te vs σ H Q := q
theorem a_yes {R : Bool → Hp → Prop} (q : R true H) : tYes σ H R := q
theorem a_bm {T : String} {r : V → List V → Hp → VK → Prop} {to : TE} (q : to σ H fun x H1 => tyV K T x H1 ∧ t σ H1 fun xs H2 => r x xs H2 Q) : tBM K T r to t σ H Q := q
theorem a_tyL {a : Addr} {xs : List V} {R : Prop} (h : SqL K H a xs) (q : R) : tyV K "list" (.ref a) H ∧ R := ⟨.inl ⟨rfl, _, h⟩, q⟩
theorem a_append {a : Addr} {xs : List V} (h : H a = some (.lst xs)) (hl : xs.length < sizeLine) (q : Q .non (upd H a (.lst (xs ++ [y])))) : rAppend (.ref a) [y] H Q := ⟨a, xs, y, rfl, rfl, h, hl, q⟩
theorem a_popAt0 {a : Addr} {xs : List V} (h : H a = some (.lst (y :: xs))) (q : Q y (upd H a (.lst xs))) : rPopAt (.ref a) [.int 0] H Q := by
  refine ⟨a, y :: xs, 0, 0, y, rfl, rfl, h, by decide, by decide, ?_, rfl, q⟩
  exact (ixN_seq (n := (y :: xs).length) (i := 0) (j := 0) (by unfold ixN; rw [if_pos (by omega), if_pos (by rw [List.length_cons]; omega)]; rfl)).1
theorem a_setL {a : Addr} {xs : List V} {k : Nat} {R : Hp → Prop} (h : H a = some (.lst xs)) (hk : k < xs.length) (q : R (upd H a (.lst (xs.set k v)))) : rSetL (.ref a) (.int (k : Int)) v H R := by
  refine ⟨a, xs, k, k, rfl, rfl, h, ?_, q⟩
  unfold ixN
  rw [if_pos (by omega), if_pos (by omega)]
  simp
theorem a_ixL {a : Addr} {xs : List V} (h : SqL K H a xs) (e : atI xs i = some v) (q : Q v H) : rIxL K (.ref a) (.int i) H Q := ⟨a, xs, i, v, rfl, rfl, h, e, q⟩
theorem a_ixT {a : Addr} {xs : List V} (h : SqT K H a xs) (e : atI xs i = some v) (q : Q v H) : rIxT K (.ref a) (.int i) H Q := ⟨a, xs, i, v, rfl, rfl, h, e, q⟩
theorem a_cat {a b : Addr} {xs zs : List V} (ha : H a = some (.lst xs)) (hb : H b = some (.lst zs)) (hl : xs.length + zs.length ≤ sizeLine) (q : ∀ p, H p = none → Q (.ref p) (upd H p (.lst (xs ++ zs)))) : rCat (.ref a) (.ref b) H Q := ⟨a, b, xs, zs, rfl, rfl, ha, hb, hl, q⟩
theorem a_len {a : Addr} {xs : List V} {P : List V → Prop} (h : SqL K H a xs) (q : P xs) : ∃ p ys, [V.ref a] = [V.ref p] ∧ (SqL K H p ys ∨ SqT K H p ys) ∧ P ys := ⟨a, xs, rfl, .inl h, q⟩
theorem a_abs {P : Int → Prop} (q : P i) : ∃ j, [V.int i] = [V.int j] ∧ P j := ⟨i, rfl, q⟩
theorem a_int {P : Int → Prop} {R : Bool → Prop} (q : P i) : (∃ j, [V.int i] = [V.int j] ∧ P j) ∨ ∃ k, [V.int i] = [V.bl k] ∧ R k := .inl ⟨i, rfl, q⟩
end
/-! ### rules whose K is named -/
section
variable {X : Cx} {K : PySem.W.Frag}
theorem ixL_ (h : X.K = K) : IxR X (rIxL K) := by subst h; exact ix_list
theorem ixT_ (h : X.K = K) : IxR X (rIxT K) := by subst h; exact ix_tup
theorem slL_ (h : X.K = K) : SlR X (rSlL K) := by subst h; exact sl_list
theorem piL_ {tg l : Expr} {tl : TE} (h : X.K = K) (hl : PE X l tl) : PI X tg l (iList K tl) := by subst h; exact pi_list hl
theorem piZ_ {tg it : Expr} {ta : TA} (h : X.K = K) (hl : PI X tg it (iZip X.K ta)) : PI X tg it (iZip K ta) := by subst h; exact hl
theorem pgT_ {tg : Expr} {n : Nat} {t : TGs} (h : X.K = K) (hl : PG X tg (gTup X.K n t)) : PG X tg (gTup K n t) := by subst h; exact hl
theorem lenK_ (h : X.K = K) : CallR X (.builtin "len") (fun xs H Q => ∃ p ys, xs = [.ref p] ∧ (SqL K H p ys ∨ SqT K H p ys) ∧ Q (.int ys.length) H) := by subst h; exact call_len_seq
theorem bmK_ {e : Expr} {T : String} {r : V → List V → Hp → VK → Prop} {to : TE} {t : TA} (h : X.K = K) (hl : PE X e (tBM X.K T r to t)) : PE X e (tBM K T r to t) := by subst h; exact hl
end
theorem ifd {p : Prop} [Decidable p] {A B : Prop} (h1 : p → A) (h2 : ¬ p → B) : if decide p = true then A else B := by
  by_cases h : p
  · rw [if_pos (decide_eq_true h)]; exact h1 h
  · rw [if_neg (by rw [decide_eq_false h]; decide)]; exact h2 h
theorem ifnd {p : Prop} [Decidable p] {A B : Prop} (h1 : ¬ p → A) (h2 : p → B) : if (!decide p) = true then A else B := by
  by_cases h : p
  · rw [decide_eq_true h, if_neg (by decide)]; exact h2 h
  · rw [decide_eq_false h, if_pos (by decide)]; exact h1 h
theorem ift {A B : Prop} (h : A) : if true = true then A else B := by rw [if_pos rfl]; exact h
theorem iff' {A B : Prop} (h : B) : if false = true then A else B := by rw [if_neg (by decide)]; exact h
theorem ifb {b : Bool} {A B : Prop} (h1 : b = true → A) (h2 : b = false → B) : if b = true then A else B := by
  cases b
  · exact iff' (h2 rfl)
  · exact ift (h1 rfl)
theorem sql {K : PySem.W.Frag} {H : Hp} {a : Addr} {xs : List V} (h : H a = some (.lst xs)) : SqL K H a xs := .inl (.inl h)
theorem sqt {K : PySem.W.Frag} {H : Hp} {a : Addr} {xs : List V} (h : H a = some (.tup xs)) : SqT K H a xs := .inl (.inl h)
theorem sz {n : Nat} (h : n ≤ 1000000) : n ≤ sizeLine := by rw [sizeLine_eq]; omega
theorem szl {n : Nat} (h : n ≤ 1000000) : n < sizeLine := by rw [sizeLine_eq]; omega
theorem same_upd {H : Hp} {p : Addr} {o : HO} (h : H p = none) : Same H (upd H p o) := fun b x e => by
  rw [upd_ne (ne_of_none e h)]
  exact e
theorem atI_at {α : Type} {xs : List α} {i : Int} (h0 : 0 ≤ i) (h : i.toNat < xs.length) : atI xs i = some xs[i.toNat] := by
  have e := atI_nat (List.getElem?_eq_getElem h)
  have z : ((i.toNat : Nat) : Int) = i := Int.toNat_of_nonneg h0
  rw [z] at e
  exact e
/-! ### the steps -/
local macro_rules | `(tactic| walk_at "lk side") => `(tactic| first | assumption | (show _ ∧ _; omega) | (unfold CMul; omega) | (unfold CPow; omega) | omega | (refine sql ?_; assumption) | (refine sqt ?_; assumption))
end Lk

namespace Lk
open PySem PySem.Spec PyProof.Rows L2
/-! ### the state of the draws: two addresses; all else is kept -/
def StA (H : Hp) (st c : Addr) : Prop := ∃ (cs : List Int) (m : Int), H st = some (.lst [.ref c, .int m]) ∧ H c = some (.lst (cs.map V.int)) ∧ cs.length ≤ 63
def Gd (st c : Addr) (H H' : Hp) : Prop := ∀ a o, H a = some o → a ≠ st → a ≠ c → H' a = some o
theorem Gd.refl {st c : Addr} (H : Hp) : Gd st c H H := fun _ _ h _ _ => h
theorem Gd.trans {st c : Addr} {H H1 H2 : Hp} (a : Gd st c H H1) (b : Gd st c H1 H2) : Gd st c H H2 := fun x o h h1 h2 => b x o (a x o h h1 h2) h1 h2
theorem Gd.of {st c : Addr} {H H' : Hp} (h : Same H H') : Gd st c H H' := fun a o e _ _ => h a o e
theorem StA.same {st c : Addr} {H H' : Hp} (s : StA H st c) (h : Same H H') : StA H' st c := by
  obtain ⟨cs, m, h1, h2, h3⟩ := s
  exact ⟨cs, m, h _ _ h1, h _ _ h2, h3⟩
theorem StA.ne {st c : Addr} {H : Hp} (s : StA H st c) : st ≠ c := by
  obtain ⟨cs, m, h1, h2, _⟩ := s
  refine ne_of h1 h2 fun e => ?_
  have e1 : [V.ref c, V.int m] = cs.map V.int := HO.lst.inj e
  cases cs with
  | nil => simp at e1
  | cons x r => simp at e1
theorem StA.neS {st c a : Addr} {H : Hp} (s : StA H st c) (h : H a = none) : a ≠ st ∧ a ≠ c := by
  obtain ⟨cs, m, h1, h2, _⟩ := s
  exact ⟨fun e => by rw [e, h1] at h; simp at h, fun e => by rw [e, h2] at h; simp at h⟩
/-- a fact about another object -/
structure Ob (st c : Addr) (H : Hp) (a : Addr) (o : HO) : Prop where
  at_ : H a = some o
  ns : a ≠ st
  nc : a ≠ c
theorem Ob.go {st c a : Addr} {H H' : Hp} {o : HO} (h : Ob st c H a o) (g : Gd st c H H') : Ob st c H' a o := ⟨g a o h.at_ h.ns h.nc, h.ns, h.nc⟩
theorem Ob.same {st c a : Addr} {H H' : Hp} {o : HO} (h : Ob st c H a o) (g : Same H H') : Ob st c H' a o := h.go (Gd.of g)
theorem Ob.new {st c a : Addr} {H : Hp} {o : HO} (s : StA H st c) (h : H a = none) : Ob st c (upd H a o) a o := ⟨upd_same, (s.neS h).1, (s.neS h).2⟩
theorem Ob.mk' {st c a : Addr} {H H' : Hp} {o : HO} (s : StA H st c) (h : H a = none) (e : H' a = some o) : Ob st c H' a o := ⟨e, (s.neS h).1, (s.neS h).2⟩
theorem supd {H H' : Hp} {p : Addr} {o : HO} (s : Same H H') (h : H' p = none) : Same H (upd H' p o) := s.trans (same_upd h)
/-- an object that H does not know changes -/
theorem smut {H H' : Hp} {p : Addr} {o : HO} (s : Same H H') (h : H p = none) : Same H (L2.upd H' p o) := fun a u ha => by
  rw [upd_ne (ne_of_none ha h)]
  exact s a u ha
theorem Gd.mut {st c : Addr} {H H' : Hp} {p : Addr} {o : HO} (s : Gd st c H H') (h : H p = none) : Gd st c H (L2.upd H' p o) := fun a u ha h1 h2 => by
  rw [upd_ne (ne_of_none ha h)]
  exact s a u ha h1 h2
theorem StA.mut {st c : Addr} {H : Hp} {p : Addr} {o : HO} (s : StA H st c) (h1 : p ≠ st) (h2 : p ≠ c) : StA (L2.upd H p o) st c := by
  obtain ⟨cs, m, e1, e2, e3⟩ := s
  exact ⟨cs, m, by rw [upd_ne h1.symm]; exact e1, by rw [upd_ne h2.symm]; exact e2, e3⟩
/-! ### comprehensions -/
theorem take_app {α : Type} {ys : List α} {j : Nat} {y : α} (h : ys[j]? = some y) : ys.take j ++ [y] = ys.take (j + 1) := by
  rw [List.take_add_one, h]
  rfl
section
variable {K : PySem.W.Frag} {σ : L2.St} {H : Hp} {Q : VK} {te tl : TE} {tt : TT} {g : TG}
/-- over a list, nothing that H knows changes -/
theorem lc_same {a : Addr} {k : Nat} {xs ys : List V} (hx : SqL K H a xs) (hlen : ys.length = xs.length) (hz : ys.length ≤ 1000000)
    (he : ∀ (j : Nat) (x : V), xs[j]? = some x → ∀ H' (R : VK), Same H H' → (∀ y H'', Same H' H'' → ys[j]? = some y → R y H'') → te ((wipe σ [k]).set k (some x)) H' R)
    (q : ∀ D H', H D = none → Same H H' → H' D = some (.lst ys) → Q (.ref D) H') :
    ∀ D, H D = none → ∃ W : Nat → Nat → Hp → Prop, (∃ m, W 0 m (upd H D (.lst []))) ∧ ∀ i m H, W i m H →
      ((Itl K a).stop i H ∧ Q (.ref D) H) ∨ ((Itl K a).go i H ∧ ∃ Nx : Hp → Prop, (∀ H', Nx H' → ∃ m', m' < m ∧ W (i + 1) m' H') ∧ ∀ x H', (Itl K a).yld i H x H' → gName k x (wipe σ [k]) H' fun σ2 H2 => wipe σ2 [k] = wipe σ [k] ∧ tYes σ2 H2 fun b H3 =>
        if b = true then te σ2 H3 fun y H4 => ∃ acc, H4 D = some (.lst acc) ∧ acc.length < sizeLine ∧ Nx (upd H4 D (.lst (acc ++ [y]))) else Nx H3) := by
  intro D hD
  refine lc_list (K := K) (a := a) (xs := xs) (Qd := Q (.ref D)) (fun i H' => Same H H' ∧ H' D = some (.lst (ys.take i))) ⟨same_upd hD, upd_same⟩ (fun i H' _ h => h.1.seq hx) ?_ ?_
  · rintro i x H' hi ⟨s, e⟩
    refine a_gname ?_
    refine ⟨by simp [wipe], a_yes (ift ?_)⟩
    refine he i x hi H' _ s fun y H'' s2 ey => ?_
    refine ⟨_, s2 _ _ e, ?_, smut (s.trans s2) hD, ?_⟩
    · refine szl ?_
      rw [List.length_take]
      omega
    · rw [upd_same, take_app ey]
  · rintro H' ⟨s, e⟩
    refine q D H' hD s ?_
    rw [e, ← hlen, List.take_length]
/-- over a range, nothing that H knows changes -/
theorem lr_same {k n : Nat} {ys : List V} (hlen : ys.length = n) (hz : ys.length ≤ 1000000)
    (he : ∀ j : Nat, j < n → ∀ H' (R : VK), Same H H' → (∀ y H'', Same H' H'' → ys[j]? = some y → R y H'') → te ((wipe σ [k]).set k (some (.int (j : Int)))) H' R)
    (q : ∀ D H', H D = none → Same H H' → H' D = some (.lst ys) → Q (.ref D) H') :
    ∀ D, H D = none → ∃ W : Nat → Nat → Hp → Prop, (∃ m, W 0 m (upd H D (.lst []))) ∧ ∀ i m H, W i m H →
      ((Itr 0 n).stop i H ∧ Q (.ref D) H) ∨ ((Itr 0 n).go i H ∧ ∃ Nx : Hp → Prop, (∀ H', Nx H' → ∃ m', m' < m ∧ W (i + 1) m' H') ∧ ∀ x H', (Itr 0 n).yld i H x H' → gName k x (wipe σ [k]) H' fun σ2 H2 => wipe σ2 [k] = wipe σ [k] ∧ tYes σ2 H2 fun b H3 =>
        if b = true then te σ2 H3 fun y H4 => ∃ acc, H4 D = some (.lst acc) ∧ acc.length < sizeLine ∧ Nx (upd H4 D (.lst (acc ++ [y]))) else Nx H3) := by
  intro D hD
  refine lc_range (lo := 0) (n := n) (Qd := Q (.ref D)) (fun i H' => Same H H' ∧ H' D = some (.lst (ys.take i))) ⟨same_upd hD, upd_same⟩ ?_ ?_
  · rintro i H' hi ⟨s, e⟩
    refine a_gname ?_
    refine ⟨by simp [wipe], a_yes (ift ?_)⟩
    rw [Int.zero_add]
    refine he i hi H' _ s fun y H'' s2 ey => ?_
    refine ⟨_, s2 _ _ e, ?_, smut (s.trans s2) hD, ?_⟩
    · refine szl ?_
      rw [List.length_take]
      omega
    · rw [upd_same, take_app ey]
  · rintro H' ⟨s, e⟩
    refine q D H' hD s ?_
    rw [e, ← hlen, List.take_length]
/-- over a range, the element draws -/
theorem lr_draw {st c : Addr} {k n : Nat} {P : V → Prop} (hz : n ≤ 1000000) (s0 : StA H st c)
    (he : ∀ j : Nat, j < n → ∀ H' (R : VK), StA H' st c → Gd st c H H' → (∀ y H'', P y → StA H'' st c → Gd st c H' H'' → R y H'') → te ((wipe σ [k]).set k (some (.int (j : Int)))) H' R)
    (q : ∀ D H' ys, H D = none → StA H' st c → Gd st c H H' → ys.length = n → (∀ y ∈ ys, P y) → Ob st c H' D (.lst ys) → Q (.ref D) H') :
    ∀ D, H D = none → ∃ W : Nat → Nat → Hp → Prop, (∃ m, W 0 m (upd H D (.lst []))) ∧ ∀ i m H, W i m H →
      ((Itr 0 n).stop i H ∧ Q (.ref D) H) ∨ ((Itr 0 n).go i H ∧ ∃ Nx : Hp → Prop, (∀ H', Nx H' → ∃ m', m' < m ∧ W (i + 1) m' H') ∧ ∀ x H', (Itr 0 n).yld i H x H' → gName k x (wipe σ [k]) H' fun σ2 H2 => wipe σ2 [k] = wipe σ [k] ∧ tYes σ2 H2 fun b H3 =>
        if b = true then te σ2 H3 fun y H4 => ∃ acc, H4 D = some (.lst acc) ∧ acc.length < sizeLine ∧ Nx (upd H4 D (.lst (acc ++ [y]))) else Nx H3) := by
  intro D hD
  have nD := s0.neS hD
  refine lc_range (lo := 0) (n := n) (Qd := Q (.ref D)) (fun i H' => StA H' st c ∧ Gd st c H H' ∧ ∃ ys : List V, ys.length = i ∧ i ≤ n ∧ (∀ y ∈ ys, P y) ∧ H' D = some (.lst ys))
    ⟨s0.mut nD.1 nD.2, (Gd.refl H).mut hD, [], rfl, Nat.zero_le _, (fun y hy => by simp at hy), upd_same⟩ ?_ ?_
  · rintro i H' hi ⟨s, gd, ys, e1, e2, e3, e4⟩
    refine a_gname ?_
    refine ⟨by simp [wipe], a_yes (ift ?_)⟩
    rw [Int.zero_add]
    refine he i hi H' _ s gd fun y H'' py s2 g2 => ?_
    refine ⟨_, g2 _ _ e4 nD.1 nD.2, szl (by omega), s2.mut nD.1 nD.2, (gd.trans g2).mut hD, ys ++ [y], by rw [List.length_append, e1]; rfl, by omega, fun z hz => ?_, upd_same⟩
    rcases List.mem_append.mp hz with h | h
    · exact e3 z h
    · have := List.mem_singleton.mp h
      rw [this]; exact py
  · rintro H' ⟨s, gd, ys, e1, e2, e3, e4⟩
    exact q D H' ys hD s gd e1 e3 ⟨e4, nD.1, nD.2⟩
end
/-! ### loops, their ends by parts -/
section
variable {K : PySem.W.Frag} {g : TG} {tb : TS} {σ : L2.St} {H : Hp} {nx : L2.St → Hp → Prop} {rt : VK}
theorem fo_list {a : Addr} {xs : List V} (Pv : Nat → L2.St → Hp → Prop) (h0 : Pv 0 σ H) (hl : ∀ i σ H, i ≤ xs.length → Pv i σ H → SqL K H a xs)
    (hs : ∀ i x σ H, xs[i]? = some x → Pv i σ H → g x σ H fun σ2 H2 => tb ⟨Pv (i + 1), rt, nx, Pv (i + 1)⟩ σ2 H2) (hd : ∀ σ H, Pv xs.length σ H → nx σ H) :
    ∃ W : Nat → Nat → L2.St → Hp → Prop, (∃ m, W 0 m σ H) ∧ ∀ i m σ H, W i m σ H →
      ((Itl K a).stop i H ∧ nx σ H) ∨ ((Itl K a).go i H ∧ ∃ N : L2.St → Hp → Prop, (∀ σ' H', N σ' H' → ∃ m', m' < m ∧ W (i + 1) m' σ' H') ∧ ∀ x H', (Itl K a).yld i H x H' → g x σ H' fun σ2 H2 => tb ⟨N, rt, nx, N⟩ σ2 H2) :=
  for_list (D := ⟨nx, rt, fun _ _ => False, fun _ _ => False⟩) Pv h0 hl hs hd
theorem fo_range {n : Nat} (Pv : Nat → L2.St → Hp → Prop) (h0 : Pv 0 σ H)
    (hs : ∀ i σ H, i < n → Pv i σ H → g (.int (i : Int)) σ H fun σ2 H2 => tb ⟨Pv (i + 1), rt, nx, Pv (i + 1)⟩ σ2 H2) (hd : ∀ σ H, Pv n σ H → nx σ H) :
    ∃ W : Nat → Nat → L2.St → Hp → Prop, (∃ m, W 0 m σ H) ∧ ∀ i m σ H, W i m σ H →
      ((Itr 0 n).stop i H ∧ nx σ H) ∨ ((Itr 0 n).go i H ∧ ∃ N : L2.St → Hp → Prop, (∀ σ' H', N σ' H' → ∃ m', m' < m ∧ W (i + 1) m' σ' H') ∧ ∀ x H', (Itr 0 n).yld i H x H' → g x σ H' fun σ2 H2 => tb ⟨N, rt, nx, N⟩ σ2 H2) :=
  for_range (lo := 0) (D := ⟨nx, rt, fun _ _ => False, fun _ _ => False⟩) Pv h0 (fun i σ H hi p => by rw [Int.zero_add]; exact hs i σ H hi p) hd
theorem fo_zip {a b : Addr} {xs ys : List V} (hl : xs.length = ys.length) (Pv : Nat → L2.St → Hp → Prop) (h0 : Pv 0 σ H) (hq : ∀ i σ H, Pv i σ H → SqL K H a xs ∧ SqL K H b ys)
    (hs : ∀ (i : Nat) (x y : V) (T : Addr) (σ : L2.St) (H : Hp), xs[i]? = some x → ys[i]? = some y → Pv i σ H → H T = none → g (.ref T) σ (upd H T (.tup [x, y])) fun σ2 H2 => tb ⟨Pv (i + 1), rt, nx, Pv (i + 1)⟩ σ2 H2) (hd : ∀ σ H, Pv xs.length σ H → nx σ H) :
    ∃ W : Nat → Nat → L2.St → Hp → Prop, (∃ m, W 0 m σ H) ∧ ∀ i m σ H, W i m σ H →
      ((Itz K a b).stop i H ∧ nx σ H) ∨ ((Itz K a b).go i H ∧ ∃ N : L2.St → Hp → Prop, (∀ σ' H', N σ' H' → ∃ m', m' < m ∧ W (i + 1) m' σ' H') ∧ ∀ v H', (Itz K a b).yld i H v H' → g v σ H' fun σ2 H2 => tb ⟨N, rt, nx, N⟩ σ2 H2) :=
  RZ.for_zipL (D := ⟨nx, rt, fun _ _ => False, fun _ _ => False⟩) hl Pv h0 hq hs hd
end
theorem getV {xs : List Int} {i : Nat} {x : V} (h : (xs.map V.int)[i]? = some x) : ∃ n, xs[i]? = some n ∧ x = .int n := by
  rw [List.getElem?_map] at h
  cases e : xs[i]? with
  | none => rw [e] at h; cases h
  | some n => rw [e] at h; exact ⟨n, rfl, (Option.some.inj h).symm⟩
theorem a_exz {K : PySem.W.Frag} {H : Hp} {a b : Addr} {xs ys : List V} {R : Addr → Addr → Prop} (h1 : SqL K H a xs) (h2 : SqL K H b ys) (q : R a b) : ∃ a' b' xs ys, [V.ref a, V.ref b] = [V.ref a', V.ref b'] ∧ SqL K H a' xs ∧ SqL K H b' ys ∧ R a' b' := ⟨a, b, xs, ys, rfl, h1, h2, q⟩
/-! ### a comprehension as a whole -/
section
variable {K : PySem.W.Frag} {σ : L2.St} {H : Hp} {Q : VK} {te tl : TE} {ta : TA} {vs : List Nat}
theorem c_same {a : Addr} {k : Nat} {xs : List V} (ys : List V) (hv : vs = [k]) (ht : ∀ R : VK, R (.ref a) H → tl σ H R) (hx : SqL K H a xs) (hlen : ys.length = xs.length) (hz : ys.length ≤ 1000000)
    (he : ∀ (j : Nat) (x : V), xs[j]? = some x → ∀ H' (R : VK), Same H H' → (∀ y H'', Same H' H'' → ys[j]? = some y → R y H'') → te ((wipe σ [k]).set k (some x)) H' R)
    (q : ∀ D H', H D = none → Same H H' → H' D = some (.lst ys) → Q (.ref D) H') : tLc (iList K tl) (gName k) tYes te vs σ H Q := by
  subst hv
  refine ht (fun x H1 => ∃ a, x = .ref a ∧ (∃ xs, SqL K H1 a xs) ∧ _) ⟨a, rfl, ⟨xs, hx⟩, ?_⟩
  exact lc_same hx hlen hz he q
theorem c_rng {k n : Nat} (ys : List V) (hv : vs = [k]) (hn : n ≤ 1000000) (ht : ∀ R : List V → Hp → Prop, R [.int (n : Int)] H → ta σ H R) (hlen : ys.length = n)
    (he : ∀ j : Nat, j < n → ∀ H' (R : VK), Same H H' → (∀ y H'', Same H' H'' → ys[j]? = some y → R y H'') → te ((wipe σ [k]).set k (some (.int (j : Int)))) H' R)
    (q : ∀ D H', H D = none → Same H H' → H' D = some (.lst ys) → Q (.ref D) H') : tLc (iRng1 ta) (gName k) tYes te vs σ H Q := by
  subst hv
  refine ht (fun vs H1 => ∃ j : Int, vs = [.int j] ∧ -(2 ^ 62) ≤ j ∧ j < 2 ^ 62 ∧ _) ⟨(n : Int), rfl, by omega, by omega, ?_⟩
  rw [Int.toNat_natCast]
  exact lr_same hlen (by omega) he q
theorem c_draw {st c : Addr} {k n : Nat} (P : V → Prop) (hv : vs = [k]) (hn : n ≤ 1000000) (ht : ∀ R : List V → Hp → Prop, R [.int (n : Int)] H → ta σ H R) (s0 : StA H st c)
    (he : ∀ j : Nat, j < n → ∀ H' (R : VK), StA H' st c → Gd st c H H' → (∀ y H'', P y → StA H'' st c → Gd st c H' H'' → R y H'') → te ((wipe σ [k]).set k (some (.int (j : Int)))) H' R)
    (q : ∀ D H' ys, H D = none → StA H' st c → Gd st c H H' → ys.length = n → (∀ y ∈ ys, P y) → Ob st c H' D (.lst ys) → Q (.ref D) H') : tLc (iRng1 ta) (gName k) tYes te vs σ H Q := by
  subst hv
  refine ht (fun vs H1 => ∃ j : Int, vs = [.int j] ∧ -(2 ^ 62) ≤ j ∧ j < 2 ^ 62 ∧ _) ⟨(n : Int), rfl, by omega, by omega, ?_⟩
  rw [Int.toNat_natCast]
  exact lr_draw hn s0 he q
end
/-! ### more readings -/
theorem cdw {i j : Int} (h0 : 0 < j) (h1 : j < 9223372036854775808) : CDivW i j := by
  refine ⟨h0, ?_⟩
  have hn : j.natAbs ≠ 0 := by omega
  have h2 : j.natAbs < 2 ^ 63 := by
    have : (2 : Nat) ^ 63 = 9223372036854775808 := by decide
    omega
  have := (Nat.log2_lt hn).mpr h2
  omega
def In (lo hi : Int) (l : List Int) : Prop := ∀ e ∈ l, lo ≤ e ∧ e < hi
theorem in_getD {lo hi x : Int} {l : List Int} (h : In lo hi l) (h0 : 0 ≤ x) (h1 : x < (l.length : Int)) : lo ≤ l.getD x.toNat 0 ∧ l.getD x.toNat 0 < hi := by
  have hx : x.toNat < l.length := by omega
  rw [List.getD_eq_getElem?_getD, List.getElem?_eq_getElem hx]
  exact h _ (List.getElem_mem hx)
theorem at0 {α : Type} {y : α} {xs : List α} : atI (y :: xs) 0 = some y := atI_nat (j := 0) rfl
theorem at_int {l : List Int} {x : Int} (h0 : 0 ≤ x) (h1 : x < (l.length : Int)) : atI (l.map V.int) x = some (.int (l.getD x.toNat 0)) := by
  have hx : x.toNat < l.length := by omega
  have e := atI_nat (xs := l.map V.int) (j := x.toNat) (v := .int (l.getD x.toNat 0)) (by
    rw [List.getElem?_map, List.getElem?_eq_getElem hx, List.getD_eq_getElem?_getD, List.getElem?_eq_getElem hx]
    rfl)
  have z : ((x.toNat : Nat) : Int) = x := Int.toNat_of_nonneg h0
  rw [z] at e
  exact e
section
variable {σ : L2.St} {H : Hp} {v y : V} {tt : TT} {t1 : TS} {nx bk ct : L2.St → Hp → Prop} {rt : VK}
theorem a_setL0 {a : Addr} {xs : List V} {R : Hp → Prop} (h : H a = some (.lst (y :: xs))) (q : R (upd H a (.lst (v :: xs)))) : rSetL (.ref a) (.int 0) v H R :=
  a_setL (k := 0) h (by rw [List.length_cons]; omega) q
theorem a_setL1 {a : Addr} {z : V} {xs : List V} {R : Hp → Prop} (h : H a = some (.lst (z :: y :: xs))) (q : R (upd H a (.lst (z :: v :: xs)))) : rSetL (.ref a) (.int 1) v H R :=
  a_setL (k := 1) h (by rw [List.length_cons, List.length_cons]; omega) q
theorem a_while2 (A : L2.St → Hp → Prop) (post : ∀ σ H, A σ H → nx σ H) (W : Nat → L2.St → Hp → Prop) (m0 : Nat) (h0 : W m0 σ H)
    (q : ∀ nx' : L2.St → Hp → Prop, (∀ σ H, A σ H → nx' σ H) → ∀ m σ H, W m σ H → tt σ H fun b H1 => if b = true then ∃ N : L2.St → Hp → Prop, (∀ σ' H', N σ' H' → ∃ m', m' < m ∧ W m' σ' H') ∧ t1 ⟨N, rt, nx', N⟩ σ H1 else nx' σ H1) :
    tWhile tt t1 ⟨nx, rt, bk, ct⟩ σ H := ⟨W, ⟨m0, h0⟩, q nx post⟩
end
end Lk

namespace Lk
open PySem PySem.Spec PyProof.Rows L2
/-! ### the law's own def, where it is known that no repr is under way around it -/
def FreeA (A : Around) : Prop := A.guards = some []
/-- what a call promises at one surrounding -/
def RunsAt (P : Program) (w : World) (K : PySem.W.Frag) (mg : Str → Option Value) (base : Heap) (CX : CXT) (k : Nat) (f : Addr) (fd : FuncData) (ps : List Str) (sp : Sp) : Prop :=
  ∀ (A : Around) (outer : List Env) (s : Shared) (H : Hp) (args : Args) (us : List Value) (vs : List V) (Q : VK) (E : XK), FreeA A → Room k A → Env0 P w K mg base A outer s H → BindsTo s fd args (ps.zip us) → Vals vs us → sp vs H Q E →
    codeAny (model P w) A (.call (.ref f) args) (CR CX outer P w H s Q E) s
theorem runs_of {P : Program} {w : World} {K : PySem.W.Frag} {mg : Str → Option Value} {base : Heap} {CX : CXT} {k : Nat} {f : Addr} {x qual : Str} {st : Stmt} {fd : FuncData} {N ps : List Str} {sp : Sp} (F : Fun K x qual st f fd) (S : FnScope N ps (defScope st))
    (len : ∀ vs H Q E, sp vs H Q E → vs.length = ps.length)
    (body : ∀ (cdv : Value) (A : Around) (outer : List Env) (s : Shared) (H : Hp) (vs : List V) (Q : VK) (E : XK), FreeA A → Room k (A.deeper (envOfC qual (defScope st) s.heap.objs.size f cdv)) → sp vs H Q E →
      ∃ t, PSs (cxOf CX P w K mg base N qual (defScope st) f cdv A outer s H E).nox (defBody st) t ∧ t { nx := fun _ H' => Q .non H', rt := Q } (start N vs) H) : RunsAt P w K mg base CX (k + 1) f fd ps sp := by
  obtain ⟨oc, od, kV, doc, pm, an, cdv, ct, osl, efd, lk, hcode⟩ := F.ex
  subst efd
  intro A outer s H args us vs Q E fa room env bind rel want
  have nargs := len _ _ _ _ want
  have kin : K.In s.heap := env.mod.kin.keeps fun b o e => (env.bs b o e).1
  have nol : s.heap.NoLimit := env.mod.nolimit.keeps fun b o e => (env.bs b o e).1
  have cells : ∀ y ∈ ps.zip us, (defScope st).names.lookup y.1 = some .local ∨ ((defScope st).names.lookup y.1 = some .cell ∧ ((cellsFrom (s.heap.objs.size + 1) (defScope st).names []).lookup y.1).isSome = true) := by
    rintro ⟨n, v⟩ hy
    refine (S.par n (List.of_mem_zip hy).1).imp id fun q => ?_
    exact ⟨q, PySem.W.cellsFrom_some _ _ _ (.inl q)⟩
  refine codeAny_call_function room.depth (kin _ _ lk) rfl S.co S.gen rfl (PySem.W.codeRec_of kin hcode) (bind _ _ _ _ ?_)
  refine wpAny_newFunctionEnv_cells S.kind cells ?_
  intro e1 h1 s1 h2
  subst h1
  refine ⟨nol.keeps h2.toInCall.keep, codeAny_func ?_⟩
  obtain ⟨t, ht, want'⟩ := body cdv A outer s H vs Q E fa (room.deeper _) want
  have J := inv_start (CX := CX) (P := P) (w := w) (E := E) (cd := cdv) (qual := qual) (f := f) S room.hd env nargs rel h2
  refine wpAny_mono (ht.nox.run [] s1 (start N vs) H _ J want') ?_ fun _ _ z => z
  intro fl s' hs
  cases fl with
  | ret u =>
    obtain ⟨v, σ', H', J', rv, q⟩ := hs
    exact ⟨v, H', J'.os, J'.bare, J'.base, J'.hok, rv, q⟩
  | next =>
    obtain ⟨σ', H', J', q⟩ := hs
    exact ⟨V.non, H', J'.os, J'.bare, J'.base, J'.hok, rfl, q⟩
  | brk => exact hs.elim fun _ h => h.elim fun _ h => h.2.elim
  | cont => exact hs.elim fun _ h => h.elim fun _ h => h.2.elim
/-! ### the head for such a law -/
section
variable {P : Program} {w : World} {K : PySem.W.Frag} {mg mb : Str → Option Value} {CX : CXT} {k : Nat} {fa a : Addr} {fd : FuncData} {x : Str} {sp : Sp} {s₁ : Shared} {vs : List Value} {ns : List Int}
abbrev lawEnd (s₁ : Shared) : Result → Shared → Prop := fun r s' => r = .ok (.ret (.bool true)) ∧ OldK s₁.heap s'.heap ∧ s'.os = s₁.os ∧ AllBare s'.gens
/-- from an abstract heap in which at most the script stands -/
theorem law_from (KX : K.In s₁.heap) (hns : s₁.heap.Ns mainGlobals mg) (hb : s₁.heap.Ns builtinsNs mb) (hbb : ∀ x : Str, x ≠ "__name__" → mb x = bootBuiltins x) (hlim : s₁.heap.NoLimit) (hg : s₁.gens = #[])
    (ha : s₁.heap.get? a = some { cls := .type "list", data := .seq vs.toArray }) (room : Room k callerA)
    (F : ∀ base : Heap, K.In base → base.Ns mainGlobals mg → RunsAt P w K mg base CX k fa fd [x] sp) (hbind : ∀ (s : Shared) (u : Value), BindsTo s fd ⟨[u], []⟩ [(x, u)])
    (H : Hp) (hO : Only H) (hok : HOk P w H s₁.heap) (hA : ∀ b, H b ≠ none → b = a) (hK : H a ≠ none → K.lookup a = none) (want : sp [.ref a] H (fun v _ => v = .bl true) fun _ _ _ => False)
    (hCX : ∀ e s', CX [] H s₁ (fun _ _ _ => False) e s' → False) : codeAny (model P w) callerA (.call (.ref fa) ⟨[.ref a], []⟩) (lawEnd s₁) s₁ := by
  have only : ∀ {b : Addr}, b ≠ a → H b = none := fun {b} hb => by
    cases q : H b with
    | none => rfl
    | some u => exact absurd (hA b (by rw [q]; exact nofun)) hb
  have dicts : ∀ {b : Addr} {o : Obj} {es : Array DictEntry} {ep : Nat}, s₁.heap.get? b = some o → o.data = .dict es ep → H b = none := by
    intro b o es ep e d
    by_cases hb : b = a
    · subst hb
      obtain rfl := Option.some.inj (ha.symm.trans e)
      exact nomatch d
    · exact only hb
  have spaces : ∀ {b : Addr} {m : Str → Option Value}, s₁.heap.Ns b m → (hidT s₁.heap H).Ns b m := by
    rintro b m ⟨o, es, ep, e, d, r⟩
    exact ⟨o, es, ep, hidT_get e (dicts e d), d, r⟩
  have kin : K.In (hidT s₁.heap H) := by
    intro b o e
    refine hidT_get (KX b o e) ?_
    by_cases hb : b = a
    · subst hb
      cases q : H b with
      | none => rfl
      | some u =>
        have z := hK (by rw [q]; exact nofun)
        rw [e] at z
        exact nomatch z
    · exact only hb
  obtain ⟨mc, l1, l2⟩ := hlim
  have env : Env0 P w K mg (hidT s₁.heap H) callerA [] s₁ H :=
    ⟨rfl, ⟨kin, spaces hns, ⟨mb, spaces hb, hbb⟩, ⟨mc, spaces l1, l2⟩⟩, fun b o e => of_hidT e, Nat.le_of_eq (hidT_size _ _), trivial, fun b z => absurd (show b ∈ ([] : List Addr) from z) (by simp), hok, .of_eq hg⟩
  refine codeAny_mono (F _ kin (spaces hns) callerA [] s₁ H ⟨[.ref a], []⟩ [.ref a] [.ref a] _ _ rfl room env (hbind s₁ (.ref a)) (.cons rfl .nil) want) ?_
  intro r s' h
  cases r with
  | error e => exact (hCX e s' h).elim
  | ok fl =>
    cases fl with
    | ret u =>
      obtain ⟨v, H', os, bare, un, hok', rv, rfl⟩ := h
      obtain rfl : u = Value.bool true := rv
      refine ⟨rfl, OldK.of_keep ?_, os, bare⟩
      intro b o e
      rcases hO b with z | ⟨ob, xs, z⟩
      · exact un.keep b o e z (fun q => absurd (show b ∈ ([] : List Addr) from q) (by simp)) (by simp)
      · obtain ⟨e1, _⟩ := hok b _ z
        obtain ⟨e2, _⟩ := hok' b _ (un.frzs b ob _ z)
        obtain rfl := Option.some.inj (e1.symm.trans e)
        exact e2
    | next => exact False.elim h
    | brk => exact False.elim h
    | cont => exact False.elim h
theorem ints_vals : ∀ {vs : List Value} {ns : List Int}, IntsAre vs ns → Vals (ns.map V.int) vs
  | _, _, .nil => .nil
  | _, _, .cons n t h => .cons ⟨t, rfl⟩ (ints_vals h)
theorem law_runs (KX : K.In s₁.heap) (hns : s₁.heap.Ns mainGlobals mg) (hb : s₁.heap.Ns builtinsNs mb) (hbb : ∀ x : Str, x ≠ "__name__" → mb x = bootBuiltins x) (hlim : s₁.heap.NoLimit) (hg : s₁.gens = #[])
    (ha : s₁.heap.get? a = some { cls := .type "list", data := .seq vs.toArray }) (hi : IntsAre vs ns) (hl : ns.length ≤ sizeLine) (room : Room k callerA)
    (F : ∀ base : Heap, K.In base → base.Ns mainGlobals mg → RunsAt P w K mg base CX k fa fd [x] sp) (hbind : ∀ (s : Shared) (u : Value), BindsTo s fd ⟨[u], []⟩ [(x, u)])
    (hsp : ∀ H : Hp, Only H → SqL K H a (ns.map V.int) → sp [.ref a] H (fun v _ => v = .bl true) fun _ _ _ => False)
    (hCX : ∀ H e s', CX [] H s₁ (fun _ _ _ => False) e s' → False) : codeAny (model P w) callerA (.call (.ref fa) ⟨[.ref a], []⟩) (lawEnd s₁) s₁ := by
  have rel := ints_vals hi
  have nlen := hi.length
  by_cases hk : K.lookup a = none
  · have hS : SqL K (fun b => if b = a then some (.frz { cls := .type "list", data := .seq vs.toArray } (.lst (ns.map V.int))) else none) a (ns.map V.int) := .inl (.inr ⟨_, if_pos rfl⟩)
    have hO : Only (fun b => if b = a then some (.frz { cls := .type "list", data := .seq vs.toArray } (.lst (ns.map V.int))) else none) := by
      intro b
      by_cases hb : b = a
      · exact .inr ⟨_, _, if_pos hb⟩
      · exact .inl (if_neg hb)
    refine law_from KX hns hb hbb hlim hg ha room F hbind _ hO ?_ ?_ (fun _ => hk) (hsp _ hO hS) (hCX _)
    · intro b u z
      by_cases hb : b = a
      · subst hb
        obtain rfl := Option.some.inj ((if_pos rfl).symm.trans z)
        exact ⟨ha, by rw [List.length_map]; exact hl, vs, _, rel, ha⟩
      · exact nomatch (if_neg hb).symm.trans z
    · intro b z
      by_cases hb : b = a
      · exact hb
      · exact absurd (if_neg hb) z
  · obtain ⟨o, ho⟩ := Option.ne_none_iff_exists'.mp hk
    obtain rfl := Option.some.inj (ha.symm.trans (KX a o ho))
    have hS : SqL K (fun _ => none) a (ns.map V.int) := .inr ⟨_, vs.toArray, _, ho, rfl, rfl, rfl, by rw [List.size_toArray, nlen]; exact hl, by simpa using rel⟩
    have hO : Only (fun _ => none) := fun _ => .inl rfl
    exact law_from KX hns hb hbb hlim hg ha room F hbind _ hO (fun b u z => nomatch (show (none : Option HO) = some u from z)) (fun b z => absurd rfl z) (fun z => absurd rfl z) (hsp _ hO hS) (hCX _)
end
theorem walk_free {l : PySem.W.OpenLaw} {n k : Nat} {q : Program} {loose : List Str} {XP : (Str → Option Value) → Heap → Prop} {YP : World → Heap → Prop} {d : DefRec} {K : Params → PySem.W.Frag} {CX : CXT} {sp : PySem.W.Frag → Sp} {x : Str}
    (hn : l.most = some n) (hn2 : n ≤ sizeLine) (hdf : d.params.defaults = []) (room : Room k callerA) (hY : ∀ (w : World) (h : Heap), YP w h → (K w.params).In h)
    (F : ∀ (w : World) (mg : Str → Option Value) (fa : Addr) (h : Heap), (K w.params).In h → h.Ns mainGlobals mg → mg d.name = some (.ref fa) →
      ∃ fd : FuncData, (∀ (s : Shared) (u : Value), BindsTo s fd ⟨[u], []⟩ [(x, u)]) ∧ ∀ base : Heap, (K w.params).In base → base.Ns mainGlobals mg → RunsAt l.prog w (K w.params) mg base CX k fa fd [x] (sp (K w.params)))
    (hsp : ∀ (K : PySem.W.Frag) (H : Hp) (a : Addr) (ns : List Int), ns.length ≤ n → Only H → SqL K H a (ns.map V.int) → sp K [.ref a] H (fun v _ => v = .bl true) fun _ _ _ => False)
    (hCX : ∀ (H : Hp) (s : Shared) (e : Value) (s' : Shared), CX [] H s (fun _ _ _ => False) e s' → False) :
    PySem.W.WalkO q loose XP YP l.row.toRowW d [] (fun f vs => PySem.call f vs) := by
  refine Att.attach_call hn hdf ?_
  intro w s₀ s₁ mg mb fa o pm cd doc a vs ns G Y ho hd hcd hmg hobj hints hlen hg
  obtain ⟨fd, hb, hF⟩ := F w mg fa _ (hY w _ Y) G.T.g hmg
  exact law_runs (hY w _ Y) G.T.g G.T.b G.T.builtins G.T.nolimit hg hobj hints (Nat.le_trans hlen hn2) room hF hb (fun H hO hS => hsp _ H a ns hlen hO hS) fun H e s' => hCX H s₁ e s'
/-! ### repr -/
def rRep (K : PySem.W.Frag) : List V → Hp → VK → Prop := fun vs H Q => ∃ (a : Addr) (d : PyData), vs = [.ref a] ∧ Dp K H (.ref a) d ∧ d.showable = true ∧ d.hasDict = false ∧ d.depth ≤ 20 ∧ d.shown.length ≤ sizeLine ∧ Q (.str d.shown) H
theorem call_rep {X : Cx} {K : PySem.W.Frag} (hK : X.K = K) (hu : X.A.units + 64 < cLine) (hG : FreeA X.A) : CallR X (.builtin "repr") (rRep K) := by
  subst hK
  intro pins s σ H vs us Q I r h
  obtain ⟨a, d, rfl, hd, h1, h2, h3, h4, q⟩ := h
  rw [Vals.ref1 r]
  obtain ⟨as, rd⟩ := Dp.reads I d _ _ hd (rfl : RelV (.ref a) (.ref a))
  refine repr_of_reads' rd h1 (fun z => by rw [h2] at z; exact nomatch z) hG (by omega) (fun _ _ e => e) (fun h' u tk k => ?_) h4
  exact ⟨.str d.shown, H, I.kept k, ⟨u, rfl⟩, q⟩
end Lk

namespace Lk
open PySem PySem.Spec PyProof.Rows L2
/-! ### data: ==, repr, isinstance -/
theorem hu64 {A : Around} {k : Nat} (hr : Room k A) : A.units + 64 < cLine := by
  have := hr.un
  omega
section
variable {X : Cx} {K : PySem.W.Frag}
theorem eqD_ (h : X.K = K) (hu : X.A.units + 64 < cLine) : OpR X (compareOp .Eq) (rEqD K) := by subst h; exact op_eqD hu
theorem neD_ (h : X.K = K) (hu : X.A.units + 64 < cLine) : OpR X (compareOp .NotEq) (rNeD K) := by subst h; exact op_neD hu
theorem isi_ (h : X.K = K) : CallR X (.builtin "isinstance") (rIsi K) := by subst h; exact call_isi
end
section
variable {K : PySem.W.Frag} {H : Hp} {Q : VK} {x y : V}
theorem a_isi {T U : String} {b : Bool} (ty : TyX K H x (.type T)) (h : kitB T U = some b) (q : Q (.bl b) H) : rIsi K [x, .ty U] H Q := ⟨x, .ty U, .type T, .type U, b, rfl, .ty U, ty, kit_ty h, q⟩
theorem ty_tup {a : Addr} {xs : List V} (h : H a = some (.tup xs)) : TyX K H (.ref a) (.type "tuple") := .base (.tup h)
theorem ty_lst {a : Addr} {xs : List V} (h : H a = some (.lst xs)) : TyX K H (.ref a) (.type "list") := .base (.lst h)
theorem ty_bl {b : Bool} : TyX K H (.bl b) (.type "bool") := .base (.bl b)
theorem ty_int {i : Int} : TyX K H (.int i) (.type "int") := .base (.int i)
theorem kb_tt : kitB "tuple" "tuple" = some true := by decide +kernel
theorem kb_ll : kitB "list" "list" = some true := by decide +kernel
theorem kb_bb : kitB "bool" "bool" = some true := by decide +kernel
theorem kb_ib : kitB "int" "bool" = some false := by decide +kernel
theorem kb_ii : kitB "int" "int" = some true := by decide +kernel
theorem a_eqD {d e : PyData} (h1 : Dp K H x d) (h2 : Dp K H y e) (s1 : SeqAt.shaped d = true) (s2 : SeqAt.shaped e = true) (q : Q (.bl (PyData.eqv d e)) H) : rEqD K x y H Q := ⟨d, e, h1, h2, s1, s2, q⟩
theorem a_neD {d e : PyData} (h1 : Dp K H x d) (h2 : Dp K H y e) (s1 : SeqAt.shaped d = true) (s2 : SeqAt.shaped e = true) (q : Q (.bl (!PyData.eqv d e)) H) : rNeD K x y H Q := ⟨d, e, h1, h2, s1, s2, q⟩
end
/-! ### a comprehension of new objects -/
section
variable {K : PySem.W.Frag} {σ : L2.St} {H : Hp} {Q : VK} {te tl : TE} {vs : List Nat}
theorem c_new {a : Addr} {k : Nat} {xs : List V} (S : Nat → HO → Prop) (hv : vs = [k]) (ht : ∀ R : VK, R (.ref a) H → tl σ H R) (hx : SqL K H a xs) (hz : xs.length ≤ 1000000)
    (he : ∀ (j : Nat) (x : V), xs[j]? = some x → ∀ H' (R : VK), Same H H' → (∀ b H'' o, Same H' H'' → H' b = none → H'' b = some o → S j o → R (.ref b) H'') → te ((wipe σ [k]).set k (some x)) H' R)
    (q : ∀ D H' (as : List Addr), H D = none → Same H H' → as.length = xs.length → H' D = some (.lst (as.map V.ref)) → (∀ (j : Nat) (b : Addr), as[j]? = some b → ∃ o, H' b = some o ∧ S j o) → Q (.ref D) H') : tLc (iList K tl) (gName k) tYes te vs σ H Q := by
  subst hv
  refine ht (fun x H1 => ∃ a, x = .ref a ∧ (∃ xs, SqL K H1 a xs) ∧ _) ⟨a, rfl, ⟨xs, hx⟩, ?_⟩
  intro D hD
  refine lc_list (K := K) (a := a) (xs := xs) (Qd := Q (.ref D)) (fun i H' => Same H H' ∧ i ≤ xs.length ∧ ∃ as : List Addr, as.length = i ∧ H' D = some (.lst (as.map V.ref)) ∧ ∀ (j : Nat) (b : Addr), as[j]? = some b → ∃ o, H' b = some o ∧ S j o ∧ b ≠ D)
    ⟨same_upd hD, Nat.zero_le _, [], rfl, upd_same, fun j b e => by simp at e⟩ (fun i H' _ h => h.1.seq hx) ?_ ?_
  · rintro i x H' hi ⟨s, hil, as, e1, e2, e3⟩
    refine a_gname ?_
    refine ⟨by simp [wipe], a_yes (ift ?_)⟩
    refine he i x hi H' _ s fun b H'' o s2 nb eb sb => ?_
    have hi2 := (List.getElem?_eq_some_iff.mp hi).1
    have nbD : b ≠ D := fun z => by rw [z, e2] at nb; exact nomatch nb
    refine ⟨_, s2 _ _ e2, szl (by rw [List.length_map]; omega), smut (s.trans s2) hD, by omega, as ++ [b], by rw [List.length_append, e1]; rfl, by rw [upd_same, List.map_append]; rfl, fun j c ec => ?_⟩
    by_cases hj : j < as.length
    · rw [List.getElem?_append_left hj] at ec
      obtain ⟨u, h1, h2, h3⟩ := e3 j c ec
      exact ⟨u, by rw [upd_ne h3]; exact s2 _ _ h1, h2, h3⟩
    · have hj2 : j = as.length := by
        have := (List.getElem?_eq_some_iff.mp ec).1
        rw [List.length_append] at this
        have z : [b].length = 1 := rfl
        omega
      subst hj2
      rw [List.getElem?_append_right (Nat.le_refl _), Nat.sub_self] at ec
      obtain rfl : b = c := Option.some.inj ec
      exact ⟨o, by rw [upd_ne nbD]; exact eb, by rw [e1]; exact sb, nbD⟩
  · rintro H' ⟨s, _, as, e1, e2, e3⟩
    refine q D H' as hD s e1 e2 fun j b e => ?_
    obtain ⟨o, h1, h2, _⟩ := e3 j b e
    exact ⟨o, h1, h2⟩
end
/-- lists of ints as data -/
def dInts (l : List Int) : List PyData := l.map PyData.int
theorem dp_ints {K : PySem.W.Frag} {H : Hp} : ∀ l : List Int, DpAll K H (l.map V.int) (dInts l)
  | [] => .nil
  | i :: l => .cons (.int i) (dp_ints l)
theorem dp_lst {K : PySem.W.Frag} {H : Hp} {a : Addr} {l : List Int} (h : H a = some (.lst (l.map V.int))) : Dp K H (.ref a) (.list (dInts l)) := .lst (sql h) (dp_ints l)
/-! ### how long a repr is -/
mutual
def costD : PyData → Nat
  | .none => 5
  | .bool _ => 5
  | .int _ => 42
  | .str x => (reprText x).length
  | .list xs => 2 + costL xs
  | .tuple xs => 3 + costL xs
  | .dict _ => 0
def costL : List PyData → Nat
  | [] => 0
  | x :: xs => (costD x + 2) + costL xs
end
mutual
def tame : PyData → Bool
  | .none => true
  | .bool _ => true
  | .int i => decide (i.natAbs < 10 ^ 38)
  | .str _ => true
  | .list xs => tameL xs
  | .tuple xs => tameL xs
  | .dict _ => false
def tameL : List PyData → Bool
  | [] => true
  | x :: xs => tame x && tameL xs
end
theorem textFrom_le : ∀ (ts : List Str) (k : Nat) (acc : Str), (textFrom k acc ts).length ≤ acc.length + piled ts
  | [], _, acc => Nat.le_add_right _ _
  | t :: r, k, acc => by
    refine Nat.le_trans (textFrom_le r (k + 1) (acc ++ (if k > 0 then ", " else "" : String) ++ t)) ?_
    rw [strLen_append, strLen_append, piled_cons]
    have : (Str.ofString (if k > 0 then ", " else "" : String)).length ≤ 2 := by split <;> decide
    omega
theorem listText_le (ts : List Str) : (listText ts).length ≤ 2 + piled ts := by
  unfold listText
  rw [strLen_append]
  have h := textFrom_le ts 0 "["
  have e1 : (("[" : String) : Str).length = 1 := rfl
  have e2 : (("]" : String) : Str).length = 1 := rfl
  rw [e1] at h
  rw [e2]
  omega
theorem join_le : ∀ ts : List Str, (Str.join ", " ts).length ≤ piled ts := fun ts => by
  cases ts with
  | nil => exact Nat.zero_le _
  | cons t r =>
    have := join_length_add (t :: r) nofun
    omega
theorem tupleText_le (ts : List Str) : (tupleText ts).length ≤ 3 + piled ts := by
  unfold tupleText
  rw [strLen_append, strLen_append]
  have h := join_le ts
  have e1 : (("(" : String) : Str).length = 1 := rfl
  have e2 : (Str.ofString (if ts.length == 1 then ",)" else ")" : String)).length ≤ 2 := by split <;> decide
  rw [e1]
  omega
mutual
theorem shown_le : ∀ d : PyData, tame d = true → d.shown.length ≤ costD d ∧ d.showable = true ∧ d.hasDict = false
  | .none, _ => ⟨by decide, by simp only [PyData.showable], by simp only [PyData.hasDict]⟩
  | .bool b, _ => ⟨by cases b <;> decide, by simp only [PyData.showable], by simp only [PyData.hasDict]⟩
  | .int i, h => by
    unfold tame at h
    have h' : i.natAbs < 10 ^ 38 := of_decide_eq_true h
    refine ⟨?_, ?_, by simp only [PyData.hasDict]⟩
    · have e := int_text_length_le10 (k := 38) (by decide) h'
      show (Str.ofString (toString i)).length ≤ 42
      rw [PySem.ofString_length]
      omega
    · unfold PyData.showable
      refine decide_eq_true ?_
      by_cases h0 : i.natAbs = 0
      · rw [h0]
        decide
      · have h3 : (10 : Nat) ^ 38 ≤ 2 ^ 1920 := by decide +kernel
        exact (Nat.log2_lt h0).mpr (by omega)
  | .str x, _ => ⟨by unfold PyData.shown costD; exact Nat.le_refl _, by simp only [PyData.showable], by simp only [PyData.hasDict]⟩
  | .list xs, h => by
    unfold tame at h
    obtain ⟨h1, h2, h3⟩ := shownL_le xs h
    refine ⟨?_, by unfold PyData.showable; exact h2, by unfold PyData.hasDict; exact h3⟩
    unfold PyData.shown costD
    have := listText_le (PyData.shownAll xs)
    omega
  | .tuple xs, h => by
    unfold tame at h
    obtain ⟨h1, h2, h3⟩ := shownL_le xs h
    refine ⟨?_, by unfold PyData.showable; exact h2, by unfold PyData.hasDict; exact h3⟩
    unfold PyData.shown costD
    have := tupleText_le (PyData.shownAll xs)
    omega
  | .dict _, h => by
    unfold tame at h
    exact nomatch h
theorem shownL_le : ∀ xs : List PyData, tameL xs = true → piled (PyData.shownAll xs) ≤ costL xs ∧ PyData.showableAll xs = true ∧ PyData.hasDictAll xs = false
  | [], _ => ⟨Nat.zero_le _, by unfold PyData.showableAll; rfl, by unfold PyData.hasDictAll; rfl⟩
  | x :: xs, h => by
    unfold tameL at h
    obtain ⟨a, b⟩ := Bool.and_eq_true_iff.mp h
    obtain ⟨h1, h2, h3⟩ := shown_le x a
    obtain ⟨g1, g2, g3⟩ := shownL_le xs b
    refine ⟨?_, ?_, ?_⟩
    · unfold PyData.shownAll costL
      rw [piled_cons]
      omega
    · unfold PyData.showableAll
      rw [h2, g2]
      rfl
    · unfold PyData.hasDictAll
      rw [h3, g3]
      rfl
end
theorem a_rep {K : PySem.W.Frag} {H : Hp} {Q : VK} {a : Addr} {d : PyData} (h : Dp K H (.ref a) d) (ht : tame d = true) (hc : costD d ≤ 1000000) (hd : d.depth ≤ 20) (q : Q (.str d.shown) H) : rRep K [.ref a] H Q := by
  obtain ⟨h1, h2, h3⟩ := shown_le d ht
  exact ⟨a, d, rfl, h, h2, h3, hd, sz (by omega), q⟩
theorem costL_ints : ∀ l : List Int, costL (dInts l) = 44 * l.length
  | [] => rfl
  | i :: l => by
    unfold dInts
    rw [List.map_cons]
    unfold costL costD
    have e := costL_ints l
    unfold dInts at e
    rw [e, List.length_cons]
    omega
theorem tameL_ints {lo hi : Int} (h1 : -1000000000000 ≤ lo) (h2 : hi ≤ 1000000000000) : ∀ l : List Int, In lo hi l → tameL (dInts l) = true
  | [], _ => rfl
  | i :: l, h => by
    unfold dInts
    rw [List.map_cons]
    unfold tameL tame
    have e := tameL_ints h1 h2 l fun x hx => h x (List.mem_cons_of_mem _ hx)
    unfold dInts at e
    have b := h i List.mem_cons_self
    have b2 : i.natAbs < 10 ^ 38 := by
      have z : (10 : Nat) ^ 38 = 100000000000000000000000000000000000000 := by decide +kernel
      omega
    rw [e, decide_eq_true b2]
    rfl
mutual
theorem eqv_self : ∀ d : PyData, d.hasDict = false → PyData.eqv d d = true
  | .none, _ => by unfold PyData.eqv; rfl
  | .bool b, _ => by unfold PyData.eqv; exact beq_self_eq_true b
  | .int i, _ => by unfold PyData.eqv; exact beq_self_eq_true i
  | .str x, _ => by unfold PyData.eqv; exact beq_self_eq_true x
  | .list xs, h => by
    unfold PyData.eqv
    exact eqvL_self xs (by unfold PyData.hasDict at h; exact h)
  | .tuple xs, h => by
    unfold PyData.eqv
    exact eqvL_self xs (by unfold PyData.hasDict at h; exact h)
  | .dict _, h => by
    unfold PyData.hasDict at h
    exact nomatch h
theorem eqvL_self : ∀ xs : List PyData, PyData.hasDictAll xs = false → PyData.eqvAll xs xs = true
  | [], _ => by unfold PyData.eqvAll; rfl
  | x :: xs, h => by
    unfold PyData.hasDictAll at h
    obtain ⟨a, b⟩ := Bool.or_eq_false_iff.mp h
    unfold PyData.eqvAll
    rw [eqv_self x a, eqvL_self xs b]
    rfl
end
mutual
def flatTo : Nat → PyData → Bool
  | _, .none => true
  | _, .bool _ => true
  | _, .int _ => true
  | n + 1, .list xs => flatToL n xs
  | n + 1, .tuple xs => flatToL n xs
  | _, _ => false
def flatToL : Nat → List PyData → Bool
  | _, [] => true
  | n, x :: xs => flatTo n x && flatToL n xs
end
mutual
theorem flat_ok : ∀ (n : Nat) (d : PyData), flatTo n d = true → d.canLay0 = true ∧ d.depth ≤ n ∧ d.hasDict = false
  | _, .none, _ => ⟨by unfold PyData.canLay0; rfl, by unfold PyData.depth; omega, by unfold PyData.hasDict; rfl⟩
  | _, .bool _, _ => ⟨by unfold PyData.canLay0; rfl, by unfold PyData.depth; omega, by unfold PyData.hasDict; rfl⟩
  | _, .int _, _ => ⟨by unfold PyData.canLay0; rfl, by unfold PyData.depth; omega, by unfold PyData.hasDict; rfl⟩
  | n + 1, .list xs, h => by
    unfold flatTo at h
    obtain ⟨a, b, c⟩ := flatL_ok n xs h
    exact ⟨by unfold PyData.canLay0; exact a, by unfold PyData.depth; omega, by unfold PyData.hasDict; exact c⟩
  | n + 1, .tuple xs, h => by
    unfold flatTo at h
    obtain ⟨a, b, c⟩ := flatL_ok n xs h
    exact ⟨by unfold PyData.canLay0; exact a, by unfold PyData.depth; omega, by unfold PyData.hasDict; exact c⟩
  | 0, .list _, h => by unfold flatTo at h; exact nomatch h
  | 0, .tuple _, h => by unfold flatTo at h; exact nomatch h
  | _, .str _, h => by unfold flatTo at h; exact nomatch h
  | _, .dict _, h => by unfold flatTo at h; exact nomatch h
theorem flatL_ok : ∀ (n : Nat) (xs : List PyData), flatToL n xs = true → PyData.canLayAll0 xs = true ∧ PyData.depthAll xs ≤ n ∧ PyData.hasDictAll xs = false
  | _, [], _ => ⟨by unfold PyData.canLayAll0; rfl, by unfold PyData.depthAll; omega, by unfold PyData.hasDictAll; rfl⟩
  | n, x :: xs, h => by
    unfold flatToL at h
    obtain ⟨a, b⟩ := Bool.and_eq_true_iff.mp h
    obtain ⟨h1, h2, h3⟩ := flat_ok n x a
    obtain ⟨g1, g2, g3⟩ := flatL_ok n xs b
    refine ⟨by unfold PyData.canLayAll0; rw [h1, g1]; rfl, by unfold PyData.depthAll; exact Nat.max_le.mpr ⟨h2, g2⟩, by unfold PyData.hasDictAll; rw [h3, g3]; rfl⟩
end
theorem shaped_flat {n : Nat} {d : PyData} (h : flatTo n d = true) (hn : n ≤ 64) : SeqAt.shaped d = true := by
  obtain ⟨a, b, _⟩ := flat_ok n d h
  unfold SeqAt.shaped
  rw [a, decide_eq_true (by omega)]
  rfl
theorem flatL_ints (n : Nat) : ∀ l : List Int, flatToL n (dInts l) = true
  | [] => by unfold dInts; rw [List.map_nil]; unfold flatToL; rfl
  | i :: l => by
    unfold dInts
    rw [List.map_cons]
    unfold flatToL
    have e := flatL_ints n l
    unfold dInts at e
    rw [e]
    cases n <;> (unfold flatTo; rfl)
theorem depthL_ints : ∀ l : List Int, PyData.depthAll (dInts l) = 0
  | [] => by unfold dInts; rw [List.map_nil]; unfold PyData.depthAll; rfl
  | i :: l => by
    unfold dInts
    rw [List.map_cons]
    unfold PyData.depthAll
    have e := depthL_ints l
    unfold dInts at e
    rw [e]
    unfold PyData.depth
    rfl
theorem depth_ints (l : List Int) : PyData.depth (.list (dInts l)) = 1 := by
  unfold PyData.depth
  rw [depthL_ints]
end Lk

/-! ### slices with a step -/
namespace Lk
open PySem PySem.Spec PyProof.Rows L2
def pickV (xs : List V) (lo hi st : Option Int) : List V :=
  (sliceRange (sliceBounds lo hi st xs.length).1 (sliceBounds lo hi st xs.length).2.1 (sliceBounds lo hi st xs.length).2.2).filterMap (xs[·]?)
theorem vals_at {xs : List V} : ∀ {us : List Value}, Vals xs us → ∀ i : Nat, (xs[i]? = none ∧ us[i]? = none) ∨ ∃ x u, xs[i]? = some x ∧ us[i]? = some u ∧ RelV x u := by
  induction xs with
  | nil => intro us r i; cases r; exact .inl ⟨by simp, by simp⟩
  | cons x xs ih =>
    intro us r i
    cases r with
    | cons r1 r2 =>
      cases i with
      | zero => exact .inr ⟨_, _, rfl, rfl, r1⟩
      | succ i =>
        simp only [List.getElem?_cons_succ]
        exact ih r2 i
theorem vals_pick {xs : List V} {us : List Value} (r : Vals xs us) : ∀ is : List Nat, Vals (is.filterMap (xs[·]?)) (is.filterMap (us.toArray[·]?))
  | [] => .nil
  | i :: is => by
    have ih := vals_pick r is
    rw [List.filterMap_cons, List.filterMap_cons]
    simp only [List.getElem?_toArray] at ih ⊢
    rcases vals_at r i with ⟨h1, h2⟩ | ⟨x, u, h1, h2, h3⟩
    · rw [h1, h2]
      exact ih
    · rw [h1, h2]
      exact .cons h3 ih
theorem pickV_length (xs : List V) (us : List Value) (r : Vals xs us) (lo hi st : Option Int) : (pickV xs lo hi st).length = (slicePick us.toArray lo hi st).size := by
  have hl := r.length
  have := (vals_pick r (sliceRange (sliceBounds lo hi st xs.length).1 (sliceBounds lo hi st xs.length).2.1 (sliceBounds lo hi st xs.length).2.2)).length
  unfold pickV slicePick
  rw [List.size_toArray, List.size_toArray, this, hl]
section
variable {X : Cx} {e : Expr} {te : TE} {lo hi : Option Expr} {tl th : TO} {pos p2 : Pos} {st : Expr} {ts : TO}
def tSl3 (K : PySem.W.Frag) (te : TE) (tl th ts : TO) : TE := fun σ H Q => te σ H fun x H1 => tl σ H1 fun l H2 => th σ H2 fun u H3 => ts σ H3 fun z H4 =>
  ∃ a xs, x = .ref a ∧ SqL K H4 a xs ∧ z ≠ some 0 ∧ (pickV xs l u z).length ≤ sizeLine ∧ ∀ p, H4 p = none → Q (.ref p) (upd H4 p (.lst (pickV xs l u z)))
theorem pe_slice3 (he : PE X e te) (hl : PO X lo tl) (hu : PO X hi th) (hs : PO X (some st) ts) : PE X (.Subscript e (.Slice lo hi (some st) p2) pos) (tSl3 X.K te tl th ts) := by
  refine ⟨fun pins s σ H Q I h => ?_⟩
  refine Subscript_ (thn (he.run pins s σ H _ I h) fun v s1 ⟨x, H1, I1, r1, q1⟩ => ?_)
  refine wpAny_Slice (thn (hl.run pins s1 σ H1 _ I1 q1) fun vl s2 ⟨l, H2, I2, pl, q2⟩ => thn (hu.run pins s2 σ H2 _ I2 q2) fun vu s3 ⟨u, H3, I3, pu, q3⟩ => thn (hs.run pins s3 σ H3 _ I3 q3) fun vs s4 ⟨z, H4, I4, ps, q4⟩ => ?_)
  obtain ⟨a, xs, rfl, hx, hz0, hlen0, q⟩ := q4
  have I5 : Inv X pins σ H4 { s4 with heap := s4.heap.push { cls := .type "slice", data := .fields #[vl, vu, vs] } } := I4.kept (t' := s4.toks) fun b ob q => Heap.get?_push_of_some _ q
  cases r1
  obtain ⟨its, r, ht, hz⟩ := I5.list hx
  have hlen := r.length
  show wpAny (model X.prog X.w) X.A (subscriptTail e (.Slice lo hi (some st) p2) (.ref a) (.ref s4.heap.objs.size)) (EP X pins σ Q) X.xe { s4 with heap := s4.heap.push { cls := .type "slice", data := .fields #[vl, vu, vs] } }
  refine tail_any (ops := [.ref a, .ref s4.heap.objs.size]) ht.isList.typeIs slot_list_getitem.lookup ?_ (by with_unfolding_all rfl)
  refine wpAny_getItem_list_slice ht.isList (Heap.IsSliceOf.new ..) pl pu ps hz0 ?_ (by rw [List.size_toArray] <;> omega)
  have e : (slicePick its.toArray l u z) = ((sliceRange (sliceBounds l u z xs.length).1 (sliceBounds l u z xs.length).2.1 (sliceBounds l u z xs.length).2.2).filterMap (its.toArray[·]?)).toArray := by
    unfold slicePick
    rw [List.size_toArray, hlen]
  have rp := vals_pick r (sliceRange (sliceBounds l u z xs.length).1 (sliceBounds l u z xs.length).2.1 (sliceBounds l u z xs.length).2.2)
  rw [e]
  refine ⟨.ref (s4.heap.push { cls := .type "slice", data := .fields #[vl, vu, vs] }).objs.size, _, I5.laid (t' := s4.toks) (o := .lst (pickV xs l u z)) (fun b ob q => Heap.get?_push_of_some _ q) (Nat.le_refl _) ?_, rfl, q _ (I5.hok.fresh (Nat.le_refl _))⟩
  exact ⟨hlen0, _, 0, rp, Heap.get?_push_size _ rfl⟩
end
/-! ### the maths of it -/
theorem range_two (a n : Nat) : sliceRange (a : Int) (n : Int) 2 = (List.range ((n - a + 1) / 2)).map (fun k => a + 2 * k) := by
  unfold sliceRange
  by_cases h : (a : Int) < n
  · have e : ((n : Int) - a + 2 - 1) / 2 = (((n - a + 1) / 2 : Nat) : Int) := by omega
    simp only [show (2 : Int) > 0 by decide, if_true, h, e, Int.toNat_natCast]
    apply List.map_congr_left
    intro k _
    omega
  · have e : (n - a + 1) / 2 = 0 := by omega
    simp [h, e]
theorem bounds_ev (n : Nat) : sliceBounds none none (some 2) n = (((0 : Nat) : Int), (n : Int), 2) := by simp [sliceBounds]
theorem bounds_od (n : Nat) : sliceBounds (some 1) none (some 2) n = (((min 1 n : Nat) : Int), (n : Int), 2) := by
  simp [sliceBounds] <;> omega
theorem fm_some {α β : Type} (f : α → Option β) : ∀ (l : List α) (g : α → β), (∀ x ∈ l, f x = some (g x)) → l.filterMap f = l.map g
  | [], _, _ => rfl
  | x :: r, g, h => by
    rw [List.filterMap_cons, h x (List.mem_cons_self ..), fm_some f r g fun y hy => h y (List.mem_cons_of_mem _ hy)]
    rfl
/-- xs[::2] -/
theorem pick_ev (g : Nat → V) (m : Nat) : pickV ((List.range (2 * m)).map g) none none (some 2) = (List.range m).map fun k => g (2 * k) := by
  unfold pickV
  rw [List.length_map, List.length_range, bounds_ev, range_two]
  have e : (2 * m - 0 + 1) / 2 = m := by omega
  rw [e, List.filterMap_map]
  refine fm_some _ _ _ fun k hk => ?_
  have := List.mem_range.1 hk
  show ((List.range (2 * m)).map g)[0 + 2 * k]? = _
  rw [List.getElem?_map, List.getElem?_range (by omega)]
  simp
/-- xs[1::2] -/
theorem pick_od (g : Nat → V) (m : Nat) : pickV ((List.range (2 * m)).map g) (some 1) none (some 2) = (List.range m).map fun k => g (2 * k + 1) := by
  unfold pickV
  rw [List.length_map, List.length_range, bounds_od, range_two]
  have e : (2 * m - min 1 (2 * m) + 1) / 2 = m := by omega
  rw [e, List.filterMap_map]
  refine fm_some _ _ _ fun k hk => ?_
  have := List.mem_range.1 hk
  show ((List.range (2 * m)).map g)[min 1 (2 * m) + 2 * k]? = _
  rw [List.getElem?_map, List.getElem?_range (by omega)]
  simp [show min 1 (2 * m) + 2 * k = 2 * k + 1 by omega]
end Lk

namespace Lk
open PySem PySem.Spec PyProof.Rows L2
/-! ### sum, max of a list, K named -/
theorem sumK_ {X : Cx} {K : PySem.W.Frag} (h : X.K = K) (hc : X.calm = true) : CallR X (.builtin "sum") (rSum K) := by subst h; exact cr_sum hc
theorem sl3K_ {X : Cx} {K : PySem.W.Frag} {e : Expr} {te : TE} {tl th ts : TO} (h : X.K = K) (hl : PE X e (tSl3 X.K te tl th ts)) : PE X e (tSl3 K te tl th ts) := by subst h; exact hl
section
variable {K : PySem.W.Frag} {σ : L2.St} {H : Hp} {Q : VK} {te : TE} {tl th ts : TO} {x : V} {j : Int}
theorem a_sl3 (q : te σ H fun x H1 => tl σ H1 fun l H2 => th σ H2 fun u H3 => ts σ H3 fun z H4 =>
    ∃ a xs, x = .ref a ∧ SqL K H4 a xs ∧ z ≠ some 0 ∧ (pickV xs l u z).length ≤ sizeLine ∧ ∀ p, H4 p = none → Q (.ref p) (upd H4 p (.lst (pickV xs l u z)))) : tSl3 K te tl th ts σ H Q := q
theorem a_sl {r : V → Option Int → Option Int → Hp → VK → Prop} (q : te σ H fun x H1 => tl σ H1 fun l H2 => th σ H2 fun u H3 => r x l u H3 Q) : tSl r te tl th σ H Q := q
theorem a_part {R : Option Int → Hp → Prop} (q : te σ H fun x H1 => ∃ i, x = .int i ∧ R (some i) H1) : tPart te σ H R := q
theorem a_nopart {R : Option Int → Hp → Prop} (q : R none H) : tNoPart σ H R := q
theorem a_exi {P : Int → Prop} (q : P j) : ∃ i, V.int j = V.int i ∧ P i := ⟨j, rfl, q⟩
theorem a_andV {ta tb : TE} (q : ta σ H fun x H1 => ∃ c, x = .bl c ∧ if c = true then tb σ H1 Q else Q (.bl false) H1) : tAndV ta tb σ H Q := q
theorem a_orV {ta tb : TE} (q : ta σ H fun x H1 => ∃ c, x = .bl c ∧ if c = true then Q (.bl true) H1 else tb σ H1 Q) : tOrV ta tb σ H Q := q
theorem a_notV {ta : TE} (q : ta σ H fun x H1 => ∃ c, x = .bl c ∧ Q (.bl (!c)) H1) : tNotV ta σ H Q := q
theorem a_chain {r r' : R2} {ta tb tc : TE} (q : ta σ H fun x H1 => tb σ H1 fun y H2 => r x y H2 fun z H3 => ∃ k, z = .bl k ∧ (if k = true then tc σ H3 fun w' H4 => r' y w' H4 Q else Q (.bl false) H3)) : tChain r r' ta tb tc σ H Q := q
theorem a_slL {a : Addr} {xs : List V} {lo hi : Option Int} (h : SqL K H a xs) (q : ∀ p, H p = none → Q (.ref p) (upd H p (.lst (cutV xs lo hi)))) : rSlL K (.ref a) lo hi H Q := ⟨a, xs, rfl, h, q⟩
theorem a_sum {a : Addr} {ns : List Int} (h : SqL K H a (ns.map V.int)) (q : Q (.int ns.sum) H) : rSum K [.ref a] H Q := ⟨a, ns, rfl, h, q⟩
end
/-! ### comprehensions over zip, and over a range with a test -/
theorem wipe2 {σ : L2.St} {k1 k2 : Nat} (h : k1 ≠ k2) {x y : Option V} : wipe (((wipe σ [k1, k2]).set k1 x).set k2 y) [k1, k2] = wipe σ [k1, k2] := by
  simp only [wipe]
  refine List.ext_getElem? fun i => ?_
  simp only [List.getElem?_set, List.length_set]
  by_cases h1 : k1 = i
  · subst h1; simp
  · by_cases h2 : k2 = i
    · subst h2; simp [h1]
    · simp [h1, h2]
theorem wipe1 {σ : L2.St} {k : Nat} {x : Option V} : wipe ((wipe σ [k]).set k x) [k] = wipe σ [k] := by simp [wipe]
section
variable {K : PySem.W.Frag} {σ : L2.St} {H : Hp} {Q : VK} {te tl : TE} {tt : TT} {ta : TA} {vs : List Nat}
theorem c_zip {k1 k2 : Nat} {xs ys : List V} (zs : List V) (hv : vs = [k1, k2]) (hk : k1 ≠ k2) (ht : ∀ R : List V → Hp → Prop, (∀ a b H', Same H H' → SqL K H' a xs → SqL K H' b ys → R [.ref a, .ref b] H') → ta σ H R)
    (hlen : zs.length = min xs.length ys.length) (hz : zs.length ≤ 1000000)
    (he : ∀ (j : Nat) (x y : V), xs[j]? = some x → ys[j]? = some y → ∀ H' (R : VK), Same H H' → (∀ z H'', Same H' H'' → zs[j]? = some z → R z H'') → te (((wipe σ [k1, k2]).set k1 (some x)).set k2 (some y)) H' R)
    (q : ∀ D H', H D = none → Same H H' → H' D = some (.lst zs) → Q (.ref D) H') : tLc (iZip K ta) (gTup K 2 (gCons (gName k1) (gCons (gName k2) gNil))) tYes te vs σ H Q := by
  subst hv
  refine ht (fun vs H1 => ∃ a b xs ys, vs = [.ref a, .ref b] ∧ SqL K H1 a xs ∧ SqL K H1 b ys ∧ _) fun a b H1 s1 hx hy => ⟨a, b, xs, ys, rfl, hx, hy, ?_⟩
  intro D hD
  refine lc_it (walk_zip (K := K) (a := a) (b := b) (xs := xs) (ys := ys) hlen) (Qd := Q (.ref D)) (fun i H' => Same H1 H' ∧ H' D = some (.lst (zs.take i))) ⟨same_upd hD, upd_same⟩ (fun i H' _ h => ⟨h.1.seq hx, h.1.seq hy⟩) ?_ ?_
  · rintro i v H' H'' hi ⟨s, e⟩ ⟨T, x, y, rfl, nT, rfl, ex, ey⟩
    refine a_gtup upd_same rfl (a_gcons (a_gname (a_gcons (a_gname (a_gnil ⟨wipe2 hk, a_yes (ift ?_)⟩)))))
    have sT := s.trans (same_upd (o := .tup [x, y]) nT)
    refine he i x y ex ey _ _ (s1.trans sT) fun z H3 s3 ez => ?_
    refine ⟨_, s3 _ _ (same_upd nT _ _ e), ?_, smut (sT.trans s3) hD, ?_⟩
    · refine szl ?_
      rw [List.length_take]
      omega
    · rw [upd_same, take_app ez]
  · rintro H' ⟨s, e⟩
    refine q D H' (s1.free hD) (s1.trans s) ?_
    rw [e, List.take_length]
/-- over a range, with a test -/
theorem c_rngF {k n : Nat} (f : Nat → Bool) (g : Nat → V) (hv : vs = [k]) (hn : n ≤ 1000000) (ht : ∀ R : List V → Hp → Prop, R [.int (n : Int)] H → ta σ H R)
    (hc : ∀ j : Nat, j < n → ∀ H' (R : Bool → Hp → Prop), Same H H' → R (f j) H' → tt ((wipe σ [k]).set k (some (.int (j : Int)))) H' R)
    (he : ∀ j : Nat, j < n → f j = true → ∀ H' (R : VK), Same H H' → R (g j) H' → te ((wipe σ [k]).set k (some (.int (j : Int)))) H' R)
    (q : ∀ D H', H D = none → Same H H' → H' D = some (.lst (((List.range n).filter f).map g)) → Q (.ref D) H') : tLc (iRng1 ta) (gName k) tt te vs σ H Q := by
  subst hv
  refine ht (fun vs H1 => ∃ j : Int, vs = [.int j] ∧ -(2 ^ 62) ≤ j ∧ j < 2 ^ 62 ∧ _) ⟨(n : Int), rfl, by omega, by omega, ?_⟩
  rw [Int.toNat_natCast]
  intro D hD
  refine lc_range (lo := 0) (n := n) (Qd := Q (.ref D)) (fun i H' => Same H H' ∧ i ≤ n ∧ H' D = some (.lst (((List.range i).filter f).map g))) ⟨same_upd hD, Nat.zero_le _, upd_same⟩ ?_ ?_
  · rintro i H' hi ⟨s, _, e⟩
    refine a_gname ⟨wipe1, ?_⟩
    rw [Int.zero_add]
    refine hc i hi H' _ s ?_
    cases hf : f i with
    | true =>
      refine ift (he i hi hf H' _ s ?_)
      refine ⟨_, e, ?_, smut s hD, hi, ?_⟩
      · refine szl ?_
        rw [List.length_map]
        refine Nat.le_trans (List.length_filter_le _ _) ?_
        rw [List.length_range]
        omega
      · rw [upd_same, List.range_succ, List.filter_append, List.map_append]
        simp [List.filter, hf]
    | false =>
      refine iff' ⟨s, hi, ?_⟩
      rw [e, List.range_succ, List.filter_append]
      simp [List.filter, hf]
  · rintro H' ⟨s, _, e⟩
    exact q D H' hD s e
end
theorem evens_eq (T : List Int) (m : Nat) (h : T.length = 2 * m) : pickV (T.map V.int) none none (some 2) = ((List.range m).map fun k => V.int (T.getD (2 * k) 0)) := by
  have e : T.map V.int = (List.range (2 * m)).map fun k => V.int (T.getD k 0) := by
    refine List.ext_getElem? fun i => ?_
    rw [List.getElem?_map, List.getElem?_map]
    by_cases hi : i < 2 * m
    · rw [List.getElem?_range hi, List.getElem?_eq_getElem (by omega)]
      simp [List.getD_eq_getElem?_getD, List.getElem?_eq_getElem (show i < T.length by omega)]
    · rw [List.getElem?_eq_none (by omega), List.getElem?_eq_none (by rw [List.length_range]; omega)]
      rfl
  rw [e, pick_ev]
theorem odds_eq (T : List Int) (m : Nat) (h : T.length = 2 * m) : pickV (T.map V.int) (some 1) none (some 2) = ((List.range m).map fun k => V.int (T.getD (2 * k + 1) 0)) := by
  have e : T.map V.int = (List.range (2 * m)).map fun k => V.int (T.getD k 0) := by
    refine List.ext_getElem? fun i => ?_
    rw [List.getElem?_map, List.getElem?_map]
    by_cases hi : i < 2 * m
    · rw [List.getElem?_range hi, List.getElem?_eq_getElem (by omega)]
      simp [List.getD_eq_getElem?_getD, List.getElem?_eq_getElem (show i < T.length by omega)]
    · rw [List.getElem?_eq_none (by omega), List.getElem?_eq_none (by rw [List.length_range]; omega)]
      rfl
  rw [e, pick_od]
theorem cut1 (x : V) (xs : List V) : cutV (x :: xs) (some 1) none = xs := by
  unfold cutV
  have h1 : HT.sIx (x :: xs).length 0 (some 1) = 1 := by
    show (if (1 : Int) < 0 then ((1 : Int) + ((x :: xs).length : Int)).toNat else min (1 : Int).toNat (x :: xs).length) = 1
    rw [if_neg (by decide), List.length_cons]
    show min 1 (xs.length + 1) = 1
    omega
  have h2 : HT.sIx (x :: xs).length (x :: xs).length none = (x :: xs).length := rfl
  rw [h1, h2, List.drop_one, List.tail_cons, List.length_cons]
  exact List.take_of_length_le (by omega)
theorem sum_range (f : Nat → Int) : ∀ n, ((List.range n).map f).sum = (List.range n).foldl (fun acc k => acc + f k) 0
  | 0 => rfl
  | n + 1 => by
    rw [List.range_succ, List.map_append, List.sum_append, sum_range f n, List.foldl_append]
    simp
theorem getRg {α : Type} {f : Nat → α} {m j : Nat} {x : α} (h : ((List.range m).map f)[j]? = some x) : j < m ∧ x = f j := by
  rw [List.getElem?_map] at h
  by_cases hj : j < m
  · rw [List.getElem?_range hj] at h
    exact ⟨hj, (Option.some.inj h).symm⟩
  · rw [List.getElem?_eq_none (by rw [List.length_range]; omega)] at h
    cases h
theorem rg_at {α : Type} {f : Nat → α} {m j : Nat} (h : j < m) : ((List.range m).map f)[j]? = some (f j) := by
  rw [List.getElem?_map, List.getElem?_range h]
  rfl
theorem flat1 (l : List Int) : flatTo 1 (.list (dInts l)) = true := by
  unfold flatTo
  exact flatL_ints 0 _
theorem neL_same {K : PySem.W.Frag} {H : Hp} {Q : VK} {a b : Addr} {l : List Int} (ha : H a = some (.lst (l.map V.int))) (hb : H b = some (.lst (l.map V.int))) (q : Q (.bl false) H) : rNeD K (.ref a) (.ref b) H Q := by
  refine a_neD (dp_lst ha) (dp_lst hb) (shaped_flat (flat1 l) (by decide)) (shaped_flat (flat1 l) (by decide)) ?_
  rw [eqv_self _ (flat_ok 1 _ (flat1 l)).2.2]
  exact q
theorem eqL_same {K : PySem.W.Frag} {H : Hp} {Q : VK} {a b : Addr} {l : List Int} (ha : H a = some (.lst (l.map V.int))) (hb : H b = some (.lst (l.map V.int))) (q : Q (.bl true) H) : rEqD K (.ref a) (.ref b) H Q := by
  refine a_eqD (dp_lst ha) (dp_lst hb) (shaped_flat (flat1 l) (by decide)) (shaped_flat (flat1 l) (by decide)) ?_
  rw [eqv_self _ (flat_ok 1 _ (flat1 l)).2.2]
  exact q
end Lk

/-! ### an own error whose __init__ calls super().__init__(..) and keeps one field -/
namespace PySem
namespace LkX
open PySem.W PySem.Calls PyProof.Rows PySem.HandSPX
def eArgs (par : Str) (p1 p2 : Pos) : Arguments := { posonlyargs := [], args := [{ arg := "self", annotation := none, pos := p1 }, { arg := par, annotation := none, pos := p2 }], vararg := none, kwonlyargs := [], kw_defaults := [], kwarg := none, defaults := [] }
def eBody (par : Str) (msg : Expr) (a1 a2 a3 a4 a5 q1 q2 q3 q4 : Pos) : List Stmt :=
  [.Expr (.Call (.Attribute (.Call (.Name "super" a1) [] [] a2) "__init__" a3) [msg] [] a4) a5, .Assign [.Attribute (.Name "self" q1) par q2] (.Name par q3) q4]
/-- what the written part says of such a class, at C, and of its __init__, at fI; cc its cell, cda its code -/
structure XcTxt (prog : Program) (K : Frag) (C fI cc cda : Addr) (qual par : Str) (scope : Scope) (msg : Expr) : Prop where
  cls : ∃ nm q N bs bm sn sub ab col dd k0 k1 k2 k3 k5, K.lookup C = some (excClassObj nm q C N bs bm true sn sub ab col dd k0 k1 k2 k3 k5 "ValueError.__new__") ∧ refsVE bm = true
  sa : findIn K (.ref C) "__setattr__" = some (some (.builtin "object.__setattr__"))
  iC : findIn K (.ref C) "__init__" = some (some (.ref fI))
  tC : typeIn K (.ref fI) = some (.type "function")
  noN : findIn K (.ref C) par = some none
  fn : ∃ (oc : Value) (od : Option Addr) (doc pm : Value) (an : Option Addr) (ct : Value) (osl : Array (Option Value)) (p1 p2 a1 a2 a3 a4 a5 q1 q2 q3 q4 : Pos),
    K.lookup fI = some ⟨oc, od, .func (ksFn "__init__" qual (eArgs par p1 p2) (eBody par msg a1 a2 a3 a4 a5 q1 q2 q3 q4) scope .none .none doc pm an (.ref cda) ct cc), osl⟩ ∧ (a3.endLine == a4.line) = true
  cd : codeIn K (.ref cda) qual = true
  code : ∃ (ccl : Value) (cdd : Option Addr) (vs : Array Value) (ccs : Array (Option Value)) (file : Str) (tf : Tok), K.lookup cda = some ⟨ccl, cdd, .fields vs, ccs⟩ ∧ vs[2]? = some (.str file tf) ∧ ((prog.main.file : Str) == file) = true
  cell : ∃ (cl : Value) (cld : Option Addr) (csl : Array (Option Value)), K.lookup cc = some ⟨cl, cld, .cell (some (.ref C)), csl⟩
  sup : nsIn K mainGlobals "super" = some none
  opq : nsIn K cStatics "thirdparty.any" = some none
  self : mroIn K C (.ref C) = some true
  sin : ks_superIn K C C "__init__" = some (some (.builtin "ValueError.__init__"))
  sub : subIn K (.ref C) (.type "ValueError") = some true
  top : (prog.main.scope.names.lookup ("super" : Str)).isSome = false
/-- the scope of __init__ -/
structure XcScope (scope : Scope) (par : Str) : Prop where
  kind : scope.kind = .function
  co : scope.isCoroutine = false
  gen : scope.isGenerator = false
  nocell : ∀ x ∈ scope.names, x.2 ≠ .cell
  sup : scope.names.lookup ("super" : Str) = some .globalImplicit
  cls : scope.names.lookup ("__class__" : Str) = some .free
  slf : scope.names.lookup ("self" : Str) = some .local
  prm : scope.names.lookup par = some .local
  ne : par ≠ "self"
  dbg : (par == ("__debug__" : Str)) = false
section
variable {prog : Program} {w : World} {A : Around} {E : Value → Shared → Prop} {R : Result → Shared → Prop} {s : Shared} {K : Frag} {mg mb : Str → Option Value} {C fI cc cda : Addr} {qual par : Str} {scope : Scope} {msg : Expr}
/-- what __init__ leaves of a fresh error at x -/
structure Inited (h h' : Heap) (x C dx t1 : Addr) (par : Str) (v : Value) : Prop where
  keep : ∀ b o, b ≠ x → h.get? b = some o → h'.get? b = some o
  obj : h'.get? x = some { cls := .ref C, dict := some dx, data := .fields #[.ref t1, .none, .none, .none, .bool false, .none] }
  dbig : h.objs.size ≤ dx
  dne : dx ≠ x
  ns : h'.Ns1 dx (fun y => if y = par then some v else none)
theorem cls_of (T : XcTxt prog K C fI cc cda qual par scope msg) : ∃ cd, clsIn K C = some cd ∧ refsVE cd.mro = true ∧ cd.hasDict = true := by
  obtain ⟨nm, q, N, bs, bm, sn, sub, ab, col, dd, k0, k1, k2, k3, k5, hC, hbm⟩ := T.cls
  exact ⟨_, by unfold clsIn; rw [hC] <;> rfl, (show refsVE (.ref C :: bm) = true from hbm), rfl⟩
/-- the bound ValueError.__init__ called -/
theorem x_base {u e t0 : Addr} {rest : List Value} {Q : Value → Shared → Prop} {h : Heap} {g : Array GenState} {d : Drawn} {t : Nat} {os : OsState} (T : XcTxt prog K C fI cc cda qual par scope msg) (X : K.In h) (he : h.get? e = some (excO C t0)) (hu : h.get? u = some (kxs_mw "ValueError.__init__" e)) (hrest : rest.length ≤ sizeLine)
    (hq : ∀ h' t1, (∀ b o, b ≠ e → h.get? b = some o → h'.get? b = some o) → h'.get? e = some (excO C t1) → Q .none ⟨h', g, d, t, os⟩) :
    wpAny (model prog w) A (call (.ref u) rest) Q E ⟨h, g, d, t, os⟩ := by
  obtain ⟨nm, q, N, bs, bm, sn, sub, ab, col, dd, k0, k1, k2, k3, k5, hC, hbm⟩ := T.cls
  refine wpAny_call (codeAny_of_tree ?_)
  show wpAny _ A.in1 (callAny (.ref u) ⟨rest, []⟩) _ _ _
  simp only [callAny]
  refine wpAny_bind (wpAny_load hu ?_)
  simp only [kxs_mw, show (Value.type "method-wrapper" == Value.type "method" || Value.type "method-wrapper" == Value.type "builtin_function_or_method" || Value.type "method-wrapper" == Value.type "method-wrapper") = true by decide, if_true]
  refine KFB.if_so (by decide) ?_
  refine wpAny_bind (check_bound_init F.excBase_ValueError.toExcCallFacts (X _ _ hC) he rfl ?_)
  refine wpAny_bind (wpAny_pure (wpAny_pure ⟨plainId_quiet F.excBase_ValueError.init.plain _, codeAny_builtin F.excBase_ValueError.initEntry ?_⟩))
  rw [Around.under_plainId F.excBase_ValueError.init.plain _]
  wp_walk
  refine hq _ h.objs.size (fun b o hb ho => ?_) ?_
  · rw [Heap.get?_update_other _ _ (Ne.symm hb)]
    exact Heap.get?_push_of_some _ ho
  · rw [Heap.get?_update_self _ (Heap.get?_push_of_some _ he) rfl]
    rfl
theorem call_text {o msg : Expr} {name : Str} {apos pos : Pos} {env : Env} (hline : (apos.endLine == pos.line) = true) (hne : starEach [msg] env = [(false, eval msg env)]) :
    eval (.Call (.Attribute o name apos) [msg] [] pos) env = (do
      let ov ← attributeBase o name env (eval o env)
      standAt apos.atName
      let (f, first) ← holding [ov] (getMethod ov name (do return (← importBound o env).getD true))
      callWith pos f first (backTo pos (starEach [msg] env)) []) := by
  have e : eval (.Call (.Attribute o name apos) [msg] [] pos) env = (do
    let ov ← attributeBase o name env (eval o env)
    standAt apos.atName
    methodCall o name apos pos env ov (1 + 0) (backTo pos (starEach [msg] env)) (backToKw pos (keywordEach [] env))) := rfl
  rw [e]
  unfold methodCall
  have hf : methodCallForm (1 + 0) (backTo pos (starEach [msg] env)) (backToKw pos (keywordEach [] env)) = true := by
    rw [hne]
    rfl
  simp only [hf, methodCallPos, hline, Bool.not_true, Bool.false_or, if_true]
  rfl
theorem x_init (T : XcTxt prog K C fI cc cda qual par scope msg) (S : XcScope scope par) {x t0 : Addr} {v : Value} (X : K.In s.heap) (hg : s.heap.Ns mainGlobals mg) (hb : s.heap.Ns builtinsNs mb) (hbb : ∀ x : Str, x ≠ "__name__" → mb x = bootBuiltins x)
    (hlim : s.heap.NoLimit) (hx : s.heap.get? x = some (excO C t0)) (hnx : K.lookup x = none) (hroom : A.depth < recursionLimit)
    (hmsg : ∀ (L : Addr) (A' : Around) (s' : Shared) (E' : Value → Shared → Prop) (Q : Value → Shared → Prop), s'.heap.Ns L (fun y => (([("self", Value.ref x), (par, v)] : List (Str × Value)).reverse.lookup y)) →
      (∀ m t tk, Q (.str m t) { s' with toks := tk }) → wpAny (model prog w) A' (eval msg (ksEnv qual scope L fI (.ref cda) cc)) Q E' s')
    (hbind : ∀ (p1 p2 : Pos) (body : List Stmt) (doc pm : Value) (an : Option Addr) (ct : Value), bindArgs (ksFn "__init__" qual (eArgs par p1 p2) body scope .none .none doc pm an (.ref cda) ct cc) ⟨[.ref x, v], []⟩ = pure ([("self", .ref x), (par, v)] : List (Str × Value)))
    (hne : ∀ (env : Env), starEach [msg] env = [(false, eval msg env)])
    (hq : ∀ h' tk dx t1, Inited s.heap h' x C dx t1 par v → R (.ok (.ret .none)) { s with heap := h', toks := tk }) :
    codeAny (model prog w) A (.call (.ref fI) ⟨[.ref x, v], []⟩) R s := by
  obtain ⟨oc, od, doc, pm, an, ct, osl, p1, p2, a1, a2, a3, a4, a5, q1, q2, q3, q4, hfI, hline⟩ := T.fn
  obtain ⟨ccl, cdd, vs, ccs, file, tf, hcode, hvs, hfile⟩ := T.code
  obtain ⟨cl, cld, csl, hcell⟩ := T.cell
  obtain ⟨cd, hcd, hmro, hdict⟩ := cls_of T
  have hnsf : ("self" : Str) ≠ par := fun z => S.ne z.symm
  refine ks_codeAny_call_defAt (body := eBody par msg a1 a2 a3 a4 a5 q1 q2 q3 q4) (binds := ([("self", .ref x), (par, v)] : List (Str × Value))) hroom (X _ _ hfI) rfl hlim (codeRec_of X T.cd) rfl (BindsTo.of_eq (hbind _ _ _ _ _ _ _)) S.nocell ?_ ?_ S.co S.gen S.kind
  · intro y hy
    simp only [List.mem_cons, List.not_mem_nil, or_false] at hy
    rcases hy with rfl | rfl
    · exact S.slf
    · exact S.prm
  intro h₁ hn k
  have hxL : s.heap.objs.size ≠ x := Nat.ne_of_gt (Heap.lt_size hx)
  have X₁ : K.In h₁ := X.keeps k
  have hx₁ := k _ _ hx
  have hg₁ := hg.keeps k
  have hb₁ := hb.keeps k
  obtain ⟨oD, hD1, hD2⟩ : ∃ oD, h₁.get? C = some oD ∧ oD.data = .cls cd := by
    have z := hcd
    unfold clsIn at z
    split at z
    · rename_i c d cd' sl ho
      cases z
      exact ⟨_, X₁ _ _ ho, rfl⟩
    · cases z
  have hself : (([("self", Value.ref x), (par, v)] : List (Str × Value)).reverse.lookup ("self" : Str)) = some (.ref x) := by
    have z : (("self" : Str) == par) = false := by simpa using hnsf
    simp [List.lookup, z]
  have hparv : (([("self", Value.ref x), (par, v)] : List (Str × Value)).reverse.lookup par) = some v := by simp [List.lookup]
  have hxC : x ≠ C := fun z => by
    rw [z, hD1] at hx₁
    rw [Option.some.inj hx₁] at hD2
    exact nomatch hD2
  refine ks_wpAt_execs_cons (ks_wpAt_Expr_any (hi := by show (scope.kind == .module && _) = false; rw [S.kind]; rfl) (ks_wpAt_MethodCall (he := call_text hline (hne _)) ?_))
  refine ks_wpAt_super_base (env := ksEnv qual scope s.heap.objs.size fI (.ref cda) cc) S.sup S.cls rfl rfl (X₁ _ _ hfI) rfl (ar := { arg := "self", annotation := none, pos := p1 }) rfl rfl (X₁ _ _ hcode) rfl hvs hfile T.top ?_
  refine ks_loadName_global S.kind S.sup (loadGlobal_builtin (env := ksEnv qual scope s.heap.objs.size fI (.ref cda) cc) hg₁ (mg_none_of X hg T.sup) hb₁ ((hbb _ (by decide +kernel)).trans (by first | rfl | kernel_rfl)) ⟨rfl, ?_⟩)
  refine wpAny_loadName_free S.kind S.cls rfl ⟨_, X₁ _ _ hcell, rfl⟩ ?_
  refine wpAny_loadName_local S.kind S.slf hn hself ?_
  refine ks_wpAny_isType_cls hD1 hD2 ⟨rfl, ?_⟩
  refine ks_wpAny_call_super hD1 hD2 hx₁ rfl (fun c e => nomatch e) (looks_mroIn X₁ T.self) (fun h2 e2 k2 => ?_)
  have X₂ : K.In h2 := X₁.keeps k2
  have hx₂ := k2 _ _ hx₁
  have I₂ : InstAt h2 x (excO C t0) C none := ⟨hx₂, rfl, rfl, trivial⟩
  have hm : alongIn K "__init__" ((cd.mro.dropWhile (· != .ref C)).drop 1) = some (some (.builtin "ValueError.__init__")) := by
    have z := T.sin
    unfold ks_superIn at z
    rw [hcd] at z
    exact z
  refine kxs_getMethod kxs_ValueError e2 (looks_opaque X₂ T.opq) (l₀ := cd.mro) ((looks_clsIn X₂ hcd).andThen .now) rfl X₂ hm (I₂.type.andThen (looks_subIn X₂ T.sub)) hxC rfl ?_
  have X₃ : K.In (h2.push (kxs_mw "ValueError.__init__" x)) := X₂.keeps fun b o e => Heap.get?_push_of_some _ e
  have k3 : ∀ b o, h2.get? b = some o → (h2.push (kxs_mw "ValueError.__init__" x)).get? b = some o := fun b o e => Heap.get?_push_of_some _ e
  have hn₃ : (h2.push (kxs_mw "ValueError.__init__" x)).Ns s.heap.objs.size (fun y => ([("self", Value.ref x), (par, v)] : List (Str × Value)).reverse.lookup y) := (hn.keeps k2).keeps k3
  rw [hne]
  refine kxs_callWith (i := "ValueError.__init__") (x := x) rfl ?_
  refine evalArgs_plain ?_
  refine spliced_cons ?_
  refine hmsg _ _ _ _ _ hn₃ fun m tm tk => ?_
  refine spliced_nil ?_
  refine ⟨show (h2.push (kxs_mw "ValueError.__init__" x)).get? h2.objs.size = _ from Heap.get?_push_at rfl rfl, ?_⟩
  refine x_base T X₃ (k3 _ _ hx₂) (Heap.get?_push_at rfl rfl) (Nat.le_trans (show 1 ≤ sizeLine by decide) (Nat.le_refl _)) fun h4 t1 k4 hx4 => ?_
  have hCx : x ≠ C := hxC
  have X₄ : K.In h4 := fun b o e => k4 b o (fun z => by rw [z, hnx] at e; cases e) (X₃ _ _ e)
  have hn₄ : h4.Ns s.heap.objs.size (fun y => ([("self", Value.ref x), (par, v)] : List (Str × Value)).reverse.lookup y) := hn₃.at (fun o q => k4 _ o hxL q)
  dsimp only
  refine wpAt_of_wpAny (wpAny_execs_cons (plainObj_wpAny_Assign_Attribute ?_))
  refine wpAny_Name (wpAny_loadName_local S.kind (show (ksEnv qual scope s.heap.objs.size fI (.ref cda) cc).kindOf par = some .local from S.prm) hn₄ hparv ?_) S.dbg
  refine wpAny_Name (wpAny_loadName_local S.kind (show (ksEnv qual scope s.heap.objs.size fI (.ref cda) cc).kindOf "self" = some .local from S.slf) hn₄ hself ?_) (by decide)
  refine set_plain X₄ (ox := excO C t1) (od := none) ⟨hx4, rfl, rfl, trivial⟩ T.sa ?_
  refine exc_osa X₄ hx4 hcd hmro hdict T.noN (fun h5 tk5 dx k5 dn dne hx5 hn5 => ?_)
  refine wpAny_execs_nil (hq h5 tk5 dx t1 ⟨fun b o hb e => k5 b o hb (k4 b o hb (k3 _ _ (k2 _ _ (k _ _ e)))), hx5, Nat.le_of_lt (Nat.lt_of_lt_of_le hn₄.lt dn), dne, hn5⟩)
theorem one_size (v : Value) : [v].length ≤ sizeLine := by
  rw [sizeLine_eq]
  exact (by decide : 1 ≤ 16777216)
/-- a made error -/
structure OwnMade (h h' : Heap) (e C d : Addr) (par : Str) (v : Value) : Prop where
  keep : ∀ b o, h.get? b = some o → h'.get? b = some o
  new : h.objs.size ≤ e
  obj : ∃ oe vs, h'.get? e = some oe ∧ oe.cls = .ref C ∧ oe.dict = some d ∧ oe.data = .fields vs ∧ vs[1]? = some .none
  dbig : h.objs.size ≤ d
  dne : d ≠ e
  ns : h'.Ns1 d (fun y => if y = par then some v else none)
theorem x_made (T : XcTxt prog K C fI cc cda qual par scope msg) (S : XcScope scope par) {v : Value} (X : K.In s.heap) (hg : s.heap.Ns mainGlobals mg) (hb : s.heap.Ns builtinsNs mb) (hbb : ∀ x : Str, x ≠ "__name__" → mb x = bootBuiltins x)
    (hlim : s.heap.NoLimit) (hroom : A.depth + 1 < recursionLimit)
    (hmsg : ∀ (x L : Addr) (A' : Around) (s' : Shared) (E' : Value → Shared → Prop) (Q : Value → Shared → Prop), s'.heap.Ns L (fun y => (([("self", Value.ref x), (par, v)] : List (Str × Value)).reverse.lookup y)) →
      (∀ m t tk, Q (.str m t) { s' with toks := tk }) → wpAny (model prog w) A' (eval msg (ksEnv qual scope L fI (.ref cda) cc)) Q E' s')
    (hbind : ∀ (x : Addr) (p1 p2 : Pos) (body : List Stmt) (doc pm : Value) (an : Option Addr) (ct : Value), bindArgs (ksFn "__init__" qual (eArgs par p1 p2) body scope .none .none doc pm an (.ref cda) ct cc) ⟨[.ref x, v], []⟩ = pure ([("self", .ref x), (par, v)] : List (Str × Value)))
    (hne : ∀ (env : Env), starEach [msg] env = [(false, eval msg env)])
    (hq : ∀ h' tk e d, OwnMade s.heap h' e C d par v → R (.ok (.ret (.ref e))) { s with heap := h', toks := tk }) :
    codeAny (model prog w) A (.call (.ref C) ⟨[v], []⟩) R s := by
  obtain ⟨nm, q, N, bs, bm, sn, sub, ab, col, dd, k0, k1, k2, k3, k5, hC, hbm⟩ := T.cls
  obtain ⟨hp, g, dr, tk, os⟩ := s
  have k : ∀ b o, hp.get? b = some o → ((hp.push (kdv_tup [v])).push (excO C hp.objs.size)).get? b = some o := fun b o e => Heap.get?_push_of_some _ (Heap.get?_push_of_some _ e)
  have hget : ((hp.push (kdv_tup [v])).push (excO C hp.objs.size)).get? (hp.objs.size + 1) = some (excO C hp.objs.size) := by heap_get
  have hnx : K.lookup (hp.objs.size + 1) = none := by
    cases e : K.lookup (hp.objs.size + 1) with
    | none => rfl
    | some o =>
      have z : hp.get? (hp.objs.size + 1) = some o := X _ _ e
      exact absurd (Nat.lt_of_succ_lt (Heap.lt_size z)) (Nat.lt_irrefl _)
  refine call_own F.excBase_ValueError (fun X => refsVE_contains X bm hbm) (X _ _ hC) (looks_findIn X T.iC) (fun self => bind_fn X self T.tC) (one_size v) ?_
  refine x_init (s := ⟨(hp.push (kdv_tup [v])).push (excO C hp.objs.size), g, dr, tk, os⟩) T S (X.keeps k) (hg.keeps k) (hb.keeps k) hbb (hlim.keeps k) hget hnx ?_ (hmsg _) (hbind _) hne fun h' tk' dx t1 ⟨k', hx, dn, dne, hns⟩ => ?_
  · show A.depth + 1 < recursionLimit
    exact hroom
  · have old : ∀ b o, hp.get? b = some o → h'.get? b = some o := fun b o e => k' b o (Nat.ne_of_lt (Nat.lt_succ_of_lt (Heap.lt_size e))) (k b o e)
    have z : hp.objs.size + 1 + 1 ≤ dx := by
      first
        | (simpa only [Heap.size_push] using dn)
        | exact dn
        | (have q := dn; rw [Heap.size_push, Heap.size_push] at q; exact q)
    exact ⟨rfl, hq h' tk' (hp.objs.size + 1) dx ⟨old, Nat.le_succ _, ⟨_, _, hx, rfl, rfl, rfl, rfl⟩, Nat.le_trans (Nat.le_trans (Nat.le_succ _) (Nat.le_succ _)) z, dne, hns⟩⟩
end
end LkX
end PySem
namespace PySem.W
open PySem PySem.Spec PySem.Calls PyProof.Rows
/-- isinstance of an own error with fields -/
theorem kitx_excD {K : Frag} {x D : Addr} {ox : Obj} {od : Option Obj} (hga : findIn K (.ref D) "__getattribute__" = some (some (.builtin "BaseException.__getattribute__"))) (hgt : findIn K (.ref D) "__getattr__" = some none) (hsub : subIn K (.ref D) (.type "BaseException") = some true) (hdct : hasDictIn K D = true) (ha : findIn K (.ref D) "__class__" = some (some (.builtin "object.__class__")))
    (hn : specialIn K (.builtin "object.__class__") "__get__" = some (some (.builtin "getset_descriptor.__get__"))) (htk : takesIn K (.builtin "object.__class__") = some true) (hm : mroIn K D (.type "object") = some true) :
    KitX K (.ref x) (.ref D) (fun h => InstAt h x ox D od) where
  ty := fun _ _ _ I => I.type
  it := fun _ _ X _ => by
    obtain ⟨cdD, hcD, _⟩ := any_some hdct
    unfold clsIn at hcD
    split at hcD
    · rename_i c' d' cd' sl' ho
      intro A' Q' E' s' k q
      unfold isType loadHead
      exact wpAny_bind (wpAny_loadPart (k _ _ (X _ _ ho)) (wpAny_pure q))
    · cases hcD
  ne := fun h tp dd its n sl X htp => by
    obtain ⟨cdD, hcD, _⟩ := any_some hdct
    refine Bool.eq_false_iff.mpr fun q => ?_
    have e : D = tp := Value.ref.inj (beq_iff_eq.mp q)
    subst e
    unfold clsIn at hcD
    split at hcD
    · rename_i c' d' cd' sl' ho
      have z := (X _ _ ho).symm.trans htp
      cases z
    · cases hcD
  ca := fun X I k => kx_classE X I hga hgt hsub (findObj_dataE (by obtain ⟨cd, hc, _⟩ := any_some hdct; rw [hc]; rfl) ha hn htk) hm k
end PySem.W
namespace Lk
open PySem PySem.Spec PyProof.Rows L2
open PySem.LkX
/-- all of an own error's class with one field -/
structure Err (P : Program) (w : World) (K : PySem.W.Frag) (mg : Str → Option Value) (name par : Str) (C : Addr) (ok : V → Prop) : Prop where
  txt : ∃ (fI cc cda : Addr) (qual : Str) (scope : Scope) (msg : Expr), XcTxt P K C fI cc cda qual par scope msg ∧ XcScope scope par ∧
    (∀ (v : V) (v' : Value), RelV v v' → ok v → ∀ (x L : Addr) (A' : Around) (s' : Shared) (E' : Value → Shared → Prop) (Q : Value → Shared → Prop), s'.heap.Ns L (fun y => (([("self", Value.ref x), (par, v')] : List (Str × Value)).reverse.lookup y)) →
      (∀ m t tk, Q (.str m t) { s' with toks := tk }) → wpAny (model P w) A' (eval msg (PySem.W.ksEnv qual scope L fI (.ref cda) cc)) Q E' s') ∧
    (∀ (v : Value) (x : Addr) (p1 p2 : Pos) (body : List Stmt) (doc pm : Value) (an : Option Addr) (ct : Value), bindArgs (PySem.W.ksFn "__init__" qual (eArgs par p1 p2) body scope .none .none doc pm an (.ref cda) ct cc) ⟨[.ref x, v], []⟩ = pure ([("self", .ref x), (par, v)] : List (Str × Value))) ∧
    (∀ (env : Env), starEach [msg] env = [(false, eval msg env)])
  gC : mg name = some (.ref C)
  kC : PySem.W.keepIn K (.ref C) = true
  ga : PySem.W.findIn K (.ref C) "__getattribute__" = some (some (.builtin "BaseException.__getattribute__"))
  gg : PySem.W.findIn K (.ref C) "__getattr__" = some none
  noN : PySem.W.findIn K (.ref C) par = some none
  exC : PySem.W.subIn K (.ref C) (.type "BaseException") = some true
  tyC : PySem.W.typeIn K (.ref C) = some (.type "type")
  hdC : PySem.W.hasDictIn K C = true
  te : PySem.W.exmOne K (.ref C) (.ref C) = some true
  ha : PySem.W.findIn K (.ref C) "__class__" = some (some (.builtin "object.__class__"))
  hn : PySem.W.specialIn K (.builtin "object.__class__") "__get__" = some (some (.builtin "getset_descriptor.__get__"))
  ht : PySem.W.takesIn K (.builtin "object.__class__") = some true
  hm : PySem.W.mroIn K C (.type "object") = some true
theorem relO_one {v : V} {v' : Value} {par : Str} (r : RelV v v') (f : Str) : RelO (List.lookup f [(par, v)]) (if f = par then some v' else none) := by
  by_cases hw : f = par
  · subst hw
    rw [if_pos rfl]
    have q : List.lookup f [(f, v)] = some v := by simp [List.lookup]
    rw [q]
    exact r
  · rw [if_neg hw]
    have qw : (f == par) = false := by simpa using hw
    have q2 : List.lookup f [(par, v)] = none := by simp [List.lookup, qw]
    rw [q2]
    trivial
section
variable {X : Cx} {C : Addr} {name par : Str} {ok : V → Prop}
def tMkE (C : Addr) (par : Str) (ok : V → Prop) (ta : TA) : L2.St → Hp → XK → Prop := fun σ H Q => ta σ H fun vs H1 => ∃ v, vs = [v] ∧ ok v ∧ ∀ d, H1 d = none → Q (.ref C) (some d) (upd H1 d (.xd [(par, v)]))
theorem pmk_err {a : Expr} {ta : TA} {p pos : Pos} {k : Nat} (T : Err X.prog X.w X.K X.mg name par C ok) (hr : Room (k + 1) X.A) (ha : PA X [a] ta) (hg : Gl X name := by rfl) (hdb : (name == ("__debug__" : Str)) = false := by decide)
    (he : starEach (a :: []) X.env = (false, eval a X.env) :: starEach [] X.env := by rfl) (hpl : (backTo pos (starEach [] X.env)).any (·.1) = false := by rfl) :
    PMk X (.Call (.Name name p) [a] [] pos) (tMkE C par ok ta) := by
  intro pins s σ H Q I h
  refine wpAny_Call_Name_kw (ld_glob I hg T.gC ?_ hdb)
  refine PySem.W.callWith_K (h₀ := X.base) I.ok.mod.kin T.kC (thn (ha.run pos pins s σ H _ I h) fun us s1 hh => ?_) he hpl
  obtain ⟨vs, H1, I1, r1, v, ev, okv, q1⟩ := hh
  subst ev
  refine ⟨I1.kIn, ?_⟩
  cases r1 with
  | cons rv rn =>
    rename_i v' us'
    cases rn
    show wpAny _ _ (call (.ref C) [v']) _ _ _
    have hlim := I1.nolimit
    obtain ⟨fI, cc, cda, qual, scope, msg, TX, SX, hmsg, hbind, hne⟩ := T.txt
    obtain ⟨mb, hb, hbb⟩ := I1.ok.mod.blt
    have hg1 := I1.ok.mod.glob.keeps I1.bk
    have hb1 := hb.keeps I1.bk
    obtain ⟨hp, g, dr, tk, os⟩ := s1
    refine wpAny_call (x_made TX SX I1.kIn hg1 hb1 hbb hlim (by have := hr.dp; omega) (hmsg v v' rv okv) (hbind v') hne fun h' tk' e d M => ?_)
    show MkP X pins σ Q (.ref e) ⟨h', g, dr, tk', os⟩
    obtain ⟨oe, fv, hoe, hc, hd, hdat, h1⟩ := M.obj
    have hns := M.ns
    obtain ⟨G', g1, g2⟩ := restrict h' fun b => decide (b ≠ e)
    have gk : ∀ b, b ≠ e → G'.get? b = h'.get? b := fun b hb => g1 b (decide_eq_true hb)
    have ge : G'.get? e = none := g2 e (by simp)
    have old : ∀ b o, hp.get? b = some o → G'.get? b = some o := fun b o q => (gk b (Nat.ne_of_lt (Nat.lt_of_lt_of_le (Heap.lt_size q) M.new))).trans (M.keep b o q)
    have ob : ObjOk X.prog X.w (upd H1 d (.xd [(par, v)])) G' d (.xd [(par, v)]) :=
      ⟨_, hns.at (fun o q => (gk d M.dne).trans q), fun f => relO_one rv f⟩
    have J : Inv X pins σ (upd H1 d (.xd [(par, v)])) ⟨G', g, dr, tk', os⟩ := I1.laid (t' := tk') old M.dbig ob
    refine ⟨e, oe, fv, ⟨G', g, dr, tk', os⟩, _, .ref C, some d, rfl, J, fun b o q => ?_, ge, hoe, ⟨hc, hd⟩, hdat, h1, ?_, rfl, I1.bare, raises_own T.exC T.tyC, q1 d (I1.hok.fresh M.dbig)⟩
    · by_cases hb : b = e
      · have q' : G'.get? b = some o := q
        rw [hb, ge] at q'; cases q'
      · exact (gk b hb).symm.trans q
    · rw [upd_ne (Ne.symm M.dne)]
      exact I1.hok.fresh M.new
/-- raise C(e) -/
def tRaiseE (C : Addr) (par : Str) (ok : V → Prop) (W : WX) (ta : TA) : TS := fun _ σ H => tMkE C par ok ta σ H fun cls d H' => W cls d σ H'
theorem ps_raiseE {a : Expr} {ta : TA} {W : WX} {p pos pos2 : Pos} {k : Nat} (hc : X.calm = true) (T : Err X.prog X.w X.K X.mg name par C ok) (hr : Room (k + 1) X.A) (tk : Takes X W) (ha : PA X [a] ta) (hg : Gl X name := by rfl) (hdb : (name == ("__debug__" : Str)) = false := by decide)
    (he : starEach (a :: []) X.env = (false, eval a X.env) :: starEach [] X.env := by rfl) (hpl : (backTo pos (starEach [] X.env)).any (·.1) = false := by rfl) :
    PS X (.Raise (some (.Call (.Name name p) [a] [] pos)) none pos2) (tRaiseE C par ok W ta) := ps_raise hc tk (pmk_err T hr ha hg hdb he hpl)
/-- e.field, e the exception that the suite holds -/
def tByE (C : Addr) (par : Str) (a : Addr) (cls : Value) (d : Option Addr) (te : TE) : TE := fun σ H Q => te σ H fun x H1 => x = .ref a ∧ cls = .ref C ∧ ∃ (dd : Addr) (v : V), d = some dd ∧ H1 dd = some (.xd [(par, v)]) ∧ Q v H1
theorem pe_byE {P : Program} {w : World} {K : PySem.W.Frag} {mg : Str → Option Value} {a : Addr} {oe : Obj} {cls : Value} {d : Option Addr} {pn : List (Addr × Obj)} {e : Expr} {te : TE} {pos : Pos} (hK : X.K = K) (T : Err P w K mg name par C ok) (hz : Zc cls d oe) (hf : ∃ vs, oe.data = .fields vs) (he : PE (X.suite a ((a, oe) :: pn)) e te)
    (hb : attributeBase e par X.env (eval e X.env) = eval e X.env := by rfl) :
    PE (X.suite a ((a, oe) :: pn)) (.Attribute e par pos) (tByE C par a cls d te) := by
  subst hK
  refine ⟨fun pins s σ H Q I h => ?_⟩
  refine attr_of hb (thn (he.run pins s σ H _ I h) fun u s1 hh => ?_)
  obtain ⟨x, H1, I1, rx, ex, ec, dd, v, ed, ea, q⟩ := hh
  subst ex
  obtain rfl : u = Value.ref a := rx
  subst ec
  subst ed
  obtain ⟨ha, _⟩ := I1.pin (a, oe) (List.mem_append_left _ List.mem_cons_self)
  obtain ⟨vs, hd⟩ := hf
  have hx : ObjOk X.prog X.w H1 s1.heap dd (.xd [(par, v)]) := I1.hok dd _ ea
  obtain ⟨mA, hns, hr⟩ := hx
  obtain ⟨od, ho, hl⟩ := lookIn_ns hns
  have l : List.lookup par [(par, v)] = some v := by simp [List.lookup]
  obtain ⟨u, hu, ru⟩ := RelO.some_of (v := v) (o := mA par) (by rw [← l]; exact hr par)
  have J : PySem.W.InstAt s1.heap a oe C (some od) := ⟨ha, hz.1, by unfold PySem.W.notCls; rw [hd] <;> rfl, by rw [hz.2]; exact ho⟩
  exact HandSPX.exc_get I1.kIn J T.ga T.gg T.exC (PySem.W.findObj_own T.hdC T.noN rfl (by rw [hl, hu])) (handed_of ru) ⟨v, H1, I1.tok _, ru, q⟩
/-- isinstance(e, c) -/
def rIsD (K : PySem.W.Frag) (C a : Addr) (cls : Value) (d : Option Addr) : List V → Hp → VK → Prop := fun xs H Q => ∃ (c : V) (cv : Value) (b : Bool) (dd : Addr) (fs : List (Str × V)), xs = [.ref a, c] ∧ cls = .ref C ∧ d = some dd ∧ H dd = some (.xd fs) ∧ (∀ u, RelV c u → u = cv) ∧ PySem.W.kitOne K (.ref C) cv = some b ∧ Q (.bl b) H
theorem call_isD {P : Program} {w : World} {K : PySem.W.Frag} {mg : Str → Option Value} {a : Addr} {oe : Obj} {cls : Value} {d : Option Addr} {pn : List (Addr × Obj)} (hK : X.K = K) (T : Err P w K mg name par C ok) (hz : Zc cls d oe) (hf : ∃ vs, oe.data = .fields vs) : CallR (X.suite a ((a, oe) :: pn)) (.builtin "isinstance") (rIsD K C a cls d) := by
  subst hK
  intro pins s σ H xs us Q I r h
  obtain ⟨c, cv, b, dd, fs, rfl, ec, ed, hdd, hcv, e, q⟩ := h
  subst ec
  subst ed
  cases r with
  | cons rx rr =>
    cases rr with
    | cons rt rr =>
      cases rr
      cases rx
      have ec := hcv _ rt
      subst ec
      obtain ⟨hget, _⟩ := I.pin (a, oe) (List.mem_append.mpr (.inl List.mem_cons_self))
      obtain ⟨vs, hv⟩ := hf
      have hx : ObjOk X.prog X.w H s.heap dd (.xd fs) := I.hok dd _ hdd
      obtain ⟨mA, hns, hr⟩ := hx
      obtain ⟨od, ho, hl⟩ := lookIn_ns hns
      have J : PySem.W.InstAt s.heap a oe C (some od) := ⟨hget, hz.1, by unfold PySem.W.notCls; rw [hv] <;> rfl, by rw [hz.2]; exact ho⟩
      exact PySem.W.kia_one (PySem.W.kitx_excD T.ga T.gg T.exC T.hdC T.ha T.hn T.ht T.hm) I.kIn J e (fun z => nomatch z) fun tk => ⟨.bl b, H, I.kept (t' := tk) fun _ _ z => z, rfl, q⟩
end
end Lk

namespace Lk
open PySem PySem.Spec PyProof.Rows L2
/-- the truth of an int -/
def tTrI (ta : TE) : TT := fun σ H Q => ta σ H fun x H' => ∃ i, x = .int i ∧ Q (i != 0) H'
theorem pt_int1 {X : Cx} {a : Expr} {ta : TE} (ha : PE X a ta) (he : ∀ whole, isTrue a X.env whole = (do let v ← whole; standAt a.pos; holding [v] (truthy v))) : PT X a (tTrI ta) := by
  refine ⟨fun pins s σ H Q I h => ?_⟩
  exact isTrue_plain (thn (ha.run pins s σ H _ I h) fun v s1 ⟨x, H1, I1, r1, q1⟩ => by
    obtain ⟨i, rfl, q⟩ := q1
    exact tru_ok pins s1 σ H1 (.int i) v Q I1 r1 ⟨_, rfl, q⟩) (he _)
section
variable {K : PySem.W.Frag} {σ : L2.St} {H : Hp} {Q : VK} {te : TE} {t : TA} {x : V}
theorem a_trI {R : Bool → Hp → Prop} (q : te σ H fun x H' => ∃ i, x = .int i ∧ R (i != 0) H') : tTrI te σ H R := q
theorem a_raiseE {C : Addr} {par : Str} {ok : V → Prop} {W : WX} {D : Ends} (q : t σ H fun vs H1 => ∃ v, vs = [v] ∧ ok v ∧ ∀ d, H1 d = none → W (.ref C) (some d) σ (upd H1 d (.xd [(par, v)]))) : tRaiseE C par ok W t D σ H := q
theorem a_byE {C a : Addr} {par : Str} {cls : Value} {d : Option Addr} (q : te σ H fun x H1 => x = .ref a ∧ cls = .ref C ∧ ∃ (dd : Addr) (v : V), d = some dd ∧ H1 dd = some (.xd [(par, v)]) ∧ Q v H1) : tByE C par a cls d te σ H Q := q
theorem a_callS {sp : Sp} {E : L2.St → XK} (q : t σ H fun vs H1 => sp vs H1 Q (E σ)) : tCallS sp E t σ H Q := q
theorem a_notN (q : Q (.bl (!decide (x = .non))) H) : (fun x y H Q => y = V.non ∧ Q (V.bl (!decide (x = .non))) H : R2) x .non H Q := ⟨rfl, q⟩
end
end Lk

namespace Lk
open PySem PySem.Spec PyProof.Rows L2
/-! ### the truth of a list -/
def tTrL (K : PySem.W.Frag) (ta : TE) : TT := fun σ H Q => ta σ H fun x H' => ∃ a xs, x = .ref a ∧ SqL K H' a xs ∧ Q (!xs.isEmpty) H'
theorem ptL_ {X : Cx} {K : PySem.W.Frag} (h : X.K = K) {a : Expr} {ta : TE} (ha : PE X a ta) (he : ∀ whole, isTrue a X.env whole = (do let v ← whole; standAt a.pos; holding [v] (truthy v))) : PT X a (tTrL K ta) := by
  subst h
  refine ⟨fun pins s σ H Q I h => ?_⟩
  exact isTrue_plain (thn (ha.run pins s σ H _ I h) fun v s1 ⟨x, H1, I1, r1, q1⟩ => by
    obtain ⟨a, xs, rfl, hx, q⟩ := q1
    exact tru_ok pins s1 σ H1 (.ref a) v Q I1 r1 ⟨_, .inl ⟨xs, hx, rfl⟩, q⟩) (he _)
theorem bm0K_ {X : Cx} {K : PySem.W.Frag} {e : Expr} {T : String} {r : V → List V → Hp → VK → Prop} {to : TE} (h : X.K = K) (hl : PE X e (tBM0 X.K T r to)) : PE X e (tBM0 K T r to) := by subst h; exact hl
theorem listK_ {X : Cx} {K : PySem.W.Frag} (h : X.K = K) : CallR X (.type "list") (fun xs H Q => ∃ p ys, xs = [.ref p] ∧ (SqL K H p ys ∨ SqT K H p ys) ∧ ∀ l, H l = none → Q (.ref l) (upd H l (.lst ys))) := by subst h; exact call_list_of
section
variable {K : PySem.W.Frag} {σ : L2.St} {H : Hp} {Q : VK} {te : TE} {t : TA} {x : V} {i j : Int}
theorem a_trL {R : Bool → Hp → Prop} (q : te σ H fun x H' => ∃ a xs, x = .ref a ∧ SqL K H' a xs ∧ R (!xs.isEmpty) H') : tTrL K te σ H R := q
theorem a_bm0 {T : String} {r : V → List V → Hp → VK → Prop} {to : TE} (q : to σ H fun x H1 => tyV K T x H1 ∧ r x [] H1 Q) : tBM0 K T r to σ H Q := q
theorem a_extl {a : Addr} {xs : List V} {P : Bool → Prop} (h : SqL K H a xs) (q : P (!xs.isEmpty)) : ∃ a' xs, V.ref a = .ref a' ∧ SqL K H a' xs ∧ P (!xs.isEmpty) := ⟨a, xs, rfl, h, q⟩
theorem a_rng2 {R : It → Hp → Prop} (q : t σ H fun vs H1 => ∃ i j : Int, vs = [.int i, .int j] ∧ (-(2 ^ 62) ≤ i ∧ i < 2 ^ 62 ∧ -(2 ^ 62) ≤ j ∧ j < 2 ^ 62) ∧ R (Itr i (j - i).toNat) H1) : iRng2 t σ H R := q
theorem a_exrng2 {P : Int → Int → Prop} (h : -(2 ^ 62) ≤ i ∧ i < 2 ^ 62 ∧ -(2 ^ 62) ≤ j ∧ j < 2 ^ 62) (q : P i j) : ∃ i' j' : Int, [V.int i, V.int j] = [.int i', .int j'] ∧ (-(2 ^ 62) ≤ i' ∧ i' < 2 ^ 62 ∧ -(2 ^ 62) ≤ j' ∧ j' < 2 ^ 62) ∧ P i' j' := ⟨i, j, rfl, h, q⟩
theorem a_rng3 {R : It → Hp → Prop} (q : t σ H fun vs H1 => ∃ (i j c : Int) (n : Nat), vs = [.int i, .int j, .int c] ∧ RgC i j c n ∧ R (Itc i c n) H1) : iRng3 t σ H R := q
theorem a_exrng3 {P : Int → Int → Nat → Prop} (h : -(2 ^ 62) ≤ i ∧ i < 2 ^ 62 ∧ -(2 ^ 62) ≤ j ∧ j < 2 ^ 62) (q : P i (-1) (i - j).toNat) : ∃ (i' j' c : Int) (n : Nat), [V.int i, V.int j, V.int (-1)] = [.int i', .int j', .int c] ∧ RgC i' j' c n ∧ P i' c n :=
  ⟨i, j, -1, _, rfl, RgC.neg h.1 h.2.1 h.2.2.1 h.2.2.2, q⟩
theorem a_max2 {P : Int → Prop} (q : P (if j > i then j else i)) : ∃ i' j', [V.int i, V.int j] = [.int i', .int j'] ∧ P (if j' > i' then j' else i') := ⟨i, j, rfl, q⟩
theorem a_min2 {P : Int → Prop} (q : P (if j < i then j else i)) : ∃ i' j', [V.int i, V.int j] = [.int i', .int j'] ∧ P (if j' < i' then j' else i') := ⟨i, j, rfl, q⟩
theorem a_list {a : Addr} {xs : List V} {P : Addr → List V → Prop} (h : SqL K H a xs) (q : P a xs) : ∃ p ys, [V.ref a] = [.ref p] ∧ (SqL K H p ys ∨ SqT K H p ys) ∧ P p ys := ⟨a, xs, rfl, .inl h, q⟩
theorem a_lstRg {tr : L2.St → Hp → (Int → Int → Hp → Prop) → Prop} (q : tr σ H fun a b H1 => RgOk a b ∧ ∀ q, H1 q = none → Q (.ref q) (upd H1 q (.lst (rgV a b)))) : tLstRg tr σ H Q := q
theorem a_rg1 {R : Int → Int → Hp → Prop} (q : te σ H fun x H1 => ∃ n, x = .int n ∧ R 0 n H1) : tRg1 te σ H R := q
theorem a_popL {a : Addr} {xs : List V} {y : V} (h : H a = some (.lst (xs ++ [y]))) (q : Q y (upd H a (.lst xs))) : rPop (.ref a) [] H Q := by
  refine ⟨a, xs ++ [y], y, rfl, rfl, h, ?_, ?_⟩
  · simp
  · rw [List.dropLast_concat]
    exact q
end
section
variable {g : TG} {tb : TS} {σ : L2.St} {H : Hp} {nx : L2.St → Hp → Prop} {rt : VK}
theorem fo_rng2 {lo : Int} {n : Nat} (Pv : Nat → L2.St → Hp → Prop) (h0 : Pv 0 σ H)
    (hs : ∀ i σ H, i < n → Pv i σ H → g (.int (lo + (i : Int))) σ H fun σ2 H2 => tb ⟨Pv (i + 1), rt, nx, Pv (i + 1)⟩ σ2 H2) (hd : ∀ σ H, Pv n σ H → nx σ H) :
    ∃ W : Nat → Nat → L2.St → Hp → Prop, (∃ m, W 0 m σ H) ∧ ∀ i m σ H, W i m σ H →
      ((Itr lo n).stop i H ∧ nx σ H) ∨ ((Itr lo n).go i H ∧ ∃ N : L2.St → Hp → Prop, (∀ σ' H', N σ' H' → ∃ m', m' < m ∧ W (i + 1) m' σ' H') ∧ ∀ x H', (Itr lo n).yld i H x H' → g x σ H' fun σ2 H2 => tb ⟨N, rt, nx, N⟩ σ2 H2) :=
  for_range (lo := lo) (D := ⟨nx, rt, fun _ _ => False, fun _ _ => False⟩) Pv h0 hs hd
theorem fo_down {lo : Int} {n : Nat} (Pv : Nat → L2.St → Hp → Prop) (h0 : Pv 0 σ H)
    (hs : ∀ i σ H, i < n → Pv i σ H → g (.int (lo - (i : Int))) σ H fun σ2 H2 => tb ⟨Pv (i + 1), rt, nx, Pv (i + 1)⟩ σ2 H2) (hd : ∀ σ H, Pv n σ H → nx σ H) :
    ∃ W : Nat → Nat → L2.St → Hp → Prop, (∃ m, W 0 m σ H) ∧ ∀ i m σ H, W i m σ H →
      ((Itc lo (-1) n).stop i H ∧ nx σ H) ∨ ((Itc lo (-1) n).go i H ∧ ∃ N : L2.St → Hp → Prop, (∀ σ' H', N σ' H' → ∃ m', m' < m ∧ W (i + 1) m' σ' H') ∧ ∀ x H', (Itc lo (-1) n).yld i H x H' → g x σ H' fun σ2 H2 => tb ⟨N, rt, nx, N⟩ σ2 H2) :=
  for_rangeC (lo := lo) (c := -1) (D := ⟨nx, rt, fun _ _ => False, fun _ _ => False⟩) Pv h0 (fun i σ H hi p => by
    have e : lo + (i : Int) * -1 = lo - (i : Int) := by omega
    rw [e]
    exact hs i σ H hi p) hd
end
/-- a comprehension over a list of ints, with a test -/
theorem c_lstF {K : PySem.W.Frag} {σ : L2.St} {H : Hp} {Q : VK} {te tl : TE} {tt : TT} {vs : List Nat} {a : Addr} {k : Nat} {xs : List Int} (f : Int → Bool) (hv : vs = [k]) (ht : ∀ R : VK, R (.ref a) H → tl σ H R) (hx : SqL K H a (xs.map V.int)) (hz : xs.length ≤ 1000000)
    (hc : ∀ x : Int, ∀ H' (R : Bool → Hp → Prop), Same H H' → R (f x) H' → tt ((wipe σ [k]).set k (some (.int x))) H' R)
    (he : ∀ x : Int, f x = true → ∀ H' (R : VK), Same H H' → R (.int x) H' → te ((wipe σ [k]).set k (some (.int x))) H' R)
    (q : ∀ D H', H D = none → Same H H' → H' D = some (.lst ((xs.filter f).map V.int)) → Q (.ref D) H') : tLc (iList K tl) (gName k) tt te vs σ H Q := by
  subst hv
  refine ht (fun x H1 => ∃ a, x = .ref a ∧ (∃ xs, SqL K H1 a xs) ∧ _) ⟨a, rfl, ⟨_, hx⟩, ?_⟩
  intro D hD
  refine lc_list (K := K) (a := a) (xs := xs.map V.int) (Qd := Q (.ref D)) (fun i H' => Same H H' ∧ H' D = some (.lst (((xs.take i).filter f).map V.int))) ⟨same_upd hD, upd_same⟩ (fun i H' _ h => h.1.seq hx) ?_ ?_
  · rintro i x H' hi ⟨s, e⟩
    obtain ⟨n, hn, rfl⟩ := getV hi
    have hlen := (List.getElem?_eq_some_iff.mp hn).1
    refine a_gname ⟨wipe1, ?_⟩
    refine hc n H' _ s ?_
    have ht : xs.take (i + 1) = xs.take i ++ [n] := (take_app hn).symm
    cases hf : f n with
    | true =>
      refine ift (he n hf H' _ s ?_)
      refine ⟨_, e, ?_, smut s hD, ?_⟩
      · refine szl ?_
        rw [List.length_map]
        refine Nat.le_trans (List.length_filter_le _ _) ?_
        rw [List.length_take]
        omega
      · rw [upd_same, ht, List.filter_append, List.map_append]
        simp [List.filter, hf]
    | false =>
      refine iff' ⟨s, ?_⟩
      rw [e, ht, List.filter_append]
      simp [List.filter, hf]
  · rintro H' ⟨s, e⟩
    refine q D H' hD s ?_
    rw [e, List.length_map, List.take_length]
/-! ### == of two lists of ints -/
theorem eqv_ints : ∀ a b : List Int, PyData.eqvAll (dInts a) (dInts b) = decide (a = b)
  | [], [] => by unfold dInts; simp [PyData.eqvAll]
  | [], y :: s => by unfold dInts; simp [PyData.eqvAll]
  | x :: r, [] => by unfold dInts; simp [PyData.eqvAll]
  | x :: r, y :: s => by
    have ih := eqv_ints r s
    unfold dInts at *
    rw [List.map_cons, List.map_cons]
    simp only [PyData.eqvAll, ih, PyData.eqv]
    by_cases h : x = y
    · subst h
      simp
    · simp [h]
theorem eqL_ints {K : PySem.W.Frag} {H : Hp} {Q : VK} {a b : Addr} {l m : List Int} (ha : H a = some (.lst (l.map V.int))) (hb : H b = some (.lst (m.map V.int))) (q : Q (.bl (decide (l = m))) H) : rEqD K (.ref a) (.ref b) H Q := by
  refine a_eqD (dp_lst ha) (dp_lst hb) (shaped_flat (flat1 l) (by decide)) (shaped_flat (flat1 m) (by decide)) ?_
  have : PyData.eqv (.list (dInts l)) (.list (dInts m)) = decide (l = m) := by
    rw [← eqv_ints]
    simp [PyData.eqv]
  rw [this]
  exact q
/-- xs[::-1] -/
theorem bounds_rev (n : Nat) : sliceBounds none none (some (-1)) n = ((n : Int) - 1, -1, -1) := by simp [sliceBounds]
theorem range_down (n : Nat) : sliceRange ((n : Int) - 1) (-1) (-1) = (List.range n).map (fun k => n - 1 - k) := by
  unfold sliceRange
  by_cases h : (n : Int) - 1 > -1
  · have e : ((n : Int) - 1 - -1 - -1 - 1) / (- -1) = (n : Int) := by
      rw [show (- -1 : Int) = 1 from rfl, Int.ediv_one]
      omega
    simp only [show ¬ ((-1 : Int) > 0) by decide, if_false, h, if_true, e, Int.toNat_natCast]
    apply List.map_congr_left
    intro k hk
    have := List.mem_range.1 hk
    omega
  · have e : n = 0 := by omega
    subst e
    simp
theorem pick_rev (g : Nat → V) (m : Nat) : pickV ((List.range m).map g) none none (some (-1)) = (List.range m).map fun k => g (m - 1 - k) := by
  unfold pickV
  rw [List.length_map, List.length_range, bounds_rev, range_down, List.filterMap_map]
  refine fm_some _ _ _ fun k hk => ?_
  have := List.mem_range.1 hk
  show ((List.range m).map g)[m - 1 - k]? = _
  rw [List.getElem?_map, List.getElem?_range (by omega)]
  rfl
end Lk

namespace Lk
/-! ### numbers modulo p -/
def C (p a b : Int) : Prop := a % p = b % p
theorem C.refl {p : Int} (a : Int) : C p a a := rfl
theorem C.symm {p a b : Int} (h : C p a b) : C p b a := Eq.symm h
theorem C.trans {p a b c : Int} (h : C p a b) (k : C p b c) : C p a c := Eq.trans h k
theorem C.of {p a b : Int} (h : a = b) : C p a b := by rw [h]; exact rfl
theorem C.add {p a b c d : Int} (h : C p a b) (k : C p c d) : C p (a + c) (b + d) := by
  unfold C at *
  rw [Int.add_emod, h, k, ← Int.add_emod]
theorem C.mul {p a b c d : Int} (h : C p a b) (k : C p c d) : C p (a * c) (b * d) := by
  unfold C at *
  rw [Int.mul_emod, h, k, ← Int.mul_emod]
theorem C.mod {p a : Int} : C p (a % p) a := Int.emod_emod_of_dvd a (Int.dvd_refl p)
theorem C.eq {p a b : Int} (h : C p a b) (h0 : 0 ≤ b) (h1 : b < p) : a % p = b := by
  unfold C at h
  rw [h, Int.emod_eq_of_lt h0 h1]
theorem C.pow {p a b : Int} (h : C p a b) : ∀ n : Nat, C p (a ^ n) (b ^ n)
  | 0 => C.of (by rw [Int.pow_zero, Int.pow_zero])
  | n + 1 => by
    rw [Int.pow_succ, Int.pow_succ]
    exact C.mul (C.pow h n) h
/-! ### trial division -/
def PrimeI (n : Int) : Prop := 2 ≤ n ∧ ∀ k : Int, 2 ≤ k → k * k ≤ n → n % k ≠ 0
open Classical in
noncomputable def isP (n : Int) : Bool := decide (PrimeI n)
theorem isP_t {n : Int} (h : PrimeI n) : isP n = true := by
  unfold isP
  exact @decide_eq_true _ (Classical.propDecidable _) h
theorem isP_f {n : Int} (h : ¬ PrimeI n) : isP n = false := by
  unfold isP
  exact @decide_eq_false _ (Classical.propDecidable _) h
noncomputable def goodM (n : Int) : Bool := decide (n ≤ 2147483647) && isP n
theorem good_isP {n : Int} (h1 : n ≤ 2147483647) : goodM n = isP n := by
  unfold goodM
  rw [decide_eq_true h1, Bool.true_and]
theorem good_big {n : Int} (h1 : ¬ n ≤ 2147483647) : goodM n = false := by
  unfold goodM
  rw [decide_eq_false h1, Bool.false_and]
theorem good_low {n : Int} (h1 : n < 2) : goodM n = false := by
  rw [good_isP (by omega)]
  exact isP_f fun z => by have := z.1; omega
theorem isP_small {n : Int} (h : n < 4) : isP n = decide (1 < n) := by
  by_cases h1 : 1 < n
  · rw [decide_eq_true h1]
    refine isP_t ⟨by omega, fun k hk hkk => ?_⟩
    have : 2 * 2 ≤ k * k := Int.mul_le_mul hk hk (by omega) (by omega)
    omega
  · rw [decide_eq_false h1]
    exact isP_f fun z => by have := z.1; omega
theorem isP_even {n : Int} (h : 4 ≤ n) (h2 : n % 2 = 0) : isP n = false := isP_f fun z => z.2 2 (by omega) (by omega) h2
/-- nothing below d divides -/
def None (n d : Int) : Prop := ∀ k, 2 ≤ k → k < d → n % k ≠ 0
theorem isP_found {n d : Int} (h2 : 2 ≤ d) (hd : d * d ≤ n) (h : n % d = 0) : isP n = false := isP_f fun z => z.2 d h2 hd h
theorem isP_end {n d : Int} (hn : 2 ≤ n) (h : None n d) (h2 : 2 ≤ d) (hd : ¬ d * d ≤ n) : isP n = true := by
  refine isP_t ⟨hn, fun k hk hkk => h k hk ?_⟩
  by_cases hlt : k < d
  · exact hlt
  · have : d * d ≤ k * k := Int.mul_le_mul (by omega) (by omega) (by omega) (by omega)
    omega
theorem none_two {n : Int} : None n 2 := fun k _ _ => by omega
theorem none_three {n : Int} (h : ¬ n % 2 = 0) : None n 3 := fun k h1 h2 => by
  have : k = 2 := by omega
  rw [this]
  exact h
theorem none_one {n d : Int} (h : None n d) (hd : ¬ n % d = 0) : None n (d + 1) := fun k h1 h2 => by
  by_cases e : k = d
  · rw [e]; exact hd
  · exact h k h1 (by omega)
theorem none_next {n d : Int} (h : None n d) (hd : ¬ n % d = 0) (ho : d % 2 = 1) (hn : ¬ n % 2 = 0) : None n (d + 2) := fun k h1 h2 => by
  by_cases e : k = d + 1
  · intro z
    refine hn ?_
    have h3 : (k : Int) ∣ n := Int.dvd_of_emod_eq_zero z
    have h4 : (2 : Int) ∣ k := ⟨(d + 1) / 2, by omega⟩
    have h5 := Int.dvd_trans h4 h3
    omega
  · exact none_one h hd k h1 (by omega)
theorem sq_le {d n : Int} (h : 1 ≤ d) (hd : d * d ≤ n) : d ≤ n := by
  have : d * 1 ≤ d * d := Int.mul_le_mul_of_nonneg_left h (by omega)
  omega
def primes11 : List Int := [2, 3, 5, 7, 11, 13, 97, 251, 65537, 1000003, 2147483647]
/-! ### powers -/
theorem pow_start {p b : Int} {e : Nat} : C p (1 * (b % p) ^ e) (b ^ e) := by
  rw [Int.one_mul]
  exact C.pow C.mod e
theorem pow_one {p r b l : Int} {x : Int} (hl : 0 < l) (h : C p (r * b ^ l.toNat) x) : C p (r * b % p * b ^ (l - 1).toNat) x := by
  refine C.trans (C.mul C.mod (C.refl _)) (C.trans (C.of ?_) h)
  have e : l.toNat = (l - 1).toNat + 1 := by omega
  rw [e, Int.pow_succ, Int.mul_assoc, Int.mul_comm b]
theorem pow_odd {p r s l : Int} {x : Int} (hl : 0 < l) (ho : l % 2 = 1) (h : C p (r * s ^ l.toNat) x) : C p (r * s % p * (s * s % p) ^ (l / 2 ^ (1 : Int).toNat).toNat) x := by
  refine C.trans (C.mul C.mod (C.pow C.mod _)) (C.trans (C.of ?_) h)
  have e : l.toNat = 2 * (l / 2 ^ (1 : Int).toNat).toNat + 1 := by
    show l.toNat = 2 * (l / 2).toNat + 1
    omega
  rw [e, Int.pow_succ, Int.pow_mul]
  have : s * s = s ^ 2 := by rw [Int.pow_succ, Int.pow_succ, Int.pow_zero, Int.one_mul]
  rw [this, Int.mul_assoc, Int.mul_comm s]
theorem pow_even {p r s l : Int} {x : Int} (hl : 0 < l) (ho : l % 2 = 0) (h : C p (r * s ^ l.toNat) x) : C p (r * (s * s % p) ^ (l / 2 ^ (1 : Int).toNat).toNat) x := by
  refine C.trans (C.mul (C.refl _) (C.pow C.mod _)) (C.trans (C.of ?_) h)
  have e : l.toNat = 2 * (l / 2 ^ (1 : Int).toNat).toNat := by
    show l.toNat = 2 * (l / 2).toNat
    omega
  rw [e, Int.pow_mul]
  have : s * s = s ^ 2 := by rw [Int.pow_succ, Int.pow_succ, Int.pow_zero, Int.one_mul]
  rw [this]
theorem primes_in {p : Int} (h : p ∈ primes11) : 2 ≤ p ∧ p ≤ 2147483647 := by
  simp only [primes11, List.mem_cons, List.not_mem_nil, or_false] at h
  omega
theorem half_odd {p a l : Int} (hl : 0 ≤ l) (ho : l % 2 = 1) : a ^ l.toNat % p = a ^ (l / 2).toNat % p * (a ^ (l / 2).toNat % p) % p * a % p := by
  have h : C p (a ^ (l / 2).toNat % p * (a ^ (l / 2).toNat % p) % p * a) (a ^ l.toNat) := by
    refine C.trans (C.mul (C.mod.trans (C.mul C.mod C.mod)) (C.refl a)) (C.of ?_)
    have e : l.toNat = (l / 2).toNat + (l / 2).toNat + 1 := by omega
    rw [e, Int.pow_succ, Int.pow_add]
  exact h.symm
theorem half_even {p a l : Int} (hl : 0 ≤ l) (ho : ¬ l % 2 = 1) : a ^ l.toNat % p = a ^ (l / 2).toNat % p * (a ^ (l / 2).toNat % p) % p := by
  have h : C p (a ^ (l / 2).toNat % p * (a ^ (l / 2).toNat % p)) (a ^ l.toNat) := by
    refine C.trans (C.mul C.mod C.mod) (C.of ?_)
    have e : l.toNat = (l / 2).toNat + (l / 2).toNat := by omega
    rw [e, Int.pow_add]
  exact h.symm
end Lk

namespace Lk
/-! ### Fermat's little theorem -/
def ch : Nat → Nat → Nat
  | _, 0 => 1
  | 0, _ + 1 => 0
  | n + 1, k + 1 => ch n k + ch n (k + 1)
theorem ch_n0 : ∀ n, ch n 0 = 1
  | 0 => rfl
  | _ + 1 => rfl
theorem ch_mul : ∀ n k, (k + 1) * ch (n + 1) (k + 1) = (n + 1) * ch n k
  | 0, 0 => rfl
  | 0, k + 1 => by
    show (k + 1 + 1) * (0 + 0) = (0 + 1) * 0
    omega
  | n + 1, 0 => by
    have ih := ch_mul n 0
    show (0 + 1) * (ch (n + 1) 0 + ch (n + 1) (0 + 1)) = (n + 1 + 1) * ch (n + 1) 0
    rw [ch_n0] at *
    omega
  | n + 1, k + 1 => by
    have i1 := ch_mul n k
    have i2 := ch_mul n (k + 1)
    show (k + 1 + 1) * (ch (n + 1) (k + 1) + ch (n + 1) (k + 1 + 1)) = (n + 1 + 1) * ch (n + 1) (k + 1)
    have e : ch (n + 1) (k + 1) = ch n k + ch n (k + 1) := rfl
    rw [Nat.mul_add, i2, Nat.add_mul (k + 1) 1, i1, Nat.one_mul, Nat.add_mul (n + 1) 1, Nat.one_mul]
    have : (n + 1) * ch (n + 1) (k + 1) = (n + 1) * ch n k + (n + 1) * ch n (k + 1) := by rw [e, Nat.mul_add]
    omega
theorem ch_zero : ∀ n k, n < k → ch n k = 0
  | _, 0, h => by omega
  | 0, k + 1, _ => rfl
  | n + 1, k + 1, h => by
    show ch n k + ch n (k + 1) = 0
    rw [ch_zero n k (by omega), ch_zero n (k + 1) (by omega)]
theorem ch_self : ∀ n, ch n n = 1
  | 0 => rfl
  | n + 1 => by
    show ch n n + ch n (n + 1) = 1
    rw [ch_self n, ch_zero n (n + 1) (by omega)]
def sm (f : Nat → Nat) : Nat → Nat
  | 0 => 0
  | m + 1 => sm f m + f m
theorem sm_step (n x : Nat) : ∀ m, sm (fun k => ch (n + 1) k * x ^ k) (m + 1) = x * sm (fun k => ch n k * x ^ k) m + sm (fun k => ch n k * x ^ k) (m + 1)
  | 0 => by
    show 0 + ch (n + 1) 0 * x ^ 0 = x * 0 + (0 + ch n 0 * x ^ 0)
    rw [ch_n0, ch_n0]
    omega
  | m + 1 => by
    have ih := sm_step n x m
    show sm (fun k => ch (n + 1) k * x ^ k) (m + 1) + (ch n m + ch n (m + 1)) * x ^ (m + 1) = x * (sm (fun k => ch n k * x ^ k) m + ch n m * x ^ m) + (sm (fun k => ch n k * x ^ k) (m + 1) + ch n (m + 1) * x ^ (m + 1))
    rw [ih, Nat.add_mul, Nat.mul_add, Nat.pow_succ]
    have : x * (ch n m * x ^ m) = ch n m * (x ^ m * x) := by
      rw [Nat.mul_comm x, Nat.mul_assoc]
    omega
theorem binom (x : Nat) : ∀ n, (x + 1) ^ n = sm (fun k => ch n k * x ^ k) (n + 1)
  | 0 => by
    show 1 = 0 + 1 * x ^ 0
    rw [Nat.pow_zero]
  | n + 1 => by
    rw [Nat.pow_succ, binom x n, sm_step n x (n + 1)]
    have e : sm (fun k => ch n k * x ^ k) (n + 1 + 1) = sm (fun k => ch n k * x ^ k) (n + 1) := by
      show sm (fun k => ch n k * x ^ k) (n + 1) + ch n (n + 1) * x ^ (n + 1) = _
      rw [ch_zero n (n + 1) (by omega)]
      omega
    rw [e, Nat.mul_add, Nat.mul_one, Nat.mul_comm]
def Pr (p : Nat) : Prop := 2 ≤ p ∧ ∀ d, d ∣ p → d = 1 ∨ d = p
theorem cop {p m : Nat} (h : Pr p) (h1 : 0 < m) (h2 : m < p) : Nat.Coprime p m := by
  rcases h.2 _ (Nat.gcd_dvd_left p m) with e | e
  · exact e
  · have := Nat.le_of_dvd h1 (Nat.gcd_dvd_right p m)
    omega
theorem ch_dvd {n k : Nat} (h : Pr (n + 1)) (hk : k + 1 < n + 1) : (n + 1) ∣ ch (n + 1) (k + 1) := by
  have c := cop h (m := k + 1) (by omega) hk
  refine Nat.Coprime.dvd_of_dvd_mul_left c ?_
  rw [ch_mul]
  exact Nat.dvd_mul_right _ _
theorem sm_mod {n x : Nat} (h : Pr (n + 1)) : ∀ m, m < n + 1 → sm (fun k => ch (n + 1) k * x ^ k) (m + 1) % (n + 1) = 1 % (n + 1)
  | 0, _ => by
    show (0 + ch (n + 1) 0 * x ^ 0) % (n + 1) = 1 % (n + 1)
    rw [ch_n0, Nat.pow_zero]
  | m + 1, hm => by
    have ih := sm_mod (x := x) h m (by omega)
    show (sm (fun k => ch (n + 1) k * x ^ k) (m + 1) + ch (n + 1) (m + 1) * x ^ (m + 1)) % (n + 1) = 1 % (n + 1)
    obtain ⟨c, e⟩ := ch_dvd h hm
    rw [e, Nat.mul_assoc, Nat.add_mul_mod_self_left]
    exact ih
theorem succ_pow {n x : Nat} (h : Pr (n + 1)) : (x + 1) ^ (n + 1) % (n + 1) = (x ^ (n + 1) + 1) % (n + 1) := by
  rw [binom]
  show (sm (fun k => ch (n + 1) k * x ^ k) (n + 1) + ch (n + 1) (n + 1) * x ^ (n + 1)) % (n + 1) = _
  rw [ch_self, Nat.one_mul, Nat.add_mod, sm_mod h n (by omega), ← Nat.add_mod, Nat.add_comm]
theorem pow_p {n : Nat} (h : Pr (n + 1)) : ∀ x : Nat, x ^ (n + 1) % (n + 1) = x % (n + 1)
  | 0 => by rw [Nat.pow_succ, Nat.mul_zero]
  | x + 1 => by
    rw [succ_pow h, Nat.add_mod, pow_p h x, ← Nat.add_mod]
theorem fermatN {n x : Nat} (h : Pr (n + 1)) (h0 : 0 < x) (h1 : x < n + 1) : x ^ n % (n + 1) = 1 := by
  have e := pow_p h x
  have hx : 1 ≤ x ^ n := Nat.pow_pos h0
  have h2 := h.1
  have d : (n + 1) ∣ (x ^ (n + 1) - x) := Nat.dvd_of_mod_eq_zero (Nat.sub_mod_eq_zero_of_mod_eq e)
  have f : x ^ (n + 1) - x = x * (x ^ n - 1) := by rw [Nat.pow_succ, Nat.mul_sub, Nat.mul_one, Nat.mul_comm]
  rw [f] at d
  have d2 := Nat.Coprime.dvd_of_dvd_mul_left (cop h h0 h1) d
  obtain ⟨c, hc⟩ := d2
  have e2 : x ^ n = (n + 1) * c + 1 := by omega
  rw [e2, Nat.mul_add_mod]
  exact Nat.mod_eq_of_lt (by omega)
/-! ### the primes -/
theorem pr_of {p : Nat} (h : 2 ≤ p) (hd : ∀ d, 2 ≤ d → d * d ≤ p → p % d ≠ 0) : Pr p := by
  refine ⟨h, fun d hdp => ?_⟩
  obtain ⟨e, he⟩ := hdp
  by_cases h1 : d = 1
  · exact .inl h1
  by_cases h2 : e = 1
  · right
    rw [he, h2, Nat.mul_one]
  have d0 : d ≠ 0 := fun z => by rw [z, Nat.zero_mul] at he; omega
  have e0 : e ≠ 0 := fun z => by rw [z, Nat.mul_zero] at he; omega
  by_cases hle : d ≤ e
  · exfalso
    refine hd d (by omega) (by rw [he]; exact Nat.mul_le_mul_left d hle) ?_
    rw [he, Nat.mul_mod_right]
  · exfalso
    refine hd e (by omega) (by rw [he]; exact Nat.mul_le_mul_right e (by omega)) ?_
    rw [he, Nat.mul_mod_left]
def noDiv (p : Nat) : Nat → Nat → Bool
  | 0, lo => Nat.ble 1 (p % lo)
  | n + 1, lo => noDiv p n lo && noDiv p n (lo + 2 ^ n)
theorem noDiv_ok {p : Nat} : ∀ n lo, noDiv p n lo = true → ∀ d, lo ≤ d → d < lo + 2 ^ n → p % d ≠ 0
  | 0, lo, h, d, h1, h2 => by
    have e : d = lo := by rw [Nat.pow_zero] at h2; omega
    have := Nat.le_of_ble_eq_true h
    rw [e]
    omega
  | n + 1, lo, h, d, h1, h2 => by
    have h' : (noDiv p n lo && noDiv p n (lo + 2 ^ n)) = true := h
    rw [Bool.and_eq_true] at h'
    rw [Nat.pow_succ] at h2
    by_cases hl : d < lo + 2 ^ n
    · exact noDiv_ok n lo h'.1 d h1 hl
    · exact noDiv_ok n (lo + 2 ^ n) h'.2 d (by omega) (by omega)
theorem pr_chk {p n : Nat} (h : 2 ≤ p) (hn : p < (2 + 2 ^ n) * (2 + 2 ^ n)) (hc : noDiv p n 2 = true) : Pr p := by
  refine pr_of h fun d h2 hdd => noDiv_ok n 2 hc d h2 ?_
  by_cases hlt : d < 2 + 2 ^ n
  · exact hlt
  · have := Nat.mul_le_mul (show 2 + 2 ^ n ≤ d by omega) (show 2 + 2 ^ n ≤ d by omega)
    omega
theorem pr_small {p : Nat} (h : 2 ≤ p) (hc : ∀ d, d < p → d ≠ 1 → d * (p / d) ≠ p) : Pr p := by
  refine ⟨h, fun d hd => ?_⟩
  by_cases h1 : d = 1
  · exact .inl h1
  by_cases h2 : d = p
  · exact .inr h2
  exact absurd (Nat.mul_div_cancel' hd) (hc d (by have := Nat.le_of_dvd (by omega) hd; omega) h1)
theorem pr2 : Pr 2 := pr_small (by decide) (by decide)
theorem pr3 : Pr 3 := pr_small (by decide) (by decide)
theorem pr5 : Pr 5 := pr_small (by decide) (by decide)
theorem pr7 : Pr 7 := pr_small (by decide) (by decide)
theorem pr11 : Pr 11 := pr_small (by decide) (by decide)
theorem pr13 : Pr 13 := pr_small (by decide) (by decide)
theorem pr97 : Pr 97 := pr_small (by decide) (by decide +kernel)
theorem pr251 : Pr 251 := pr_small (by decide) (by decide +kernel)
theorem pr65537 : Pr 65537 := pr_chk (n := 8) (by decide) (by decide) (by decide +kernel)
theorem pr1000003 : Pr 1000003 := pr_chk (n := 10) (by decide) (by decide) (by decide +kernel)
theorem prM : Pr 2147483647 := pr_chk (n := 16) (by decide) (by decide) (by decide +kernel)
theorem fermat_of {p : Nat} {a : Int} (h : Pr p) (ha : ¬ a % (p : Int) = 0) : a ^ ((p : Int) - 2).toNat % (p : Int) * a % (p : Int) = 1 := by
  obtain ⟨n, rfl⟩ : ∃ n, p = n + 1 := ⟨p - 1, by have := h.1; omega⟩
  have h2 := h.1
  have b0 : 0 ≤ a % ((n + 1 : Nat) : Int) := Int.emod_nonneg _ (by omega)
  have b1 : a % ((n + 1 : Nat) : Int) < ((n + 1 : Nat) : Int) := Int.emod_lt_of_pos _ (by omega)
  obtain ⟨x, hx⟩ : ∃ x : Nat, a % ((n + 1 : Nat) : Int) = (x : Int) := ⟨(a % ((n + 1 : Nat) : Int)).toNat, by omega⟩
  have f := fermatN (x := x) h (by omega) (by omega)
  have hc : C ((n + 1 : Nat) : Int) (a ^ (((n + 1 : Nat) : Int) - 2).toNat % ((n + 1 : Nat) : Int) * a) (((x ^ n : Nat) : Int)) := by
    refine C.trans (C.mul C.mod (C.refl a)) ?_
    have e : (((n + 1 : Nat) : Int) - 2).toNat + 1 = n := by omega
    refine C.trans (C.of (show a ^ (((n + 1 : Nat) : Int) - 2).toNat * a = a ^ n from (Int.pow_succ a _).symm.trans (congrArg (fun k : Nat => a ^ k) e))) ?_
    rw [Int.natCast_pow, ← hx]
    exact C.pow C.mod.symm n
  have g : ((x ^ n : Nat) : Int) % ((n + 1 : Nat) : Int) = 1 := by
    rw [← Int.natCast_emod, f]
    rfl
  unfold C at hc
  rw [hc, g]
theorem fermat {p a : Int} (h : p ∈ primes11) (ha : ¬ a % p = 0) : a ^ (p - 2).toNat % p * a % p = 1 := by
  simp only [primes11, List.mem_cons, List.not_mem_nil, or_false] at h
  rcases h with rfl | rfl | rfl | rfl | rfl | rfl | rfl | rfl | rfl | rfl | rfl
  · exact fermat_of (p := 2) pr2 ha
  · exact fermat_of (p := 3) pr3 ha
  · exact fermat_of (p := 5) pr5 ha
  · exact fermat_of (p := 7) pr7 ha
  · exact fermat_of (p := 11) pr11 ha
  · exact fermat_of (p := 13) pr13 ha
  · exact fermat_of (p := 97) pr97 ha
  · exact fermat_of (p := 251) pr251 ha
  · exact fermat_of (p := 65537) pr65537 ha
  · exact fermat_of (p := 1000003) pr1000003 ha
  · exact fermat_of (p := 2147483647) prM ha
end Lk

namespace Lk
/-! ### polynomials in one variable, modulo p -/
def ev : List Int → Int → Int
  | [], _ => 0
  | a :: r, t => a + t * ev r t
def PD (p : Int) (n : Nat) (f : Int → Int) : Prop := ∃ c : List Int, c.length = n + 1 ∧ ∀ t, C p (f t) (ev c t)
theorem ev_scale (b : Int) : ∀ (c : List Int) (t : Int), ev (c.map fun x => b * x) t = b * ev c t
  | [], t => by show (0 : Int) = b * 0; omega
  | a :: r, t => by
    show b * a + t * ev (r.map fun x => b * x) t = b * (a + t * ev r t)
    rw [ev_scale b r t]
    grind
def addL : List Int → List Int → List Int
  | a :: r, b :: s => (a + b) :: addL r s
  | [], s => s
  | r, [] => r
theorem ev_add : ∀ (a b : List Int) (t : Int), ev (addL a b) t = ev a t + ev b t
  | [], s, t => by
    have : addL [] s = s := by cases s <;> rfl
    rw [this]
    show ev s t = 0 + ev s t
    omega
  | x :: r, [], t => by
    show ev (x :: r) t = ev (x :: r) t + 0
    omega
  | x :: r, y :: s, t => by
    show (x + y) + t * ev (addL r s) t = (x + t * ev r t) + (y + t * ev s t)
    rw [ev_add r s t]
    grind
theorem len_add : ∀ (a b : List Int), a.length = b.length → (addL a b).length = a.length
  | [], [], _ => rfl
  | x :: r, y :: s, h => by
    show (addL r s).length + 1 = r.length + 1
    rw [len_add r s (by simpa using h)]
  | [], _ :: _, h => by simp at h
  | _ :: _, [], h => by simp at h
theorem ev_snoc : ∀ (c : List Int) (t : Int), ev (c ++ [0]) t = ev c t
  | [], t => by show 0 + t * 0 = 0; omega
  | a :: r, t => by
    show a + t * ev (r ++ [0]) t = a + t * ev r t
    rw [ev_snoc r t]
theorem PD.const {p : Int} (x : Int) : PD p 0 (fun _ => x) := ⟨[x], rfl, fun t => C.of (by show x = x + t * 0; omega)⟩
theorem PD.add {p : Int} {n : Nat} {f g : Int → Int} (hf : PD p n f) (hg : PD p n g) : PD p n (fun t => f t + g t) := by
  obtain ⟨c, c1, c2⟩ := hf
  obtain ⟨d, d1, d2⟩ := hg
  refine ⟨addL c d, by rw [len_add c d (by omega), c1], fun t => ?_⟩
  rw [ev_add]
  exact C.add (c2 t) (d2 t)
theorem PD.lin {p a b : Int} {n : Nat} {f : Int → Int} (hf : PD p n f) : PD p (n + 1) (fun t => f t * (a + b * t)) := by
  obtain ⟨c, c1, c2⟩ := hf
  refine ⟨addL (c.map (fun x => a * x) ++ [0]) (0 :: c.map fun x => b * x), ?_, fun t => ?_⟩
  · rw [len_add _ _ (by simp), List.length_append, List.length_map, c1]
    rfl
  · rw [ev_add, ev_snoc, ev_scale]
    show C p (f t * (a + b * t)) (a * ev c t + (0 + t * ev (c.map fun x => b * x) t))
    rw [ev_scale]
    exact (C.mul (c2 t) (C.refl _)).trans (C.of (by grind))
theorem PD.congr {p : Int} {n : Nat} {f g : Int → Int} (hf : PD p n f) (h : ∀ t, C p (g t) (f t)) : PD p n g := by
  obtain ⟨c, c1, c2⟩ := hf
  exact ⟨c, c1, fun t => (h t).trans (c2 t)⟩

/-! ### a prime divides a product -/
theorem pr_mul {p : Nat} (h : Pr p) {a b : Int} (hab : a * b % (p : Int) = 0) (ha : a % (p : Int) ≠ 0) : b % (p : Int) = 0 := by
  have hp := h.1
  have a0 : 0 ≤ a % (p : Int) := Int.emod_nonneg _ (by omega)
  have a1 : a % (p : Int) < (p : Int) := Int.emod_lt_of_pos _ (by omega)
  obtain ⟨x, hx⟩ : ∃ x : Nat, a % (p : Int) = (x : Int) := ⟨(a % (p : Int)).toNat, by omega⟩
  have b0 : 0 ≤ b % (p : Int) := Int.emod_nonneg _ (by omega)
  obtain ⟨y, hy⟩ : ∃ y : Nat, b % (p : Int) = (y : Int) := ⟨(b % (p : Int)).toNat, by omega⟩
  have hxy : (x * y) % p = 0 := by
    have : C (p : Int) (a * b) ((x : Int) * (y : Int)) := by
      rw [← hx, ← hy]
      exact C.mul C.mod.symm C.mod.symm
    unfold C at this
    rw [hab] at this
    have e : ((x * y : Nat) : Int) % (p : Int) = 0 := by rw [Int.natCast_mul]; exact this.symm
    omega
  have d := Nat.Coprime.dvd_of_dvd_mul_left (cop h (m := x) (by omega) (by omega)) (Nat.dvd_of_mod_eq_zero hxy)
  have b1 : b % (p : Int) < (p : Int) := Int.emod_lt_of_pos _ (by omega)
  have : y = 0 := Nat.eq_zero_of_dvd_of_lt d (by omega)
  rw [hy, this]
  rfl
/-! ### roots -/
/-- c = (t - r) * q + rest: Horner -/
def qt (r : Int) : List Int → List Int
  | [] => []
  | [_] => []
  | _ :: b :: s => ev (b :: s) r :: qt r (b :: s)
theorem qt_len (r : Int) : ∀ c : List Int, (qt r c).length = c.length - 1
  | [] => rfl
  | [_] => rfl
  | _ :: b :: s => by
    show (qt r (b :: s)).length + 1 = _
    rw [qt_len r (b :: s)]
    simp
theorem qt_ev (r t : Int) : ∀ c : List Int, ev c t = (t - r) * ev (qt r c) t + ev c r
  | [] => by show (0 : Int) = (t - r) * 0 + 0; omega
  | [a] => by show a + t * 0 = (t - r) * 0 + (a + r * 0); omega
  | a :: b :: s => by
    have ih := qt_ev r t (b :: s)
    have e1 : ev (a :: b :: s) t = a + t * ev (b :: s) t := rfl
    have e2 : ev (a :: b :: s) r = a + r * ev (b :: s) r := rfl
    have e3 : ev (qt r (a :: b :: s)) t = ev (b :: s) r + t * ev (qt r (b :: s)) t := rfl
    rw [e1, e2, e3]
    generalize ev (b :: s) t = X at *
    generalize ev (b :: s) r = Y at *
    generalize ev (qt r (b :: s)) t = Z at *
    rw [ih]
    grind
theorem qt_zero {p : Int} (r : Int) : ∀ c : List Int, (∀ x ∈ qt r c, x % p = 0) → ev c r % p = 0 → ∀ x ∈ c, x % p = 0
  | [], _, _, x, hx => by simp at hx
  | [a], _, h, x, hx => by
    have e : x = a := List.mem_singleton.mp hx
    have h' : (a + r * 0) % p = 0 := h
    rw [e]
    rw [Int.mul_zero, Int.add_zero] at h'
    exact h'
  | a :: b :: s, hq, h, x, hx => by
    have h1 : ev (b :: s) r % p = 0 := hq _ List.mem_cons_self
    have h2 : ∀ x ∈ qt r (b :: s), x % p = 0 := fun y hy => hq y (List.mem_cons_of_mem _ hy)
    rcases List.mem_cons.mp hx with e | e
    · rw [e]
      have h' : (a + r * ev (b :: s) r) % p = 0 := h
      have : C p (a + r * ev (b :: s) r) (a + r * 0) := C.add (C.refl a) (C.mul (C.refl r) (by unfold C; rw [h1]; simp))
      unfold C at this
      rw [h', Int.mul_zero, Int.add_zero] at this
      exact this.symm
    · exact qt_zero r (b :: s) h2 h1 x e
/-- as many roots as coefficients: all coefficients are 0 -/
theorem roots {p : Nat} (h : Pr p) : ∀ (rs c : List Int), c.length = rs.length → rs.Pairwise (fun a b => (a - b) % (p : Int) ≠ 0) → (∀ r ∈ rs, ev c r % (p : Int) = 0) → ∀ x ∈ c, x % (p : Int) = 0
  | [], c, hl, _, _, x, hx => by
    rw [List.length_eq_zero_iff.mp hl] at hx
    simp at hx
  | r :: rs, c, hl, hp, hr, x, hx => by
    have h0 := hr r List.mem_cons_self
    refine qt_zero r c (roots h rs (qt r c) (by rw [qt_len, hl]; simp) (List.Pairwise.of_cons hp) fun s hs => ?_) h0 x hx
    have h1 := hr s (List.mem_cons_of_mem _ hs)
    have hne : (s - r) % (p : Int) ≠ 0 := fun z => by
      have := (List.pairwise_cons.mp hp).1 s hs
      refine this ?_
      have e : r - s = -(s - r) := by omega
      rw [e]
      exact Int.emod_eq_zero_of_dvd (Int.dvd_neg.mpr (Int.dvd_of_emod_eq_zero z))
    refine pr_mul h (a := s - r) ?_ hne
    have e := qt_ev r s c
    have : C (p : Int) ((s - r) * ev (qt r c) s) 0 := by
      have c1 : C (p : Int) (ev c s) 0 := by unfold C; rw [h1]; simp
      have c2 : C (p : Int) (ev c r) 0 := by unfold C; rw [h0]; simp
      have c3 : C (p : Int) ((s - r) * ev (qt r c) s + ev c r) ((s - r) * ev (qt r c) s + 0) := C.add (C.refl _) c2
      rw [Int.add_zero] at c3
      exact c3.symm.trans ((C.of e.symm).trans c1)
    unfold C at this
    rw [this]
    simp
theorem ev_zero {p : Int} : ∀ (c : List Int) (t : Int), (∀ x ∈ c, x % p = 0) → C p (ev c t) 0
  | [], _, _ => rfl
  | a :: r, t, h => by
    have h1 : C p a 0 := by unfold C; rw [h a List.mem_cons_self]; simp
    have ih := ev_zero r t fun x hx => h x (List.mem_cons_of_mem _ hx)
    refine (C.add h1 (C.mul (C.refl t) ih)).trans (C.of (by omega))

theorem rg_pair {p n : Nat} (h : n ≤ p) : ((List.range n).map fun (k : Nat) => (k : Int)).Pairwise (fun a b => (a - b) % (p : Int) ≠ 0) := by
  rw [List.pairwise_map]
  refine List.Pairwise.imp_of_mem ?_ (List.pairwise_lt_range (n := n))
  intro a b ha hb hab
  have h1 := List.mem_range.mp ha
  have h2 := List.mem_range.mp hb
  have e : ((a : Int) - (b : Int)) % (p : Int) = (a : Int) - (b : Int) + (p : Int) := by
    rw [← Int.add_emod_right]
    exact Int.emod_eq_of_lt (by omega) (by omega)
  rw [e]
  omega
theorem PD.scale {p : Int} {n : Nat} {f : Int → Int} (b : Int) (hf : PD p n f) : PD p n (fun t => b * f t) := by
  obtain ⟨c, c1, c2⟩ := hf
  refine ⟨c.map fun x => b * x, by rw [List.length_map, c1], fun t => ?_⟩
  rw [ev_scale]
  exact C.mul (C.refl b) (c2 t)
theorem ev_pad : ∀ (c : List Int) (k : Nat) (t : Int), ev (c ++ List.replicate k 0) t = ev c t
  | [], 0, _ => rfl
  | [], k + 1, t => by
    have ih := ev_pad [] k t
    show 0 + t * ev ([] ++ List.replicate k 0) t = 0
    rw [ih]
    show 0 + t * 0 = 0
    omega
  | a :: r, k, t => by
    show a + t * ev (r ++ List.replicate k 0) t = a + t * ev r t
    rw [ev_pad r k t]
theorem PD.poly {p : Int} {n : Nat} {c : List Int} (h : c.length ≤ n + 1) : PD p n (ev c) :=
  ⟨c ++ List.replicate (n + 1 - c.length) 0, by rw [List.length_append, List.length_replicate]; omega, fun t => C.of (ev_pad c _ t).symm⟩
theorem PD.zero {p : Int} {n : Nat} : PD p n (fun _ => 0) := (PD.poly (c := []) (by simp)).congr fun t => C.refl _
/-- two polynomials of degree n that agree at 0 .. n -/
theorem uniq {p n : Nat} (h : Pr p) (hn : n + 1 ≤ p) {f g : Int → Int} (hf : PD p n f) (hg : PD p n g) (hk : ∀ k : Nat, k ≤ n → C p (f (k : Int)) (g (k : Int))) (t : Int) : C p (f t) (g t) := by
  obtain ⟨c, c1, c2⟩ := PD.add hf (hg.scale (-1))
  have hz := roots h ((List.range (n + 1)).map fun (k : Nat) => (k : Int)) c (by rw [c1, List.length_map, List.length_range]) (rg_pair hn) (fun r hr => by
    obtain ⟨k, hk1, rfl⟩ := List.mem_map.mp hr
    have e := c2 (k : Int)
    have e2 : C p (f (k : Int) + -1 * g (k : Int)) 0 := (C.add (hk k (by have := List.mem_range.mp hk1; omega)) (C.refl _)).trans (C.of (by omega))
    have := e.symm.trans e2
    unfold C at this
    rw [this]
    rfl)
  have e := (c2 t).trans (ev_zero c t hz)
  have := C.add e (C.refl (g t))
  exact (C.of (show f t = (f t + -1 * g t) + g t by omega)).trans (this.trans (C.of (by omega)))
/-! ### the value by the values at 0 .. n -/
def fct : Nat → Int
  | 0 => 1
  | k + 1 => fct k * ((k : Int) + 1)
def bel (t : Int) : Nat → Int
  | 0 => 1
  | k + 1 => bel t k * (t - (k : Int))
def ab (t : Int) (n : Nat) : Nat → Int
  | 0 => 1
  | i + 1 => ab t n i * (t - ((n - i : Nat) : Int))
def sg (i : Nat) : Int := if i % 2 = 0 then 1 else -1
def sN (f : Nat → Int) : Nat → Int
  | 0 => 0
  | m + 1 => sN f m + f m
def tm (v P : Nat → Int) (n : Nat) (t : Int) (i : Nat) : Int := sg i * (v (n - i) * bel t (n - i) * ab t n i * P (n - i) * P i)
theorem bel_zero {m : Nat} : ∀ k, m < k → bel (m : Int) k = 0
  | 0, h => by omega
  | k + 1, h => by
    show bel (m : Int) k * ((m : Int) - (k : Int)) = 0
    by_cases e : m = k
    · rw [e, Int.sub_self, Int.mul_zero]
    · rw [bel_zero k (by omega), Int.zero_mul]
theorem bel_self : ∀ m k : Nat, k ≤ m → bel (m : Int) k * fct (m - k) = fct m
  | m, 0, _ => by
    show 1 * fct (m - 0) = fct m
    rw [Int.one_mul]
    rfl
  | m, k + 1, h => by
    have ih := bel_self m k (by omega)
    show bel (m : Int) k * ((m : Int) - (k : Int)) * fct (m - (k + 1)) = fct m
    have e : m - k = (m - (k + 1)) + 1 := by omega
    rw [e] at ih
    have e2 : fct ((m - (k + 1)) + 1) = fct (m - (k + 1)) * (((m - (k + 1) : Nat) : Int) + 1) := rfl
    rw [e2] at ih
    have e3 : (((m - (k + 1) : Nat) : Int) + 1) = (m : Int) - (k : Int) := by omega
    rw [e3] at ih
    rw [← ih, Int.mul_assoc, Int.mul_comm ((m : Int) - (k : Int))]
theorem ab_zero {n m : Nat} : ∀ i, n - i < m → m ≤ n → i ≤ n → ab (m : Int) n i = 0
  | 0, h1, h2, _ => by omega
  | i + 1, h1, h2, h3 => by
    show ab (m : Int) n i * ((m : Int) - ((n - i : Nat) : Int)) = 0
    by_cases e : m = n - i
    · rw [← e, Int.sub_self, Int.mul_zero]
    · rw [ab_zero i (by omega) h2 (by omega), Int.zero_mul]
theorem sg_sq (i : Nat) : sg i * sg i = 1 := by
  unfold sg
  split <;> rfl
theorem sg_succ (i : Nat) : sg (i + 1) = -sg i := by
  unfold sg
  by_cases h : i % 2 = 0
  · rw [if_pos h, if_neg (by omega)]
  · rw [if_neg h, if_pos (by omega)]
    rfl
/-- at m: the product of m - j over the j above -/
theorem ab_self {n m : Nat} (hm : m ≤ n) : ∀ i, i ≤ n - m → ab (m : Int) n i * fct (n - m - i) = sg i * fct (n - m)
  | 0, _ => by
    show 1 * fct (n - m - 0) = 1 * fct (n - m)
    rfl
  | i + 1, h => by
    have ih := ab_self hm i (by omega)
    show ab (m : Int) n i * ((m : Int) - ((n - i : Nat) : Int)) * fct (n - m - (i + 1)) = sg (i + 1) * fct (n - m)
    have e : n - m - i = (n - m - (i + 1)) + 1 := by omega
    rw [e] at ih
    have e2 : fct ((n - m - (i + 1)) + 1) = fct (n - m - (i + 1)) * (((n - m - (i + 1) : Nat) : Int) + 1) := rfl
    rw [e2] at ih
    have e3 : (((n - m - (i + 1) : Nat) : Int) + 1) = -((m : Int) - ((n - i : Nat) : Int)) := by omega
    rw [e3] at ih
    rw [sg_succ]
    generalize (m : Int) - ((n - i : Nat) : Int) = z at *
    generalize ab (m : Int) n i = A at *
    generalize fct (n - m - (i + 1)) = B at *
    grind
theorem tm_other {v P : Nat → Int} {n m i : Nat} (hm : m ≤ n) (hi : i ≤ n) (hne : n - i ≠ m) : tm v P n (m : Int) i = 0 := by
  unfold tm
  by_cases h : n - i < m
  · rw [ab_zero i h hm hi]
    simp
  · rw [bel_zero (n - i) (by omega)]
    simp
theorem tm_self {p : Int} {v P : Nat → Int} {n m : Nat} (hm : m ≤ n) (hP : ∀ k, k ≤ n → C p (P k * fct k) 1) : C p (tm v P n (m : Int) (n - m)) (v m) := by
  unfold tm
  have e : n - (n - m) = m := by omega
  rw [e]
  have h1 := bel_self m m (Nat.le_refl _)
  have h2 := ab_self hm (n - m) (Nat.le_refl _)
  rw [Nat.sub_self] at h1 h2
  have f0 : fct 0 = 1 := rfl
  rw [f0, Int.mul_one] at h1 h2
  rw [h1, h2]
  have s := sg_sq (n - m)
  have c1 := hP m hm
  have c2 := hP (n - m) (by omega)
  have c3 := C.mul (C.mul (C.refl (v m)) c1) c2
  refine C.trans (C.of ?_) (c3.trans (C.of (by omega)))
  generalize sg (n - m) = S at *
  generalize fct m = F at *
  generalize fct (n - m) = G at *
  generalize P m = X at *
  generalize P (n - m) = Y at *
  generalize v m = V at *
  have : S * (V * F * (S * G) * X * Y) = (S * S) * (V * (X * F) * (Y * G)) := by grind
  rw [this, s, Int.one_mul]
theorem sN_at {f : Nat → Int} {j : Nat} {p x : Int} (hj : C p (f j) x) : ∀ m, (∀ i, i < m → i ≠ j → f i = 0) → C p (sN f m) (if j < m then x else 0)
  | 0, _ => by
    rw [if_neg (Nat.not_lt_zero _)]
    exact C.refl _
  | m + 1, h => by
    have ih := sN_at hj m fun i hi hne => h i (by omega) hne
    show C p (sN f m + f m) _
    by_cases e : m = j
    · rw [if_neg (by omega)] at ih
      rw [if_pos (by omega), e]
      rw [e] at ih
      exact (C.add ih hj).trans (C.of (by omega))
    · rw [h m (by omega) e, Int.add_zero]
      by_cases h2 : j < m
      · rw [if_pos h2] at ih
        rw [if_pos (by omega)]
        exact ih
      · rw [if_neg h2] at ih
        rw [if_neg (by omega)]
        exact ih
theorem pd_bel {p : Int} : ∀ k, PD p k (fun t => bel t k)
  | 0 => PD.const 1
  | k + 1 => ((pd_bel k).lin (a := -(k : Int)) (b := 1)).congr fun t => C.of (by show bel t k * (t - (k : Int)) = bel t k * (-(k : Int) + 1 * t); grind)
theorem pd_ab {p w : Int} {n k : Nat} : ∀ i, PD p (k + i) (fun t => w * bel t k * ab t n i)
  | 0 => ((pd_bel k).scale w).congr fun t => C.of (by show w * bel t k * 1 = w * bel t k; omega)
  | i + 1 => ((pd_ab (w := w) (n := n) (k := k) i).lin (a := -((n - i : Nat) : Int)) (b := 1)).congr fun t => C.of (by
    show w * bel t k * (ab t n i * (t - ((n - i : Nat) : Int))) = w * bel t k * ab t n i * (-((n - i : Nat) : Int) + 1 * t)
    grind)
theorem pd_tm {p : Int} {v P : Nat → Int} {n i : Nat} (hi : i ≤ n) : PD p n (fun t => tm v P n t i) := by
  have h := pd_ab (p := p) (w := sg i * v (n - i) * P (n - i) * P i) (n := n) (k := n - i) i
  rw [show n - i + i = n by omega] at h
  refine h.congr fun t => C.of ?_
  show sg i * (v (n - i) * bel t (n - i) * ab t n i * P (n - i) * P i) = sg i * v (n - i) * P (n - i) * P i * bel t (n - i) * ab t n i
  grind
theorem pd_sum {p : Int} {v P : Nat → Int} {n : Nat} : ∀ m, m ≤ n + 1 → PD p n (fun t => sN (tm v P n t) m)
  | 0, _ => PD.zero
  | m + 1, h => PD.add (pd_sum m (by omega)) (pd_tm (by omega))
/-- the program's sum is the polynomial -/
theorem val_ok {p n : Nat} (h : Pr p) (hn : n + 1 ≤ p) {v P : Nat → Int} {f : Int → Int} (hf : PD p n f) (hP : ∀ k, k ≤ n → C p (P k * fct k) 1) (hv : ∀ k : Nat, k ≤ n → C p (v k) (f (k : Int))) (t : Int) : C p (sN (tm v P n t) (n + 1)) (f t) := by
  refine uniq h hn (pd_sum (n + 1) (Nat.le_refl _)) hf (fun k hk => ?_) t
  have := sN_at (f := tm v P n (k : Int)) (j := n - k) (tm_self (p := (p : Int)) (v := v) hk hP) (n + 1) fun i hi hne => tm_other hk (by omega) (by omega)
  rw [if_pos (by omega)] at this
  exact this.trans (hv k hk)

/-! ### differences -/
def D (g : Nat → Int) : Nat → Nat → Int
  | 0, k => g k
  | i + 1, k => D g i (k + 1) - D g i k
theorem D_C {p : Int} {g h : Nat → Int} : ∀ i k, (∀ j, k ≤ j → j ≤ k + i → C p (g j) (h j)) → C p (D g i k) (D h i k)
  | 0, k, hc => hc k (Nat.le_refl _) (Nat.le_refl _)
  | i + 1, k, hc => by
    have a := D_C i (k + 1) fun j h1 h2 => hc j (by omega) (by omega)
    have b := D_C i k fun j h1 h2 => hc j h1 (by omega)
    show C p (D g i (k + 1) - D g i k) (D h i (k + 1) - D h i k)
    have := C.add a (C.mul (C.refl (-1)) b)
    exact (C.of (by omega)).trans (this.trans (C.of (by omega)))
theorem D_sub {g h : Nat → Int} : ∀ i k, D (fun j => g j - h j) i k = D g i k - D h i k
  | 0, _ => rfl
  | i + 1, k => by
    show D (fun j => g j - h j) i (k + 1) - D (fun j => g j - h j) i k = (D g i (k + 1) - D g i k) - (D h i (k + 1) - D h i k)
    rw [D_sub i (k + 1), D_sub i k]
    omega
/-- what the differences at 0 say of all -/
theorem D_zero {p : Int} {h : Nat → Int} {n : Nat} (h0 : ∀ i, i < n → C p (D h i 0) 0) (hn : ∀ k, C p (D h n k) 0) : ∀ j, j ≤ n → ∀ k, C p (D h (n - j) k) 0
  | 0, _, k => hn k
  | j + 1, hj, k => by
    have ih := D_zero h0 hn j (by omega)
    induction k with
    | zero => exact h0 _ (by omega)
    | succ k ihk =>
      have e : n - j = (n - (j + 1)) + 1 := by omega
      have s := ih k
      rw [e] at s
      have s' : C p (D h (n - (j + 1)) (k + 1) - D h (n - (j + 1)) k) 0 := s
      have := C.add s' ihk
      exact (C.of (by omega)).trans (this.trans (C.of (by omega)))
theorem addL_get : ∀ (a b : List Int) (i : Nat), (addL a b).getD i 0 = a.getD i 0 + b.getD i 0
  | [], b, i => by
    have : addL [] b = b := by cases b <;> rfl
    rw [this]
    simp
  | x :: r, [], i => by
    show (x :: r).getD i 0 = (x :: r).getD i 0 + 0
    omega
  | x :: r, y :: s, 0 => rfl
  | x :: r, y :: s, i + 1 => by
    show (addL r s).getD i 0 = r.getD i 0 + s.getD i 0
    exact addL_get r s i
theorem addL_len : ∀ (a b : List Int), (addL a b).length = max a.length b.length
  | [], b => by
    have : addL [] b = b := by cases b <;> rfl
    rw [this]
    simp
  | x :: r, [] => by
    show (x :: r).length = max (x :: r).length 0
    omega
  | x :: r, y :: s => by
    show (addL r s).length + 1 = max (r.length + 1) (s.length + 1)
    rw [addL_len r s]
    omega
def dl : List Int → List Int
  | [] => []
  | [_] => []
  | _ :: b :: s => addL (0 :: dl (b :: s)) (addL (dl (b :: s)) (b :: s))
theorem dl_len : ∀ c : List Int, (dl c).length = c.length - 1
  | [] => rfl
  | [_] => rfl
  | _ :: b :: s => by
    show (addL (0 :: dl (b :: s)) (addL (dl (b :: s)) (b :: s))).length = _
    rw [addL_len, addL_len, List.length_cons, dl_len (b :: s)]
    simp only [List.length_cons]
    omega
theorem dl_ev : ∀ (c : List Int) (t : Int), ev (dl c) t = ev c (t + 1) - ev c t
  | [], t => rfl
  | [a], t => by
    show (0 : Int) = (a + (t + 1) * 0) - (a + t * 0)
    omega
  | a :: b :: s, t => by
    have ih := dl_ev (b :: s) t
    show ev (addL (0 :: dl (b :: s)) (addL (dl (b :: s)) (b :: s))) t = (a + (t + 1) * ev (b :: s) (t + 1)) - (a + t * ev (b :: s) t)
    rw [ev_add, ev_add]
    show (0 + t * ev (dl (b :: s)) t) + (ev (dl (b :: s)) t + ev (b :: s) t) = _
    rw [ih]
    generalize ev (b :: s) (t + 1) = X
    generalize ev (b :: s) t = Y
    grind
theorem dl_lead : ∀ c : List Int, 2 ≤ c.length → (dl c).getD (c.length - 2) 0 = ((c.length - 1 : Nat) : Int) * c.getD (c.length - 1) 0
  | [], h => by simp at h
  | [_], h => by simp at h
  | a :: b :: s, _ => by
    show (addL (0 :: dl (b :: s)) (addL (dl (b :: s)) (b :: s))).getD ((a :: b :: s).length - 2) 0 = _
    rw [addL_get, addL_get]
    have hl := dl_len (b :: s)
    simp only [List.length_cons] at *
    have e1 : s.length + 1 + 1 - 2 = s.length := by omega
    have e2 : s.length + 1 + 1 - 1 = s.length + 1 := by omega
    rw [e1, e2]
    have z : (dl (b :: s)).getD s.length 0 = 0 := by
      rw [List.getD_eq_getElem?_getD, List.getElem?_eq_none (by omega)]
      rfl
    have c1 : (a :: b :: s).getD (s.length + 1) 0 = (b :: s).getD s.length 0 := rfl
    rw [z, c1]
    cases hs : s.length with
    | zero =>
      show (0 : Int) + (0 + (b :: s).getD 0 0) = ((0 + 1 : Nat) : Int) * (b :: s).getD 0 0
      omega
    | succ m =>
      have ih := dl_lead (b :: s) (by rw [List.length_cons]; omega)
      simp only [List.length_cons, hs] at ih
      have e3 : m + 1 + 1 - 2 = m := by omega
      have e4 : m + 1 + 1 - 1 = m + 1 := by omega
      rw [e3, e4] at ih
      show (dl (b :: s)).getD m 0 + (0 + (b :: s).getD (m + 1) 0) = _
      rw [ih]
      generalize (b :: s).getD (m + 1) 0 = X
      have : ((m + 1 + 1 : Nat) : Int) = ((m + 1 : Nat) : Int) + 1 := by omega
      rw [this, Int.add_mul, Int.one_mul]
      omega
def dlN : Nat → List Int → List Int
  | 0, c => c
  | i + 1, c => dl (dlN i c)
theorem D_ev (c : List Int) : ∀ i k, D (fun j => ev c (j : Int)) i k = ev (dlN i c) (k : Int)
  | 0, _ => rfl
  | i + 1, k => by
    show D (fun j => ev c (j : Int)) i (k + 1) - D (fun j => ev c (j : Int)) i k = ev (dl (dlN i c)) (k : Int)
    rw [D_ev c i (k + 1), D_ev c i k, dl_ev]
    rfl
theorem dlN_len (c : List Int) : ∀ i, (dlN i c).length = c.length - i
  | 0 => rfl
  | i + 1 => by
    show (dl (dlN i c)).length = _
    rw [dl_len, dlN_len c i]
    omega
theorem D_over {c : List Int} {i k : Nat} (h : c.length ≤ i) : D (fun j => ev c (j : Int)) i k = 0 := by
  rw [D_ev]
  have : dlN i c = [] := List.length_eq_zero_iff.mp (by rw [dlN_len]; omega)
  rw [this]
  rfl
/-- the leading coefficient of the i-th difference -/
theorem dlN_lead (c : List Int) : ∀ i, i + 1 ≤ c.length → (dlN i c).getD (c.length - 1 - i) 0 * fct (c.length - 1 - i) = fct (c.length - 1) * c.getD (c.length - 1) 0
  | 0, _ => by
    show c.getD (c.length - 1 - 0) 0 * fct (c.length - 1 - 0) = _
    rw [Nat.sub_zero, Int.mul_comm]
  | i + 1, h => by
    have ih := dlN_lead c i (by omega)
    have l := dlN_len c i
    have q := dl_lead (dlN i c) (by omega)
    rw [l] at q
    have e1 : c.length - i - 2 = c.length - 1 - (i + 1) := by omega
    have e2 : c.length - i - 1 = c.length - 1 - i := by omega
    rw [e1, e2] at q
    show (dl (dlN i c)).getD (c.length - 1 - (i + 1)) 0 * fct (c.length - 1 - (i + 1)) = _
    rw [q, ← ih]
    have e3 : c.length - 1 - i = (c.length - 1 - (i + 1)) + 1 := by omega
    have e4 : fct (c.length - 1 - i) = fct (c.length - 1 - (i + 1)) * (((c.length - 1 - (i + 1) : Nat) : Int) + 1) := by rw [e3]; rfl
    have e5 : ((c.length - 1 - i : Nat) : Int) = ((c.length - 1 - (i + 1) : Nat) : Int) + 1 := by omega
    rw [e4, e5]
    generalize (dlN i c).getD (c.length - 1 - i) 0 = X
    generalize fct (c.length - 1 - (i + 1)) = Y
    generalize ((c.length - 1 - (i + 1) : Nat) : Int) + 1 = Z
    grind
theorem D_lead {c : List Int} {k : Nat} (h : 1 ≤ c.length) : D (fun j => ev c (j : Int)) (c.length - 1) k = fct (c.length - 1) * c.getD (c.length - 1) 0 := by
  have l := dlN_len c (c.length - 1)
  have q := dlN_lead c (c.length - 1) (by omega)
  rw [Nat.sub_self] at q
  rw [D_ev, ← q]
  have h1 : (dlN (c.length - 1) c).length = 1 := by omega
  match hd : dlN (c.length - 1) c, h1 with
  | [x], _ =>
    show x + (k : Int) * 0 = x * 1
    omega
theorem fct_ne {p : Nat} (h : Pr p) : ∀ k, k < p → fct k % (p : Int) ≠ 0
  | 0, _ => by
    have := h.1
    show (1 : Int) % (p : Int) ≠ 0
    rw [Int.emod_eq_of_lt (by omega) (by omega)]
    omega
  | k + 1, hk => fun z => by
    have ih := fct_ne h k (by omega)
    have := pr_mul h (a := fct k) (b := (k : Int) + 1) z ih
    rw [Int.emod_eq_of_lt (by omega) (by omega)] at this
    omega
/-- the last difference of a polynomial with a leading coefficient -/
theorem D_lead_ne {p : Nat} (h : Pr p) {c : List Int} {k : Nat} (h1 : 1 ≤ c.length) (hl : c.length ≤ p) (hc : c.getD (c.length - 1) 0 % (p : Int) ≠ 0) : D (fun j => ev c (j : Int)) (c.length - 1) k % (p : Int) ≠ 0 := fun z => by
  rw [D_lead h1] at z
  exact hc (pr_mul h z (fct_ne h _ (by omega)))
end Lk

namespace Lk
/-! ### lists without zeros at the end -/
def Nz (r : List Int) : Prop := r = [] ∨ r.getD (r.length - 1) 0 ≠ 0
def TR (l : Nat → Int) (r : List Int) : Prop := (∀ i, r.getD i 0 = l i) ∧ Nz r
theorem getD_over {r : List Int} {i : Nat} (h : r.length ≤ i) : r.getD i 0 = 0 := by
  rw [List.getD_eq_getElem?_getD, List.getElem?_eq_none h]
  rfl
theorem nz_len {r s : List Int} (hr : Nz r) (h : ∀ i, r.getD i 0 = s.getD i 0) : r.length ≤ s.length := by
  rcases hr with e | e
  · rw [e]; simp
  · by_cases hl : r.length ≤ s.length
    · exact hl
    · rw [h, getD_over (by omega)] at e
      exact absurd rfl e
theorem nz_ext {r s : List Int} (hr : Nz r) (hs : Nz s) (h : ∀ i, r.getD i 0 = s.getD i 0) : r = s := by
  have h1 := nz_len hr h
  have h2 := nz_len hs fun i => (h i).symm
  refine List.ext_getElem (by omega) fun i hi hj => ?_
  have := h i
  rw [List.getD_eq_getElem?_getD, List.getD_eq_getElem?_getD, List.getElem?_eq_getElem hi, List.getElem?_eq_getElem hj] at this
  exact this
theorem tr_eq {l m : Nat → Int} {r s : List Int} (hr : TR l r) (hs : TR m s) : r = s ↔ ∀ i, l i = m i := by
  constructor
  · intro e i
    rw [← hr.1, ← hs.1, e]
  · intro e
    exact nz_ext hr.2 hs.2 fun i => by rw [hr.1, hs.1, e]
/-! ### the differences of a polynomial at 0 -/
def dv (p : Int) (c : List Int) (i : Nat) : Int := D (fun j => ev c (j : Int)) i 0 % p
def neg (c : List Int) : List Int := c.map fun x => -1 * x
theorem neg_ev (c : List Int) (t : Int) : ev (neg c) t = -ev c t := by
  unfold neg
  rw [ev_scale]
  omega
theorem neg_get (c : List Int) (i : Nat) : (neg c).getD i 0 = -c.getD i 0 := by
  unfold neg
  rw [List.getD_eq_getElem?_getD, List.getElem?_map, List.getD_eq_getElem?_getD]
  cases c[i]? with
  | none => rfl
  | some x => show -1 * x = -x; omega
def df (c e : List Int) : List Int := addL c (neg e)
theorem df_ev (c e : List Int) (t : Int) : ev (df c e) t = ev c t - ev e t := by
  unfold df
  rw [ev_add, neg_ev]
  omega
theorem df_len (c e : List Int) : (df c e).length = max c.length e.length := by
  unfold df neg
  rw [addL_len, List.length_map]
theorem df_get (c e : List Int) (i : Nat) : (df c e).getD i 0 = c.getD i 0 - e.getD i 0 := by
  unfold df
  rw [addL_get, neg_get]
  omega
theorem mem_get {c : List Int} {x : Int} (h : x ∈ c) : ∃ i, c.getD i 0 = x := by
  obtain ⟨i, hi, e⟩ := List.getElem_of_mem h
  exact ⟨i, by rw [List.getD_eq_getElem?_getD, List.getElem?_eq_getElem hi]; exact e⟩
theorem get_mem {c : List Int} {i : Nat} (h : i < c.length) : c.getD i 0 ∈ c := by
  rw [List.getD_eq_getElem?_getD, List.getElem?_eq_getElem h]
  exact List.getElem_mem h
/-- all differences at 0 vanish: the values vanish -/
theorem dv_zero {p : Int} {c : List Int} (h : ∀ i, C p (D (fun j => ev c (j : Int)) i 0) 0) (k : Nat) : C p (ev c (k : Int)) 0 := by
  have := D_zero (p := p) (h := fun j => ev c (j : Int)) (n := c.length) (fun i _ => h i) (fun k => by rw [D_over (Nat.le_refl _)]; exact C.refl _) c.length (Nat.le_refl _) k
  rw [Nat.sub_self] at this
  exact this
theorem vals_zero {p : Nat} (hp : Pr p) {c : List Int} (hl : c.length ≤ p) (h : ∀ k : Nat, C (p : Int) (ev c (k : Int)) 0) (i : Nat) : c.getD i 0 % (p : Int) = 0 := by
  by_cases hi : i < c.length
  · refine roots hp ((List.range c.length).map fun (k : Nat) => (k : Int)) c (by simp) (rg_pair hl) (fun r hr => ?_) _ (get_mem hi)
    obtain ⟨k, _, rfl⟩ := List.mem_map.mp hr
    have := h k
    unfold C at this
    rw [this]
    rfl
  · rw [getD_over (by omega)]
    simp
theorem C0 {p a : Int} : a % p = 0 ↔ C p a 0 := by
  unfold C
  rw [Int.zero_emod]
theorem same_iff {p : Nat} (hp : Pr p) {c e : List Int} (hc : c.length ≤ p) (he : e.length ≤ p) : (∀ i, dv p c i = dv p e i) ↔ ∀ i, (c.getD i 0 - e.getD i 0) % (p : Int) = 0 := by
  have hD : ∀ i, D (fun j => ev (df c e) (j : Int)) i 0 = D (fun j => ev c (j : Int)) i 0 - D (fun j => ev e (j : Int)) i 0 := fun i => by
    rw [← D_sub]
    congr 1
    funext j
    exact df_ev c e _
  constructor
  · intro h i
    have := vals_zero hp (c := df c e) (by rw [df_len]; omega) (dv_zero fun i => by
      rw [hD i]
      have z : C (p : Int) (D (fun j => ev c (j : Int)) i 0) (D (fun j => ev e (j : Int)) i 0) := h i
      have := C.add z (C.refl (-D (fun j => ev e (j : Int)) i 0))
      exact (C.of (by omega)).trans (this.trans (C.of (by omega)))) i
    rw [df_get] at this
    exact this
  · intro h i
    have hz : ∀ t, C (p : Int) (ev (df c e) t) 0 := fun t => ev_zero _ t fun x hx => by
      obtain ⟨i, hi⟩ := mem_get hx
      rw [← hi, df_get]
      exact h i
    have : C (p : Int) (D (fun j => ev (df c e) (j : Int)) i 0) (D (fun _ => 0) i 0) := D_C i 0 fun j _ _ => hz _
    have z : ∀ i k, D (fun _ => 0) i k = 0 := by
      intro i
      induction i with
      | zero => intro k; rfl
      | succ i ih =>
        intro k
        show D (fun _ => 0) i (k + 1) - D (fun _ => 0) i k = 0
        rw [ih, ih]
        rfl
    rw [hD i, z i 0] at this
    show C (p : Int) (D (fun j => ev c (j : Int)) i 0) (D (fun j => ev e (j : Int)) i 0)
    have := C.add this (C.refl (D (fun j => ev e (j : Int)) i 0))
    exact (C.of (by omega)).trans (this.trans (C.of (by omega)))
/-! ### the degree -/
/-- d is the length of c without its zeros at the end -/
def Dg (c : List Int) (d : Nat) : Prop := d ≤ c.length ∧ (∀ i, d ≤ i → c.getD i 0 = 0) ∧ (d = 0 ∨ c.getD (d - 1) 0 ≠ 0)
theorem take_get {c : List Int} {d i : Nat} : (c.take d).getD i 0 = if i < d then c.getD i 0 else 0 := by
  rw [List.getD_eq_getElem?_getD, List.getElem?_take]
  by_cases h : i < d
  · rw [if_pos h, if_pos h, List.getD_eq_getElem?_getD]
  · rw [if_neg h, if_neg h]
    rfl
theorem ev_getD : ∀ (c e : List Int) (t : Int), (∀ i, c.getD i 0 = e.getD i 0) → ev c t = ev e t
  | [], [], _, _ => rfl
  | [], y :: s, t, h => by
    have h0 : (0 : Int) = y := h 0
    have ih := ev_getD [] s t fun i => h (i + 1)
    show (0 : Int) = y + t * ev s t
    rw [← h0, ← ih]
    show (0 : Int) = 0 + t * 0
    omega
  | x :: r, [], t, h => by
    have h0 : x = (0 : Int) := h 0
    have ih := ev_getD r [] t fun i => h (i + 1)
    show x + t * ev r t = 0
    rw [h0, ih]
    show (0 : Int) + t * 0 = 0
    omega
  | x :: r, y :: s, t, h => by
    have h0 : x = y := h 0
    show x + t * ev r t = y + t * ev s t
    rw [h0, ev_getD r s t fun i => h (i + 1)]
theorem dg_ev {c : List Int} {d : Nat} (h : Dg c d) (t : Int) : ev (c.take d) t = ev c t := ev_getD _ _ t fun i => by
  rw [take_get]
  by_cases hi : i < d
  · rw [if_pos hi]
  · rw [if_neg hi, h.2.1 i (by omega)]
theorem dg_tr {p : Nat} (hp : Pr p) {c r : List Int} {d : Nat} (hl : c.length ≤ p) (hin : ∀ x ∈ c, 0 ≤ x ∧ x < (p : Int)) (h : Dg c d) (hr : TR (dv p c) r) : r.length = d := by
  have hD : ∀ i, D (fun j => ev c (j : Int)) i 0 = D (fun j => ev (c.take d) (j : Int)) i 0 := fun i => by
    congr 1
    funext j
    exact (dg_ev h _).symm
  have hlen : (c.take d).length = d := by rw [List.length_take]; have := h.1; omega
  have hover : ∀ i, d ≤ i → dv p c i = 0 := fun i hi => by
    unfold dv
    rw [hD, D_over (by omega)]
    simp
  have h1 : r.length ≤ d := by
    rcases hr.2 with e | e
    · rw [e]; simp
    · by_cases hl : r.length ≤ d
      · exact hl
      · rw [hr.1, hover _ (by omega)] at e
        exact absurd rfl e
  have h2 : d ≤ r.length := by
    rcases h.2.2 with e | e
    · omega
    · by_cases hd : d = 0
      · omega
      by_cases hl2 : d ≤ r.length
      · exact hl2
      · exfalso
        have z := hr.1 (d - 1)
        rw [getD_over (by omega)] at z
        have hh := h.1
        have hx := hin _ (get_mem (c := c) (i := d - 1) (by omega))
        have := D_lead_ne hp (c := c.take d) (k := 0) (by omega) (by omega) (by
          rw [hlen, take_get, if_pos (by omega), Int.emod_eq_of_lt hx.1 hx.2]
          exact e)
        rw [hlen] at this
        unfold dv at z
        rw [hD] at z
        exact this z.symm
  omega
/-! ### as many points of agreement as the degree, at most -/
theorem few {p : Nat} (hp : Pr p) {c e : List Int} {d f : Nat} (hc : Dg c d) (he : Dg e f) {ps : List Nat} (hnd : ps.Nodup) (hps : ∀ t ∈ ps, t < p ∧ C (p : Int) (ev c (t : Int)) (ev e (t : Int)))
    (hne : ∃ i, (c.getD i 0 - e.getD i 0) % (p : Int) ≠ 0) : ps.length + 1 ≤ max d f := by
  by_cases hlt : ps.length + 1 ≤ max d f
  · exact hlt
  exfalso
  obtain ⟨i, hi⟩ := hne
  have l1 : (c.take d).length = d := by rw [List.length_take]; have := hc.1; omega
  have l2 : (e.take f).length = f := by rw [List.length_take]; have := he.1; omega
  have hl : (df (c.take d) (e.take f)).length = max d f := by rw [df_len, l1, l2]
  have hz := roots hp ((ps.take (max d f)).map fun (k : Nat) => (k : Int)) (df (c.take d) (e.take f)) (by rw [hl, List.length_map, List.length_take]; omega) ?_ ?_
  · refine hi ?_
    have : (df (c.take d) (e.take f)).getD i 0 = c.getD i 0 - e.getD i 0 := by
      rw [df_get, take_get, take_get]
      by_cases a : i < d
      · by_cases b : i < f
        · rw [if_pos a, if_pos b]
        · rw [if_pos a, if_neg b, he.2.1 i (by omega)]
      · by_cases b : i < f
        · rw [if_neg a, if_pos b, hc.2.1 i (by omega)]
        · rw [if_neg a, if_neg b, hc.2.1 i (by omega), he.2.1 i (by omega)]
    rw [← this]
    by_cases hi2 : i < (df (c.take d) (e.take f)).length
    · exact hz _ (get_mem hi2)
    · rw [getD_over (by omega)]
      simp
  · rw [List.pairwise_map]
    refine List.Pairwise.imp_of_mem ?_ (List.Pairwise.sublist (List.take_sublist _ _) hnd)
    intro a b ha hb hab
    have h1 := (hps a (List.mem_of_mem_take ha)).1
    have h2 := (hps b (List.mem_of_mem_take hb)).1
    intro z
    have z2 : (p : Int) ∣ ((a : Int) - (b : Int)) := Int.dvd_of_emod_eq_zero z
    obtain ⟨q, hq⟩ := z2
    by_cases q0 : q = 0
    · rw [q0, Int.mul_zero] at hq
      exact hab (by omega)
    · by_cases qp : 0 < q
      · have := Int.mul_le_mul_of_nonneg_left (show 1 ≤ q by omega) (show (0 : Int) ≤ (p : Int) by omega)
        omega
      · have := Int.mul_le_mul_of_nonneg_left (show q ≤ -1 by omega) (show (0 : Int) ≤ (p : Int) by omega)
        omega
  · intro r hr
    obtain ⟨k, hk, rfl⟩ := List.mem_map.mp hr
    have := (hps k (List.mem_of_mem_take hk)).2
    rw [C0, df_ev, dg_ev hc, dg_ev he]
    have := C.add this (C.refl (-ev e (k : Int)))
    exact (C.of (by omega)).trans (this.trans (C.of (by omega)))
/-! ### stepping along the differences -/
theorem D_add (g : Nat → Int) (L : Nat) : ∀ i k, D (fun k => D g L k) i k = D g (i + L) k
  | 0, k => by rw [Nat.zero_add]; rfl
  | i + 1, k => by
    have e : i + 1 + L = (i + L) + 1 := by omega
    rw [e]
    show D (fun k => D g L k) i (k + 1) - D (fun k => D g L k) i k = D g (i + L) (k + 1) - D g (i + L) k
    rw [D_add g L i (k + 1), D_add g L i k]
theorem D_cut {p : Int} {c : List Int} {L : Nat} (h : ∀ i, L ≤ i → C p (D (fun j => ev c (j : Int)) i 0) 0) (k : Nat) : C p (D (fun j => ev c (j : Int)) L k) 0 := by
  have := D_zero (p := p) (h := fun k => D (fun j => ev c (j : Int)) L k) (n := c.length) (fun i _ => by rw [D_add]; exact h _ (by omega)) (fun k => by rw [D_add, D_over (by omega)]; exact C.refl _) c.length (Nat.le_refl _) k
  rw [Nat.sub_self] at this
  exact this
end Lk

namespace Lk
theorem pr53 : Pr 53 := pr_small (by decide) (by decide)
theorem pr101 : Pr 101 := pr_small (by decide) (by decide +kernel)
/-! ### Lagrange, as the laws say it -/
/-- the product of t - j over all j below m but k -/
def lg (k : Nat) (t : Int) : Nat → Int
  | 0 => 1
  | m + 1 => if m = k then lg k t m else lg k t m * (t - (m : Int))
theorem lg_zero {k j : Nat} (hj : j ≠ k) : ∀ m, j < m → lg k (j : Int) m = 0
  | 0, h => by omega
  | m + 1, h => by
    unfold lg
    by_cases e : m = k
    · rw [if_pos e, lg_zero hj m (by omega)]
    · rw [if_neg e]
      by_cases e2 : j = m
      · rw [e2, Int.sub_self, Int.mul_zero]
      · rw [lg_zero hj m (by omega), Int.zero_mul]
theorem lg_ne {p k : Nat} (h : Pr p) (hk : k < p) : ∀ m, m ≤ p → lg k (k : Int) m % (p : Int) ≠ 0
  | 0, _ => by
    have := h.1
    show (1 : Int) % (p : Int) ≠ 0
    rw [Int.emod_eq_of_lt (by omega) (by omega)]
    omega
  | m + 1, hm => fun z => by
    have ih := lg_ne h hk m (by omega)
    unfold lg at z
    by_cases e : m = k
    · rw [if_pos e] at z
      exact ih z
    · rw [if_neg e] at z
      have := pr_mul h z ih
      obtain ⟨q, hq⟩ := Int.dvd_of_emod_eq_zero this
      by_cases q0 : q = 0
      · rw [q0, Int.mul_zero] at hq; omega
      · by_cases qp : 0 < q
        · have := Int.mul_le_mul_of_nonneg_left (show 1 ≤ q by omega) (show (0 : Int) ≤ (p : Int) by omega)
          omega
        · have := Int.mul_le_mul_of_nonneg_left (show q ≤ -1 by omega) (show (0 : Int) ≤ (p : Int) by omega)
          omega
/-- how many factors -/
def cnt (k : Nat) : Nat → Nat
  | 0 => 0
  | m + 1 => if m = k then cnt k m else cnt k m + 1
theorem cnt_le (k : Nat) : ∀ m, cnt k m ≤ m ∧ (k < m → cnt k m + 1 ≤ m)
  | 0 => ⟨Nat.le_refl _, fun h => by omega⟩
  | m + 1 => by
    have ih := cnt_le k m
    unfold cnt
    by_cases e : m = k
    · rw [if_pos e]; exact ⟨by omega, fun _ => by omega⟩
    · rw [if_neg e]; exact ⟨by omega, fun h => by have := ih.2 (by omega); omega⟩
theorem pd_lg {p w : Int} {k : Nat} : ∀ m, PD p (cnt k m) (fun t => w * lg k t m)
  | 0 => (PD.const w).congr fun t => C.of (by show w * 1 = w; omega)
  | m + 1 => by
    have ih := pd_lg (p := p) (w := w) (k := k) m
    by_cases e : m = k
    · have h1 : cnt k (m + 1) = cnt k m := by show (if m = k then _ else _) = _; rw [if_pos e]
      rw [h1]
      refine ih.congr fun t => C.of ?_
      show w * (if m = k then _ else _) = _
      rw [if_pos e]
    · have h1 : cnt k (m + 1) = cnt k m + 1 := by show (if m = k then _ else _) = _; rw [if_neg e]
      rw [h1]
      refine (ih.lin (a := -(m : Int)) (b := 1)).congr fun t => C.of ?_
      show w * (if m = k then _ else _) = _
      rw [if_neg e]
      grind
theorem PD.up {p : Int} {n m : Nat} {f : Int → Int} (hf : PD p n f) (h : n ≤ m) : PD p m f := by
  obtain ⟨c, c1, c2⟩ := hf
  refine (PD.poly (c := c) (by omega)).congr c2
/-- the law's sum -/
def lt (p : Nat) (v : Nat → Int) (n : Nat) (t : Int) (k : Nat) : Int := v k * lg k t n * lg k (k : Int) n ^ ((p : Int) - 2).toNat
theorem lt_self {p k : Nat} {v : Nat → Int} {n : Nat} (h : Pr p) (hk : k < n) (hn : n ≤ p) : C (p : Int) (lt p v n (k : Int) k) (v k) := by
  have h1 := lg_ne h (show k < p by omega) n hn
  have f := fermat_of h h1
  unfold lt
  generalize lg k (k : Int) n = B at *
  have : C (p : Int) (B ^ ((p : Int) - 2).toNat % (p : Int) * B) 1 := by
    unfold C
    rw [f, Int.emod_eq_of_lt (by omega) (by have := h.1; omega)]
  have c2 : C (p : Int) (B ^ ((p : Int) - 2).toNat * B) 1 := (C.mul C.mod.symm (C.refl _)).trans this
  refine (C.of ?_).trans ((C.mul (C.refl (v k)) c2).trans (C.of (Int.mul_one _)))
  rw [Int.mul_assoc, Int.mul_comm B]
theorem lt_other {p k m : Nat} {v : Nat → Int} {n : Nat} (hm : m < n) (hne : m ≠ k) : lt p v n (m : Int) k = 0 := by
  unfold lt
  rw [lg_zero hne n hm, Int.mul_zero, Int.zero_mul]
theorem pd_lt {p k n : Nat} {v : Nat → Int} (hk : k < n + 1) : PD (p : Int) n (fun t => lt p v (n + 1) t k) := by
  refine ((pd_lg (p := (p : Int)) (w := v k * lg k (k : Int) (n + 1) ^ ((p : Int) - 2).toNat) (k := k) (n + 1)).up ?_).congr fun t => C.of ?_
  · have := (cnt_le k (n + 1)).2 hk
    omega
  · show v k * lg k t (n + 1) * lg k (k : Int) (n + 1) ^ ((p : Int) - 2).toNat = v k * lg k (k : Int) (n + 1) ^ ((p : Int) - 2).toNat * lg k t (n + 1)
    rw [Int.mul_right_comm]
theorem pd_lts {p n : Nat} {v : Nat → Int} : ∀ m, m ≤ n + 1 → PD (p : Int) n (fun t => sN (lt p v (n + 1) t) m)
  | 0, _ => PD.zero
  | m + 1, h => PD.add (pd_lts m (by omega)) (pd_lt (by omega))
/-- the law's sum is the polynomial with these values -/
theorem lag {p n : Nat} (h : Pr p) (hn : n + 1 ≤ p) {v : Nat → Int} {f : Int → Int} (hf : PD p n f) (hv : ∀ k : Nat, k ≤ n → C p (v k) (f (k : Int))) (t : Int) : C p (sN (lt p v (n + 1) t) (n + 1)) (f t) := by
  refine uniq h hn (pd_lts (n + 1) (Nat.le_refl _)) hf (fun k hk => ?_) t
  have := sN_at (f := lt p v (n + 1) (k : Int)) (j := k) (lt_self (v := v) h (show k < n + 1 by omega) hn) (n + 1) fun i hi hne => lt_other (by omega) (by omega)
  rw [if_pos (by omega)] at this
  exact this.trans (hv k hk)
/-! ### the product of t less each guess -/
def gp (gs : List Int) (t : Int) : Int := gs.foldl (fun a g => a * (t - g)) 1
def gm (p : Int) (gs : List Int) (t : Int) : Int := gs.foldl (fun a g => a * (t - g) % p) 1
theorem gp_snoc (gs : List Int) (g t : Int) : gp (gs ++ [g]) t = gp gs t * (t - g) := by simp [gp]
theorem gm_snoc (p : Int) (gs : List Int) (g t : Int) : gm p (gs ++ [g]) t = gm p gs t * (t - g) % p := by simp [gm]
theorem gp_foldC (p : Int) (t : Int) : ∀ (gs : List Int) (a b : Int), C p a b → C p (gs.foldl (fun a g => a * (t - g) % p) a) (gs.foldl (fun a g => a * (t - g)) b)
  | [], _, _, h => h
  | g :: r, a, b, h => gp_foldC p t r _ _ (C.mod.trans (C.mul h (C.refl _)))
theorem gm_C (p : Int) (gs : List Int) (t : Int) : C p (gm p gs t) (gp gs t) := gp_foldC p t gs 1 1 (C.refl _)
theorem gm_foldI {p : Int} (hp : 2 ≤ p) (t : Int) : ∀ (gs : List Int) (a : Int), 0 ≤ a → a < p → 0 ≤ gs.foldl (fun a g => a * (t - g) % p) a ∧ gs.foldl (fun a g => a * (t - g) % p) a < p
  | [], _, h1, h2 => ⟨h1, h2⟩
  | g :: r, a, _, _ => gm_foldI hp t r _ (Int.emod_nonneg _ (by omega)) (Int.emod_lt_of_pos _ (by omega))
theorem gm_in {p : Int} (hp : 2 ≤ p) (gs : List Int) (t : Int) : 0 ≤ gm p gs t ∧ gm p gs t < p := gm_foldI hp t gs 1 (by omega) (by omega)
theorem gp_fold_lin (t : Int) : ∀ (gs : List Int) (a : Int), gs.foldl (fun a g => a * (t - g)) a = a * gp gs t
  | [], a => by show a = a * 1; omega
  | g :: r, a => by
    show r.foldl (fun a g => a * (t - g)) (a * (t - g)) = a * r.foldl (fun a g => a * (t - g)) (1 * (t - g))
    rw [gp_fold_lin t r, gp_fold_lin t r (1 * (t - g)), Int.one_mul, Int.mul_assoc]
theorem gp_cons (g : Int) (r : List Int) (t : Int) : gp (g :: r) t = (t - g) * gp r t := by
  show r.foldl (fun a g => a * (t - g)) (1 * (t - g)) = _
  rw [gp_fold_lin, Int.one_mul]
theorem gp_zero {gs : List Int} {g : Int} (h : g ∈ gs) : gp gs g = 0 := by
  induction gs with
  | nil => simp at h
  | cons x r ih =>
    rw [gp_cons]
    rcases List.mem_cons.mp h with e | e
    · rw [e, Int.sub_self, Int.zero_mul]
    · rw [ih e, Int.mul_zero]
theorem pd_gp {p : Int} : ∀ gs : List Int, PD p gs.length (fun t => gp gs t)
  | [] => PD.const 1
  | g :: r => ((pd_gp (p := p) r).lin (a := -g) (b := 1)).congr fun t => C.of (by rw [gp_cons]; grind)
end Lk

namespace Lk
open PySem PySem.Spec PyProof.Rows L2
/-! ### a heap without the addresses that change -/
def hid (M : List Addr) (H : Hp) : Hp := fun a => if a ∈ M then none else H a
def Al (M : List Addr) (H : Hp) : Prop := ∀ a ∈ M, H a ≠ none
theorem hid_of {M : List Addr} {H : Hp} {a : Addr} {o : HO} (h : hid M H a = some o) : H a = some o ∧ a ∉ M := by
  unfold hid at h
  by_cases e : a ∈ M
  · rw [if_pos e] at h; cases h
  · rw [if_neg e] at h; exact ⟨h, e⟩
theorem hid_in {M : List Addr} {H : Hp} {a : Addr} {o : HO} (h : H a = some o) (e : a ∉ M) : hid M H a = some o := by
  unfold hid
  rw [if_neg e]
  exact h
theorem hid_sub {M : List Addr} {H : Hp} : Same (hid M H) H := fun a o h => (hid_of h).1
theorem hid_same {M : List Addr} {H H' : Hp} (s : Same H H') : Same (hid M H) (hid M H') := fun a o h => hid_in (s a o (hid_of h).1) (hid_of h).2
theorem Al.same {M : List Addr} {H H' : Hp} (l : Al M H) (s : Same H H') : Al M H' := fun a ha e => by
  cases h : H a with
  | none => exact l a ha h
  | some o => rw [s a o h] at e; cases e
theorem Al.new {M : List Addr} {H : Hp} {p : Addr} (l : Al M H) (n : H p = none) : p ∉ M := fun h => l p h n
theorem Al.cons {M : List Addr} {H : Hp} {p : Addr} {o : HO} (l : Al M H) (h : H p = some o) : Al (p :: M) H := fun a ha => by
  rcases List.mem_cons.mp ha with e | e
  · rw [e, h]; exact nofun
  · exact l a e
theorem hid_more {M M' : List Addr} {H : Hp} (h : ∀ a ∈ M, a ∈ M') : Same (hid M' H) (hid M H) := fun a o e => hid_in (hid_of e).1 fun z => (hid_of e).2 (h a z)
theorem hid_cons {p : Addr} {M : List Addr} {H : Hp} : Same (hid (p :: M) H) (hid M H) := hid_more fun a h => List.mem_cons_of_mem _ h
/-- a change at a hidden address is not seen -/
theorem hid_mut {M : List Addr} {H : Hp} {p : Addr} {o : HO} (h : p ∈ M) : Same (hid M H) (hid M (L2.upd H p o)) := fun a u e => by
  obtain ⟨e1, e2⟩ := hid_of e
  refine hid_in ?_ e2
  rw [upd_ne (show a ≠ p from fun z => e2 (by rw [z]; exact h))]
  exact e1
theorem hid_mut' {M : List Addr} {H : Hp} {p : Addr} {o : HO} (h : p ∈ M) : Same (hid M (L2.upd H p o)) (hid M H) := fun a u e => by
  obtain ⟨e1, e2⟩ := hid_of e
  refine hid_in ?_ e2
  rw [upd_ne (show a ≠ p from fun z => e2 (by rw [z]; exact h))] at e1
  exact e1
theorem hid_fresh {p : Addr} {M : List Addr} {H : Hp} (n : H p = none) : Same (hid M H) (hid (p :: M) H) := fun a u e => by
  obtain ⟨e1, e2⟩ := hid_of e
  refine hid_in e1 fun z => ?_
  rcases List.mem_cons.mp z with h | h
  · rw [h, n] at e1; cases e1
  · exact e2 h
theorem hid_none {M : List Addr} {H : Hp} {p : Addr} (n : H p = none) : hid M H p = none := by
  unfold hid
  split
  · rfl
  · exact n
/-! ### the row of the draws -/
def StR (H : Hp) (st : Addr) : Prop := ∃ (n : Int) (l : List Int), H st = some (.lst ((n :: l).map V.int)) ∧ 0 ≤ n ∧ l.length ≤ 5000
theorem StR.same {st : Addr} {H H' : Hp} (s : StR H st) (h : Same H H') : StR H' st := by
  obtain ⟨n, l, h1, h2, h3⟩ := s
  exact ⟨n, l, h _ _ h1, h2, h3⟩
/-- drawing goes on: the row, and which addresses may change -/
structure Dr (st : Addr) (M : List Addr) (H : Hp) : Prop where
  row : StR H st
  mem : st ∈ M
  al : Al M H
theorem Dr.same {st : Addr} {M : List Addr} {H H' : Hp} (d : Dr st M H) (s : Same H H') : Dr st M H' := ⟨d.row.same s, d.mem, d.al.same s⟩
theorem Dr.cons {st p : Addr} {M : List Addr} {H : Hp} {o : HO} (d : Dr st M H) (h : H p = some o) : Dr st (p :: M) H := ⟨d.row, List.mem_cons_of_mem _ d.mem, d.al.cons h⟩
theorem Dr.tail {st p : Addr} {M : List Addr} {H : Hp} (d : Dr st (p :: M) H) (h : st ∈ M) : Dr st M H := ⟨d.row, h, fun a ha => d.al a (List.mem_cons_of_mem _ ha)⟩
theorem Dr.mut {st p : Addr} {M : List Addr} {H : Hp} {o : HO} (d : Dr st M H) (h : p ≠ st) : Dr st M (L2.upd H p o) := by
  obtain ⟨⟨n, l, h1, h2, h3⟩, hm, al⟩ := d
  refine ⟨⟨n, l, by rw [upd_ne h.symm]; exact h1, h2, h3⟩, hm, fun a ha => ?_⟩
  by_cases e : a = p
  · rw [e, upd_same]; exact nofun
  · rw [upd_ne e]; exact al a ha
theorem Dr.one {st : Addr} {H : Hp} (s : StR H st) : Dr st [st] H := ⟨s, List.mem_cons_self, fun a ha => by
  obtain ⟨n, l, h1, _⟩ := s
  rw [List.mem_singleton.mp ha, h1]
  exact nofun⟩
/-- what a draw does: nothing but the row changes -/
def Rw (st : Addr) (H H' : Hp) : Prop := ∀ a o, H a = some o → a ≠ st → H' a = some o
theorem Rw.refl {st : Addr} (H : Hp) : Rw st H H := fun _ _ h _ => h
theorem Rw.trans {st : Addr} {H H1 H2 : Hp} (a : Rw st H H1) (b : Rw st H1 H2) : Rw st H H2 := fun x o h n => b x o (a x o h n) n
theorem Rw.of {st : Addr} {H H' : Hp} (s : Same H H') : Rw st H H' := fun a o h _ => s a o h
theorem Rw.new {st : Addr} {H H' : Hp} {p : Addr} {o : HO} (d : Rw st H H') (n : H' p = none) : Rw st H (upd H' p o) := d.trans (Rw.of (same_upd n))
/-- a place that H does not know may change -/
theorem Rw.mut {st : Addr} {H H' : Hp} {p : Addr} {o : HO} (d : Rw st H H') (n : H p = none) : Rw st H (upd H' p o) := fun a u e ne => by
  rw [upd_ne (ne_of_none e n)]
  exact d a u e ne
theorem Rw.hid {st : Addr} {M : List Addr} {H H' : Hp} (g : Rw st H H') (m : st ∈ M) : Same (hid M H) (hid M H') := fun a u e => by
  obtain ⟨e1, e2⟩ := hid_of e
  exact hid_in (g a u e1 fun z => e2 (z ▸ m)) e2
theorem Dr.step {st : Addr} {M : List Addr} {H H' : Hp} (d : Dr st M H) (s : StR H' st) (g : Rw st H H') : Dr st M H' := by
  refine ⟨s, d.mem, fun a ha => ?_⟩
  by_cases e : a = st
  · obtain ⟨n, l, h1, _⟩ := s
    rw [e, h1]; exact nofun
  · cases h : H a with
    | none => exact absurd h (d.al a ha)
    | some o => rw [g a o h e]; exact nofun
theorem cut_take (ns : List Int) (k : Nat) : cutV (ns.map V.int) none (some (k : Int)) = (ns.take k).map V.int := by
  unfold cutV
  rw [HT.sIx_nat, List.length_map]
  have h1 : HT.sIx ns.length 0 none = 0 := rfl
  rw [h1, List.drop_zero, Nat.sub_zero, List.map_take]
  by_cases h : k ≤ ns.length
  · rw [Nat.min_eq_left h]
  · rw [Nat.min_eq_right (by omega), List.take_of_length_le (by simp), List.take_of_length_le (by rw [List.length_map]; omega)]
theorem a_isN {H : Hp} {Q : VK} {x : V} (q : Q (.bl (decide (x = .non))) H) : (fun x y H Q => y = V.non ∧ Q (V.bl (decide (x = .non))) H : R2) x .non H Q := ⟨rfl, q⟩
theorem a_brk {nx bk ct : L2.St → Hp → Prop} {rt : VK} {σ : L2.St} {H : Hp} (q : bk σ H) : tBreak ⟨nx, rt, bk, ct⟩ σ H := q
theorem in_at {lo hi x : Int} {l : List Int} {i : Nat} (h : In lo hi l) (e : l[i]? = some x) : lo ≤ x ∧ x < hi := h x (List.mem_of_getElem? e)
theorem in_D {lo hi : Int} {l : List Int} {i : Nat} (h : In lo hi l) (hi' : i < l.length) : lo ≤ l.getD i 0 ∧ l.getD i 0 < hi := by
  have e : l[i]? = some (l.getD i 0) := by rw [List.getD_eq_getElem?_getD, List.getElem?_eq_getElem hi']; rfl
  exact in_at h e
theorem at_rg {f : Nat → V} {m : Nat} {x : Int} {k : Nat} (hx : x = (k : Int)) (hk : k < m) : atI ((List.range m).map f) x = some (f k) := by
  rw [hx]
  exact atI_nat (rg_at hk)
/-! ### comprehensions that draw -/
section
variable {K : PySem.W.Frag} {σ : L2.St} {H : Hp} {Q : VK} {te tl : TE} {ta : TA} {vs : List Nat}
/-- over a range; Inv speaks of what is not hidden -/
theorem g_gen {st : Addr} {M : List Addr} {k n : Nat} (Inv : Nat → List V → Hp → Prop) (mono : ∀ i ys H1 H2, Same H1 H2 → Inv i ys H1 → Inv i ys H2) (hn : n ≤ 1000000) (d0 : Dr st M H) (i0 : Inv 0 [] (hid M H))
    (he : ∀ (j : Nat) (D : Addr) (ys : List V) (H' : Hp) (R : VK), j < n → ys.length = j → H D = none → Dr st (D :: M) H' → Rw st H H' → Same (hid M H) (hid (D :: M) H') → Inv j ys (hid (D :: M) H') →
      (∀ y H'', StR H'' st → Rw st H' H'' → Inv (j + 1) (ys ++ [y]) (hid (D :: M) H'') → R y H'') → te ((wipe σ [k]).set k (some (.int (j : Int)))) H' R)
    (q : ∀ D H' ys, H D = none → Dr st M H' → Rw st H H' → ys.length = n → Inv n ys (hid M H') → H' D = some (.lst ys) → Q (.ref D) H') :
    ∀ D, H D = none → ∃ W : Nat → Nat → Hp → Prop, (∃ m, W 0 m (upd H D (.lst []))) ∧ ∀ i m H, W i m H →
      ((Itr 0 n).stop i H ∧ Q (.ref D) H) ∨ ((Itr 0 n).go i H ∧ ∃ Nx : Hp → Prop, (∀ H', Nx H' → ∃ m', m' < m ∧ W (i + 1) m' H') ∧ ∀ x H', (Itr 0 n).yld i H x H' → gName k x (wipe σ [k]) H' fun σ2 H2 => wipe σ2 [k] = wipe σ [k] ∧ tYes σ2 H2 fun b H3 =>
        if b = true then te σ2 H3 fun y H4 => ∃ acc, H4 D = some (.lst acc) ∧ acc.length < sizeLine ∧ Nx (upd H4 D (.lst (acc ++ [y]))) else Nx H3) := by
  intro D hD
  have nD := d0.al.new hD
  have nst : D ≠ st := fun z => nD (z ▸ d0.mem)
  have s0 : ∀ o, Same (hid M H) (hid (D :: M) (upd H D o)) := fun o a u e => hid_mut (List.mem_cons_self) _ _ (hid_fresh hD _ _ e)
  refine lc_range (lo := 0) (n := n) (Qd := Q (.ref D)) (fun i H' => ∃ ys : List V, ys.length = i ∧ i ≤ n ∧ H' D = some (.lst ys) ∧ Dr st (D :: M) H' ∧ Rw st H H' ∧ Inv i ys (hid (D :: M) H'))
    ⟨[], rfl, Nat.zero_le _, upd_same, (d0.same (same_upd hD)).cons upd_same, (Rw.refl H).mut hD, mono _ _ _ _ (s0 _) i0⟩ ?_ ?_
  · rintro i H' hi ⟨ys, e1, e2, e3, d1, r1, iv⟩
    refine a_gname ?_
    refine ⟨by simp [wipe], a_yes (ift ?_)⟩
    rw [Int.zero_add]
    have sM : Same (hid M H) (hid (D :: M) H') := fun a u e => by
      obtain ⟨g1, g2⟩ := hid_of (r1.hid d0.mem a u e)
      refine hid_in g1 fun z => ?_
      rcases List.mem_cons.mp z with h | h
      · have := (hid_of e).1
        rw [h, hD] at this; cases this
      · exact g2 h
    refine he i D ys H' _ hi e1 hD d1 r1 sM iv fun y H'' s2 r2 iv2 => ?_
    refine ⟨ys, r2 _ _ e3 nst, szl (by omega), ys ++ [y], by rw [List.length_append, e1]; rfl, by omega, upd_same, (d1.step s2 r2).mut nst, (r1.trans r2).mut hD, mono _ _ _ _ (hid_mut List.mem_cons_self) iv2⟩
  · rintro H' ⟨ys, e1, e2, e3, d1, r1, iv⟩
    exact q D H' ys hD (d1.tail d0.mem) r1 e1 (mono _ _ _ _ hid_cons iv) e3
/-- what a draw leaves free was free -/
theorem Rw.free {st D : Addr} {H H' : Hp} (r : Rw st H H') (s : StR H' st) (h : H' D = none) : H D = none := by
  cases e : H D with
  | none => rfl
  | some o =>
    by_cases z : D = st
    · obtain ⟨n, l, h1, _⟩ := s
      rw [z, h1] at h; cases h
    · rw [r D o e z] at h; cases h
theorem c_gen {st : Addr} {M : List Addr} {k : Nat} (Pn : Nat → Prop) (Inv : Nat → List V → Hp → Prop) (mono : ∀ i ys H1 H2, Same H1 H2 → Inv i ys H1 → Inv i ys H2) (hv : vs = [k]) (hn : ∀ n, Pn n → n ≤ 1000000) (d0 : Dr st M H)
    (ht : ∀ R : List V → Hp → Prop, (∀ (n : Nat) H1, Pn n → StR H1 st → Rw st H H1 → R [.int (n : Int)] H1) → ta σ H R) (i0 : Inv 0 [] (hid M H))
    (he : ∀ (n j : Nat) (D : Addr) (ys : List V) (H' : Hp) (R : VK), Pn n → j < n → ys.length = j → H D = none → Dr st (D :: M) H' → Rw st H H' → Same (hid M H) (hid (D :: M) H') → Inv j ys (hid (D :: M) H') →
      (∀ y H'', StR H'' st → Rw st H' H'' → Inv (j + 1) (ys ++ [y]) (hid (D :: M) H'') → R y H'') → te ((wipe σ [k]).set k (some (.int (j : Int)))) H' R)
    (q : ∀ n D H' ys, Pn n → H D = none → Dr st M H' → Rw st H H' → ys.length = n → Inv n ys (hid M H') → H' D = some (.lst ys) → Q (.ref D) H') : tLc (iRng1 ta) (gName k) tYes te vs σ H Q := by
  subst hv
  refine ht (fun vs H1 => ∃ j : Int, vs = [.int j] ∧ -(2 ^ 62) ≤ j ∧ j < 2 ^ 62 ∧ _) fun n H1 hP s1 r1 => ⟨(n : Int), rfl, by omega, by have := hn n hP; omega, ?_⟩
  rw [Int.toNat_natCast]
  have d1 := d0.step s1 r1
  refine g_gen (st := st) (M := M) Inv mono (hn n hP) d1 (mono _ _ _ _ (r1.hid d0.mem) i0) ?_ ?_
  · intro j D ys H' R hj hl hD d2 r2 s2 iv r
    exact he n j D ys H' R hP hj hl (r1.free s1 hD) d2 (r1.trans r2) (fun a u e => s2 _ _ (r1.hid d0.mem _ _ e)) iv r
  · intro D H' ys hD d2 r2 hl iv e
    exact q n D H' ys hP (r1.free s1 hD) d2 (r1.trans r2) hl iv e
/-- over a range; the elements are numbers -/
theorem c_nums {st : Addr} {M : List Addr} {k : Nat} (Pn : Nat → Prop) (P : Int → Prop) (hv : vs = [k]) (hn : ∀ n, Pn n → n ≤ 1000000) (d0 : Dr st M H)
    (ht : ∀ R : List V → Hp → Prop, (∀ (n : Nat) H1, Pn n → StR H1 st → Rw st H H1 → R [.int (n : Int)] H1) → ta σ H R)
    (he : ∀ (n j : Nat) (H' : Hp) (R : VK), Pn n → j < n → Dr st M H' → Rw st H H' → (∀ y H'', StR H'' st → Rw st H' H'' → P y → R (.int y) H'') → te ((wipe σ [k]).set k (some (.int (j : Int)))) H' R)
    (q : ∀ n D H' (l : List Int), Pn n → H D = none → Dr st M H' → Rw st H H' → l.length = n → (∀ x ∈ l, P x) → H' D = some (.lst (l.map V.int)) → Q (.ref D) H') : tLc (iRng1 ta) (gName k) tYes te vs σ H Q := by
  refine c_gen (st := st) (M := M) Pn (fun i ys _ => ∃ l : List Int, ys = l.map V.int ∧ ∀ x ∈ l, P x) (fun _ _ _ _ _ h => h) hv hn d0 ht ⟨[], rfl, fun x hx => by simp at hx⟩ ?_ ?_
  · rintro n j D ys H' R hP hj hl hD d1 r1 _ ⟨l, rfl, hl2⟩ r
    refine he n j H' R hP hj (d1.tail d0.mem) r1 fun y H'' s2 r2 py => r _ _ s2 r2 ⟨l ++ [y], by rw [List.map_append]; rfl, fun x hx => ?_⟩
    rcases List.mem_append.mp hx with h | h
    · exact hl2 x h
    · rw [List.mem_singleton.mp h]; exact py
  · rintro n D H' ys hP hD d1 r1 hl ⟨l, rfl, hl2⟩ e
    exact q n D H' l hP hD d1 r1 (by rw [List.length_map] at hl; exact hl) hl2 e
end
/-- a comprehension over a list of ints, with a test -/
theorem c_lstM {K : PySem.W.Frag} {σ : L2.St} {H : Hp} {Q : VK} {te tl : TE} {tt : TT} {vs : List Nat} {a : Addr} {k : Nat} {xs : List Int} (f : Int → Bool) (hv : vs = [k]) (ht : ∀ R : VK, R (.ref a) H → tl σ H R) (hx : SqL K H a (xs.map V.int)) (hz : xs.length ≤ 1000000)
    (hc : ∀ x : Int, x ∈ xs → ∀ H' (R : Bool → Hp → Prop), Same H H' → R (f x) H' → tt ((wipe σ [k]).set k (some (.int x))) H' R)
    (he : ∀ x : Int, x ∈ xs → f x = true → ∀ H' (R : VK), Same H H' → R (.int x) H' → te ((wipe σ [k]).set k (some (.int x))) H' R)
    (q : ∀ D H', H D = none → Same H H' → H' D = some (.lst ((xs.filter f).map V.int)) → Q (.ref D) H') : tLc (iList K tl) (gName k) tt te vs σ H Q := by
  subst hv
  refine ht (fun x H1 => ∃ a, x = .ref a ∧ (∃ xs, SqL K H1 a xs) ∧ _) ⟨a, rfl, ⟨_, hx⟩, ?_⟩
  intro D hD
  refine lc_list (K := K) (a := a) (xs := xs.map V.int) (Qd := Q (.ref D)) (fun i H' => Same H H' ∧ H' D = some (.lst (((xs.take i).filter f).map V.int))) ⟨same_upd hD, upd_same⟩ (fun i H' _ h => h.1.seq hx) ?_ ?_
  · rintro i x H' hi ⟨s, e⟩
    obtain ⟨n, hn, rfl⟩ := getV hi
    have hlen := (List.getElem?_eq_some_iff.mp hn).1
    refine a_gname ⟨wipe1, ?_⟩
    refine hc n (List.mem_of_getElem? hn) H' _ s ?_
    have ht : xs.take (i + 1) = xs.take i ++ [n] := (take_app hn).symm
    cases hf : f n with
    | true =>
      refine ift (he n (List.mem_of_getElem? hn) hf H' _ s ?_)
      refine ⟨_, e, ?_, smut s hD, ?_⟩
      · refine szl ?_
        rw [List.length_map]
        refine Nat.le_trans (List.length_filter_le _ _) ?_
        rw [List.length_take]
        omega
      · rw [upd_same, ht, List.filter_append, List.map_append]
        simp [List.filter, hf]
    | false =>
      refine iff' ⟨s, ?_⟩
      rw [e, ht, List.filter_append]
      simp [List.filter, hf]
  · rintro H' ⟨s, e⟩
    refine q D H' hD s ?_
    rw [e, List.length_map, List.take_length]
end Lk

namespace Lk
open PySem PySem.Spec PyProof.Rows L2
local macro_rules | `(tactic| walk_at "side") => `(tactic| first | assumption | exact rfl | omega | (show _ ∧ _; omega) | (unfold CMul; omega) | (unfold CPow; omega) | (exact sql (by assumption)) | (exact sqt (by assumption)) | (exact cdw (by omega) (by omega)))
local macro_rules | `(tactic| walk_at "hs1") => `(tactic| first
  | (with_reducible refine a_seq ?_)
  | (with_reducible refine a_asg ?_)
  | (with_reducible refine a_gname ?_)
  | (with_reducible refine a_op ?_)
  | (with_reducible refine a_c ?_)
  | ((with_reducible refine' a_var ?h ?_); (case h => exact rfl))
  | (with_reducible refine a_i0 ?_)
  | ((with_reducible refine' a_iC ?h ?_); (case h => walk_at "side"))
  | (with_reducible refine a_un ?_)
  | (with_reducible refine a_u ?_)
  | (with_reducible refine a_ifS ?_)
  | (with_reducible refine a_test ?_)
  | (with_reducible refine a_tB ?_)
  | (with_reducible refine a_bl ?_)
  | (with_reducible refine a_eqI ?_)
  | (with_reducible refine a_neI ?_)
  | (with_reducible refine a_eqS ?_)
  | (with_reducible refine a_neS ?_)
  | (with_reducible refine a_eqB ?_)
  | (with_reducible refine a_neB ?_)
  | (with_reducible refine a_and ?_)
  | (with_reducible refine a_or ?_)
  | (with_reducible refine a_not ?_)
  | (with_reducible refine a_ifx ?_)
  | (with_reducible refine a_cons ?_)
  | (with_reducible refine a_nil ?_)
  | (with_reducible refine a_call ?_)
  | (with_reducible refine a_cb ?_)
  | (with_reducible refine a_int ?_)
  | (with_reducible refine a_ret ?_)
  | (with_reducible refine a_drop ?_)
  | (with_reducible refine a_next ?_)
  | (with_reducible refine a_brk ?_)
  | (with_reducible refine a_for ?_)
  | (with_reducible refine a_iList ?_)
  | (with_reducible refine a_rng1 ?_)
  | (with_reducible refine a_zip ?_)
  | (with_reducible refine a_tup ?_)
  | (with_reducible refine a_lst ?_)
  | (with_reducible refine a_gsub ?_)
  | (with_reducible refine a_gcons ?_)
  | (with_reducible refine a_gnil ?_)
  | ((with_reducible refine' a_aug ?h ?_); (case h => exact rfl))
  | (with_reducible refine a_ip ?_)
  | ((with_reducible refine' a_ixL ?h ?e ?_); (case h => walk_at "side"); (case e => first | exact rfl | exact at0 | exact at_int (by omega) (by omega)))
  | ((with_reducible refine' a_len ?h ?_); (case h => walk_at "side"))
  | (with_reducible refine a_bm ?_)
  | ((with_reducible refine' a_exrng ?h ?h2 ?_); (case h => omega); (case h2 => omega))
  | (with_reducible refine a_abs ?_)
  | (with_reducible refine a_sl3 ?_)
  | (with_reducible refine a_sl ?_)
  | (with_reducible refine a_part ?_)
  | (with_reducible refine a_nopart ?_)
  | (with_reducible refine a_exi ?_)
  | (with_reducible refine a_trI ?_)
  | (with_reducible refine a_trL ?_)
  | (with_reducible refine a_bm0 ?_)
  | (with_reducible refine a_rng2 ?_)
  | ((with_reducible refine' a_exrng2 ?h ?_); (case h => omega))
  | (with_reducible refine a_rng3 ?_)
  | ((with_reducible refine' a_exrng3 ?h ?_); (case h => omega))
  | (with_reducible refine a_max2 ?_)
  | (with_reducible refine a_min2 ?_)
  | (with_reducible refine a_lstRg ?_)
  | (with_reducible refine a_rg1 ?_)
  | (with_reducible refine a_byE ?_)
  | (with_reducible refine a_raiseE ?_)
  | (with_reducible refine a_callS ?_)
  | (with_reducible refine a_notN ?_)
  | (with_reducible refine a_isN ?_)
  | (with_reducible refine a_andV ?_)
  | (with_reducible refine a_orV ?_)
  | (with_reducible refine a_notV ?_)
  | (with_reducible refine a_chain ?_)
  | ((with_reducible refine' a_tyL ?h ?_); (case h => walk_at "side"))
  | ((with_reducible refine' a_ixT ?h ?e ?_); (case h => walk_at "side"); (case e => exact rfl)))
local macro_rules | `(tactic| walk_at "hs") => `(tactic| repeat walk_at "hs1")

/-! ### the text -/
def topS (i : Nat) : Stmt := PySem.Challenge.pw_layerask_k35_hopeful_polynomials.main.body.getD i (.Pass ⟨0, 0, 0, 0⟩)
abbrev s_power : Stmt := topS 4
abbrev N_power : List Str := ["base", "exponent", "p", "result", "square", "left"]
theorem sc_power : FnScope N_power ["base", "exponent", "p"] (defScope s_power) := ⟨rfl, rfl, rfl, by decide +kernel, rfl, by decide +kernel, by decide +kernel⟩
abbrev s_inverse : Stmt := topS 5
abbrev N_inverse : List Str := ["number", "p"]
theorem sc_inverse : FnScope N_inverse ["number", "p"] (defScope s_inverse) := ⟨rfl, rfl, rfl, by decide +kernel, rfl, by decide +kernel, by decide +kernel⟩
abbrev s_corners : Stmt := topS 7
abbrev N_corners : List Str := ["values", "p"]
theorem sc_corners : FnScope N_corners ["values", "p"] (defScope s_corners) := ⟨rfl, rfl, rfl, by decide +kernel, rfl, by decide +kernel, by decide +kernel⟩
abbrev s_hopeful : Stmt := topS 9
abbrev N_hopeful : List Str := ["lack", "guesses", "degree", "p", "values", "t", "product", "guess", "factor", "entry"]
theorem sc_hopeful : FnScope N_hopeful ["lack", "guesses", "degree", "p"] (defScope s_hopeful) := ⟨rfl, rfl, rfl, by decide +kernel, rfl, by decide +kernel, by decide +kernel⟩
abbrev s__law_stream : Stmt := topS 11
abbrev N__law_stream : List Str := ["script", "row", "cell", "left", "k", "seed"]
theorem sc__law_stream : FnScope N__law_stream ["script"] (defScope s__law_stream) := ⟨rfl, rfl, rfl, by decide +kernel, rfl, by decide +kernel, by decide +kernel⟩
abbrev s__law_take : Stmt := topS 12
abbrev N__law_take : List Str := ["row", "many"]
theorem sc__law_take : FnScope N__law_take ["row", "many"] (defScope s__law_take) := ⟨rfl, rfl, rfl, by decide +kernel, rfl, by decide +kernel, by decide +kernel⟩
abbrev s__law_at : Stmt := topS 13
abbrev N__law_at : List Str := ["values", "t", "p", "total", "k", "above", "below", "j"]
theorem sc__law_at : FnScope N__law_at ["values", "t", "p"] (defScope s__law_at) := ⟨rfl, rfl, rfl, by decide +kernel, rfl, by decide +kernel, by decide +kernel⟩
abbrev s_law : Stmt := topS 14
abbrev N_law : List Str := ["script", "row", "p", "degree", "guesses", "k", "lack", "kept", "told", "products", "number", "product", "guess", "whole"]
theorem sc_law : FnScope N_law ["script"] (defScope s_law) := ⟨rfl, rfl, rfl, by decide +kernel, rfl, by decide +kernel, by decide +kernel⟩
structure Txt (P : Program) (w : World) (K : PySem.W.Frag) (mg : Str → Option Value) where
  f_power : Addr
  fd_power : FuncData
  F_power : Fun K "power" "power" s_power f_power fd_power
  b_power : Binds K fd_power ["base", "exponent", "p"] []
  g_power : mg "power" = some (.ref f_power)
  f_inverse : Addr
  fd_inverse : FuncData
  F_inverse : Fun K "inverse" "inverse" s_inverse f_inverse fd_inverse
  b_inverse : Binds K fd_inverse ["number", "p"] []
  g_inverse : mg "inverse" = some (.ref f_inverse)
  f_corners : Addr
  fd_corners : FuncData
  F_corners : Fun K "corners" "corners" s_corners f_corners fd_corners
  b_corners : Binds K fd_corners ["values", "p"] []
  g_corners : mg "corners" = some (.ref f_corners)
  f_hopeful : Addr
  fd_hopeful : FuncData
  F_hopeful : Fun K "hopeful" "hopeful" s_hopeful f_hopeful fd_hopeful
  b_hopeful : Binds K fd_hopeful ["lack", "guesses", "degree", "p"] []
  g_hopeful : mg "hopeful" = some (.ref f_hopeful)
  f__law_stream : Addr
  fd__law_stream : FuncData
  F__law_stream : Fun K "_law_stream" "_law_stream" s__law_stream f__law_stream fd__law_stream
  b__law_stream : Binds K fd__law_stream ["script"] []
  g__law_stream : mg "_law_stream" = some (.ref f__law_stream)
  f__law_take : Addr
  fd__law_take : FuncData
  F__law_take : Fun K "_law_take" "_law_take" s__law_take f__law_take fd__law_take
  b__law_take : Binds K fd__law_take ["row", "many"] []
  g__law_take : mg "_law_take" = some (.ref f__law_take)
  f__law_at : Addr
  fd__law_at : FuncData
  F__law_at : Fun K "_law_at" "_law_at" s__law_at f__law_at fd__law_at
  b__law_at : Binds K fd__law_at ["values", "t", "p"] []
  g__law_at : mg "_law_at" = some (.ref f__law_at)
  f_law : Addr
  fd_law : FuncData
  F_law : Fun K "law" "law" s_law f_law fd_law
  b_law : Binds K fd_law ["script"] []
  g_law : mg "law" = some (.ref f_law)
  m_abs : mg "abs" = none
  m_int : mg "int" = none
  m_isinstance : mg "isinstance" = none
  m_len : mg "len" = none
  m_list : mg "list" = none
  m_min : mg "min" = none
  m_range : mg "range" = none
  C_FieldError : Addr
  E_FieldError : Err P w K mg "FieldError" "number" C_FieldError (fun _ => True)
/-! ### the promises -/
theorem vals_ints {lo hi : Int} : ∀ (ys : List V), (∀ y ∈ ys, ∃ d, y = V.int d ∧ lo ≤ d ∧ d < hi) → ∃ ds : List Int, ys = ds.map V.int ∧ In lo hi ds
  | [], _ => ⟨[], rfl, fun e he => by simp at he⟩
  | y :: r, h => by
    obtain ⟨d, rfl, h1⟩ := h y List.mem_cons_self
    obtain ⟨ds, rfl, h2⟩ := vals_ints r fun z hz => h z (List.mem_cons_of_mem _ hz)
    refine ⟨d :: ds, rfl, fun e he => ?_⟩
    rcases List.mem_cons.mp he with h | h
    · rw [h]; exact h1
    · exact h2 e h
section
variable {P : Program} {w : World} {K : PySem.W.Frag} {mg : Str → Option Value} {base : Heap}
def sp_power : Sp := fun vs H Q _ => ∃ b e p : Int, vs = [.int b, .int e, .int p] ∧ 0 ≤ e ∧ 2 ≤ p ∧ p ≤ 2147483647 ∧ Q (.int (b ^ e.toNat % p)) H
theorem ok_power (T : Txt P w K mg) : FnOk P w K mg base CX0 1 T.f_power T.fd_power ["base", "exponent", "p"] (sp_power) := by
  refine T.F_power.ok sc_power (fun vs H Q E h => ?len) (fun cdv A outer s H vs Q E hr h => ?body)
  · obtain ⟨b, e, p, rfl, _⟩ := h
    rfl
  · obtain ⟨b, e, p, rfl, he, hp, hpb, q⟩ := h
    refine ⟨_, (pss_cons (ps_set (i := 3) sc_power.nd rfl (.inl rfl) pe_int)
      (pss_cons (ps_set (i := 4) sc_power.nd rfl (.inl rfl) (pe_op op_mod (pv 0) (pv 2)))
      (pss_cons (ps_set (i := 5) sc_power.nd rfl (.inl rfl) (pv 1))
      (pss_cons (ps_while PassesOwn.never (pt_cmpR op_gt (pv 5) pe_int (nomark _)) (pss_cons (ps_if (pt_int1 (pe_op op_and (pv 5) pe_int) (fun _ => rfl)) (pss_one (ps_set (i := 3) sc_power.nd rfl (.inl rfl) (pe_op op_mod (pe_op op_mul (pv 3) (pv 4)) (pv 2)))) pss_nil)
      (pss_cons (ps_set (i := 4) sc_power.nd rfl (.inl rfl) (pe_op op_mod (pe_op op_mul (pv 4) (pv 4)) (pv 2)))
      (pss_one (ps_set (i := 5) sc_power.nd rfl (.inl rfl) (pe_op op_shr (pv 5) pe_int))))))
      (pss_one (ps_ret (pv 3))))))), ?_⟩
    walk_at "hs"
    have hb1 : 0 ≤ b % p := Int.emod_nonneg _ (by omega)
    have hb2 : b % p < p := Int.emod_lt_of_pos _ (by omega)
    refine a_while (fun m σ H' => H' = H ∧ ∃ r sq l : Int, σ = [some (.int b), some (.int e), some (.int p), some (.int r), some (.int sq), some (.int l)] ∧ 0 ≤ r ∧ r < p ∧ 0 ≤ sq ∧ sq < p ∧ 0 ≤ l ∧ C p (r * sq ^ l.toNat) (b ^ e.toNat) ∧ m = l.toNat) _ ⟨rfl, 1, b % p, e, rfl, by omega, by omega, hb1, hb2, he, pow_start, rfl⟩ ?_
    rintro m σ H' ⟨rfl, r, sq, l, rfl, r0, r1, s0, s1, l0, hC, rfl⟩
    walk_at "hs"
    have n1 : 0 ≤ r * sq % p := Int.emod_nonneg _ (by omega)
    have n2 : r * sq % p < p := Int.emod_lt_of_pos _ (by omega)
    have n3 : 0 ≤ sq * sq % p := Int.emod_nonneg _ (by omega)
    have n4 : sq * sq % p < p := Int.emod_lt_of_pos _ (by omega)
    refine ifd (fun hl => ?_) (fun hl => ?_)
    · refine ⟨_, fun _ _ z => z, ?_⟩
      have hh : l / 2 ^ (1 : Int).toNat = l / 2 := rfl
      walk_at "hs"
      rw [bitAnd_m1]
      refine ifb (fun hc => ?_) (fun hc => ?_)
      · have ho : l % 2 = 1 := by
          have : l % 2 ≠ 0 := by simpa using hc
          omega
        walk_at "hs"
        exact ⟨_, by omega, rfl, _, _, _, rfl, n1, n2, n3, n4, by omega, pow_odd hl ho hC, rfl⟩
      · have ho : l % 2 = 0 := by simpa using hc
        walk_at "hs"
        exact ⟨_, by omega, rfl, _, _, _, rfl, r0, r1, n3, n4, by omega, pow_even hl ho hC, rfl⟩
    · walk_at "hs"
      have e0 : l = 0 := by omega
      subst e0
      have : r = b ^ e.toNat % p := by
        have h2 : C p (b ^ e.toNat) r := hC.symm.trans (C.of (by show r * sq ^ (0 : Nat) = r; rw [Int.pow_zero, Int.mul_one]))
        exact (C.eq h2 r0 r1).symm
      rw [this]
      exact q
def sp_inverse (C0 : Addr) : Sp := fun vs H Q E => ∃ a p : Int, vs = [.int a, .int p] ∧ 2 ≤ p ∧ p ≤ 2147483647 ∧ (a % p ≠ 0 → Q (.int (a ^ (p - 2).toNat % p)) H) ∧ (a % p = 0 → ∀ d, H d = none → E (.ref C0) (some d) (upd H d (.xd [("number", .int a)])))
theorem ok_inverse (T : Txt P w K mg) : FnOk P w K mg base (L2.CX P w) 2 T.f_inverse T.fd_inverse ["number", "p"] (sp_inverse T.C_FieldError) := by
  have G_power := ok_power (P := P) (w := w) (base := base) T
  refine T.F_inverse.okX sc_inverse (fun vs H Q E h => ?len) (fun cdv A outer s H vs Q E hr h => ?body)
  · obtain ⟨a, p, rfl, _⟩ := h
    rfl
  · obtain ⟨a, p, rfl, hp, hpb, q1, q2⟩ := h
    refine ⟨_, (pss_cons (ps_if (pt_cmpR op_eq (pe_op op_mod (pv 0) (pv 1)) pe_int (nomark _)) (pss_one (ps_raiseE (k := 0) (W := fun cls d _ H => E cls d H) rfl T.E_FieldError (hr.mono (by decide)) (takes_of rfl rfl rfl rfl) (by exact (pa_cons (pv 0) pa_nil)))) pss_nil)
      (pss_one (ps_ret (pe_call G_power (hr.mono (by decide)) (by rfl) T.g_power T.F_power.kp T.b_power .nil pass0 (pa_cons (pv 0) (pa_cons (pe_op op_sub (pv 1) pe_int) (pa_cons (pv 1) pa_nil))))))), ?_⟩
    walk_at "hs"
    refine ifd (fun h2 => ?_) (fun h2 => ?_)
    · walk_at "hs"
      exact ⟨_, rfl, trivial, fun d hd => q2 h2 d hd⟩
    · walk_at "hs"
      exact ⟨a, p - 2, p, rfl, by omega, hp, hpb, q1 h2⟩
def sp_corners : Sp := fun vs H Q _ => ∃ (a : Addr) (p : Int) (l : List Int), vs = [.ref a, .int p] ∧ H a = some (.lst (l.map V.int)) ∧ 2 ≤ l.length ∧ 2 ≤ p ∧ p ≤ 2147483647 ∧ Q (.int ((l.getD 0 0 + l.getD 1 0) % p)) H
theorem ok_corners (T : Txt P w K mg) : FnOk P w K mg base CX0 1 T.f_corners T.fd_corners ["values", "p"] (sp_corners) := by
  refine T.F_corners.ok sc_corners (fun vs H Q E h => ?len) (fun cdv A outer s H vs Q E hr h => ?body)
  · obtain ⟨a, p, l, rfl, _⟩ := h
    rfl
  · obtain ⟨a, p, l, rfl, ha, hl, hp, hpb, q⟩ := h
    have hx0 : (0 : Int) < (l.length : Int) := by omega
    have hx1 : (1 : Int) < (l.length : Int) := by omega
    refine ⟨_, (pss_cons (ps_if (pt_cmpR op_eq (pe_callB (lenK_ (K := K) rfl) (by rfl) T.m_len PySem.boot_len (pa_cons (pv 0) pa_nil)) pe_int (nomark _)) (pss_one (ps_ret (pe_op op_mod (pe_op op_mul pe_int (pe_ix (ixL_ (K := K) rfl) (pv 0) pe_int (fun _ _ => rfl))) (pv 1)))) pss_nil)
      (pss_one (ps_ret (pe_op op_mod (pe_op op_add (pe_ix (ixL_ (K := K) rfl) (pv 0) pe_int (fun _ _ => rfl)) (pe_ix (ixL_ (K := K) rfl) (pv 0) pe_int (fun _ _ => rfl))) (pv 1))))), ?_⟩
    walk_at "hs"
    rw [List.length_map]
    refine ifd (fun h => absurd h (by omega)) (fun _ => ?_)
    walk_at "hs"
    exact q
def facH (p : Nat) (gs : List Int) (lack : Int) : Int := lack * (((gm p gs 0 + gm p gs 1) % (p : Int)) ^ ((p : Int) - 2).toNat % (p : Int)) % (p : Int)
def hopeL (lack : Int) (gs : List Int) (n p : Nat) : List Int := (List.range (n + 1)).map fun (t : Nat) => gm p gs (t : Int) * facH p gs lack % (p : Int)
def Hope (lack : Int) (gs : List Int) (n p : Nat) (v : V) (H : Hp) : Prop :=
  ((n < gs.length ∨ (gm p gs 0 + gm p gs 1) % (p : Int) = 0) ∧ v = .non) ∨ (gs.length ≤ n ∧ (gm p gs 0 + gm p gs 1) % (p : Int) ≠ 0 ∧ ∃ r, v = .ref r ∧ H r = some (.lst ((hopeL lack gs n p).map V.int)))
theorem fac_ok {p : Nat} {gs : List Int} {lack : Int} (hP : Pr p) (h : (gm p gs 0 + gm p gs 1) % (p : Int) ≠ 0) : C (p : Int) (facH p gs lack * ((gm p gs 0 + gm p gs 1) % (p : Int))) lack := by
  have h2 : ¬ (gm p gs 0 + gm p gs 1) % (p : Int) % (p : Int) = 0 := by rw [Int.emod_emod_of_dvd _ (Int.dvd_refl _)]; exact h
  have f := fermat_of hP h2
  unfold facH
  generalize (gm p gs 0 + gm p gs 1) % (p : Int) = W at *
  have c1 : C (p : Int) (W ^ ((p : Int) - 2).toNat % (p : Int) * W) 1 := by
    unfold C
    rw [f, Int.emod_eq_of_lt (by omega) (by have := hP.1; omega)]
  refine (C.mul C.mod (C.refl W)).trans ((C.of ?_).trans ((C.mul (C.refl lack) c1).trans (C.of (Int.mul_one _))))
  rw [Int.mul_assoc]
theorem hope_at {lack : Int} {gs : List Int} {n p k : Nat} (h : k < n + 1) : (hopeL lack gs n p).getD k 0 = gm p gs (k : Int) * facH p gs lack % (p : Int) := by
  unfold hopeL
  rw [List.getD_eq_getElem?_getD, rg_at h]
  rfl
theorem hope_sum {lack : Int} {gs : List Int} {n p : Nat} (hP : Pr p) (hn : 1 ≤ n) (h : (gm p gs 0 + gm p gs 1) % (p : Int) ≠ 0) : ((hopeL lack gs n p).getD (0 : Int).toNat 0 + (hopeL lack gs n p).getD (1 : Int).toNat 0 - lack) % (p : Int) = 0 := by
  have e0 : (hopeL lack gs n p).getD (0 : Int).toNat 0 = gm p gs 0 * facH p gs lack % (p : Int) := hope_at (k := 0) (by omega)
  have e1 : (hopeL lack gs n p).getD (1 : Int).toNat 0 = gm p gs 1 * facH p gs lack % (p : Int) := hope_at (k := 1) (by omega)
  rw [e0, e1, C0]
  have f := fac_ok (lack := lack) hP h
  have c1 : C (p : Int) (gm p gs 0 * facH p gs lack % (p : Int) + gm p gs 1 * facH p gs lack % (p : Int)) lack := (C.add C.mod C.mod).trans ((C.of (by grind)).trans ((C.mul (C.refl (facH p gs lack)) C.mod.symm).trans f))
  have := C.add c1 (C.refl (-lack))
  exact (C.of (by omega)).trans (this.trans (C.of (by omega)))
theorem hope_each {lack : Int} {gs : List Int} {n p k : Nat} (hP : Pr p) (h : (gm p gs 0 + gm p gs 1) % (p : Int) ≠ 0) (hk : k < n + 1) : ((hopeL lack gs n p).getD k 0 * ((gm p gs 0 + gm p gs 1) % (p : Int)) - lack * gm p gs (k : Int)) % (p : Int) = 0 := by
  rw [hope_at hk, C0]
  have f := fac_ok (lack := lack) hP h
  have c1 : C (p : Int) (gm p gs (k : Int) * facH p gs lack % (p : Int) * ((gm p gs 0 + gm p gs 1) % (p : Int))) (lack * gm p gs (k : Int)) := (C.mul C.mod (C.refl _)).trans ((C.of (by grind)).trans (C.mul f (C.refl (gm p gs (k : Int)))))
  have := C.add c1 (C.refl (-(lack * gm p gs (k : Int))))
  exact (C.of (by omega)).trans (this.trans (C.of (by omega)))
theorem hope_root {lack g : Int} {gs : List Int} {n p : Nat} (hP : Pr p) (hg : g ∈ gs) (hl : gs.length ≤ n) (hn : n + 1 ≤ p) : sN (lt p (fun k => (hopeL lack gs n p).getD k 0) (n + 1) g) (n + 1) % (p : Int) = 0 := by
  have pd : PD (p : Int) n (fun t => facH p gs lack * gp gs t) := ((pd_gp (p := (p : Int)) gs).up hl).scale _
  have := lag hP hn (v := fun k => (hopeL lack gs n p).getD k 0) pd (fun k hk => ?_) g
  · have e : sN (lt p (fun k => (hopeL lack gs n p).getD k 0) (n + 1) g) (n + 1) % (p : Int) = (facH p gs lack * gp gs g) % (p : Int) := this
    rw [e, gp_zero hg, Int.mul_zero, Int.zero_emod]
  · show C (p : Int) ((hopeL lack gs n p).getD k 0) _
    rw [hope_at (by omega)]
    exact C.mod.trans ((C.mul (gm_C _ _ _) (C.refl _)).trans (C.of (Int.mul_comm _ _)))
def sp_hopeful : Sp := fun vs H Q _ => ∃ (lack : Int) (a : Addr) (gs : List Int) (n p : Nat), vs = [.int lack, .ref a, .int (n : Int), .int (p : Int)] ∧ H a = some (.lst (gs.map V.int)) ∧ gs.length ≤ 100 ∧ 1 ≤ n ∧ n ≤ 100 ∧ Pr p ∧ p ≤ 2147483647 ∧
  ∀ H' v, Same H H' → Hope lack gs n p v H' → Q v H'
theorem ok_hopeful (T : Txt P w K mg) : FnOk P w K mg base CX0 3 T.f_hopeful T.fd_hopeful ["lack", "guesses", "degree", "p"] (sp_hopeful) := by
  have G_corners := ok_corners (P := P) (w := w) (base := base) T
  have G_inverse := ok_inverse (P := P) (w := w) (base := base) T
  refine T.F_hopeful.ok sc_hopeful (fun vs H Q E h => ?len) (fun cdv A outer s H vs Q E hr h => ?body)
  · obtain ⟨lack, a, gs, n, p, rfl, _⟩ := h
    rfl
  · obtain ⟨lack, a, gs, n, p, rfl, ha, hgl, hn1, hn, hP, hpb, q⟩ := h
    have hp2 := hP.1
    refine ⟨_, (pss_cons (ps_if (pt_cmpR op_gt (pe_callB (lenK_ (K := K) rfl) (by rfl) T.m_len PySem.boot_len (pa_cons (pv 1) pa_nil)) (pv 2) (nomark _)) (pss_one (ps_ret pe_non)) pss_nil)
      (pss_cons (ps_set (i := 4) sc_hopeful.nd rfl (.inl rfl) (pe_lst pa_nil))
      (pss_cons (ps_for PassesOwn.never rfl (pi_range1 (by rfl) T.m_range (pa_cons (pe_op op_add (pv 2) pe_int) pa_nil)) (pg_name (i := 5) sc_hopeful.nd rfl (.inl rfl)) (pss_cons (ps_set (i := 6) sc_hopeful.nd rfl (.inl rfl) pe_int)
      (pss_cons (ps_for PassesOwn.never rfl (piL_ (K := K) rfl (pv 1)) (pg_name (i := 7) sc_hopeful.nd rfl (.inl rfl)) (pss_one (ps_set (i := 6) sc_hopeful.nd rfl (.inl rfl) (pe_op op_mod (pe_op op_mul (pv 6) (pe_op op_sub (pv 5) (pv 7))) (pv 3)))))
      (pss_one (ps_expr (bmK_ (K := K) rfl (pe_bm PySem.F.plainAttrs_list PySem.F.slot_list_append PySem.F.type_list_append mt_append (pv 4) (pa_cons (pv 6) pa_nil))))))))
      (pss_cons (ps_if (pt_cmpR op_eq (pe_call G_corners (hr.mono (by decide)) (by rfl) T.g_corners T.F_corners.kp T.b_corners .nil pass0 (pa_cons (pv 4) (pa_cons (pv 3) pa_nil))) pe_int (nomark _)) (pss_one (ps_ret pe_non)) pss_nil)
      (pss_cons (ps_set (i := 8) sc_hopeful.nd rfl (.inr rfl) (pe_op op_mod (pe_op op_mul (pv 0) (by exact (pe_callS G_inverse (hr.mono (by decide)) (by rfl) T.g_inverse T.F_inverse.kp T.b_inverse (fun σ => passAt takes0 σ) (by exact (pa_cons (pe_call G_corners (hr.mono (by decide)) (by rfl) T.g_corners T.F_corners.kp T.b_corners .nil pass0 (pa_cons (pv 4) (pa_cons (pv 3) pa_nil))) (pa_cons (pv 3) pa_nil)))))) (pv 3)))
      (pss_one (ps_ret (pe_lc (own := [("entry", 9)]) rfl sc_hopeful.nd (piL_ (K := K) rfl (pv 4)) (blkOk_by (own := [("entry", 9)]) (N := N_hopeful) (sc := defScope s_hopeful) (by decide +kernel)) (fun _ _ _ _ _ => (pg_name (i := 9) sc_hopeful.nd rfl (.inl rfl))) (fun _ _ _ _ _ => pts_nil) (fun _ _ _ _ _ => (pe_op op_mod (pe_op op_mul (pv 9) (pv 8)) (pv 3))))))))))), ?_⟩
    walk_at "hs"
    rw [List.length_map]
    refine ifd (fun hlt => ?_) (fun hlt => ?_)
    · walk_at "hs"
      exact q H _ (Same.refl H) (.inl ⟨.inl (by omega), rfl⟩)
    walk_at "hs"
    refine ⟨Nat.zero_le _, fun vl nv => ?_⟩
    have s0 := same_upd (o := .lst []) nv
    have nva : a ≠ vl := fun z => by rw [← z, ha] at nv; cases nv
    walk_at "hs"
    rw [show ((n : Int) + 1).toNat = n + 1 by omega]
    refine fo_range (fun i σ H' => Same H H' ∧ ∃ x5 x6 x7, i ≤ n + 1 ∧ σ = [some (.int lack), some (.ref a), some (.int (n : Int)), some (.int (p : Int)), some (.ref vl), x5, x6, x7, none, none] ∧ H' vl = some (.lst (((List.range i).map fun (t : Nat) => gm p gs (t : Int)).map V.int))) ⟨s0, none, none, none, by omega, rfl, upd_same⟩ ?_ ?_
    · rintro i σ H' hi ⟨s1, x5, x6, x7, hi', rfl, e1⟩
      have ha1 := s1 _ _ ha
      walk_at "hs"
      refine a_exl (sql ha1) ?_
      refine fo_list (xs := gs.map V.int) (fun j σ H2 => H2 = H' ∧ ∃ x7, σ = [some (.int lack), some (.ref a), some (.int (n : Int)), some (.int (p : Int)), some (.ref vl), some (.int (i : Int)), some (.int (gm p (gs.take j) (i : Int))), x7, none, none]) ⟨rfl, x7, rfl⟩ (fun j σ H2 _ h => by rw [h.1]; exact sql ha1) ?_ ?_
      · rintro j x σ H2 hj ⟨rfl, x7, rfl⟩
        obtain ⟨g, hg, rfl⟩ := getV hj
        have b := gm_in (p := (p : Int)) (by omega) (gs.take j) (i : Int)
        walk_at "hs"
        refine ⟨rfl, some (.int g), ?_⟩
        rw [← take_app hg, gm_snoc]
        rfl
      · rintro σ H2 ⟨rfl, x7, rfl⟩
        rw [List.length_map, List.take_length]
        walk_at "hs"
        refine a_append e1 (szl (by simp; omega)) ?_
        walk_at "hs"
        refine ⟨smut s1 nv, _, _, _, by omega, rfl, ?_⟩
        rw [upd_same, List.range_succ, List.map_append, List.map_append]
        rfl
    · rintro σ H' ⟨s1, x5, x6, x7, _, rfl, e1⟩
      have b0 := gm_in (p := (p : Int)) (by omega) gs 0
      have b1 := gm_in (p := (p : Int)) (by omega) gs 1
      have g0 : ((List.range (n + 1)).map fun (t : Nat) => gm p gs (t : Int)).getD 0 0 = gm p gs 0 := by
        rw [List.getD_eq_getElem?_getD, List.getElem?_map, List.getElem?_range (by omega)]; rfl
      have g1 : ((List.range (n + 1)).map fun (t : Nat) => gm p gs (t : Int)).getD 1 0 = gm p gs 1 := by
        rw [List.getD_eq_getElem?_getD, List.getElem?_map, List.getElem?_range (by omega)]; rfl
      walk_at "hs"
      refine ⟨vl, (p : Int), ((List.range (n + 1)).map fun (t : Nat) => gm p gs (t : Int)), rfl, e1, by simp; omega, by omega, by omega, ?_⟩
      rw [g0, g1]
      walk_at "hs"
      refine ifd (fun hz => ?_) (fun hz => ?_)
      · walk_at "hs"
        exact q _ _ s1 (.inl ⟨.inr hz, rfl⟩)
      walk_at "hs"
      refine ⟨vl, (p : Int), ((List.range (n + 1)).map fun (t : Nat) => gm p gs (t : Int)), rfl, e1, by simp; omega, by omega, by omega, ?_⟩
      rw [g0, g1]
      have hz2 : (gm p gs 0 + gm p gs 1) % (p : Int) % (p : Int) ≠ 0 := by rw [Int.emod_emod_of_dvd _ (Int.dvd_refl _)]; exact hz
      have i0 : 0 ≤ ((gm p gs 0 + gm p gs 1) % (p : Int)) ^ ((p : Int) - 2).toNat % (p : Int) := Int.emod_nonneg _ (by omega)
      have i1 : ((gm p gs 0 + gm p gs 1) % (p : Int)) ^ ((p : Int) - 2).toNat % (p : Int) < (p : Int) := Int.emod_lt_of_pos _ (by omega)
      walk_at "hs"
      refine ⟨_, (p : Int), rfl, by omega, by omega, fun _ => ?_, fun h => absurd h hz2⟩
      have hfac : lack * (((gm p gs 0 + gm p gs 1) % (p : Int)) ^ ((p : Int) - 2).toNat % (p : Int)) % (p : Int) = facH p gs lack := rfl
      generalize ((gm p gs 0 + gm p gs 1) % (p : Int)) ^ ((p : Int) - 2).toNat % (p : Int) = iv at *
      walk_at "hs"
      rw [hfac]
      refine c_same ((hopeL lack gs n p).map V.int) rfl (fun R r => a_var rfl r) (sql e1) (by simp [hopeL]) (by simp [hopeL]; omega) ?_ ?_
      · intro j x hj H2 R s2 r
        obtain ⟨y, hy, rfl⟩ := getV hj
        obtain ⟨hj2, rfl⟩ := getRg hy
        have bj := gm_in (p := (p : Int)) (by omega) gs (j : Int)
        walk_at "hs"
        refine r _ _ (Same.refl _) ?_
        unfold hopeL
        rw [List.getElem?_map, rg_at hj2]
        rfl
      · intro D H2 nD s2 eD
        exact q H2 _ (s1.trans s2) (.inr ⟨by omega, hz, D, rfl, eD⟩)
def sp__law_stream (K : PySem.W.Frag) : Sp := fun vs H Q _ => ∃ (a : Addr) (ns : List Int), vs = [.ref a] ∧ SqL K H a (ns.map V.int) ∧ ns.length ≤ 63 ∧ ∀ H' st, Same H H' → H st = none → StR H' st → Q (.ref st) H'
theorem ok__law_stream (T : Txt P w K mg) : FnOk P w K mg base CX0 1 T.f__law_stream T.fd__law_stream ["script"] (sp__law_stream K) := by
  refine T.F__law_stream.ok sc__law_stream (fun vs H Q E h => ?len) (fun cdv A outer s H vs Q E hr h => ?body)
  · obtain ⟨a, ns, rfl, _⟩ := h
    rfl
  · obtain ⟨a, ns, rfl, hS, hl, q⟩ := h
    refine ⟨_, (pss_cons (ps_set (i := 1) sc__law_stream.nd rfl (.inl rfl) (pe_lst (pa_cons pe_int pa_nil)))
      (pss_cons (ps_for PassesOwn.never rfl (piL_ (K := K) rfl (pe_slice (slL_ (K := K) rfl) (pv 0) po_none (po_some pe_int))) (pg_name (i := 2) sc__law_stream.nd rfl (.inl rfl)) (pss_cons (ps_set (i := 3) sc__law_stream.nd rfl (.inl rfl) (pe_callB call_abs (by rfl) T.m_abs (by decide +kernel) (pa_cons (pe_callTy call_int1 (by rfl) T.m_int (by decide +kernel) (pa_cons (pv 2) pa_nil)) pa_nil)))
      (pss_one (ps_for PassesOwn.never rfl (pi_range1 (by rfl) T.m_range (pa_cons pe_int pa_nil)) (pg_name (i := 4) sc__law_stream.nd rfl (.inl rfl)) (pss_cons (ps_expr (bmK_ (K := K) rfl (pe_bm PySem.F.plainAttrs_list PySem.F.slot_list_append PySem.F.type_list_append mt_append (pv 1) (pa_cons (pe_op op_mod (pv 3) pe_int) pa_nil))))
      (pss_cons (ps_set (i := 3) sc__law_stream.nd rfl (.inl rfl) (pe_op op_fdivW (pv 3) pe_int))
      (pss_one (ps_if (pt_cmpR op_eq (pv 3) pe_int (nomark _)) (pss_one ps_break) pss_nil))))))))
      (pss_cons (ps_set (i := 5) sc__law_stream.nd rfl (.inl rfl) pe_int)
      (pss_cons (ps_for PassesOwn.never rfl (piL_ (K := K) rfl (pe_slice (slL_ (K := K) rfl) (pv 0) po_none (po_some pe_int))) (pg_name (i := 2) sc__law_stream.nd rfl (.inl rfl)) (pss_one (ps_set (i := 5) sc__law_stream.nd rfl (.inl rfl) (pe_op op_mod (pe_callTy call_int1 (by rfl) T.m_int (by decide +kernel) (pa_cons (pe_op op_add (pe_op op_add (pe_op op_mul (pv 5) pe_int) (pv 2)) pe_int) pa_nil)) pe_int))))
      (pss_cons (ps_for PassesOwn.never rfl (pi_range1 (by rfl) T.m_range (pa_cons pe_int pa_nil)) (pg_name (i := 4) sc__law_stream.nd rfl (.inl rfl)) (pss_cons (ps_set (i := 5) sc__law_stream.nd rfl (.inl rfl) (pe_op op_mod (pe_callTy call_int1 (by rfl) T.m_int (by decide +kernel) (pa_cons (pe_op op_add (pe_op op_add (pe_op op_mul (pv 5) pe_int) (pe_op op_mul (pv 4) pe_int)) pe_int) pa_nil)) pe_int))
      (pss_one (ps_expr (bmK_ (K := K) rfl (pe_bm PySem.F.plainAttrs_list PySem.F.slot_list_append PySem.F.type_list_append mt_append (pv 1) (pa_cons (pe_op op_mod (pe_op op_fdivW (pv 5) pe_int) pe_int) pa_nil)))))))
      (pss_one (ps_ret (pv 1)))))))), ?_⟩
    walk_at "hs"
    refine ⟨sz (show 1 ≤ 1000000 by decide), fun st nst => ?_⟩
    have s0 := same_upd (o := .lst [.int 1]) nst
    walk_at "hs"
    refine a_slL (s0.seq hS) fun sl nsl => ?_
    have hcut : cutV (ns.map V.int) none (some 63) = (ns.take 63).map V.int := cut_take ns 63
    rw [hcut]
    have htl : (ns.take 63).length ≤ 63 := by rw [List.length_take]; omega
    have nss : sl ≠ st := fun z => by rw [z, upd_same] at nsl; cases nsl
    have esl : (upd (upd H st (.lst [.int 1])) sl (.lst ((ns.take 63).map V.int))) st = some (.lst [.int 1]) := by rw [upd_ne nss.symm]; exact upd_same
    have s1 := s0.trans (same_upd (o := .lst ((ns.take 63).map V.int)) nsl)
    have nsl0 : H sl = none := s0.free nsl
    have esl2 : (upd (upd H st (.lst [.int 1])) sl (.lst ((ns.take 63).map V.int))) sl = some (.lst ((ns.take 63).map V.int)) := upd_same
    generalize upd (upd H st (.lst [.int 1])) sl (.lst ((ns.take 63).map V.int)) = H1 at *
    refine a_exl (sql esl2) ?_
    refine fo_list (xs := (ns.take 63).map V.int) (fun i σ H' => Same H H' ∧ H' sl = some (.lst ((ns.take 63).map V.int)) ∧ ∃ (l : List Int) (x2 x3 x4 x5 : Option V), σ = [some (.ref a), some (.ref st), x2, x3, x4, x5] ∧ H' st = some (.lst ((1 :: l).map V.int)) ∧ l.length ≤ 60 * i ∧ i ≤ 63)
      ⟨s1, esl2, [], none, none, none, none, rfl, esl, Nat.zero_le _, Nat.zero_le _⟩ (fun i σ H' _ h => sql h.2.1) ?_ ?_
    · rintro i x σ H' hi ⟨s2, e2, l, x2, x3, x4, x5, rfl, e3, hll, hi63⟩
      obtain ⟨v, hv, rfl⟩ := getV hi
      have hi2 := (List.getElem?_eq_some_iff.mp hv).1
      walk_at "hs"
      refine fo_range (fun j σ H' => Same H H' ∧ H' sl = some (.lst ((ns.take 63).map V.int)) ∧ ∃ (l : List Int) (left : Int) (x4 x5 : Option V), σ = [some (.ref a), some (.ref st), some (.int v), some (.int left), x4, x5] ∧ H' st = some (.lst ((1 :: l).map V.int)) ∧ l.length ≤ 60 * i + j ∧ j ≤ 60)
        ⟨s2, e2, l, _, _, _, rfl, e3, hll, by omega⟩ ?_ ?_
      · rintro j σ H' hj ⟨s2, e2, l, left, x4, x5, rfl, e3, hll, hj60⟩
        have hj' : j < 60 := hj
        walk_at "hs"
        refine a_append e3 (szl (by rw [List.length_map, List.length_cons]; omega)) ?_
        walk_at "hs"
        have e4 : (upd H' st (.lst ((1 :: l).map V.int ++ [.int (left % 59)]))) st = some (.lst ((1 :: (l ++ [left % 59])).map V.int)) := by rw [upd_same, List.map_cons, List.map_cons, List.map_append]; rfl
        have e5 : (upd H' st (.lst ((1 :: l).map V.int ++ [.int (left % 59)]))) sl = some (.lst ((ns.take 63).map V.int)) := by rw [upd_ne nss]; exact e2
        have s4 := smut (o := .lst ((1 :: l).map V.int ++ [.int (left % 59)])) s2 nst
        refine ifd (fun hz => ?_) (fun hz => ?_)
        · walk_at "hs"
          exact ⟨s4, e5, _, _, _, _, _, rfl, e4, by rw [List.length_append]; show l.length + 1 ≤ _; omega, by omega⟩
        · walk_at "hs"
          exact ⟨s4, e5, _, _, _, _, rfl, e4, by rw [List.length_append]; show l.length + 1 ≤ _; omega, by omega⟩
      · rintro σ H' ⟨s2, e2, l, left, x4, x5, rfl, e3, hll, _⟩
        have hll : l.length ≤ 60 * i + 60 := hll
        exact ⟨s2, e2, _, _, _, _, _, rfl, e3, by omega, by omega⟩
    · rintro σ H' ⟨s2, e2, l, x2, x3, x4, x5, rfl, e3, hll, hi63⟩
      have hl1 : l.length ≤ 3780 := by omega
      walk_at "hs"
      refine a_slL (s2.seq hS) fun sm nsm => ?_
      rw [hcut]
      have s3 := s2.trans (same_upd (o := .lst ((ns.take 63).map V.int)) nsm)
      have e4 := same_upd (o := .lst ((ns.take 63).map V.int)) nsm _ _ e3
      have em : (upd H' sm (.lst ((ns.take 63).map V.int))) sm = some (.lst ((ns.take 63).map V.int)) := upd_same
      generalize upd H' sm (.lst ((ns.take 63).map V.int)) = H2 at *
      refine a_exl (sql em) ?_
      refine fo_list (xs := (ns.take 63).map V.int) (fun i σ H' => H' = H2 ∧ ∃ (x2 x3 x4 : Option V) (seed : Int), σ = [some (.ref a), some (.ref st), x2, x3, x4, some (.int seed)])
        ⟨rfl, _, _, _, _, rfl⟩ (fun i σ H' _ h => by rw [h.1]; exact sql em) ?_ ?_
      · rintro i x σ H' hi ⟨rfl, x2, x3, x4, seed, rfl⟩
        obtain ⟨v, hv, rfl⟩ := getV hi
        walk_at "hs"
        exact ⟨rfl, _, _, _, _, rfl⟩
      · rintro σ H' ⟨rfl, x2, x3, x4, seed, rfl⟩
        walk_at "hs"
        refine fo_range (fun j σ H3 => Same H H3 ∧ ∃ (l : List Int) (x2 x3 x4 : Option V) (seed : Int), σ = [some (.ref a), some (.ref st), x2, x3, x4, some (.int seed)] ∧ H3 st = some (.lst ((1 :: l).map V.int)) ∧ l.length ≤ 3780 + j ∧ j ≤ 150)
          ⟨s3, l, _, _, _, _, rfl, e4, by omega, by omega⟩ ?_ ?_
        · rintro j σ H3 hj ⟨s5, l, x2, x3, x4, seed, rfl, e5, hl5, hj5⟩
          have hj' : j < 150 := hj
          walk_at "hs"
          refine a_append e5 (szl (by rw [List.length_map, List.length_cons]; omega)) ?_
          walk_at "hs"
          refine ⟨smut s5 nst, l ++ [_], _, _, _, _, rfl, by rw [upd_same, List.map_cons, List.map_cons, List.map_append]; rfl, by rw [List.length_append]; show l.length + 1 ≤ _; omega, by omega⟩
        · rintro σ H3 ⟨s5, l, x2, x3, x4, seed, rfl, e5, hl5, _⟩
          have hl5 : l.length ≤ 3780 + 150 := hl5
          walk_at "hs"
          exact q H3 st s5 nst ⟨1, l, e5, by omega, by omega⟩
def sp__law_take : Sp := fun vs H Q _ => ∃ (st : Addr) (many : Int), vs = [.ref st, .int many] ∧ StR H st ∧ 0 < many ∧ many < 9223372036854775808 ∧ ∀ d H', 0 ≤ d → d < many → StR H' st → Rw st H H' → Q (.int d) H'
theorem ok__law_take (T : Txt P w K mg) : FnOk P w K mg base CX0 1 T.f__law_take T.fd__law_take ["row", "many"] (sp__law_take) := by
  refine T.F__law_take.ok sc__law_take (fun vs H Q E h => ?len) (fun cdv A outer s H vs Q E hr h => ?body)
  · obtain ⟨st, many, rfl, _⟩ := h
    rfl
  · obtain ⟨st, many, rfl, ⟨n, l, e1, hn, hl⟩, hm, hM, q⟩ := h
    refine ⟨_, (pss_cons (ps_if (pt_cmpR op_lt (pe_ix (ixL_ (K := K) rfl) (pv 0) pe_int (fun _ _ => rfl)) (pe_callB (lenK_ (K := K) rfl) (by rfl) T.m_len PySem.boot_len (pa_cons (pv 0) pa_nil)) (nomark _)) (pss_cons (ps_asg (pe_op op_add (pe_ix (ixL_ (K := K) rfl) (pv 0) pe_int (fun _ _ => rfl)) pe_int) (pg_sub (pv 0) pe_int set_list))
      (pss_one (ps_ret (pe_op op_mod (pe_callTy call_int1 (by rfl) T.m_int (by decide +kernel) (pa_cons (pe_ix (ixL_ (K := K) rfl) (pv 0) (pe_op op_sub (pe_ix (ixL_ (K := K) rfl) (pv 0) pe_int (fun _ _ => rfl)) pe_int) (fun _ _ => rfl)) pa_nil)) (pv 1))))) pss_nil)
      (pss_one (ps_ret pe_int))), ?_⟩
    walk_at "hs"
    rw [List.length_map, List.length_cons]
    have e1' : H st = some (.lst (.int n :: l.map V.int)) := e1
    refine ifd (fun hlt => ?_) (fun hlt => ?_)
    · walk_at "hs"
      refine a_setL0 e1' ?_
      have e2 : (upd H st (.lst (.int (n + 1) :: l.map V.int))) st = some (.lst (((n + 1) :: l).map V.int)) := upd_same
      have g2 : Rw st H (upd H st (.lst (.int (n + 1) :: l.map V.int))) := fun a o ha ne => by rw [upd_ne ne]; exact ha
      generalize upd H st (.lst (.int (n + 1) :: l.map V.int)) = H2 at *
      walk_at "hs"
      refine a_ixL (sql e2) (at_int (l := (n + 1) :: l) (x := n + 1 - 1) (by omega) (by rw [List.length_cons]; omega)) ?_
      walk_at "hs"
      exact q _ _ (Int.emod_nonneg _ (by omega)) (Int.emod_lt_of_pos _ hm) ⟨n + 1, l, e2, by omega, hl⟩ g2
    · walk_at "hs"
      exact q _ _ (by omega) hm ⟨n, l, e1, hn, hl⟩ (Rw.refl H)
def sp__law_at : Sp := fun vs H Q _ => ∃ (a : Addr) (t : Int) (p n : Nat) (v : List Int), vs = [.ref a, .int t, .int (p : Int)] ∧ H a = some (.lst (v.map V.int)) ∧ v.length = n ∧ n ≤ 1000 ∧ 2 ≤ p ∧ p ≤ 2147483647 ∧ In 0 (p : Int) v ∧
  Q (.int (sN (lt p (fun k => v.getD k 0) n t) n % (p : Int))) H
theorem ok__law_at (T : Txt P w K mg) : FnOk P w K mg base CX0 1 T.f__law_at T.fd__law_at ["values", "t", "p"] (sp__law_at) := by
  refine T.F__law_at.ok sc__law_at (fun vs H Q E h => ?len) (fun cdv A outer s H vs Q E hr h => ?body)
  · obtain ⟨a, t, p, n, v, rfl, _⟩ := h
    rfl
  · obtain ⟨a, t, p, n, v, rfl, ha, hv, hn, hp2, hpb, hin, q⟩ := h
    refine ⟨_, (pss_cons (ps_set (i := 3) sc__law_at.nd rfl (.inl rfl) pe_int)
      (pss_cons (ps_for PassesOwn.never rfl (pi_range1 (by rfl) T.m_range (pa_cons (pe_callB (lenK_ (K := K) rfl) (by rfl) T.m_len PySem.boot_len (pa_cons (pv 0) pa_nil)) pa_nil)) (pg_name (i := 4) sc__law_at.nd rfl (.inl rfl)) (pss_cons (ps_set (i := 5) sc__law_at.nd rfl (.inl rfl) (pe_ix (ixL_ (K := K) rfl) (pv 0) (pv 4) (fun _ _ => rfl)))
      (pss_cons (ps_set (i := 6) sc__law_at.nd rfl (.inl rfl) pe_int)
      (pss_cons (ps_for PassesOwn.never rfl (pi_range1 (by rfl) T.m_range (pa_cons (pe_callB (lenK_ (K := K) rfl) (by rfl) T.m_len PySem.boot_len (pa_cons (pv 0) pa_nil)) pa_nil)) (pg_name (i := 7) sc__law_at.nd rfl (.inl rfl)) (pss_one (ps_if (pt_cmpR op_ne (pv 7) (pv 4) (nomark _)) (pss_cons (ps_set (i := 5) sc__law_at.nd rfl (.inl rfl) (pe_op op_mod (pe_callTy call_int1 (by rfl) T.m_int (by decide +kernel) (pa_cons (pe_op op_mul (pv 5) (pe_op op_sub (pv 1) (pv 7))) pa_nil)) (pv 2)))
      (pss_one (ps_set (i := 6) sc__law_at.nd rfl (.inl rfl) (pe_op op_mod (pe_callTy call_int1 (by rfl) T.m_int (by decide +kernel) (pa_cons (pe_op op_mul (pv 6) (pe_op op_sub (pv 4) (pv 7))) pa_nil)) (pv 2))))) pss_nil)))
      (pss_cons (ps_for PassesOwn.never rfl (pi_range1 (by rfl) T.m_range (pa_cons (pe_op op_sub (pv 2) pe_int) pa_nil)) (pg_name (i := 7) sc__law_at.nd rfl (.inl rfl)) (pss_one (ps_set (i := 5) sc__law_at.nd rfl (.inl rfl) (pe_op op_mod (pe_callTy call_int1 (by rfl) T.m_int (by decide +kernel) (pa_cons (pe_op op_mul (pv 5) (pv 6)) pa_nil)) (pv 2)))))
      (pss_one (ps_set (i := 3) sc__law_at.nd rfl (.inl rfl) (pe_op op_add (pv 3) (pv 5)))))))))
      (pss_one (ps_ret (pe_op op_mod (pe_callTy call_int1 (by rfl) T.m_int (by decide +kernel) (pa_cons (pv 3) pa_nil)) (pv 2)))))), ?_⟩
    walk_at "hs"
    rw [List.length_map, hv, Int.toNat_natCast]
    refine ⟨by omega, by omega, ?_⟩
    refine fo_range (fun i σ H' => H' = H ∧ ∃ tot x4 x5 x6 x7, σ = [some (.ref a), some (.int t), some (.int (p : Int)), some (.int tot), x4, x5, x6, x7] ∧ C (p : Int) tot (sN (lt p (fun k => v.getD k 0) n t) i)) ⟨rfl, 0, none, none, none, none, rfl, C.refl _⟩ ?_ ?_
    · rintro i σ H' hi ⟨rfl, tot, x4, x5, x6, x7, rfl, hC⟩
      have hx : (i : Int) < (v.length : Int) := by omega
      have bi := in_D hin (show i < v.length by omega)
      walk_at "hs"
      rw [List.length_map, hv, Int.toNat_natCast]
      refine ⟨by omega, by omega, ?_⟩
      refine fo_range (fun j σ H2 => H2 = H' ∧ ∃ ab be x7, σ = [some (.ref a), some (.int t), some (.int (p : Int)), some (.int tot), some (.int (i : Int)), some (.int ab), some (.int be), x7] ∧ 0 ≤ ab ∧ ab < (p : Int) ∧ 0 ≤ be ∧ be < (p : Int) ∧ C (p : Int) ab (v.getD i 0 * lg i t j) ∧ C (p : Int) be (lg i (i : Int) j)) ⟨rfl, _, _, _, rfl, by omega, by omega, by omega, by omega, C.of (by show v.getD (i : Int).toNat 0 = v.getD i 0 * 1; rw [Int.mul_one, Int.toNat_natCast]), C.refl _⟩ ?_ ?_
      · rintro j σ H2 hj ⟨rfl, ab, be, x7, rfl, a0, a1, c0, c1, hA, hB⟩
        walk_at "hs"
        refine ifnd (fun hne => ?_) (fun he => ?_)
        · walk_at "hs"
          refine ⟨rfl, _, _, _, rfl, Int.emod_nonneg _ (by omega), Int.emod_lt_of_pos _ (by omega), Int.emod_nonneg _ (by omega), Int.emod_lt_of_pos _ (by omega), ?_, ?_⟩
          · refine C.mod.trans ((C.mul hA (C.refl _)).trans (C.of ?_))
            show _ = v.getD i 0 * (if j = i then _ else _)
            rw [if_neg (by omega), Int.mul_assoc]
          · refine C.mod.trans ((C.mul hB (C.refl _)).trans (C.of ?_))
            show _ = (if j = i then _ else _)
            rw [if_neg (by omega)]
        · walk_at "hs"
          refine ⟨rfl, _, _, _, rfl, a0, a1, c0, c1, ?_, ?_⟩
          · refine hA.trans (C.of ?_)
            show _ = v.getD i 0 * (if j = i then _ else _)
            rw [if_pos (by omega)]
          · refine hB.trans (C.of ?_)
            show _ = (if j = i then _ else _)
            rw [if_pos (by omega)]
      · rintro σ H2 ⟨rfl, ab, be, x7, rfl, a0, a1, c0, c1, hA, hB⟩
        rw [Int.toNat_natCast] at hA hB
        walk_at "hs"
        refine fo_range (fun j σ H3 => H3 = H2 ∧ ∃ ab x7, σ = [some (.ref a), some (.int t), some (.int (p : Int)), some (.int tot), some (.int (i : Int)), some (.int ab), some (.int be), x7] ∧ 0 ≤ ab ∧ ab < (p : Int) ∧ C (p : Int) ab (v.getD i 0 * lg i t n * lg i (i : Int) n ^ j)) ⟨rfl, _, _, rfl, a0, a1, hA.trans (C.of (by rw [Int.pow_zero, Int.mul_one]))⟩ ?_ ?_
        · rintro j σ H3 hj ⟨rfl, ab2, x7, rfl, d0, d1, hD⟩
          walk_at "hs"
          refine ⟨rfl, _, _, rfl, Int.emod_nonneg _ (by omega), Int.emod_lt_of_pos _ (by omega), ?_⟩
          refine C.mod.trans ((C.mul hD hB).trans (C.of ?_))
          rw [Int.pow_succ]; grind
        · rintro σ H3 ⟨rfl, ab2, x7, rfl, d0, d1, hD⟩
          walk_at "hs"
          exact ⟨rfl, _, _, _, _, _, rfl, C.add hC hD⟩
    · rintro σ H' ⟨rfl, tot, x4, x5, x6, x7, rfl, hC⟩
      walk_at "hs"
      rw [show tot % (p : Int) = _ from hC]
      exact q
def sp_law (K : PySem.W.Frag) : Sp := fun vs H Q _ => ∃ (a : Addr) (ns : List Int), vs = [.ref a] ∧ SqL K H a (ns.map V.int) ∧ ns.length ≤ 63 ∧ ∀ H', Q (.bl true) H'
theorem ok_law (T : Txt P w K mg) : FnOk P w K mg base CX0 4 T.f_law T.fd_law ["script"] (sp_law K) := by
  have G__law_stream := ok__law_stream (P := P) (w := w) (base := base) T
  have G__law_take := ok__law_take (P := P) (w := w) (base := base) T
  have G_hopeful := ok_hopeful (P := P) (w := w) (base := base) T
  have G__law_at := ok__law_at (P := P) (w := w) (base := base) T
  refine T.F_law.ok sc_law (fun vs H Q E h => ?len) (fun cdv A outer s H vs Q E hr h => ?body)
  · obtain ⟨a, ns, rfl, _⟩ := h
    rfl
  · obtain ⟨a, ns, rfl, hS, hl, q⟩ := h
    refine ⟨_, (pss_cons (ps_set (i := 1) sc_law.nd rfl (.inr rfl) (pe_call G__law_stream (hr.mono (by decide)) (by rfl) T.g__law_stream T.F__law_stream.kp T.b__law_stream .nil pass0 (pa_cons (pv 0) pa_nil)))
      (pss_cons (ps_set (i := 2) sc_law.nd rfl (.inr rfl) (pe_ix (ixL_ (K := K) rfl) (pe_lst (pa_cons pe_int (pa_cons pe_int (pa_cons pe_int (pa_cons pe_int (pa_cons pe_int (pa_cons pe_int pa_nil))))))) (pe_call G__law_take (hr.mono (by decide)) (by rfl) T.g__law_take T.F__law_take.kp T.b__law_take .nil pass0 (pa_cons (pv 1) (pa_cons pe_int pa_nil))) (fun _ _ => rfl)))
      (pss_cons (ps_set (i := 3) sc_law.nd rfl (.inl rfl) (pe_op op_add pe_int (pe_call G__law_take (hr.mono (by decide)) (by rfl) T.g__law_take T.F__law_take.kp T.b__law_take .nil pass0 (pa_cons (pv 1) (pa_cons (pe_callB (call_min2 rfl) (by rfl) T.m_min (by decide +kernel) (pa_cons pe_int (pa_cons (pe_op op_sub (pv 2) pe_int) pa_nil))) pa_nil)))))
      (pss_cons (ps_setLc (i := 4) (own := [("k", 5)]) rfl sc_law.nd rfl rfl (sw_true rfl rfl rfl (by decide +kernel)) (pi_range1 (by rfl) T.m_range (pa_cons (pe_call G__law_take (hr.mono (by decide)) (by rfl) T.g__law_take T.F__law_take.kp T.b__law_take .nil pass0 (pa_cons (pv 1) (pa_cons pe_int pa_nil))) pa_nil)) (blkOk_by (own := [("k", 5)]) (N := N_law) (sc := defScope s_law) (by decide +kernel)) (fun _ _ _ _ _ => (pg_name (i := 5) sc_law.nd rfl (.inl rfl))) (fun _ _ _ _ _ => pts_nil) (fun _ _ _ _ _ => (pe_call G__law_take (hr.mono (by decide)) (by rfl) T.g__law_take T.F__law_take.kp T.b__law_take .nil pass0 (pa_cons (pv 1) (pa_cons (pv 2) pa_nil)))))
      (pss_cons (ps_set (i := 6) sc_law.nd rfl (.inl rfl) (pe_call G__law_take (hr.mono (by decide)) (by rfl) T.g__law_take T.F__law_take.kp T.b__law_take .nil pass0 (pa_cons (pv 1) (pa_cons (pv 2) pa_nil))))
      (pss_cons (ps_set (i := 7) sc_law.nd rfl (.inl rfl) (pe_callTy (listK_ (K := K) rfl) (by rfl) T.m_list (by decide +kernel) (pa_cons (pv 4) pa_nil)))
      (pss_cons (ps_set (i := 8) sc_law.nd rfl (.inr rfl) (pe_call G_hopeful (hr.mono (by decide)) (by rfl) T.g_hopeful T.F_hopeful.kp T.b_hopeful .nil pass0 (pa_cons (pv 6) (pa_cons (pv 4) (pa_cons (pv 3) (pa_cons (pv 2) pa_nil))))))
      (pss_cons (ps_set (i := 9) sc_law.nd rfl (.inl rfl) (pe_lst pa_nil))
      (pss_cons (ps_for PassesOwn.never rfl (pi_range1 (by rfl) T.m_range (pa_cons (pe_op op_add (pv 3) pe_int) pa_nil)) (pg_name (i := 10) sc_law.nd rfl (.inl rfl)) (pss_cons (ps_set (i := 11) sc_law.nd rfl (.inl rfl) pe_int)
      (pss_cons (ps_for PassesOwn.never rfl (piL_ (K := K) rfl (pv 4)) (pg_name (i := 12) sc_law.nd rfl (.inl rfl)) (pss_one (ps_set (i := 11) sc_law.nd rfl (.inl rfl) (pe_op op_mod (pe_callTy call_int1 (by rfl) T.m_int (by decide +kernel) (pa_cons (pe_op op_mul (pv 11) (pe_op op_sub (pv 10) (pv 12))) pa_nil)) (pv 2)))))
      (pss_one (ps_expr (bmK_ (K := K) rfl (pe_bm PySem.F.plainAttrs_list PySem.F.slot_list_append PySem.F.type_list_append mt_append (pv 9) (pa_cons (pv 11) pa_nil))))))))
      (pss_cons (ps_set (i := 13) sc_law.nd rfl (.inl rfl) (pe_op op_mod (pe_callTy call_int1 (by rfl) T.m_int (by decide +kernel) (pa_cons (pe_op op_add (pe_ix (ixL_ (K := K) rfl) (pv 9) pe_int (fun _ _ => rfl)) (pe_ix (ixL_ (K := K) rfl) (pv 9) pe_int (fun _ _ => rfl))) pa_nil)) (pv 2)))
      (pss_cons (ps_if (pw_or (pt_cmpR op_gt (pe_callB (lenK_ (K := K) rfl) (by rfl) T.m_len PySem.boot_len (pa_cons (pv 4) pa_nil)) (pv 3) (nomark _)) (pw_or1 (pt_cmpR op_eq (pv 13) pe_int (nomark _)))).pt (pss_one (ps_ret (pe_and (pe_cmpR op_isN (pv 8) pe_non (nomark _)) (pe_one (pe_cmpR (eqD_ (K := K) rfl (hu64 hr)) (pv 4) (pv 7) (nomark _)))))) pss_nil)
      (pss_cons (ps_if (pw_or (pt_not (pt_val (pe_callB (isi_ (K := K) rfl) (by rfl) T.m_isinstance (by decide +kernel) (pa_cons (pv 8) (pa_cons (pe_bltn (v := .ty "list") (by rfl) T.m_list (by decide +kernel) rfl) pa_nil))))) (pw_or (pt_cmpR op_ne (pe_callB (lenK_ (K := K) rfl) (by rfl) T.m_len PySem.boot_len (pa_cons (pv 8) pa_nil)) (pe_op op_add (pv 3) pe_int) (nomark _)) (pw_or (pt_cmpR op_ne (pe_op op_mod (pe_callTy call_int1 (by rfl) T.m_int (by decide +kernel) (pa_cons (pe_op op_sub (pe_op op_add (pe_ix (ixL_ (K := K) rfl) (pv 8) pe_int (fun _ _ => rfl)) (pe_ix (ixL_ (K := K) rfl) (pv 8) pe_int (fun _ _ => rfl))) (pv 6)) pa_nil)) (pv 2)) pe_int (nomark _)) (pw_or1 (pt_cmpR (neD_ (K := K) rfl (hu64 hr)) (pv 4) (pv 7) (nomark _)))))).pt (pss_one (ps_ret pe_bl)) pss_nil)
      (pss_cons (ps_for PassesOwn.never rfl (pi_range1 (by rfl) T.m_range (pa_cons (pe_op op_add (pv 3) pe_int) pa_nil)) (pg_name (i := 10) sc_law.nd rfl (.inl rfl)) (pss_one (ps_if (pw_or (pt_cmpR op_ne (pe_op op_mod (pe_callTy call_int1 (by rfl) T.m_int (by decide +kernel) (pa_cons (pe_op op_sub (pe_op op_mul (pe_ix (ixL_ (K := K) rfl) (pv 8) (pv 10) (fun _ _ => rfl)) (pv 13)) (pe_op op_mul (pv 6) (pe_ix (ixL_ (K := K) rfl) (pv 9) (pv 10) (fun _ _ => rfl)))) pa_nil)) (pv 2)) pe_int (nomark _)) (pw_or1 (pt_not (pt_chain op_le op_lt pe_int (pe_ix (ixL_ (K := K) rfl) (pv 8) (pv 10) (fun _ _ => rfl)) (pv 2))))).pt (pss_one (ps_ret pe_bl)) pss_nil)))
      (pss_one (ps_ret (pe_cmpR op_eq (pe_callB (lenK_ (K := K) rfl) (by rfl) T.m_len PySem.boot_len (pa_cons (pe_lc (own := [("guess", 12)]) rfl sc_law.nd (piL_ (K := K) rfl (pv 4)) (blkOk_by (own := [("guess", 12)]) (N := N_law) (sc := defScope s_law) (by decide +kernel)) (fun _ _ _ _ _ => (pg_name (i := 12) sc_law.nd rfl (.inl rfl))) (fun _ _ _ _ _ => (pts_one (pt_cmpR op_ne (pe_call G__law_at (hr.mono (by decide)) (by rfl) T.g__law_at T.F__law_at.kp T.b__law_at .nil pass0 (pa_cons (pv 8) (pa_cons (pv 12) (pa_cons (pv 2) pa_nil)))) pe_int (nomark _)))) (fun _ _ _ _ _ => (pv 12))) pa_nil)) pe_int (nomark _))))))))))))))))), ?_⟩
    walk_at "hs"
    refine ⟨a, ns, rfl, hS, hl, fun H1 st s1 n1 sr1 => ?_⟩
    walk_at "hs"
    refine ⟨sz (show 6 ≤ 1000000 by decide), fun r nr => ?_⟩
    have sr2 := sr1.same (same_upd (o := .lst [.int 5, .int 7, .int 11, .int 13, .int 53, .int 101]) nr)
    have e2 : (upd H1 r (.lst [.int 5, .int 7, .int 11, .int 13, .int 53, .int 101])) r = some (.lst ([5, 7, 11, 13, 53, 101].map V.int)) := upd_same
    have nrs : r ≠ st := fun z => by
      obtain ⟨n, l, h1, _⟩ := sr1
      rw [z, h1] at nr; cases nr
    generalize upd H1 r (.lst [.int 5, .int 7, .int 11, .int 13, .int 53, .int 101]) = H2 at *
    walk_at "hs"
    refine ⟨st, 6, rfl, sr2, by omega, by omega, fun d H3 d0 d1 sr3 r3 => ?_⟩
    refine a_ixL (sql (r3 _ _ e2 nrs)) (at_int d0 d1) ?_
    obtain ⟨p, hp, hP⟩ : ∃ p : Nat, ([5, 7, 11, 13, 53, 101] : List Int).getD d.toNat 0 = (p : Int) ∧ Pr p ∧ 5 ≤ p ∧ p ≤ 101 := by
      have : d.toNat = 0 ∨ d.toNat = 1 ∨ d.toNat = 2 ∨ d.toNat = 3 ∨ d.toNat = 4 ∨ d.toNat = 5 := by omega
      rcases this with h | h | h | h | h | h <;> rw [h]
      · exact ⟨5, rfl, pr5, by omega, by omega⟩
      · exact ⟨7, rfl, pr7, by omega, by omega⟩
      · exact ⟨11, rfl, pr11, by omega, by omega⟩
      · exact ⟨13, rfl, pr13, by omega, by omega⟩
      · exact ⟨53, rfl, pr53, by omega, by omega⟩
      · exact ⟨101, rfl, pr101, by omega, by omega⟩
    rw [hp]
    obtain ⟨hP, p5, p101⟩ := hP
    walk_at "hs"
    refine ⟨_, _, rfl, ?_⟩
    walk_at "hs"
    refine ⟨st, _, rfl, sr3, by split <;> omega, by split <;> omega, fun d2 H4 e0 e1 sr4 r4 => ?_⟩
    obtain ⟨n, hn⟩ : ∃ n : Nat, 1 + d2 = (n : Int) := ⟨(1 + d2).toNat, by omega⟩
    have hnp : n + 1 ≤ p ∧ n ≤ 5 ∧ 1 ≤ n := by split at e1 <;> omega
    walk_at "hs"
    rw [hn]
    refine c_nums (st := st) (M := [st]) (k := 5) (fun n => n < 5) (fun x => 0 ≤ x ∧ x < (p : Int)) rfl (fun n h => by omega) (Dr.one sr4) ?_ ?_ ?_
    · intro R r
      walk_at "hs"
      refine ⟨st, 5, rfl, sr4, by omega, by omega, fun d3 H5 f0 f1 sr5 r5 => ?_⟩
      have := r d3.toNat H5 (by omega) sr5 r5
      rw [Int.toNat_of_nonneg f0] at this
      exact this
    · intro m j H' R hm hj d r5 r
      walk_at "hs"
      exact ⟨st, (p : Int), rfl, d.row, by omega, by omega, fun y H'' g0 g1 s r6 => r y H'' s r6 ⟨g0, g1⟩⟩
    · intro m D H5 gs hm hD d5 r5 hgl hgs eD
      walk_at "hs"
      refine ⟨st, (p : Int), rfl, d5.row, by omega, by omega, fun lack H6 l0 l1 sr6 r6 => ?_⟩
      have nDs : D ≠ st := fun z => by
        obtain ⟨_, _, h1, _⟩ := sr4
        rw [z, h1] at hD; cases hD
      have e6 := r6 _ _ eD nDs
      walk_at "hs"
      intro kp nkp
      have s7 := same_upd (o := .lst (gs.map V.int)) nkp
      have e7 := s7 _ _ e6
      have k7 : (upd H6 kp (.lst (gs.map V.int))) kp = some (.lst (gs.map V.int)) := upd_same
      generalize upd H6 kp (.lst (gs.map V.int)) = H7 at *
      walk_at "hs"
      refine ⟨lack, D, gs, n, p, rfl, e7, by omega, by omega, by omega, hP, by omega, fun H8 told s8 hope => ?_⟩
      have e8 := s8 _ _ e7
      have k8 := s8 _ _ k7
      walk_at "hs"
      refine ⟨Nat.zero_le _, fun pl npl => ?_⟩
      have s9 := same_upd (o := .lst []) npl
      have hg0 := gm_in (p := (p : Int)) (by omega) gs 0
      have hg1 := gm_in (p := (p : Int)) (by omega) gs 1
      walk_at "hs"
      rw [show ((n : Int) + 1).toNat = n + 1 by omega]
      refine fo_range (fun i σ H' => Same H8 H' ∧ ∃ x5 x10 x11 x12, i ≤ n + 1 ∧ σ = [some (.ref a), some (.ref st), some (.int (p : Int)), some (.int (n : Int)), some (.ref D), x5, some (.int lack), some (.ref kp), some told, some (.ref pl), x10, x11, x12, none] ∧ H' pl = some (.lst (((List.range i).map fun (t : Nat) => gm p gs (t : Int)).map V.int))) ⟨s9, none, none, none, none, by omega, rfl, upd_same⟩ ?_ ?_
      · rintro i σ H' hi ⟨t1, x5, x10, x11, x12, hi', rfl, f1⟩
        have e9 := t1 _ _ e8
        walk_at "hs"
        refine a_exl (sql e9) ?_
        refine fo_list (xs := gs.map V.int) (fun j σ H2 => H2 = H' ∧ ∃ x12, σ = [some (.ref a), some (.ref st), some (.int (p : Int)), some (.int (n : Int)), some (.ref D), x5, some (.int lack), some (.ref kp), some told, some (.ref pl), some (.int (i : Int)), some (.int (gm p (gs.take j) (i : Int))), x12, none]) ⟨rfl, x12, rfl⟩ (fun j σ H2 _ h => by rw [h.1]; exact sql e9) ?_ ?_
        · rintro j x σ H2 hj ⟨rfl, x12, rfl⟩
          obtain ⟨g, hg, rfl⟩ := getV hj
          have b := gm_in (p := (p : Int)) (by omega) (gs.take j) (i : Int)
          walk_at "hs"
          refine ⟨rfl, some (.int g), ?_⟩
          rw [← take_app hg, gm_snoc]
          rfl
        · rintro σ H2 ⟨rfl, x12, rfl⟩
          rw [List.length_map, List.take_length]
          walk_at "hs"
          refine a_append f1 (szl (by simp; omega)) ?_
          walk_at "hs"
          refine ⟨smut t1 npl, _, _, _, _, by omega, rfl, ?_⟩
          rw [upd_same, List.range_succ, List.map_append, List.map_append]
          rfl
      · rintro σ H9 ⟨t1, x5, x10, x11, x12, _, rfl, f1⟩
        have e9 := t1 _ _ e8
        have k9 := t1 _ _ k8
        have hx0 : (0 : Int) < (((List.range (n + 1)).map fun (t : Nat) => gm p gs (t : Int)).length : Int) := by rw [List.length_map, List.length_range]; omega
        have hx1 : (1 : Int) < (((List.range (n + 1)).map fun (t : Nat) => gm p gs (t : Int)).length : Int) := by rw [List.length_map, List.length_range]; omega
        have g0 : ((List.range (n + 1)).map fun (t : Nat) => gm p gs (t : Int)).getD (0 : Int).toNat 0 = gm p gs 0 := by
          show ((List.range (n + 1)).map fun (t : Nat) => gm p gs (t : Int)).getD 0 0 = _
          rw [List.getD_eq_getElem?_getD, List.getElem?_map, List.getElem?_range (by omega)]; rfl
        have g1 : ((List.range (n + 1)).map fun (t : Nat) => gm p gs (t : Int)).getD (1 : Int).toNat 0 = gm p gs 1 := by
          show ((List.range (n + 1)).map fun (t : Nat) => gm p gs (t : Int)).getD 1 0 = _
          rw [List.getD_eq_getElem?_getD, List.getElem?_map, List.getElem?_range (by omega)]; rfl
        walk_at "hs"
        rw [g0, g1, List.length_map]
        refine ifd (fun hlt => ?_) (fun hlt => ?_)
        · refine ift ?_
          walk_at "hs"
          rcases hope with ⟨_, rfl⟩ | ⟨h1, _⟩
          · refine ⟨rfl, ?_⟩
            walk_at "hs"
            rw [decide_eq_true rfl]
            refine ift ?_
            walk_at "hs"
            exact eqL_same e9 k9 (q _)
          · omega
        walk_at "hs"
        refine ifd (fun hz => ?_) (fun hz => ?_)
        · walk_at "hs"
          rcases hope with ⟨_, rfl⟩ | ⟨_, h1, _⟩
          · refine ⟨rfl, ?_⟩
            walk_at "hs"
            rw [decide_eq_true rfl]
            refine ift ?_
            walk_at "hs"
            exact eqL_same e9 k9 (q _)
          · exact absurd hz h1
        rcases hope with ⟨h1, _⟩ | ⟨_, _, tr, rfl, etr⟩
        · rcases h1 with h1 | h1
          · omega
          · exact absurd h1 hz
        have t9 := t1 _ _ etr
        have hlen : (hopeL lack gs n p).length = n + 1 := by simp [hopeL]
        have hx2 : (0 : Int) < ((hopeL lack gs n p).length : Int) := by rw [hlen]; omega
        have hx3 : (1 : Int) < ((hopeL lack gs n p).length : Int) := by rw [hlen]; omega
        walk_at "hs"
        refine a_isi (ty_lst t9) kb_ll ?_
        walk_at "hs"
        refine iff' ?_
        walk_at "hs"
        rw [List.length_map, hlen]
        refine ifnd (fun h => absurd (show ((n + 1 : Nat) : Int) = (n : Int) + 1 by omega) h) (fun _ => ?_)
        walk_at "hs"
        refine ifnd (fun h => absurd ?_ h) (fun _ => ?_)
        · exact hope_sum hP (by omega) hz
        walk_at "hs"
        refine neL_same e9 k9 ?_
        walk_at "hs"
        refine iff' ?_
        walk_at "hs"
        rw [show ((n : Int) + 1).toNat = n + 1 by omega]
        generalize hW : (gm p gs 0 + gm p gs 1) % (p : Int) = W at *
        have bW : 0 ≤ W ∧ W < (p : Int) := by rw [← hW]; exact ⟨Int.emod_nonneg _ (by omega), Int.emod_lt_of_pos _ (by omega)⟩
        refine fo_range (fun i σ H' => H' = H9 ∧ ∃ x5 x10 x11 x12, σ = [some (.ref a), some (.ref st), some (.int (p : Int)), some (.int (n : Int)), some (.ref D), x5, some (.int lack), some (.ref kp), some (.ref tr), some (.ref pl), x10, x11, x12, some (.int W)]) ⟨rfl, x5, x10, x11, x12, rfl⟩ ?_ ?_
        · rintro i σ H' hi ⟨rfl, x5, x10, x11, x12, rfl⟩
          have bt : 0 ≤ (hopeL lack gs n p).getD i 0 ∧ (hopeL lack gs n p).getD i 0 < (p : Int) := by
            rw [hope_at hi]
            exact ⟨Int.emod_nonneg _ (by omega), Int.emod_lt_of_pos _ (by omega)⟩
          have hxi : (i : Int) < ((hopeL lack gs n p).length : Int) := by rw [hlen]; omega
          have hxj : (i : Int) < (((List.range (n + 1)).map fun (t : Nat) => gm p gs (t : Int)).length : Int) := by rw [List.length_map, List.length_range]; omega
          have gi : ((List.range (n + 1)).map fun (t : Nat) => gm p gs (t : Int)).getD (i : Int).toNat 0 = gm p gs (i : Int) := by
            rw [Int.toNat_natCast, List.getD_eq_getElem?_getD, List.getElem?_map, List.getElem?_range hi]; rfl
          have each := hope_each (lack := lack) (n := n) (k := i) hP (by rw [hW]; exact hz) hi
          rw [hW] at each
          walk_at "hs"
          rw [gi, Int.toNat_natCast]
          refine ifnd (fun h => absurd each h) (fun _ => ?_)
          walk_at "hs"
          rw [Int.toNat_natCast]
          refine ifd (fun _ => ?_) (fun h => absurd bt.1 h)
          walk_at "hs"
          rw [decide_eq_true bt.2]
          refine iff' ?_
          walk_at "hs"
          exact ⟨rfl, _, _, _, _, rfl⟩
        · rintro σ H' ⟨rfl, x5, x10, x11, x12, rfl⟩
          walk_at "hs"
          refine c_lstM (xs := gs) (fun _ => false) rfl (fun R r => a_var rfl r) (sql e9) (by omega) ?_ ?_ ?_
          · intro x hx H2 R s2 r
            have t2 := s2 _ _ t9
            walk_at "hs"
            refine ⟨tr, x, p, n + 1, hopeL lack gs n p, rfl, t2, hlen, by omega, by omega, by omega, fun y hy => ?_, ?_⟩
            · obtain ⟨k, hk, rfl⟩ := List.mem_map.mp hy
              exact ⟨Int.emod_nonneg _ (by omega), Int.emod_lt_of_pos _ (by omega)⟩
            · rw [hope_root hP hx (by omega) (by omega)]
              walk_at "hs"
              exact r
          · intro x hx h
            cases h
          · intro D2 H2 nD2 s2 eD2
            rw [show gs.filter (fun _ => false) = [] from List.filter_eq_nil_iff.mpr fun _ _ => by simp] at eD2
            walk_at "hs"
            exact q _
theorem all_mk {l : PySem.W.OpenLaw} {w : World} {K : PySem.W.Frag} {h : Heap} {mg : Str → Option Value} {fa f1 f2 f3 f4 f5 f6 f7 f8 : Addr} (X : K.In h) (G : h.Ns mainGlobals mg) (hfa : mg "law" = some (.ref fa))
    {od1 an1 od2 an2 od3 an3 od4 an4 od5 an5 od6 an6 od7 an7 od8 an8 : Option Addr} {sl1 sl2 sl3 sl4 sl5 sl6 sl7 sl8 : Array (Option Value)} {oc1 kV1 dc1 pm1 cd1 ct1 oc2 kV2 dc2 pm2 cd2 ct2 oc3 kV3 dc3 pm3 cd3 ct3 oc4 kV4 dc4 pm4 cd4 ct4 oc5 kV5 dc5 pm5 cd5 ct5 oc6 kV6 dc6 pm6 cd6 ct6 oc7 kV7 dc7 pm7 cd7 ct7 oc8 kV8 dc8 pm8 cd8 ct8 : Value}
    (a1 : PySem.W.nsIn K mainGlobals "power" = some (some (.ref f1))) (l1 : K.lookup f1 = some ⟨oc1, od1, .func (PySem.W.fnOf "power" "power" (defArgs s_power) (defBody s_power) (defScope s_power) .none kV1 dc1 pm1 an1 cd1 ct1), sl1⟩) (c1 : PySem.W.codeIn K cd1 "power" = true) (k1 : PySem.W.keepIn K (.ref f1) = true)
    (a2 : PySem.W.nsIn K mainGlobals "inverse" = some (some (.ref f2))) (l2 : K.lookup f2 = some ⟨oc2, od2, .func (PySem.W.fnOf "inverse" "inverse" (defArgs s_inverse) (defBody s_inverse) (defScope s_inverse) .none kV2 dc2 pm2 an2 cd2 ct2), sl2⟩) (c2 : PySem.W.codeIn K cd2 "inverse" = true) (k2 : PySem.W.keepIn K (.ref f2) = true)
    (a3 : PySem.W.nsIn K mainGlobals "corners" = some (some (.ref f3))) (l3 : K.lookup f3 = some ⟨oc3, od3, .func (PySem.W.fnOf "corners" "corners" (defArgs s_corners) (defBody s_corners) (defScope s_corners) .none kV3 dc3 pm3 an3 cd3 ct3), sl3⟩) (c3 : PySem.W.codeIn K cd3 "corners" = true) (k3 : PySem.W.keepIn K (.ref f3) = true)
    (a4 : PySem.W.nsIn K mainGlobals "hopeful" = some (some (.ref f4))) (l4 : K.lookup f4 = some ⟨oc4, od4, .func (PySem.W.fnOf "hopeful" "hopeful" (defArgs s_hopeful) (defBody s_hopeful) (defScope s_hopeful) .none kV4 dc4 pm4 an4 cd4 ct4), sl4⟩) (c4 : PySem.W.codeIn K cd4 "hopeful" = true) (k4 : PySem.W.keepIn K (.ref f4) = true)
    (a5 : PySem.W.nsIn K mainGlobals "_law_stream" = some (some (.ref f5))) (l5 : K.lookup f5 = some ⟨oc5, od5, .func (PySem.W.fnOf "_law_stream" "_law_stream" (defArgs s__law_stream) (defBody s__law_stream) (defScope s__law_stream) .none kV5 dc5 pm5 an5 cd5 ct5), sl5⟩) (c5 : PySem.W.codeIn K cd5 "_law_stream" = true) (k5 : PySem.W.keepIn K (.ref f5) = true)
    (a6 : PySem.W.nsIn K mainGlobals "_law_take" = some (some (.ref f6))) (l6 : K.lookup f6 = some ⟨oc6, od6, .func (PySem.W.fnOf "_law_take" "_law_take" (defArgs s__law_take) (defBody s__law_take) (defScope s__law_take) .none kV6 dc6 pm6 an6 cd6 ct6), sl6⟩) (c6 : PySem.W.codeIn K cd6 "_law_take" = true) (k6 : PySem.W.keepIn K (.ref f6) = true)
    (a7 : PySem.W.nsIn K mainGlobals "_law_at" = some (some (.ref f7))) (l7 : K.lookup f7 = some ⟨oc7, od7, .func (PySem.W.fnOf "_law_at" "_law_at" (defArgs s__law_at) (defBody s__law_at) (defScope s__law_at) .none kV7 dc7 pm7 an7 cd7 ct7), sl7⟩) (c7 : PySem.W.codeIn K cd7 "_law_at" = true) (k7 : PySem.W.keepIn K (.ref f7) = true)
    (a8 : PySem.W.nsIn K mainGlobals "law" = some (some (.ref f8))) (l8 : K.lookup f8 = some ⟨oc8, od8, .func (PySem.W.fnOf "law" "law" (defArgs s_law) (defBody s_law) (defScope s_law) .none kV8 dc8 pm8 an8 cd8 ct8), sl8⟩) (c8 : PySem.W.codeIn K cd8 "law" = true) (k8 : PySem.W.keepIn K (.ref f8) = true)
    (z_abs : PySem.W.nsIn K mainGlobals "abs" = some none)
    (z_int : PySem.W.nsIn K mainGlobals "int" = some none)
    (z_isinstance : PySem.W.nsIn K mainGlobals "isinstance" = some none)
    (z_len : PySem.W.nsIn K mainGlobals "len" = some none)
    (z_list : PySem.W.nsIn K mainGlobals "list" = some none)
    (z_min : PySem.W.nsIn K mainGlobals "min" = some none)
    (z_range : PySem.W.nsIn K mainGlobals "range" = some none)
    (sup : PySem.W.nsIn K mainGlobals "super" = some none) (opq : PySem.W.nsIn K cStatics "thirdparty.any" = some none) (top : (l.prog.main.scope.names.lookup ("super" : Str)).isSome = false)
    (hn : PySem.W.specialIn K (.builtin "object.__class__") "__get__" = some (some (.builtin "getset_descriptor.__get__"))) (ht : PySem.W.takesIn K (.builtin "object.__class__") = some true)
    {C_FieldError fI_FieldError cc_FieldError cda_FieldError : Addr} {sc_FieldError : Scope} {nm_FieldError qn_FieldError : Str} {N_FieldError : Addr} {bs_FieldError bm_FieldError sub_FieldError : List Value} {sn_FieldError : List Str} {ab_FieldError : Bool} {col_FieldError : Option Bool} {dd_FieldError od_FieldError an_FieldError : Option Addr} {m0_FieldError m1_FieldError m2_FieldError m3_FieldError m5_FieldError : Option Value}
    {oc_FieldError doc_FieldError pm_FieldError ct_FieldError ccl_FieldError cl_FieldError : Value} {osl_FieldError ccs_FieldError csl_FieldError : Array (Option Value)} {p1_FieldError p2_FieldError a1_FieldError a2_FieldError a3_FieldError a4_FieldError a5_FieldError q1_FieldError q2_FieldError q3_FieldError q4_FieldError : Pos} {vs_FieldError : Array Value} {cdd_FieldError cld_FieldError : Option Addr} {file_FieldError : Str} {tf_FieldError : Tok}
    {msg_FieldError : Str} {mj_FieldError : Nat} {mp_FieldError : Pos}
    (gC_FieldError : PySem.W.nsIn K mainGlobals "FieldError" = some (some (.ref C_FieldError))) (xL_FieldError : K.lookup C_FieldError = some (PySem.excClassObj nm_FieldError qn_FieldError C_FieldError N_FieldError bs_FieldError bm_FieldError true sn_FieldError sub_FieldError ab_FieldError col_FieldError dd_FieldError m0_FieldError m1_FieldError m2_FieldError m3_FieldError m5_FieldError "ValueError.__new__")) (rv_FieldError : PySem.HandSPX.refsVE bm_FieldError = true) (sa_FieldError : PySem.W.findIn K (.ref C_FieldError) "__setattr__" = some (some (.builtin "object.__setattr__"))) (ga_FieldError : PySem.W.findIn K (.ref C_FieldError) "__getattribute__" = some (some (.builtin "BaseException.__getattribute__"))) (gg_FieldError : PySem.W.findIn K (.ref C_FieldError) "__getattr__" = some none) (nb_FieldError : PySem.W.findIn K (.ref C_FieldError) "number" = some none) (iC_FieldError : PySem.W.findIn K (.ref C_FieldError) "__init__" = some (some (.ref fI_FieldError))) (tI_FieldError : PySem.W.typeIn K (.ref fI_FieldError) = some (.type "function")) (lI_FieldError : K.lookup fI_FieldError = some ⟨oc_FieldError, od_FieldError, .func (PySem.W.ksFn "__init__" "FieldError.__init__" (PySem.LkX.eArgs "number" p1_FieldError p2_FieldError) (PySem.LkX.eBody "number" (.Constant (.str msg_FieldError) mj_FieldError mp_FieldError) a1_FieldError a2_FieldError a3_FieldError a4_FieldError a5_FieldError q1_FieldError q2_FieldError q3_FieldError q4_FieldError) sc_FieldError .none .none doc_FieldError pm_FieldError an_FieldError (.ref cda_FieldError) ct_FieldError cc_FieldError), osl_FieldError⟩) (hl_FieldError : (a3_FieldError.endLine == a4_FieldError.line) = true) (cI_FieldError : PySem.W.codeIn K (.ref cda_FieldError) "FieldError.__init__" = true) (lD_FieldError : K.lookup cda_FieldError = some ⟨ccl_FieldError, cdd_FieldError, .fields vs_FieldError, ccs_FieldError⟩) (v2_FieldError : vs_FieldError[2]? = some (.str file_FieldError tf_FieldError)) (hF_FieldError : (l.prog.main.file == file_FieldError) = true) (lC_FieldError : K.lookup cc_FieldError = some ⟨cl_FieldError, cld_FieldError, .cell (some (.ref C_FieldError)), csl_FieldError⟩) (sf_FieldError : PySem.W.mroIn K C_FieldError (.ref C_FieldError) = some true) (sI_FieldError : PySem.W.ks_superIn K C_FieldError C_FieldError "__init__" = some (some (.builtin "ValueError.__init__"))) (sV_FieldError : PySem.W.subIn K (.ref C_FieldError) (.type "ValueError") = some true) (kC_FieldError : PySem.W.keepIn K (.ref C_FieldError) = true) (eC_FieldError : PySem.W.subIn K (.ref C_FieldError) (.type "BaseException") = some true) (tC_FieldError : PySem.W.typeIn K (.ref C_FieldError) = some (.type "type")) (hC_FieldError : PySem.W.hasDictIn K C_FieldError = true) (sC_FieldError : PySem.W.subIn K (.ref C_FieldError) (.ref C_FieldError) = some true) (hA_FieldError : PySem.W.findIn K (.ref C_FieldError) "__class__" = some (some (.builtin "object.__class__"))) (hM_FieldError : PySem.W.mroIn K C_FieldError (.type "object") = some true) (sk_FieldError : sc_FieldError.kind = .function ∧ sc_FieldError.isCoroutine = false ∧ sc_FieldError.isGenerator = false) (sn2_FieldError : ∀ x ∈ sc_FieldError.names, x.2 ≠ .cell) (sl_FieldError : sc_FieldError.names.lookup ("super" : Str) = some .globalImplicit ∧ sc_FieldError.names.lookup ("__class__" : Str) = some .free ∧ sc_FieldError.names.lookup ("self" : Str) = some .local ∧ sc_FieldError.names.lookup ("number" : Str) = some .local)
    : ∃ fd : FuncData, (∀ (s : Shared) (v : Value), BindsTo s fd ⟨[v], []⟩ [("script", v)]) ∧ ∀ base : Heap, K.In base → base.Ns mainGlobals mg → FnOk l.prog w K mg base CX0 4 fa fd ["script"] (sp_law K) := by
  have e := hfa.symm.trans (PySem.W.mg_of X G a8)
  cases e
  have F1 := fun_mk (st := s_power) l1 c1 k1
  have b1 := F1.binds (ps := ["base", "exponent", "p"]) fun _ _ _ _ _ _ us hl => match us, hl with | [_, _, _], _ => rfl
  have F2 := fun_mk (st := s_inverse) l2 c2 k2
  have b2 := F2.binds (ps := ["number", "p"]) fun _ _ _ _ _ _ us hl => match us, hl with | [_, _], _ => rfl
  have F3 := fun_mk (st := s_corners) l3 c3 k3
  have b3 := F3.binds (ps := ["values", "p"]) fun _ _ _ _ _ _ us hl => match us, hl with | [_, _], _ => rfl
  have F4 := fun_mk (st := s_hopeful) l4 c4 k4
  have b4 := F4.binds (ps := ["lack", "guesses", "degree", "p"]) fun _ _ _ _ _ _ us hl => match us, hl with | [_, _, _, _], _ => rfl
  have F5 := fun_mk (st := s__law_stream) l5 c5 k5
  have b5 := F5.binds (ps := ["script"]) fun _ _ _ _ _ _ us hl => match us, hl with | [_], _ => rfl
  have F6 := fun_mk (st := s__law_take) l6 c6 k6
  have b6 := F6.binds (ps := ["row", "many"]) fun _ _ _ _ _ _ us hl => match us, hl with | [_, _], _ => rfl
  have F7 := fun_mk (st := s__law_at) l7 c7 k7
  have b7 := F7.binds (ps := ["values", "t", "p"]) fun _ _ _ _ _ _ us hl => match us, hl with | [_, _, _], _ => rfl
  have F8 := fun_mk (st := s_law) l8 c8 k8
  have b8 := F8.binds (ps := ["script"]) fun _ _ _ _ _ _ us hl => match us, hl with | [_], _ => rfl
  exact ⟨PySem.W.fnOf "law" "law" (defArgs s_law) (defBody s_law) (defScope s_law) .none kV8 dc8 pm8 an8 cd8 ct8, fun s v => .of_eq rfl, fun base _ _ =>
    ok_law (T := (⟨_, _, F1, b1, PySem.W.mg_of X G a1,
    _, _, F2, b2, PySem.W.mg_of X G a2,
    _, _, F3, b3, PySem.W.mg_of X G a3,
    _, _, F4, b4, PySem.W.mg_of X G a4,
    _, _, F5, b5, PySem.W.mg_of X G a5,
    _, _, F6, b6, PySem.W.mg_of X G a6,
    _, _, F7, b7, PySem.W.mg_of X G a7,
    _, _, F8, b8, PySem.W.mg_of X G a8,
    PySem.W.mg_none_of X G z_abs,
    PySem.W.mg_none_of X G z_int,
    PySem.W.mg_none_of X G z_isinstance,
    PySem.W.mg_none_of X G z_len,
    PySem.W.mg_none_of X G z_list,
    PySem.W.mg_none_of X G z_min,
    PySem.W.mg_none_of X G z_range,
    C_FieldError, { txt := ⟨fI_FieldError, cc_FieldError, cda_FieldError, _, sc_FieldError, _, { cls := ⟨nm_FieldError, qn_FieldError, N_FieldError, bs_FieldError, bm_FieldError, sn_FieldError, sub_FieldError, ab_FieldError, col_FieldError, dd_FieldError, m0_FieldError, m1_FieldError, m2_FieldError, m3_FieldError, m5_FieldError, xL_FieldError, rv_FieldError⟩, sa := sa_FieldError, iC := iC_FieldError, tC := tI_FieldError, noN := nb_FieldError, fn := ⟨oc_FieldError, od_FieldError, doc_FieldError, pm_FieldError, an_FieldError, ct_FieldError, osl_FieldError, p1_FieldError, p2_FieldError, a1_FieldError, a2_FieldError, a3_FieldError, a4_FieldError, a5_FieldError, q1_FieldError, q2_FieldError, q3_FieldError, q4_FieldError, lI_FieldError, hl_FieldError⟩, cd := cI_FieldError, code := ⟨ccl_FieldError, cdd_FieldError, vs_FieldError, ccs_FieldError, file_FieldError, tf_FieldError, lD_FieldError, v2_FieldError, hF_FieldError⟩, cell := ⟨cl_FieldError, cld_FieldError, csl_FieldError, lC_FieldError⟩, sup := sup, opq := opq, self := sf_FieldError, sin := sI_FieldError, sub := sV_FieldError, top := top }, { kind := sk_FieldError.1, co := sk_FieldError.2.1, gen := sk_FieldError.2.2, nocell := sn2_FieldError, sup := sl_FieldError.1, cls := sl_FieldError.2.1, slf := sl_FieldError.2.2.1, prm := sl_FieldError.2.2.2, ne := by decide, dbg := by decide }, fun v v' rv ok x L A' s' E' Q hns hq => PySem.wpAny_Constant_str (hq _ _ _), fun v x p1 p2 body doc pm an ct => by first | rfl | with_unfolding_all rfl, fun env => rfl⟩, gC := PySem.W.mg_of X G gC_FieldError, kC := kC_FieldError, ga := ga_FieldError, gg := gg_FieldError, noN := nb_FieldError, exC := eC_FieldError, tyC := tC_FieldError, hdC := hC_FieldError, te := PySem.W.exm_ref eC_FieldError hC_FieldError tC_FieldError sC_FieldError, ha := hA_FieldError, hn := hn, ht := ht, hm := hM_FieldError }⟩ : Txt l.prog w K mg))⟩
end
end Lk
open PySem PySem.W PyProof.Rows
set_option maxRecDepth 100000 in
set_option maxHeartbeats 0 in
theorem PySem.Challenge.cw_layerask_k35_hopeful_polynomials_holds : PySem.Challenge.rw_layerask_k35_hopeful_polynomials.Holds := by
  w_on; o_law; k_head; (case hw => w_witness2)
  k_fill
  refine L2.walk_of (l := PySem.Challenge.rw_layerask_k35_hopeful_polynomials) (n := 63) (k := 4) (x := "script") (CX := fun _ => L2.CX0) (sp := fun w => Lk.sp_law _) rfl (by decide) rfl ⟨rfl, by decide, by decide⟩ (fun w h Y => PySem.W.kIn_of Y) ?F (fun _ _ a ns hl _ hS => ⟨a, ns, rfl, hS, hl, fun _ => rfl⟩) (fun _ _ _ _ _ h => h)
  case F =>
    intro w mg fa h KX G hmg
    refine' Lk.all_mk KX G hmg ?a1 ?l1 ?c1 ?k1 ?a2 ?l2 ?c2 ?k2 ?a3 ?l3 ?c3 ?k3 ?a4 ?l4 ?c4 ?k4 ?a5 ?l5 ?c5 ?k5 ?a6 ?l6 ?c6 ?k6 ?a7 ?l7 ?c7 ?k7 ?a8 ?l8 ?c8 ?k8 ?z_abs ?z_int ?z_isinstance ?z_len ?z_list ?z_min ?z_range ?sup ?opq ?top ?hn ?ht ?gC_FieldError ?xL_FieldError ?rv_FieldError ?sa_FieldError ?ga_FieldError ?gg_FieldError ?nb_FieldError ?iC_FieldError ?tI_FieldError ?lI_FieldError ?hl_FieldError ?cI_FieldError ?lD_FieldError ?v2_FieldError ?hF_FieldError ?lC_FieldError ?sf_FieldError ?sI_FieldError ?sV_FieldError ?kC_FieldError ?eC_FieldError ?tC_FieldError ?hC_FieldError ?sC_FieldError ?hA_FieldError ?hM_FieldError ?sk_FieldError ?sn2_FieldError ?sl_FieldError
    (case a1 => k_is)
    (case l1 => k_is)
    (case c1 => k_is)
    (case k1 => k_is)
    (case a2 => k_is)
    (case l2 => k_is)
    (case c2 => k_is)
    (case k2 => k_is)
    (case a3 => k_is)
    (case l3 => k_is)
    (case c3 => k_is)
    (case k3 => k_is)
    (case a4 => k_is)
    (case l4 => k_is)
    (case c4 => k_is)
    (case k4 => k_is)
    (case a5 => k_is)
    (case l5 => k_is)
    (case c5 => k_is)
    (case k5 => k_is)
    (case a6 => k_is)
    (case l6 => k_is)
    (case c6 => k_is)
    (case k6 => k_is)
    (case a7 => k_is)
    (case l7 => k_is)
    (case c7 => k_is)
    (case k7 => k_is)
    (case a8 => k_is)
    (case l8 => k_is)
    (case c8 => k_is)
    (case k8 => k_is)
    (case z_abs => k_is)
    (case z_int => k_is)
    (case z_isinstance => k_is)
    (case z_len => k_is)
    (case z_list => k_is)
    (case z_min => k_is)
    (case z_range => k_is)
    (case sup => k_is)
    (case opq => k_is)
    (case top => first | rfl | decide +kernel | kernel_rfl)
    (case hn => k_is)
    (case ht => k_is)
    (case gC_FieldError => k_is)
    (case xL_FieldError => k_is)
    (case rv_FieldError => first | rfl | decide +kernel)
    (case sa_FieldError => k_is)
    (case ga_FieldError => k_is)
    (case gg_FieldError => k_is)
    (case nb_FieldError => k_is)
    (case iC_FieldError => k_is)
    (case tI_FieldError => k_is)
    (case lI_FieldError => k_is)
    (case hl_FieldError => first | rfl | decide +kernel)
    (case cI_FieldError => k_is)
    (case lD_FieldError => k_is)
    (case v2_FieldError => rfl)
    (case hF_FieldError => first | rfl | decide +kernel | kernel_rfl)
    (case lC_FieldError => k_is)
    (case sf_FieldError => k_is)
    (case sI_FieldError => first | ks_is | k_is)
    (case sV_FieldError => k_is)
    (case kC_FieldError => k_is)
    (case eC_FieldError => k_is)
    (case tC_FieldError => k_is)
    (case hC_FieldError => k_is)
    (case sC_FieldError => first | rfl | k_is)
    (case hA_FieldError => k_is)
    (case hM_FieldError => k_is)
    (case sk_FieldError => exact ⟨rfl, rfl, rfl⟩)
    (case sn2_FieldError => decide +kernel)
    (case sl_FieldError => exact ⟨by decide +kernel, by decide +kernel, by decide +kernel, by decide +kernel⟩)

import PyProof.Rows.All
import Wide.All
import OpenK.AllK
import Wide.FinOn
import HandS.ForMost
import HandS.Zip
import HandS.Wide
import HandS.WideBits
import HandS.IsInst
import HandS.Walk
import HandS.Exc
import HandS.ExcInit
import HandS.ExcIs
import KE.KExcSuper
import KE.KExcIs
import HandS.WordsExc
import HandS.ExcOwn
import KE.RegKIsAll
import HandS.Conv
import PySem.Challenge.RW_layerask_k03_tables
set_option Elab.async false
set_option linter.all false
set_option maxRecDepth 100000
set_option maxHeartbeats 0
namespace Lk
open PySem PySem.Spec PyProof.Rows L2
/-! ### readings, one step each -/
section
variable {K : PySem.W.Frag} {σ : L2.St} {H : Hp} {Q : VK} {v x y : V} {i j : Int} {te ta tb : TE} {tt tu : TT} {r : R2} {t : TA} {t1 t2 : TS} {g : TG} {nx bk ct : L2.St → Hp → Prop} {rt : VK}
theorem a_var {k : Nat} (h : σ[k]? = some (some v)) (q : Q v H) : tVar k σ H Q := ⟨v, h, q⟩
theorem a_c (q : Q v H) : tC v σ H Q := q
theorem a_op (q : ta σ H fun x H1 => tb σ H1 fun y H2 => r x y H2 Q) : tOp r ta tb σ H Q := q
theorem a_un {r : V → Hp → VK → Prop} (q : ta σ H fun x H1 => r x H1 Q) : tUn r ta σ H Q := q
theorem a_i0 {f : Int → Int → V} (q : Q (f i j) H) : rI0 f (.int i) (.int j) H Q := ⟨i, j, rfl, rfl, q⟩
theorem a_iC {C : Int → Int → Prop} {f : Int → Int → V} (hc : C i j) (q : Q (f i j) H) : rI C f (.int i) (.int j) H Q := ⟨i, j, rfl, rfl, hc, q⟩
theorem a_u {f : Int → V} (q : Q (f i) H) : rU f (.int i) H Q := ⟨i, rfl, q⟩
theorem dec_V {i j : Int} : decide (V.int i = V.int j) = decide (i = j) := by
  by_cases h : i = j
  · subst h; simp
  · rw [decide_eq_false h, decide_eq_false (fun e => h (V.int.inj e))]
theorem dec_S {a b : Str} : decide (V.str a = V.str b) = decide (a = b) := by
  by_cases h : a = b
  · subst h; simp
  · rw [decide_eq_false h, decide_eq_false (fun e => h (V.str.inj e))]
theorem dec_B {a b : Bool} : decide (V.bl a = V.bl b) = decide (a = b) := by
  by_cases h : a = b
  · subst h; simp
  · rw [decide_eq_false h, decide_eq_false (fun e => h (V.bl.inj e))]
theorem a_eqI (q : Q (.bl (decide (i = j))) H) : rEq (.int i) (.int j) H Q := ⟨rfl, by rw [dec_V]; exact q⟩
theorem a_neI (q : Q (.bl (!decide (i = j))) H) : rNe (.int i) (.int j) H Q := ⟨rfl, by rw [dec_V]; exact q⟩
theorem a_eqS {a b : Str} (q : Q (.bl (decide (a = b))) H) : rEq (.str a) (.str b) H Q := ⟨rfl, by rw [dec_S]; exact q⟩
theorem a_neS {a b : Str} (q : Q (.bl (!decide (a = b))) H) : rNe (.str a) (.str b) H Q := ⟨rfl, by rw [dec_S]; exact q⟩
theorem a_eqB {a b : Bool} (q : Q (.bl (decide (a = b))) H) : rEq (.bl a) (.bl b) H Q := ⟨rfl, by rw [dec_B]; exact q⟩
theorem a_neB {a b : Bool} (q : Q (.bl (!decide (a = b))) H) : rNe (.bl a) (.bl b) H Q := ⟨rfl, by rw [dec_B]; exact q⟩
theorem a_test {R : Bool → Hp → Prop} (q : te σ H fun x H' => ∃ k, x = .bl k ∧ R k H') : tTest te σ H R := q
theorem a_tB {R : Bool → Hp → Prop} (q : te σ H fun x H' => ∃ k, x = .bl k ∧ R k H') : tB te σ H R := q
theorem a_bl {P : Bool → Prop} {b : Bool} (q : P b) : ∃ k, V.bl b = V.bl k ∧ P k := ⟨b, rfl, q⟩
theorem a_and {R : Bool → Hp → Prop} (q : tt σ H fun c H1 => if c = true then tu σ H1 R else R false H1) : tAnd tt tu σ H R := q
theorem a_or {R : Bool → Hp → Prop} (q : tt σ H fun c H1 => if c = true then R true H1 else tu σ H1 R) : tOr tt tu σ H R := q
theorem a_not {R : Bool → Hp → Prop} (q : tt σ H fun c H1 => R (!c) H1) : tNot tt σ H R := q
theorem a_ifx (q : tt σ H fun c H1 => if c = true then ta σ H1 Q else tb σ H1 Q) : tIf tt ta tb σ H Q := q
theorem a_nil {R : List V → Hp → Prop} (q : R [] H) : tNil σ H R := q
theorem a_cons {R : List V → Hp → Prop} (q : te σ H fun x H1 => t σ H1 fun xs H2 => R (x :: xs) H2) : tCons te t σ H R := q
theorem a_call {sp : Sp} {dvs : List V} {E : XK} (q : t σ H fun vs H1 => sp (vs ++ dvs) H1 Q E) : tCall sp dvs E t σ H Q := q
theorem a_cb {r : List V → Hp → VK → Prop} (q : t σ H fun vs H1 => r vs H1 Q) : tCB r t σ H Q := q
theorem a_tup (q : t σ H fun xs H1 => xs.length ≤ sizeLine ∧ ∀ p, H1 p = none → Q (.ref p) (upd H1 p (.tup xs))) : tTup t σ H Q := q
theorem a_lst (q : t σ H fun xs H1 => xs.length ≤ sizeLine ∧ ∀ p, H1 p = none → Q (.ref p) (upd H1 p (.lst xs))) : tLst t σ H Q := q
theorem a_seq (q : t1 ⟨t2 ⟨nx, rt, bk, ct⟩, rt, bk, ct⟩ σ H) : tSeq t1 t2 ⟨nx, rt, bk, ct⟩ σ H := q
theorem a_next (q : nx σ H) : tNext ⟨nx, rt, bk, ct⟩ σ H := q
theorem a_asg (q : te σ H fun x H1 => g x σ H1 nx) : tAsg te g ⟨nx, rt, bk, ct⟩ σ H := q
theorem a_gname {k : Nat} {R : L2.St → Hp → Prop} (q : R (σ.set k (some v)) H) : gName k v σ H R := q
theorem a_gsub {to ti : TE} {s : TSet} {R : L2.St → Hp → Prop} (q : to σ H fun o H1 => ti σ H1 fun i H2 => s o i v H2 fun H3 => R σ H3) : gSub to ti s v σ H R := q
theorem a_gtup {a : Addr} {xs : List V} {n : Nat} {u : TGs} {R : L2.St → Hp → Prop} (h : H a = some (.tup xs)) (hn : xs.length = n) (q : u xs σ H R) : gTup K n u (.ref a) σ H R := ⟨a, xs, rfl, .inl (.inl h), hn, q⟩
theorem a_gcons {u : TGs} {xs : List V} {R : L2.St → Hp → Prop} (q : g v σ H fun σ' H' => u xs σ' H' R) : gCons g u (v :: xs) σ H R := ⟨v, xs, rfl, q⟩
theorem a_gnil {R : L2.St → Hp → Prop} (q : R σ H) : gNil [] σ H R := ⟨rfl, q⟩
theorem a_ret (q : te σ H rt) : tRet te ⟨nx, rt, bk, ct⟩ σ H := q
theorem a_retN (q : rt .non H) : tRetN ⟨nx, rt, bk, ct⟩ σ H := q
theorem a_drop (q : te σ H fun _ H1 => nx σ H1) : tDrop te ⟨nx, rt, bk, ct⟩ σ H := q
theorem a_ifS (q : tt σ H fun b H1 => if b = true then t1 ⟨nx, rt, bk, ct⟩ σ H1 else t2 ⟨nx, rt, bk, ct⟩ σ H1) : tIfS tt t1 t2 ⟨nx, rt, bk, ct⟩ σ H := q
theorem a_aug {k : Nat} {ti : TIp} (h : σ[k]? = some (some x)) (q : te σ H fun y H1 => ti x y H1 fun z H2 => nx (σ.set k (some z)) H2) : tAug k te ti ⟨nx, rt, bk, ct⟩ σ H := ⟨x, h, q⟩
theorem a_ip {f : Int → Int → Int} (q : Q (.int (f i j)) H) : ipI f (.int i) (.int j) H Q := ⟨i, j, rfl, rfl, q⟩
theorem a_for {wi : TI} (q : wi σ H fun J H1 => ∃ W : Nat → Nat → L2.St → Hp → Prop, (∃ m, W 0 m σ H1) ∧ ∀ i m σ H, W i m σ H →
  (J.stop i H ∧ nx σ H) ∨ (J.go i H ∧ ∃ N : L2.St → Hp → Prop, (∀ σ' H', N σ' H' → ∃ m', m' < m ∧ W (i + 1) m' σ' H') ∧ ∀ x H', J.yld i H x H' → g x σ H' fun σ2 H2 => t1 ⟨N, rt, nx, N⟩ σ2 H2)) : tFor wi g t1 ⟨nx, rt, bk, ct⟩ σ H := q
theorem a_while (W : Nat → L2.St → Hp → Prop) (m0 : Nat) (h0 : W m0 σ H) (q : ∀ m σ H, W m σ H → tt σ H fun b H1 => if b = true then ∃ N : L2.St → Hp → Prop, (∀ σ' H', N σ' H' → ∃ m', m' < m ∧ W m' σ' H') ∧ t1 ⟨N, rt, nx, N⟩ σ H1 else nx σ H1) :
    tWhile tt t1 ⟨nx, rt, bk, ct⟩ σ H := ⟨W, ⟨m0, h0⟩, q⟩
theorem a_rng1 {R : It → Hp → Prop} (q : t σ H fun vs H1 => ∃ j : Int, vs = [.int j] ∧ -(2 ^ 62) ≤ j ∧ j < 2 ^ 62 ∧ R (Itr 0 j.toNat) H1) : iRng1 t σ H R := q
theorem a_exrng {P : Int → Prop} (h1 : -(2 ^ 62) ≤ j) (h2 : j < 2 ^ 62) (q : P j) : ∃ j' : Int, [V.int j] = [V.int j'] ∧ -(2 ^ 62) ≤ j' ∧ j' < 2 ^ 62 ∧ P j' := ⟨j, rfl, h1, h2, q⟩
theorem a_iList {R : It → Hp → Prop} (q : te σ H fun x H1 => ∃ a, x = .ref a ∧ (∃ xs, SqL K H1 a xs) ∧ R (Itl K a) H1) : iList K te σ H R := q
theorem a_exl {a : Addr} {xs : List V} {R : Addr → Prop} (h : SqL K H a xs) (q : R a) : ∃ a', V.ref a = V.ref a' ∧ (∃ xs, SqL K H a' xs) ∧ R a' := ⟨a, rfl, ⟨xs, h⟩, q⟩
theorem a_zip {R : It → Hp → Prop} (q : t σ H fun vs H1 => ∃ a b xs ys, vs = [.ref a, .ref b] ∧ SqL K H1 a xs ∧ SqL K H1 b ys ∧ R (Itz K a b) H1) : iZip K t σ H R := q
theorem a_lc {wi : TI} {vs : List Nat} (q : wi σ H fun J H1 => ∀ D, H1 D = none → ∃ W : Nat → Nat → Hp → Prop, (∃ m, W 0 m (upd H1 D (.lst []))) ∧ ∀ i m H, W i m H →
  (J.stop i H ∧ Q (.ref D) H) ∨ (J.go i H ∧ ∃ Nx : Hp → Prop, (∀ H', Nx H' → ∃ m', m' < m ∧ W (i + 1) m' H') ∧ ∀ x H', J.yld i H x H' → g x (wipe σ vs) H' fun σ2 H2 => wipe σ2 vs = wipe σ vs ∧ tt σ2 H2 fun b H3 =>
    if b = true then te σ2 H3 fun y H4 => ∃ acc, H4 D = some (.lst acc) ∧ acc.length < sizeLine ∧ Nx (upd H4 D (.lst (acc ++ [y]))) else Nx H3)) : tLc wi g tt te vs σ H Q := q
theorem a_yes {R : Bool → Hp → Prop} (q : R true H) : tYes σ H R := q
theorem a_bm {T : String} {r : V → List V → Hp → VK → Prop} {to : TE} (q : to σ H fun x H1 => tyV K T x H1 ∧ t σ H1 fun xs H2 => r x xs H2 Q) : tBM K T r to t σ H Q := q
theorem a_tyL {a : Addr} {xs : List V} {R : Prop} (h : SqL K H a xs) (q : R) : tyV K "list" (.ref a) H ∧ R := ⟨.inl ⟨rfl, _, h⟩, q⟩
theorem a_append {a : Addr} {xs : List V} (h : H a = some (.lst xs)) (hl : xs.length < sizeLine) (q : Q .non (upd H a (.lst (xs ++ [y])))) : rAppend (.ref a) [y] H Q := ⟨a, xs, y, rfl, rfl, h, hl, q⟩
theorem a_popAt0 {a : Addr} {xs : List V} (h : H a = some (.lst (y :: xs))) (q : Q y (upd H a (.lst xs))) : rPopAt (.ref a) [.int 0] H Q := by
  refine ⟨a, y :: xs, 0, 0, y, rfl, rfl, h, by decide, by decide, ?_, rfl, q⟩
  exact (ixN_seq (n := (y :: xs).length) (i := 0) (j := 0) (by unfold ixN; rw [if_pos (by omega), if_pos (by rw [List.length_cons]; omega)]; rfl)).1
theorem a_setL {a : Addr} {xs : List V} {k : Nat} {R : Hp → Prop} (h : H a = some (.lst xs)) (hk : k < xs.length) (q : R (upd H a (.lst (xs.set k v)))) : rSetL (.ref a) (.int (k : Int)) v H R := by
  refine ⟨a, xs, k, k, rfl, rfl, h, ?_, q⟩
  unfold ixN
  rw [if_pos (by omega), if_pos (by omega)]
  simp
theorem a_ixL {a : Addr} {xs : List V} (h : SqL K H a xs) (e : atI xs i = some v) (q : Q v H) : rIxL K (.ref a) (.int i) H Q := ⟨a, xs, i, v, rfl, rfl, h, e, q⟩
theorem a_ixT {a : Addr} {xs : List V} (h : SqT K H a xs) (e : atI xs i = some v) (q : Q v H) : rIxT K (.ref a) (.int i) H Q := ⟨a, xs, i, v, rfl, rfl, h, e, q⟩
theorem a_cat {a b : Addr} {xs zs : List V} (ha : H a = some (.lst xs)) (hb : H b = some (.lst zs)) (hl : xs.length + zs.length ≤ sizeLine) (q : ∀ p, H p = none → Q (.ref p) (upd H p (.lst (xs ++ zs)))) : rCat (.ref a) (.ref b) H Q := ⟨a, b, xs, zs, rfl, rfl, ha, hb, hl, q⟩
theorem a_len {a : Addr} {xs : List V} {P : List V → Prop} (h : SqL K H a xs) (q : P xs) : ∃ p ys, [V.ref a] = [V.ref p] ∧ (SqL K H p ys ∨ SqT K H p ys) ∧ P ys := ⟨a, xs, rfl, .inl h, q⟩
theorem a_abs {P : Int → Prop} (q : P i) : ∃ j, [V.int i] = [V.int j] ∧ P j := ⟨i, rfl, q⟩
theorem a_int {P : Int → Prop} {R : Bool → Prop} (q : P i) : (∃ j, [V.int i] = [V.int j] ∧ P j) ∨ ∃ k, [V.int i] = [V.bl k] ∧ R k := .inl ⟨i, rfl, q⟩
end
/-! ### rules whose K is named -/
section
variable {X : Cx} {K : PySem.W.Frag}
theorem ixL_ (h : X.K = K) : IxR X (rIxL K) := by subst h; exact ix_list
theorem ixT_ (h : X.K = K) : IxR X (rIxT K) := by subst h; exact ix_tup
theorem slL_ (h : X.K = K) : SlR X (rSlL K) := by subst h; exact sl_list
theorem piL_ {tg l : Expr} {tl : TE} (h : X.K = K) (hl : PE X l tl) : PI X tg l (iList K tl) := by subst h; exact pi_list hl
theorem piZ_ {tg it : Expr} {ta : TA} (h : X.K = K) (hl : PI X tg it (iZip X.K ta)) : PI X tg it (iZip K ta) := by subst h; exact hl
theorem pgT_ {tg : Expr} {n : Nat} {t : TGs} (h : X.K = K) (hl : PG X tg (gTup X.K n t)) : PG X tg (gTup K n t) := by subst h; exact hl
theorem lenK_ (h : X.K = K) : CallR X (.builtin "len") (fun xs H Q => ∃ p ys, xs = [.ref p] ∧ (SqL K H p ys ∨ SqT K H p ys) ∧ Q (.int ys.length) H) := by subst h; exact call_len_seq
theorem bmK_ {e : Expr} {T : String} {r : V → List V → Hp → VK → Prop} {to : TE} {t : TA} (h : X.K = K) (hl : PE X e (tBM X.K T r to t)) : PE X e (tBM K T r to t) := by subst h; exact hl
end
theorem ifd {p : Prop} [Decidable p] {A B : Prop} (h1 : p → A) (h2 : ¬ p → B) : if decide p = true then A else B := by
  by_cases h : p
  · rw [if_pos (decide_eq_true h)]; exact h1 h
  · rw [if_neg (by rw [decide_eq_false h]; decide)]; exact h2 h
theorem ifnd {p : Prop} [Decidable p] {A B : Prop} (h1 : ¬ p → A) (h2 : p → B) : if (!decide p) = true then A else B := by
  by_cases h : p
  · rw [decide_eq_true h, if_neg (by decide)]; exact h2 h
  · rw [decide_eq_false h, if_pos (by decide)]; exact h1 h
theorem ift {A B : Prop} (h : A) : if true = true then A else B := by rw [if_pos rfl]; exact h
theorem iff' {A B : Prop} (h : B) : if false = true then A else B := by rw [if_neg (by decide)]; exact h
theorem ifb {b : Bool} {A B : Prop} (h1 : b = true → A) (h2 : b = false → B) : if b = true then A else B := by
  cases b
  · exact iff' (h2 rfl)
  · exact ift (h1 rfl)
theorem sql {K : PySem.W.Frag} {H : Hp} {a : Addr} {xs : List V} (h : H a = some (.lst xs)) : SqL K H a xs := .inl (.inl h)
theorem sqt {K : PySem.W.Frag} {H : Hp} {a : Addr} {xs : List V} (h : H a = some (.tup xs)) : SqT K H a xs := .inl (.inl h)
theorem sz {n : Nat} (h : n ≤ 1000000) : n ≤ sizeLine := by rw [sizeLine_eq]; omega
theorem szl {n : Nat} (h : n ≤ 1000000) : n < sizeLine := by rw [sizeLine_eq]; omega
theorem same_upd {H : Hp} {p : Addr} {o : HO} (h : H p = none) : Same H (upd H p o) := fun b x e => by
  rw [upd_ne (ne_of_none e h)]
  exact e
theorem atI_at {α : Type} {xs : List α} {i : Int} (h0 : 0 ≤ i) (h : i.toNat < xs.length) : atI xs i = some xs[i.toNat] := by
  have e := atI_nat (List.getElem?_eq_getElem h)
  have z : ((i.toNat : Nat) : Int) = i := Int.toNat_of_nonneg h0
  rw [z] at e
  exact e
/-! ### the steps -/
local macro_rules | `(tactic| walk_at "lk side") => `(tactic| first | assumption | (show _ ∧ _; omega) | (unfold CMul; omega) | (unfold CPow; omega) | omega | (refine sql ?_; assumption) | (refine sqt ?_; assumption))
end Lk

namespace Lk
open PySem PySem.Spec PyProof.Rows L2
/-! ### the state of the draws: two addresses; all else is kept -/
def StA (H : Hp) (st c : Addr) : Prop := ∃ (cs : List Int) (m : Int), H st = some (.lst [.ref c, .int m]) ∧ H c = some (.lst (cs.map V.int)) ∧ cs.length ≤ 63
def Gd (st c : Addr) (H H' : Hp) : Prop := ∀ a o, H a = some o → a ≠ st → a ≠ c → H' a = some o
theorem Gd.refl {st c : Addr} (H : Hp) : Gd st c H H := fun _ _ h _ _ => h
theorem Gd.trans {st c : Addr} {H H1 H2 : Hp} (a : Gd st c H H1) (b : Gd st c H1 H2) : Gd st c H H2 := fun x o h h1 h2 => b x o (a x o h h1 h2) h1 h2
theorem Gd.of {st c : Addr} {H H' : Hp} (h : Same H H') : Gd st c H H' := fun a o e _ _ => h a o e
theorem StA.same {st c : Addr} {H H' : Hp} (s : StA H st c) (h : Same H H') : StA H' st c := by
  obtain ⟨cs, m, h1, h2, h3⟩ := s
  exact ⟨cs, m, h _ _ h1, h _ _ h2, h3⟩
theorem StA.ne {st c : Addr} {H : Hp} (s : StA H st c) : st ≠ c := by
  obtain ⟨cs, m, h1, h2, _⟩ := s
  refine ne_of h1 h2 fun e => ?_
  have e1 : [V.ref c, V.int m] = cs.map V.int := HO.lst.inj e
  cases cs with
  | nil => simp at e1
  | cons x r => simp at e1
theorem StA.neS {st c a : Addr} {H : Hp} (s : StA H st c) (h : H a = none) : a ≠ st ∧ a ≠ c := by
  obtain ⟨cs, m, h1, h2, _⟩ := s
  exact ⟨fun e => by rw [e, h1] at h; simp at h, fun e => by rw [e, h2] at h; simp at h⟩
/-- a fact about another object -/
structure Ob (st c : Addr) (H : Hp) (a : Addr) (o : HO) : Prop where
  at_ : H a = some o
  ns : a ≠ st
  nc : a ≠ c
theorem Ob.go {st c a : Addr} {H H' : Hp} {o : HO} (h : Ob st c H a o) (g : Gd st c H H') : Ob st c H' a o := ⟨g a o h.at_ h.ns h.nc, h.ns, h.nc⟩
theorem Ob.same {st c a : Addr} {H H' : Hp} {o : HO} (h : Ob st c H a o) (g : Same H H') : Ob st c H' a o := h.go (Gd.of g)
theorem Ob.new {st c a : Addr} {H : Hp} {o : HO} (s : StA H st c) (h : H a = none) : Ob st c (upd H a o) a o := ⟨upd_same, (s.neS h).1, (s.neS h).2⟩
theorem Ob.mk' {st c a : Addr} {H H' : Hp} {o : HO} (s : StA H st c) (h : H a = none) (e : H' a = some o) : Ob st c H' a o := ⟨e, (s.neS h).1, (s.neS h).2⟩
theorem supd {H H' : Hp} {p : Addr} {o : HO} (s : Same H H') (h : H' p = none) : Same H (upd H' p o) := s.trans (same_upd h)
/-- an object that H does not know changes -/
theorem smut {H H' : Hp} {p : Addr} {o : HO} (s : Same H H') (h : H p = none) : Same H (L2.upd H' p o) := fun a u ha => by
  rw [upd_ne (ne_of_none ha h)]
  exact s a u ha
theorem Gd.mut {st c : Addr} {H H' : Hp} {p : Addr} {o : HO} (s : Gd st c H H') (h : H p = none) : Gd st c H (L2.upd H' p o) := fun a u ha h1 h2 => by
  rw [upd_ne (ne_of_none ha h)]
  exact s a u ha h1 h2
theorem StA.mut {st c : Addr} {H : Hp} {p : Addr} {o : HO} (s : StA H st c) (h1 : p ≠ st) (h2 : p ≠ c) : StA (L2.upd H p o) st c := by
  obtain ⟨cs, m, e1, e2, e3⟩ := s
  exact ⟨cs, m, by rw [upd_ne h1.symm]; exact e1, by rw [upd_ne h2.symm]; exact e2, e3⟩
/-! ### comprehensions -/
theorem take_app {α : Type} {ys : List α} {j : Nat} {y : α} (h : ys[j]? = some y) : ys.take j ++ [y] = ys.take (j + 1) := by
  rw [List.take_add_one, h]
  rfl
section
variable {K : PySem.W.Frag} {σ : L2.St} {H : Hp} {Q : VK} {te tl : TE} {tt : TT} {g : TG}
/-- over a list, nothing that H knows changes -/
theorem lc_same {a : Addr} {k : Nat} {xs ys : List V} (hx : SqL K H a xs) (hlen : ys.length = xs.length) (hz : ys.length ≤ 1000000)
    (he : ∀ (j : Nat) (x : V), xs[j]? = some x → ∀ H' (R : VK), Same H H' → (∀ y H'', Same H' H'' → ys[j]? = some y → R y H'') → te ((wipe σ [k]).set k (some x)) H' R)
    (q : ∀ D H', H D = none → Same H H' → H' D = some (.lst ys) → Q (.ref D) H') :
    ∀ D, H D = none → ∃ W : Nat → Nat → Hp → Prop, (∃ m, W 0 m (upd H D (.lst []))) ∧ ∀ i m H, W i m H →
      ((Itl K a).stop i H ∧ Q (.ref D) H) ∨ ((Itl K a).go i H ∧ ∃ Nx : Hp → Prop, (∀ H', Nx H' → ∃ m', m' < m ∧ W (i + 1) m' H') ∧ ∀ x H', (Itl K a).yld i H x H' → gName k x (wipe σ [k]) H' fun σ2 H2 => wipe σ2 [k] = wipe σ [k] ∧ tYes σ2 H2 fun b H3 =>
        if b = true then te σ2 H3 fun y H4 => ∃ acc, H4 D = some (.lst acc) ∧ acc.length < sizeLine ∧ Nx (upd H4 D (.lst (acc ++ [y]))) else Nx H3) := by
  intro D hD
  refine lc_list (K := K) (a := a) (xs := xs) (Qd := Q (.ref D)) (fun i H' => Same H H' ∧ H' D = some (.lst (ys.take i))) ⟨same_upd hD, upd_same⟩ (fun i H' _ h => h.1.seq hx) ?_ ?_
  · rintro i x H' hi ⟨s, e⟩
    refine a_gname ?_
    refine ⟨by simp [wipe], a_yes (ift ?_)⟩
    refine he i x hi H' _ s fun y H'' s2 ey => ?_
    refine ⟨_, s2 _ _ e, ?_, smut (s.trans s2) hD, ?_⟩
    · refine szl ?_
      rw [List.length_take]
      omega
    · rw [upd_same, take_app ey]
  · rintro H' ⟨s, e⟩
    refine q D H' hD s ?_
    rw [e, ← hlen, List.take_length]
/-- over a range, nothing that H knows changes -/
theorem lr_same {k n : Nat} {ys : List V} (hlen : ys.length = n) (hz : ys.length ≤ 1000000)
    (he : ∀ j : Nat, j < n → ∀ H' (R : VK), Same H H' → (∀ y H'', Same H' H'' → ys[j]? = some y → R y H'') → te ((wipe σ [k]).set k (some (.int (j : Int)))) H' R)
    (q : ∀ D H', H D = none → Same H H' → H' D = some (.lst ys) → Q (.ref D) H') :
    ∀ D, H D = none → ∃ W : Nat → Nat → Hp → Prop, (∃ m, W 0 m (upd H D (.lst []))) ∧ ∀ i m H, W i m H →
      ((Itr 0 n).stop i H ∧ Q (.ref D) H) ∨ ((Itr 0 n).go i H ∧ ∃ Nx : Hp → Prop, (∀ H', Nx H' → ∃ m', m' < m ∧ W (i + 1) m' H') ∧ ∀ x H', (Itr 0 n).yld i H x H' → gName k x (wipe σ [k]) H' fun σ2 H2 => wipe σ2 [k] = wipe σ [k] ∧ tYes σ2 H2 fun b H3 =>
        if b = true then te σ2 H3 fun y H4 => ∃ acc, H4 D = some (.lst acc) ∧ acc.length < sizeLine ∧ Nx (upd H4 D (.lst (acc ++ [y]))) else Nx H3) := by
  intro D hD
  refine lc_range (lo := 0) (n := n) (Qd := Q (.ref D)) (fun i H' => Same H H' ∧ H' D = some (.lst (ys.take i))) ⟨same_upd hD, upd_same⟩ ?_ ?_
  · rintro i H' hi ⟨s, e⟩
    refine a_gname ?_
    refine ⟨by simp [wipe], a_yes (ift ?_)⟩
    rw [Int.zero_add]
    refine he i hi H' _ s fun y H'' s2 ey => ?_
    refine ⟨_, s2 _ _ e, ?_, smut (s.trans s2) hD, ?_⟩
    · refine szl ?_
      rw [List.length_take]
      omega
    · rw [upd_same, take_app ey]
  · rintro H' ⟨s, e⟩
    refine q D H' hD s ?_
    rw [e, ← hlen, List.take_length]
/-- over a range, the element draws -/
theorem lr_draw {st c : Addr} {k n : Nat} {P : V → Prop} (hz : n ≤ 1000000) (s0 : StA H st c)
    (he : ∀ j : Nat, j < n → ∀ H' (R : VK), StA H' st c → Gd st c H H' → (∀ y H'', P y → StA H'' st c → Gd st c H' H'' → R y H'') → te ((wipe σ [k]).set k (some (.int (j : Int)))) H' R)
    (q : ∀ D H' ys, H D = none → StA H' st c → Gd st c H H' → ys.length = n → (∀ y ∈ ys, P y) → Ob st c H' D (.lst ys) → Q (.ref D) H') :
    ∀ D, H D = none → ∃ W : Nat → Nat → Hp → Prop, (∃ m, W 0 m (upd H D (.lst []))) ∧ ∀ i m H, W i m H →
      ((Itr 0 n).stop i H ∧ Q (.ref D) H) ∨ ((Itr 0 n).go i H ∧ ∃ Nx : Hp → Prop, (∀ H', Nx H' → ∃ m', m' < m ∧ W (i + 1) m' H') ∧ ∀ x H', (Itr 0 n).yld i H x H' → gName k x (wipe σ [k]) H' fun σ2 H2 => wipe σ2 [k] = wipe σ [k] ∧ tYes σ2 H2 fun b H3 =>
        if b = true then te σ2 H3 fun y H4 => ∃ acc, H4 D = some (.lst acc) ∧ acc.length < sizeLine ∧ Nx (upd H4 D (.lst (acc ++ [y]))) else Nx H3) := by
  intro D hD
  have nD := s0.neS hD
  refine lc_range (lo := 0) (n := n) (Qd := Q (.ref D)) (fun i H' => StA H' st c ∧ Gd st c H H' ∧ ∃ ys : List V, ys.length = i ∧ i ≤ n ∧ (∀ y ∈ ys, P y) ∧ H' D = some (.lst ys))
    ⟨s0.mut nD.1 nD.2, (Gd.refl H).mut hD, [], rfl, Nat.zero_le _, (fun y hy => by simp at hy), upd_same⟩ ?_ ?_
  · rintro i H' hi ⟨s, gd, ys, e1, e2, e3, e4⟩
    refine a_gname ?_
    refine ⟨by simp [wipe], a_yes (ift ?_)⟩
    rw [Int.zero_add]
    refine he i hi H' _ s gd fun y H'' py s2 g2 => ?_
    refine ⟨_, g2 _ _ e4 nD.1 nD.2, szl (by omega), s2.mut nD.1 nD.2, (gd.trans g2).mut hD, ys ++ [y], by rw [List.length_append, e1]; rfl, by omega, fun z hz => ?_, upd_same⟩
    rcases List.mem_append.mp hz with h | h
    · exact e3 z h
    · have := List.mem_singleton.mp h
      rw [this]; exact py
  · rintro H' ⟨s, gd, ys, e1, e2, e3, e4⟩
    exact q D H' ys hD s gd e1 e3 ⟨e4, nD.1, nD.2⟩
end
/-! ### loops, their ends by parts -/
section
variable {K : PySem.W.Frag} {g : TG} {tb : TS} {σ : L2.St} {H : Hp} {nx : L2.St → Hp → Prop} {rt : VK}
theorem fo_list {a : Addr} {xs : List V} (Pv : Nat → L2.St → Hp → Prop) (h0 : Pv 0 σ H) (hl : ∀ i σ H, i ≤ xs.length → Pv i σ H → SqL K H a xs)
    (hs : ∀ i x σ H, xs[i]? = some x → Pv i σ H → g x σ H fun σ2 H2 => tb ⟨Pv (i + 1), rt, nx, Pv (i + 1)⟩ σ2 H2) (hd : ∀ σ H, Pv xs.length σ H → nx σ H) :
    ∃ W : Nat → Nat → L2.St → Hp → Prop, (∃ m, W 0 m σ H) ∧ ∀ i m σ H, W i m σ H →
      ((Itl K a).stop i H ∧ nx σ H) ∨ ((Itl K a).go i H ∧ ∃ N : L2.St → Hp → Prop, (∀ σ' H', N σ' H' → ∃ m', m' < m ∧ W (i + 1) m' σ' H') ∧ ∀ x H', (Itl K a).yld i H x H' → g x σ H' fun σ2 H2 => tb ⟨N, rt, nx, N⟩ σ2 H2) :=
  for_list (D := ⟨nx, rt, fun _ _ => False, fun _ _ => False⟩) Pv h0 hl hs hd
theorem fo_range {n : Nat} (Pv : Nat → L2.St → Hp → Prop) (h0 : Pv 0 σ H)
    (hs : ∀ i σ H, i < n → Pv i σ H → g (.int (i : Int)) σ H fun σ2 H2 => tb ⟨Pv (i + 1), rt, nx, Pv (i + 1)⟩ σ2 H2) (hd : ∀ σ H, Pv n σ H → nx σ H) :
    ∃ W : Nat → Nat → L2.St → Hp → Prop, (∃ m, W 0 m σ H) ∧ ∀ i m σ H, W i m σ H →
      ((Itr 0 n).stop i H ∧ nx σ H) ∨ ((Itr 0 n).go i H ∧ ∃ N : L2.St → Hp → Prop, (∀ σ' H', N σ' H' → ∃ m', m' < m ∧ W (i + 1) m' σ' H') ∧ ∀ x H', (Itr 0 n).yld i H x H' → g x σ H' fun σ2 H2 => tb ⟨N, rt, nx, N⟩ σ2 H2) :=
  for_range (lo := 0) (D := ⟨nx, rt, fun _ _ => False, fun _ _ => False⟩) Pv h0 (fun i σ H hi p => by rw [Int.zero_add]; exact hs i σ H hi p) hd
theorem fo_zip {a b : Addr} {xs ys : List V} (hl : xs.length = ys.length) (Pv : Nat → L2.St → Hp → Prop) (h0 : Pv 0 σ H) (hq : ∀ i σ H, Pv i σ H → SqL K H a xs ∧ SqL K H b ys)
    (hs : ∀ (i : Nat) (x y : V) (T : Addr) (σ : L2.St) (H : Hp), xs[i]? = some x → ys[i]? = some y → Pv i σ H → H T = none → g (.ref T) σ (upd H T (.tup [x, y])) fun σ2 H2 => tb ⟨Pv (i + 1), rt, nx, Pv (i + 1)⟩ σ2 H2) (hd : ∀ σ H, Pv xs.length σ H → nx σ H) :
    ∃ W : Nat → Nat → L2.St → Hp → Prop, (∃ m, W 0 m σ H) ∧ ∀ i m σ H, W i m σ H →
      ((Itz K a b).stop i H ∧ nx σ H) ∨ ((Itz K a b).go i H ∧ ∃ N : L2.St → Hp → Prop, (∀ σ' H', N σ' H' → ∃ m', m' < m ∧ W (i + 1) m' σ' H') ∧ ∀ v H', (Itz K a b).yld i H v H' → g v σ H' fun σ2 H2 => tb ⟨N, rt, nx, N⟩ σ2 H2) :=
  RZ.for_zipL (D := ⟨nx, rt, fun _ _ => False, fun _ _ => False⟩) hl Pv h0 hq hs hd
end
theorem getV {xs : List Int} {i : Nat} {x : V} (h : (xs.map V.int)[i]? = some x) : ∃ n, xs[i]? = some n ∧ x = .int n := by
  rw [List.getElem?_map] at h
  cases e : xs[i]? with
  | none => rw [e] at h; cases h
  | some n => rw [e] at h; exact ⟨n, rfl, (Option.some.inj h).symm⟩
theorem a_exz {K : PySem.W.Frag} {H : Hp} {a b : Addr} {xs ys : List V} {R : Addr → Addr → Prop} (h1 : SqL K H a xs) (h2 : SqL K H b ys) (q : R a b) : ∃ a' b' xs ys, [V.ref a, V.ref b] = [V.ref a', V.ref b'] ∧ SqL K H a' xs ∧ SqL K H b' ys ∧ R a' b' := ⟨a, b, xs, ys, rfl, h1, h2, q⟩
/-! ### a comprehension as a whole -/
section
variable {K : PySem.W.Frag} {σ : L2.St} {H : Hp} {Q : VK} {te tl : TE} {ta : TA} {vs : List Nat}
theorem c_same {a : Addr} {k : Nat} {xs : List V} (ys : List V) (hv : vs = [k]) (ht : ∀ R : VK, R (.ref a) H → tl σ H R) (hx : SqL K H a xs) (hlen : ys.length = xs.length) (hz : ys.length ≤ 1000000)
    (he : ∀ (j : Nat) (x : V), xs[j]? = some x → ∀ H' (R : VK), Same H H' → (∀ y H'', Same H' H'' → ys[j]? = some y → R y H'') → te ((wipe σ [k]).set k (some x)) H' R)
    (q : ∀ D H', H D = none → Same H H' → H' D = some (.lst ys) → Q (.ref D) H') : tLc (iList K tl) (gName k) tYes te vs σ H Q := by
  subst hv
  refine ht (fun x H1 => ∃ a, x = .ref a ∧ (∃ xs, SqL K H1 a xs) ∧ _) ⟨a, rfl, ⟨xs, hx⟩, ?_⟩
  exact lc_same hx hlen hz he q
theorem c_rng {k n : Nat} (ys : List V) (hv : vs = [k]) (hn : n ≤ 1000000) (ht : ∀ R : List V → Hp → Prop, R [.int (n : Int)] H → ta σ H R) (hlen : ys.length = n)
    (he : ∀ j : Nat, j < n → ∀ H' (R : VK), Same H H' → (∀ y H'', Same H' H'' → ys[j]? = some y → R y H'') → te ((wipe σ [k]).set k (some (.int (j : Int)))) H' R)
    (q : ∀ D H', H D = none → Same H H' → H' D = some (.lst ys) → Q (.ref D) H') : tLc (iRng1 ta) (gName k) tYes te vs σ H Q := by
  subst hv
  refine ht (fun vs H1 => ∃ j : Int, vs = [.int j] ∧ -(2 ^ 62) ≤ j ∧ j < 2 ^ 62 ∧ _) ⟨(n : Int), rfl, by omega, by omega, ?_⟩
  rw [Int.toNat_natCast]
  exact lr_same hlen (by omega) he q
theorem c_draw {st c : Addr} {k n : Nat} (P : V → Prop) (hv : vs = [k]) (hn : n ≤ 1000000) (ht : ∀ R : List V → Hp → Prop, R [.int (n : Int)] H → ta σ H R) (s0 : StA H st c)
    (he : ∀ j : Nat, j < n → ∀ H' (R : VK), StA H' st c → Gd st c H H' → (∀ y H'', P y → StA H'' st c → Gd st c H' H'' → R y H'') → te ((wipe σ [k]).set k (some (.int (j : Int)))) H' R)
    (q : ∀ D H' ys, H D = none → StA H' st c → Gd st c H H' → ys.length = n → (∀ y ∈ ys, P y) → Ob st c H' D (.lst ys) → Q (.ref D) H') : tLc (iRng1 ta) (gName k) tYes te vs σ H Q := by
  subst hv
  refine ht (fun vs H1 => ∃ j : Int, vs = [.int j] ∧ -(2 ^ 62) ≤ j ∧ j < 2 ^ 62 ∧ _) ⟨(n : Int), rfl, by omega, by omega, ?_⟩
  rw [Int.toNat_natCast]
  exact lr_draw hn s0 he q
end
/-! ### more readings -/
theorem cdw {i j : Int} (h0 : 0 < j) (h1 : j < 9223372036854775808) : CDivW i j := by
  refine ⟨h0, ?_⟩
  have hn : j.natAbs ≠ 0 := by omega
  have h2 : j.natAbs < 2 ^ 63 := by
    have : (2 : Nat) ^ 63 = 9223372036854775808 := by decide
    omega
  have := (Nat.log2_lt hn).mpr h2
  omega
def In (lo hi : Int) (l : List Int) : Prop := ∀ e ∈ l, lo ≤ e ∧ e < hi
theorem in_getD {lo hi x : Int} {l : List Int} (h : In lo hi l) (h0 : 0 ≤ x) (h1 : x < (l.length : Int)) : lo ≤ l.getD x.toNat 0 ∧ l.getD x.toNat 0 < hi := by
  have hx : x.toNat < l.length := by omega
  rw [List.getD_eq_getElem?_getD, List.getElem?_eq_getElem hx]
  exact h _ (List.getElem_mem hx)
theorem at0 {α : Type} {y : α} {xs : List α} : atI (y :: xs) 0 = some y := atI_nat (j := 0) rfl
theorem at_int {l : List Int} {x : Int} (h0 : 0 ≤ x) (h1 : x < (l.length : Int)) : atI (l.map V.int) x = some (.int (l.getD x.toNat 0)) := by
  have hx : x.toNat < l.length := by omega
  have e := atI_nat (xs := l.map V.int) (j := x.toNat) (v := .int (l.getD x.toNat 0)) (by
    rw [List.getElem?_map, List.getElem?_eq_getElem hx, List.getD_eq_getElem?_getD, List.getElem?_eq_getElem hx]
    rfl)
  have z : ((x.toNat : Nat) : Int) = x := Int.toNat_of_nonneg h0
  rw [z] at e
  exact e
section
variable {σ : L2.St} {H : Hp} {v y : V} {tt : TT} {t1 : TS} {nx bk ct : L2.St → Hp → Prop} {rt : VK}
theorem a_setL0 {a : Addr} {xs : List V} {R : Hp → Prop} (h : H a = some (.lst (y :: xs))) (q : R (upd H a (.lst (v :: xs)))) : rSetL (.ref a) (.int 0) v H R :=
  a_setL (k := 0) h (by rw [List.length_cons]; omega) q
theorem a_setL1 {a : Addr} {z : V} {xs : List V} {R : Hp → Prop} (h : H a = some (.lst (z :: y :: xs))) (q : R (upd H a (.lst (z :: v :: xs)))) : rSetL (.ref a) (.int 1) v H R :=
  a_setL (k := 1) h (by rw [List.length_cons, List.length_cons]; omega) q
theorem a_while2 (A : L2.St → Hp → Prop) (post : ∀ σ H, A σ H → nx σ H) (W : Nat → L2.St → Hp → Prop) (m0 : Nat) (h0 : W m0 σ H)
    (q : ∀ nx' : L2.St → Hp → Prop, (∀ σ H, A σ H → nx' σ H) → ∀ m σ H, W m σ H → tt σ H fun b H1 => if b = true then ∃ N : L2.St → Hp → Prop, (∀ σ' H', N σ' H' → ∃ m', m' < m ∧ W m' σ' H') ∧ t1 ⟨N, rt, nx', N⟩ σ H1 else nx' σ H1) :
    tWhile tt t1 ⟨nx, rt, bk, ct⟩ σ H := ⟨W, ⟨m0, h0⟩, q nx post⟩
end
end Lk

namespace Lk
open PySem PySem.Spec PyProof.Rows L2
/-! ### the law's own def, where it is known that no repr is under way around it -/
def FreeA (A : Around) : Prop := A.guards = some []
/-- what a call promises at one surrounding -/
def RunsAt (P : Program) (w : World) (K : PySem.W.Frag) (mg : Str → Option Value) (base : Heap) (CX : CXT) (k : Nat) (f : Addr) (fd : FuncData) (ps : List Str) (sp : Sp) : Prop :=
  ∀ (A : Around) (outer : List Env) (s : Shared) (H : Hp) (args : Args) (us : List Value) (vs : List V) (Q : VK) (E : XK), FreeA A → Room k A → Env0 P w K mg base A outer s H → BindsTo s fd args (ps.zip us) → Vals vs us → sp vs H Q E →
    codeAny (model P w) A (.call (.ref f) args) (CR CX outer P w H s Q E) s
theorem runs_of {P : Program} {w : World} {K : PySem.W.Frag} {mg : Str → Option Value} {base : Heap} {CX : CXT} {k : Nat} {f : Addr} {x qual : Str} {st : Stmt} {fd : FuncData} {N ps : List Str} {sp : Sp} (F : Fun K x qual st f fd) (S : FnScope N ps (defScope st))
    (len : ∀ vs H Q E, sp vs H Q E → vs.length = ps.length)
    (body : ∀ (cdv : Value) (A : Around) (outer : List Env) (s : Shared) (H : Hp) (vs : List V) (Q : VK) (E : XK), FreeA A → Room k (A.deeper (envOfC qual (defScope st) s.heap.objs.size f cdv)) → sp vs H Q E →
      ∃ t, PSs (cxOf CX P w K mg base N qual (defScope st) f cdv A outer s H E).nox (defBody st) t ∧ t { nx := fun _ H' => Q .non H', rt := Q } (start N vs) H) : RunsAt P w K mg base CX (k + 1) f fd ps sp := by
  obtain ⟨oc, od, kV, doc, pm, an, cdv, ct, osl, efd, lk, hcode⟩ := F.ex
  subst efd
  intro A outer s H args us vs Q E fa room env bind rel want
  have nargs := len _ _ _ _ want
  have kin : K.In s.heap := env.mod.kin.keeps fun b o e => (env.bs b o e).1
  have nol : s.heap.NoLimit := env.mod.nolimit.keeps fun b o e => (env.bs b o e).1
  have cells : ∀ y ∈ ps.zip us, (defScope st).names.lookup y.1 = some .local ∨ ((defScope st).names.lookup y.1 = some .cell ∧ ((cellsFrom (s.heap.objs.size + 1) (defScope st).names []).lookup y.1).isSome = true) := by
    rintro ⟨n, v⟩ hy
    refine (S.par n (List.of_mem_zip hy).1).imp id fun q => ?_
    exact ⟨q, PySem.W.cellsFrom_some _ _ _ (.inl q)⟩
  refine codeAny_call_function room.depth (kin _ _ lk) rfl S.co S.gen rfl (PySem.W.codeRec_of kin hcode) (bind _ _ _ _ ?_)
  refine wpAny_newFunctionEnv_cells S.kind cells ?_
  intro e1 h1 s1 h2
  subst h1
  refine ⟨nol.keeps h2.toInCall.keep, codeAny_func ?_⟩
  obtain ⟨t, ht, want'⟩ := body cdv A outer s H vs Q E fa (room.deeper _) want
  have J := inv_start (CX := CX) (P := P) (w := w) (E := E) (cd := cdv) (qual := qual) (f := f) S room.hd env nargs rel h2
  refine wpAny_mono (ht.nox.run [] s1 (start N vs) H _ J want') ?_ fun _ _ z => z
  intro fl s' hs
  cases fl with
  | ret u =>
    obtain ⟨v, σ', H', J', rv, q⟩ := hs
    exact ⟨v, H', J'.os, J'.bare, J'.base, J'.hok, rv, q⟩
  | next =>
    obtain ⟨σ', H', J', q⟩ := hs
    exact ⟨V.non, H', J'.os, J'.bare, J'.base, J'.hok, rfl, q⟩
  | brk => exact hs.elim fun _ h => h.elim fun _ h => h.2.elim
  | cont => exact hs.elim fun _ h => h.elim fun _ h => h.2.elim
/-! ### the head for such a law -/
section
variable {P : Program} {w : World} {K : PySem.W.Frag} {mg mb : Str → Option Value} {CX : CXT} {k : Nat} {fa a : Addr} {fd : FuncData} {x : Str} {sp : Sp} {s₁ : Shared} {vs : List Value} {ns : List Int}
abbrev lawEnd (s₁ : Shared) : Result → Shared → Prop := fun r s' => r = .ok (.ret (.bool true)) ∧ OldK s₁.heap s'.heap ∧ s'.os = s₁.os ∧ AllBare s'.gens
/-- from an abstract heap in which at most the script stands -/
theorem law_from (KX : K.In s₁.heap) (hns : s₁.heap.Ns mainGlobals mg) (hb : s₁.heap.Ns builtinsNs mb) (hbb : ∀ x : Str, x ≠ "__name__" → mb x = bootBuiltins x) (hlim : s₁.heap.NoLimit) (hg : s₁.gens = #[])
    (ha : s₁.heap.get? a = some { cls := .type "list", data := .seq vs.toArray }) (room : Room k callerA)
    (F : ∀ base : Heap, K.In base → base.Ns mainGlobals mg → RunsAt P w K mg base CX k fa fd [x] sp) (hbind : ∀ (s : Shared) (u : Value), BindsTo s fd ⟨[u], []⟩ [(x, u)])
    (H : Hp) (hO : Only H) (hok : HOk P w H s₁.heap) (hA : ∀ b, H b ≠ none → b = a) (hK : H a ≠ none → K.lookup a = none) (want : sp [.ref a] H (fun v _ => v = .bl true) fun _ _ _ => False)
    (hCX : ∀ e s', CX [] H s₁ (fun _ _ _ => False) e s' → False) : codeAny (model P w) callerA (.call (.ref fa) ⟨[.ref a], []⟩) (lawEnd s₁) s₁ := by
  have only : ∀ {b : Addr}, b ≠ a → H b = none := fun {b} hb => by
    cases q : H b with
    | none => rfl
    | some u => exact absurd (hA b (by rw [q]; exact nofun)) hb
  have dicts : ∀ {b : Addr} {o : Obj} {es : Array DictEntry} {ep : Nat}, s₁.heap.get? b = some o → o.data = .dict es ep → H b = none := by
    intro b o es ep e d
    by_cases hb : b = a
    · subst hb
      obtain rfl := Option.some.inj (ha.symm.trans e)
      exact nomatch d
    · exact only hb
  have spaces : ∀ {b : Addr} {m : Str → Option Value}, s₁.heap.Ns b m → (hidT s₁.heap H).Ns b m := by
    rintro b m ⟨o, es, ep, e, d, r⟩
    exact ⟨o, es, ep, hidT_get e (dicts e d), d, r⟩
  have kin : K.In (hidT s₁.heap H) := by
    intro b o e
    refine hidT_get (KX b o e) ?_
    by_cases hb : b = a
    · subst hb
      cases q : H b with
      | none => rfl
      | some u =>
        have z := hK (by rw [q]; exact nofun)
        rw [e] at z
        exact nomatch z
    · exact only hb
  obtain ⟨mc, l1, l2⟩ := hlim
  have env : Env0 P w K mg (hidT s₁.heap H) callerA [] s₁ H :=
    ⟨rfl, ⟨kin, spaces hns, ⟨mb, spaces hb, hbb⟩, ⟨mc, spaces l1, l2⟩⟩, fun b o e => of_hidT e, Nat.le_of_eq (hidT_size _ _), trivial, fun b z => absurd (show b ∈ ([] : List Addr) from z) (by simp), hok, .of_eq hg⟩
  refine codeAny_mono (F _ kin (spaces hns) callerA [] s₁ H ⟨[.ref a], []⟩ [.ref a] [.ref a] _ _ rfl room env (hbind s₁ (.ref a)) (.cons rfl .nil) want) ?_
  intro r s' h
  cases r with
  | error e => exact (hCX e s' h).elim
  | ok fl =>
    cases fl with
    | ret u =>
      obtain ⟨v, H', os, bare, un, hok', rv, rfl⟩ := h
      obtain rfl : u = Value.bool true := rv
      refine ⟨rfl, OldK.of_keep ?_, os, bare⟩
      intro b o e
      rcases hO b with z | ⟨ob, xs, z⟩
      · exact un.keep b o e z (fun q => absurd (show b ∈ ([] : List Addr) from q) (by simp)) (by simp)
      · obtain ⟨e1, _⟩ := hok b _ z
        obtain ⟨e2, _⟩ := hok' b _ (un.frzs b ob _ z)
        obtain rfl := Option.some.inj (e1.symm.trans e)
        exact e2
    | next => exact False.elim h
    | brk => exact False.elim h
    | cont => exact False.elim h
theorem ints_vals : ∀ {vs : List Value} {ns : List Int}, IntsAre vs ns → Vals (ns.map V.int) vs
  | _, _, .nil => .nil
  | _, _, .cons n t h => .cons ⟨t, rfl⟩ (ints_vals h)
theorem law_runs (KX : K.In s₁.heap) (hns : s₁.heap.Ns mainGlobals mg) (hb : s₁.heap.Ns builtinsNs mb) (hbb : ∀ x : Str, x ≠ "__name__" → mb x = bootBuiltins x) (hlim : s₁.heap.NoLimit) (hg : s₁.gens = #[])
    (ha : s₁.heap.get? a = some { cls := .type "list", data := .seq vs.toArray }) (hi : IntsAre vs ns) (hl : ns.length ≤ sizeLine) (room : Room k callerA)
    (F : ∀ base : Heap, K.In base → base.Ns mainGlobals mg → RunsAt P w K mg base CX k fa fd [x] sp) (hbind : ∀ (s : Shared) (u : Value), BindsTo s fd ⟨[u], []⟩ [(x, u)])
    (hsp : ∀ H : Hp, Only H → SqL K H a (ns.map V.int) → sp [.ref a] H (fun v _ => v = .bl true) fun _ _ _ => False)
    (hCX : ∀ H e s', CX [] H s₁ (fun _ _ _ => False) e s' → False) : codeAny (model P w) callerA (.call (.ref fa) ⟨[.ref a], []⟩) (lawEnd s₁) s₁ := by
  have rel := ints_vals hi
  have nlen := hi.length
  by_cases hk : K.lookup a = none
  · have hS : SqL K (fun b => if b = a then some (.frz { cls := .type "list", data := .seq vs.toArray } (.lst (ns.map V.int))) else none) a (ns.map V.int) := .inl (.inr ⟨_, if_pos rfl⟩)
    have hO : Only (fun b => if b = a then some (.frz { cls := .type "list", data := .seq vs.toArray } (.lst (ns.map V.int))) else none) := by
      intro b
      by_cases hb : b = a
      · exact .inr ⟨_, _, if_pos hb⟩
      · exact .inl (if_neg hb)
    refine law_from KX hns hb hbb hlim hg ha room F hbind _ hO ?_ ?_ (fun _ => hk) (hsp _ hO hS) (hCX _)
    · intro b u z
      by_cases hb : b = a
      · subst hb
        obtain rfl := Option.some.inj ((if_pos rfl).symm.trans z)
        exact ⟨ha, by rw [List.length_map]; exact hl, vs, _, rel, ha⟩
      · exact nomatch (if_neg hb).symm.trans z
    · intro b z
      by_cases hb : b = a
      · exact hb
      · exact absurd (if_neg hb) z
  · obtain ⟨o, ho⟩ := Option.ne_none_iff_exists'.mp hk
    obtain rfl := Option.some.inj (ha.symm.trans (KX a o ho))
    have hS : SqL K (fun _ => none) a (ns.map V.int) := .inr ⟨_, vs.toArray, _, ho, rfl, rfl, rfl, by rw [List.size_toArray, nlen]; exact hl, by simpa using rel⟩
    have hO : Only (fun _ => none) := fun _ => .inl rfl
    exact law_from KX hns hb hbb hlim hg ha room F hbind _ hO (fun b u z => nomatch (show (none : Option HO) = some u from z)) (fun b z => absurd rfl z) (fun z => absurd rfl z) (hsp _ hO hS) (hCX _)
end
theorem walk_free {l : PySem.W.OpenLaw} {n k : Nat} {q : Program} {loose : List Str} {XP : (Str → Option Value) → Heap → Prop} {YP : World → Heap → Prop} {d : DefRec} {K : Params → PySem.W.Frag} {CX : CXT} {sp : PySem.W.Frag → Sp} {x : Str}
    (hn : l.most = some n) (hn2 : n ≤ sizeLine) (hdf : d.params.defaults = []) (room : Room k callerA) (hY : ∀ (w : World) (h : Heap), YP w h → (K w.params).In h)
    (F : ∀ (w : World) (mg : Str → Option Value) (fa : Addr) (h : Heap), (K w.params).In h → h.Ns mainGlobals mg → mg d.name = some (.ref fa) →
      ∃ fd : FuncData, (∀ (s : Shared) (u : Value), BindsTo s fd ⟨[u], []⟩ [(x, u)]) ∧ ∀ base : Heap, (K w.params).In base → base.Ns mainGlobals mg → RunsAt l.prog w (K w.params) mg base CX k fa fd [x] (sp (K w.params)))
    (hsp : ∀ (K : PySem.W.Frag) (H : Hp) (a : Addr) (ns : List Int), ns.length ≤ n → Only H → SqL K H a (ns.map V.int) → sp K [.ref a] H (fun v _ => v = .bl true) fun _ _ _ => False)
    (hCX : ∀ (H : Hp) (s : Shared) (e : Value) (s' : Shared), CX [] H s (fun _ _ _ => False) e s' → False) :
    PySem.W.WalkO q loose XP YP l.row.toRowW d [] (fun f vs => PySem.call f vs) := by
  refine Att.attach_call hn hdf ?_
  intro w s₀ s₁ mg mb fa o pm cd doc a vs ns G Y ho hd hcd hmg hobj hints hlen hg
  obtain ⟨fd, hb, hF⟩ := F w mg fa _ (hY w _ Y) G.T.g hmg
  exact law_runs (hY w _ Y) G.T.g G.T.b G.T.builtins G.T.nolimit hg hobj hints (Nat.le_trans hlen hn2) room hF hb (fun H hO hS => hsp _ H a ns hlen hO hS) fun H e s' => hCX H s₁ e s'
/-! ### repr -/
def rRep (K : PySem.W.Frag) : List V → Hp → VK → Prop := fun vs H Q => (vs = [.non] ∧ Q (.str "None") H) ∨ ∃ (a : Addr) (d : PyData), vs = [.ref a] ∧ Dp K H (.ref a) d ∧ d.showable = true ∧ d.hasDict = false ∧ d.depth ≤ 20 ∧ d.shown.length ≤ sizeLine ∧ Q (.str d.shown) H
theorem call_rep {X : Cx} {K : PySem.W.Frag} (hK : X.K = K) (hu : X.A.units + 64 < cLine) (hG : FreeA X.A) : CallR X (.builtin "repr") (rRep K) := by
  subst hK
  intro pins s σ H vs us Q I r h
  rcases h with ⟨rfl, q⟩ | ⟨a, d, rfl, hd, h1, h2, h3, h4, q⟩
  · cases r with
    | cons r1 r2 =>
    cases r2
    cases r1
    exact PySem.P.repr_of_none ⟨.str _, H, I.tok _, ⟨_, rfl⟩, q⟩
  rw [Vals.ref1 r]
  obtain ⟨as, rd⟩ := Dp.reads I d _ _ hd (rfl : RelV (.ref a) (.ref a))
  refine repr_of_reads' rd h1 (fun z => by rw [h2] at z; exact nomatch z) hG (by omega) (fun _ _ e => e) (fun h' u tk k => ?_) h4
  exact ⟨.str d.shown, H, I.kept k, ⟨u, rfl⟩, q⟩
end Lk

namespace Lk
open PySem PySem.Spec PyProof.Rows L2
/-! ### data: ==, repr, isinstance -/
theorem hu64 {A : Around} {k : Nat} (hr : Room k A) : A.units + 64 < cLine := by
  have := hr.un
  omega
section
variable {X : Cx} {K : PySem.W.Frag}
theorem eqD_ (h : X.K = K) (hu : X.A.units + 64 < cLine) : OpR X (compareOp .Eq) (rEqD K) := by subst h; exact op_eqD hu
theorem neD_ (h : X.K = K) (hu : X.A.units + 64 < cLine) : OpR X (compareOp .NotEq) (rNeD K) := by subst h; exact op_neD hu
theorem isi_ (h : X.K = K) : CallR X (.builtin "isinstance") (rIsi K) := by subst h; exact call_isi
end
section
variable {K : PySem.W.Frag} {H : Hp} {Q : VK} {x y : V}
theorem a_isi {T U : String} {b : Bool} (ty : TyX K H x (.type T)) (h : kitB T U = some b) (q : Q (.bl b) H) : rIsi K [x, .ty U] H Q := ⟨x, .ty U, .type T, .type U, b, rfl, .ty U, ty, kit_ty h, q⟩
theorem ty_tup {a : Addr} {xs : List V} (h : H a = some (.tup xs)) : TyX K H (.ref a) (.type "tuple") := .base (.tup h)
theorem ty_lst {a : Addr} {xs : List V} (h : H a = some (.lst xs)) : TyX K H (.ref a) (.type "list") := .base (.lst h)
theorem ty_bl {b : Bool} : TyX K H (.bl b) (.type "bool") := .base (.bl b)
theorem ty_int {i : Int} : TyX K H (.int i) (.type "int") := .base (.int i)
theorem kb_tt : kitB "tuple" "tuple" = some true := by decide +kernel
theorem kb_ll : kitB "list" "list" = some true := by decide +kernel
theorem kb_bb : kitB "bool" "bool" = some true := by decide +kernel
theorem kb_ib : kitB "int" "bool" = some false := by decide +kernel
theorem kb_ii : kitB "int" "int" = some true := by decide +kernel
theorem a_eqD {d e : PyData} (h1 : Dp K H x d) (h2 : Dp K H y e) (s1 : SeqAt.shaped d = true) (s2 : SeqAt.shaped e = true) (q : Q (.bl (PyData.eqv d e)) H) : rEqD K x y H Q := ⟨d, e, h1, h2, s1, s2, q⟩
theorem a_neD {d e : PyData} (h1 : Dp K H x d) (h2 : Dp K H y e) (s1 : SeqAt.shaped d = true) (s2 : SeqAt.shaped e = true) (q : Q (.bl (!PyData.eqv d e)) H) : rNeD K x y H Q := ⟨d, e, h1, h2, s1, s2, q⟩
end
/-! ### a comprehension of new objects -/
section
variable {K : PySem.W.Frag} {σ : L2.St} {H : Hp} {Q : VK} {te tl : TE} {vs : List Nat}
theorem c_new {a : Addr} {k : Nat} {xs : List V} (S : Nat → HO → Prop) (hv : vs = [k]) (ht : ∀ R : VK, R (.ref a) H → tl σ H R) (hx : SqL K H a xs) (hz : xs.length ≤ 1000000)
    (he : ∀ (j : Nat) (x : V), xs[j]? = some x → ∀ H' (R : VK), Same H H' → (∀ b H'' o, Same H' H'' → H' b = none → H'' b = some o → S j o → R (.ref b) H'') → te ((wipe σ [k]).set k (some x)) H' R)
    (q : ∀ D H' (as : List Addr), H D = none → Same H H' → as.length = xs.length → H' D = some (.lst (as.map V.ref)) → (∀ (j : Nat) (b : Addr), as[j]? = some b → ∃ o, H' b = some o ∧ S j o) → Q (.ref D) H') : tLc (iList K tl) (gName k) tYes te vs σ H Q := by
  subst hv
  refine ht (fun x H1 => ∃ a, x = .ref a ∧ (∃ xs, SqL K H1 a xs) ∧ _) ⟨a, rfl, ⟨xs, hx⟩, ?_⟩
  intro D hD
  refine lc_list (K := K) (a := a) (xs := xs) (Qd := Q (.ref D)) (fun i H' => Same H H' ∧ i ≤ xs.length ∧ ∃ as : List Addr, as.length = i ∧ H' D = some (.lst (as.map V.ref)) ∧ ∀ (j : Nat) (b : Addr), as[j]? = some b → ∃ o, H' b = some o ∧ S j o ∧ b ≠ D)
    ⟨same_upd hD, Nat.zero_le _, [], rfl, upd_same, fun j b e => by simp at e⟩ (fun i H' _ h => h.1.seq hx) ?_ ?_
  · rintro i x H' hi ⟨s, hil, as, e1, e2, e3⟩
    refine a_gname ?_
    refine ⟨by simp [wipe], a_yes (ift ?_)⟩
    refine he i x hi H' _ s fun b H'' o s2 nb eb sb => ?_
    have hi2 := (List.getElem?_eq_some_iff.mp hi).1
    have nbD : b ≠ D := fun z => by rw [z, e2] at nb; exact nomatch nb
    refine ⟨_, s2 _ _ e2, szl (by rw [List.length_map]; omega), smut (s.trans s2) hD, by omega, as ++ [b], by rw [List.length_append, e1]; rfl, by rw [upd_same, List.map_append]; rfl, fun j c ec => ?_⟩
    by_cases hj : j < as.length
    · rw [List.getElem?_append_left hj] at ec
      obtain ⟨u, h1, h2, h3⟩ := e3 j c ec
      exact ⟨u, by rw [upd_ne h3]; exact s2 _ _ h1, h2, h3⟩
    · have hj2 : j = as.length := by
        have := (List.getElem?_eq_some_iff.mp ec).1
        rw [List.length_append] at this
        have z : [b].length = 1 := rfl
        omega
      subst hj2
      rw [List.getElem?_append_right (Nat.le_refl _), Nat.sub_self] at ec
      obtain rfl : b = c := Option.some.inj ec
      exact ⟨o, by rw [upd_ne nbD]; exact eb, by rw [e1]; exact sb, nbD⟩
  · rintro H' ⟨s, _, as, e1, e2, e3⟩
    refine q D H' as hD s e1 e2 fun j b e => ?_
    obtain ⟨o, h1, h2, _⟩ := e3 j b e
    exact ⟨o, h1, h2⟩
end
/-- lists of ints as data -/
def dInts (l : List Int) : List PyData := l.map PyData.int
theorem dp_ints {K : PySem.W.Frag} {H : Hp} : ∀ l : List Int, DpAll K H (l.map V.int) (dInts l)
  | [] => .nil
  | i :: l => .cons (.int i) (dp_ints l)
theorem dp_lst {K : PySem.W.Frag} {H : Hp} {a : Addr} {l : List Int} (h : H a = some (.lst (l.map V.int))) : Dp K H (.ref a) (.list (dInts l)) := .lst (sql h) (dp_ints l)
/-! ### how long a repr is -/
mutual
def costD : PyData → Nat
  | .none => 5
  | .bool _ => 5
  | .int _ => 42
  | .str x => (reprText x).length
  | .list xs => 2 + costL xs
  | .tuple xs => 3 + costL xs
  | .dict _ => 0
def costL : List PyData → Nat
  | [] => 0
  | x :: xs => (costD x + 2) + costL xs
end
mutual
def tame : PyData → Bool
  | .none => true
  | .bool _ => true
  | .int i => decide (i.natAbs < 10 ^ 38)
  | .str _ => true
  | .list xs => tameL xs
  | .tuple xs => tameL xs
  | .dict _ => false
def tameL : List PyData → Bool
  | [] => true
  | x :: xs => tame x && tameL xs
end
theorem textFrom_le : ∀ (ts : List Str) (k : Nat) (acc : Str), (textFrom k acc ts).length ≤ acc.length + piled ts
  | [], _, acc => Nat.le_add_right _ _
  | t :: r, k, acc => by
    refine Nat.le_trans (textFrom_le r (k + 1) (acc ++ (if k > 0 then ", " else "" : String) ++ t)) ?_
    rw [strLen_append, strLen_append, piled_cons]
    have : (Str.ofString (if k > 0 then ", " else "" : String)).length ≤ 2 := by split <;> decide
    omega
theorem listText_le (ts : List Str) : (listText ts).length ≤ 2 + piled ts := by
  unfold listText
  rw [strLen_append]
  have h := textFrom_le ts 0 "["
  have e1 : (("[" : String) : Str).length = 1 := rfl
  have e2 : (("]" : String) : Str).length = 1 := rfl
  rw [e1] at h
  rw [e2]
  omega
theorem join_le : ∀ ts : List Str, (Str.join ", " ts).length ≤ piled ts := fun ts => by
  cases ts with
  | nil => exact Nat.zero_le _
  | cons t r =>
    have := join_length_add (t :: r) nofun
    omega
theorem tupleText_le (ts : List Str) : (tupleText ts).length ≤ 3 + piled ts := by
  unfold tupleText
  rw [strLen_append, strLen_append]
  have h := join_le ts
  have e1 : (("(" : String) : Str).length = 1 := rfl
  have e2 : (Str.ofString (if ts.length == 1 then ",)" else ")" : String)).length ≤ 2 := by split <;> decide
  rw [e1]
  omega
mutual
theorem shown_le : ∀ d : PyData, tame d = true → d.shown.length ≤ costD d ∧ d.showable = true ∧ d.hasDict = false
  | .none, _ => ⟨by decide, by simp only [PyData.showable], by simp only [PyData.hasDict]⟩
  | .bool b, _ => ⟨by cases b <;> decide, by simp only [PyData.showable], by simp only [PyData.hasDict]⟩
  | .int i, h => by
    unfold tame at h
    have h' : i.natAbs < 10 ^ 38 := of_decide_eq_true h
    refine ⟨?_, ?_, by simp only [PyData.hasDict]⟩
    · have e := int_text_length_le10 (k := 38) (by decide) h'
      show (Str.ofString (toString i)).length ≤ 42
      rw [PySem.ofString_length]
      omega
    · unfold PyData.showable
      refine decide_eq_true ?_
      by_cases h0 : i.natAbs = 0
      · rw [h0]
        decide
      · have h3 : (10 : Nat) ^ 38 ≤ 2 ^ 1920 := by decide +kernel
        exact (Nat.log2_lt h0).mpr (by omega)
  | .str x, _ => ⟨by unfold PyData.shown costD; exact Nat.le_refl _, by simp only [PyData.showable], by simp only [PyData.hasDict]⟩
  | .list xs, h => by
    unfold tame at h
    obtain ⟨h1, h2, h3⟩ := shownL_le xs h
    refine ⟨?_, by unfold PyData.showable; exact h2, by unfold PyData.hasDict; exact h3⟩
    unfold PyData.shown costD
    have := listText_le (PyData.shownAll xs)
    omega
  | .tuple xs, h => by
    unfold tame at h
    obtain ⟨h1, h2, h3⟩ := shownL_le xs h
    refine ⟨?_, by unfold PyData.showable; exact h2, by unfold PyData.hasDict; exact h3⟩
    unfold PyData.shown costD
    have := tupleText_le (PyData.shownAll xs)
    omega
  | .dict _, h => by
    unfold tame at h
    exact nomatch h
theorem shownL_le : ∀ xs : List PyData, tameL xs = true → piled (PyData.shownAll xs) ≤ costL xs ∧ PyData.showableAll xs = true ∧ PyData.hasDictAll xs = false
  | [], _ => ⟨Nat.zero_le _, by unfold PyData.showableAll; rfl, by unfold PyData.hasDictAll; rfl⟩
  | x :: xs, h => by
    unfold tameL at h
    obtain ⟨a, b⟩ := Bool.and_eq_true_iff.mp h
    obtain ⟨h1, h2, h3⟩ := shown_le x a
    obtain ⟨g1, g2, g3⟩ := shownL_le xs b
    refine ⟨?_, ?_, ?_⟩
    · unfold PyData.shownAll costL
      rw [piled_cons]
      omega
    · unfold PyData.showableAll
      rw [h2, g2]
      rfl
    · unfold PyData.hasDictAll
      rw [h3, g3]
      rfl
end
theorem a_rep {K : PySem.W.Frag} {H : Hp} {Q : VK} {a : Addr} {d : PyData} (h : Dp K H (.ref a) d) (ht : tame d = true) (hc : costD d ≤ 1000000) (hd : d.depth ≤ 20) (q : Q (.str d.shown) H) : rRep K [.ref a] H Q := by
  obtain ⟨h1, h2, h3⟩ := shown_le d ht
  exact .inr ⟨a, d, rfl, h, h2, h3, hd, sz (by omega), q⟩
theorem a_repV {K : PySem.W.Frag} {H : Hp} {Q : VK} {v : V} {d : PyData} (h : Dp K H v d) (hr : d = .none ∨ ∃ a, v = .ref a) (ht : tame d = true) (hc : costD d ≤ 1000000) (hd : d.depth ≤ 20) (q : Q (.str d.shown) H) : rRep K [v] H Q := by
  rcases hr with rfl | ⟨a, rfl⟩
  · cases h
    exact .inl ⟨rfl, q⟩
  · exact a_rep h ht hc hd q
theorem costL_ints : ∀ l : List Int, costL (dInts l) = 44 * l.length
  | [] => rfl
  | i :: l => by
    unfold dInts
    rw [List.map_cons]
    unfold costL costD
    have e := costL_ints l
    unfold dInts at e
    rw [e, List.length_cons]
    omega
theorem tameL_ints {lo hi : Int} (h1 : -1000000000000 ≤ lo) (h2 : hi ≤ 1000000000000) : ∀ l : List Int, In lo hi l → tameL (dInts l) = true
  | [], _ => rfl
  | i :: l, h => by
    unfold dInts
    rw [List.map_cons]
    unfold tameL tame
    have e := tameL_ints h1 h2 l fun x hx => h x (List.mem_cons_of_mem _ hx)
    unfold dInts at e
    have b := h i List.mem_cons_self
    have b2 : i.natAbs < 10 ^ 38 := by
      have z : (10 : Nat) ^ 38 = 100000000000000000000000000000000000000 := by decide +kernel
      omega
    rw [e, decide_eq_true b2]
    rfl
mutual
theorem eqv_self : ∀ d : PyData, d.hasDict = false → PyData.eqv d d = true
  | .none, _ => by unfold PyData.eqv; rfl
  | .bool b, _ => by unfold PyData.eqv; exact beq_self_eq_true b
  | .int i, _ => by unfold PyData.eqv; exact beq_self_eq_true i
  | .str x, _ => by unfold PyData.eqv; exact beq_self_eq_true x
  | .list xs, h => by
    unfold PyData.eqv
    exact eqvL_self xs (by unfold PyData.hasDict at h; exact h)
  | .tuple xs, h => by
    unfold PyData.eqv
    exact eqvL_self xs (by unfold PyData.hasDict at h; exact h)
  | .dict _, h => by
    unfold PyData.hasDict at h
    exact nomatch h
theorem eqvL_self : ∀ xs : List PyData, PyData.hasDictAll xs = false → PyData.eqvAll xs xs = true
  | [], _ => by unfold PyData.eqvAll; rfl
  | x :: xs, h => by
    unfold PyData.hasDictAll at h
    obtain ⟨a, b⟩ := Bool.or_eq_false_iff.mp h
    unfold PyData.eqvAll
    rw [eqv_self x a, eqvL_self xs b]
    rfl
end
mutual
def flatTo : Nat → PyData → Bool
  | _, .none => true
  | _, .bool _ => true
  | _, .int _ => true
  | n + 1, .list xs => flatToL n xs
  | n + 1, .tuple xs => flatToL n xs
  | _, .str x => (PyData.str x).canLay0
  | _, _ => false
def flatToL : Nat → List PyData → Bool
  | _, [] => true
  | n, x :: xs => flatTo n x && flatToL n xs
end
mutual
theorem flat_ok : ∀ (n : Nat) (d : PyData), flatTo n d = true → d.canLay0 = true ∧ d.depth ≤ n ∧ d.hasDict = false
  | _, .none, _ => ⟨by unfold PyData.canLay0; rfl, by unfold PyData.depth; omega, by unfold PyData.hasDict; rfl⟩
  | _, .bool _, _ => ⟨by unfold PyData.canLay0; rfl, by unfold PyData.depth; omega, by unfold PyData.hasDict; rfl⟩
  | _, .int _, _ => ⟨by unfold PyData.canLay0; rfl, by unfold PyData.depth; omega, by unfold PyData.hasDict; rfl⟩
  | n + 1, .list xs, h => by
    unfold flatTo at h
    obtain ⟨a, b, c⟩ := flatL_ok n xs h
    exact ⟨by unfold PyData.canLay0; exact a, by unfold PyData.depth; omega, by unfold PyData.hasDict; exact c⟩
  | n + 1, .tuple xs, h => by
    unfold flatTo at h
    obtain ⟨a, b, c⟩ := flatL_ok n xs h
    exact ⟨by unfold PyData.canLay0; exact a, by unfold PyData.depth; omega, by unfold PyData.hasDict; exact c⟩
  | 0, .list _, h => by unfold flatTo at h; exact nomatch h
  | 0, .tuple _, h => by unfold flatTo at h; exact nomatch h
  | _, .str _, h => ⟨by unfold flatTo at h; exact h, by unfold PyData.depth; omega, by unfold PyData.hasDict; rfl⟩
  | _, .dict _, h => by unfold flatTo at h; exact nomatch h
theorem flatL_ok : ∀ (n : Nat) (xs : List PyData), flatToL n xs = true → PyData.canLayAll0 xs = true ∧ PyData.depthAll xs ≤ n ∧ PyData.hasDictAll xs = false
  | _, [], _ => ⟨by unfold PyData.canLayAll0; rfl, by unfold PyData.depthAll; omega, by unfold PyData.hasDictAll; rfl⟩
  | n, x :: xs, h => by
    unfold flatToL at h
    obtain ⟨a, b⟩ := Bool.and_eq_true_iff.mp h
    obtain ⟨h1, h2, h3⟩ := flat_ok n x a
    obtain ⟨g1, g2, g3⟩ := flatL_ok n xs b
    refine ⟨by unfold PyData.canLayAll0; rw [h1, g1]; rfl, by unfold PyData.depthAll; exact Nat.max_le.mpr ⟨h2, g2⟩, by unfold PyData.hasDictAll; rw [h3, g3]; rfl⟩
end
theorem shaped_flat {n : Nat} {d : PyData} (h : flatTo n d = true) (hn : n ≤ 64) : SeqAt.shaped d = true := by
  obtain ⟨a, b, _⟩ := flat_ok n d h
  unfold SeqAt.shaped
  rw [a, decide_eq_true (by omega)]
  rfl
theorem flatL_ints (n : Nat) : ∀ l : List Int, flatToL n (dInts l) = true
  | [] => by unfold dInts; rw [List.map_nil]; unfold flatToL; rfl
  | i :: l => by
    unfold dInts
    rw [List.map_cons]
    unfold flatToL
    have e := flatL_ints n l
    unfold dInts at e
    rw [e]
    cases n <;> (unfold flatTo; rfl)
theorem depthL_ints : ∀ l : List Int, PyData.depthAll (dInts l) = 0
  | [] => by unfold dInts; rw [List.map_nil]; unfold PyData.depthAll; rfl
  | i :: l => by
    unfold dInts
    rw [List.map_cons]
    unfold PyData.depthAll
    have e := depthL_ints l
    unfold dInts at e
    rw [e]
    unfold PyData.depth
    rfl
theorem depth_ints (l : List Int) : PyData.depth (.list (dInts l)) = 1 := by
  unfold PyData.depth
  rw [depthL_ints]
end Lk

/-! ### slices with a step -/
namespace Lk
open PySem PySem.Spec PyProof.Rows L2
def pickV (xs : List V) (lo hi st : Option Int) : List V :=
  (sliceRange (sliceBounds lo hi st xs.length).1 (sliceBounds lo hi st xs.length).2.1 (sliceBounds lo hi st xs.length).2.2).filterMap (xs[·]?)
theorem vals_at {xs : List V} : ∀ {us : List Value}, Vals xs us → ∀ i : Nat, (xs[i]? = none ∧ us[i]? = none) ∨ ∃ x u, xs[i]? = some x ∧ us[i]? = some u ∧ RelV x u := by
  induction xs with
  | nil => intro us r i; cases r; exact .inl ⟨by simp, by simp⟩
  | cons x xs ih =>
    intro us r i
    cases r with
    | cons r1 r2 =>
      cases i with
      | zero => exact .inr ⟨_, _, rfl, rfl, r1⟩
      | succ i =>
        simp only [List.getElem?_cons_succ]
        exact ih r2 i
theorem vals_pick {xs : List V} {us : List Value} (r : Vals xs us) : ∀ is : List Nat, Vals (is.filterMap (xs[·]?)) (is.filterMap (us.toArray[·]?))
  | [] => .nil
  | i :: is => by
    have ih := vals_pick r is
    rw [List.filterMap_cons, List.filterMap_cons]
    simp only [List.getElem?_toArray] at ih ⊢
    rcases vals_at r i with ⟨h1, h2⟩ | ⟨x, u, h1, h2, h3⟩
    · rw [h1, h2]
      exact ih
    · rw [h1, h2]
      exact .cons h3 ih
theorem pickV_length (xs : List V) (us : List Value) (r : Vals xs us) (lo hi st : Option Int) : (pickV xs lo hi st).length = (slicePick us.toArray lo hi st).size := by
  have hl := r.length
  have := (vals_pick r (sliceRange (sliceBounds lo hi st xs.length).1 (sliceBounds lo hi st xs.length).2.1 (sliceBounds lo hi st xs.length).2.2)).length
  unfold pickV slicePick
  rw [List.size_toArray, List.size_toArray, this, hl]
section
variable {X : Cx} {e : Expr} {te : TE} {lo hi : Option Expr} {tl th : TO} {pos p2 : Pos} {st : Expr} {ts : TO}
def tSl3 (K : PySem.W.Frag) (te : TE) (tl th ts : TO) : TE := fun σ H Q => te σ H fun x H1 => tl σ H1 fun l H2 => th σ H2 fun u H3 => ts σ H3 fun z H4 =>
  ∃ a xs, x = .ref a ∧ SqL K H4 a xs ∧ z ≠ some 0 ∧ (pickV xs l u z).length ≤ sizeLine ∧ ∀ p, H4 p = none → Q (.ref p) (upd H4 p (.lst (pickV xs l u z)))
theorem pe_slice3 (he : PE X e te) (hl : PO X lo tl) (hu : PO X hi th) (hs : PO X (some st) ts) : PE X (.Subscript e (.Slice lo hi (some st) p2) pos) (tSl3 X.K te tl th ts) := by
  refine ⟨fun pins s σ H Q I h => ?_⟩
  refine Subscript_ (thn (he.run pins s σ H _ I h) fun v s1 ⟨x, H1, I1, r1, q1⟩ => ?_)
  refine wpAny_Slice (thn (hl.run pins s1 σ H1 _ I1 q1) fun vl s2 ⟨l, H2, I2, pl, q2⟩ => thn (hu.run pins s2 σ H2 _ I2 q2) fun vu s3 ⟨u, H3, I3, pu, q3⟩ => thn (hs.run pins s3 σ H3 _ I3 q3) fun vs s4 ⟨z, H4, I4, ps, q4⟩ => ?_)
  obtain ⟨a, xs, rfl, hx, hz0, hlen0, q⟩ := q4
  have I5 : Inv X pins σ H4 { s4 with heap := s4.heap.push { cls := .type "slice", data := .fields #[vl, vu, vs] } } := I4.kept (t' := s4.toks) fun b ob q => Heap.get?_push_of_some _ q
  cases r1
  obtain ⟨its, r, ht, hz⟩ := I5.list hx
  have hlen := r.length
  show wpAny (model X.prog X.w) X.A (subscriptTail e (.Slice lo hi (some st) p2) (.ref a) (.ref s4.heap.objs.size)) (EP X pins σ Q) X.xe { s4 with heap := s4.heap.push { cls := .type "slice", data := .fields #[vl, vu, vs] } }
  refine tail_any (ops := [.ref a, .ref s4.heap.objs.size]) ht.isList.typeIs slot_list_getitem.lookup ?_ (by with_unfolding_all rfl)
  refine wpAny_getItem_list_slice ht.isList (Heap.IsSliceOf.new ..) pl pu ps hz0 ?_ (by rw [List.size_toArray] <;> omega)
  have e : (slicePick its.toArray l u z) = ((sliceRange (sliceBounds l u z xs.length).1 (sliceBounds l u z xs.length).2.1 (sliceBounds l u z xs.length).2.2).filterMap (its.toArray[·]?)).toArray := by
    unfold slicePick
    rw [List.size_toArray, hlen]
  have rp := vals_pick r (sliceRange (sliceBounds l u z xs.length).1 (sliceBounds l u z xs.length).2.1 (sliceBounds l u z xs.length).2.2)
  rw [e]
  refine ⟨.ref (s4.heap.push { cls := .type "slice", data := .fields #[vl, vu, vs] }).objs.size, _, I5.laid (t' := s4.toks) (o := .lst (pickV xs l u z)) (fun b ob q => Heap.get?_push_of_some _ q) (Nat.le_refl _) ?_, rfl, q _ (I5.hok.fresh (Nat.le_refl _))⟩
  exact ⟨hlen0, _, 0, rp, Heap.get?_push_size _ rfl⟩
end
/-! ### the maths of it -/
theorem range_two (a n : Nat) : sliceRange (a : Int) (n : Int) 2 = (List.range ((n - a + 1) / 2)).map (fun k => a + 2 * k) := by
  unfold sliceRange
  by_cases h : (a : Int) < n
  · have e : ((n : Int) - a + 2 - 1) / 2 = (((n - a + 1) / 2 : Nat) : Int) := by omega
    simp only [show (2 : Int) > 0 by decide, if_true, h, e, Int.toNat_natCast]
    apply List.map_congr_left
    intro k _
    omega
  · have e : (n - a + 1) / 2 = 0 := by omega
    simp [h, e]
theorem bounds_ev (n : Nat) : sliceBounds none none (some 2) n = (((0 : Nat) : Int), (n : Int), 2) := by simp [sliceBounds]
theorem bounds_od (n : Nat) : sliceBounds (some 1) none (some 2) n = (((min 1 n : Nat) : Int), (n : Int), 2) := by
  simp [sliceBounds] <;> omega
theorem fm_some {α β : Type} (f : α → Option β) : ∀ (l : List α) (g : α → β), (∀ x ∈ l, f x = some (g x)) → l.filterMap f = l.map g
  | [], _, _ => rfl
  | x :: r, g, h => by
    rw [List.filterMap_cons, h x (List.mem_cons_self ..), fm_some f r g fun y hy => h y (List.mem_cons_of_mem _ hy)]
    rfl
/-- xs[::2] -/
theorem pick_ev (g : Nat → V) (m : Nat) : pickV ((List.range (2 * m)).map g) none none (some 2) = (List.range m).map fun k => g (2 * k) := by
  unfold pickV
  rw [List.length_map, List.length_range, bounds_ev, range_two]
  have e : (2 * m - 0 + 1) / 2 = m := by omega
  rw [e, List.filterMap_map]
  refine fm_some _ _ _ fun k hk => ?_
  have := List.mem_range.1 hk
  show ((List.range (2 * m)).map g)[0 + 2 * k]? = _
  rw [List.getElem?_map, List.getElem?_range (by omega)]
  simp
/-- xs[1::2] -/
theorem pick_od (g : Nat → V) (m : Nat) : pickV ((List.range (2 * m)).map g) (some 1) none (some 2) = (List.range m).map fun k => g (2 * k + 1) := by
  unfold pickV
  rw [List.length_map, List.length_range, bounds_od, range_two]
  have e : (2 * m - min 1 (2 * m) + 1) / 2 = m := by omega
  rw [e, List.filterMap_map]
  refine fm_some _ _ _ fun k hk => ?_
  have := List.mem_range.1 hk
  show ((List.range (2 * m)).map g)[min 1 (2 * m) + 2 * k]? = _
  rw [List.getElem?_map, List.getElem?_range (by omega)]
  simp [show min 1 (2 * m) + 2 * k = 2 * k + 1 by omega]
end Lk

namespace Lk
open PySem PySem.Spec PyProof.Rows L2
/-! ### sum, max of a list, K named -/
theorem sumK_ {X : Cx} {K : PySem.W.Frag} (h : X.K = K) (hc : X.calm = true) : CallR X (.builtin "sum") (rSum K) := by subst h; exact cr_sum hc
theorem sl3K_ {X : Cx} {K : PySem.W.Frag} {e : Expr} {te : TE} {tl th ts : TO} (h : X.K = K) (hl : PE X e (tSl3 X.K te tl th ts)) : PE X e (tSl3 K te tl th ts) := by subst h; exact hl
section
variable {K : PySem.W.Frag} {σ : L2.St} {H : Hp} {Q : VK} {te : TE} {tl th ts : TO} {x : V} {j : Int}
theorem a_sl3 (q : te σ H fun x H1 => tl σ H1 fun l H2 => th σ H2 fun u H3 => ts σ H3 fun z H4 =>
    ∃ a xs, x = .ref a ∧ SqL K H4 a xs ∧ z ≠ some 0 ∧ (pickV xs l u z).length ≤ sizeLine ∧ ∀ p, H4 p = none → Q (.ref p) (upd H4 p (.lst (pickV xs l u z)))) : tSl3 K te tl th ts σ H Q := q
theorem a_sl {r : V → Option Int → Option Int → Hp → VK → Prop} (q : te σ H fun x H1 => tl σ H1 fun l H2 => th σ H2 fun u H3 => r x l u H3 Q) : tSl r te tl th σ H Q := q
theorem a_part {R : Option Int → Hp → Prop} (q : te σ H fun x H1 => ∃ i, x = .int i ∧ R (some i) H1) : tPart te σ H R := q
theorem a_nopart {R : Option Int → Hp → Prop} (q : R none H) : tNoPart σ H R := q
theorem a_exi {P : Int → Prop} (q : P j) : ∃ i, V.int j = V.int i ∧ P i := ⟨j, rfl, q⟩
theorem a_andV {ta tb : TE} (q : ta σ H fun x H1 => ∃ c, x = .bl c ∧ if c = true then tb σ H1 Q else Q (.bl false) H1) : tAndV ta tb σ H Q := q
theorem a_orV {ta tb : TE} (q : ta σ H fun x H1 => ∃ c, x = .bl c ∧ if c = true then Q (.bl true) H1 else tb σ H1 Q) : tOrV ta tb σ H Q := q
theorem a_notV {ta : TE} (q : ta σ H fun x H1 => ∃ c, x = .bl c ∧ Q (.bl (!c)) H1) : tNotV ta σ H Q := q
theorem a_chain {r r' : R2} {ta tb tc : TE} (q : ta σ H fun x H1 => tb σ H1 fun y H2 => r x y H2 fun z H3 => ∃ k, z = .bl k ∧ (if k = true then tc σ H3 fun w' H4 => r' y w' H4 Q else Q (.bl false) H3)) : tChain r r' ta tb tc σ H Q := q
theorem a_slL {a : Addr} {xs : List V} {lo hi : Option Int} (h : SqL K H a xs) (q : ∀ p, H p = none → Q (.ref p) (upd H p (.lst (cutV xs lo hi)))) : rSlL K (.ref a) lo hi H Q := ⟨a, xs, rfl, h, q⟩
theorem a_sum {a : Addr} {ns : List Int} (h : SqL K H a (ns.map V.int)) (q : Q (.int ns.sum) H) : rSum K [.ref a] H Q := ⟨a, ns, rfl, h, q⟩
end
/-! ### comprehensions over zip, and over a range with a test -/
theorem wipe2 {σ : L2.St} {k1 k2 : Nat} (h : k1 ≠ k2) {x y : Option V} : wipe (((wipe σ [k1, k2]).set k1 x).set k2 y) [k1, k2] = wipe σ [k1, k2] := by
  simp only [wipe]
  refine List.ext_getElem? fun i => ?_
  simp only [List.getElem?_set, List.length_set]
  by_cases h1 : k1 = i
  · subst h1; simp
  · by_cases h2 : k2 = i
    · subst h2; simp [h1]
    · simp [h1, h2]
theorem wipe1 {σ : L2.St} {k : Nat} {x : Option V} : wipe ((wipe σ [k]).set k x) [k] = wipe σ [k] := by simp [wipe]
section
variable {K : PySem.W.Frag} {σ : L2.St} {H : Hp} {Q : VK} {te tl : TE} {tt : TT} {ta : TA} {vs : List Nat}
theorem c_zip {k1 k2 : Nat} {xs ys : List V} (zs : List V) (hv : vs = [k1, k2]) (hk : k1 ≠ k2) (ht : ∀ R : List V → Hp → Prop, (∀ a b H', Same H H' → SqL K H' a xs → SqL K H' b ys → R [.ref a, .ref b] H') → ta σ H R)
    (hlen : zs.length = min xs.length ys.length) (hz : zs.length ≤ 1000000)
    (he : ∀ (j : Nat) (x y : V), xs[j]? = some x → ys[j]? = some y → ∀ H' (R : VK), Same H H' → (∀ z H'', Same H' H'' → zs[j]? = some z → R z H'') → te (((wipe σ [k1, k2]).set k1 (some x)).set k2 (some y)) H' R)
    (q : ∀ D H', H D = none → Same H H' → H' D = some (.lst zs) → Q (.ref D) H') : tLc (iZip K ta) (gTup K 2 (gCons (gName k1) (gCons (gName k2) gNil))) tYes te vs σ H Q := by
  subst hv
  refine ht (fun vs H1 => ∃ a b xs ys, vs = [.ref a, .ref b] ∧ SqL K H1 a xs ∧ SqL K H1 b ys ∧ _) fun a b H1 s1 hx hy => ⟨a, b, xs, ys, rfl, hx, hy, ?_⟩
  intro D hD
  refine lc_it (walk_zip (K := K) (a := a) (b := b) (xs := xs) (ys := ys) hlen) (Qd := Q (.ref D)) (fun i H' => Same H1 H' ∧ H' D = some (.lst (zs.take i))) ⟨same_upd hD, upd_same⟩ (fun i H' _ h => ⟨h.1.seq hx, h.1.seq hy⟩) ?_ ?_
  · rintro i v H' H'' hi ⟨s, e⟩ ⟨T, x, y, rfl, nT, rfl, ex, ey⟩
    refine a_gtup upd_same rfl (a_gcons (a_gname (a_gcons (a_gname (a_gnil ⟨wipe2 hk, a_yes (ift ?_)⟩)))))
    have sT := s.trans (same_upd (o := .tup [x, y]) nT)
    refine he i x y ex ey _ _ (s1.trans sT) fun z H3 s3 ez => ?_
    refine ⟨_, s3 _ _ (same_upd nT _ _ e), ?_, smut (sT.trans s3) hD, ?_⟩
    · refine szl ?_
      rw [List.length_take]
      omega
    · rw [upd_same, take_app ez]
  · rintro H' ⟨s, e⟩
    refine q D H' (s1.free hD) (s1.trans s) ?_
    rw [e, List.take_length]
/-- over a range, with a test -/
theorem c_rngF {k n : Nat} (f : Nat → Bool) (g : Nat → V) (hv : vs = [k]) (hn : n ≤ 1000000) (ht : ∀ R : List V → Hp → Prop, R [.int (n : Int)] H → ta σ H R)
    (hc : ∀ j : Nat, j < n → ∀ H' (R : Bool → Hp → Prop), Same H H' → R (f j) H' → tt ((wipe σ [k]).set k (some (.int (j : Int)))) H' R)
    (he : ∀ j : Nat, j < n → f j = true → ∀ H' (R : VK), Same H H' → R (g j) H' → te ((wipe σ [k]).set k (some (.int (j : Int)))) H' R)
    (q : ∀ D H', H D = none → Same H H' → H' D = some (.lst (((List.range n).filter f).map g)) → Q (.ref D) H') : tLc (iRng1 ta) (gName k) tt te vs σ H Q := by
  subst hv
  refine ht (fun vs H1 => ∃ j : Int, vs = [.int j] ∧ -(2 ^ 62) ≤ j ∧ j < 2 ^ 62 ∧ _) ⟨(n : Int), rfl, by omega, by omega, ?_⟩
  rw [Int.toNat_natCast]
  intro D hD
  refine lc_range (lo := 0) (n := n) (Qd := Q (.ref D)) (fun i H' => Same H H' ∧ i ≤ n ∧ H' D = some (.lst (((List.range i).filter f).map g))) ⟨same_upd hD, Nat.zero_le _, upd_same⟩ ?_ ?_
  · rintro i H' hi ⟨s, _, e⟩
    refine a_gname ⟨wipe1, ?_⟩
    rw [Int.zero_add]
    refine hc i hi H' _ s ?_
    cases hf : f i with
    | true =>
      refine ift (he i hi hf H' _ s ?_)
      refine ⟨_, e, ?_, smut s hD, hi, ?_⟩
      · refine szl ?_
        rw [List.length_map]
        refine Nat.le_trans (List.length_filter_le _ _) ?_
        rw [List.length_range]
        omega
      · rw [upd_same, List.range_succ, List.filter_append, List.map_append]
        simp [List.filter, hf]
    | false =>
      refine iff' ⟨s, hi, ?_⟩
      rw [e, List.range_succ, List.filter_append]
      simp [List.filter, hf]
  · rintro H' ⟨s, _, e⟩
    exact q D H' hD s e
end
theorem evens_eq (T : List Int) (m : Nat) (h : T.length = 2 * m) : pickV (T.map V.int) none none (some 2) = ((List.range m).map fun k => V.int (T.getD (2 * k) 0)) := by
  have e : T.map V.int = (List.range (2 * m)).map fun k => V.int (T.getD k 0) := by
    refine List.ext_getElem? fun i => ?_
    rw [List.getElem?_map, List.getElem?_map]
    by_cases hi : i < 2 * m
    · rw [List.getElem?_range hi, List.getElem?_eq_getElem (by omega)]
      simp [List.getD_eq_getElem?_getD, List.getElem?_eq_getElem (show i < T.length by omega)]
    · rw [List.getElem?_eq_none (by omega), List.getElem?_eq_none (by rw [List.length_range]; omega)]
      rfl
  rw [e, pick_ev]
theorem odds_eq (T : List Int) (m : Nat) (h : T.length = 2 * m) : pickV (T.map V.int) (some 1) none (some 2) = ((List.range m).map fun k => V.int (T.getD (2 * k + 1) 0)) := by
  have e : T.map V.int = (List.range (2 * m)).map fun k => V.int (T.getD k 0) := by
    refine List.ext_getElem? fun i => ?_
    rw [List.getElem?_map, List.getElem?_map]
    by_cases hi : i < 2 * m
    · rw [List.getElem?_range hi, List.getElem?_eq_getElem (by omega)]
      simp [List.getD_eq_getElem?_getD, List.getElem?_eq_getElem (show i < T.length by omega)]
    · rw [List.getElem?_eq_none (by omega), List.getElem?_eq_none (by rw [List.length_range]; omega)]
      rfl
  rw [e, pick_od]
theorem cut1 (x : V) (xs : List V) : cutV (x :: xs) (some 1) none = xs := by
  unfold cutV
  have h1 : HT.sIx (x :: xs).length 0 (some 1) = 1 := by
    show (if (1 : Int) < 0 then ((1 : Int) + ((x :: xs).length : Int)).toNat else min (1 : Int).toNat (x :: xs).length) = 1
    rw [if_neg (by decide), List.length_cons]
    show min 1 (xs.length + 1) = 1
    omega
  have h2 : HT.sIx (x :: xs).length (x :: xs).length none = (x :: xs).length := rfl
  rw [h1, h2, List.drop_one, List.tail_cons, List.length_cons]
  exact List.take_of_length_le (by omega)
theorem sum_range (f : Nat → Int) : ∀ n, ((List.range n).map f).sum = (List.range n).foldl (fun acc k => acc + f k) 0
  | 0 => rfl
  | n + 1 => by
    rw [List.range_succ, List.map_append, List.sum_append, sum_range f n, List.foldl_append]
    simp
theorem getRg {α : Type} {f : Nat → α} {m j : Nat} {x : α} (h : ((List.range m).map f)[j]? = some x) : j < m ∧ x = f j := by
  rw [List.getElem?_map] at h
  by_cases hj : j < m
  · rw [List.getElem?_range hj] at h
    exact ⟨hj, (Option.some.inj h).symm⟩
  · rw [List.getElem?_eq_none (by rw [List.length_range]; omega)] at h
    cases h
theorem rg_at {α : Type} {f : Nat → α} {m j : Nat} (h : j < m) : ((List.range m).map f)[j]? = some (f j) := by
  rw [List.getElem?_map, List.getElem?_range h]
  rfl
theorem flat1 (l : List Int) : flatTo 1 (.list (dInts l)) = true := by
  unfold flatTo
  exact flatL_ints 0 _
theorem neL_same {K : PySem.W.Frag} {H : Hp} {Q : VK} {a b : Addr} {l : List Int} (ha : H a = some (.lst (l.map V.int))) (hb : H b = some (.lst (l.map V.int))) (q : Q (.bl false) H) : rNeD K (.ref a) (.ref b) H Q := by
  refine a_neD (dp_lst ha) (dp_lst hb) (shaped_flat (flat1 l) (by decide)) (shaped_flat (flat1 l) (by decide)) ?_
  rw [eqv_self _ (flat_ok 1 _ (flat1 l)).2.2]
  exact q
theorem eqL_same {K : PySem.W.Frag} {H : Hp} {Q : VK} {a b : Addr} {l : List Int} (ha : H a = some (.lst (l.map V.int))) (hb : H b = some (.lst (l.map V.int))) (q : Q (.bl true) H) : rEqD K (.ref a) (.ref b) H Q := by
  refine a_eqD (dp_lst ha) (dp_lst hb) (shaped_flat (flat1 l) (by decide)) (shaped_flat (flat1 l) (by decide)) ?_
  rw [eqv_self _ (flat_ok 1 _ (flat1 l)).2.2]
  exact q
end Lk

/-! ### an own error whose __init__ calls super().__init__(..) and keeps one field -/
namespace PySem
namespace LkX
open PySem.W PySem.Calls PyProof.Rows PySem.HandSPX
def eArgs (par : Str) (p1 p2 : Pos) : Arguments := { posonlyargs := [], args := [{ arg := "self", annotation := none, pos := p1 }, { arg := par, annotation := none, pos := p2 }], vararg := none, kwonlyargs := [], kw_defaults := [], kwarg := none, defaults := [] }
def eBody (par : Str) (msg : Expr) (a1 a2 a3 a4 a5 q1 q2 q3 q4 : Pos) : List Stmt :=
  [.Expr (.Call (.Attribute (.Call (.Name "super" a1) [] [] a2) "__init__" a3) [msg] [] a4) a5, .Assign [.Attribute (.Name "self" q1) par q2] (.Name par q3) q4]
/-- what the written part says of such a class, at C, and of its __init__, at fI; cc its cell, cda its code -/
structure XcTxt (prog : Program) (K : Frag) (C fI cc cda : Addr) (qual par : Str) (scope : Scope) (msg : Expr) : Prop where
  cls : ∃ nm q N bs bm sn sub ab col dd k0 k1 k2 k3 k5, K.lookup C = some (excClassObj nm q C N bs bm true sn sub ab col dd k0 k1 k2 k3 k5 "ValueError.__new__") ∧ refsVE bm = true
  sa : findIn K (.ref C) "__setattr__" = some (some (.builtin "object.__setattr__"))
  iC : findIn K (.ref C) "__init__" = some (some (.ref fI))
  tC : typeIn K (.ref fI) = some (.type "function")
  noN : findIn K (.ref C) par = some none
  fn : ∃ (oc : Value) (od : Option Addr) (doc pm : Value) (an : Option Addr) (ct : Value) (osl : Array (Option Value)) (p1 p2 a1 a2 a3 a4 a5 q1 q2 q3 q4 : Pos),
    K.lookup fI = some ⟨oc, od, .func (ksFn "__init__" qual (eArgs par p1 p2) (eBody par msg a1 a2 a3 a4 a5 q1 q2 q3 q4) scope .none .none doc pm an (.ref cda) ct cc), osl⟩ ∧ (a3.endLine == a4.line) = true
  cd : codeIn K (.ref cda) qual = true
  code : ∃ (ccl : Value) (cdd : Option Addr) (vs : Array Value) (ccs : Array (Option Value)) (file : Str) (tf : Tok), K.lookup cda = some ⟨ccl, cdd, .fields vs, ccs⟩ ∧ vs[2]? = some (.str file tf) ∧ ((prog.main.file : Str) == file) = true
  cell : ∃ (cl : Value) (cld : Option Addr) (csl : Array (Option Value)), K.lookup cc = some ⟨cl, cld, .cell (some (.ref C)), csl⟩
  sup : nsIn K mainGlobals "super" = some none
  opq : nsIn K cStatics "thirdparty.any" = some none
  self : mroIn K C (.ref C) = some true
  sin : ks_superIn K C C "__init__" = some (some (.builtin "ValueError.__init__"))
  sub : subIn K (.ref C) (.type "ValueError") = some true
  top : (prog.main.scope.names.lookup ("super" : Str)).isSome = false
/-- the scope of __init__ -/
structure XcScope (scope : Scope) (par : Str) : Prop where
  kind : scope.kind = .function
  co : scope.isCoroutine = false
  gen : scope.isGenerator = false
  nocell : ∀ x ∈ scope.names, x.2 ≠ .cell
  sup : scope.names.lookup ("super" : Str) = some .globalImplicit
  cls : scope.names.lookup ("__class__" : Str) = some .free
  slf : scope.names.lookup ("self" : Str) = some .local
  prm : scope.names.lookup par = some .local
  ne : par ≠ "self"
  dbg : (par == ("__debug__" : Str)) = false
section
variable {prog : Program} {w : World} {A : Around} {E : Value → Shared → Prop} {R : Result → Shared → Prop} {s : Shared} {K : Frag} {mg mb : Str → Option Value} {C fI cc cda : Addr} {qual par : Str} {scope : Scope} {msg : Expr}
/-- what __init__ leaves of a fresh error at x -/
structure Inited (h h' : Heap) (x C dx t1 : Addr) (par : Str) (v : Value) : Prop where
  keep : ∀ b o, b ≠ x → h.get? b = some o → h'.get? b = some o
  obj : h'.get? x = some { cls := .ref C, dict := some dx, data := .fields #[.ref t1, .none, .none, .none, .bool false, .none] }
  dbig : h.objs.size ≤ dx
  dne : dx ≠ x
  ns : h'.Ns1 dx (fun y => if y = par then some v else none)
theorem cls_of (T : XcTxt prog K C fI cc cda qual par scope msg) : ∃ cd, clsIn K C = some cd ∧ refsVE cd.mro = true ∧ cd.hasDict = true := by
  obtain ⟨nm, q, N, bs, bm, sn, sub, ab, col, dd, k0, k1, k2, k3, k5, hC, hbm⟩ := T.cls
  exact ⟨_, by unfold clsIn; rw [hC] <;> rfl, (show refsVE (.ref C :: bm) = true from hbm), rfl⟩
/-- the bound ValueError.__init__ called -/
theorem x_base {u e t0 : Addr} {rest : List Value} {Q : Value → Shared → Prop} {h : Heap} {g : Array GenState} {d : Drawn} {t : Nat} {os : OsState} (T : XcTxt prog K C fI cc cda qual par scope msg) (X : K.In h) (he : h.get? e = some (excO C t0)) (hu : h.get? u = some (kxs_mw "ValueError.__init__" e)) (hrest : rest.length ≤ sizeLine)
    (hq : ∀ h' t1, (∀ b o, b ≠ e → h.get? b = some o → h'.get? b = some o) → h'.get? e = some (excO C t1) → Q .none ⟨h', g, d, t, os⟩) :
    wpAny (model prog w) A (call (.ref u) rest) Q E ⟨h, g, d, t, os⟩ := by
  obtain ⟨nm, q, N, bs, bm, sn, sub, ab, col, dd, k0, k1, k2, k3, k5, hC, hbm⟩ := T.cls
  refine wpAny_call (codeAny_of_tree ?_)
  show wpAny _ A.in1 (callAny (.ref u) ⟨rest, []⟩) _ _ _
  simp only [callAny]
  refine wpAny_bind (wpAny_load hu ?_)
  simp only [kxs_mw, show (Value.type "method-wrapper" == Value.type "method" || Value.type "method-wrapper" == Value.type "builtin_function_or_method" || Value.type "method-wrapper" == Value.type "method-wrapper") = true by decide, if_true]
  refine KFB.if_so (by decide) ?_
  refine wpAny_bind (check_bound_init F.excBase_ValueError.toExcCallFacts (X _ _ hC) he rfl ?_)
  refine wpAny_bind (wpAny_pure (wpAny_pure ⟨plainId_quiet F.excBase_ValueError.init.plain _, codeAny_builtin F.excBase_ValueError.initEntry ?_⟩))
  rw [Around.under_plainId F.excBase_ValueError.init.plain _]
  wp_walk
  refine hq _ h.objs.size (fun b o hb ho => ?_) ?_
  · rw [Heap.get?_update_other _ _ (Ne.symm hb)]
    exact Heap.get?_push_of_some _ ho
  · rw [Heap.get?_update_self _ (Heap.get?_push_of_some _ he) rfl]
    rfl
theorem call_text {o msg : Expr} {name : Str} {apos pos : Pos} {env : Env} (hline : (apos.endLine == pos.line) = true) (hne : starEach [msg] env = [(false, eval msg env)]) :
    eval (.Call (.Attribute o name apos) [msg] [] pos) env = (do
      let ov ← attributeBase o name env (eval o env)
      standAt apos.atName
      let (f, first) ← holding [ov] (getMethod ov name (do return (← importBound o env).getD true))
      callWith pos f first (backTo pos (starEach [msg] env)) []) := by
  have e : eval (.Call (.Attribute o name apos) [msg] [] pos) env = (do
    let ov ← attributeBase o name env (eval o env)
    standAt apos.atName
    methodCall o name apos pos env ov (1 + 0) (backTo pos (starEach [msg] env)) (backToKw pos (keywordEach [] env))) := rfl
  rw [e]
  unfold methodCall
  have hf : methodCallForm (1 + 0) (backTo pos (starEach [msg] env)) (backToKw pos (keywordEach [] env)) = true := by
    rw [hne]
    rfl
  simp only [hf, methodCallPos, hline, Bool.not_true, Bool.false_or, if_true]
  rfl
theorem x_init (T : XcTxt prog K C fI cc cda qual par scope msg) (S : XcScope scope par) {x t0 : Addr} {v : Value} (X : K.In s.heap) (hg : s.heap.Ns mainGlobals mg) (hb : s.heap.Ns builtinsNs mb) (hbb : ∀ x : Str, x ≠ "__name__" → mb x = bootBuiltins x)
    (hlim : s.heap.NoLimit) (hx : s.heap.get? x = some (excO C t0)) (hnx : K.lookup x = none) (hroom : A.depth < recursionLimit)
    (hmsg : ∀ (L : Addr) (A' : Around) (s' : Shared) (E' : Value → Shared → Prop) (Q : Value → Shared → Prop), s'.heap.Ns L (fun y => (([("self", Value.ref x), (par, v)] : List (Str × Value)).reverse.lookup y)) →
      (∀ m t tk, Q (.str m t) { s' with toks := tk }) → wpAny (model prog w) A' (eval msg (ksEnv qual scope L fI (.ref cda) cc)) Q E' s')
    (hbind : ∀ (p1 p2 : Pos) (body : List Stmt) (doc pm : Value) (an : Option Addr) (ct : Value), bindArgs (ksFn "__init__" qual (eArgs par p1 p2) body scope .none .none doc pm an (.ref cda) ct cc) ⟨[.ref x, v], []⟩ = pure ([("self", .ref x), (par, v)] : List (Str × Value)))
    (hne : ∀ (env : Env), starEach [msg] env = [(false, eval msg env)])
    (hq : ∀ h' tk dx t1, Inited s.heap h' x C dx t1 par v → R (.ok (.ret .none)) { s with heap := h', toks := tk }) :
    codeAny (model prog w) A (.call (.ref fI) ⟨[.ref x, v], []⟩) R s := by
  obtain ⟨oc, od, doc, pm, an, ct, osl, p1, p2, a1, a2, a3, a4, a5, q1, q2, q3, q4, hfI, hline⟩ := T.fn
  obtain ⟨ccl, cdd, vs, ccs, file, tf, hcode, hvs, hfile⟩ := T.code
  obtain ⟨cl, cld, csl, hcell⟩ := T.cell
  obtain ⟨cd, hcd, hmro, hdict⟩ := cls_of T
  have hnsf : ("self" : Str) ≠ par := fun z => S.ne z.symm
  refine ks_codeAny_call_defAt (body := eBody par msg a1 a2 a3 a4 a5 q1 q2 q3 q4) (binds := ([("self", .ref x), (par, v)] : List (Str × Value))) hroom (X _ _ hfI) rfl hlim (codeRec_of X T.cd) rfl (BindsTo.of_eq (hbind _ _ _ _ _ _ _)) S.nocell ?_ ?_ S.co S.gen S.kind
  · intro y hy
    simp only [List.mem_cons, List.not_mem_nil, or_false] at hy
    rcases hy with rfl | rfl
    · exact S.slf
    · exact S.prm
  intro h₁ hn k
  have hxL : s.heap.objs.size ≠ x := Nat.ne_of_gt (Heap.lt_size hx)
  have X₁ : K.In h₁ := X.keeps k
  have hx₁ := k _ _ hx
  have hg₁ := hg.keeps k
  have hb₁ := hb.keeps k
  obtain ⟨oD, hD1, hD2⟩ : ∃ oD, h₁.get? C = some oD ∧ oD.data = .cls cd := by
    have z := hcd
    unfold clsIn at z
    split at z
    · rename_i c d cd' sl ho
      cases z
      exact ⟨_, X₁ _ _ ho, rfl⟩
    · cases z
  have hself : (([("self", Value.ref x), (par, v)] : List (Str × Value)).reverse.lookup ("self" : Str)) = some (.ref x) := by
    have z : (("self" : Str) == par) = false := by simpa using hnsf
    simp [List.lookup, z]
  have hparv : (([("self", Value.ref x), (par, v)] : List (Str × Value)).reverse.lookup par) = some v := by simp [List.lookup]
  have hxC : x ≠ C := fun z => by
    rw [z, hD1] at hx₁
    rw [Option.some.inj hx₁] at hD2
    exact nomatch hD2
  refine ks_wpAt_execs_cons (ks_wpAt_Expr_any (hi := by show (scope.kind == .module && _) = false; rw [S.kind]; rfl) (ks_wpAt_MethodCall (he := call_text hline (hne _)) ?_))
  refine ks_wpAt_super_base (env := ksEnv qual scope s.heap.objs.size fI (.ref cda) cc) S.sup S.cls rfl rfl (X₁ _ _ hfI) rfl (ar := { arg := "self", annotation := none, pos := p1 }) rfl rfl (X₁ _ _ hcode) rfl hvs hfile T.top ?_
  refine ks_loadName_global S.kind S.sup (loadGlobal_builtin (env := ksEnv qual scope s.heap.objs.size fI (.ref cda) cc) hg₁ (mg_none_of X hg T.sup) hb₁ ((hbb _ (by decide +kernel)).trans (by first | rfl | kernel_rfl)) ⟨rfl, ?_⟩)
  refine wpAny_loadName_free S.kind S.cls rfl ⟨_, X₁ _ _ hcell, rfl⟩ ?_
  refine wpAny_loadName_local S.kind S.slf hn hself ?_
  refine ks_wpAny_isType_cls hD1 hD2 ⟨rfl, ?_⟩
  refine ks_wpAny_call_super hD1 hD2 hx₁ rfl (fun c e => nomatch e) (looks_mroIn X₁ T.self) (fun h2 e2 k2 => ?_)
  have X₂ : K.In h2 := X₁.keeps k2
  have hx₂ := k2 _ _ hx₁
  have I₂ : InstAt h2 x (excO C t0) C none := ⟨hx₂, rfl, rfl, trivial⟩
  have hm : alongIn K "__init__" ((cd.mro.dropWhile (· != .ref C)).drop 1) = some (some (.builtin "ValueError.__init__")) := by
    have z := T.sin
    unfold ks_superIn at z
    rw [hcd] at z
    exact z
  refine kxs_getMethod kxs_ValueError e2 (looks_opaque X₂ T.opq) (l₀ := cd.mro) ((looks_clsIn X₂ hcd).andThen .now) rfl X₂ hm (I₂.type.andThen (looks_subIn X₂ T.sub)) hxC rfl ?_
  have X₃ : K.In (h2.push (kxs_mw "ValueError.__init__" x)) := X₂.keeps fun b o e => Heap.get?_push_of_some _ e
  have k3 : ∀ b o, h2.get? b = some o → (h2.push (kxs_mw "ValueError.__init__" x)).get? b = some o := fun b o e => Heap.get?_push_of_some _ e
  have hn₃ : (h2.push (kxs_mw "ValueError.__init__" x)).Ns s.heap.objs.size (fun y => ([("self", Value.ref x), (par, v)] : List (Str × Value)).reverse.lookup y) := (hn.keeps k2).keeps k3
  rw [hne]
  refine kxs_callWith (i := "ValueError.__init__") (x := x) rfl ?_
  refine evalArgs_plain ?_
  refine spliced_cons ?_
  refine hmsg _ _ _ _ _ hn₃ fun m tm tk => ?_
  refine spliced_nil ?_
  refine ⟨show (h2.push (kxs_mw "ValueError.__init__" x)).get? h2.objs.size = _ from Heap.get?_push_at rfl rfl, ?_⟩
  refine x_base T X₃ (k3 _ _ hx₂) (Heap.get?_push_at rfl rfl) (Nat.le_trans (show 1 ≤ sizeLine by decide) (Nat.le_refl _)) fun h4 t1 k4 hx4 => ?_
  have hCx : x ≠ C := hxC
  have X₄ : K.In h4 := fun b o e => k4 b o (fun z => by rw [z, hnx] at e; cases e) (X₃ _ _ e)
  have hn₄ : h4.Ns s.heap.objs.size (fun y => ([("self", Value.ref x), (par, v)] : List (Str × Value)).reverse.lookup y) := hn₃.at (fun o q => k4 _ o hxL q)
  dsimp only
  refine wpAt_of_wpAny (wpAny_execs_cons (plainObj_wpAny_Assign_Attribute ?_))
  refine wpAny_Name (wpAny_loadName_local S.kind (show (ksEnv qual scope s.heap.objs.size fI (.ref cda) cc).kindOf par = some .local from S.prm) hn₄ hparv ?_) S.dbg
  refine wpAny_Name (wpAny_loadName_local S.kind (show (ksEnv qual scope s.heap.objs.size fI (.ref cda) cc).kindOf "self" = some .local from S.slf) hn₄ hself ?_) (by decide)
  refine set_plain X₄ (ox := excO C t1) (od := none) ⟨hx4, rfl, rfl, trivial⟩ T.sa ?_
  refine exc_osa X₄ hx4 hcd hmro hdict T.noN (fun h5 tk5 dx k5 dn dne hx5 hn5 => ?_)
  refine wpAny_execs_nil (hq h5 tk5 dx t1 ⟨fun b o hb e => k5 b o hb (k4 b o hb (k3 _ _ (k2 _ _ (k _ _ e)))), hx5, Nat.le_of_lt (Nat.lt_of_lt_of_le hn₄.lt dn), dne, hn5⟩)
theorem one_size (v : Value) : [v].length ≤ sizeLine := by
  rw [sizeLine_eq]
  exact (by decide : 1 ≤ 16777216)
/-- a made error -/
structure OwnMade (h h' : Heap) (e C d : Addr) (par : Str) (v : Value) : Prop where
  keep : ∀ b o, h.get? b = some o → h'.get? b = some o
  new : h.objs.size ≤ e
  obj : ∃ oe vs, h'.get? e = some oe ∧ oe.cls = .ref C ∧ oe.dict = some d ∧ oe.data = .fields vs ∧ vs[1]? = some .none
  dbig : h.objs.size ≤ d
  dne : d ≠ e
  ns : h'.Ns1 d (fun y => if y = par then some v else none)
theorem x_made (T : XcTxt prog K C fI cc cda qual par scope msg) (S : XcScope scope par) {v : Value} (X : K.In s.heap) (hg : s.heap.Ns mainGlobals mg) (hb : s.heap.Ns builtinsNs mb) (hbb : ∀ x : Str, x ≠ "__name__" → mb x = bootBuiltins x)
    (hlim : s.heap.NoLimit) (hroom : A.depth + 1 < recursionLimit)
    (hmsg : ∀ (x L : Addr) (A' : Around) (s' : Shared) (E' : Value → Shared → Prop) (Q : Value → Shared → Prop), s'.heap.Ns L (fun y => (([("self", Value.ref x), (par, v)] : List (Str × Value)).reverse.lookup y)) →
      (∀ m t tk, Q (.str m t) { s' with toks := tk }) → wpAny (model prog w) A' (eval msg (ksEnv qual scope L fI (.ref cda) cc)) Q E' s')
    (hbind : ∀ (x : Addr) (p1 p2 : Pos) (body : List Stmt) (doc pm : Value) (an : Option Addr) (ct : Value), bindArgs (ksFn "__init__" qual (eArgs par p1 p2) body scope .none .none doc pm an (.ref cda) ct cc) ⟨[.ref x, v], []⟩ = pure ([("self", .ref x), (par, v)] : List (Str × Value)))
    (hne : ∀ (env : Env), starEach [msg] env = [(false, eval msg env)])
    (hq : ∀ h' tk e d, OwnMade s.heap h' e C d par v → R (.ok (.ret (.ref e))) { s with heap := h', toks := tk }) :
    codeAny (model prog w) A (.call (.ref C) ⟨[v], []⟩) R s := by
  obtain ⟨nm, q, N, bs, bm, sn, sub, ab, col, dd, k0, k1, k2, k3, k5, hC, hbm⟩ := T.cls
  obtain ⟨hp, g, dr, tk, os⟩ := s
  have k : ∀ b o, hp.get? b = some o → ((hp.push (kdv_tup [v])).push (excO C hp.objs.size)).get? b = some o := fun b o e => Heap.get?_push_of_some _ (Heap.get?_push_of_some _ e)
  have hget : ((hp.push (kdv_tup [v])).push (excO C hp.objs.size)).get? (hp.objs.size + 1) = some (excO C hp.objs.size) := by heap_get
  have hnx : K.lookup (hp.objs.size + 1) = none := by
    cases e : K.lookup (hp.objs.size + 1) with
    | none => rfl
    | some o =>
      have z : hp.get? (hp.objs.size + 1) = some o := X _ _ e
      exact absurd (Nat.lt_of_succ_lt (Heap.lt_size z)) (Nat.lt_irrefl _)
  refine call_own F.excBase_ValueError (fun X => refsVE_contains X bm hbm) (X _ _ hC) (looks_findIn X T.iC) (fun self => bind_fn X self T.tC) (one_size v) ?_
  refine x_init (s := ⟨(hp.push (kdv_tup [v])).push (excO C hp.objs.size), g, dr, tk, os⟩) T S (X.keeps k) (hg.keeps k) (hb.keeps k) hbb (hlim.keeps k) hget hnx ?_ (hmsg _) (hbind _) hne fun h' tk' dx t1 ⟨k', hx, dn, dne, hns⟩ => ?_
  · show A.depth + 1 < recursionLimit
    exact hroom
  · have old : ∀ b o, hp.get? b = some o → h'.get? b = some o := fun b o e => k' b o (Nat.ne_of_lt (Nat.lt_succ_of_lt (Heap.lt_size e))) (k b o e)
    have z : hp.objs.size + 1 + 1 ≤ dx := by
      first
        | (simpa only [Heap.size_push] using dn)
        | exact dn
        | (have q := dn; rw [Heap.size_push, Heap.size_push] at q; exact q)
    exact ⟨rfl, hq h' tk' (hp.objs.size + 1) dx ⟨old, Nat.le_succ _, ⟨_, _, hx, rfl, rfl, rfl, rfl⟩, Nat.le_trans (Nat.le_trans (Nat.le_succ _) (Nat.le_succ _)) z, dne, hns⟩⟩
end
end LkX
end PySem
namespace PySem.W
open PySem PySem.Spec PySem.Calls PyProof.Rows
/-- isinstance of an own error with fields -/
theorem kitx_excD {K : Frag} {x D : Addr} {ox : Obj} {od : Option Obj} (hga : findIn K (.ref D) "__getattribute__" = some (some (.builtin "BaseException.__getattribute__"))) (hgt : findIn K (.ref D) "__getattr__" = some none) (hsub : subIn K (.ref D) (.type "BaseException") = some true) (hdct : hasDictIn K D = true) (ha : findIn K (.ref D) "__class__" = some (some (.builtin "object.__class__")))
    (hn : specialIn K (.builtin "object.__class__") "__get__" = some (some (.builtin "getset_descriptor.__get__"))) (htk : takesIn K (.builtin "object.__class__") = some true) (hm : mroIn K D (.type "object") = some true) :
    KitX K (.ref x) (.ref D) (fun h => InstAt h x ox D od) where
  ty := fun _ _ _ I => I.type
  it := fun _ _ X _ => by
    obtain ⟨cdD, hcD, _⟩ := any_some hdct
    unfold clsIn at hcD
    split at hcD
    · rename_i c' d' cd' sl' ho
      intro A' Q' E' s' k q
      unfold isType loadHead
      exact wpAny_bind (wpAny_loadPart (k _ _ (X _ _ ho)) (wpAny_pure q))
    · cases hcD
  ne := fun h tp dd its n sl X htp => by
    obtain ⟨cdD, hcD, _⟩ := any_some hdct
    refine Bool.eq_false_iff.mpr fun q => ?_
    have e : D = tp := Value.ref.inj (beq_iff_eq.mp q)
    subst e
    unfold clsIn at hcD
    split at hcD
    · rename_i c' d' cd' sl' ho
      have z := (X _ _ ho).symm.trans htp
      cases z
    · cases hcD
  ca := fun X I k => kx_classE X I hga hgt hsub (findObj_dataE (by obtain ⟨cd, hc, _⟩ := any_some hdct; rw [hc]; rfl) ha hn htk) hm k
end PySem.W
namespace Lk
open PySem PySem.Spec PyProof.Rows L2
open PySem.LkX
/-- all of an own error's class with one field -/
structure Err (P : Program) (w : World) (K : PySem.W.Frag) (mg : Str → Option Value) (name par : Str) (C : Addr) (ok : V → Prop) : Prop where
  txt : ∃ (fI cc cda : Addr) (qual : Str) (scope : Scope) (msg : Expr), XcTxt P K C fI cc cda qual par scope msg ∧ XcScope scope par ∧
    (∀ (v : V) (v' : Value), RelV v v' → ok v → ∀ (x L : Addr) (A' : Around) (s' : Shared) (E' : Value → Shared → Prop) (Q : Value → Shared → Prop), s'.heap.Ns L (fun y => (([("self", Value.ref x), (par, v')] : List (Str × Value)).reverse.lookup y)) →
      (∀ m t tk, Q (.str m t) { s' with toks := tk }) → wpAny (model P w) A' (eval msg (PySem.W.ksEnv qual scope L fI (.ref cda) cc)) Q E' s') ∧
    (∀ (v : Value) (x : Addr) (p1 p2 : Pos) (body : List Stmt) (doc pm : Value) (an : Option Addr) (ct : Value), bindArgs (PySem.W.ksFn "__init__" qual (eArgs par p1 p2) body scope .none .none doc pm an (.ref cda) ct cc) ⟨[.ref x, v], []⟩ = pure ([("self", .ref x), (par, v)] : List (Str × Value))) ∧
    (∀ (env : Env), starEach [msg] env = [(false, eval msg env)])
  gC : mg name = some (.ref C)
  kC : PySem.W.keepIn K (.ref C) = true
  ga : PySem.W.findIn K (.ref C) "__getattribute__" = some (some (.builtin "BaseException.__getattribute__"))
  gg : PySem.W.findIn K (.ref C) "__getattr__" = some none
  noN : PySem.W.findIn K (.ref C) par = some none
  exC : PySem.W.subIn K (.ref C) (.type "BaseException") = some true
  tyC : PySem.W.typeIn K (.ref C) = some (.type "type")
  hdC : PySem.W.hasDictIn K C = true
  te : PySem.W.exmOne K (.ref C) (.ref C) = some true
  ha : PySem.W.findIn K (.ref C) "__class__" = some (some (.builtin "object.__class__"))
  hn : PySem.W.specialIn K (.builtin "object.__class__") "__get__" = some (some (.builtin "getset_descriptor.__get__"))
  ht : PySem.W.takesIn K (.builtin "object.__class__") = some true
  hm : PySem.W.mroIn K C (.type "object") = some true
theorem relO_one {v : V} {v' : Value} {par : Str} (r : RelV v v') (f : Str) : RelO (List.lookup f [(par, v)]) (if f = par then some v' else none) := by
  by_cases hw : f = par
  · subst hw
    rw [if_pos rfl]
    have q : List.lookup f [(f, v)] = some v := by simp [List.lookup]
    rw [q]
    exact r
  · rw [if_neg hw]
    have qw : (f == par) = false := by simpa using hw
    have q2 : List.lookup f [(par, v)] = none := by simp [List.lookup, qw]
    rw [q2]
    trivial
section
variable {X : Cx} {C : Addr} {name par : Str} {ok : V → Prop}
def tMkE (C : Addr) (par : Str) (ok : V → Prop) (ta : TA) : L2.St → Hp → XK → Prop := fun σ H Q => ta σ H fun vs H1 => ∃ v, vs = [v] ∧ ok v ∧ ∀ d, H1 d = none → Q (.ref C) (some d) (upd H1 d (.xd [(par, v)]))
theorem pmk_err {a : Expr} {ta : TA} {p pos : Pos} {k : Nat} (T : Err X.prog X.w X.K X.mg name par C ok) (hr : Room (k + 1) X.A) (ha : PA X [a] ta) (hg : Gl X name := by rfl) (hdb : (name == ("__debug__" : Str)) = false := by decide)
    (he : starEach (a :: []) X.env = (false, eval a X.env) :: starEach [] X.env := by rfl) (hpl : (backTo pos (starEach [] X.env)).any (·.1) = false := by rfl) :
    PMk X (.Call (.Name name p) [a] [] pos) (tMkE C par ok ta) := by
  intro pins s σ H Q I h
  refine wpAny_Call_Name_kw (ld_glob I hg T.gC ?_ hdb)
  refine PySem.W.callWith_K (h₀ := X.base) I.ok.mod.kin T.kC (thn (ha.run pos pins s σ H _ I h) fun us s1 hh => ?_) he hpl
  obtain ⟨vs, H1, I1, r1, v, ev, okv, q1⟩ := hh
  subst ev
  refine ⟨I1.kIn, ?_⟩
  cases r1 with
  | cons rv rn =>
    rename_i v' us'
    cases rn
    show wpAny _ _ (call (.ref C) [v']) _ _ _
    have hlim := I1.nolimit
    obtain ⟨fI, cc, cda, qual, scope, msg, TX, SX, hmsg, hbind, hne⟩ := T.txt
    obtain ⟨mb, hb, hbb⟩ := I1.ok.mod.blt
    have hg1 := I1.ok.mod.glob.keeps I1.bk
    have hb1 := hb.keeps I1.bk
    obtain ⟨hp, g, dr, tk, os⟩ := s1
    refine wpAny_call (x_made TX SX I1.kIn hg1 hb1 hbb hlim (by have := hr.dp; omega) (hmsg v v' rv okv) (hbind v') hne fun h' tk' e d M => ?_)
    show MkP X pins σ Q (.ref e) ⟨h', g, dr, tk', os⟩
    obtain ⟨oe, fv, hoe, hc, hd, hdat, h1⟩ := M.obj
    have hns := M.ns
    obtain ⟨G', g1, g2⟩ := restrict h' fun b => decide (b ≠ e)
    have gk : ∀ b, b ≠ e → G'.get? b = h'.get? b := fun b hb => g1 b (decide_eq_true hb)
    have ge : G'.get? e = none := g2 e (by simp)
    have old : ∀ b o, hp.get? b = some o → G'.get? b = some o := fun b o q => (gk b (Nat.ne_of_lt (Nat.lt_of_lt_of_le (Heap.lt_size q) M.new))).trans (M.keep b o q)
    have ob : ObjOk X.prog X.w (upd H1 d (.xd [(par, v)])) G' d (.xd [(par, v)]) :=
      ⟨_, hns.at (fun o q => (gk d M.dne).trans q), fun f => relO_one rv f⟩
    have J : Inv X pins σ (upd H1 d (.xd [(par, v)])) ⟨G', g, dr, tk', os⟩ := I1.laid (t' := tk') old M.dbig ob
    refine ⟨e, oe, fv, ⟨G', g, dr, tk', os⟩, _, .ref C, some d, rfl, J, fun b o q => ?_, ge, hoe, ⟨hc, hd⟩, hdat, h1, ?_, rfl, I1.bare, raises_own T.exC T.tyC, q1 d (I1.hok.fresh M.dbig)⟩
    · by_cases hb : b = e
      · have q' : G'.get? b = some o := q
        rw [hb, ge] at q'; cases q'
      · exact (gk b hb).symm.trans q
    · rw [upd_ne (Ne.symm M.dne)]
      exact I1.hok.fresh M.new
/-- raise C(e) -/
def tRaiseE (C : Addr) (par : Str) (ok : V → Prop) (W : WX) (ta : TA) : TS := fun _ σ H => tMkE C par ok ta σ H fun cls d H' => W cls d σ H'
theorem ps_raiseE {a : Expr} {ta : TA} {W : WX} {p pos pos2 : Pos} {k : Nat} (hc : X.calm = true) (T : Err X.prog X.w X.K X.mg name par C ok) (hr : Room (k + 1) X.A) (tk : Takes X W) (ha : PA X [a] ta) (hg : Gl X name := by rfl) (hdb : (name == ("__debug__" : Str)) = false := by decide)
    (he : starEach (a :: []) X.env = (false, eval a X.env) :: starEach [] X.env := by rfl) (hpl : (backTo pos (starEach [] X.env)).any (·.1) = false := by rfl) :
    PS X (.Raise (some (.Call (.Name name p) [a] [] pos)) none pos2) (tRaiseE C par ok W ta) := ps_raise hc tk (pmk_err T hr ha hg hdb he hpl)
/-- e.field, e the exception that the suite holds -/
def tByE (C : Addr) (par : Str) (a : Addr) (cls : Value) (d : Option Addr) (te : TE) : TE := fun σ H Q => te σ H fun x H1 => x = .ref a ∧ cls = .ref C ∧ ∃ (dd : Addr) (v : V), d = some dd ∧ H1 dd = some (.xd [(par, v)]) ∧ Q v H1
theorem pe_byE {P : Program} {w : World} {K : PySem.W.Frag} {mg : Str → Option Value} {a : Addr} {oe : Obj} {cls : Value} {d : Option Addr} {pn : List (Addr × Obj)} {e : Expr} {te : TE} {pos : Pos} (hK : X.K = K) (T : Err P w K mg name par C ok) (hz : Zc cls d oe) (hf : ∃ vs, oe.data = .fields vs) (he : PE (X.suite a ((a, oe) :: pn)) e te)
    (hb : attributeBase e par X.env (eval e X.env) = eval e X.env := by rfl) :
    PE (X.suite a ((a, oe) :: pn)) (.Attribute e par pos) (tByE C par a cls d te) := by
  subst hK
  refine ⟨fun pins s σ H Q I h => ?_⟩
  refine attr_of hb (thn (he.run pins s σ H _ I h) fun u s1 hh => ?_)
  obtain ⟨x, H1, I1, rx, ex, ec, dd, v, ed, ea, q⟩ := hh
  subst ex
  obtain rfl : u = Value.ref a := rx
  subst ec
  subst ed
  obtain ⟨ha, _⟩ := I1.pin (a, oe) (List.mem_append_left _ List.mem_cons_self)
  obtain ⟨vs, hd⟩ := hf
  have hx : ObjOk X.prog X.w H1 s1.heap dd (.xd [(par, v)]) := I1.hok dd _ ea
  obtain ⟨mA, hns, hr⟩ := hx
  obtain ⟨od, ho, hl⟩ := lookIn_ns hns
  have l : List.lookup par [(par, v)] = some v := by simp [List.lookup]
  obtain ⟨u, hu, ru⟩ := RelO.some_of (v := v) (o := mA par) (by rw [← l]; exact hr par)
  have J : PySem.W.InstAt s1.heap a oe C (some od) := ⟨ha, hz.1, by unfold PySem.W.notCls; rw [hd] <;> rfl, by rw [hz.2]; exact ho⟩
  exact HandSPX.exc_get I1.kIn J T.ga T.gg T.exC (PySem.W.findObj_own T.hdC T.noN rfl (by rw [hl, hu])) (handed_of ru) ⟨v, H1, I1.tok _, ru, q⟩
/-- isinstance(e, c) -/
def rIsD (K : PySem.W.Frag) (C a : Addr) (cls : Value) (d : Option Addr) : List V → Hp → VK → Prop := fun xs H Q => ∃ (c : V) (cv : Value) (b : Bool) (dd : Addr) (fs : List (Str × V)), xs = [.ref a, c] ∧ cls = .ref C ∧ d = some dd ∧ H dd = some (.xd fs) ∧ (∀ u, RelV c u → u = cv) ∧ PySem.W.kitOne K (.ref C) cv = some b ∧ Q (.bl b) H
theorem call_isD {P : Program} {w : World} {K : PySem.W.Frag} {mg : Str → Option Value} {a : Addr} {oe : Obj} {cls : Value} {d : Option Addr} {pn : List (Addr × Obj)} (hK : X.K = K) (T : Err P w K mg name par C ok) (hz : Zc cls d oe) (hf : ∃ vs, oe.data = .fields vs) : CallR (X.suite a ((a, oe) :: pn)) (.builtin "isinstance") (rIsD K C a cls d) := by
  subst hK
  intro pins s σ H xs us Q I r h
  obtain ⟨c, cv, b, dd, fs, rfl, ec, ed, hdd, hcv, e, q⟩ := h
  subst ec
  subst ed
  cases r with
  | cons rx rr =>
    cases rr with
    | cons rt rr =>
      cases rr
      cases rx
      have ec := hcv _ rt
      subst ec
      obtain ⟨hget, _⟩ := I.pin (a, oe) (List.mem_append.mpr (.inl List.mem_cons_self))
      obtain ⟨vs, hv⟩ := hf
      have hx : ObjOk X.prog X.w H s.heap dd (.xd fs) := I.hok dd _ hdd
      obtain ⟨mA, hns, hr⟩ := hx
      obtain ⟨od, ho, hl⟩ := lookIn_ns hns
      have J : PySem.W.InstAt s.heap a oe C (some od) := ⟨hget, hz.1, by unfold PySem.W.notCls; rw [hv] <;> rfl, by rw [hz.2]; exact ho⟩
      exact PySem.W.kia_one (PySem.W.kitx_excD T.ga T.gg T.exC T.hdC T.ha T.hn T.ht T.hm) I.kIn J e (fun z => nomatch z) fun tk => ⟨.bl b, H, I.kept (t' := tk) fun _ _ z => z, rfl, q⟩
end
end Lk

namespace Lk
open PySem PySem.Spec PyProof.Rows L2
/-- the truth of an int -/
def tTrI (ta : TE) : TT := fun σ H Q => ta σ H fun x H' => ∃ i, x = .int i ∧ Q (i != 0) H'
theorem pt_int1 {X : Cx} {a : Expr} {ta : TE} (ha : PE X a ta) (he : ∀ whole, isTrue a X.env whole = (do let v ← whole; standAt a.pos; holding [v] (truthy v))) : PT X a (tTrI ta) := by
  refine ⟨fun pins s σ H Q I h => ?_⟩
  exact isTrue_plain (thn (ha.run pins s σ H _ I h) fun v s1 ⟨x, H1, I1, r1, q1⟩ => by
    obtain ⟨i, rfl, q⟩ := q1
    exact tru_ok pins s1 σ H1 (.int i) v Q I1 r1 ⟨_, rfl, q⟩) (he _)
section
variable {K : PySem.W.Frag} {σ : L2.St} {H : Hp} {Q : VK} {te : TE} {t : TA} {x : V}
theorem a_trI {R : Bool → Hp → Prop} (q : te σ H fun x H' => ∃ i, x = .int i ∧ R (i != 0) H') : tTrI te σ H R := q
theorem a_raiseE {C : Addr} {par : Str} {ok : V → Prop} {W : WX} {D : Ends} (q : t σ H fun vs H1 => ∃ v, vs = [v] ∧ ok v ∧ ∀ d, H1 d = none → W (.ref C) (some d) σ (upd H1 d (.xd [(par, v)]))) : tRaiseE C par ok W t D σ H := q
theorem a_byE {C a : Addr} {par : Str} {cls : Value} {d : Option Addr} (q : te σ H fun x H1 => x = .ref a ∧ cls = .ref C ∧ ∃ (dd : Addr) (v : V), d = some dd ∧ H1 dd = some (.xd [(par, v)]) ∧ Q v H1) : tByE C par a cls d te σ H Q := q
theorem a_callS {sp : Sp} {E : L2.St → XK} (q : t σ H fun vs H1 => sp vs H1 Q (E σ)) : tCallS sp E t σ H Q := q
theorem a_notN (q : Q (.bl (!decide (x = .non))) H) : (fun x y H Q => y = V.non ∧ Q (V.bl (!decide (x = .non))) H : R2) x .non H Q := ⟨rfl, q⟩
end
end Lk

namespace Lk
open PySem PySem.Spec PyProof.Rows L2
/-! ### the truth of a list -/
def tTrL (K : PySem.W.Frag) (ta : TE) : TT := fun σ H Q => ta σ H fun x H' => ∃ a xs, x = .ref a ∧ SqL K H' a xs ∧ Q (!xs.isEmpty) H'
theorem ptL_ {X : Cx} {K : PySem.W.Frag} (h : X.K = K) {a : Expr} {ta : TE} (ha : PE X a ta) (he : ∀ whole, isTrue a X.env whole = (do let v ← whole; standAt a.pos; holding [v] (truthy v))) : PT X a (tTrL K ta) := by
  subst h
  refine ⟨fun pins s σ H Q I h => ?_⟩
  exact isTrue_plain (thn (ha.run pins s σ H _ I h) fun v s1 ⟨x, H1, I1, r1, q1⟩ => by
    obtain ⟨a, xs, rfl, hx, q⟩ := q1
    exact tru_ok pins s1 σ H1 (.ref a) v Q I1 r1 ⟨_, .inl ⟨xs, hx, rfl⟩, q⟩) (he _)
theorem bm0K_ {X : Cx} {K : PySem.W.Frag} {e : Expr} {T : String} {r : V → List V → Hp → VK → Prop} {to : TE} (h : X.K = K) (hl : PE X e (tBM0 X.K T r to)) : PE X e (tBM0 K T r to) := by subst h; exact hl
theorem listK_ {X : Cx} {K : PySem.W.Frag} (h : X.K = K) : CallR X (.type "list") (fun xs H Q => ∃ p ys, xs = [.ref p] ∧ (SqL K H p ys ∨ SqT K H p ys) ∧ ∀ l, H l = none → Q (.ref l) (upd H l (.lst ys))) := by subst h; exact call_list_of
section
variable {K : PySem.W.Frag} {σ : L2.St} {H : Hp} {Q : VK} {te : TE} {t : TA} {x : V} {i j : Int}
theorem a_trL {R : Bool → Hp → Prop} (q : te σ H fun x H' => ∃ a xs, x = .ref a ∧ SqL K H' a xs ∧ R (!xs.isEmpty) H') : tTrL K te σ H R := q
theorem a_bm0 {T : String} {r : V → List V → Hp → VK → Prop} {to : TE} (q : to σ H fun x H1 => tyV K T x H1 ∧ r x [] H1 Q) : tBM0 K T r to σ H Q := q
theorem a_extl {a : Addr} {xs : List V} {P : Bool → Prop} (h : SqL K H a xs) (q : P (!xs.isEmpty)) : ∃ a' xs, V.ref a = .ref a' ∧ SqL K H a' xs ∧ P (!xs.isEmpty) := ⟨a, xs, rfl, h, q⟩
theorem a_rng2 {R : It → Hp → Prop} (q : t σ H fun vs H1 => ∃ i j : Int, vs = [.int i, .int j] ∧ (-(2 ^ 62) ≤ i ∧ i < 2 ^ 62 ∧ -(2 ^ 62) ≤ j ∧ j < 2 ^ 62) ∧ R (Itr i (j - i).toNat) H1) : iRng2 t σ H R := q
theorem a_exrng2 {P : Int → Int → Prop} (h : -(2 ^ 62) ≤ i ∧ i < 2 ^ 62 ∧ -(2 ^ 62) ≤ j ∧ j < 2 ^ 62) (q : P i j) : ∃ i' j' : Int, [V.int i, V.int j] = [.int i', .int j'] ∧ (-(2 ^ 62) ≤ i' ∧ i' < 2 ^ 62 ∧ -(2 ^ 62) ≤ j' ∧ j' < 2 ^ 62) ∧ P i' j' := ⟨i, j, rfl, h, q⟩
theorem a_rng3 {R : It → Hp → Prop} (q : t σ H fun vs H1 => ∃ (i j c : Int) (n : Nat), vs = [.int i, .int j, .int c] ∧ RgC i j c n ∧ R (Itc i c n) H1) : iRng3 t σ H R := q
theorem a_exrng3 {P : Int → Int → Nat → Prop} (h : -(2 ^ 62) ≤ i ∧ i < 2 ^ 62 ∧ -(2 ^ 62) ≤ j ∧ j < 2 ^ 62) (q : P i (-1) (i - j).toNat) : ∃ (i' j' c : Int) (n : Nat), [V.int i, V.int j, V.int (-1)] = [.int i', .int j', .int c] ∧ RgC i' j' c n ∧ P i' c n :=
  ⟨i, j, -1, _, rfl, RgC.neg h.1 h.2.1 h.2.2.1 h.2.2.2, q⟩
theorem a_max2 {P : Int → Prop} (q : P (if j > i then j else i)) : ∃ i' j', [V.int i, V.int j] = [.int i', .int j'] ∧ P (if j' > i' then j' else i') := ⟨i, j, rfl, q⟩
theorem a_min2 {P : Int → Prop} (q : P (if j < i then j else i)) : ∃ i' j', [V.int i, V.int j] = [.int i', .int j'] ∧ P (if j' < i' then j' else i') := ⟨i, j, rfl, q⟩
theorem a_list {a : Addr} {xs : List V} {P : Addr → List V → Prop} (h : SqL K H a xs) (q : P a xs) : ∃ p ys, [V.ref a] = [.ref p] ∧ (SqL K H p ys ∨ SqT K H p ys) ∧ P p ys := ⟨a, xs, rfl, .inl h, q⟩
theorem a_lstRg {tr : L2.St → Hp → (Int → Int → Hp → Prop) → Prop} (q : tr σ H fun a b H1 => RgOk a b ∧ ∀ q, H1 q = none → Q (.ref q) (upd H1 q (.lst (rgV a b)))) : tLstRg tr σ H Q := q
theorem a_rg1 {R : Int → Int → Hp → Prop} (q : te σ H fun x H1 => ∃ n, x = .int n ∧ R 0 n H1) : tRg1 te σ H R := q
theorem a_popL {a : Addr} {xs : List V} {y : V} (h : H a = some (.lst (xs ++ [y]))) (q : Q y (upd H a (.lst xs))) : rPop (.ref a) [] H Q := by
  refine ⟨a, xs ++ [y], y, rfl, rfl, h, ?_, ?_⟩
  · simp
  · rw [List.dropLast_concat]
    exact q
end
section
variable {g : TG} {tb : TS} {σ : L2.St} {H : Hp} {nx : L2.St → Hp → Prop} {rt : VK}
theorem fo_rng2 {lo : Int} {n : Nat} (Pv : Nat → L2.St → Hp → Prop) (h0 : Pv 0 σ H)
    (hs : ∀ i σ H, i < n → Pv i σ H → g (.int (lo + (i : Int))) σ H fun σ2 H2 => tb ⟨Pv (i + 1), rt, nx, Pv (i + 1)⟩ σ2 H2) (hd : ∀ σ H, Pv n σ H → nx σ H) :
    ∃ W : Nat → Nat → L2.St → Hp → Prop, (∃ m, W 0 m σ H) ∧ ∀ i m σ H, W i m σ H →
      ((Itr lo n).stop i H ∧ nx σ H) ∨ ((Itr lo n).go i H ∧ ∃ N : L2.St → Hp → Prop, (∀ σ' H', N σ' H' → ∃ m', m' < m ∧ W (i + 1) m' σ' H') ∧ ∀ x H', (Itr lo n).yld i H x H' → g x σ H' fun σ2 H2 => tb ⟨N, rt, nx, N⟩ σ2 H2) :=
  for_range (lo := lo) (D := ⟨nx, rt, fun _ _ => False, fun _ _ => False⟩) Pv h0 hs hd
theorem fo_down {lo : Int} {n : Nat} (Pv : Nat → L2.St → Hp → Prop) (h0 : Pv 0 σ H)
    (hs : ∀ i σ H, i < n → Pv i σ H → g (.int (lo - (i : Int))) σ H fun σ2 H2 => tb ⟨Pv (i + 1), rt, nx, Pv (i + 1)⟩ σ2 H2) (hd : ∀ σ H, Pv n σ H → nx σ H) :
    ∃ W : Nat → Nat → L2.St → Hp → Prop, (∃ m, W 0 m σ H) ∧ ∀ i m σ H, W i m σ H →
      ((Itc lo (-1) n).stop i H ∧ nx σ H) ∨ ((Itc lo (-1) n).go i H ∧ ∃ N : L2.St → Hp → Prop, (∀ σ' H', N σ' H' → ∃ m', m' < m ∧ W (i + 1) m' σ' H') ∧ ∀ x H', (Itc lo (-1) n).yld i H x H' → g x σ H' fun σ2 H2 => tb ⟨N, rt, nx, N⟩ σ2 H2) :=
  for_rangeC (lo := lo) (c := -1) (D := ⟨nx, rt, fun _ _ => False, fun _ _ => False⟩) Pv h0 (fun i σ H hi p => by
    have e : lo + (i : Int) * -1 = lo - (i : Int) := by omega
    rw [e]
    exact hs i σ H hi p) hd
end
/-- a comprehension over a list of ints, with a test -/
theorem c_lstF {K : PySem.W.Frag} {σ : L2.St} {H : Hp} {Q : VK} {te tl : TE} {tt : TT} {vs : List Nat} {a : Addr} {k : Nat} {xs : List Int} (f : Int → Bool) (hv : vs = [k]) (ht : ∀ R : VK, R (.ref a) H → tl σ H R) (hx : SqL K H a (xs.map V.int)) (hz : xs.length ≤ 1000000)
    (hc : ∀ x : Int, ∀ H' (R : Bool → Hp → Prop), Same H H' → R (f x) H' → tt ((wipe σ [k]).set k (some (.int x))) H' R)
    (he : ∀ x : Int, f x = true → ∀ H' (R : VK), Same H H' → R (.int x) H' → te ((wipe σ [k]).set k (some (.int x))) H' R)
    (q : ∀ D H', H D = none → Same H H' → H' D = some (.lst ((xs.filter f).map V.int)) → Q (.ref D) H') : tLc (iList K tl) (gName k) tt te vs σ H Q := by
  subst hv
  refine ht (fun x H1 => ∃ a, x = .ref a ∧ (∃ xs, SqL K H1 a xs) ∧ _) ⟨a, rfl, ⟨_, hx⟩, ?_⟩
  intro D hD
  refine lc_list (K := K) (a := a) (xs := xs.map V.int) (Qd := Q (.ref D)) (fun i H' => Same H H' ∧ H' D = some (.lst (((xs.take i).filter f).map V.int))) ⟨same_upd hD, upd_same⟩ (fun i H' _ h => h.1.seq hx) ?_ ?_
  · rintro i x H' hi ⟨s, e⟩
    obtain ⟨n, hn, rfl⟩ := getV hi
    have hlen := (List.getElem?_eq_some_iff.mp hn).1
    refine a_gname ⟨wipe1, ?_⟩
    refine hc n H' _ s ?_
    have ht : xs.take (i + 1) = xs.take i ++ [n] := (take_app hn).symm
    cases hf : f n with
    | true =>
      refine ift (he n hf H' _ s ?_)
      refine ⟨_, e, ?_, smut s hD, ?_⟩
      · refine szl ?_
        rw [List.length_map]
        refine Nat.le_trans (List.length_filter_le _ _) ?_
        rw [List.length_take]
        omega
      · rw [upd_same, ht, List.filter_append, List.map_append]
        simp [List.filter, hf]
    | false =>
      refine iff' ⟨s, ?_⟩
      rw [e, ht, List.filter_append]
      simp [List.filter, hf]
  · rintro H' ⟨s, e⟩
    refine q D H' hD s ?_
    rw [e, List.length_map, List.take_length]
/-! ### == of two lists of ints -/
theorem eqv_ints : ∀ a b : List Int, PyData.eqvAll (dInts a) (dInts b) = decide (a = b)
  | [], [] => by unfold dInts; simp [PyData.eqvAll]
  | [], y :: s => by unfold dInts; simp [PyData.eqvAll]
  | x :: r, [] => by unfold dInts; simp [PyData.eqvAll]
  | x :: r, y :: s => by
    have ih := eqv_ints r s
    unfold dInts at *
    rw [List.map_cons, List.map_cons]
    simp only [PyData.eqvAll, ih, PyData.eqv]
    by_cases h : x = y
    · subst h
      simp
    · simp [h]
theorem eqL_ints {K : PySem.W.Frag} {H : Hp} {Q : VK} {a b : Addr} {l m : List Int} (ha : H a = some (.lst (l.map V.int))) (hb : H b = some (.lst (m.map V.int))) (q : Q (.bl (decide (l = m))) H) : rEqD K (.ref a) (.ref b) H Q := by
  refine a_eqD (dp_lst ha) (dp_lst hb) (shaped_flat (flat1 l) (by decide)) (shaped_flat (flat1 m) (by decide)) ?_
  have : PyData.eqv (.list (dInts l)) (.list (dInts m)) = decide (l = m) := by
    rw [← eqv_ints]
    simp [PyData.eqv]
  rw [this]
  exact q
/-- xs[::-1] -/
theorem bounds_rev (n : Nat) : sliceBounds none none (some (-1)) n = ((n : Int) - 1, -1, -1) := by simp [sliceBounds]
theorem range_down (n : Nat) : sliceRange ((n : Int) - 1) (-1) (-1) = (List.range n).map (fun k => n - 1 - k) := by
  unfold sliceRange
  by_cases h : (n : Int) - 1 > -1
  · have e : ((n : Int) - 1 - -1 - -1 - 1) / (- -1) = (n : Int) := by
      rw [show (- -1 : Int) = 1 from rfl, Int.ediv_one]
      omega
    simp only [show ¬ ((-1 : Int) > 0) by decide, if_false, h, if_true, e, Int.toNat_natCast]
    apply List.map_congr_left
    intro k hk
    have := List.mem_range.1 hk
    omega
  · have e : n = 0 := by omega
    subst e
    simp
theorem pick_rev (g : Nat → V) (m : Nat) : pickV ((List.range m).map g) none none (some (-1)) = (List.range m).map fun k => g (m - 1 - k) := by
  unfold pickV
  rw [List.length_map, List.length_range, bounds_rev, range_down, List.filterMap_map]
  refine fm_some _ _ _ fun k hk => ?_
  have := List.mem_range.1 hk
  show ((List.range m).map g)[m - 1 - k]? = _
  rw [List.getElem?_map, List.getElem?_range (by omega)]
  rfl
end Lk

namespace Lk
/-! ### numbers modulo p -/
def C (p a b : Int) : Prop := a % p = b % p
theorem C.refl {p : Int} (a : Int) : C p a a := rfl
theorem C.symm {p a b : Int} (h : C p a b) : C p b a := Eq.symm h
theorem C.trans {p a b c : Int} (h : C p a b) (k : C p b c) : C p a c := Eq.trans h k
theorem C.of {p a b : Int} (h : a = b) : C p a b := by rw [h]; exact rfl
theorem C.add {p a b c d : Int} (h : C p a b) (k : C p c d) : C p (a + c) (b + d) := by
  unfold C at *
  rw [Int.add_emod, h, k, ← Int.add_emod]
theorem C.mul {p a b c d : Int} (h : C p a b) (k : C p c d) : C p (a * c) (b * d) := by
  unfold C at *
  rw [Int.mul_emod, h, k, ← Int.mul_emod]
theorem C.mod {p a : Int} : C p (a % p) a := Int.emod_emod_of_dvd a (Int.dvd_refl p)
theorem C.addp {p a n : Int} : C p (a + p * n) a := Int.add_mul_emod_self_left a p n
theorem C.eq {p a b : Int} (h : C p a b) (h0 : 0 ≤ b) (h1 : b < p) : a % p = b := by
  unfold C at h
  rw [h, Int.emod_eq_of_lt h0 h1]
/-! ### sums -/
def sumN (f : Nat → Int) : Nat → Int
  | 0 => 0
  | n + 1 => sumN f n + f n
theorem sumN_add (f g : Nat → Int) : ∀ n, sumN (fun i => f i + g i) n = sumN f n + sumN g n
  | 0 => rfl
  | n + 1 => by
    show sumN _ n + (f n + g n) = (sumN f n + f n) + (sumN g n + g n)
    rw [sumN_add f g n]
    omega
theorem sumN_mul (s : Int) (f : Nat → Int) : ∀ n, sumN (fun i => s * f i) n = s * sumN f n
  | 0 => by simp [sumN]
  | n + 1 => by
    show sumN _ n + s * f n = s * (sumN f n + f n)
    rw [sumN_mul s f n, Int.mul_add]
theorem sumN_zero : ∀ n, sumN (fun _ => 0) n = 0
  | 0 => rfl
  | n + 1 => by
    show sumN _ n + 0 = 0
    rw [sumN_zero n]
    rfl
theorem sumN_C {p : Int} {f g : Nat → Int} : ∀ n, (∀ i, i < n → C p (f i) (g i)) → C p (sumN f n) (sumN g n)
  | 0, _ => rfl
  | n + 1, h => C.add (sumN_C n fun i hi => h i (by omega)) (h n (by omega))
theorem sumN_congr {f g : Nat → Int} : ∀ n, (∀ i, i < n → f i = g i) → sumN f n = sumN g n
  | 0, _ => rfl
  | n + 1, h => by
    show sumN f n + f n = sumN g n + g n
    rw [sumN_congr n fun i hi => h i (by omega), h n (by omega)]
/-- one place alone -/
theorem sumN_at (F : Nat → Int) (x : Nat) : ∀ n, sumN (fun k => if x = k then F k else 0) n = if x < n then F x else 0
  | 0 => by simp [sumN]
  | n + 1 => by
    show sumN _ n + (if x = n then F n else 0) = _
    rw [sumN_at F x n]
    by_cases h : x = n
    · subst h
      rw [if_neg (Nat.lt_irrefl _), if_pos rfl, if_pos (Nat.lt_succ_self _)]
      omega
    · rw [if_neg h]
      by_cases h2 : x < n
      · rw [if_pos h2, if_pos (by omega)]
        omega
      · rw [if_neg h2, if_neg (by omega)]
        rfl
def dot : List Int → List Int → Int
  | a :: r, b :: s => a * b + dot r s
  | _, _ => 0
theorem dot_app : ∀ (a b c d : List Int), a.length = c.length → dot (a ++ b) (c ++ d) = dot a c + dot b d
  | [], b, [], d, _ => by
    show dot b d = 0 + dot b d
    omega
  | x :: a, b, y :: c, d, h => by
    show x * y + dot (a ++ b) (c ++ d) = (x * y + dot a c) + dot b d
    rw [dot_app a b c d (by simpa using h)]
    omega
  | [], _, _ :: _, _, h => by simp at h
  | _ :: _, _, [], _, h => by simp at h
theorem dot_map {p m : Int} : ∀ (a c : List Int), C p (dot (a.map fun e => e * m % p) c) (m * dot a c)
  | [], c => by
    show C p 0 (m * 0)
    rw [Int.mul_zero]
    exact rfl
  | x :: a, [] => by
    show C p 0 (m * 0)
    rw [Int.mul_zero]
    exact rfl
  | x :: a, y :: c => by
    show C p (x * m % p * y + dot (a.map fun e => e * m % p) c) (m * (x * y + dot a c))
    refine (C.add (C.mul C.mod (C.refl y)) (dot_map a c)).trans (C.of ?_)
    grind
theorem dot_C {p : Int} : ∀ (a b c : List Int), b.length = c.length → (∀ (i : Nat) (x y : Int), b[i]? = some x → c[i]? = some y → C p x y) → C p (dot a b) (dot a c)
  | [], _, _, _, _ => rfl
  | _ :: _, [], [], _, _ => rfl
  | x :: a, y :: b, z :: c, hl, h => C.add (C.mul (C.refl x) (h 0 y z rfl rfl)) (dot_C a b c (by simpa using hl) fun i u v e1 e2 => h (i + 1) u v e1 e2)
  | _ :: _, [], _ :: _, hl, _ => by simp at hl
  | _ :: _, _ :: _, [], hl, _ => by simp at hl
/-! ### folding a table -/
def foStep (p : Int) (t : List Int) (n : Int) : List Int := (List.range (t.length / 2)).map fun (k : Nat) => (t.getD (2 * (k : Int)).toNat 0 * (1 + p - n) + t.getD (2 * (k : Int) + 1).toNat 0 * n) % p
def ptStep (p : Int) (table : List Int) (number : Int) : List Int := table.map (fun e => e * (1 - number) % p) ++ table.map (fun e => e * number % p)
def ptM (p : Int) (pt : List Int) : List Int := pt.foldl (ptStep p) [1]
def foM (p : Int) (t pt : List Int) : Int := (pt.foldl (foStep p) t).getD 0 0
theorem foStep_len {p n : Int} {t : List Int} : (foStep p t n).length = t.length / 2 := by simp [foStep]
theorem getD_app_lt {a b : List Int} {i : Nat} (h : i < a.length) : (a ++ b).getD i 0 = a.getD i 0 := by
  rw [List.getD_eq_getElem?_getD, List.getD_eq_getElem?_getD, List.getElem?_append_left h]
theorem getD_app_ge {a b : List Int} {i : Nat} (h : a.length ≤ i) : (a ++ b).getD i 0 = b.getD (i - a.length) 0 := by
  rw [List.getD_eq_getElem?_getD, List.getD_eq_getElem?_getD, List.getElem?_append_right h]
theorem foStep_app {p n : Int} {a b : List Int} {m : Nat} (h : a.length = 2 * m) : foStep p (a ++ b) n = foStep p a n ++ foStep p b n := by
  refine List.ext_getElem? fun i => ?_
  have l1 : (foStep p a n).length = m := by rw [foStep_len, h]; omega
  by_cases hi : i < m
  · rw [List.getElem?_append_left (by omega)]
    unfold foStep
    rw [List.getElem?_map, List.getElem?_map, List.getElem?_range (by rw [List.length_append]; omega), List.getElem?_range (by omega)]
    simp only [Option.map_some]
    rw [getD_app_lt (by omega), getD_app_lt (by omega)]
  · rw [List.getElem?_append_right (by omega), l1]
    unfold foStep
    rw [List.getElem?_map, List.getElem?_map]
    by_cases h2 : i < (a ++ b).length / 2
    · have h3 : i - m < b.length / 2 := by rw [List.length_append] at h2; omega
      rw [List.getElem?_range h2, List.getElem?_range h3]
      simp only [Option.map_some]
      rw [getD_app_ge (by omega), getD_app_ge (by omega)]
      have e1 : (2 * (i : Int)).toNat - a.length = (2 * ((i - m : Nat) : Int)).toNat := by omega
      have e2 : (2 * (i : Int) + 1).toNat - a.length = (2 * ((i - m : Nat) : Int) + 1).toNat := by omega
      rw [e1, e2]
    · have h3 : ¬ i - m < b.length / 2 := by rw [List.length_append] at h2; omega
      rw [List.getElem?_eq_none (by rw [List.length_range]; omega), List.getElem?_eq_none (by rw [List.length_range]; omega)]
      rfl
/-- foldings from the right end -/
def foR (p : Int) (l t : List Int) : List Int := l.foldr (fun n t => foStep p t n) t
def ptR (p : Int) (l : List Int) : List Int := l.foldr (fun n t => ptStep p t n) [1]
theorem foR_app {p : Int} : ∀ (l : List Int) (m : Nat) (a b : List Int), a.length = 2 ^ l.length * m → foR p l (a ++ b) = foR p l a ++ foR p l b ∧ (foR p l a).length = m
  | [], m, a, b, h => ⟨rfl, show a.length = m by simpa using h⟩
  | n :: l, m, a, b, h => by
    have hl : a.length = 2 ^ l.length * (2 * m) := by rw [h, List.length_cons, Nat.pow_succ, Nat.mul_assoc]
    obtain ⟨e1, e2⟩ := foR_app l (2 * m) a b hl
    refine ⟨?_, ?_⟩
    · show foStep p (foR p l (a ++ b)) n = foStep p (foR p l a) n ++ foStep p (foR p l b) n
      rw [e1, foStep_app e2]
    · show (foStep p (foR p l a) n).length = m
      rw [foStep_len, e2]
      omega
theorem ptR_len {p : Int} : ∀ l : List Int, (ptR p l).length = 2 ^ l.length
  | [] => rfl
  | n :: l => by
    show (ptStep p (ptR p l) n).length = _
    unfold ptStep
    rw [List.length_append, List.length_map, List.length_map, ptR_len l, List.length_cons, Nat.pow_succ]
    omega
theorem foR_dot {p : Int} : ∀ (l t : List Int), t.length = 2 ^ l.length → ∃ f, foR p l t = [f] ∧ C p f (dot (ptR p l) t)
  | [], t, h => by
    obtain ⟨x, rfl⟩ : ∃ x, t = [x] := List.length_eq_one_iff.mp (by simpa using h)
    refine ⟨x, rfl, C.of ?_⟩
    show x = 1 * x + 0
    omega
  | n :: l, t, h => by
    have hp : t.length = 2 ^ l.length + 2 ^ l.length := by rw [h, List.length_cons, Nat.pow_succ]; omega
    obtain ⟨f1, e1, c1⟩ := foR_dot (p := p) l (t.take (2 ^ l.length)) (by rw [List.length_take]; omega)
    obtain ⟨f2, e2, c2⟩ := foR_dot (p := p) l (t.drop (2 ^ l.length)) (by rw [List.length_drop]; omega)
    have hsp := (foR_app (p := p) l 1 (t.take (2 ^ l.length)) (t.drop (2 ^ l.length)) (by rw [List.length_take]; omega)).1
    rw [List.take_append_drop, e1, e2] at hsp
    refine ⟨(f1 * (1 + p - n) + f2 * n) % p, ?_, ?_⟩
    · show foStep p (foR p l t) n = _
      rw [hsp]
      unfold foStep
      simp [List.range_succ]
    · show C p _ (dot (ptStep p (ptR p l) n) t)
      have e3 : dot (ptStep p (ptR p l) n) t = dot ((ptR p l).map fun e => e * (1 - n) % p) (t.take (2 ^ l.length)) + dot ((ptR p l).map fun e => e * n % p) (t.drop (2 ^ l.length)) := by
        conv => lhs; rw [← List.take_append_drop (2 ^ l.length) t]
        exact dot_app _ _ _ _ (by rw [List.length_map, ptR_len, List.length_take]; omega)
      rw [e3]
      refine C.mod.trans (C.trans ?_ (C.add (dot_map _ _) (dot_map _ _)).symm)
      refine C.trans (C.add (C.mul c1 (C.refl _)) (C.mul c2 (C.refl _))) ?_
      refine C.trans (b := (1 - n) * dot (ptR p l) (t.take (2 ^ l.length)) + n * dot (ptR p l) (t.drop (2 ^ l.length)) + p * dot (ptR p l) (t.take (2 ^ l.length))) (C.of ?_) C.addp
      grind
theorem foM_dot {p : Int} (t pt : List Int) (h : t.length = 2 ^ pt.length) : ∃ f, foM p t pt = f ∧ pt.foldl (foStep p) t = [f] ∧ C p f (dot (ptM p pt) t) := by
  obtain ⟨f, e, c⟩ := foR_dot (p := p) pt.reverse t (by rw [List.length_reverse]; exact h)
  have e1 : foR p pt.reverse t = pt.foldl (foStep p) t := by unfold foR; rw [List.foldr_reverse]
  have e2 : ptR p pt.reverse = ptM p pt := by unfold ptR ptM; rw [List.foldr_reverse]
  rw [e1] at e
  rw [e2] at c
  refine ⟨f, ?_, e, c⟩
  unfold foM
  rw [e]
  rfl
/-! ### corners -/
def coM (k : Int) (bits : Nat) : List Int := (List.range bits).map fun (j : Nat) => k / (1 * 2 ^ ((j : Int)).toNat) % 2
theorem coM_succ (k : Int) (b : Nat) : coM k (b + 1) = coM k b ++ [k / (1 * 2 ^ ((b : Int)).toNat) % 2] := by
  unfold coM
  rw [List.range_succ, List.map_append]
  rfl
def ind (n k : Nat) : List Int := (List.range n).map fun i => if i = k then 1 else 0
theorem ind_get {n k i : Nat} : (ind n k).getD i 0 = if i < n ∧ i = k then 1 else 0 := by
  unfold ind
  rw [List.getD_eq_getElem?_getD, List.getElem?_map]
  by_cases h : i < n
  · rw [List.getElem?_range h]
    show (if i = k then (1 : Int) else 0) = _
    by_cases h2 : i = k
    · rw [if_pos h2, if_pos ⟨h, h2⟩]
    · rw [if_neg h2, if_neg (fun z => h2 z.2)]
  · rw [List.getElem?_eq_none (by rw [List.length_range]; omega), if_neg (fun z => h z.1)]
    rfl
theorem bit_of (k b : Nat) : ((k : Nat) : Int) / (1 * 2 ^ ((b : Int)).toNat) % 2 = ((k / 2 ^ b % 2 : Nat) : Int) := by
  rw [Int.toNat_natCast, Int.one_mul]
  have : (2 : Int) ^ b = ((2 ^ b : Nat) : Int) := by rw [Int.natCast_pow]; rfl
  rw [this]
  omega
theorem ptM_corner {p : Int} (hp : 2 ≤ p) (k : Nat) : ∀ b, ptM p (coM (k : Int) b) = ind (2 ^ b) (k % 2 ^ b)
  | 0 => by
    have : k % 2 ^ 0 = 0 := by rw [Nat.pow_zero]; omega
    rw [this]
    rfl
  | b + 1 => by
    have e : ptM p (coM (k : Int) (b + 1)) = ptStep p (ptM p (coM (k : Int) b)) (k / (1 * 2 ^ ((b : Int)).toNat) % 2) := by
      unfold ptM
      rw [coM_succ, List.foldl_append]
      rfl
    rw [e, ptM_corner hp k b, bit_of]
    have hk : k % 2 ^ (b + 1) = k % 2 ^ b + 2 ^ b * (k / 2 ^ b % 2) := by rw [Nat.pow_succ, Nat.mod_mul]
    have hb : 0 < 2 ^ b := Nat.pow_pos (by decide)
    have hlt : k % 2 ^ b < 2 ^ b := Nat.mod_lt _ hb
    have h1 : (1 : Int) % p = 1 := Int.emod_eq_of_lt (by decide) (by omega)
    refine List.ext_getElem? fun i => ?_
    unfold ptStep ind
    rw [hk]
    have hbit : k / 2 ^ b % 2 = 0 ∨ k / 2 ^ b % 2 = 1 := by omega
    by_cases hi : i < 2 ^ b
    · rw [List.getElem?_append_left (by simp; omega), List.getElem?_map, List.getElem?_map, List.getElem?_map, List.getElem?_range hi, List.getElem?_range (by rw [Nat.pow_succ]; omega)]
      simp only [Option.map_some]
      rcases hbit with h | h
      · rw [h]
        by_cases h2 : i = k % 2 ^ b
        · rw [if_pos h2, if_pos (by omega)]
          simp [h1]
        · rw [if_neg h2, if_neg (by omega)]
          simp
      · rw [h, if_neg (show ¬ i = k % 2 ^ b + 2 ^ b * 1 by omega)]
        simp
    · by_cases hi2 : i < 2 ^ (b + 1)
      · have hi3 : i - 2 ^ b < 2 ^ b := by rw [Nat.pow_succ] at hi2; omega
        rw [List.getElem?_append_right (by simp; omega), List.length_map, List.length_map, List.length_range, List.getElem?_map, List.getElem?_map, List.getElem?_map, List.getElem?_range hi3, List.getElem?_range hi2]
        simp only [Option.map_some]
        rcases hbit with h | h
        · rw [h]
          rw [if_neg (show ¬ i = k % 2 ^ b + 2 ^ b * 0 by omega)]
          simp
        · rw [h]
          by_cases h2 : i - 2 ^ b = k % 2 ^ b
          · rw [if_pos h2, if_pos (by omega)]
            simp [h1]
          · rw [if_neg h2, if_neg (by omega)]
            simp
      · rw [List.getElem?_eq_none (by simp; rw [Nat.pow_succ] at hi2; omega), List.getElem?_eq_none (by simp; omega)]
/-! ### gates -/
inductive Gate where
  | mul (c x y : Int)
  | lin (a x b y : Int)
def okG (p n : Int) : Gate → Prop
  | .mul c x y => (0 ≤ c ∧ c < p) ∧ (0 ≤ x ∧ x < n) ∧ (0 ≤ y ∧ y < n)
  | .lin a x b y => (0 ≤ a ∧ a < p) ∧ (0 ≤ x ∧ x < n) ∧ (0 ≤ b ∧ b < p) ∧ (0 ≤ y ∧ y < n)
def wbStep (p : Int) (lx ly : List Int) (r : Int × Int × Int) (s : Int × Gate) : Int × Int × Int := match s.2 with
  | .lin a x b y => ((r.1 + a * (s.1 * lx.getD x.toNat 0 % p * ly.getD y.toNat 0 % p)) % p, (r.2.1 + b * (s.1 * lx.getD x.toNat 0 % p * ly.getD y.toNat 0 % p)) % p, r.2.2)
  | .mul c x y => (r.1, r.2.1, (r.2.2 + c * s.1 * lx.getD x.toNat 0 % p * ly.getD y.toNat 0) % p)
def wbM (p : Int) (gs : List Gate) (lg lx ly : List Int) : Int × Int × Int := (lg.zip gs).foldl (wbStep p lx ly) (0, 0, 0)
/-! ### nearness of a corner, number by number -/
def facM (p : Int) (pt : List Int) (corner : Int) (k : Nat) : Int := if corner / (1 * 2 ^ ((k : Int)).toNat) % 2 = 1 then pt.getD ((k : Int)).toNat 0 else 1 + p - pt.getD ((k : Int)).toNat 0
def prodM (p : Int) (pt : List Int) (corner : Int) (m : Nat) : Int := (List.range m).foldl (fun acc k => acc * facM p pt corner k) 1
def nearM (p : Int) (pt : List Int) (corner : Int) : Int := prodM p pt corner pt.length % p
theorem prodM_succ {p corner : Int} {pt : List Int} {m : Nat} : prodM p pt corner (m + 1) = prodM p pt corner m * facM p pt corner m := by
  unfold prodM
  rw [List.range_succ, List.foldl_append]
  rfl
theorem ptM_succ {p : Int} {pt : List Int} {m : Nat} (h : m < pt.length) : ptM p (pt.take (m + 1)) = ptStep p (ptM p (pt.take m)) (pt.getD m 0) := by
  unfold ptM
  rw [List.take_add_one, List.getElem?_eq_getElem h, List.getD_eq_getElem?_getD, List.getElem?_eq_getElem h, List.foldl_append]
  rfl
theorem ptM_len' {p : Int} : ∀ (m : Nat) (pt : List Int), m ≤ pt.length → (ptM p (pt.take m)).length = 2 ^ m
  | 0, pt, _ => by rw [List.take_zero]; rfl
  | m + 1, pt, h => by
    rw [ptM_succ (by omega)]
    unfold ptStep
    rw [List.length_append, List.length_map, List.length_map, ptM_len' m pt (by omega), Nat.pow_succ]
    omega
theorem getD_map_lt {f : Int → Int} {l : List Int} {i : Nat} (h : i < l.length) : (l.map f).getD i 0 = f (l.getD i 0) := by
  rw [List.getD_eq_getElem?_getD, List.getD_eq_getElem?_getD, List.getElem?_map, List.getElem?_eq_getElem h]
  rfl
theorem prodM_C {p : Int} {pt : List Int} (i : Nat) : ∀ m, m ≤ pt.length → C p (prodM p pt (i : Int) m) ((ptM p (pt.take m)).getD (i % 2 ^ m) 0)
  | 0, _ => by
    have : i % 2 ^ 0 = 0 := by rw [Nat.pow_zero]; omega
    rw [this, List.take_zero]
    exact rfl
  | m + 1, h => by
    have ih := prodM_C (p := p) (pt := pt) i m (by omega)
    have hl := ptM_len' (p := p) m pt (by omega)
    have hb : 0 < 2 ^ m := Nat.pow_pos (by decide)
    have hlt : i % 2 ^ m < 2 ^ m := Nat.mod_lt _ hb
    rw [prodM_succ, ptM_succ (by omega)]
    have hk : i % 2 ^ (m + 1) = i % 2 ^ m + 2 ^ m * (i / 2 ^ m % 2) := by rw [Nat.pow_succ, Nat.mod_mul]
    have hbit : i / 2 ^ m % 2 = 0 ∨ i / 2 ^ m % 2 = 1 := by omega
    unfold facM ptStep
    rw [bit_of, Int.toNat_natCast]
    generalize pt.getD m 0 = n at *
    rcases hbit with h0 | h0
    · rw [hk, h0, getD_app_lt (by rw [List.length_map]; omega), getD_map_lt (by omega), if_neg (by decide)]
      simp only [Nat.mul_zero, Nat.add_zero]
      refine C.trans ?_ C.mod.symm
      refine C.trans (b := prodM p pt (i : Int) m * (1 - n) + p * prodM p pt (i : Int) m) (C.of (by grind)) (C.addp.trans (C.mul ih (C.refl _)))
    · rw [hk, h0, getD_app_ge (by rw [List.length_map]; omega), List.length_map, hl, if_pos (by decide)]
      have e : i % 2 ^ m + 2 ^ m * 1 - 2 ^ m = i % 2 ^ m := by omega
      rw [e, getD_map_lt (by omega)]
      exact (C.mul ih (C.refl _)).trans C.mod.symm
theorem ptM_lt {p : Int} (hp : 2 ≤ p) : ∀ (m : Nat) (pt : List Int), m ≤ pt.length → In 0 p (ptM p (pt.take m))
  | 0, pt, _ => fun e he => by
    rw [List.take_zero] at he
    have : e = 1 := List.mem_singleton.mp he
    omega
  | m + 1, pt, h => fun e he => by
    rw [ptM_succ (by omega)] at he
    unfold ptStep at he
    rcases List.mem_append.mp he with h1 | h1 <;> (obtain ⟨x, _, rfl⟩ := List.mem_map.mp h1; exact ⟨Int.emod_nonneg _ (by omega), Int.emod_lt_of_pos _ (by omega)⟩)
theorem nearM_eq {p : Int} (hp : 2 ≤ p) {pt : List Int} {i : Nat} (h : i < 2 ^ pt.length) : nearM p pt (i : Int) = (ptM p pt).getD i 0 := by
  have c := prodM_C (p := p) (pt := pt) i pt.length (Nat.le_refl _)
  have hin := ptM_lt hp pt.length pt (Nat.le_refl _)
  have hl := ptM_len' (p := p) pt.length pt (Nat.le_refl _)
  rw [List.take_length, Nat.mod_eq_of_lt h] at c
  rw [List.take_length] at hin hl
  have hi := hin ((ptM p pt).getD i 0) (by
    rw [List.getD_eq_getElem?_getD, List.getElem?_eq_getElem (by omega)]
    exact List.getElem_mem _)
  exact C.eq c hi.1 hi.2
def nearL (p : Int) (pt : List Int) : List Int := (List.range (2 ^ pt.length)).map fun (k : Nat) => nearM p pt (k : Int)
theorem nearL_eq {p : Int} (hp : 2 ≤ p) {pt : List Int} : nearL p pt = ptM p pt := by
  have hl := ptM_len' (p := p) pt.length pt (Nat.le_refl _)
  rw [List.take_length] at hl
  refine List.ext_getElem? fun i => ?_
  unfold nearL
  rw [List.getElem?_map]
  by_cases h : i < 2 ^ pt.length
  · rw [List.getElem?_range h, List.getElem?_eq_getElem (by omega)]
    simp only [Option.map_some]
    rw [nearM_eq hp h, List.getD_eq_getElem?_getD, List.getElem?_eq_getElem (by omega)]
    rfl
  · rw [List.getElem?_eq_none (by rw [List.length_range]; omega), List.getElem?_eq_none (by omega)]
    rfl
/-! ### the due weights -/
def clM (p : Int) (p0 p1 p2 : List Int) (col : Nat) (x y : Int) : Int := nearM p p0 (col : Int) * nearM p p1 x * nearM p p2 y
def dueStep (p : Int) (p0 p1 p2 : List Int) (r : Int × Int × Int) (col : Nat) : Gate → Int × Int × Int
  | .lin a x b y => (r.1 + a * clM p p0 p1 p2 col x y, r.2.1 + b * clM p p0 p1 p2 col x y, r.2.2)
  | .mul c x y => (r.1, r.2.1, r.2.2 + c * clM p p0 p1 p2 col x y)
def dueF (p : Int) (gs : List Gate) (p0 p1 p2 : List Int) : Nat → Int × Int × Int
  | 0 => (0, 0, 0)
  | i + 1 => match gs[i]? with
    | some g => dueStep p p0 p1 p2 (dueF p gs p0 p1 p2 i) i g
    | none => dueF p gs p0 p1 p2 i
theorem dueF_succ {p : Int} {gs : List Gate} {p0 p1 p2 : List Int} {i : Nat} {g : Gate} (h : gs[i]? = some g) : dueF p gs p0 p1 p2 (i + 1) = dueStep p p0 p1 p2 (dueF p gs p0 p1 p2 i) i g := by
  show (match gs[i]? with | some g => _ | none => _) = _
  rw [h]
def CC (p : Int) (r s : Int × Int × Int) : Prop := C p r.1 s.1 ∧ C p r.2.1 s.2.1 ∧ C p r.2.2 s.2.2
def InT (p : Int) (r : Int × Int × Int) : Prop := (0 ≤ r.1 ∧ r.1 < p) ∧ (0 ≤ r.2.1 ∧ r.2.1 < p) ∧ (0 ≤ r.2.2 ∧ r.2.2 < p)
theorem due_C {p : Int} (hp : 2 ≤ p) {gs : List Gate} {p0 p1 p2 : List Int} {n : Nat} (h0 : gs.length = 2 ^ p0.length) (h1 : 2 ^ p1.length = n) (h2 : 2 ^ p2.length = n) (hok : ∀ g ∈ gs, okG p (n : Int) g) : ∀ i, i ≤ gs.length →
    CC p ((((ptM p p0).zip gs).take i).foldl (wbStep p (ptM p p1) (ptM p p2)) (0, 0, 0)) (dueF p gs p0 p1 p2 i) ∧ InT p ((((ptM p p0).zip gs).take i).foldl (wbStep p (ptM p p1) (ptM p p2)) (0, 0, 0))
  | 0, _ => ⟨⟨rfl, rfl, rfl⟩, ⟨show (0 : Int) ≤ 0 by omega, show (0 : Int) < p by omega⟩, ⟨show (0 : Int) ≤ 0 by omega, show (0 : Int) < p by omega⟩, show (0 : Int) ≤ 0 by omega, show (0 : Int) < p by omega⟩
  | i + 1, h => by
    obtain ⟨⟨c1, c2, c3⟩, b1, b2, b3⟩ := due_C hp h0 h1 h2 hok i (by omega)
    have hl0 := ptM_len' (p := p) p0.length p0 (Nat.le_refl _)
    rw [List.take_length] at hl0
    have eg : gs[i]? = some gs[i] := List.getElem?_eq_getElem (by omega)
    have en : (ptM p p0)[i]? = some ((ptM p p0).getD i 0) := by
      rw [List.getD_eq_getElem?_getD, List.getElem?_eq_getElem (by omega)]
      rfl
    have hz : ((ptM p p0).zip gs)[i]? = some ((ptM p p0).getD i 0, gs[i]) := by
      rw [List.getElem?_zip_eq_some]
      exact ⟨en, eg⟩
    have hst : (((ptM p p0).zip gs).take (i + 1)).foldl (wbStep p (ptM p p1) (ptM p p2)) (0, 0, 0) = wbStep p (ptM p p1) (ptM p p2) ((((ptM p p0).zip gs).take i).foldl (wbStep p (ptM p p1) (ptM p p2)) (0, 0, 0)) ((ptM p p0).getD i 0, gs[i]) := by
      rw [List.take_add_one, hz, List.foldl_append]
      rfl
    have hg := hok _ (List.getElem_mem (show i < gs.length by omega))
    rw [hst, dueF_succ eg]
    have hni := nearM_eq hp (pt := p0) (i := i) (by omega)
    generalize gs[i] = g at *
    generalize (((ptM p p0).zip gs).take i).foldl (wbStep p (ptM p p1) (ptM p p2)) (0, 0, 0) = r at *
    generalize dueF p gs p0 p1 p2 i = s at *
    have hm : ∀ z : Int, 0 ≤ z % p ∧ z % p < p := fun z => ⟨Int.emod_nonneg _ (by omega), Int.emod_lt_of_pos _ (by omega)⟩
    have nx : ∀ (q : List Int) (x : Int), 2 ^ q.length = n → 0 ≤ x → x < (n : Int) → nearM p q x = (ptM p q).getD x.toNat 0 := fun q x hq hx0 hx1 => by
      have := nearM_eq hp (pt := q) (i := x.toNat) (by omega)
      rw [← this, Int.toNat_of_nonneg hx0]
    cases g with
    | lin a x b y =>
      obtain ⟨_, hx, _, hy⟩ := hg
      have cl : C p ((ptM p p0).getD i 0 * (ptM p p1).getD x.toNat 0 % p * (ptM p p2).getD y.toNat 0 % p) (clM p p0 p1 p2 i x y) := by
        unfold clM
        rw [hni, nx p1 x h1 hx.1 hx.2, nx p2 y h2 hy.1 hy.2]
        exact C.mod.trans (C.mul C.mod (C.refl _))
      exact ⟨⟨C.mod.trans (C.add c1 (C.mul (C.refl _) cl)), C.mod.trans (C.add c2 (C.mul (C.refl _) cl)), c3⟩, hm _, hm _, b3⟩
    | mul c x y =>
      obtain ⟨_, hx, hy⟩ := hg
      have cl : C p (c * (ptM p p0).getD i 0 * (ptM p p1).getD x.toNat 0 % p * (ptM p p2).getD y.toNat 0) (c * clM p p0 p1 p2 i x y) := by
        unfold clM
        rw [hni, nx p1 x h1 hx.1 hx.2, nx p2 y h2 hy.1 hy.2]
        refine (C.mul C.mod (C.refl _)).trans (C.of ?_)
        grind
      exact ⟨⟨c1, c2, C.mod.trans (C.add c3 cl)⟩, b1, b2, hm _⟩
theorem due_eq {p : Int} (hp : 2 ≤ p) {gs : List Gate} {p0 p1 p2 : List Int} {n : Nat} (h0 : gs.length = 2 ^ p0.length) (h1 : 2 ^ p1.length = n) (h2 : 2 ^ p2.length = n) (hok : ∀ g ∈ gs, okG p (n : Int) g) :
    wbM p gs (ptM p p0) (ptM p p1) (ptM p p2) = ((dueF p gs p0 p1 p2 gs.length).1 % p, (dueF p gs p0 p1 p2 gs.length).2.1 % p, (dueF p gs p0 p1 p2 gs.length).2.2 % p) := by
  obtain ⟨⟨c1, c2, c3⟩, b1, b2, b3⟩ := due_C hp h0 h1 h2 hok gs.length (Nat.le_refl _)
  have hl0 := ptM_len' (p := p) p0.length p0 (Nat.le_refl _)
  rw [List.take_length] at hl0
  have e : ((ptM p p0).zip gs).take gs.length = (ptM p p0).zip gs := List.take_of_length_le (by rw [List.length_zip]; omega)
  rw [e] at c1 c2 c3 b1 b2 b3
  unfold wbM
  rw [C.eq c1.symm b1.1 b1.2, C.eq c2.symm b2.1 b2.2, C.eq c3.symm b3.1 b3.2]
end Lk

namespace Lk
/-! ### nearness of a corner, reduced at each step -/
def pow5 : List Int := [1, 2, 4, 8, 16]
def facN (pt : List Int) (k : Int) (j : Nat) : Int := if k / pow5.getD j 0 % 2 = 1 then pt.getD j 0 else 1 - pt.getD j 0
def near3 (p : Int) (pt : List Int) (k : Int) : Nat → Int
  | 0 => 1
  | j + 1 => near3 p pt k j * facN pt k j % p
theorem pow5_at {j : Nat} (h : j < 5) : pow5.getD j 0 = 1 * 2 ^ ((j : Int)).toNat := by
  match j, h with
  | 0, _ => rfl
  | 1, _ => rfl
  | 2, _ => rfl
  | 3, _ => rfl
  | 4, _ => rfl
theorem near3_C {p : Int} {pt : List Int} {k : Int} : ∀ j, j ≤ 5 → C p (near3 p pt k j) (prodM p pt k j)
  | 0, _ => rfl
  | j + 1, h => by
    have ih := near3_C (p := p) (pt := pt) (k := k) j (by omega)
    rw [prodM_succ]
    refine C.mod.trans (C.mul ih ?_)
    unfold facN facM
    rw [pow5_at (by omega), Int.toNat_natCast]
    by_cases hc : k / (1 * 2 ^ j) % 2 = 1
    · rw [if_pos hc, if_pos hc]
      exact C.refl _
    · rw [if_neg hc, if_neg hc]
      exact (C.addp (n := 1)).symm.trans (C.of (by omega))
theorem near3_in {p : Int} (hp : 2 ≤ p) {pt : List Int} {k : Int} : ∀ j, 0 ≤ near3 p pt k j ∧ near3 p pt k j < p
  | 0 => ⟨by show (0 : Int) ≤ 1; omega, by show (1 : Int) < p; omega⟩
  | j + 1 => ⟨Int.emod_nonneg _ (by omega), Int.emod_lt_of_pos _ (by omega)⟩
theorem near3_eq {p : Int} (hp : 2 ≤ p) {pt : List Int} {i : Nat} (hl : pt.length ≤ 5) (h : i < 2 ^ pt.length) : near3 p pt (i : Int) pt.length = (ptM p pt).getD i 0 := by
  rw [← nearM_eq hp h]
  have c := near3_C (p := p) (pt := pt) (k := (i : Int)) pt.length hl
  have b := near3_in hp (pt := pt) (k := (i : Int)) pt.length
  unfold nearM
  exact (C.eq c.symm b.1 b.2).symm
/-! ### the value by all corners -/
def sumK (T : List Int) (f : Nat → Int) : Nat → Int
  | 0 => 0
  | k + 1 => sumK T f k + T.getD k 0 * f k
def lvM (p : Int) (T pt : List Int) : Int := sumN (fun k => T.getD k 0 * near3 p pt (k : Int) pt.length) T.length % p
theorem sum_dot : ∀ (a c : List Int), a.length = c.length → sumN (fun k => c.getD k 0 * a.getD k 0) c.length = dot a c := by
  intro a c
  suffices H : ∀ (n : Nat) (a c : List Int), a.length = n → c.length = n → sumN (fun k => c.getD k 0 * a.getD k 0) n = dot a c from fun h => H c.length a c h rfl
  intro n
  induction n with
  | zero =>
    intro a c h1 h2
    rw [List.length_eq_zero_iff.mp h1]
    rfl
  | succ n ih =>
    intro a c h1 h2
    have e1 : a = a.take n ++ [a.getD n 0] := by
      conv => lhs; rw [← List.take_append_drop n a]
      rw [List.drop_eq_getElem_cons (by omega), List.getD_eq_getElem?_getD, List.getElem?_eq_getElem (by omega), List.drop_eq_nil_of_le (by omega)]
      rfl
    have e2 : c = c.take n ++ [c.getD n 0] := by
      conv => lhs; rw [← List.take_append_drop n c]
      rw [List.drop_eq_getElem_cons (by omega), List.getD_eq_getElem?_getD, List.getElem?_eq_getElem (by omega), List.drop_eq_nil_of_le (by omega)]
      rfl
    rw [e1, e2, dot_app _ _ _ _ (by rw [List.length_take, List.length_take]; omega), ← ih (a.take n) (c.take n) (by rw [List.length_take]; omega) (by rw [List.length_take]; omega), ← e1, ← e2]
    show sumN _ n + c.getD n 0 * a.getD n 0 = _
    have z : dot [a.getD n 0] [c.getD n 0] = c.getD n 0 * a.getD n 0 := by
      show a.getD n 0 * c.getD n 0 + 0 = _
      rw [Int.add_zero, Int.mul_comm]
    rw [z]
    congr 1
    refine sumN_congr n fun i hi => ?_
    simp only [List.getD_eq_getElem?_getD, List.getElem?_take, hi, if_true]
theorem lvM_dot {p : Int} (hp : 2 ≤ p) {T pt : List Int} (hl : pt.length ≤ 5) (hT : T.length = 2 ^ pt.length) : lvM p T pt = dot (ptM p pt) T % p := by
  have hlen := ptM_len' (p := p) pt.length pt (Nat.le_refl _)
  rw [List.take_length] at hlen
  unfold lvM
  rw [← sum_dot (ptM p pt) T (by omega)]
  congr 1
  refine sumN_congr _ fun i hi => ?_
  rw [near3_eq hp hl (by omega)]
theorem foF_in {p : Int} (hp : 0 < p) : ∀ (pt t : List Int), In 0 p t → In 0 p (pt.foldl (foStep p) t)
  | [], t, h => h
  | n :: r, t, h => by
    rw [List.foldl_cons]
    refine foF_in hp r _ fun e he => ?_
    unfold foStep at he
    obtain ⟨x, _, rfl⟩ := List.mem_map.mp he
    exact ⟨Int.emod_nonneg _ (by omega), Int.emod_lt_of_pos _ hp⟩
theorem fold_lv {p : Int} (hp : 2 ≤ p) {T pt : List Int} (hl : pt.length ≤ 5) (hT : T.length = 2 ^ pt.length) (hin : In 0 p T) : pt.foldl (foStep p) T = [lvM p T pt] := by
  obtain ⟨f, h1, h2, h3⟩ := foM_dot (p := p) T pt hT
  have hf := foF_in (p := p) (by omega) pt T hin
  rw [h2] at hf
  have b := hf f (List.mem_singleton.mpr rfl)
  rw [h2, lvM_dot hp hl hT, C.eq h3.symm b.1 b.2]
/-! ### one folding -/
def foS (p : Int) (T : List Int) (n : Int) : List Int := (List.range (T.length / 2)).map fun k => (T.getD (2 * k) 0 + n * (T.getD (2 * k + 1) 0 - T.getD (2 * k) 0)) % p
theorem foS_eq {p n : Int} {T : List Int} : foS p T n = foStep p T n := by
  unfold foS foStep
  refine List.map_congr_left fun k _ => ?_
  have e1 : (2 * (k : Int)).toNat = 2 * k := by omega
  have e2 : (2 * (k : Int) + 1).toNat = 2 * k + 1 := by omega
  rw [e1, e2]
  generalize T.getD (2 * k) 0 = a
  generalize T.getD (2 * k + 1) 0 = b
  have : a * (1 + p - n) + b * n = (a + n * (b - a)) + p * a := by grind
  rw [this]
  exact (C.addp (p := p)).symm
def foD (p : Int) (T : List Int) (n : Int) : List Int := (List.range (T.length / 2)).map fun k => (T.getD (2 * k) 0 * (1 - n) + T.getD (2 * k + 1) 0 * n) % p
theorem foD_eq {p n : Int} {T : List Int} : foD p T n = foStep p T n := by
  rw [← foS_eq]
  unfold foD foS
  refine List.map_congr_left fun k _ => ?_
  congr 1
  grind
/-! ### nearness of two points -/
def neS (p : Int) (acc : Int) (s : Int × Int) : Int := acc * (s.1 * s.2 + (1 - s.1) * (1 - s.2)) % p
def neM (p : Int) (a b : List Int) : Int := (a.zip b).foldl (neS p) 1
theorem neM_comm {p : Int} : ∀ (a b : List Int) (x : Int), (a.zip b).foldl (neS p) x = (b.zip a).foldl (neS p) x
  | [], [], _ => rfl
  | [], _ :: _, _ => rfl
  | _ :: _, [], _ => rfl
  | u :: a, v :: b, x => by
    rw [List.zip_cons_cons, List.zip_cons_cons, List.foldl_cons, List.foldl_cons]
    have e : neS p x (u, v) = neS p x (v, u) := by
      show x * (u * v + (1 - u) * (1 - v)) % p = x * (v * u + (1 - v) * (1 - u)) % p
      congr 1
      grind
    rw [e]
    exact neM_comm a b _
theorem dot_comm : ∀ (a b : List Int), dot a b = dot b a
  | [], [] => rfl
  | [], _ :: _ => rfl
  | _ :: _, [] => rfl
  | x :: a, y :: b => by
    show x * y + dot a b = y * x + dot b a
    rw [dot_comm a b, Int.mul_comm]
theorem dot_pt {p x y : Int} {A B : List Int} (h : A.length = B.length) : C p (dot (ptStep p A x) (ptStep p B y)) (dot A B * (x * y + (1 - x) * (1 - y))) := by
  unfold ptStep
  rw [dot_app _ _ _ _ (by rw [List.length_map, List.length_map]; exact h)]
  have e : ∀ u v : Int, C p (dot (A.map fun e => e * u % p) (B.map fun e => e * v % p)) (u * (v * dot A B)) := fun u v => by
    refine dot_map (p := p) (m := u) A _ |>.trans (C.mul (C.refl u) ?_)
    rw [dot_comm A, dot_comm A]
    exact dot_map B A
  refine (C.add (e _ _) (e _ _)).trans (C.of ?_)
  grind
theorem zip_take {a b : List Int} {m : Nat} (h1 : m < a.length) (h2 : m < b.length) : (a.zip b).take (m + 1) = (a.zip b).take m ++ [(a.getD m 0, b.getD m 0)] := by
  rw [List.take_add_one, List.getElem?_eq_getElem (by rw [List.length_zip]; omega), List.getElem_zip, List.getD_eq_getElem?_getD, List.getD_eq_getElem?_getD, List.getElem?_eq_getElem h1, List.getElem?_eq_getElem h2]
  rfl
theorem ne_C {p : Int} {a b : List Int} (h : a.length = b.length) : ∀ m, m ≤ a.length → C p (((a.zip b).take m).foldl (neS p) 1) (dot (ptM p (b.take m)) (ptM p (a.take m)))
  | 0, _ => rfl
  | m + 1, hm => by
    have ih := ne_C (p := p) h m (by omega)
    rw [zip_take (by omega) (by omega), List.foldl_append, ptM_succ (by omega), ptM_succ (by omega)]
    refine C.trans ?_ (dot_pt (by rw [ptM_len' _ _ (by omega), ptM_len' _ _ (by omega)])).symm
    show C p (_ % p) _
    refine C.mod.trans (C.mul ih (C.of ?_))
    grind
theorem ne_in {p : Int} (hp : 2 ≤ p) : ∀ (L : List (Int × Int)) (x : Int), 0 ≤ x → x < p → 0 ≤ L.foldl (neS p) x ∧ L.foldl (neS p) x < p
  | [], x, h1, h2 => ⟨h1, h2⟩
  | s :: L, x, _, _ => ne_in hp L _ (Int.emod_nonneg _ (by omega)) (Int.emod_lt_of_pos _ (by omega))
theorem neM_lv {p : Int} (hp : 2 ≤ p) {a b : List Int} (h : a.length = b.length) (hl : b.length ≤ 5) : neM p a b = lvM p (ptM p a) b := by
  have ha := ptM_len' (p := p) a.length a (Nat.le_refl _)
  rw [List.take_length] at ha
  rw [lvM_dot hp hl (by rw [ha, h])]
  have c := ne_C (p := p) h a.length (Nat.le_refl _)
  rw [List.take_length, show b.take a.length = b by rw [h, List.take_length], show (a.zip b).take a.length = a.zip b from List.take_of_length_le (by rw [List.length_zip]; omega)] at c
  have b2 := ne_in hp (a.zip b) 1 (by omega) (by omega)
  exact (C.eq c.symm b2.1 b2.2).symm
end Lk

namespace Lk
/-! ### polynomials in one variable, modulo p -/
def ev : List Int → Int → Int
  | [], _ => 0
  | a :: r, t => a + t * ev r t
def PD (p : Int) (n : Nat) (f : Int → Int) : Prop := ∃ c : List Int, c.length = n + 1 ∧ ∀ t, C p (f t) (ev c t)
theorem ev_scale (b : Int) : ∀ (c : List Int) (t : Int), ev (c.map fun x => b * x) t = b * ev c t
  | [], t => by show (0 : Int) = b * 0; omega
  | a :: r, t => by
    show b * a + t * ev (r.map fun x => b * x) t = b * (a + t * ev r t)
    rw [ev_scale b r t]
    grind
def addL : List Int → List Int → List Int
  | a :: r, b :: s => (a + b) :: addL r s
  | [], s => s
  | r, [] => r
theorem ev_add : ∀ (a b : List Int) (t : Int), ev (addL a b) t = ev a t + ev b t
  | [], s, t => by
    have : addL [] s = s := by cases s <;> rfl
    rw [this]
    show ev s t = 0 + ev s t
    omega
  | x :: r, [], t => by
    show ev (x :: r) t = ev (x :: r) t + 0
    omega
  | x :: r, y :: s, t => by
    show (x + y) + t * ev (addL r s) t = (x + t * ev r t) + (y + t * ev s t)
    rw [ev_add r s t]
    grind
theorem len_add : ∀ (a b : List Int), a.length = b.length → (addL a b).length = a.length
  | [], [], _ => rfl
  | x :: r, y :: s, h => by
    show (addL r s).length + 1 = r.length + 1
    rw [len_add r s (by simpa using h)]
  | [], _ :: _, h => by simp at h
  | _ :: _, [], h => by simp at h
theorem ev_snoc : ∀ (c : List Int) (t : Int), ev (c ++ [0]) t = ev c t
  | [], t => by show 0 + t * 0 = 0; omega
  | a :: r, t => by
    show a + t * ev (r ++ [0]) t = a + t * ev r t
    rw [ev_snoc r t]
theorem PD.const {p : Int} (x : Int) : PD p 0 (fun _ => x) := ⟨[x], rfl, fun t => C.of (by show x = x + t * 0; omega)⟩
theorem PD.add {p : Int} {n : Nat} {f g : Int → Int} (hf : PD p n f) (hg : PD p n g) : PD p n (fun t => f t + g t) := by
  obtain ⟨c, c1, c2⟩ := hf
  obtain ⟨d, d1, d2⟩ := hg
  refine ⟨addL c d, by rw [len_add c d (by omega), c1], fun t => ?_⟩
  rw [ev_add]
  exact C.add (c2 t) (d2 t)
theorem PD.lin {p a b : Int} {n : Nat} {f : Int → Int} (hf : PD p n f) : PD p (n + 1) (fun t => f t * (a + b * t)) := by
  obtain ⟨c, c1, c2⟩ := hf
  refine ⟨addL (c.map (fun x => a * x) ++ [0]) (0 :: c.map fun x => b * x), ?_, fun t => ?_⟩
  · rw [len_add _ _ (by simp), List.length_append, List.length_map, c1]
    rfl
  · rw [ev_add, ev_snoc, ev_scale]
    show C p (f t * (a + b * t)) (a * ev c t + (0 + t * ev (c.map fun x => b * x) t))
    rw [ev_scale]
    exact (C.mul (c2 t) (C.refl _)).trans (C.of (by grind))
theorem PD.congr {p : Int} {n : Nat} {f g : Int → Int} (hf : PD p n f) (h : ∀ t, C p (g t) (f t)) : PD p n g := by
  obtain ⟨c, c1, c2⟩ := hf
  exact ⟨c, c1, fun t => (h t).trans (c2 t)⟩
/-- the line -/
def lnM (p : Int) (a b : List Int) (t : Int) : List Int := (a.zip b).map fun s => (s.1 + t * (s.2 - s.1)) % p
theorem pd_step {p : Int} {n m : Nat} {F : Int → List Int} {x : Int → Int} {a b : Int} (hx : ∀ t, C p (x t) (a + b * t)) (hl : ∀ t, (F t).length = m) (h : ∀ k, PD p n (fun t => (F t).getD k 0)) (k : Nat) : PD p (n + 1) (fun t => (foStep p (F t) (x t)).getD k 0) := by
  have hout : ∀ t, C p ((foStep p (F t) (x t)).getD k 0) (if k < m / 2 then (F t).getD (2 * k) 0 * ((1 - a) + (-b) * t) + (F t).getD (2 * k + 1) 0 * (a + b * t) else 0) := fun t => by
    rw [← foD_eq]
    unfold foD
    rw [hl t, List.getD_eq_getElem?_getD, List.getElem?_map]
    by_cases hk : k < m / 2
    · rw [List.getElem?_range hk, if_pos hk]
      show C p (_ % p) _
      refine C.mod.trans (C.add (C.mul (C.refl _) ?_) (C.mul (C.refl _) (hx t)))
      have h2 := C.add (C.refl (p := p) 1) (C.mul (C.refl (p := p) (-1)) (hx t))
      exact (C.of (by omega)).trans (h2.trans (C.of (by grind)))
    · rw [List.getElem?_eq_none (by rw [List.length_range]; omega), if_neg hk]
      exact C.refl _
  by_cases hk : k < m / 2
  · refine PD.congr (PD.add ((h (2 * k)).lin (a := 1 - a) (b := -b)) ((h (2 * k + 1)).lin (a := a) (b := b))) fun t => ?_
    have := hout t
    rw [if_pos hk] at this
    exact this
  · refine PD.congr ((h 0).lin (a := 0) (b := 0)) fun t => ?_
    have := hout t
    rw [if_neg hk] at this
    exact this.trans (C.of (by grind))
theorem pd_fold {p : Int} : ∀ (L : List (Int × Int)) (n m : Nat) (F : Int → List Int), (∀ t, (F t).length = m) → (∀ k, PD p n (fun t => (F t).getD k 0)) →
    ∀ k, PD p (n + L.length) (fun t => ((L.map fun s => (s.1 + t * (s.2 - s.1)) % p).foldl (foStep p) (F t)).getD k 0)
  | [], n, m, F, hl, h, k => h k
  | s :: L, n, m, F, hl, h, k => by
    have st := pd_step (p := p) (n := n) (m := m) (F := F) (x := fun t => (s.1 + t * (s.2 - s.1)) % p) (a := s.1) (b := s.2 - s.1) (fun t => C.mod.trans (C.of (by grind))) hl h
    have := pd_fold L (n + 1) (m / 2) (fun t => foStep p (F t) ((s.1 + t * (s.2 - s.1)) % p)) (fun t => by rw [foStep_len, hl t]) st k
    rw [show n + (s :: L).length = n + 1 + L.length by rw [List.length_cons]; omega]
    exact this
theorem line_pd {p : Int} (a b T : List Int) : PD p (a.zip b).length (fun t => ((lnM p a b t).foldl (foStep p) T).getD 0 0) := by
  have := pd_fold (p := p) (a.zip b) 0 T.length (fun _ => T) (fun _ => rfl) (fun k => PD.const _) 0
  rw [Nat.zero_add] at this
  exact this
/-! ### the polynomial by its values at 0 .. n -/
def pr (g : Nat → Int) (k : Nat) : Nat → Int
  | 0 => 1
  | m + 1 => if m = k then pr g k m else pr g k m * g m
theorem id0 (t c0 : Int) : 0 + ev [c0] (0 : Nat) * (pr (fun j => t - (j : Int)) 0 1) * (1) = 1 * ev [c0] t := by
  simp only [ev, pr, Nat.reduceEqDiff, if_true, if_false]
  grind
theorem id1 (t c0 c1 : Int) : 0 + ev [c0,c1] (0 : Nat) * (pr (fun j => t - (j : Int)) 0 2) * (-1) + ev [c0,c1] (1 : Nat) * (pr (fun j => t - (j : Int)) 1 2) * (1) = 1 * ev [c0,c1] t := by
  simp only [ev, pr, Nat.reduceEqDiff, if_true, if_false]
  grind
theorem id2 (t c0 c1 c2 : Int) : 0 + ev [c0,c1,c2] (0 : Nat) * (pr (fun j => t - (j : Int)) 0 3) * (1) + ev [c0,c1,c2] (1 : Nat) * (pr (fun j => t - (j : Int)) 1 3) * (-2) + ev [c0,c1,c2] (2 : Nat) * (pr (fun j => t - (j : Int)) 2 3) * (1) = 2 * ev [c0,c1,c2] t := by
  simp only [ev, pr, Nat.reduceEqDiff, if_true, if_false]
  grind
theorem id3 (t c0 c1 c2 c3 : Int) : 0 + ev [c0,c1,c2,c3] (0 : Nat) * (pr (fun j => t - (j : Int)) 0 4) * (-1) + ev [c0,c1,c2,c3] (1 : Nat) * (pr (fun j => t - (j : Int)) 1 4) * (3) + ev [c0,c1,c2,c3] (2 : Nat) * (pr (fun j => t - (j : Int)) 2 4) * (-3) + ev [c0,c1,c2,c3] (3 : Nat) * (pr (fun j => t - (j : Int)) 3 4) * (1) = 6 * ev [c0,c1,c2,c3] t := by
  simp only [ev, pr, Nat.reduceEqDiff, if_true, if_false]
  grind
theorem id4 (t c0 c1 c2 c3 c4 : Int) : 0 + ev [c0,c1,c2,c3,c4] (0 : Nat) * (pr (fun j => t - (j : Int)) 0 5) * (1) + ev [c0,c1,c2,c3,c4] (1 : Nat) * (pr (fun j => t - (j : Int)) 1 5) * (-4) + ev [c0,c1,c2,c3,c4] (2 : Nat) * (pr (fun j => t - (j : Int)) 2 5) * (6) + ev [c0,c1,c2,c3,c4] (3 : Nat) * (pr (fun j => t - (j : Int)) 3 5) * (-4) + ev [c0,c1,c2,c3,c4] (4 : Nat) * (pr (fun j => t - (j : Int)) 4 5) * (1) = 24 * ev [c0,c1,c2,c3,c4] t := by
  simp only [ev, pr, Nat.reduceEqDiff, if_true, if_false]
  grind
theorem id5 (t c0 c1 c2 c3 c4 c5 : Int) : 0 + ev [c0,c1,c2,c3,c4,c5] (0 : Nat) * (pr (fun j => t - (j : Int)) 0 6) * (-1) + ev [c0,c1,c2,c3,c4,c5] (1 : Nat) * (pr (fun j => t - (j : Int)) 1 6) * (5) + ev [c0,c1,c2,c3,c4,c5] (2 : Nat) * (pr (fun j => t - (j : Int)) 2 6) * (-10) + ev [c0,c1,c2,c3,c4,c5] (3 : Nat) * (pr (fun j => t - (j : Int)) 3 6) * (10) + ev [c0,c1,c2,c3,c4,c5] (4 : Nat) * (pr (fun j => t - (j : Int)) 4 6) * (-5) + ev [c0,c1,c2,c3,c4,c5] (5 : Nat) * (pr (fun j => t - (j : Int)) 5 6) * (1) = 120 * ev [c0,c1,c2,c3,c4,c5] t := by
  simp only [ev, pr, Nat.reduceEqDiff, if_true, if_false]
  grind
def bn (n : Nat) : List Int := match n with
  | 0 => [1]
  | 1 => [-1, 1]
  | 2 => [1, -2, 1]
  | 3 => [-1, 3, -3, 1]
  | 4 => [1, -4, 6, -4, 1]
  | 5 => [-1, 5, -10, 10, -5, 1]
  | _ => []
def fac (n : Nat) : Int := [1, 1, 2, 6, 24, 120].getD n 0
theorem bn_w : ∀ n, n ≤ 5 → ∀ k, k ≤ n → (bn n).getD k 0 * pr (fun j => (k : Int) - (j : Int)) k (n + 1) = fac n := by decide +kernel
theorem fac_120 : ∀ n, n ≤ 5 → fac n * (120 / fac n) = 120 := by decide +kernel
theorem lag : ∀ n, n ≤ 5 → ∀ c : List Int, c.length = n + 1 → ∀ t : Int, sumN (fun k => ev c (k : Int) * pr (fun j => t - (j : Int)) k (n + 1) * (bn n).getD k 0) (n + 1) = fac n * ev c t
  | 0, _, c, h, t => by
    match c, h with
    | [c0], _ => exact id0 t c0
  | 1, _, c, h, t => by
    match c, h with
    | [c0, c1], _ => exact id1 t c0 c1
  | 2, _, c, h, t => by
    match c, h with
    | [c0, c1, c2], _ => exact id2 t c0 c1 c2
  | 3, _, c, h, t => by
    match c, h with
    | [c0, c1, c2, c3], _ => exact id3 t c0 c1 c2 c3
  | 4, _, c, h, t => by
    match c, h with
    | [c0, c1, c2, c3, c4], _ => exact id4 t c0 c1 c2 c3 c4
  | 5, _, c, h, t => by
    match c, h with
    | [c0, c1, c2, c3, c4, c5], _ => exact id5 t c0 c1 c2 c3 c4 c5
  | n + 6, h, _, _, _ => by omega
/-- the two products, reduced at each step -/
def prP (p : Int) (g : Nat → Int) (k : Nat) : Nat → Int
  | 0 => 1
  | m + 1 => if m = k then prP p g k m else prP p g k m * g m % p
theorem prP_C {p : Int} {g : Nat → Int} {k : Nat} : ∀ m, C p (prP p g k m) (pr g k m)
  | 0 => rfl
  | m + 1 => by
    show C p (if m = k then prP p g k m else prP p g k m * g m % p) (if m = k then pr g k m else pr g k m * g m)
    by_cases h : m = k
    · rw [if_pos h, if_pos h]
      exact prP_C m
    · rw [if_neg h, if_neg h]
      exact C.mod.trans (C.mul (prP_C m) (C.refl _))
def invL (p b : Int) : List Int := ((List.range p.toNat).filter fun (x : Nat) => decide ((x : Int) * b % p = 1)).map fun (x : Nat) => (x : Int)
def invS (p b : Int) : Int := (invL p b).getD 0 0
theorem inv_ok {p b x : Int} (hp : 2 ≤ p) (h : C p (x * b) 1) : 0 < (invL p b).length ∧ C p (invS p b * b) 1 := by
  have h1 : (1 : Int) % p = 1 := Int.emod_eq_of_lt (by omega) (by omega)
  have b1 : 0 ≤ x % p := Int.emod_nonneg _ (by omega)
  have b2 : x % p < p := Int.emod_lt_of_pos _ (by omega)
  have hx : C p (x % p * b) 1 := (C.mul C.mod (C.refl b)).trans h
  have hm : (x % p).toNat ∈ (List.range p.toNat).filter fun (x : Nat) => decide ((x : Int) * b % p = 1) := by
    refine List.mem_filter.mpr ⟨List.mem_range.mpr (by omega), decide_eq_true ?_⟩
    rw [Int.toNat_of_nonneg b1]
    unfold C at hx
    rw [hx, h1]
  have hpos : 0 < ((List.range p.toNat).filter fun (x : Nat) => decide ((x : Int) * b % p = 1)).length := List.length_pos_of_mem hm
  refine ⟨by unfold invL; rw [List.length_map]; exact hpos, ?_⟩
  unfold invS invL
  rw [List.getD_eq_getElem?_getD, List.getElem?_map, List.getElem?_eq_getElem hpos]
  have := (List.mem_filter.mp (List.getElem_mem hpos)).2
  have := of_decide_eq_true this
  unfold C
  rw [h1]
  exact this
/-- the law's sum -/
def totL (p : Int) (v : List Int) (t : Int) (n : Nat) : Nat → Int
  | 0 => 0
  | k + 1 => (totL p v t n k + v.getD k 0 * prP p (fun j => t - (j : Int)) k n * invS p (prP p (fun j => (k : Int) - (j : Int)) k n)) % p
theorem tot_C {p : Int} {v : List Int} {t : Int} {n : Nat} : ∀ k, C p (totL p v t n k) (sumN (fun k => v.getD k 0 * pr (fun j => t - (j : Int)) k n * invS p (prP p (fun j => (k : Int) - (j : Int)) k n)) k)
  | 0 => rfl
  | k + 1 => C.mod.trans (C.add (tot_C k) (C.mul (C.mul (C.refl _) (prP_C n)) (C.refl _)))
theorem inv_at {p u : Int} (hp : 2 ≤ p) (hu : C p (120 * u) 1) {n k : Nat} (hn : n ≤ 5) (hk : k ≤ n) :
    0 < (invL p (prP p (fun j => (k : Int) - (j : Int)) k (n + 1))).length ∧ C p (invS p (prP p (fun j => (k : Int) - (j : Int)) k (n + 1)) * prP p (fun j => (k : Int) - (j : Int)) k (n + 1)) 1 := by
  have e := bn_w n hn k hk
  have f := fac_120 n hn
  refine inv_ok (x := (bn n).getD k 0 * (120 / fac n) * u) hp ?_
  refine (C.mul (C.refl _) (prP_C (n + 1))).trans (C.trans (C.of ?_) hu)
  generalize pr (fun j => (k : Int) - (j : Int)) k (n + 1) = w at *
  generalize (bn n).getD k 0 = b at *
  generalize 120 / fac n = z at *
  generalize fac n = F at *
  rw [← f, ← e]
  have : b * z * u * w = (b * w) * z * u := by
    rw [Int.mul_right_comm (b * z) u w, Int.mul_right_comm b z w]
  exact this
theorem lag_law {p u : Int} (hp : 2 ≤ p) (hu : C p (120 * u) 1) {n : Nat} (hn : n ≤ 5) {f : Int → Int} (hf : PD p n f) {v : List Int} (hv : ∀ k, k ≤ n → C p (v.getD k 0) (f (k : Int))) (t : Int) :
    C p (totL p v t (n + 1) (n + 1)) (f t) := by
  obtain ⟨c, c1, c2⟩ := hf
  refine (tot_C (n + 1)).trans ?_
  refine C.trans ?_ (c2 t).symm
  have key : C p (fac n * sumN (fun k => v.getD k 0 * pr (fun j => t - (j : Int)) k (n + 1) * invS p (prP p (fun j => (k : Int) - (j : Int)) k (n + 1))) (n + 1)) (fac n * ev c t) := by
    rw [← lag n hn c c1 t, ← sumN_mul]
    refine sumN_C (n + 1) fun k hk => ?_
    have hi := (inv_at hp hu hn (show k ≤ n by omega)).2
    have e := bn_w n hn k (by omega)
    have hvk := (hv k (by omega)).trans (c2 (k : Int))
    have hi2 : C p (invS p (prP p (fun j => (k : Int) - (j : Int)) k (n + 1)) * pr (fun j => (k : Int) - (j : Int)) k (n + 1)) 1 := (C.mul (C.refl _) (prP_C (n + 1)).symm).trans hi
    have h3 : C p (fac n * invS p (prP p (fun j => (k : Int) - (j : Int)) k (n + 1))) ((bn n).getD k 0) := by
      rw [← e]
      refine C.trans (C.of ?_) ((C.mul (C.refl ((bn n).getD k 0)) hi2).trans (C.of (Int.mul_one _)))
      generalize pr (fun j => (k : Int) - (j : Int)) k (n + 1) = w
      generalize (bn n).getD k 0 = b
      generalize invS p (prP p (fun j => (k : Int) - (j : Int)) k (n + 1)) = z
      grind
    have h4 := C.mul (C.mul hvk (C.refl (pr (fun j => t - (j : Int)) k (n + 1)))) h3
    refine C.trans (C.of ?_) h4
    generalize invS p (prP p (fun j => (k : Int) - (j : Int)) k (n + 1)) = z
    generalize pr (fun j => t - (j : Int)) k (n + 1) = w
    grind
  have f120 := fac_120 n hn
  have k2 := C.mul (C.refl (p := p) (120 / fac n * u)) key
  have one : ∀ x : Int, C p (120 / fac n * u * (fac n * x)) x := fun x => by
    refine C.trans (C.of (show _ = 120 * u * x from ?_)) ((C.mul hu (C.refl x)).trans (C.of (Int.one_mul x)))
    have : 120 / fac n * u * (fac n * x) = (fac n * (120 / fac n)) * u * x := by grind
    rw [this, f120]
  exact (one _).symm.trans (k2.trans (one _))
/-- the primes of the law up to 300 -/
theorem u120 {p : Int} (h : p = 7 ∨ p = 11 ∨ p = 97 ∨ p = 251) : ∃ u, C p (120 * u) 1 := by
  rcases h with rfl | rfl | rfl | rfl
  · exact ⟨1, by unfold C; decide⟩
  · exact ⟨10, by unfold C; decide⟩
  · exact ⟨38, by unfold C; decide⟩
  · exact ⟨228, by unfold C; decide⟩
theorem tot_in {p : Int} (hp : 2 ≤ p) {v : List Int} {t : Int} {n : Nat} : ∀ k, 0 ≤ totL p v t n k ∧ totL p v t n k < p
  | 0 => ⟨Int.le_refl _, by show (0 : Int) < p; omega⟩
  | k + 1 => ⟨Int.emod_nonneg _ (by omega), Int.emod_lt_of_pos _ (by omega)⟩
theorem ln_len {p t : Int} {a b : List Int} (h : a.length = b.length) : (lnM p a b t).length = a.length := by
  unfold lnM
  rw [List.length_map, List.length_zip]
  omega
/-- the law's sum is the value on the line -/
theorem tot_line {p : Int} (hp : p = 7 ∨ p = 11 ∨ p = 97 ∨ p = 251) {a b T : List Int} (hab : a.length = b.length) (hl : a.length ≤ 5) (hT : T.length = 2 ^ a.length) (hin : In 0 p T) (t : Int) :
    totL p ((List.range (a.length + 1)).map fun (k : Nat) => lvM p T (lnM p a b (k : Int))) t (a.length + 1) (a.length + 1) = lvM p T (lnM p a b t) := by
  have hp2 : 2 ≤ p := by omega
  obtain ⟨u, hu⟩ := u120 hp
  have hz : (a.zip b).length = a.length := by rw [List.length_zip]; omega
  have hv : ∀ t, ((lnM p a b t).foldl (foStep p) T).getD 0 0 = lvM p T (lnM p a b t) := fun t => by
    rw [fold_lv hp2 (by rw [ln_len hab]; exact hl) (by rw [ln_len hab, hT]) hin]
    rfl
  have pd := line_pd (p := p) a b T
  rw [hz] at pd
  have := lag_law hp2 hu hl pd (v := (List.range (a.length + 1)).map fun (k : Nat) => lvM p T (lnM p a b (k : Int))) (fun k hk => by
    rw [List.getD_eq_getElem?_getD, List.getElem?_map, List.getElem?_range (by omega)]
    exact C.of (hv (k : Int)).symm) t
  have this := this.trans (C.of (hv t))
  have i1 := tot_in hp2 (v := (List.range (a.length + 1)).map fun (k : Nat) => lvM p T (lnM p a b (k : Int))) (t := t) (n := a.length + 1) (a.length + 1)
  have i2 : 0 ≤ lvM p T (lnM p a b t) ∧ lvM p T (lnM p a b t) < p := ⟨Int.emod_nonneg _ (by omega), Int.emod_lt_of_pos _ (by omega)⟩
  have e1 := C.eq this i2.1 i2.2
  rw [Int.emod_eq_of_lt i1.1 i1.2] at e1
  exact e1
end Lk

namespace Lk
open PySem PySem.Spec PyProof.Rows L2
local macro_rules | `(tactic| walk_at "side") => `(tactic| first | assumption | exact rfl | omega | (show _ ∧ _; omega) | (unfold CMul; omega) | (unfold CPow; omega) | (exact sql (by assumption)) | (exact sqt (by assumption)) | (exact cdw (by omega) (by omega)))
local macro_rules | `(tactic| walk_at "hs1") => `(tactic| first
  | (with_reducible refine a_seq ?_)
  | (with_reducible refine a_asg ?_)
  | (with_reducible refine a_gname ?_)
  | (with_reducible refine a_op ?_)
  | (with_reducible refine a_c ?_)
  | ((with_reducible refine' a_var ?h ?_); (case h => exact rfl))
  | (with_reducible refine a_i0 ?_)
  | ((with_reducible refine' a_iC ?h ?_); (case h => walk_at "side"))
  | (with_reducible refine a_un ?_)
  | (with_reducible refine a_u ?_)
  | (with_reducible refine a_ifS ?_)
  | (with_reducible refine a_test ?_)
  | (with_reducible refine a_tB ?_)
  | (with_reducible refine a_bl ?_)
  | (with_reducible refine a_eqI ?_)
  | (with_reducible refine a_neI ?_)
  | (with_reducible refine a_eqS ?_)
  | (with_reducible refine a_neS ?_)
  | (with_reducible refine a_eqB ?_)
  | (with_reducible refine a_neB ?_)
  | (with_reducible refine a_and ?_)
  | (with_reducible refine a_or ?_)
  | (with_reducible refine a_not ?_)
  | (with_reducible refine a_ifx ?_)
  | (with_reducible refine a_cons ?_)
  | (with_reducible refine a_nil ?_)
  | (with_reducible refine a_call ?_)
  | (with_reducible refine a_cb ?_)
  | (with_reducible refine a_int ?_)
  | (with_reducible refine a_ret ?_)
  | (with_reducible refine a_drop ?_)
  | (with_reducible refine a_next ?_)
  | (with_reducible refine a_for ?_)
  | (with_reducible refine a_iList ?_)
  | (with_reducible refine a_rng1 ?_)
  | (with_reducible refine a_zip ?_)
  | (with_reducible refine a_tup ?_)
  | (with_reducible refine a_lst ?_)
  | (with_reducible refine a_gsub ?_)
  | (with_reducible refine a_gcons ?_)
  | (with_reducible refine a_gnil ?_)
  | ((with_reducible refine' a_aug ?h ?_); (case h => exact rfl))
  | (with_reducible refine a_ip ?_)
  | ((with_reducible refine' a_ixL ?h ?e ?_); (case h => walk_at "side"); (case e => first | exact rfl | exact at0 | exact at_int (by omega) (by omega)))
  | ((with_reducible refine' a_len ?h ?_); (case h => walk_at "side"))
  | (with_reducible refine a_bm ?_)
  | ((with_reducible refine' a_exrng ?h ?h2 ?_); (case h => omega); (case h2 => omega))
  | (with_reducible refine a_abs ?_)
  | (with_reducible refine a_sl3 ?_)
  | (with_reducible refine a_sl ?_)
  | (with_reducible refine a_part ?_)
  | (with_reducible refine a_nopart ?_)
  | (with_reducible refine a_exi ?_)
  | (with_reducible refine a_trI ?_)
  | (with_reducible refine a_trL ?_)
  | (with_reducible refine a_bm0 ?_)
  | (with_reducible refine a_rng2 ?_)
  | ((with_reducible refine' a_exrng2 ?h ?_); (case h => omega))
  | (with_reducible refine a_rng3 ?_)
  | ((with_reducible refine' a_exrng3 ?h ?_); (case h => omega))
  | (with_reducible refine a_max2 ?_)
  | (with_reducible refine a_min2 ?_)
  | (with_reducible refine a_lstRg ?_)
  | (with_reducible refine a_rg1 ?_)
  | (with_reducible refine a_byE ?_)
  | (with_reducible refine a_raiseE ?_)
  | (with_reducible refine a_callS ?_)
  | (with_reducible refine a_notN ?_)
  | (with_reducible refine a_andV ?_)
  | (with_reducible refine a_orV ?_)
  | (with_reducible refine a_notV ?_)
  | (with_reducible refine a_chain ?_)
  | ((with_reducible refine' a_tyL ?h ?_); (case h => walk_at "side"))
  | ((with_reducible refine' a_ixT ?h ?e ?_); (case h => walk_at "side"); (case e => exact rfl)))
local macro_rules | `(tactic| walk_at "hs") => `(tactic| repeat walk_at "hs1")

/-! ### the text -/
def topS (i : Nat) : Stmt := PySem.Challenge.pw_layerask_k03_tables.main.body.getD i (.Pass ⟨0, 0, 0, 0⟩)
abbrev s_fold : Stmt := topS 1
abbrev N_fold : List Str := ["table", "number", "p", "low", "high"]
theorem sc_fold : FnScope N_fold ["table", "number", "p"] (defScope s_fold) := ⟨rfl, rfl, rfl, by decide +kernel, rfl, by decide +kernel, by decide +kernel⟩
abbrev s_with_first : Stmt := topS 2
abbrev N_with_first : List Str := ["table", "point", "p", "left", "number"]
theorem sc_with_first : FnScope N_with_first ["table", "point", "p"] (defScope s_with_first) := ⟨rfl, rfl, rfl, by decide +kernel, rfl, by decide +kernel, by decide +kernel⟩
abbrev s_value_at : Stmt := topS 3
abbrev N_value_at : List Str := ["table", "point", "p"]
theorem sc_value_at : FnScope N_value_at ["table", "point", "p"] (defScope s_value_at) := ⟨rfl, rfl, rfl, by decide +kernel, rfl, by decide +kernel, by decide +kernel⟩
abbrev s_point_table : Stmt := topS 4
abbrev N_point_table : List Str := ["point", "p", "table", "number", "without", "entry"]
theorem sc_point_table : FnScope N_point_table ["point", "p"] (defScope s_point_table) := ⟨rfl, rfl, rfl, by decide +kernel, rfl, by decide +kernel, by decide +kernel⟩
abbrev s_nearness : Stmt := topS 5
abbrev N_nearness : List Str := ["point", "other", "p", "result", "here", "there"]
theorem sc_nearness : FnScope N_nearness ["point", "other", "p"] (defScope s_nearness) := ⟨rfl, rfl, rfl, by decide +kernel, rfl, by decide +kernel, by decide +kernel⟩
abbrev s_between : Stmt := topS 6
abbrev N_between : List Str := ["point", "other", "t", "p", "here", "there"]
theorem sc_between : FnScope N_between ["point", "other", "t", "p"] (defScope s_between) := ⟨rfl, rfl, rfl, by decide +kernel, rfl, by decide +kernel, by decide +kernel⟩
abbrev s_line_values : Stmt := topS 7
abbrev N_line_values : List Str := ["table", "point", "other", "p", "t"]
theorem sc_line_values : FnScope N_line_values ["table", "point", "other", "p"] (defScope s_line_values) := ⟨rfl, rfl, rfl, by decide +kernel, rfl, by decide +kernel, by decide +kernel⟩
abbrev s__law_state : Stmt := topS 9
abbrev N__law_state : List Str := ["script", "seed", "cell"]
theorem sc__law_state : FnScope N__law_state ["script"] (defScope s__law_state) := ⟨rfl, rfl, rfl, by decide +kernel, rfl, by decide +kernel, by decide +kernel⟩
abbrev s__law_draw : Stmt := topS 10
abbrev N__law_draw : List Str := ["state", "many", "cells", "number", "mixed"]
theorem sc__law_draw : FnScope N__law_draw ["state", "many"] (defScope s__law_draw) := ⟨rfl, rfl, rfl, by decide +kernel, rfl, by decide +kernel, by decide +kernel⟩
abbrev s__law_pick : Stmt := topS 11
abbrev N__law_pick : List Str := ["state", "row"]
theorem sc__law_pick : FnScope N__law_pick ["state", "row"] (defScope s__law_pick) := ⟨rfl, rfl, rfl, by decide +kernel, rfl, by decide +kernel, by decide +kernel⟩
abbrev s__law_near : Stmt := topS 12
abbrev N__law_near : List Str := ["index", "point", "p", "product", "j", "factor"]
theorem sc__law_near : FnScope N__law_near ["index", "point", "p"] (defScope s__law_near) := ⟨rfl, rfl, rfl, by decide +kernel, rfl, by decide +kernel, by decide +kernel⟩
abbrev s__law_value : Stmt := topS 13
abbrev N__law_value : List Str := ["table", "point", "p", "k"]
theorem sc__law_value : FnScope N__law_value ["table", "point", "p"] (defScope s__law_value) := ⟨rfl, rfl, rfl, by decide +kernel, rfl, by decide +kernel, by decide +kernel⟩
abbrev s__law_point : Stmt := topS 14
abbrev N__law_point : List Str := ["state", "many", "p", "k"]
theorem sc__law_point : FnScope N__law_point ["state", "many", "p"] (defScope s__law_point) := ⟨rfl, rfl, rfl, by decide +kernel, rfl, by decide +kernel, by decide +kernel⟩
abbrev s__law_line : Stmt := topS 15
abbrev N__law_line : List Str := ["one", "two", "t", "p", "k"]
theorem sc__law_line : FnScope N__law_line ["one", "two", "t", "p"] (defScope s__law_line) := ⟨rfl, rfl, rfl, by decide +kernel, rfl, by decide +kernel, by decide +kernel⟩
abbrev s__law_at : Stmt := topS 16
abbrev N__law_at : List Str := ["values", "t", "p", "total", "k", "above", "below", "j", "inverse", "x"]
theorem sc__law_at : FnScope N__law_at ["values", "t", "p"] (defScope s__law_at) := ⟨rfl, rfl, rfl, by decide +kernel, rfl, by decide +kernel, by decide +kernel⟩
abbrev s__law_lines_right : Stmt := topS 17
abbrev N__law_lines_right : List Str := ["state", "table", "many", "p", "one", "two", "t", "values", "due", "k", "near"]
theorem sc__law_lines_right : FnScope N__law_lines_right ["state", "table", "many", "p"] (defScope s__law_lines_right) := ⟨rfl, rfl, rfl, by decide +kernel, rfl, by decide +kernel, by decide +kernel⟩
abbrev s_law : Stmt := topS 18
abbrev N_law : List Str := ["script", "state", "cell", "p", "many", "size", "table", "k", "point", "before", "told", "rest", "due"]
theorem sc_law : FnScope N_law ["script"] (defScope s_law) := ⟨rfl, rfl, rfl, by decide +kernel, rfl, by decide +kernel, by decide +kernel⟩
structure Txt (K : PySem.W.Frag) (mg : Str → Option Value) where
  f_fold : Addr
  fd_fold : FuncData
  F_fold : Fun K "fold" "fold" s_fold f_fold fd_fold
  b_fold : Binds K fd_fold ["table", "number", "p"] []
  g_fold : mg "fold" = some (.ref f_fold)
  f_with_first : Addr
  fd_with_first : FuncData
  F_with_first : Fun K "with_first" "with_first" s_with_first f_with_first fd_with_first
  b_with_first : Binds K fd_with_first ["table", "point", "p"] []
  g_with_first : mg "with_first" = some (.ref f_with_first)
  f_value_at : Addr
  fd_value_at : FuncData
  F_value_at : Fun K "value_at" "value_at" s_value_at f_value_at fd_value_at
  b_value_at : Binds K fd_value_at ["table", "point", "p"] []
  g_value_at : mg "value_at" = some (.ref f_value_at)
  f_point_table : Addr
  fd_point_table : FuncData
  F_point_table : Fun K "point_table" "point_table" s_point_table f_point_table fd_point_table
  b_point_table : Binds K fd_point_table ["point", "p"] []
  g_point_table : mg "point_table" = some (.ref f_point_table)
  f_nearness : Addr
  fd_nearness : FuncData
  F_nearness : Fun K "nearness" "nearness" s_nearness f_nearness fd_nearness
  b_nearness : Binds K fd_nearness ["point", "other", "p"] []
  g_nearness : mg "nearness" = some (.ref f_nearness)
  f_between : Addr
  fd_between : FuncData
  F_between : Fun K "between" "between" s_between f_between fd_between
  b_between : Binds K fd_between ["point", "other", "t", "p"] []
  g_between : mg "between" = some (.ref f_between)
  f_line_values : Addr
  fd_line_values : FuncData
  F_line_values : Fun K "line_values" "line_values" s_line_values f_line_values fd_line_values
  b_line_values : Binds K fd_line_values ["table", "point", "other", "p"] []
  g_line_values : mg "line_values" = some (.ref f_line_values)
  f__law_state : Addr
  fd__law_state : FuncData
  F__law_state : Fun K "_law_state" "_law_state" s__law_state f__law_state fd__law_state
  b__law_state : Binds K fd__law_state ["script"] []
  g__law_state : mg "_law_state" = some (.ref f__law_state)
  f__law_draw : Addr
  fd__law_draw : FuncData
  F__law_draw : Fun K "_law_draw" "_law_draw" s__law_draw f__law_draw fd__law_draw
  b__law_draw : Binds K fd__law_draw ["state", "many"] []
  g__law_draw : mg "_law_draw" = some (.ref f__law_draw)
  f__law_pick : Addr
  fd__law_pick : FuncData
  F__law_pick : Fun K "_law_pick" "_law_pick" s__law_pick f__law_pick fd__law_pick
  b__law_pick : Binds K fd__law_pick ["state", "row"] []
  g__law_pick : mg "_law_pick" = some (.ref f__law_pick)
  f__law_near : Addr
  fd__law_near : FuncData
  F__law_near : Fun K "_law_near" "_law_near" s__law_near f__law_near fd__law_near
  b__law_near : Binds K fd__law_near ["index", "point", "p"] []
  g__law_near : mg "_law_near" = some (.ref f__law_near)
  f__law_value : Addr
  fd__law_value : FuncData
  F__law_value : Fun K "_law_value" "_law_value" s__law_value f__law_value fd__law_value
  b__law_value : Binds K fd__law_value ["table", "point", "p"] []
  g__law_value : mg "_law_value" = some (.ref f__law_value)
  f__law_point : Addr
  fd__law_point : FuncData
  F__law_point : Fun K "_law_point" "_law_point" s__law_point f__law_point fd__law_point
  b__law_point : Binds K fd__law_point ["state", "many", "p"] []
  g__law_point : mg "_law_point" = some (.ref f__law_point)
  f__law_line : Addr
  fd__law_line : FuncData
  F__law_line : Fun K "_law_line" "_law_line" s__law_line f__law_line fd__law_line
  b__law_line : Binds K fd__law_line ["one", "two", "t", "p"] []
  g__law_line : mg "_law_line" = some (.ref f__law_line)
  f__law_at : Addr
  fd__law_at : FuncData
  F__law_at : Fun K "_law_at" "_law_at" s__law_at f__law_at fd__law_at
  b__law_at : Binds K fd__law_at ["values", "t", "p"] []
  g__law_at : mg "_law_at" = some (.ref f__law_at)
  f__law_lines_right : Addr
  fd__law_lines_right : FuncData
  F__law_lines_right : Fun K "_law_lines_right" "_law_lines_right" s__law_lines_right f__law_lines_right fd__law_lines_right
  b__law_lines_right : Binds K fd__law_lines_right ["state", "table", "many", "p"] []
  g__law_lines_right : mg "_law_lines_right" = some (.ref f__law_lines_right)
  f_law : Addr
  fd_law : FuncData
  F_law : Fun K "law" "law" s_law f_law fd_law
  b_law : Binds K fd_law ["script"] []
  g_law : mg "law" = some (.ref f_law)
  m_abs : mg "abs" = none
  m_bool : mg "bool" = none
  m_int : mg "int" = none
  m_isinstance : mg "isinstance" = none
  m_len : mg "len" = none
  m_list : mg "list" = none
  m_range : mg "range" = none
  m_repr : mg "repr" = none
  m_sum : mg "sum" = none
  m_zip : mg "zip" = none
structure Tbs (K : PySem.W.Frag) (mg : Str → Option Value) (base : Heap) (T : Txt K mg) : Prop where
def Txt.ts {K : PySem.W.Frag} {mg : Str → Option Value} (T : Txt K mg) : List Addr := []
/-! ### the mathematics -/
theorem ptStep_in {p : Int} {t : List Int} {n : Int} (hp : 0 < p) : In 0 p (ptStep p t n) := by
  intro e he
  unfold ptStep at he
  rcases List.mem_append.mp he with h | h <;> (obtain ⟨x, _, rfl⟩ := List.mem_map.mp h; exact ⟨Int.emod_nonneg _ (by omega), Int.emod_lt_of_pos _ hp⟩)
theorem ptStep_len {p : Int} {t : List Int} {n : Int} : (ptStep p t n).length = 2 * t.length := by
  unfold ptStep
  rw [List.length_append, List.length_map, List.length_map]
  omega
theorem ptF_len {p : Int} : ∀ (pt t : List Int), (pt.foldl (ptStep p) t).length = 2 ^ pt.length * t.length
  | [], t => by simp
  | n :: r, t => by
    rw [List.foldl_cons, ptF_len r, ptStep_len, List.length_cons, Nat.pow_succ, Nat.mul_assoc]
theorem ptM_len {p : Int} (pt : List Int) : (ptM p pt).length = 2 ^ pt.length := by
  unfold ptM
  rw [ptF_len]
  simp
theorem ptF_in {p : Int} (hp : 0 < p) : ∀ (pt t : List Int), In 0 2147483648 t → p ≤ 2147483647 → In 0 2147483648 (pt.foldl (ptStep p) t)
  | [], t, h, _ => h
  | n :: r, t, h, hb => by
    rw [List.foldl_cons]
    refine ptF_in hp r _ (fun e he => ?_) hb
    have := ptStep_in hp e he
    omega
theorem ptM_in {p : Int} (hp : 0 < p) (hb : p ≤ 2147483647) (pt : List Int) : In 0 2147483648 (ptM p pt) := ptF_in hp pt [1] (fun e he => by have := List.mem_singleton.mp he; omega) hb
theorem ptM_take {p : Int} {pt : List Int} {i : Nat} {n : Int} (h : pt[i]? = some n) : ptM p (pt.take (i + 1)) = ptStep p (ptM p (pt.take i)) n := by
  unfold ptM
  rw [← take_app h, List.foldl_append]
  rfl
theorem vals_ints {lo hi : Int} : ∀ (ys : List V), (∀ y ∈ ys, ∃ d, y = V.int d ∧ lo ≤ d ∧ d < hi) → ∃ ds : List Int, ys = ds.map V.int ∧ In lo hi ds
  | [], _ => ⟨[], rfl, fun e he => by simp at he⟩
  | y :: r, h => by
    obtain ⟨d, rfl, h1⟩ := h y List.mem_cons_self
    obtain ⟨ds, rfl, h2⟩ := vals_ints r fun z hz => h z (List.mem_cons_of_mem _ hz)
    refine ⟨d :: ds, rfl, fun e he => ?_⟩
    rcases List.mem_cons.mp he with h | h
    · rw [h]; exact h1
    · exact h2 e h
theorem ptM_small {p : Int} {pt : List Int} (i : Nat) (hl : pt.length ≤ 10) : (ptM p (pt.take i)).length ≤ 1000000 := by
  rw [ptM_len, List.length_take]
  have : 2 ^ min i pt.length ≤ 2 ^ 10 := Nat.pow_le_pow_right (by decide) (by omega)
  omega
theorem sumN_sum (f : Nat → Int) : ∀ n, ((List.range n).map f).sum = sumN f n
  | 0 => rfl
  | n + 1 => by
    rw [List.range_succ, List.map_append, List.sum_append, sumN_sum f n]
    show sumN f n + (f n + 0) = sumN f n + f n
    omega
theorem foS_in {p : Int} (hp : 0 < p) {Tb : List Int} {n : Int} : In 0 p (foStep p Tb n) := fun e he => by
  unfold foStep at he
  obtain ⟨x, _, rfl⟩ := List.mem_map.mp he
  exact ⟨Int.emod_nonneg _ (by omega), Int.emod_lt_of_pos _ hp⟩
theorem fo_take {p : Int} {Tb pt : List Int} {i : Nat} {n : Int} (h : pt[i]? = some n) : (pt.take (i + 1)).foldl (foStep p) Tb = foStep p ((pt.take i).foldl (foStep p) Tb) n := by
  rw [← take_app h, List.foldl_append]
  rfl
theorem fo_len {p : Int} {Tb pt : List Int} (hT : Tb.length = 2 ^ pt.length) : ∀ i, i ≤ pt.length → ((pt.take i).foldl (foStep p) Tb).length = 2 ^ (pt.length - i)
  | 0, _ => by rw [List.take_zero]; exact hT
  | i + 1, h => by
    have e : pt[i]? = some pt[i] := List.getElem?_eq_getElem (by omega)
    rw [fo_take e, foStep_len, fo_len hT i (by omega)]
    have : pt.length - i = (pt.length - (i + 1)) + 1 := by omega
    rw [this, Nat.pow_succ]
    omega
theorem fo_in {p : Int} (hp : 0 < p) {Tb pt : List Int} (hin : In 0 p Tb) : ∀ i, In 0 p ((pt.take i).foldl (foStep p) Tb) := fun i => foF_in hp _ _ hin
theorem in_at {lo hi x : Int} {l : List Int} {i : Nat} (h : In lo hi l) (e : l[i]? = some x) : lo ≤ x ∧ x < hi := h x (List.mem_of_getElem? e)
theorem in_D {lo hi : Int} {l : List Int} {i : Nat} (h : In lo hi l) (hi' : i < l.length) : lo ≤ l.getD i 0 ∧ l.getD i 0 < hi := by
  have e : l[i]? = some (l.getD i 0) := by rw [List.getD_eq_getElem?_getD, List.getElem?_eq_getElem hi']; rfl
  exact in_at h e
theorem ln_in {p : Int} (hp : 0 < p) {a b : List Int} {t : Int} : In 0 p (lnM p a b t) := fun e he => by
  unfold lnM at he
  obtain ⟨x, _, rfl⟩ := List.mem_map.mp he
  exact ⟨Int.emod_nonneg _ (by omega), Int.emod_lt_of_pos _ hp⟩
theorem len_small {Tb : List Int} {n : Nat} (hT : Tb.length = 2 ^ n) (hn : n ≤ 5) : Tb.length ≤ 32 := by
  rw [hT]
  exact Nat.le_trans (Nat.pow_le_pow_right (by decide) hn) (by decide)
theorem prP_in {p : Int} (hp : 2 ≤ p) {g : Nat → Int} {k : Nat} : ∀ m, 0 ≤ prP p g k m ∧ prP p g k m < p
  | 0 => ⟨by show (0 : Int) ≤ 1; omega, by show (1 : Int) < p; omega⟩
  | m + 1 => by
    show 0 ≤ (if m = k then prP p g k m else prP p g k m * g m % p) ∧ (if m = k then prP p g k m else prP p g k m * g m % p) < p
    by_cases h : m = k
    · rw [if_pos h]
      exact prP_in hp m
    · rw [if_neg h]
      exact ⟨Int.emod_nonneg _ (by omega), Int.emod_lt_of_pos _ (by omega)⟩
theorem invL_in {p b : Int} : In 0 p (invL p b) := fun e he => by
  unfold invL at he
  obtain ⟨x, hx, rfl⟩ := List.mem_map.mp he
  have := List.mem_range.mp (List.mem_filter.mp hx).1
  omega
theorem totL_succ {p t : Int} {v : List Int} {n k : Nat} : totL p v t n (k + 1) = (totL p v t n k + v.getD k 0 * prP p (fun j => t - (j : Int)) k n * invS p (prP p (fun j => (k : Int) - (j : Int)) k n)) % p := rfl
section
variable {P : Program} {w : World} {K : PySem.W.Frag} {mg : Str → Option Value} {base : Heap}
/-! ### the promises -/
def sp_fold : Sp := fun vs H Q _ => ∃ (a : Addr) (n p : Int) (Tb : List Int) (m : Nat), vs = [.ref a, .int n, .int p] ∧ H a = some (.lst (Tb.map V.int)) ∧ Tb.length = 2 * m ∧ m ≤ 1000 ∧ In 0 p Tb ∧ 0 < p ∧ p ≤ 2147483647 ∧
  ∀ H' q, Same H H' → H q = none → H' q = some (.lst ((foStep p Tb n).map V.int)) → Q (.ref q) H'
theorem ok_fold (T : Txt K mg) : FnOk P w K mg base CX0 1 T.f_fold T.fd_fold ["table", "number", "p"] (sp_fold) := by
  refine T.F_fold.ok sc_fold (fun vs H Q E h => ?len) (fun cdv A outer s H vs Q E hr h => ?body)
  · obtain ⟨a, n, p, Tb, m, rfl, _⟩ := h
    rfl
  · obtain ⟨a, n, p, Tb, m, rfl, ha, hT, hm, hin, hp, hb, q⟩ := h
    have ev := evens_eq Tb m hT
    have od := odds_eq Tb m hT
    refine ⟨_, (pss_one (ps_ret (pe_lc (own := [("low", 3), ("high", 4)]) rfl sc_fold.nd (piZ_ (K := K) rfl (pi_zip (by rfl) T.m_zip (pa_cons (sl3K_ (K := K) rfl (pe_slice3 (pv 0) po_none po_none (po_some pe_int))) (pa_cons (sl3K_ (K := K) rfl (pe_slice3 (pv 0) (po_some pe_int) po_none (po_some pe_int))) pa_nil)))) (blkOk_by (own := [("low", 3), ("high", 4)]) (N := N_fold) (sc := defScope s_fold) (by decide +kernel)) (fun _ _ _ _ _ => (pgT_ (K := K) rfl (pg_tup (n := 2) rfl (pgs_cons (pg_name (i := 3) sc_fold.nd rfl (.inl rfl)) (pgs_cons (pg_name (i := 4) sc_fold.nd rfl (.inl rfl)) pgs_nil))))) (fun _ _ _ _ _ => pts_nil) (fun _ _ _ _ _ => (pe_op op_mod (pe_op op_add (pv 3) (pe_op op_mul (pv 1) (pe_op op_sub (pv 4) (pv 3)))) (pv 2)))))), ?_⟩
    walk_at "hs"
    have hlen : ((foStep p Tb n).map V.int).length = m := by rw [List.length_map, foStep_len, hT]; omega
    refine c_zip (xs := (List.range m).map fun k => V.int (Tb.getD (2 * k) 0)) (ys := (List.range m).map fun k => V.int (Tb.getD (2 * k + 1) 0)) ((foStep p Tb n).map V.int) rfl (by decide) (fun R r => ?_) (by rw [hlen]; simp) (by omega) ?_ ?_
    · walk_at "hs"
      refine ⟨a, Tb.map V.int, rfl, sql ha, by decide, sz (by rw [ev, List.length_map, List.length_range]; omega), fun e1 n1 => ?_⟩
      walk_at "hs"
      refine ⟨a, Tb.map V.int, rfl, sql (same_upd n1 _ _ ha), by decide, sz (by rw [od, List.length_map, List.length_range]; omega), fun e2 n2 => ?_⟩
      rw [ev, od] at *
      refine r e1 e2 _ ((same_upd n1).trans (same_upd n2)) (sql ?_) (sql upd_same)
      exact same_upd n2 _ _ upd_same
    · intro j x y hx hy H' R s r
      obtain ⟨hj, rfl⟩ := getRg hx
      obtain ⟨_, rfl⟩ := getRg hy
      have b1 := in_D hin (show 2 * j < Tb.length by omega)
      have b2 := in_D hin (show 2 * j + 1 < Tb.length by omega)
      walk_at "hs"
      refine r _ _ (Same.refl _) ?_
      rw [← foS_eq]
      unfold foS
      rw [List.getElem?_map, hT, show 2 * m / 2 = m by omega, rg_at hj]
      rfl
    · intro D H' nD s eD
      exact q H' D s nD eD
def sp_with_first (K : PySem.W.Frag) : Sp := fun vs H Q _ => ∃ (a b : Addr) (p : Int) (Tb pt : List Int), vs = [.ref a, .ref b, .int p] ∧ H a = some (.lst (Tb.map V.int)) ∧ H b = some (.lst (pt.map V.int)) ∧ Tb.length = 2 ^ pt.length ∧ pt.length ≤ 5 ∧ In 0 p Tb ∧ 2 ≤ p ∧ p ≤ 2147483647 ∧
  ∀ H' c, Same H H' → H' c = some (.lst [.int (lvM p Tb pt)]) → Q (.ref c) H'
theorem ok_with_first (T : Txt K mg) : FnOk P w K mg base CX0 2 T.f_with_first T.fd_with_first ["table", "point", "p"] (sp_with_first K) := by
  have G_fold := ok_fold (P := P) (w := w) (base := base) T
  refine T.F_with_first.ok sc_with_first (fun vs H Q E h => ?len) (fun cdv A outer s H vs Q E hr h => ?body)
  · obtain ⟨a, b, p, Tb, pt, rfl, _⟩ := h
    rfl
  · obtain ⟨a, b, p, Tb, pt, rfl, ha, hb, hT, hl, hin, hp, hp2, q⟩ := h
    refine ⟨_, (pss_cons (ps_set (i := 3) sc_with_first.nd rfl (.inl rfl) (pe_callTy (listK_ (K := K) rfl) (by rfl) T.m_list (by decide +kernel) (pa_cons (pv 0) pa_nil)))
      (pss_cons (ps_for PassesOwn.never rfl (piL_ (K := K) rfl (pv 1)) (pg_name (i := 4) sc_with_first.nd rfl (.inl rfl)) (pss_one (ps_set (i := 3) sc_with_first.nd rfl (.inl rfl) (pe_call G_fold (hr.mono (by decide)) (by rfl) T.g_fold T.F_fold.kp T.b_fold .nil pass0 (pa_cons (pv 3) (pa_cons (pv 4) (pa_cons (pv 2) pa_nil)))))))
      (pss_one (ps_ret (pv 3))))), ?_⟩
    walk_at "hs"
    refine fun l0 n0 => ?_
    have s0 := same_upd (o := .lst (Tb.map V.int)) n0
    have e0 : (upd H l0 (.lst (Tb.map V.int))) l0 = some (.lst (Tb.map V.int)) := upd_same
    generalize upd H l0 (.lst (Tb.map V.int)) = H0 at *
    walk_at "hs"
    refine a_exl (sql (s0 _ _ hb)) ?_
    refine fo_list (xs := pt.map V.int) (fun i σ H' => ∃ lf x4, σ = [some (.ref a), some (.ref b), some (.int p), some (.ref lf), x4] ∧ Same H H' ∧ H' lf = some (.lst (((pt.take i).foldl (foStep p) Tb).map V.int)) ∧ i ≤ pt.length) ?_ ?_ ?_ ?_
    · exact ⟨l0, none, rfl, s0, e0, Nat.zero_le _⟩
    · rintro i σ H' _ ⟨lf, x4, _, s1, _⟩
      exact sql (s1 _ _ hb)
    · rintro i x σ H' hi ⟨lf, x4, rfl, s1, el, hil⟩
      obtain ⟨n, hn, rfl⟩ := getV hi
      have hi2 := (List.getElem?_eq_some_iff.mp hn).1
      walk_at "hs"
      have hle := fo_len (p := p) hT i hil
      refine ⟨lf, n, p, _, 2 ^ (pt.length - (i + 1)), rfl, el, ?_, ?_, fo_in (by omega) hin i, by omega, hp2, fun H2 t s2 n2 e2 => ?_⟩
      · rw [hle, show pt.length - i = (pt.length - (i + 1)) + 1 by omega, Nat.pow_succ]
        omega
      · exact Nat.le_trans (Nat.pow_le_pow_right (by decide) (show pt.length - (i + 1) ≤ 5 by omega)) (by decide)
      · walk_at "hs"
        refine ⟨t, _, rfl, s1.trans s2, ?_, by omega⟩
        rw [fo_take hn]
        exact e2
    · rintro σ H' ⟨lf, x4, rfl, s1, el, hil⟩
      have e2 := fold_lv hp hl hT hin
      rw [List.length_map, List.take_length, e2] at el
      walk_at "hs"
      exact q H' lf s1 el
def sp_value_at (K : PySem.W.Frag) : Sp := fun vs H Q _ => ∃ (a b : Addr) (p : Int) (Tb pt : List Int), vs = [.ref a, .ref b, .int p] ∧ H a = some (.lst (Tb.map V.int)) ∧ H b = some (.lst (pt.map V.int)) ∧ Tb.length = 2 ^ pt.length ∧ pt.length ≤ 5 ∧ In 0 p Tb ∧ 2 ≤ p ∧ p ≤ 2147483647 ∧
  ∀ H', Same H H' → Q (.int (lvM p Tb pt)) H'
theorem ok_value_at (T : Txt K mg) : FnOk P w K mg base CX0 3 T.f_value_at T.fd_value_at ["table", "point", "p"] (sp_value_at K) := by
  have G_with_first := ok_with_first (P := P) (w := w) (base := base) T
  refine T.F_value_at.ok sc_value_at (fun vs H Q E h => ?len) (fun cdv A outer s H vs Q E hr h => ?body)
  · obtain ⟨a, b, p, Tb, pt, rfl, _⟩ := h
    rfl
  · obtain ⟨a, b, p, Tb, pt, rfl, ha, hb, hT, hl, hin, hp, hp2, q⟩ := h
    refine ⟨_, (pss_one (ps_ret (pe_ix (ixL_ (K := K) rfl) (pe_call G_with_first (hr.mono (by decide)) (by rfl) T.g_with_first T.F_with_first.kp T.b_with_first .nil pass0 (pa_cons (pv 0) (pa_cons (pv 1) (pa_cons (pv 2) pa_nil)))) pe_int (fun _ _ => rfl)))), ?_⟩
    walk_at "hs"
    refine ⟨a, b, p, Tb, pt, rfl, ha, hb, hT, hl, hin, hp, hp2, fun H' c s e => ?_⟩
    refine ⟨c, _, 0, _, rfl, rfl, sql e, at0, ?_⟩
    walk_at "hs"
    exact q H' s
def sp_point_table : Sp := fun vs H Q _ => ∃ (a : Addr) (p : Int) (pt : List Int), vs = [.ref a, .int p] ∧ H a = some (.lst (pt.map V.int)) ∧ 0 < p ∧ p ≤ 2147483647 ∧ pt.length ≤ 10 ∧
  ∀ H' q, Same H H' → H q = none → H' q = some (.lst ((ptM p pt).map V.int)) → Q (.ref q) H'
theorem ok_point_table (T : Txt K mg) : FnOk P w K mg base CX0 1 T.f_point_table T.fd_point_table ["point", "p"] (sp_point_table) := by
  refine T.F_point_table.ok sc_point_table (fun vs H Q E h => ?len) (fun cdv A outer s H vs Q E hr h => ?body)
  · obtain ⟨a, p, pt, rfl, _⟩ := h
    rfl
  · obtain ⟨a, p, pt, rfl, ha, hp, hb, hl, q⟩ := h
    refine ⟨_, (pss_cons (ps_set (i := 2) sc_point_table.nd rfl (.inl rfl) (pe_lst (pa_cons pe_int pa_nil)))
      (pss_cons (ps_for PassesOwn.never rfl (piL_ (K := K) rfl (pv 0)) (pg_name (i := 3) sc_point_table.nd rfl (.inr rfl)) (pss_cons (ps_setLc (i := 4) (own := [("entry", 5)]) rfl sc_point_table.nd rfl rfl (sw_true rfl rfl rfl (by decide +kernel)) (piL_ (K := K) rfl (pv 2)) (blkOk_by (own := [("entry", 5)]) (N := N_point_table) (sc := defScope s_point_table) (by decide +kernel)) (fun _ _ _ _ _ => (pg_name (i := 5) sc_point_table.nd rfl (.inl rfl))) (fun _ _ _ _ _ => pts_nil) (fun _ _ _ _ _ => (pe_op op_mod (pe_op op_mul (pv 5) (pe_op op_sub pe_int (pv 3))) (pv 1))))
      (pss_one (ps_set (i := 2) sc_point_table.nd rfl (.inl rfl) (pe_op op_cat (pv 4) (pe_lc (own := [("entry", 5)]) rfl sc_point_table.nd (piL_ (K := K) rfl (pv 2)) (blkOk_by (own := [("entry", 5)]) (N := N_point_table) (sc := defScope s_point_table) (by decide +kernel)) (fun _ _ _ _ _ => (pg_name (i := 5) sc_point_table.nd rfl (.inl rfl))) (fun _ _ _ _ _ => pts_nil) (fun _ _ _ _ _ => (pe_op op_mod (pe_op op_mul (pv 5) (pv 3)) (pv 1)))))))))
      (pss_one (ps_ret (pv 2))))), ?_⟩
    walk_at "hs"
    refine ⟨sz (by decide), fun t nt => ?_⟩
    have s0 : Same H (upd H t (.lst [.int 1])) := same_upd nt
    walk_at "hs"
    refine a_exl (sql (s0 _ _ ha)) ?_
    refine fo_list (xs := pt.map V.int) (fun i σ H' => ∃ t x3 x4, σ = [some (.ref a), some (.int p), some (.ref t), x3, x4, none] ∧ Same H H' ∧ H t = none ∧ H' t = some (.lst ((ptM p (pt.take i)).map V.int)) ∧ i ≤ pt.length) ?_ ?_ ?_ ?_
    · exact ⟨t, none, none, rfl, s0, nt, upd_same, Nat.zero_le _⟩
    · rintro i σ H' _ ⟨t, x3, x4, _, s1, _⟩
      exact sql (s1 _ _ ha)
    · rintro i x σ H' hi ⟨t, x3, x4, rfl, s1, nt, et, hil⟩
      obtain ⟨n, hn, rfl⟩ := getV hi
      have hin := ptM_in hp hb (pt.take i)
      walk_at "hs"
      refine c_same (((ptM p (pt.take i)).map fun e => e * (1 - n) % p).map V.int) rfl (fun R r => a_var rfl r) (sql et) (by simp) ?_ ?_ ?_
      · refine Nat.le_trans (Nat.le_of_eq ?_) (ptM_small (p := p) i hl)
        simp
      · intro j x hj H2 R s2 r
        obtain ⟨e, he, rfl⟩ := getV hj
        have := hin e (List.mem_of_getElem? he)
        walk_at "hs"
        refine r _ _ (Same.refl _) ?_
        rw [List.getElem?_map, List.getElem?_map, he]
        rfl
      · intro D H2 nD s2 eD
        walk_at "hs"
        refine c_same (((ptM p (pt.take i)).map fun e => e * n % p).map V.int) rfl (fun R r => a_var rfl r) (sql (s2 _ _ et)) (by simp) ?_ ?_ ?_
        · refine Nat.le_trans (Nat.le_of_eq ?_) (ptM_small (p := p) i hl)
          simp
        · intro j x hj H3 R s3 r
          obtain ⟨e, he, rfl⟩ := getV hj
          have := hin e (List.mem_of_getElem? he)
          walk_at "hs"
          refine r _ _ (Same.refl _) ?_
          rw [List.getElem?_map, List.getElem?_map, he]
          rfl
        · intro D2 H3 nD2 s3 eD2
          refine a_cat (s3 _ _ eD) eD2 ?_ fun t2 nt2 => ?_
          · refine sz ?_
            rw [List.length_map, List.length_map, List.length_map, List.length_map, ptM_len, List.length_take]
            have : 2 ^ min i pt.length ≤ 2 ^ 10 := Nat.pow_le_pow_right (by decide) (by omega)
            omega
          · walk_at "hs"
            have hS : Same H (upd H3 t2 (HO.lst (List.map V.int (List.map (fun e => e * (1 - n) % p) (ptM p (List.take i pt))) ++ List.map V.int (List.map (fun e => e * n % p) (ptM p (List.take i pt)))))) := supd ((s1.trans s2).trans s3) nt2
            refine ⟨t2, _, _, rfl, hS, ((s1.trans s2).trans s3).free nt2, ?_, ?_⟩
            · rw [upd_same, ptM_take hn, ← List.map_append]
              rfl
            · exact (List.getElem?_eq_some_iff.mp hn).1
    · rintro σ H' ⟨t, x3, x4, rfl, s1, nt, et, _⟩
      walk_at "hs"
      refine q H' t s1 nt ?_
      rw [et, List.length_map, List.take_length]
def sp__law_state (K : PySem.W.Frag) : Sp := fun vs H Q _ => ∃ (a : Addr) (ns : List Int), vs = [.ref a] ∧ SqL K H a (ns.map V.int) ∧ ns.length ≤ 63 ∧ ∀ H' st c, Same H H' → StA H' st c → Q (.ref st) H'
theorem ok__law_state (T : Txt K mg) : FnOk P w K mg base CX0 1 T.f__law_state T.fd__law_state ["script"] (sp__law_state K) := by
  refine T.F__law_state.ok sc__law_state (fun vs H Q E h => ?len) (fun cdv A outer s H vs Q E hr h => ?body)
  · obtain ⟨a, ns, rfl, _⟩ := h
    rfl
  · obtain ⟨a, ns, rfl, hS, hl, q⟩ := h
    refine ⟨_, (pss_cons (ps_set (i := 1) sc__law_state.nd rfl (.inl rfl) pe_int)
      (pss_cons (ps_for PassesOwn.never rfl (piL_ (K := K) rfl (pv 0)) (pg_name (i := 2) sc__law_state.nd rfl (.inl rfl)) (pss_one (ps_set (i := 1) sc__law_state.nd rfl (.inl rfl) (pe_op op_mod (pe_callTy call_int1 (by rfl) T.m_int (by decide +kernel) (pa_cons (pe_op op_add (pe_op op_mul (pv 1) pe_int) (pv 2)) pa_nil)) pe_int))))
      (pss_one (ps_ret (pe_lst (pa_cons (pe_lc (own := [("cell", 2)]) rfl sc__law_state.nd (piL_ (K := K) rfl (pv 0)) (blkOk_by (own := [("cell", 2)]) (N := N__law_state) (sc := defScope s__law_state) (by decide +kernel)) (fun _ _ _ _ _ => (pg_name (i := 2) sc__law_state.nd rfl (.inl rfl))) (fun _ _ _ _ _ => pts_nil) (fun _ _ _ _ _ => (pe_callB call_abs (by rfl) T.m_abs (by decide +kernel) (pa_cons (pv 2) pa_nil)))) (pa_cons (pe_op op_add (pv 1) pe_int) pa_nil))))))), ?_⟩
    walk_at "hs"
    refine a_exl hS ?_
    refine fo_list (xs := ns.map V.int) (fun i σ H' => H' = H ∧ ∃ (seed : Int) (x2 : Option V), σ = [some (.ref a), some (.int seed), x2]) ⟨rfl, 7, none, rfl⟩ (fun i σ H' _ h => by rw [h.1]; exact hS) ?_ ?_
    · rintro i x σ H' hi ⟨rfl, seed, x2, rfl⟩
      obtain ⟨v, _, rfl⟩ := getV hi
      walk_at "hs"
      exact ⟨rfl, _, _, rfl⟩
    · rintro σ H' ⟨rfl, seed, x2, rfl⟩
      walk_at "hs"
      refine c_same ((ns.map fun x => if x < 0 then -x else x).map V.int) rfl (fun R r => a_var rfl r) hS (by simp) (by simp; omega) ?_ ?_
      · intro j x hj H2 R s2 r
        obtain ⟨v, hv, rfl⟩ := getV hj
        walk_at "hs"
        refine r _ _ (Same.refl _) ?_
        rw [List.getElem?_map, List.getElem?_map, hv]
        rfl
      · intro D H2 nD s2 eD
        walk_at "hs"
        refine ⟨sz (show 2 ≤ 1000000 by decide), fun t nt => ?_⟩
        refine q _ t D (supd s2 nt) ⟨ns.map fun x => if x < 0 then -x else x, seed + 1, upd_same, ?_, by rw [List.length_map]; exact hl⟩
        rw [upd_ne (ne_of_none eD nt)]
        exact eD
def sp__law_draw : Sp := fun vs H Q _ => ∃ (st c : Addr) (many : Int), vs = [.ref st, .int many] ∧ StA H st c ∧ 0 < many ∧ many < 9223372036854775808 ∧ ∀ d H', 0 ≤ d → d < many → StA H' st c → Gd st c H H' → Q (.int d) H'
theorem ok__law_draw (T : Txt K mg) : FnOk P w K mg base CX0 1 T.f__law_draw T.fd__law_draw ["state", "many"] (sp__law_draw) := by
  refine T.F__law_draw.ok sc__law_draw (fun vs H Q E h => ?len) (fun cdv A outer s H vs Q E hr h => ?body)
  · obtain ⟨st, c, many, rfl, _⟩ := h
    rfl
  · obtain ⟨st, c, many, rfl, hs, hm, hM, q⟩ := h
    have nsc := hs.ne
    obtain ⟨cs, m, e1, e2, hl⟩ := hs
    refine ⟨_, (pss_cons (ps_set (i := 2) sc__law_draw.nd rfl (.inl rfl) (pe_ix (ixL_ (K := K) rfl) (pv 0) pe_int (fun _ _ => rfl)))
      (pss_cons (ps_while PassesOwn.never (pw_and (pt_cmpR op_gt (pe_callB (lenK_ (K := K) rfl) (by rfl) T.m_len PySem.boot_len (pa_cons (pv 2) pa_nil)) pe_int (nomark _)) (pw_and1 (pt_cmpR op_eq (pe_ix (ixL_ (K := K) rfl) (pv 2) pe_int (fun _ _ => rfl)) pe_int (nomark _)))).pt (pss_one (ps_expr (bmK_ (K := K) rfl (pe_bm PySem.F.plainAttrs_list PySem.F.slot_list_pop PySem.F.type_list_pop mt_popAt (pv 2) (pa_cons pe_int pa_nil))))))
      (pss_cons (ps_if (pt_cmpR op_gt (pe_callB (lenK_ (K := K) rfl) (by rfl) T.m_len PySem.boot_len (pa_cons (pv 2) pa_nil)) pe_int (nomark _)) (pss_cons (ps_set (i := 3) sc__law_draw.nd rfl (.inl rfl) (pe_ix (ixL_ (K := K) rfl) (pv 2) pe_int (fun _ _ => rfl)))
      (pss_cons (ps_asg (pe_op op_fdivW (pv 3) (pv 1)) (pg_sub (pv 2) pe_int set_list))
      (pss_one (ps_ret (pe_op op_mod (pe_callTy call_int1 (by rfl) T.m_int (by decide +kernel) (pa_cons (pv 3) pa_nil)) (pv 1)))))) pss_nil)
      (pss_cons (ps_set (i := 4) sc__law_draw.nd rfl (.inl rfl) (pe_op op_mod (pe_callTy call_int1 (by rfl) T.m_int (by decide +kernel) (pa_cons (pe_op op_add (pe_op op_mul (pe_ix (ixL_ (K := K) rfl) (pv 0) pe_int (fun _ _ => rfl)) pe_int) pe_int) pa_nil)) pe_int))
      (pss_cons (ps_asg (pv 4) (pg_sub (pv 0) pe_int set_list))
      (pss_one (ps_ret (pe_op op_mod (pe_callTy call_int1 (by rfl) T.m_int (by decide +kernel) (pa_cons (pe_op op_fdivW (pv 4) pe_int) pa_nil)) (pv 1))))))))), ?_⟩
    walk_at "hs"
    refine a_while2 (fun σ H' => ∃ cs' : List Int, σ = [some (.ref st), some (.int many), some (.ref c), none, none] ∧ cs'.length ≤ 63 ∧ H' st = some (.lst [.ref c, .int m]) ∧ H' c = some (.lst (cs'.map V.int)) ∧ Gd st c H H') ?post
      (fun k σ H' => ∃ cs' : List Int, σ = [some (.ref st), some (.int many), some (.ref c), none, none] ∧ k = cs'.length ∧ cs'.length ≤ 63 ∧ H' st = some (.lst [.ref c, .int m]) ∧ H' c = some (.lst (cs'.map V.int)) ∧ Gd st c H H') cs.length ⟨cs, rfl, rfl, hl, e1, e2, Gd.refl H⟩ ?turn
    case turn =>
      rintro nx' hnx k σ H' ⟨cs', rfl, rfl, hl', e1', e2', gd⟩
      cases cs' with
      | nil =>
        walk_at "hs"
        refine ifd (fun h => absurd h (by simp)) (fun _ => ?_)
        exact iff' (hnx _ _ ⟨[], rfl, hl', e1', e2', gd⟩)
      | cons x r =>
        walk_at "hs"
        refine ifd (fun _ => ?_) (fun h => absurd (show (0 : Int) < ((List.map V.int (x :: r)).length : Int) by rw [List.length_map, List.length_cons]; omega) h)
        walk_at "hs"
        refine ifd (fun hx => ?_) (fun hx => hnx _ _ ⟨x :: r, rfl, hl', e1', e2', gd⟩)
        refine ⟨_, fun _ _ z => z, ?_⟩
        walk_at "hs"
        refine a_popAt0 (y := .int x) (xs := r.map V.int) e2' ?_
        walk_at "hs"
        refine ⟨r.length, by simp, r, rfl, rfl, by simp at hl'; omega, by rw [upd_ne nsc]; exact e1', upd_same, fun a o ha h1 h2 => by rw [upd_ne h2]; exact gd a o ha h1 h2⟩
    case post =>
      rintro σ H' ⟨cs', rfl, hl', e1', e2', gd⟩
      cases cs' with
      | nil =>
        walk_at "hs"
        refine ifd (fun h => absurd h (by simp)) (fun _ => ?_)
        walk_at "hs"
        refine a_setL1 e1' ?_
        walk_at "hs"
        refine q _ _ (Int.emod_nonneg _ (by omega)) (Int.emod_lt_of_pos _ hm) ⟨[], _, upd_same, by rw [upd_ne nsc.symm]; exact e2', by simp⟩ (fun a o ha h1 h2 => by rw [upd_ne h1]; exact gd a o ha h1 h2)
      | cons x r =>
        walk_at "hs"
        refine ifd (fun _ => ?_) (fun h => absurd (show (0 : Int) < ((List.map V.int (x :: r)).length : Int) by rw [List.length_map, List.length_cons]; omega) h)
        walk_at "hs"
        refine a_setL0 e2' ?_
        walk_at "hs"
        refine q _ _ (Int.emod_nonneg _ (by omega)) (Int.emod_lt_of_pos _ hm) ⟨(x / many) :: r, m, by rw [upd_ne nsc]; exact e1', upd_same, hl'⟩ (fun a o ha h1 h2 => by rw [upd_ne h2]; exact gd a o ha h1 h2)
def sp__law_pick : Sp := fun vs H Q _ => ∃ (st c r : Addr) (l : List Int), vs = [.ref st, .ref r] ∧ StA H st c ∧ Ob st c H r (.lst (l.map V.int)) ∧ 0 < l.length ∧ l.length ≤ 1000 ∧ ∀ d H', d ∈ l → StA H' st c → Gd st c H H' → Q (.int d) H'
theorem ok__law_pick (T : Txt K mg) : FnOk P w K mg base CX0 2 T.f__law_pick T.fd__law_pick ["state", "row"] (sp__law_pick) := by
  have G__law_draw := ok__law_draw (P := P) (w := w) (base := base) T
  refine T.F__law_pick.ok sc__law_pick (fun vs H Q E h => ?len) (fun cdv A outer s H vs Q E hr h => ?body)
  · obtain ⟨st, c, r, l, rfl, _⟩ := h
    rfl
  · obtain ⟨st, c, r, l, rfl, hs, ho, h0, h1, q⟩ := h
    refine ⟨_, (pss_one (ps_ret (pe_ix (ixL_ (K := K) rfl) (pv 1) (pe_call G__law_draw (hr.mono (by decide)) (by rfl) T.g__law_draw T.F__law_draw.kp T.b__law_draw .nil pass0 (pa_cons (pv 0) (pa_cons (pe_callB (lenK_ (K := K) rfl) (by rfl) T.m_len PySem.boot_len (pa_cons (pv 1) pa_nil)) pa_nil))) (fun _ _ => rfl)))), ?_⟩
    have hr1 := ho.at_
    walk_at "hs"
    refine ⟨st, c, _, rfl, hs, by rw [List.length_map]; omega, by rw [List.length_map]; omega, fun d H' d0 d1 hs' gd => ?_⟩
    rw [List.length_map] at d1
    refine a_ixL (sql (ho.go gd).at_) (at_int d0 d1) (q _ _ ?_ hs' gd)
    have hx : d.toNat < l.length := by omega
    rw [List.getD_eq_getElem?_getD, List.getElem?_eq_getElem hx]
    exact List.getElem_mem hx
def sp_nearness : Sp := fun vs H Q _ => ∃ (a b : Addr) (p : Int) (A B : List Int), vs = [.ref a, .ref b, .int p] ∧ H a = some (.lst (A.map V.int)) ∧ H b = some (.lst (B.map V.int)) ∧ A.length = B.length ∧ In 0 p A ∧ In 0 p B ∧ 2 ≤ p ∧ p ≤ 2147483647 ∧
  ∀ H', Same H H' → Q (.int (neM p A B)) H'
theorem ok_nearness (T : Txt K mg) : FnOk P w K mg base CX0 1 T.f_nearness T.fd_nearness ["point", "other", "p"] (sp_nearness) := by
  refine T.F_nearness.ok sc_nearness (fun vs H Q E h => ?len) (fun cdv A outer s H vs Q E hr h => ?body)
  · obtain ⟨a, b, p, A, B, rfl, _⟩ := h
    rfl
  · obtain ⟨a, b, p, A, B, rfl, ha, hb, hl, iA, iB, hp, hp2, q⟩ := h
    refine ⟨_, (pss_cons (ps_set (i := 3) sc_nearness.nd rfl (.inl rfl) pe_int)
      (pss_cons (ps_for PassesOwn.never rfl (piZ_ (K := K) rfl (pi_zip (by rfl) T.m_zip (pa_cons (pv 0) (pa_cons (pv 1) pa_nil)))) (pgT_ (K := K) rfl (pg_tup (n := 2) rfl (pgs_cons (pg_name (i := 4) sc_nearness.nd rfl (.inl rfl)) (pgs_cons (pg_name (i := 5) sc_nearness.nd rfl (.inl rfl)) pgs_nil)))) (pss_one (ps_set (i := 3) sc_nearness.nd rfl (.inl rfl) (pe_op op_mod (pe_op op_mul (pv 3) (pe_op op_add (pe_op op_mul (pv 4) (pv 5)) (pe_op op_mul (pe_op op_sub pe_int (pv 4)) (pe_op op_sub pe_int (pv 5))))) (pv 2)))))
      (pss_one (ps_ret (pv 3))))), ?_⟩
    walk_at "hs"
    refine a_exz (sql ha) (sql hb) ?_
    refine fo_zip (xs := A.map V.int) (ys := B.map V.int) (by rw [List.length_map, List.length_map]; omega)
      (fun i σ H' => Same H H' ∧ i ≤ A.length ∧ ∃ x4 x5, σ = [some (.ref a), some (.ref b), some (.int p), some (.int (((A.zip B).take i).foldl (neS p) 1)), x4, x5])
      ⟨Same.refl H, Nat.zero_le _, none, none, rfl⟩ (fun i σ H' h => ⟨sql (h.1 _ _ ha), sql (h.1 _ _ hb)⟩) ?_ ?_
    · rintro i x y TT σ H' hx hy ⟨s1, hi, x4, x5, rfl⟩ nT
      obtain ⟨u, eu, rfl⟩ := getV hx
      obtain ⟨v, ev, rfl⟩ := getV hy
      have hi2 := (List.getElem?_eq_some_iff.mp eu).1
      have s2 : Same H (upd H' TT (.tup [.int u, .int v])) := supd s1 nT
      have bu := in_at iA eu
      have bv := in_at iB ev
      have br := ne_in hp ((A.zip B).take i) 1 (by omega) (by omega)
      have hz : ((A.zip B).take (i + 1)).foldl (neS p) 1 = neS p (((A.zip B).take i).foldl (neS p) 1) (u, v) := by
        have h : (A.zip B)[i]? = some (u, v) := by
          rw [List.getElem?_zip_eq_some]
          exact ⟨eu, ev⟩
        rw [← take_app h, List.foldl_append]
        rfl
      rw [hz]
      generalize ((A.zip B).take i).foldl (neS p) 1 = r at *
      refine a_gtup upd_same rfl ?_
      walk_at "hs"
      exact ⟨s2, by omega, _, _, rfl⟩
    · rintro σ H' ⟨s1, _, x4, x5, rfl⟩
      have e1 : (A.zip B).take (A.map V.int).length = A.zip B := List.take_of_length_le (by rw [List.length_zip, List.length_map]; omega)
      rw [e1]
      walk_at "hs"
      exact q H' s1
def sp_between : Sp := fun vs H Q _ => ∃ (a b : Addr) (t p : Int) (A B : List Int), vs = [.ref a, .ref b, .int t, .int p] ∧ H a = some (.lst (A.map V.int)) ∧ H b = some (.lst (B.map V.int)) ∧ A.length = B.length ∧ A.length ≤ 5 ∧ In 0 p A ∧ In 0 p B ∧ 2 ≤ p ∧ p ≤ 2147483647 ∧
  ∀ H' q, Same H H' → H q = none → H' q = some (.lst ((lnM p A B t).map V.int)) → Q (.ref q) H'
theorem ok_between (T : Txt K mg) : FnOk P w K mg base CX0 1 T.f_between T.fd_between ["point", "other", "t", "p"] (sp_between) := by
  refine T.F_between.ok sc_between (fun vs H Q E h => ?len) (fun cdv A outer s H vs Q E hr h => ?body)
  · obtain ⟨a, b, t, p, A, B, rfl, _⟩ := h
    rfl
  · obtain ⟨a, b, t, p, A, B, rfl, ha, hb, hl, hl5, iA, iB, hp, hp2, q⟩ := h
    refine ⟨_, (pss_one (ps_ret (pe_lc (own := [("here", 4), ("there", 5)]) rfl sc_between.nd (piZ_ (K := K) rfl (pi_zip (by rfl) T.m_zip (pa_cons (pv 0) (pa_cons (pv 1) pa_nil)))) (blkOk_by (own := [("here", 4), ("there", 5)]) (N := N_between) (sc := defScope s_between) (by decide +kernel)) (fun _ _ _ _ _ => (pgT_ (K := K) rfl (pg_tup (n := 2) rfl (pgs_cons (pg_name (i := 4) sc_between.nd rfl (.inl rfl)) (pgs_cons (pg_name (i := 5) sc_between.nd rfl (.inl rfl)) pgs_nil))))) (fun _ _ _ _ _ => pts_nil) (fun _ _ _ _ _ => (pe_op op_mod (pe_op op_add (pv 4) (pe_op op_mul (pv 2) (pe_op op_sub (pv 5) (pv 4)))) (pv 3)))))), ?_⟩
    walk_at "hs"
    have hlen : ((lnM p A B t).map V.int).length = A.length := by rw [List.length_map, ln_len hl]
    refine c_zip (xs := A.map V.int) (ys := B.map V.int) ((lnM p A B t).map V.int) rfl (by decide) (fun R r => ?_) (by rw [hlen, List.length_map, List.length_map]; omega) (by omega) ?_ ?_
    · walk_at "hs"
      exact r _ _ _ (Same.refl _) (sql ha) (sql hb)
    · intro j x y hx hy H' R s r
      obtain ⟨u, eu, rfl⟩ := getV hx
      obtain ⟨v, ev, rfl⟩ := getV hy
      have bu := in_at iA eu
      have bv := in_at iB ev
      walk_at "hs"
      refine r _ _ (Same.refl _) ?_
      have h : (A.zip B)[j]? = some (u, v) := by
        rw [List.getElem?_zip_eq_some]
        exact ⟨eu, ev⟩
      unfold lnM
      rw [List.getElem?_map, List.getElem?_map, h]
      rfl
    · intro D H' nD s eD
      exact q H' D s nD eD
def lsM (p : Int) (Tb A B : List Int) : List Int := (List.range (A.length + 1)).map fun (k : Nat) => lvM p Tb (lnM p A B (k : Int))
def sp_line_values : Sp := fun vs H Q _ => ∃ (t a b : Addr) (p : Int) (Tb A B : List Int), vs = [.ref t, .ref a, .ref b, .int p] ∧ H t = some (.lst (Tb.map V.int)) ∧ H a = some (.lst (A.map V.int)) ∧ H b = some (.lst (B.map V.int)) ∧ A.length = B.length ∧ A.length ≤ 5 ∧ Tb.length = 2 ^ A.length ∧ In 0 p Tb ∧ In 0 p A ∧ In 0 p B ∧ 2 ≤ p ∧ p ≤ 2147483647 ∧
  ∀ H' q, Same H H' → H q = none → H' q = some (.lst ((lsM p Tb A B).map V.int)) → Q (.ref q) H'
theorem ok_line_values (T : Txt K mg) : FnOk P w K mg base CX0 4 T.f_line_values T.fd_line_values ["table", "point", "other", "p"] (sp_line_values) := by
  have G_value_at := ok_value_at (P := P) (w := w) (base := base) T
  have G_between := ok_between (P := P) (w := w) (base := base) T
  refine T.F_line_values.ok sc_line_values (fun vs H Q E h => ?len) (fun cdv A outer s H vs Q E hr h => ?body)
  · obtain ⟨t, a, b, p, Tb, A, B, rfl, _⟩ := h
    rfl
  · obtain ⟨t, a, b, p, Tb, A, B, rfl, ht, ha, hb, hl, hl5, hT, iT, iA, iB, hp, hp2, q⟩ := h
    refine ⟨_, (pss_one (ps_ret (pe_lc (own := [("t", 4)]) rfl sc_line_values.nd (pi_range1 (by rfl) T.m_range (pa_cons (pe_op op_add (pe_callB (lenK_ (K := K) rfl) (by rfl) T.m_len PySem.boot_len (pa_cons (pv 1) pa_nil)) pe_int) pa_nil)) (blkOk_by (own := [("t", 4)]) (N := N_line_values) (sc := defScope s_line_values) (by decide +kernel)) (fun _ _ _ _ _ => (pg_name (i := 4) sc_line_values.nd rfl (.inl rfl))) (fun _ _ _ _ _ => pts_nil) (fun _ _ _ _ _ => (pe_call G_value_at (hr.mono (by decide)) (by rfl) T.g_value_at T.F_value_at.kp T.b_value_at .nil pass0 (pa_cons (pv 0) (pa_cons (pe_call G_between (hr.mono (by decide)) (by rfl) T.g_between T.F_between.kp T.b_between .nil pass0 (pa_cons (pv 1) (pa_cons (pv 2) (pa_cons (pv 4) (pa_cons (pv 3) pa_nil))))) (pa_cons (pv 3) pa_nil)))))))), ?_⟩
    walk_at "hs"
    refine c_rng (n := A.length + 1) ((lsM p Tb A B).map V.int) rfl (by omega) (fun R r => ?_) (by unfold lsM; simp) ?_ ?_
    · walk_at "hs"
      rw [List.length_map]
      exact r
    · intro j hj H' R s r
      walk_at "hs"
      refine ⟨a, b, (j : Int), p, A, B, rfl, s _ _ ha, s _ _ hb, hl, hl5, iA, iB, hp, hp2, fun H2 e s2 n2 e2 => ?_⟩
      walk_at "hs"
      refine ⟨t, e, p, Tb, _, rfl, s2 _ _ (s _ _ ht), e2, by rw [ln_len hl, hT], by rw [ln_len hl]; exact hl5, iT, hp, hp2, fun H3 s3 => ?_⟩
      refine r _ _ (s2.trans s3) ?_
      unfold lsM
      rw [List.getElem?_map, rg_at hj]
      rfl
    · intro D H' nD s eD
      exact q H' D s nD eD
def sp__law_near : Sp := fun vs H Q _ => ∃ (k : Int) (a : Addr) (p : Int) (pt : List Int), vs = [.int k, .ref a, .int p] ∧ H a = some (.lst (pt.map V.int)) ∧ pt.length ≤ 5 ∧ In 0 p pt ∧ 2 ≤ p ∧ p ≤ 2147483647 ∧ ∀ H', Same H H' → Q (.int (near3 p pt k pt.length)) H'
theorem ok__law_near (T : Txt K mg) : FnOk P w K mg base CX0 1 T.f__law_near T.fd__law_near ["index", "point", "p"] (sp__law_near) := by
  refine T.F__law_near.ok sc__law_near (fun vs H Q E h => ?len) (fun cdv A outer s H vs Q E hr h => ?body)
  · obtain ⟨k, a, p, pt, rfl, _⟩ := h
    rfl
  · obtain ⟨k, a, p, pt, rfl, ha, hl, hin, hp, hp2, q⟩ := h
    refine ⟨_, (pss_cons (ps_set (i := 3) sc__law_near.nd rfl (.inl rfl) pe_int)
      (pss_cons (ps_for PassesOwn.never rfl (pi_range1 (by rfl) T.m_range (pa_cons (pe_callB (lenK_ (K := K) rfl) (by rfl) T.m_len PySem.boot_len (pa_cons (pv 1) pa_nil)) pa_nil)) (pg_name (i := 4) sc__law_near.nd rfl (.inl rfl)) (pss_cons (ps_set (i := 5) sc__law_near.nd rfl (.inl rfl) (pe_op op_sub pe_int (pe_ix (ixL_ (K := K) rfl) (pv 1) (pv 4) (fun _ _ => rfl))))
      (pss_cons (ps_if (pt_cmpR op_eq (pe_op op_mod (pe_callTy call_int1 (by rfl) T.m_int (by decide +kernel) (pa_cons (pe_op op_fdivW (pv 0) (pe_ix (ixL_ (K := K) rfl) (pe_lst (pa_cons pe_int (pa_cons pe_int (pa_cons pe_int (pa_cons pe_int (pa_cons pe_int pa_nil)))))) (pv 4) (fun _ _ => rfl))) pa_nil)) pe_int) pe_int (nomark _)) (pss_one (ps_set (i := 5) sc__law_near.nd rfl (.inl rfl) (pe_ix (ixL_ (K := K) rfl) (pv 1) (pv 4) (fun _ _ => rfl)))) pss_nil)
      (pss_one (ps_set (i := 3) sc__law_near.nd rfl (.inl rfl) (pe_op op_mod (pe_callTy call_int1 (by rfl) T.m_int (by decide +kernel) (pa_cons (pe_op op_mul (pv 3) (pv 5)) pa_nil)) (pv 2)))))))
      (pss_one (ps_ret (pv 3))))), ?_⟩
    walk_at "hs"
    rw [List.length_map, Int.toNat_natCast]
    refine ⟨by omega, by omega, ?_⟩
    refine fo_range (fun i σ H' => Same H H' ∧ i ≤ pt.length ∧ ∃ x4 x5, σ = [some (.int k), some (.ref a), some (.int p), some (.int (near3 p pt k i)), x4, x5]) ?_ ?_ ?_
    · exact ⟨Same.refl _, Nat.zero_le _, none, none, rfl⟩
    · rintro i σ H' hi ⟨s, hi', x4, x5, rfl⟩
      have bx := in_getD hin (x := (i : Int)) (by omega) (by omega)
      have bn := near3_in hp (pt := pt) (k := k) i
      have hd : 1 ≤ pow5.getD i 0 ∧ pow5.getD i 0 ≤ 16 := by
        match i, show i < 5 by omega with
        | 0, _ => decide
        | 1, _ => decide
        | 2, _ => decide
        | 3, _ => decide
        | 4, _ => decide
      have ha' := s _ _ ha
      have hz : near3 p pt k (i + 1) = near3 p pt k i * facN pt k i % p := rfl
      have fm : facN pt k i = if k / pow5.getD i 0 % 2 = 1 then pt.getD i 0 else 1 - pt.getD i 0 := rfl
      rw [Int.toNat_natCast] at bx
      generalize near3 p pt k i = r at *
      walk_at "hs"
      refine ⟨sz (show 5 ≤ 1000000 by decide), fun lr nr => ?_⟩
      have hi5 : (i : Int) < (pow5.length : Int) := show (i : Int) < 5 by omega
      walk_at "hs"
      refine a_ixL (sql (xs := pow5.map V.int) upd_same) (at_int (by omega) hi5) ?_
      rw [Int.toNat_natCast]
      walk_at "hs"
      have ha2 := same_upd (o := .lst [.int 1, .int 2, .int 4, .int 8, .int 16]) nr _ _ ha'
      have s2 := s.trans (same_upd (o := .lst [.int 1, .int 2, .int 4, .int 8, .int 16]) nr)
      refine ifd (fun hc => ?_) (fun hc => ?_)
      · rw [if_pos hc] at fm
        walk_at "hs"
        rw [Int.toNat_natCast]
        rw [hz, fm]
        exact ⟨s2, by omega, _, _, rfl⟩
      · rw [if_neg hc] at fm
        walk_at "hs"
        rw [hz, fm]
        exact ⟨s2, by omega, _, _, rfl⟩
    · rintro σ H' ⟨s, _, x4, x5, rfl⟩
      walk_at "hs"
      exact q _ s
def sp__law_value (K : PySem.W.Frag) : Sp := fun vs H Q _ => ∃ (a b : Addr) (p : Int) (Tb pt : List Int), vs = [.ref a, .ref b, .int p] ∧ H a = some (.lst (Tb.map V.int)) ∧ H b = some (.lst (pt.map V.int)) ∧ Tb.length ≤ 1000 ∧ pt.length ≤ 5 ∧ In 0 p Tb ∧ In 0 p pt ∧ 2 ≤ p ∧ p ≤ 2147483647 ∧
  ∀ H', Same H H' → Q (.int (lvM p Tb pt)) H'
theorem ok__law_value (T : Txt K mg) : FnOk P w K mg base CX0 2 T.f__law_value T.fd__law_value ["table", "point", "p"] (sp__law_value K) := by
  have G__law_near := ok__law_near (P := P) (w := w) (base := base) T
  refine T.F__law_value.ok sc__law_value (fun vs H Q E h => ?len) (fun cdv A outer s H vs Q E hr h => ?body)
  · obtain ⟨a, b, p, Tb, pt, rfl, _⟩ := h
    rfl
  · obtain ⟨a, b, p, Tb, pt, rfl, ha, hb, hT, hl, iT, iP, hp, hp2, q⟩ := h
    refine ⟨_, (pss_one (ps_ret (pe_op op_mod (pe_callTy call_int1 (by rfl) T.m_int (by decide +kernel) (pa_cons (pe_callB (sumK_ (K := K) rfl rfl) (by rfl) T.m_sum (by decide +kernel) (pa_cons (pe_lc (own := [("k", 3)]) rfl sc__law_value.nd (pi_range1 (by rfl) T.m_range (pa_cons (pe_callB (lenK_ (K := K) rfl) (by rfl) T.m_len PySem.boot_len (pa_cons (pv 0) pa_nil)) pa_nil)) (blkOk_by (own := [("k", 3)]) (N := N__law_value) (sc := defScope s__law_value) (by decide +kernel)) (fun _ _ _ _ _ => (pg_name (i := 3) sc__law_value.nd rfl (.inl rfl))) (fun _ _ _ _ _ => pts_nil) (fun _ _ _ _ _ => (pe_op op_mul (pe_ix (ixL_ (K := K) rfl) (pv 0) (pv 3) (fun _ _ => rfl)) (pe_call G__law_near (hr.mono (by decide)) (by rfl) T.g__law_near T.F__law_near.kp T.b__law_near .nil pass0 (pa_cons (pv 3) (pa_cons (pv 1) (pa_cons (pv 2) pa_nil))))))) pa_nil)) pa_nil)) (pv 2)))), ?_⟩
    walk_at "hs"
    refine c_rng (n := Tb.length) (((List.range Tb.length).map fun (k : Nat) => Tb.getD k 0 * near3 p pt (k : Int) pt.length).map V.int) rfl (by omega) (fun R r => ?_) (by simp) ?_ ?_
    · walk_at "hs"
      rw [List.length_map]
      exact r
    · intro j hj H' R s r
      have bx := in_D iT hj
      have ha' := s _ _ ha
      walk_at "hs"
      refine ⟨(j : Int), b, p, pt, rfl, s _ _ hb, hl, iP, hp, hp2, fun H2 s2 => ?_⟩
      rw [Int.toNat_natCast]
      walk_at "hs"
      refine r _ _ s2 ?_
      rw [List.getElem?_map, rg_at hj]
      rfl
    · intro D H' nD s eD
      walk_at "hs"
      refine a_sum (sql eD) ?_
      walk_at "hs"
      rw [sumN_sum]
      exact q H' s
def sp__law_point : Sp := fun vs H Q _ => ∃ (st c : Addr) (p : Int) (bits : Nat), vs = [.ref st, .int (bits : Int), .int p] ∧ StA H st c ∧ 2 ≤ p ∧ p ≤ 2147483647 ∧ bits ≤ 10 ∧
  ∀ H' q pt, StA H' st c → Gd st c H H' → pt.length = bits → In 0 p pt → Ob st c H' q (.lst (pt.map V.int)) → Q (.ref q) H'
theorem ok__law_point (T : Txt K mg) : FnOk P w K mg base CX0 3 T.f__law_point T.fd__law_point ["state", "many", "p"] (sp__law_point) := by
  have G__law_pick := ok__law_pick (P := P) (w := w) (base := base) T
  have G__law_draw := ok__law_draw (P := P) (w := w) (base := base) T
  refine T.F__law_point.ok sc__law_point (fun vs H Q E h => ?len) (fun cdv A outer s H vs Q E hr h => ?body)
  · obtain ⟨st, c, p, bits, rfl, _⟩ := h
    rfl
  · obtain ⟨st, c, p, bits, rfl, hs, hp, hb, hbits, q⟩ := h
    refine ⟨_, (pss_one (ps_ret (pe_lc (own := [("k", 3)]) rfl sc__law_point.nd (pi_range1 (by rfl) T.m_range (pa_cons (pv 1) pa_nil)) (blkOk_by (own := [("k", 3)]) (N := N__law_point) (sc := defScope s__law_point) (by decide +kernel)) (fun _ _ _ _ _ => (pg_name (i := 3) sc__law_point.nd rfl (.inl rfl))) (fun _ _ _ _ _ => pts_nil) (fun _ _ _ _ _ => (pe_call G__law_pick (hr.mono (by decide)) (by rfl) T.g__law_pick T.F__law_pick.kp T.b__law_pick .nil pass0 (pa_cons (pv 0) (pa_cons (pe_lst (pa_cons pe_int (pa_cons pe_int (pa_cons (pe_op op_sub (pv 2) pe_int) (pa_cons (pe_call G__law_draw (hr.mono (by decide)) (by rfl) T.g__law_draw T.F__law_draw.kp T.b__law_draw .nil pass0 (pa_cons (pv 0) (pa_cons (pv 2) pa_nil))) pa_nil))))) pa_nil))))))), ?_⟩
    walk_at "hs"
    refine c_draw (n := bits) (st := st) (c := c) (fun v => ∃ d, v = V.int d ∧ 0 ≤ d ∧ d < p) rfl (by omega) (fun R r => ?_) hs ?_ ?_
    · walk_at "hs"
      exact r
    · intro j hj H' R sa' g' r
      walk_at "hs"
      refine ⟨st, c, p, rfl, sa', by omega, by omega, fun d H'' d0 d1 sa'' g'' => ?_⟩
      walk_at "hs"
      refine ⟨sz (show 4 ≤ 1000000 by decide), fun lr nlr => ?_⟩
      walk_at "hs"
      refine ⟨st, c, lr, [0, 1, p - 1, d], rfl, sa''.same (same_upd nlr), Ob.new sa'' nlr, show 0 < 4 by decide, show 4 ≤ 1000 by decide, fun b' H7 hb' s7 g7 => ?_⟩
      have bb : 0 ≤ b' ∧ b' < p := by
        simp only [List.mem_cons, List.not_mem_nil, or_false] at hb'
        omega
      exact r _ _ ⟨b', rfl, bb.1, bb.2⟩ s7 ((g''.trans (Gd.of (same_upd nlr))).trans g7)
    intro pa H9 ys2 npa sa9 g9 hys2 hP2 opa
    obtain ⟨pt, rfl, hpt⟩ := vals_ints ys2 hP2
    rw [List.length_map] at hys2
    exact q H9 pa pt sa9 g9 hys2 hpt opa
def sp__law_line : Sp := fun vs H Q _ => ∃ (a b : Addr) (t p : Int) (A B : List Int), vs = [.ref a, .ref b, .int t, .int p] ∧ H a = some (.lst (A.map V.int)) ∧ H b = some (.lst (B.map V.int)) ∧ A.length = B.length ∧ A.length ≤ 5 ∧ In 0 p A ∧ In 0 p B ∧ 2 ≤ p ∧ p ≤ 2147483647 ∧
  ∀ H' q, Same H H' → H q = none → H' q = some (.lst ((lnM p A B t).map V.int)) → Q (.ref q) H'
theorem ok__law_line (T : Txt K mg) : FnOk P w K mg base CX0 1 T.f__law_line T.fd__law_line ["one", "two", "t", "p"] (sp__law_line) := by
  refine T.F__law_line.ok sc__law_line (fun vs H Q E h => ?len) (fun cdv A outer s H vs Q E hr h => ?body)
  · obtain ⟨a, b, t, p, A, B, rfl, _⟩ := h
    rfl
  · obtain ⟨a, b, t, p, A, B, rfl, ha, hb, hl, hl5, iA, iB, hp, hp2, q⟩ := h
    refine ⟨_, (pss_one (ps_ret (pe_lc (own := [("k", 4)]) rfl sc__law_line.nd (pi_range1 (by rfl) T.m_range (pa_cons (pe_callB (lenK_ (K := K) rfl) (by rfl) T.m_len PySem.boot_len (pa_cons (pv 0) pa_nil)) pa_nil)) (blkOk_by (own := [("k", 4)]) (N := N__law_line) (sc := defScope s__law_line) (by decide +kernel)) (fun _ _ _ _ _ => (pg_name (i := 4) sc__law_line.nd rfl (.inl rfl))) (fun _ _ _ _ _ => pts_nil) (fun _ _ _ _ _ => (pe_op op_mod (pe_callTy call_int1 (by rfl) T.m_int (by decide +kernel) (pa_cons (pe_op op_add (pe_ix (ixL_ (K := K) rfl) (pv 0) (pv 4) (fun _ _ => rfl)) (pe_op op_mul (pv 2) (pe_op op_sub (pe_ix (ixL_ (K := K) rfl) (pv 1) (pv 4) (fun _ _ => rfl)) (pe_ix (ixL_ (K := K) rfl) (pv 0) (pv 4) (fun _ _ => rfl))))) pa_nil)) (pv 3)))))), ?_⟩
    walk_at "hs"
    refine c_rng (n := A.length) ((lnM p A B t).map V.int) rfl (by omega) (fun R r => ?_) (by rw [List.length_map, ln_len hl]) ?_ ?_
    · walk_at "hs"
      rw [List.length_map]
      exact r
    · intro j hj H' R s r
      have b1 := in_getD iA (x := (j : Int)) (by omega) (by omega)
      have b2 := in_getD iB (x := (j : Int)) (by omega) (by omega)
      have ha' := s _ _ ha
      have hb' := s _ _ hb
      walk_at "hs"
      refine r _ _ (Same.refl _) ?_
      rw [Int.toNat_natCast]
      have h : (A.zip B)[j]? = some (A.getD j 0, B.getD j 0) := by
        rw [List.getElem?_zip_eq_some, List.getD_eq_getElem?_getD, List.getD_eq_getElem?_getD, List.getElem?_eq_getElem hj, List.getElem?_eq_getElem (by omega)]
        exact ⟨rfl, rfl⟩
      unfold lnM
      rw [List.getElem?_map, List.getElem?_map, h]
      rfl
    · intro D H' nD s eD
      exact q H' D s nD eD
def sp__law_at : Sp := fun vs H Q _ => ∃ (a : Addr) (t p : Int) (v : List Int) (n : Nat), vs = [.ref a, .int t, .int p] ∧ H a = some (.lst (v.map V.int)) ∧ v.length = n + 1 ∧ n ≤ 5 ∧ (p = 7 ∨ p = 11 ∨ p = 97 ∨ p = 251) ∧ In 0 p v ∧ 0 ≤ t ∧ t < p ∧
  ∀ H', Same H H' → Q (.int (totL p v t (n + 1) (n + 1))) H'
theorem ok__law_at (T : Txt K mg) : FnOk P w K mg base CX0 1 T.f__law_at T.fd__law_at ["values", "t", "p"] (sp__law_at) := by
  refine T.F__law_at.ok sc__law_at (fun vs H Q E h => ?len) (fun cdv A outer s H vs Q E hr h => ?body)
  · obtain ⟨a, t, p, v, n, rfl, _⟩ := h
    rfl
  · obtain ⟨a, t, p, v, n, rfl, ha, hv, hn, hp, hin, t0, t1, q⟩ := h
    have hp2 : 2 ≤ p := by omega
    have hp3 : p ≤ 300 := by omega
    refine ⟨_, (pss_cons (ps_set (i := 3) sc__law_at.nd rfl (.inl rfl) pe_int)
      (pss_cons (ps_for PassesOwn.never rfl (pi_range1 (by rfl) T.m_range (pa_cons (pe_callB (lenK_ (K := K) rfl) (by rfl) T.m_len PySem.boot_len (pa_cons (pv 0) pa_nil)) pa_nil)) (pg_name (i := 4) sc__law_at.nd rfl (.inl rfl)) (pss_cons (ps_set (i := 5) sc__law_at.nd rfl (.inl rfl) pe_int)
      (pss_cons (ps_set (i := 6) sc__law_at.nd rfl (.inr rfl) pe_int)
      (pss_cons (ps_for PassesOwn.never rfl (pi_range1 (by rfl) T.m_range (pa_cons (pe_callB (lenK_ (K := K) rfl) (by rfl) T.m_len PySem.boot_len (pa_cons (pv 0) pa_nil)) pa_nil)) (pg_name (i := 7) sc__law_at.nd rfl (.inl rfl)) (pss_one (ps_if (pt_cmpR op_ne (pv 7) (pv 4) (nomark _)) (pss_cons (ps_set (i := 5) sc__law_at.nd rfl (.inl rfl) (pe_op op_mod (pe_callTy call_int1 (by rfl) T.m_int (by decide +kernel) (pa_cons (pe_op op_mul (pv 5) (pe_op op_sub (pv 1) (pv 7))) pa_nil)) (pv 2)))
      (pss_one (ps_set (i := 6) sc__law_at.nd rfl (.inr rfl) (pe_op op_mod (pe_callTy call_int1 (by rfl) T.m_int (by decide +kernel) (pa_cons (pe_op op_mul (pv 6) (pe_op op_sub (pv 4) (pv 7))) pa_nil)) (pv 2))))) pss_nil)))
      (pss_cons (ps_set (i := 8) sc__law_at.nd rfl (.inl rfl) (pe_ix (ixL_ (K := K) rfl) (pe_lc (own := [("x", 9)]) rfl sc__law_at.nd (pi_range1 (by rfl) T.m_range (pa_cons (pv 2) pa_nil)) (blkOk_by (own := [("x", 9)]) (N := N__law_at) (sc := defScope s__law_at) (by decide +kernel)) (fun _ _ _ _ _ => (pg_name (i := 9) sc__law_at.nd rfl (.inl rfl))) (fun _ _ _ _ _ => (pts_one (pt_cmpR op_eq (pe_op op_mod (pe_callTy call_int1 (by rfl) T.m_int (by decide +kernel) (pa_cons (pe_op op_mul (pv 9) (pv 6)) pa_nil)) (pv 2)) pe_int (nomark _)))) (fun _ _ _ _ _ => (pv 9))) pe_int (fun _ _ => rfl)))
      (pss_one (ps_set (i := 3) sc__law_at.nd rfl (.inl rfl) (pe_op op_mod (pe_callTy call_int1 (by rfl) T.m_int (by decide +kernel) (pa_cons (pe_op op_add (pv 3) (pe_op op_mul (pe_op op_mul (pe_ix (ixL_ (K := K) rfl) (pv 0) (pv 4) (fun _ _ => rfl)) (pv 5)) (pv 8))) pa_nil)) (pv 2)))))))))
      (pss_one (ps_ret (pv 3))))), ?_⟩
    walk_at "hs"
    rw [List.length_map, hv, Int.toNat_natCast]
    refine ⟨by omega, by omega, ?_⟩
    refine fo_range (fun i σ H' => Same H H' ∧ i ≤ n + 1 ∧ ∃ x4 x5 x6 x7 x8 x9, σ = [some (.ref a), some (.int t), some (.int p), some (.int (totL p v t (n + 1) i)), x4, x5, x6, x7, x8, x9]) ?_ ?_ ?_
    · exact ⟨Same.refl _, Nat.zero_le _, none, none, none, none, none, none, rfl⟩
    · rintro k σ H' hk ⟨s, hk', x4, x5, x6, x7, x8, x9, rfl⟩
      have ha' := s _ _ ha
      have iv := inv_at hp2 (u120 hp).choose_spec hn (show k ≤ n by omega)
      have bt := tot_in hp2 (v := v) (t := t) (n := n + 1) k
      have bv := in_getD hin (x := (k : Int)) (by omega) (by omega)
      rw [totL_succ]
      generalize totL p v t (n + 1) k = tt at *
      walk_at "hs"
      rw [List.length_map, hv, Int.toNat_natCast]
      refine ⟨by omega, by omega, ?_⟩
      refine fo_range (fun j σ H2 => H2 = H' ∧ j ≤ n + 1 ∧ ∃ x7, σ = [some (.ref a), some (.int t), some (.int p), some (.int tt), some (.int (k : Int)), some (.int (prP p (fun j => t - (j : Int)) k j)), some (.int (prP p (fun j => (k : Int) - (j : Int)) k j)), x7, x8, x9]) ?_ ?_ ?_
      · exact ⟨rfl, Nat.zero_le _, _, rfl⟩
      · rintro j σ H2 hj ⟨rfl, hj', x7, rfl⟩
        have b1 := prP_in hp2 (g := fun j => t - (j : Int)) (k := k) j
        have b2 := prP_in hp2 (g := fun j => (k : Int) - (j : Int)) (k := k) j
        have e1 : prP p (fun j => t - (j : Int)) k (j + 1) = if j = k then prP p (fun j => t - (j : Int)) k j else prP p (fun j => t - (j : Int)) k j * (t - (j : Int)) % p := rfl
        have e2 : prP p (fun j => (k : Int) - (j : Int)) k (j + 1) = if j = k then prP p (fun j => (k : Int) - (j : Int)) k j else prP p (fun j => (k : Int) - (j : Int)) k j * ((k : Int) - (j : Int)) % p := rfl
        rw [e1, e2]
        generalize prP p (fun j => t - (j : Int)) k j = r1 at *
        generalize prP p (fun j => (k : Int) - (j : Int)) k j = r2 at *
        walk_at "hs"
        refine ifnd (fun hc => ?_) (fun hc => ?_)
        · rw [if_neg (by omega), if_neg (by omega)]
          walk_at "hs"
          exact ⟨rfl, by omega, _, rfl⟩
        · rw [if_pos (by omega), if_pos (by omega)]
          walk_at "hs"
          exact ⟨rfl, by omega, _, rfl⟩
      · rintro σ H2 ⟨rfl, _, x7, rfl⟩
        have b1 := prP_in hp2 (g := fun j => t - (j : Int)) (k := k) (n + 1)
        have b2 := prP_in hp2 (g := fun j => (k : Int) - (j : Int)) (k := k) (n + 1)
        generalize prP p (fun j => t - (j : Int)) k (n + 1) = r1 at *
        generalize prP p (fun j => (k : Int) - (j : Int)) k (n + 1) = r2 at *
        walk_at "hs"
        refine c_rngF (n := p.toNat) (fun j => decide ((j : Int) * r2 % p = 1)) (fun j => V.int (j : Int)) rfl (by omega) (fun R r => ?_) ?_ ?_ ?_
        · walk_at "hs"
          rw [Int.toNat_of_nonneg (show 0 ≤ p by omega)] at r
          exact r
        · intro j hj H3 R s3 r
          walk_at "hs"
          exact r
        · intro j hj hf H3 R s3 r
          walk_at "hs"
          exact r
        · intro D H3 nD s3 eD
          have he : ((List.range p.toNat).filter fun (j : Nat) => decide ((j : Int) * r2 % p = 1)).map (fun (j : Nat) => V.int (j : Int)) = (invL p r2).map V.int := by
            unfold invL
            rw [List.map_map]
            rfl
          rw [he] at eD
          have bi := in_D invL_in iv.1
          have hii : (invL p r2).getD (0 : Int).toNat 0 = invS p r2 := rfl
          have bi2 : 0 ≤ (invL p r2).getD (0 : Int).toNat 0 ∧ (invL p r2).getD (0 : Int).toNat 0 < p := bi
          have ha3 := s3 _ _ ha'
          have il := iv.1
          rw [Int.toNat_natCast] at bv
          walk_at "hs"
          rw [hii, Int.toNat_natCast]
          exact ⟨s.trans s3, by omega, _, _, _, _, _, _, rfl⟩
    · rintro σ H' ⟨s, _, x4, x5, x6, x7, x8, x9, rfl⟩
      walk_at "hs"
      exact q H' s
def sp__law_lines_right (K : PySem.W.Frag) : Sp := fun vs H Q _ => ∃ (st c tb : Addr) (p : Int) (Tb : List Int) (n : Nat), vs = [.ref st, .ref tb, .int (n : Int), .int p] ∧ StA H st c ∧ Ob st c H tb (.lst (Tb.map V.int)) ∧ Tb.length = 2 ^ n ∧ n ≤ 5 ∧ In 0 p Tb ∧ (p = 7 ∨ p = 11 ∨ p = 97 ∨ p = 251 ∨ p = 65537 ∨ p = 2147483647) ∧
  ∀ H', StA H' st c → Gd st c H H' → Q (.bl true) H'
theorem ok__law_lines_right (T : Txt K mg) : FnOk P w K mg base CX0 5 T.f__law_lines_right T.fd__law_lines_right ["state", "table", "many", "p"] (sp__law_lines_right K) := by
  have G__law_point := ok__law_point (P := P) (w := w) (base := base) T
  have G__law_draw := ok__law_draw (P := P) (w := w) (base := base) T
  have G_line_values := ok_line_values (P := P) (w := w) (base := base) T
  have G_nearness := ok_nearness (P := P) (w := w) (base := base) T
  have G_between := ok_between (P := P) (w := w) (base := base) T
  have G__law_line := ok__law_line (P := P) (w := w) (base := base) T
  have G__law_value := ok__law_value (P := P) (w := w) (base := base) T
  have G__law_at := ok__law_at (P := P) (w := w) (base := base) T
  have G_point_table := ok_point_table (P := P) (w := w) (base := base) T
  refine T.F__law_lines_right.ok sc__law_lines_right (fun vs H Q E h => ?len) (fun cdv A outer s H vs Q E hr h => ?body)
  · obtain ⟨st, c, tb, p, Tb, n, rfl, _⟩ := h
    rfl
  · obtain ⟨st, c, tb, p, Tb, n, rfl, hs, otb, hT, hn, iT, hp, q⟩ := h
    have hp2 : 2 ≤ p := by omega
    have hpb : p ≤ 2147483647 := by omega
    refine ⟨_, (pss_cons (ps_set (i := 4) sc__law_lines_right.nd rfl (.inr rfl) (pe_call G__law_point (hr.mono (by decide)) (by rfl) T.g__law_point T.F__law_point.kp T.b__law_point .nil pass0 (pa_cons (pv 0) (pa_cons (pv 2) (pa_cons (pv 3) pa_nil)))))
      (pss_cons (ps_set (i := 5) sc__law_lines_right.nd rfl (.inr rfl) (pe_call G__law_point (hr.mono (by decide)) (by rfl) T.g__law_point T.F__law_point.kp T.b__law_point .nil pass0 (pa_cons (pv 0) (pa_cons (pv 2) (pa_cons (pv 3) pa_nil)))))
      (pss_cons (ps_set (i := 6) sc__law_lines_right.nd rfl (.inl rfl) (pe_call G__law_draw (hr.mono (by decide)) (by rfl) T.g__law_draw T.F__law_draw.kp T.b__law_draw .nil pass0 (pa_cons (pv 0) (pa_cons (pv 3) pa_nil))))
      (pss_cons (ps_if (pt_cmpR (neD_ (K := K) rfl (hu64 hr)) (pe_call G_between (hr.mono (by decide)) (by rfl) T.g_between T.F_between.kp T.b_between .nil pass0 (pa_cons (pv 4) (pa_cons (pv 5) (pa_cons (pv 6) (pa_cons (pv 3) pa_nil))))) (pe_call G__law_line (hr.mono (by decide)) (by rfl) T.g__law_line T.F__law_line.kp T.b__law_line .nil pass0 (pa_cons (pv 4) (pa_cons (pv 5) (pa_cons (pv 6) (pa_cons (pv 3) pa_nil))))) (nomark _)) (pss_one (ps_ret pe_bl)) pss_nil)
      (pss_cons (ps_set (i := 7) sc__law_lines_right.nd rfl (.inl rfl) (pe_call G_line_values (hr.mono (by decide)) (by rfl) T.g_line_values T.F_line_values.kp T.b_line_values .nil pass0 (pa_cons (pv 1) (pa_cons (pv 4) (pa_cons (pv 5) (pa_cons (pv 3) pa_nil))))))
      (pss_cons (ps_setLc (i := 8) (own := [("k", 9)]) rfl sc__law_lines_right.nd rfl rfl (sw_true rfl rfl rfl (by decide +kernel)) (pi_range1 (by rfl) T.m_range (pa_cons (pe_op op_add (pv 2) pe_int) pa_nil)) (blkOk_by (own := [("k", 9)]) (N := N__law_lines_right) (sc := defScope s__law_lines_right) (by decide +kernel)) (fun _ _ _ _ _ => (pg_name (i := 9) sc__law_lines_right.nd rfl (.inl rfl))) (fun _ _ _ _ _ => pts_nil) (fun _ _ _ _ _ => (pe_call G__law_value (hr.mono (by decide)) (by rfl) T.g__law_value T.F__law_value.kp T.b__law_value .nil pass0 (pa_cons (pv 1) (pa_cons (pe_call G__law_line (hr.mono (by decide)) (by rfl) T.g__law_line T.F__law_line.kp T.b__law_line .nil pass0 (pa_cons (pv 4) (pa_cons (pv 5) (pa_cons (pv 9) (pa_cons (pv 3) pa_nil))))) (pa_cons (pv 3) pa_nil))))))
      (pss_cons (ps_if (pw_or (pt_not (pt_val (pe_callB (isi_ (K := K) rfl) (by rfl) T.m_isinstance (by decide +kernel) (pa_cons (pv 7) (pa_cons (pe_bltn (v := .ty "list") (by rfl) T.m_list (by decide +kernel) rfl) pa_nil))))) (pw_or1 (pt_cmpR (neD_ (K := K) rfl (hu64 hr)) (pv 7) (pv 8) (nomark _)))).pt (pss_one (ps_ret pe_bl)) pss_nil)
      (pss_cons (ps_set (i := 10) sc__law_lines_right.nd rfl (.inl rfl) (pe_call G_nearness (hr.mono (by decide)) (by rfl) T.g_nearness T.F_nearness.kp T.b_nearness .nil pass0 (pa_cons (pv 4) (pa_cons (pv 5) (pa_cons (pv 3) pa_nil)))))
      (pss_cons (ps_if (pw_or (pt_cmpR op_ne (pv 10) (pe_call G_nearness (hr.mono (by decide)) (by rfl) T.g_nearness T.F_nearness.kp T.b_nearness .nil pass0 (pa_cons (pv 5) (pa_cons (pv 4) (pa_cons (pv 3) pa_nil)))) (nomark _)) (pw_or1 (pt_cmpR op_ne (pv 10) (pe_call G__law_value (hr.mono (by decide)) (by rfl) T.g__law_value T.F__law_value.kp T.b__law_value .nil pass0 (pa_cons (pe_call G_point_table (hr.mono (by decide)) (by rfl) T.g_point_table T.F_point_table.kp T.b_point_table .nil pass0 (pa_cons (pv 4) (pa_cons (pv 3) pa_nil))) (pa_cons (pv 5) (pa_cons (pv 3) pa_nil)))) (nomark _)))).pt (pss_one (ps_ret pe_bl)) pss_nil)
      (pss_one (ps_ret (pe_or (pe_cmpR op_gt (pv 3) pe_int (nomark _)) (pe_one (pe_cmpR op_eq (pe_call G__law_at (hr.mono (by decide)) (by rfl) T.g__law_at T.F__law_at.kp T.b__law_at .nil pass0 (pa_cons (pv 7) (pa_cons (pv 6) (pa_cons (pv 3) pa_nil)))) (pe_call G__law_value (hr.mono (by decide)) (by rfl) T.g__law_value T.F__law_value.kp T.b__law_value .nil pass0 (pa_cons (pv 1) (pa_cons (pe_call G__law_line (hr.mono (by decide)) (by rfl) T.g__law_line T.F__law_line.kp T.b__law_line .nil pass0 (pa_cons (pv 4) (pa_cons (pv 5) (pa_cons (pv 6) (pa_cons (pv 3) pa_nil))))) (pa_cons (pv 3) pa_nil)))) (nomark _))))))))))))))), ?_⟩
    walk_at "hs"
    refine ⟨st, c, p, n, rfl, hs, hp2, hpb, by omega, fun H1 a A sa1 g1 lA iA oA => ?_⟩
    walk_at "hs"
    refine ⟨st, c, p, n, rfl, sa1, hp2, hpb, by omega, fun H2 b B sa2 g2 lB iB oB => ?_⟩
    walk_at "hs"
    refine ⟨st, c, p, rfl, sa2, by omega, by omega, fun t H3 t0 t1 sa3 g3 => ?_⟩
    have g03 := g1.trans (g2.trans g3)
    have et := (otb.go g03).at_
    have ea := (oA.go (g2.trans g3)).at_
    have eb := (oB.go g3).at_
    have hAB : A.length = B.length := by omega
    have hA5 : A.length ≤ 5 := by omega
    have hTA : Tb.length = 2 ^ A.length := by rw [lA, hT]
    have hTB : Tb.length = 2 ^ B.length := by rw [lB, hT]
    have hT32 := len_small hT hn
    walk_at "hs"
    refine ⟨a, b, t, p, A, B, rfl, ea, eb, hAB, hA5, iA, iB, hp2, hpb, fun H4 l1 s4 n4 e4 => ?_⟩
    walk_at "hs"
    refine ⟨a, b, t, p, A, B, rfl, s4 _ _ ea, s4 _ _ eb, hAB, hA5, iA, iB, hp2, hpb, fun H5 l2 s5 n5 e5 => ?_⟩
    have s35 := s4.trans s5
    walk_at "hs"
    refine neL_same (s5 _ _ e4) e5 ?_
    walk_at "hs"
    refine iff' ?_
    walk_at "hs"
    refine ⟨tb, a, b, p, Tb, A, B, rfl, s35 _ _ et, s35 _ _ ea, s35 _ _ eb, hAB, hA5, hTA, iT, iA, iB, hp2, hpb, fun H6 lv s6 n6 e6 => ?_⟩
    have s36 := s35.trans s6
    walk_at "hs"
    refine c_rng (n := n + 1) ((lsM p Tb A B).map V.int) rfl (by omega) (fun R r => ?_) (by unfold lsM; simp [lA]) ?_ ?_
    · walk_at "hs"
      exact r
    · intro j hj H' R s r
      have s3 := s36.trans s
      walk_at "hs"
      refine ⟨a, b, (j : Int), p, A, B, rfl, s3 _ _ ea, s3 _ _ eb, hAB, hA5, iA, iB, hp2, hpb, fun H7 l3 s7 n7 e7 => ?_⟩
      walk_at "hs"
      refine ⟨tb, l3, p, Tb, _, rfl, s7 _ _ (s3 _ _ et), e7, by omega, by rw [ln_len hAB]; exact hA5, iT, ln_in (by omega), hp2, hpb, fun H8 s8 => ?_⟩
      refine r _ _ (s7.trans s8) ?_
      unfold lsM
      rw [lA, List.getElem?_map, rg_at hj]
      rfl
    · intro D H7 nD s7 eD
      have s37 := s36.trans s7
      walk_at "hs"
      refine a_isi (ty_lst (s7 _ _ e6)) kb_ll ?_
      walk_at "hs"
      refine iff' ?_
      walk_at "hs"
      refine neL_same (s7 _ _ e6) eD ?_
      walk_at "hs"
      refine iff' ?_
      walk_at "hs"
      refine ⟨a, b, p, A, B, rfl, s37 _ _ ea, s37 _ _ eb, hAB, iA, iB, hp2, hpb, fun H8 s8 => ?_⟩
      have s38 := s37.trans s8
      walk_at "hs"
      refine ⟨b, a, p, B, A, rfl, s38 _ _ eb, s38 _ _ ea, hAB.symm, iB, iA, hp2, hpb, fun H9 s9 => ?_⟩
      have s39 := s38.trans s9
      have hsym : neM p B A = neM p A B := neM_comm B A 1
      rw [hsym]
      walk_at "hs"
      refine ifnd (fun h => absurd rfl h) (fun _ => ?_)
      walk_at "hs"
      refine ⟨a, p, A, rfl, s39 _ _ ea, by omega, hpb, by omega, fun H10 pl s10 n10 e10 => ?_⟩
      have s310 := s39.trans s10
      walk_at "hs"
      have hpl : (ptM p A).length = 2 ^ B.length := by rw [ptM_len, hAB]
      have hpl2 := len_small hpl (by omega)
      have ipt : In 0 p (ptM p A) := by
        have := ptM_lt hp2 A.length A (Nat.le_refl _)
        rw [List.take_length] at this
        exact this
      refine ⟨pl, b, p, _, B, rfl, e10, s310 _ _ eb, by omega, by omega, ipt, iB, hp2, hpb, fun H11 s11 => ?_⟩
      have s311 := s310.trans s11
      rw [← neM_lv hp2 hAB (by omega)]
      walk_at "hs"
      refine ifnd (fun h => absurd rfl h) (fun _ => ?_)
      walk_at "hs"
      have saF := (sa3.same s311)
      have gF : Gd st c H H11 := g03.trans (Gd.of s311)
      refine ifd (fun _ => q _ saF gF) (fun hc => ?_)
      walk_at "hs"
      have hp7 : p = 7 ∨ p = 11 ∨ p = 97 ∨ p = 251 := by omega
      have s611 := ((((s7.trans s8).trans s9).trans s10).trans s11)
      have ils : In 0 p (lsM p Tb A B) := fun e he => by
        unfold lsM at he
        obtain ⟨k, _, rfl⟩ := List.mem_map.mp he
        exact ⟨Int.emod_nonneg _ (by omega), Int.emod_lt_of_pos _ (by omega)⟩
      refine ⟨lv, t, p, lsM p Tb A B, n, rfl, s611 _ _ e6, by unfold lsM; simp [lA], hn, hp7, ils, t0, t1, fun H12 s12 => ?_⟩
      have s312 := s311.trans s12
      walk_at "hs"
      refine ⟨a, b, t, p, A, B, rfl, s312 _ _ ea, s312 _ _ eb, hAB, hA5, iA, iB, hp2, hpb, fun H13 l4 s13 n13 e13 => ?_⟩
      have s313 := s312.trans s13
      walk_at "hs"
      refine ⟨tb, l4, p, Tb, _, rfl, s313 _ _ et, e13, by omega, by rw [ln_len hAB]; exact hA5, iT, ln_in (by omega), hp2, hpb, fun H14 s14 => ?_⟩
      have hline := tot_line hp7 hAB hA5 hTA iT t
      have hline2 : totL p (lsM p Tb A B) t (n + 1) (n + 1) = lvM p Tb (lnM p A B t) := by
        rw [← lA]
        exact hline
      rw [hline2]
      walk_at "hs"
      rw [show decide (lvM p Tb (lnM p A B t) = lvM p Tb (lnM p A B t)) = true from decide_eq_true rfl]
      exact q _ (sa3.same (s313.trans s14)) (g03.trans (Gd.of (s313.trans s14)))
def pow6 : List Int := [1, 2, 4, 8, 16, 32]
theorem pow6_at {n : Nat} (h : n < 6) : pow6.getD n 0 = ((2 ^ n : Nat) : Int) := by
  match n, h with
  | 0, _ => rfl
  | 1, _ => rfl
  | 2, _ => rfl
  | 3, _ => rfl
  | 4, _ => rfl
  | 5, _ => rfl
def sp_law (K : PySem.W.Frag) : Sp := fun vs H Q _ => ∃ (a : Addr) (ns : List Int), vs = [.ref a] ∧ SqL K H a (ns.map V.int) ∧ ns.length ≤ 63 ∧ ∀ H', Q (.bl true) H'
theorem ok_law (T : Txt K mg) : RunsAt P w K mg base CX0 6 T.f_law T.fd_law ["script"] (sp_law K) := by
  have G__law_state := ok__law_state (P := P) (w := w) (base := base) T
  have G__law_pick := ok__law_pick (P := P) (w := w) (base := base) T
  have G__law_draw := ok__law_draw (P := P) (w := w) (base := base) T
  have G__law_point := ok__law_point (P := P) (w := w) (base := base) T
  have G_value_at := ok_value_at (P := P) (w := w) (base := base) T
  have G_point_table := ok_point_table (P := P) (w := w) (base := base) T
  have G_fold := ok_fold (P := P) (w := w) (base := base) T
  have G__law_value := ok__law_value (P := P) (w := w) (base := base) T
  have G__law_near := ok__law_near (P := P) (w := w) (base := base) T
  have G__law_lines_right := ok__law_lines_right (P := P) (w := w) (base := base) T
  refine runs_of T.F_law sc_law (fun vs H Q E h => ?len) (fun cdv A outer s H vs Q E hG hr h => ?body)
  · obtain ⟨a, ns, rfl, _⟩ := h
    rfl
  · obtain ⟨a, ns, rfl, hS, hl, q⟩ := h
    refine ⟨_, (pss_cons (ps_set (i := 1) sc_law.nd rfl (.inr rfl) (pe_call G__law_state (hr.mono (by decide)) (by rfl) T.g__law_state T.F__law_state.kp T.b__law_state .nil pass0 (pa_cons (pv 0) pa_nil)))
      (pss_cons (ps_for PassesOwn.never rfl (piL_ (K := K) rfl (pe_op op_cat (pe_lst (pa_cons pe_int pa_nil)) (pe_slice (slL_ (K := K) rfl) (pv 0) po_none (po_some pe_int)))) (pg_name (i := 2) sc_law.nd rfl (.inl rfl)) (pss_cons (ps_set (i := 3) sc_law.nd rfl (.inr rfl) (pe_call G__law_pick (hr.mono (by decide)) (by rfl) T.g__law_pick T.F__law_pick.kp T.b__law_pick .nil pass0 (pa_cons (pv 1) (pa_cons (pe_lst (pa_cons pe_int (pa_cons pe_int (pa_cons pe_int (pa_cons pe_int (pa_cons pe_int (pa_cons pe_int pa_nil))))))) pa_nil))))
      (pss_cons (ps_set (i := 4) sc_law.nd rfl (.inl rfl) (pe_call G__law_draw (hr.mono (by decide)) (by rfl) T.g__law_draw T.F__law_draw.kp T.b__law_draw .nil pass0 (pa_cons (pv 1) (pa_cons pe_int pa_nil))))
      (pss_cons (ps_set (i := 5) sc_law.nd rfl (.inl rfl) (pe_ix (ixL_ (K := K) rfl) (pe_lst (pa_cons pe_int (pa_cons pe_int (pa_cons pe_int (pa_cons pe_int (pa_cons pe_int (pa_cons pe_int pa_nil))))))) (pv 4) (fun _ _ => rfl)))
      (pss_cons (ps_set (i := 6) sc_law.nd rfl (.inr rfl) (pe_lc (own := [("k", 7)]) rfl sc_law.nd (pi_range1 (by rfl) T.m_range (pa_cons (pv 5) pa_nil)) (blkOk_by (own := [("k", 7)]) (N := N_law) (sc := defScope s_law) (by decide +kernel)) (fun _ _ _ _ _ => (pg_name (i := 7) sc_law.nd rfl (.inl rfl))) (fun _ _ _ _ _ => pts_nil) (fun _ _ _ _ _ => (pe_call G__law_draw (hr.mono (by decide)) (by rfl) T.g__law_draw T.F__law_draw.kp T.b__law_draw .nil pass0 (pa_cons (pv 1) (pa_cons (pv 3) pa_nil))))))
      (pss_cons (ps_set (i := 8) sc_law.nd rfl (.inr rfl) (pe_call G__law_point (hr.mono (by decide)) (by rfl) T.g__law_point T.F__law_point.kp T.b__law_point .nil pass0 (pa_cons (pv 1) (pa_cons (pv 4) (pa_cons (pv 3) pa_nil)))))
      (pss_cons (ps_set (i := 9) sc_law.nd rfl (.inl rfl) (pe_callB (call_rep (K := K) rfl (hu64 hr) hG) (by rfl) T.m_repr (by decide +kernel) (pa_cons (pe_lst (pa_cons (pv 6) (pa_cons (pv 8) pa_nil))) pa_nil)))
      (pss_cons (ps_set (i := 10) sc_law.nd rfl (.inl rfl) (pe_call G_value_at (hr.mono (by decide)) (by rfl) T.g_value_at T.F_value_at.kp T.b_value_at .nil pass0 (pa_cons (pv 6) (pa_cons (pv 8) (pa_cons (pv 3) pa_nil)))))
      (pss_cons (ps_if (pw_or (pt_val (pe_callB (isi_ (K := K) rfl) (by rfl) T.m_isinstance (by decide +kernel) (pa_cons (pv 10) (pa_cons (pe_bltn (v := .ty "bool") (by rfl) T.m_bool (by decide +kernel) rfl) pa_nil)))) (pw_or1 (pt_cmpR op_ne (pv 10) (pe_call G__law_value (hr.mono (by decide)) (by rfl) T.g__law_value T.F__law_value.kp T.b__law_value .nil pass0 (pa_cons (pv 6) (pa_cons (pv 8) (pa_cons (pv 3) pa_nil)))) (nomark _)))).pt (pss_one (ps_ret pe_bl)) pss_nil)
      (pss_cons (ps_if (pt_cmpR (neD_ (K := K) rfl (hu64 hr)) (pe_call G_point_table (hr.mono (by decide)) (by rfl) T.g_point_table T.F_point_table.kp T.b_point_table .nil pass0 (pa_cons (pv 8) (pa_cons (pv 3) pa_nil))) (pe_lc (own := [("k", 7)]) rfl sc_law.nd (pi_range1 (by rfl) T.m_range (pa_cons (pv 5) pa_nil)) (blkOk_by (own := [("k", 7)]) (N := N_law) (sc := defScope s_law) (by decide +kernel)) (fun _ _ _ _ _ => (pg_name (i := 7) sc_law.nd rfl (.inl rfl))) (fun _ _ _ _ _ => pts_nil) (fun _ _ _ _ _ => (pe_call G__law_near (hr.mono (by decide)) (by rfl) T.g__law_near T.F__law_near.kp T.b__law_near .nil pass0 (pa_cons (pv 7) (pa_cons (pv 8) (pa_cons (pv 3) pa_nil)))))) (nomark _)) (pss_one (ps_ret pe_bl)) pss_nil)
      (pss_cons (ps_if (pt_cmpR op_gt (pv 4) pe_int (nomark _)) (pss_cons (ps_set (i := 11) sc_law.nd rfl (.inl rfl) (pe_call G_fold (hr.mono (by decide)) (by rfl) T.g_fold T.F_fold.kp T.b_fold .nil pass0 (pa_cons (pv 6) (pa_cons (pe_ix (ixL_ (K := K) rfl) (pv 8) pe_int (fun _ _ => rfl)) (pa_cons (pv 3) pa_nil)))))
      (pss_cons (ps_setLc (i := 12) (own := [("k", 7)]) rfl sc_law.nd rfl rfl (sw_true rfl rfl rfl (by decide +kernel)) (pi_range1 (by rfl) T.m_range (pa_cons (pe_op op_fdivW (pv 5) pe_int) pa_nil)) (blkOk_by (own := [("k", 7)]) (N := N_law) (sc := defScope s_law) (by decide +kernel)) (fun _ _ _ _ _ => (pg_name (i := 7) sc_law.nd rfl (.inl rfl))) (fun _ _ _ _ _ => pts_nil) (fun _ _ _ _ _ => (pe_op op_mod (pe_callTy call_int1 (by rfl) T.m_int (by decide +kernel) (pa_cons (pe_op op_add (pe_op op_mul (pe_ix (ixL_ (K := K) rfl) (pv 6) (pe_op op_mul pe_int (pv 7)) (fun _ _ => rfl)) (pe_op op_sub pe_int (pe_ix (ixL_ (K := K) rfl) (pv 8) pe_int (fun _ _ => rfl)))) (pe_op op_mul (pe_ix (ixL_ (K := K) rfl) (pv 6) (pe_op op_add (pe_op op_mul pe_int (pv 7)) pe_int) (fun _ _ => rfl)) (pe_ix (ixL_ (K := K) rfl) (pv 8) pe_int (fun _ _ => rfl)))) pa_nil)) (pv 3))))
      (pss_one (ps_if (pw_or (pt_cmpR (neD_ (K := K) rfl (hu64 hr)) (pv 11) (pv 12) (nomark _)) (pw_or1 (pt_cmpR op_ne (pe_call G_value_at (hr.mono (by decide)) (by rfl) T.g_value_at T.F_value_at.kp T.b_value_at .nil pass0 (pa_cons (pv 11) (pa_cons (pe_slice (slL_ (K := K) rfl) (pv 8) (po_some pe_int) po_none) (pa_cons (pv 3) pa_nil)))) (pv 10) (nomark _)))).pt (pss_one (ps_ret pe_bl)) pss_nil)))) pss_nil)
      (pss_one (ps_if (pw_or (pt_not (pt_val (pe_call G__law_lines_right (hr.mono (by decide)) (by rfl) T.g__law_lines_right T.F__law_lines_right.kp T.b__law_lines_right .nil pass0 (pa_cons (pv 1) (pa_cons (pv 6) (pa_cons (pv 4) (pa_cons (pv 3) pa_nil))))))) (pw_or1 (pt_cmpR op_ne (pe_callB (call_rep (K := K) rfl (hu64 hr) hG) (by rfl) T.m_repr (by decide +kernel) (pa_cons (pe_lst (pa_cons (pv 6) (pa_cons (pv 8) pa_nil))) pa_nil)) (pv 9) (nomark _)))).pt (pss_one (ps_ret pe_bl)) pss_nil)))))))))))))
      (pss_one (ps_ret pe_bl)))), ?_⟩
    walk_at "hs"
    refine ⟨a, ns, rfl, hS, hl, fun H1 st c s1 sa1 => ?_⟩
    walk_at "hs"
    refine ⟨sz (show 1 ≤ 1000000 by decide), fun l0 n0 => ?_⟩
    walk_at "hs"
    have sn0 := same_upd (o := .lst [.int 0]) n0
    refine a_slL (sn0.seq (s1.seq hS)) fun l1 n1 => ?_
    have sn1 := sn0.trans (same_upd (o := .lst (cutV (ns.map V.int) none (some 6))) n1)
    have hcl := cutV_length (ns.map V.int) none (some 6)
    rw [List.length_map] at hcl
    refine a_cat (same_upd n1 _ _ upd_same) upd_same (sz (by simp; omega)) fun l2 n2 => ?_
    have sn2 := sn1.trans (same_upd (o := .lst ([.int 0] ++ cutV (ns.map V.int) none (some 6))) n2)
    have sa2 := sa1.same sn2
    have o2 : Ob st c _ l2 (.lst ([.int 0] ++ cutV (ns.map V.int) none (some 6))) := Ob.new (sa1.same sn1) n2
    generalize ([.int 0] ++ cutV (ns.map V.int) none (some 6) : List V) = xs at *
    generalize upd (upd (upd H1 l0 (.lst [.int 0])) l1 (.lst (cutV (ns.map V.int) none (some 6)))) l2 (.lst xs) = HS at *
    refine a_exl (sql o2.at_) ?_
    refine fo_list (xs := xs) (fun i σ H' => StA H' st c ∧ Ob st c H' l2 (.lst xs) ∧ ∃ x2 x3 x4 x5 x6 x7 x8 x9 x10 x11 x12, σ = [some (.ref a), some (.ref st), x2, x3, x4, x5, x6, x7, x8, x9, x10, x11, x12]) ?_ ?_ ?_ ?_
    · exact ⟨sa2, o2, none, none, none, none, none, none, none, none, none, none, none, rfl⟩
    · rintro i σ H' _ ⟨_, o, _⟩
      exact sql o.at_
    · rintro i x σ H2 hi ⟨sa2, o2, x2, x3, x4, x5, x6, x7, x8, x9, x10, x11, x12, rfl⟩
      walk_at "hs"
      refine ⟨sz (show 6 ≤ 1000000 by decide), fun r nr => ?_⟩
      walk_at "hs"
      refine ⟨st, c, r, [7, 11, 97, 251, 65537, 2147483647], rfl, sa2.same (same_upd nr), Ob.new sa2 nr, by decide, by decide, fun p H3 hp sa3 g3 => ?_⟩
      have hp' : p = 7 ∨ p = 11 ∨ p = 97 ∨ p = 251 ∨ p = 65537 ∨ p = 2147483647 := by
        simpa only [List.mem_cons, List.not_mem_nil, or_false] using hp
      have hp2 : 2 ≤ p := by omega
      have hpb : p ≤ 2147483647 := by omega
      have o3 := (o2.same (same_upd (o := .lst [.int 7, .int 11, .int 97, .int 251, .int 65537, .int 2147483647]) nr)).go g3
      walk_at "hs"
      refine ⟨st, c, 6, rfl, sa3, by omega, by omega, fun many H4 m0 m1 sa4 g4 => ?_⟩
      obtain ⟨n, rfl⟩ : ∃ n : Nat, many = (n : Int) := ⟨many.toNat, by omega⟩
      have hn : n ≤ 5 := by omega
      have hpn := pow6_at (n := n) (by omega)
      have hpw : 2 ^ n ≤ 32 := Nat.le_trans (Nat.pow_le_pow_right (by decide) hn) (by decide)
      have hpw0 : 0 < 2 ^ n := Nat.pow_pos (by decide)
      walk_at "hs"
      refine ⟨sz (show 6 ≤ 1000000 by decide), fun r2 nr2 => ?_⟩
      walk_at "hs"
      have hn6 : (n : Int) < (pow6.length : Int) := show (n : Int) < 6 by omega
      refine a_ixL (sql (xs := pow6.map V.int) upd_same) (at_int (by omega) hn6) ?_
      rw [Int.toNat_natCast, hpn]
      have sa4' := sa4.same (same_upd (o := .lst [.int 1, .int 2, .int 4, .int 8, .int 16, .int 32]) nr2)
      have o4 := ((o3.go g4).same (same_upd (o := .lst [.int 1, .int 2, .int 4, .int 8, .int 16, .int 32]) nr2))
      generalize upd H4 r2 (.lst [.int 1, .int 2, .int 4, .int 8, .int 16, .int 32]) = HT at *
      walk_at "hs"
      refine c_draw (n := 2 ^ n) (st := st) (c := c) (fun v => ∃ d, v = V.int d ∧ 0 ≤ d ∧ d < p) rfl (by omega) (fun R r => ?_) sa4' ?_ ?_
      · walk_at "hs"
        exact r
      · intro j hj H' R sa' g' r
        walk_at "hs"
        refine ⟨st, c, p, rfl, sa', by omega, by omega, fun d H'' d0 d1 sa'' g'' => ?_⟩
        exact r _ _ ⟨d, rfl, d0, d1⟩ sa'' g''
      intro tb H5 ys ntb sa5 g5 hys hP otb
      obtain ⟨Tb, rfl, iT⟩ := vals_ints ys hP
      rw [List.length_map] at hys
      have o5 := o4.go g5
      walk_at "hs"
      refine ⟨st, c, p, n, rfl, sa5, hp2, hpb, by omega, fun H6 pa pt sa6 g6 hlp ipt opt => ?_⟩
      have o6 := o5.go g6
      have otb6 := otb.go g6
      have hT : Tb.length = 2 ^ pt.length := by rw [hys, hlp]
      have hl5 : pt.length ≤ 5 := by omega
      have dpd : ∀ Hx rl, Hx rl = some (.lst [.ref tb, .ref pa]) → Hx tb = some (.lst (Tb.map V.int)) → Hx pa = some (.lst (pt.map V.int)) → Dp K Hx (.ref rl) (.list [.list (dInts Tb), .list (dInts pt)]) := fun Hx rl e1 e2 e3 =>
        .lst (sql e1) (.cons (dp_lst e2) (.cons (dp_lst e3) .nil))
      have hrep : ∀ Hx rl (Qx : VK), Hx rl = some (.lst [.ref tb, .ref pa]) → Hx tb = some (.lst (Tb.map V.int)) → Hx pa = some (.lst (pt.map V.int)) → Qx (.str (PyData.list [.list (dInts Tb), .list (dInts pt)]).shown) Hx → rRep K [.ref rl] Hx Qx := by
        intro Hx rl Qx e1 e2 e3 qx
        refine a_rep (dpd Hx rl e1 e2 e3) ?_ ?_ ?_ qx
        · simp only [tame, tameL, tameL_ints (lo := 0) (hi := p) (by omega) (by omega) Tb iT, tameL_ints (lo := 0) (hi := p) (by omega) (by omega) pt ipt, Bool.and_self]
        · simp only [costD, costL, costL_ints]
          omega
        · simp only [PyData.depth, PyData.depthAll, depthL_ints]
          omega
      walk_at "hs"
      refine ⟨sz (show 2 ≤ 1000000 by decide), fun rl nrl => ?_⟩
      walk_at "hs"
      have sr := same_upd (o := .lst [.ref tb, .ref pa]) nrl
      refine hrep _ rl _ upd_same (sr _ _ otb6.at_) (sr _ _ opt.at_) ?_
      have sa7 := sa6.same sr
      have o7 := o6.same sr
      have otb7 := otb6.same sr
      have opt7 := opt.same sr
      generalize upd H6 rl (.lst [.ref tb, .ref pa]) = H7 at *
      walk_at "hs"
      refine ⟨tb, pa, p, Tb, pt, rfl, otb7.at_, opt7.at_, hT, hl5, iT, hp2, hpb, fun H8 s8 => ?_⟩
      walk_at "hs"
      refine a_isi ty_int kb_ib ?_
      walk_at "hs"
      refine iff' ?_
      walk_at "hs"
      refine ⟨tb, pa, p, Tb, pt, rfl, s8 _ _ otb7.at_, s8 _ _ opt7.at_, by omega, hl5, iT, ipt, hp2, hpb, fun H9 s9 => ?_⟩
      have s79 := s8.trans s9
      walk_at "hs"
      refine ifnd (fun h => absurd rfl h) (fun _ => ?_)
      walk_at "hs"
      refine ⟨pa, p, pt, rfl, s79 _ _ opt7.at_, by omega, hpb, by omega, fun H10 pl s10 n10 e10 => ?_⟩
      have s710 := s79.trans s10
      walk_at "hs"
      refine c_rng (n := 2 ^ n) ((ptM p pt).map V.int) rfl (by omega) (fun R r => ?_) (by rw [List.length_map, ptM_len, hlp]) ?_ ?_
      · walk_at "hs"
        exact r
      · intro j hj H' R s r
        walk_at "hs"
        refine ⟨(j : Int), pa, p, pt, rfl, s _ _ (s710 _ _ opt7.at_), hl5, ipt, hp2, hpb, fun H'' s'' => ?_⟩
        refine r _ _ s'' ?_
        have hjp : j < 2 ^ pt.length := by rw [hlp]; exact hj
        have hjl : j < (ptM p pt).length := by rw [ptM_len, hlp]; exact hj
        rw [near3_eq hp2 hl5 hjp, List.getElem?_map, List.getD_eq_getElem?_getD, List.getElem?_eq_getElem hjl]
        rfl
      intro D H11 nD s11 eD
      have s711 := s710.trans s11
      refine neL_same (s11 _ _ e10) eD ?_
      walk_at "hs"
      refine iff' ?_
      walk_at "hs"
      refine ifd (fun hm => ?_) (fun hm => ?_)
      · cases pt with
        | nil => exact absurd hlp (by rw [List.length_nil]; omega)
        | cons n0 pr =>
          have hpr : pr.length + 1 = n := hlp
          have hw : 2 ^ n = 2 * 2 ^ pr.length := by rw [← hpr, Nat.pow_succ]; omega
          have hm32 : 2 ^ pr.length ≤ 32 := by omega
          have ept := s711 _ _ opt7.at_
          walk_at "hs"
          refine ⟨tb, n0, p, Tb, 2 ^ pr.length, rfl, s711 _ _ otb7.at_, by rw [hys, hw], by omega, iT, by omega, hpb, fun H12 rs s12 n12 e12 => ?_⟩
          have s712 := s711.trans s12
          walk_at "hs"
          have hTl : Tb.length = 2 * 2 ^ pr.length := by rw [hys, hw]
          have hb0 : 0 ≤ n0 ∧ n0 < p := ipt n0 List.mem_cons_self
          refine c_rng (n := 2 ^ pr.length) ((foStep p Tb n0).map V.int) rfl (by omega) (fun R r => ?_) (by rw [List.length_map, foStep_len]; omega) ?_ ?_
          · walk_at "hs"
            rw [show ((2 ^ n : Nat) : Int) / 2 = ((2 ^ pr.length : Nat) : Int) by omega]
            exact r
          · intro j hj H' R s r
            have s3 := s712.trans s
            have etb := s3 _ _ otb7.at_
            have ept' := s3 _ _ opt7.at_
            have b1 := in_getD iT (x := 2 * (j : Int)) (by omega) (by omega)
            have b2 := in_getD iT (x := 2 * (j : Int) + 1) (by omega) (by omega)
            walk_at "hs"
            refine r _ _ (Same.refl _) ?_
            rw [← foD_eq]
            unfold foD
            rw [List.getElem?_map, hTl, show 2 * 2 ^ pr.length / 2 = 2 ^ pr.length by omega, rg_at hj]
            have e1 : (2 * (j : Int)).toNat = 2 * j := by omega
            have e2 : (2 * (j : Int) + 1).toNat = 2 * j + 1 := by omega
            rw [e1, e2]
            rfl
          intro D2 H13 nD2 s13 eD2
          have s713 := s712.trans s13
          walk_at "hs"
          refine neL_same (s13 _ _ e12) eD2 ?_
          walk_at "hs"
          refine iff' ?_
          have ept13 := s713 _ _ opt7.at_
          walk_at "hs"
          refine a_slL (sql ept13) fun l5 n5 => ?_
          have sl5 := same_upd (o := .lst (cutV ((n0 :: pr).map V.int) (some 1) none)) n5
          have hcut : cutV ((n0 :: pr).map V.int) (some 1) none = pr.map V.int := cut1 _ _
          have el5 : (upd H13 l5 (.lst (cutV ((n0 :: pr).map V.int) (some 1) none))) l5 = some (.lst (pr.map V.int)) := by rw [upd_same, hcut]
          generalize upd H13 l5 (.lst (cutV ((n0 :: pr).map V.int) (some 1) none)) = H14 at *
          have s714 := s713.trans sl5
          have hvv : lvM p (foStep p Tb n0) pr = lvM p Tb (n0 :: pr) := by
            have f1 := fold_lv hp2 hl5 hT iT
            have f2 := fold_lv hp2 (pt := pr) (T := foStep p Tb n0) (by omega) (by rw [foStep_len, hTl]; omega) (foS_in (by omega))
            rw [List.foldl_cons, f2] at f1
            exact (List.cons.inj f1).1
          walk_at "hs"
          refine ⟨rs, l5, p, foStep p Tb n0, pr, rfl, sl5 _ _ (s13 _ _ e12), el5, by rw [foStep_len, hTl]; omega, by omega, foS_in (by omega), hp2, hpb, fun H15 s15 => ?_⟩
          rw [hvv]
          have sX := s714.trans s15
          walk_at "hs"
          refine ifnd (fun h => absurd rfl h) (fun _ => ?_)
          walk_at "hs"
          refine ⟨st, c, tb, p, Tb, n, rfl, sa7.same sX, otb7.same sX, hys, hn, iT, hp', fun H13 sa13 g13 => ?_⟩
          walk_at "hs"
          refine iff' ?_
          walk_at "hs"
          refine ⟨sz (show 2 ≤ 1000000 by decide), fun rl2 nrl2 => ?_⟩
          walk_at "hs"
          have sr2 := same_upd (o := .lst [.ref tb, .ref pa]) nrl2
          refine hrep _ rl2 _ upd_same (sr2 _ _ ((otb7.same sX).go g13).at_) (sr2 _ _ ((opt7.same sX).go g13).at_) ?_
          walk_at "hs"
          refine ifnd (fun h => absurd rfl h) (fun _ => ?_)
          walk_at "hs"
          exact ⟨sa13.same sr2, ((o7.same sX).go g13).same sr2, _, _, _, _, _, _, _, _, _, _, _, rfl⟩
      · walk_at "hs"
        have sX := s711
        refine ⟨st, c, tb, p, Tb, n, rfl, sa7.same sX, otb7.same sX, hys, hn, iT, hp', fun H13 sa13 g13 => ?_⟩
        walk_at "hs"
        refine iff' ?_
        walk_at "hs"
        refine ⟨sz (show 2 ≤ 1000000 by decide), fun rl2 nrl2 => ?_⟩
        walk_at "hs"
        have sr2 := same_upd (o := .lst [.ref tb, .ref pa]) nrl2
        refine hrep _ rl2 _ upd_same (sr2 _ _ ((otb7.same sX).go g13).at_) (sr2 _ _ ((opt7.same sX).go g13).at_) ?_
        walk_at "hs"
        refine ifnd (fun h => absurd rfl h) (fun _ => ?_)
        walk_at "hs"
        exact ⟨sa13.same sr2, ((o7.same sX).go g13).same sr2, _, _, _, _, _, _, _, _, _, _, _, rfl⟩
    · rintro σ H' ⟨_, _, x2, x3, x4, x5, x6, x7, x8, x9, x10, x11, x12, rfl⟩
      walk_at "hs"
      exact q _
theorem all_mk {l : PySem.W.OpenLaw} {w : World} {K : PySem.W.Frag} {h : Heap} {mg : Str → Option Value} {fa f1 f2 f3 f4 f5 f6 f7 f8 f9 f10 f11 f12 f13 f14 f15 f16 f17 : Addr} (X : K.In h) (G : h.Ns mainGlobals mg) (hfa : mg "law" = some (.ref fa))
    {od1 an1 od2 an2 od3 an3 od4 an4 od5 an5 od6 an6 od7 an7 od8 an8 od9 an9 od10 an10 od11 an11 od12 an12 od13 an13 od14 an14 od15 an15 od16 an16 od17 an17 : Option Addr} {sl1 sl2 sl3 sl4 sl5 sl6 sl7 sl8 sl9 sl10 sl11 sl12 sl13 sl14 sl15 sl16 sl17 : Array (Option Value)} {oc1 kV1 dc1 pm1 cd1 ct1 oc2 kV2 dc2 pm2 cd2 ct2 oc3 kV3 dc3 pm3 cd3 ct3 oc4 kV4 dc4 pm4 cd4 ct4 oc5 kV5 dc5 pm5 cd5 ct5 oc6 kV6 dc6 pm6 cd6 ct6 oc7 kV7 dc7 pm7 cd7 ct7 oc8 kV8 dc8 pm8 cd8 ct8 oc9 kV9 dc9 pm9 cd9 ct9 oc10 kV10 dc10 pm10 cd10 ct10 oc11 kV11 dc11 pm11 cd11 ct11 oc12 kV12 dc12 pm12 cd12 ct12 oc13 kV13 dc13 pm13 cd13 ct13 oc14 kV14 dc14 pm14 cd14 ct14 oc15 kV15 dc15 pm15 cd15 ct15 oc16 kV16 dc16 pm16 cd16 ct16 oc17 kV17 dc17 pm17 cd17 ct17 : Value}
    (a1 : PySem.W.nsIn K mainGlobals "fold" = some (some (.ref f1))) (l1 : K.lookup f1 = some ⟨oc1, od1, .func (PySem.W.fnOf "fold" "fold" (defArgs s_fold) (defBody s_fold) (defScope s_fold) .none kV1 dc1 pm1 an1 cd1 ct1), sl1⟩) (c1 : PySem.W.codeIn K cd1 "fold" = true) (k1 : PySem.W.keepIn K (.ref f1) = true)
    (a2 : PySem.W.nsIn K mainGlobals "with_first" = some (some (.ref f2))) (l2 : K.lookup f2 = some ⟨oc2, od2, .func (PySem.W.fnOf "with_first" "with_first" (defArgs s_with_first) (defBody s_with_first) (defScope s_with_first) .none kV2 dc2 pm2 an2 cd2 ct2), sl2⟩) (c2 : PySem.W.codeIn K cd2 "with_first" = true) (k2 : PySem.W.keepIn K (.ref f2) = true)
    (a3 : PySem.W.nsIn K mainGlobals "value_at" = some (some (.ref f3))) (l3 : K.lookup f3 = some ⟨oc3, od3, .func (PySem.W.fnOf "value_at" "value_at" (defArgs s_value_at) (defBody s_value_at) (defScope s_value_at) .none kV3 dc3 pm3 an3 cd3 ct3), sl3⟩) (c3 : PySem.W.codeIn K cd3 "value_at" = true) (k3 : PySem.W.keepIn K (.ref f3) = true)
    (a4 : PySem.W.nsIn K mainGlobals "point_table" = some (some (.ref f4))) (l4 : K.lookup f4 = some ⟨oc4, od4, .func (PySem.W.fnOf "point_table" "point_table" (defArgs s_point_table) (defBody s_point_table) (defScope s_point_table) .none kV4 dc4 pm4 an4 cd4 ct4), sl4⟩) (c4 : PySem.W.codeIn K cd4 "point_table" = true) (k4 : PySem.W.keepIn K (.ref f4) = true)
    (a5 : PySem.W.nsIn K mainGlobals "nearness" = some (some (.ref f5))) (l5 : K.lookup f5 = some ⟨oc5, od5, .func (PySem.W.fnOf "nearness" "nearness" (defArgs s_nearness) (defBody s_nearness) (defScope s_nearness) .none kV5 dc5 pm5 an5 cd5 ct5), sl5⟩) (c5 : PySem.W.codeIn K cd5 "nearness" = true) (k5 : PySem.W.keepIn K (.ref f5) = true)
    (a6 : PySem.W.nsIn K mainGlobals "between" = some (some (.ref f6))) (l6 : K.lookup f6 = some ⟨oc6, od6, .func (PySem.W.fnOf "between" "between" (defArgs s_between) (defBody s_between) (defScope s_between) .none kV6 dc6 pm6 an6 cd6 ct6), sl6⟩) (c6 : PySem.W.codeIn K cd6 "between" = true) (k6 : PySem.W.keepIn K (.ref f6) = true)
    (a7 : PySem.W.nsIn K mainGlobals "line_values" = some (some (.ref f7))) (l7 : K.lookup f7 = some ⟨oc7, od7, .func (PySem.W.fnOf "line_values" "line_values" (defArgs s_line_values) (defBody s_line_values) (defScope s_line_values) .none kV7 dc7 pm7 an7 cd7 ct7), sl7⟩) (c7 : PySem.W.codeIn K cd7 "line_values" = true) (k7 : PySem.W.keepIn K (.ref f7) = true)
    (a8 : PySem.W.nsIn K mainGlobals "_law_state" = some (some (.ref f8))) (l8 : K.lookup f8 = some ⟨oc8, od8, .func (PySem.W.fnOf "_law_state" "_law_state" (defArgs s__law_state) (defBody s__law_state) (defScope s__law_state) .none kV8 dc8 pm8 an8 cd8 ct8), sl8⟩) (c8 : PySem.W.codeIn K cd8 "_law_state" = true) (k8 : PySem.W.keepIn K (.ref f8) = true)
    (a9 : PySem.W.nsIn K mainGlobals "_law_draw" = some (some (.ref f9))) (l9 : K.lookup f9 = some ⟨oc9, od9, .func (PySem.W.fnOf "_law_draw" "_law_draw" (defArgs s__law_draw) (defBody s__law_draw) (defScope s__law_draw) .none kV9 dc9 pm9 an9 cd9 ct9), sl9⟩) (c9 : PySem.W.codeIn K cd9 "_law_draw" = true) (k9 : PySem.W.keepIn K (.ref f9) = true)
    (a10 : PySem.W.nsIn K mainGlobals "_law_pick" = some (some (.ref f10))) (l10 : K.lookup f10 = some ⟨oc10, od10, .func (PySem.W.fnOf "_law_pick" "_law_pick" (defArgs s__law_pick) (defBody s__law_pick) (defScope s__law_pick) .none kV10 dc10 pm10 an10 cd10 ct10), sl10⟩) (c10 : PySem.W.codeIn K cd10 "_law_pick" = true) (k10 : PySem.W.keepIn K (.ref f10) = true)
    (a11 : PySem.W.nsIn K mainGlobals "_law_near" = some (some (.ref f11))) (l11 : K.lookup f11 = some ⟨oc11, od11, .func (PySem.W.fnOf "_law_near" "_law_near" (defArgs s__law_near) (defBody s__law_near) (defScope s__law_near) .none kV11 dc11 pm11 an11 cd11 ct11), sl11⟩) (c11 : PySem.W.codeIn K cd11 "_law_near" = true) (k11 : PySem.W.keepIn K (.ref f11) = true)
    (a12 : PySem.W.nsIn K mainGlobals "_law_value" = some (some (.ref f12))) (l12 : K.lookup f12 = some ⟨oc12, od12, .func (PySem.W.fnOf "_law_value" "_law_value" (defArgs s__law_value) (defBody s__law_value) (defScope s__law_value) .none kV12 dc12 pm12 an12 cd12 ct12), sl12⟩) (c12 : PySem.W.codeIn K cd12 "_law_value" = true) (k12 : PySem.W.keepIn K (.ref f12) = true)
    (a13 : PySem.W.nsIn K mainGlobals "_law_point" = some (some (.ref f13))) (l13 : K.lookup f13 = some ⟨oc13, od13, .func (PySem.W.fnOf "_law_point" "_law_point" (defArgs s__law_point) (defBody s__law_point) (defScope s__law_point) .none kV13 dc13 pm13 an13 cd13 ct13), sl13⟩) (c13 : PySem.W.codeIn K cd13 "_law_point" = true) (k13 : PySem.W.keepIn K (.ref f13) = true)
    (a14 : PySem.W.nsIn K mainGlobals "_law_line" = some (some (.ref f14))) (l14 : K.lookup f14 = some ⟨oc14, od14, .func (PySem.W.fnOf "_law_line" "_law_line" (defArgs s__law_line) (defBody s__law_line) (defScope s__law_line) .none kV14 dc14 pm14 an14 cd14 ct14), sl14⟩) (c14 : PySem.W.codeIn K cd14 "_law_line" = true) (k14 : PySem.W.keepIn K (.ref f14) = true)
    (a15 : PySem.W.nsIn K mainGlobals "_law_at" = some (some (.ref f15))) (l15 : K.lookup f15 = some ⟨oc15, od15, .func (PySem.W.fnOf "_law_at" "_law_at" (defArgs s__law_at) (defBody s__law_at) (defScope s__law_at) .none kV15 dc15 pm15 an15 cd15 ct15), sl15⟩) (c15 : PySem.W.codeIn K cd15 "_law_at" = true) (k15 : PySem.W.keepIn K (.ref f15) = true)
    (a16 : PySem.W.nsIn K mainGlobals "_law_lines_right" = some (some (.ref f16))) (l16 : K.lookup f16 = some ⟨oc16, od16, .func (PySem.W.fnOf "_law_lines_right" "_law_lines_right" (defArgs s__law_lines_right) (defBody s__law_lines_right) (defScope s__law_lines_right) .none kV16 dc16 pm16 an16 cd16 ct16), sl16⟩) (c16 : PySem.W.codeIn K cd16 "_law_lines_right" = true) (k16 : PySem.W.keepIn K (.ref f16) = true)
    (a17 : PySem.W.nsIn K mainGlobals "law" = some (some (.ref f17))) (l17 : K.lookup f17 = some ⟨oc17, od17, .func (PySem.W.fnOf "law" "law" (defArgs s_law) (defBody s_law) (defScope s_law) .none kV17 dc17 pm17 an17 cd17 ct17), sl17⟩) (c17 : PySem.W.codeIn K cd17 "law" = true) (k17 : PySem.W.keepIn K (.ref f17) = true)
    (z_abs : PySem.W.nsIn K mainGlobals "abs" = some none)
    (z_bool : PySem.W.nsIn K mainGlobals "bool" = some none)
    (z_int : PySem.W.nsIn K mainGlobals "int" = some none)
    (z_isinstance : PySem.W.nsIn K mainGlobals "isinstance" = some none)
    (z_len : PySem.W.nsIn K mainGlobals "len" = some none)
    (z_list : PySem.W.nsIn K mainGlobals "list" = some none)
    (z_range : PySem.W.nsIn K mainGlobals "range" = some none)
    (z_repr : PySem.W.nsIn K mainGlobals "repr" = some none)
    (z_sum : PySem.W.nsIn K mainGlobals "sum" = some none)
    (z_zip : PySem.W.nsIn K mainGlobals "zip" = some none)
    : ∃ fd : FuncData, (∀ (s : Shared) (v : Value), BindsTo s fd ⟨[v], []⟩ [("script", v)]) ∧ ∀ base : Heap, K.In base → base.Ns mainGlobals mg → RunsAt l.prog w K mg base CX0 6 fa fd ["script"] (sp_law K) := by
  have e := hfa.symm.trans (PySem.W.mg_of X G a17)
  cases e
  have F1 := fun_mk (st := s_fold) l1 c1 k1
  have b1 := F1.binds (ps := ["table", "number", "p"]) fun _ _ _ _ _ _ us hl => match us, hl with | [_, _, _], _ => rfl
  have F2 := fun_mk (st := s_with_first) l2 c2 k2
  have b2 := F2.binds (ps := ["table", "point", "p"]) fun _ _ _ _ _ _ us hl => match us, hl with | [_, _, _], _ => rfl
  have F3 := fun_mk (st := s_value_at) l3 c3 k3
  have b3 := F3.binds (ps := ["table", "point", "p"]) fun _ _ _ _ _ _ us hl => match us, hl with | [_, _, _], _ => rfl
  have F4 := fun_mk (st := s_point_table) l4 c4 k4
  have b4 := F4.binds (ps := ["point", "p"]) fun _ _ _ _ _ _ us hl => match us, hl with | [_, _], _ => rfl
  have F5 := fun_mk (st := s_nearness) l5 c5 k5
  have b5 := F5.binds (ps := ["point", "other", "p"]) fun _ _ _ _ _ _ us hl => match us, hl with | [_, _, _], _ => rfl
  have F6 := fun_mk (st := s_between) l6 c6 k6
  have b6 := F6.binds (ps := ["point", "other", "t", "p"]) fun _ _ _ _ _ _ us hl => match us, hl with | [_, _, _, _], _ => rfl
  have F7 := fun_mk (st := s_line_values) l7 c7 k7
  have b7 := F7.binds (ps := ["table", "point", "other", "p"]) fun _ _ _ _ _ _ us hl => match us, hl with | [_, _, _, _], _ => rfl
  have F8 := fun_mk (st := s__law_state) l8 c8 k8
  have b8 := F8.binds (ps := ["script"]) fun _ _ _ _ _ _ us hl => match us, hl with | [_], _ => rfl
  have F9 := fun_mk (st := s__law_draw) l9 c9 k9
  have b9 := F9.binds (ps := ["state", "many"]) fun _ _ _ _ _ _ us hl => match us, hl with | [_, _], _ => rfl
  have F10 := fun_mk (st := s__law_pick) l10 c10 k10
  have b10 := F10.binds (ps := ["state", "row"]) fun _ _ _ _ _ _ us hl => match us, hl with | [_, _], _ => rfl
  have F11 := fun_mk (st := s__law_near) l11 c11 k11
  have b11 := F11.binds (ps := ["index", "point", "p"]) fun _ _ _ _ _ _ us hl => match us, hl with | [_, _, _], _ => rfl
  have F12 := fun_mk (st := s__law_value) l12 c12 k12
  have b12 := F12.binds (ps := ["table", "point", "p"]) fun _ _ _ _ _ _ us hl => match us, hl with | [_, _, _], _ => rfl
  have F13 := fun_mk (st := s__law_point) l13 c13 k13
  have b13 := F13.binds (ps := ["state", "many", "p"]) fun _ _ _ _ _ _ us hl => match us, hl with | [_, _, _], _ => rfl
  have F14 := fun_mk (st := s__law_line) l14 c14 k14
  have b14 := F14.binds (ps := ["one", "two", "t", "p"]) fun _ _ _ _ _ _ us hl => match us, hl with | [_, _, _, _], _ => rfl
  have F15 := fun_mk (st := s__law_at) l15 c15 k15
  have b15 := F15.binds (ps := ["values", "t", "p"]) fun _ _ _ _ _ _ us hl => match us, hl with | [_, _, _], _ => rfl
  have F16 := fun_mk (st := s__law_lines_right) l16 c16 k16
  have b16 := F16.binds (ps := ["state", "table", "many", "p"]) fun _ _ _ _ _ _ us hl => match us, hl with | [_, _, _, _], _ => rfl
  have F17 := fun_mk (st := s_law) l17 c17 k17
  have b17 := F17.binds (ps := ["script"]) fun _ _ _ _ _ _ us hl => match us, hl with | [_], _ => rfl
  exact ⟨PySem.W.fnOf "law" "law" (defArgs s_law) (defBody s_law) (defScope s_law) .none kV17 dc17 pm17 an17 cd17 ct17, fun s v => .of_eq rfl, fun base _ _ =>
    ok_law (T := (⟨_, _, F1, b1, PySem.W.mg_of X G a1,
    _, _, F2, b2, PySem.W.mg_of X G a2,
    _, _, F3, b3, PySem.W.mg_of X G a3,
    _, _, F4, b4, PySem.W.mg_of X G a4,
    _, _, F5, b5, PySem.W.mg_of X G a5,
    _, _, F6, b6, PySem.W.mg_of X G a6,
    _, _, F7, b7, PySem.W.mg_of X G a7,
    _, _, F8, b8, PySem.W.mg_of X G a8,
    _, _, F9, b9, PySem.W.mg_of X G a9,
    _, _, F10, b10, PySem.W.mg_of X G a10,
    _, _, F11, b11, PySem.W.mg_of X G a11,
    _, _, F12, b12, PySem.W.mg_of X G a12,
    _, _, F13, b13, PySem.W.mg_of X G a13,
    _, _, F14, b14, PySem.W.mg_of X G a14,
    _, _, F15, b15, PySem.W.mg_of X G a15,
    _, _, F16, b16, PySem.W.mg_of X G a16,
    _, _, F17, b17, PySem.W.mg_of X G a17,
    PySem.W.mg_none_of X G z_abs,
    PySem.W.mg_none_of X G z_bool,
    PySem.W.mg_none_of X G z_int,
    PySem.W.mg_none_of X G z_isinstance,
    PySem.W.mg_none_of X G z_len,
    PySem.W.mg_none_of X G z_list,
    PySem.W.mg_none_of X G z_range,
    PySem.W.mg_none_of X G z_repr,
    PySem.W.mg_none_of X G z_sum,
    PySem.W.mg_none_of X G z_zip⟩ : Txt K mg))⟩
end
end Lk
open PySem PySem.W PyProof.Rows
set_option maxRecDepth 100000 in
set_option maxHeartbeats 0 in
theorem PySem.Challenge.cw_layerask_k03_tables_holds : PySem.Challenge.rw_layerask_k03_tables.Holds := by
  w_on; o_law; k_head; (case hw => w_witness2)
  k_fill
  refine Lk.walk_free (l := PySem.Challenge.rw_layerask_k03_tables) (n := 63) (k := 6) (x := "script") (CX := L2.CX0) (sp := Lk.sp_law) rfl (by decide) rfl ⟨rfl, by decide, by decide⟩ (fun w h Y => PySem.W.kIn_of Y) ?F (fun _ _ a ns hl _ hS => ⟨a, ns, rfl, hS, hl, fun _ => rfl⟩) (fun _ _ _ _ h => h)
  case F =>
    intro w mg fa h KX G hmg
    refine' Lk.all_mk KX G hmg ?a1 ?l1 ?c1 ?k1 ?a2 ?l2 ?c2 ?k2 ?a3 ?l3 ?c3 ?k3 ?a4 ?l4 ?c4 ?k4 ?a5 ?l5 ?c5 ?k5 ?a6 ?l6 ?c6 ?k6 ?a7 ?l7 ?c7 ?k7 ?a8 ?l8 ?c8 ?k8 ?a9 ?l9 ?c9 ?k9 ?a10 ?l10 ?c10 ?k10 ?a11 ?l11 ?c11 ?k11 ?a12 ?l12 ?c12 ?k12 ?a13 ?l13 ?c13 ?k13 ?a14 ?l14 ?c14 ?k14 ?a15 ?l15 ?c15 ?k15 ?a16 ?l16 ?c16 ?k16 ?a17 ?l17 ?c17 ?k17 ?z_abs ?z_bool ?z_int ?z_isinstance ?z_len ?z_list ?z_range ?z_repr ?z_sum ?z_zip
    (case a1 => k_is)
    (case l1 => k_is)
    (case c1 => k_is)
    (case k1 => k_is)
    (case a2 => k_is)
    (case l2 => k_is)
    (case c2 => k_is)
    (case k2 => k_is)
    (case a3 => k_is)
    (case l3 => k_is)
    (case c3 => k_is)
    (case k3 => k_is)
    (case a4 => k_is)
    (case l4 => k_is)
    (case c4 => k_is)
    (case k4 => k_is)
    (case a5 => k_is)
    (case l5 => k_is)
    (case c5 => k_is)
    (case k5 => k_is)
    (case a6 => k_is)
    (case l6 => k_is)
    (case c6 => k_is)
    (case k6 => k_is)
    (case a7 => k_is)
    (case l7 => k_is)
    (case c7 => k_is)
    (case k7 => k_is)
    (case a8 => k_is)
    (case l8 => k_is)
    (case c8 => k_is)
    (case k8 => k_is)
    (case a9 => k_is)
    (case l9 => k_is)
    (case c9 => k_is)
    (case k9 => k_is)
    (case a10 => k_is)
    (case l10 => k_is)
    (case c10 => k_is)
    (case k10 => k_is)
    (case a11 => k_is)
    (case l11 => k_is)
    (case c11 => k_is)
    (case k11 => k_is)
    (case a12 => k_is)
    (case l12 => k_is)
    (case c12 => k_is)
    (case k12 => k_is)
    (case a13 => k_is)
    (case l13 => k_is)
    (case c13 => k_is)
    (case k13 => k_is)
    (case a14 => k_is)
    (case l14 => k_is)
    (case c14 => k_is)
    (case k14 => k_is)
    (case a15 => k_is)
    (case l15 => k_is)
    (case c15 => k_is)
    (case k15 => k_is)
    (case a16 => k_is)
    (case l16 => k_is)
    (case c16 => k_is)
    (case k16 => k_is)
    (case a17 => k_is)
    (case l17 => k_is)
    (case c17 => k_is)
    (case k17 => k_is)
    (case z_abs => k_is)
    (case z_bool => k_is)
    (case z_int => k_is)
    (case z_isinstance => k_is)
    (case z_len => k_is)
    (case z_list => k_is)
    (case z_range => k_is)
    (case z_repr => k_is)
    (case z_sum => k_is)
    (case z_zip => k_is)
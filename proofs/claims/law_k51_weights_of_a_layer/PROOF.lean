import PyProof.Rows.All
import Wide.All
import OpenK.AllK
import Wide.FinOn
import HandS.ForMost
import HandS.Zip
import HandS.Wide
import HandS.WideBits
import HandS.IsInst
import PySem.Challenge.RW_layerask_k51_weights_of_a_layer
set_option Elab.async false
set_option linter.all false
set_option maxRecDepth 100000
set_option maxHeartbeats 4000000
namespace Lk
open PySem PySem.Spec PyProof.Rows L2
/-! ### readings, one step each -/
section
variable {K : PySem.W.Frag} {σ : L2.St} {H : Hp} {Q : VK} {v x y : V} {i j : Int} {te ta tb : TE} {tt tu : TT} {r : R2} {t : TA} {t1 t2 : TS} {g : TG} {nx bk ct : L2.St → Hp → Prop} {rt : VK}
theorem a_var {k : Nat} (h : σ[k]? = some (some v)) (q : Q v H) : tVar k σ H Q := ⟨v, h, q⟩
theorem a_c (q : Q v H) : tC v σ H Q := q
theorem a_op (q : ta σ H fun x H1 => tb σ H1 fun y H2 => r x y H2 Q) : tOp r ta tb σ H Q := q
theorem a_un {r : V → Hp → VK → Prop} (q : ta σ H fun x H1 => r x H1 Q) : tUn r ta σ H Q := q
theorem a_i0 {f : Int → Int → V} (q : Q (f i j) H) : rI0 f (.int i) (.int j) H Q := ⟨i, j, rfl, rfl, q⟩
theorem a_iC {C : Int → Int → Prop} {f : Int → Int → V} (hc : C i j) (q : Q (f i j) H) : rI C f (.int i) (.int j) H Q := ⟨i, j, rfl, rfl, hc, q⟩
theorem a_u {f : Int → V} (q : Q (f i) H) : rU f (.int i) H Q := ⟨i, rfl, q⟩
theorem dec_V {i j : Int} : decide (V.int i = V.int j) = decide (i = j) := by
  by_cases h : i = j
  · subst h; simp
  · rw [decide_eq_false h, decide_eq_false (fun e => h (V.int.inj e))]
theorem dec_S {a b : Str} : decide (V.str a = V.str b) = decide (a = b) := by
  by_cases h : a = b
  · subst h; simp
  · rw [decide_eq_false h, decide_eq_false (fun e => h (V.str.inj e))]
theorem dec_B {a b : Bool} : decide (V.bl a = V.bl b) = decide (a = b) := by
  by_cases h : a = b
  · subst h; simp
  · rw [decide_eq_false h, decide_eq_false (fun e => h (V.bl.inj e))]
theorem a_eqI (q : Q (.bl (decide (i = j))) H) : rEq (.int i) (.int j) H Q := ⟨rfl, by rw [dec_V]; exact q⟩
theorem a_neI (q : Q (.bl (!decide (i = j))) H) : rNe (.int i) (.int j) H Q := ⟨rfl, by rw [dec_V]; exact q⟩
theorem a_eqS {a b : Str} (q : Q (.bl (decide (a = b))) H) : rEq (.str a) (.str b) H Q := ⟨rfl, by rw [dec_S]; exact q⟩
theorem a_neS {a b : Str} (q : Q (.bl (!decide (a = b))) H) : rNe (.str a) (.str b) H Q := ⟨rfl, by rw [dec_S]; exact q⟩
theorem a_eqB {a b : Bool} (q : Q (.bl (decide (a = b))) H) : rEq (.bl a) (.bl b) H Q := ⟨rfl, by rw [dec_B]; exact q⟩
theorem a_neB {a b : Bool} (q : Q (.bl (!decide (a = b))) H) : rNe (.bl a) (.bl b) H Q := ⟨rfl, by rw [dec_B]; exact q⟩
theorem a_test {R : Bool → Hp → Prop} (q : te σ H fun x H' => ∃ k, x = .bl k ∧ R k H') : tTest te σ H R := q
theorem a_tB {R : Bool → Hp → Prop} (q : te σ H fun x H' => ∃ k, x = .bl k ∧ R k H') : tB te σ H R := q
theorem a_bl {P : Bool → Prop} {b : Bool} (q : P b) : ∃ k, V.bl b = V.bl k ∧ P k := ⟨b, rfl, q⟩
theorem a_and {R : Bool → Hp → Prop} (q : tt σ H fun c H1 => if c = true then tu σ H1 R else R false H1) : tAnd tt tu σ H R := q
theorem a_or {R : Bool → Hp → Prop} (q : tt σ H fun c H1 => if c = true then R true H1 else tu σ H1 R) : tOr tt tu σ H R := q
theorem a_not {R : Bool → Hp → Prop} (q : tt σ H fun c H1 => R (!c) H1) : tNot tt σ H R := q
theorem a_ifx (q : tt σ H fun c H1 => if c = true then ta σ H1 Q else tb σ H1 Q) : tIf tt ta tb σ H Q := q
theorem a_nil {R : List V → Hp → Prop} (q : R [] H) : tNil σ H R := q
theorem a_cons {R : List V → Hp → Prop} (q : te σ H fun x H1 => t σ H1 fun xs H2 => R (x :: xs) H2) : tCons te t σ H R := q
theorem a_call {sp : Sp} {dvs : List V} {E : XK} (q : t σ H fun vs H1 => sp (vs ++ dvs) H1 Q E) : tCall sp dvs E t σ H Q := q
theorem a_cb {r : List V → Hp → VK → Prop} (q : t σ H fun vs H1 => r vs H1 Q) : tCB r t σ H Q := q
theorem a_tup (q : t σ H fun xs H1 => xs.length ≤ sizeLine ∧ ∀ p, H1 p = none → Q (.ref p) (upd H1 p (.tup xs))) : tTup t σ H Q := q
theorem a_lst (q : t σ H fun xs H1 => xs.length ≤ sizeLine ∧ ∀ p, H1 p = none → Q (.ref p) (upd H1 p (.lst xs))) : tLst t σ H Q := q
theorem a_seq (q : t1 ⟨t2 ⟨nx, rt, bk, ct⟩, rt, bk, ct⟩ σ H) : tSeq t1 t2 ⟨nx, rt, bk, ct⟩ σ H := q
theorem a_next (q : nx σ H) : tNext ⟨nx, rt, bk, ct⟩ σ H := q
theorem a_asg (q : te σ H fun x H1 => g x σ H1 nx) : tAsg te g ⟨nx, rt, bk, ct⟩ σ H := q
theorem a_gname {k : Nat} {R : L2.St → Hp → Prop} (q : R (σ.set k (some v)) H) : gName k v σ H R := q
theorem a_gsub {to ti : TE} {s : TSet} {R : L2.St → Hp → Prop} (q : to σ H fun o H1 => ti σ H1 fun i H2 => s o i v H2 fun H3 => R σ H3) : gSub to ti s v σ H R := q
theorem a_gtup {a : Addr} {xs : List V} {n : Nat} {u : TGs} {R : L2.St → Hp → Prop} (h : H a = some (.tup xs)) (hn : xs.length = n) (q : u xs σ H R) : gTup K n u (.ref a) σ H R := ⟨a, xs, rfl, .inl (.inl h), hn, q⟩
theorem a_gcons {u : TGs} {xs : List V} {R : L2.St → Hp → Prop} (q : g v σ H fun σ' H' => u xs σ' H' R) : gCons g u (v :: xs) σ H R := ⟨v, xs, rfl, q⟩
theorem a_gnil {R : L2.St → Hp → Prop} (q : R σ H) : gNil [] σ H R := ⟨rfl, q⟩
theorem a_ret (q : te σ H rt) : tRet te ⟨nx, rt, bk, ct⟩ σ H := q
theorem a_retN (q : rt .non H) : tRetN ⟨nx, rt, bk, ct⟩ σ H := q
theorem a_drop (q : te σ H fun _ H1 => nx σ H1) : tDrop te ⟨nx, rt, bk, ct⟩ σ H := q
theorem a_ifS (q : tt σ H fun b H1 => if b = true then t1 ⟨nx, rt, bk, ct⟩ σ H1 else t2 ⟨nx, rt, bk, ct⟩ σ H1) : tIfS tt t1 t2 ⟨nx, rt, bk, ct⟩ σ H := q
theorem a_aug {k : Nat} {ti : TIp} (h : σ[k]? = some (some x)) (q : te σ H fun y H1 => ti x y H1 fun z H2 => nx (σ.set k (some z)) H2) : tAug k te ti ⟨nx, rt, bk, ct⟩ σ H := ⟨x, h, q⟩
theorem a_ip {f : Int → Int → Int} (q : Q (.int (f i j)) H) : ipI f (.int i) (.int j) H Q := ⟨i, j, rfl, rfl, q⟩
theorem a_for {wi : TI} (q : wi σ H fun J H1 => ∃ W : Nat → Nat → L2.St → Hp → Prop, (∃ m, W 0 m σ H1) ∧ ∀ i m σ H, W i m σ H →
  (J.stop i H ∧ nx σ H) ∨ (J.go i H ∧ ∃ N : L2.St → Hp → Prop, (∀ σ' H', N σ' H' → ∃ m', m' < m ∧ W (i + 1) m' σ' H') ∧ ∀ x H', J.yld i H x H' → g x σ H' fun σ2 H2 => t1 ⟨N, rt, nx, N⟩ σ2 H2)) : tFor wi g t1 ⟨nx, rt, bk, ct⟩ σ H := q
theorem a_while (W : Nat → L2.St → Hp → Prop) (m0 : Nat) (h0 : W m0 σ H) (q : ∀ m σ H, W m σ H → tt σ H fun b H1 => if b = true then ∃ N : L2.St → Hp → Prop, (∀ σ' H', N σ' H' → ∃ m', m' < m ∧ W m' σ' H') ∧ t1 ⟨N, rt, nx, N⟩ σ H1 else nx σ H1) :
    tWhile tt t1 ⟨nx, rt, bk, ct⟩ σ H := ⟨W, ⟨m0, h0⟩, q⟩
theorem a_rng1 {R : It → Hp → Prop} (q : t σ H fun vs H1 => ∃ j : Int, vs = [.int j] ∧ -(2 ^ 62) ≤ j ∧ j < 2 ^ 62 ∧ R (Itr 0 j.toNat) H1) : iRng1 t σ H R := q
theorem a_exrng {P : Int → Prop} (h1 : -(2 ^ 62) ≤ j) (h2 : j < 2 ^ 62) (q : P j) : ∃ j' : Int, [V.int j] = [V.int j'] ∧ -(2 ^ 62) ≤ j' ∧ j' < 2 ^ 62 ∧ P j' := ⟨j, rfl, h1, h2, q⟩
theorem a_iList {R : It → Hp → Prop} (q : te σ H fun x H1 => ∃ a, x = .ref a ∧ (∃ xs, SqL K H1 a xs) ∧ R (Itl K a) H1) : iList K te σ H R := q
theorem a_exl {a : Addr} {xs : List V} {R : Addr → Prop} (h : SqL K H a xs) (q : R a) : ∃ a', V.ref a = V.ref a' ∧ (∃ xs, SqL K H a' xs) ∧ R a' := ⟨a, rfl, ⟨xs, h⟩, q⟩
theorem a_zip {R : It → Hp → Prop} (q : t σ H fun vs H1 => ∃ a b xs ys, vs = [.ref a, .ref b] ∧ SqL K H1 a xs ∧ SqL K H1 b ys ∧ R (Itz K a b) H1) : iZip K t σ H R := q
theorem a_lc {wi : TI} {vs : List Nat} (q : wi σ H fun J H1 => ∀ D, H1 D = none → ∃ W : Nat → Nat → Hp → Prop, (∃ m, W 0 m (upd H1 D (.lst []))) ∧ ∀ i m H, W i m H →
  (J.stop i H ∧ Q (.ref D) H) ∨ (J.go i H ∧ ∃ Nx : Hp → Prop, (∀ H', Nx H' → ∃ m', m' < m ∧ W (i + 1) m' H') ∧ ∀ x H', J.yld i H x H' → g x (wipe σ vs) H' fun σ2 H2 => wipe σ2 vs = wipe σ vs ∧ tt σ2 H2 fun b H3 =>
    if b = true then te σ2 H3 fun y H4 => ∃ acc, H4 D = some (.lst acc) ∧ acc.length < sizeLine ∧ Nx (upd H4 D (.lst (acc ++ [y]))) else Nx H3)) : tLc wi g tt te vs σ H Q := q
theorem a_yes {R : Bool → Hp → Prop} (q : R true H) : tYes σ H R := q
theorem a_bm {T : String} {r : V → List V → Hp → VK → Prop} {to : TE} (q : to σ H fun x H1 => tyV K T x H1 ∧ t σ H1 fun xs H2 => r x xs H2 Q) : tBM K T r to t σ H Q := q
theorem a_tyL {a : Addr} {xs : List V} {R : Prop} (h : SqL K H a xs) (q : R) : tyV K "list" (.ref a) H ∧ R := ⟨.inl ⟨rfl, _, h⟩, q⟩
theorem a_append {a : Addr} {xs : List V} (h : H a = some (.lst xs)) (hl : xs.length < sizeLine) (q : Q .non (upd H a (.lst (xs ++ [y])))) : rAppend (.ref a) [y] H Q := ⟨a, xs, y, rfl, rfl, h, hl, q⟩
theorem a_popAt0 {a : Addr} {xs : List V} (h : H a = some (.lst (y :: xs))) (q : Q y (upd H a (.lst xs))) : rPopAt (.ref a) [.int 0] H Q := by
  refine ⟨a, y :: xs, 0, 0, y, rfl, rfl, h, by decide, by decide, ?_, rfl, q⟩
  exact (ixN_seq (n := (y :: xs).length) (i := 0) (j := 0) (by unfold ixN; rw [if_pos (by omega), if_pos (by rw [List.length_cons]; omega)]; rfl)).1
theorem a_setL {a : Addr} {xs : List V} {k : Nat} {R : Hp → Prop} (h : H a = some (.lst xs)) (hk : k < xs.length) (q : R (upd H a (.lst (xs.set k v)))) : rSetL (.ref a) (.int (k : Int)) v H R := by
  refine ⟨a, xs, k, k, rfl, rfl, h, ?_, q⟩
  unfold ixN
  rw [if_pos (by omega), if_pos (by omega)]
  simp
theorem a_ixL {a : Addr} {xs : List V} (h : SqL K H a xs) (e : atI xs i = some v) (q : Q v H) : rIxL K (.ref a) (.int i) H Q := ⟨a, xs, i, v, rfl, rfl, h, e, q⟩
theorem a_ixT {a : Addr} {xs : List V} (h : SqT K H a xs) (e : atI xs i = some v) (q : Q v H) : rIxT K (.ref a) (.int i) H Q := ⟨a, xs, i, v, rfl, rfl, h, e, q⟩
theorem a_cat {a b : Addr} {xs zs : List V} (ha : H a = some (.lst xs)) (hb : H b = some (.lst zs)) (hl : xs.length + zs.length ≤ sizeLine) (q : ∀ p, H p = none → Q (.ref p) (upd H p (.lst (xs ++ zs)))) : rCat (.ref a) (.ref b) H Q := ⟨a, b, xs, zs, rfl, rfl, ha, hb, hl, q⟩
theorem a_len {a : Addr} {xs : List V} {P : List V → Prop} (h : SqL K H a xs) (q : P xs) : ∃ p ys, [V.ref a] = [V.ref p] ∧ (SqL K H p ys ∨ SqT K H p ys) ∧ P ys := ⟨a, xs, rfl, .inl h, q⟩
theorem a_abs {P : Int → Prop} (q : P i) : ∃ j, [V.int i] = [V.int j] ∧ P j := ⟨i, rfl, q⟩
theorem a_int {P : Int → Prop} {R : Bool → Prop} (q : P i) : (∃ j, [V.int i] = [V.int j] ∧ P j) ∨ ∃ k, [V.int i] = [V.bl k] ∧ R k := .inl ⟨i, rfl, q⟩
end
/-! ### rules whose K is named -/
section
variable {X : Cx} {K : PySem.W.Frag}
theorem ixL_ (h : X.K = K) : IxR X (rIxL K) := by subst h; exact ix_list
theorem ixT_ (h : X.K = K) : IxR X (rIxT K) := by subst h; exact ix_tup
theorem slL_ (h : X.K = K) : SlR X (rSlL K) := by subst h; exact sl_list
theorem piL_ {tg l : Expr} {tl : TE} (h : X.K = K) (hl : PE X l tl) : PI X tg l (iList K tl) := by subst h; exact pi_list hl
theorem piZ_ {tg it : Expr} {ta : TA} (h : X.K = K) (hl : PI X tg it (iZip X.K ta)) : PI X tg it (iZip K ta) := by subst h; exact hl
theorem pgT_ {tg : Expr} {n : Nat} {t : TGs} (h : X.K = K) (hl : PG X tg (gTup X.K n t)) : PG X tg (gTup K n t) := by subst h; exact hl
theorem lenK_ (h : X.K = K) : CallR X (.builtin "len") (fun xs H Q => ∃ p ys, xs = [.ref p] ∧ (SqL K H p ys ∨ SqT K H p ys) ∧ Q (.int ys.length) H) := by subst h; exact call_len_seq
theorem bmK_ {e : Expr} {T : String} {r : V → List V → Hp → VK → Prop} {to : TE} {t : TA} (h : X.K = K) (hl : PE X e (tBM X.K T r to t)) : PE X e (tBM K T r to t) := by subst h; exact hl
end
theorem ifd {p : Prop} [Decidable p] {A B : Prop} (h1 : p → A) (h2 : ¬ p → B) : if decide p = true then A else B := by
  by_cases h : p
  · rw [if_pos (decide_eq_true h)]; exact h1 h
  · rw [if_neg (by rw [decide_eq_false h]; decide)]; exact h2 h
theorem ifnd {p : Prop} [Decidable p] {A B : Prop} (h1 : ¬ p → A) (h2 : p → B) : if (!decide p) = true then A else B := by
  by_cases h : p
  · rw [decide_eq_true h, if_neg (by decide)]; exact h2 h
  · rw [decide_eq_false h, if_pos (by decide)]; exact h1 h
theorem ift {A B : Prop} (h : A) : if true = true then A else B := by rw [if_pos rfl]; exact h
theorem iff' {A B : Prop} (h : B) : if false = true then A else B := by rw [if_neg (by decide)]; exact h
theorem ifb {b : Bool} {A B : Prop} (h1 : b = true → A) (h2 : b = false → B) : if b = true then A else B := by
  cases b
  · exact iff' (h2 rfl)
  · exact ift (h1 rfl)
theorem sql {K : PySem.W.Frag} {H : Hp} {a : Addr} {xs : List V} (h : H a = some (.lst xs)) : SqL K H a xs := .inl (.inl h)
theorem sqt {K : PySem.W.Frag} {H : Hp} {a : Addr} {xs : List V} (h : H a = some (.tup xs)) : SqT K H a xs := .inl (.inl h)
theorem sz {n : Nat} (h : n ≤ 1000000) : n ≤ sizeLine := by rw [sizeLine_eq]; omega
theorem szl {n : Nat} (h : n ≤ 1000000) : n < sizeLine := by rw [sizeLine_eq]; omega
theorem same_upd {H : Hp} {p : Addr} {o : HO} (h : H p = none) : Same H (upd H p o) := fun b x e => by
  rw [upd_ne (ne_of_none e h)]
  exact e
theorem atI_at {α : Type} {xs : List α} {i : Int} (h0 : 0 ≤ i) (h : i.toNat < xs.length) : atI xs i = some xs[i.toNat] := by
  have e := atI_nat (List.getElem?_eq_getElem h)
  have z : ((i.toNat : Nat) : Int) = i := Int.toNat_of_nonneg h0
  rw [z] at e
  exact e
/-! ### the steps -/
local macro_rules | `(tactic| walk_at "lk side") => `(tactic| first | assumption | (show _ ∧ _; omega) | (unfold CMul; omega) | (unfold CPow; omega) | omega | (refine sql ?_; assumption) | (refine sqt ?_; assumption))
end Lk

namespace Lk
open PySem PySem.Spec PyProof.Rows L2
/-! ### the state of the draws: two addresses; all else is kept -/
def StA (H : Hp) (st c : Addr) : Prop := ∃ (cs : List Int) (m : Int), H st = some (.lst [.ref c, .int m]) ∧ H c = some (.lst (cs.map V.int)) ∧ cs.length ≤ 63
def Gd (st c : Addr) (H H' : Hp) : Prop := ∀ a o, H a = some o → a ≠ st → a ≠ c → H' a = some o
theorem Gd.refl {st c : Addr} (H : Hp) : Gd st c H H := fun _ _ h _ _ => h
theorem Gd.trans {st c : Addr} {H H1 H2 : Hp} (a : Gd st c H H1) (b : Gd st c H1 H2) : Gd st c H H2 := fun x o h h1 h2 => b x o (a x o h h1 h2) h1 h2
theorem Gd.of {st c : Addr} {H H' : Hp} (h : Same H H') : Gd st c H H' := fun a o e _ _ => h a o e
theorem StA.same {st c : Addr} {H H' : Hp} (s : StA H st c) (h : Same H H') : StA H' st c := by
  obtain ⟨cs, m, h1, h2, h3⟩ := s
  exact ⟨cs, m, h _ _ h1, h _ _ h2, h3⟩
theorem StA.ne {st c : Addr} {H : Hp} (s : StA H st c) : st ≠ c := by
  obtain ⟨cs, m, h1, h2, _⟩ := s
  refine ne_of h1 h2 fun e => ?_
  have e1 : [V.ref c, V.int m] = cs.map V.int := HO.lst.inj e
  cases cs with
  | nil => simp at e1
  | cons x r => simp at e1
theorem StA.neS {st c a : Addr} {H : Hp} (s : StA H st c) (h : H a = none) : a ≠ st ∧ a ≠ c := by
  obtain ⟨cs, m, h1, h2, _⟩ := s
  exact ⟨fun e => by rw [e, h1] at h; simp at h, fun e => by rw [e, h2] at h; simp at h⟩
/-- a fact about another object -/
structure Ob (st c : Addr) (H : Hp) (a : Addr) (o : HO) : Prop where
  at_ : H a = some o
  ns : a ≠ st
  nc : a ≠ c
theorem Ob.go {st c a : Addr} {H H' : Hp} {o : HO} (h : Ob st c H a o) (g : Gd st c H H') : Ob st c H' a o := ⟨g a o h.at_ h.ns h.nc, h.ns, h.nc⟩
theorem Ob.same {st c a : Addr} {H H' : Hp} {o : HO} (h : Ob st c H a o) (g : Same H H') : Ob st c H' a o := h.go (Gd.of g)
theorem Ob.new {st c a : Addr} {H : Hp} {o : HO} (s : StA H st c) (h : H a = none) : Ob st c (upd H a o) a o := ⟨upd_same, (s.neS h).1, (s.neS h).2⟩
theorem Ob.mk' {st c a : Addr} {H H' : Hp} {o : HO} (s : StA H st c) (h : H a = none) (e : H' a = some o) : Ob st c H' a o := ⟨e, (s.neS h).1, (s.neS h).2⟩
theorem supd {H H' : Hp} {p : Addr} {o : HO} (s : Same H H') (h : H' p = none) : Same H (upd H' p o) := s.trans (same_upd h)
/-- an object that H does not know changes -/
theorem smut {H H' : Hp} {p : Addr} {o : HO} (s : Same H H') (h : H p = none) : Same H (L2.upd H' p o) := fun a u ha => by
  rw [upd_ne (ne_of_none ha h)]
  exact s a u ha
theorem Gd.mut {st c : Addr} {H H' : Hp} {p : Addr} {o : HO} (s : Gd st c H H') (h : H p = none) : Gd st c H (L2.upd H' p o) := fun a u ha h1 h2 => by
  rw [upd_ne (ne_of_none ha h)]
  exact s a u ha h1 h2
theorem StA.mut {st c : Addr} {H : Hp} {p : Addr} {o : HO} (s : StA H st c) (h1 : p ≠ st) (h2 : p ≠ c) : StA (L2.upd H p o) st c := by
  obtain ⟨cs, m, e1, e2, e3⟩ := s
  exact ⟨cs, m, by rw [upd_ne h1.symm]; exact e1, by rw [upd_ne h2.symm]; exact e2, e3⟩
/-! ### comprehensions -/
theorem take_app {α : Type} {ys : List α} {j : Nat} {y : α} (h : ys[j]? = some y) : ys.take j ++ [y] = ys.take (j + 1) := by
  rw [List.take_add_one, h]
  rfl
section
variable {K : PySem.W.Frag} {σ : L2.St} {H : Hp} {Q : VK} {te tl : TE} {tt : TT} {g : TG}
/-- over a list, nothing that H knows changes -/
theorem lc_same {a : Addr} {k : Nat} {xs ys : List V} (hx : SqL K H a xs) (hlen : ys.length = xs.length) (hz : ys.length ≤ 1000000)
    (he : ∀ (j : Nat) (x : V), xs[j]? = some x → ∀ H' (R : VK), Same H H' → (∀ y H'', Same H' H'' → ys[j]? = some y → R y H'') → te ((wipe σ [k]).set k (some x)) H' R)
    (q : ∀ D H', H D = none → Same H H' → H' D = some (.lst ys) → Q (.ref D) H') :
    ∀ D, H D = none → ∃ W : Nat → Nat → Hp → Prop, (∃ m, W 0 m (upd H D (.lst []))) ∧ ∀ i m H, W i m H →
      ((Itl K a).stop i H ∧ Q (.ref D) H) ∨ ((Itl K a).go i H ∧ ∃ Nx : Hp → Prop, (∀ H', Nx H' → ∃ m', m' < m ∧ W (i + 1) m' H') ∧ ∀ x H', (Itl K a).yld i H x H' → gName k x (wipe σ [k]) H' fun σ2 H2 => wipe σ2 [k] = wipe σ [k] ∧ tYes σ2 H2 fun b H3 =>
        if b = true then te σ2 H3 fun y H4 => ∃ acc, H4 D = some (.lst acc) ∧ acc.length < sizeLine ∧ Nx (upd H4 D (.lst (acc ++ [y]))) else Nx H3) := by
  intro D hD
  refine lc_list (K := K) (a := a) (xs := xs) (Qd := Q (.ref D)) (fun i H' => Same H H' ∧ H' D = some (.lst (ys.take i))) ⟨same_upd hD, upd_same⟩ (fun i H' _ h => h.1.seq hx) ?_ ?_
  · rintro i x H' hi ⟨s, e⟩
    refine a_gname ?_
    refine ⟨by simp [wipe], a_yes (ift ?_)⟩
    refine he i x hi H' _ s fun y H'' s2 ey => ?_
    refine ⟨_, s2 _ _ e, ?_, smut (s.trans s2) hD, ?_⟩
    · refine szl ?_
      rw [List.length_take]
      omega
    · rw [upd_same, take_app ey]
  · rintro H' ⟨s, e⟩
    refine q D H' hD s ?_
    rw [e, ← hlen, List.take_length]
/-- over a range, nothing that H knows changes -/
theorem lr_same {k n : Nat} {ys : List V} (hlen : ys.length = n) (hz : ys.length ≤ 1000000)
    (he : ∀ j : Nat, j < n → ∀ H' (R : VK), Same H H' → (∀ y H'', Same H' H'' → ys[j]? = some y → R y H'') → te ((wipe σ [k]).set k (some (.int (j : Int)))) H' R)
    (q : ∀ D H', H D = none → Same H H' → H' D = some (.lst ys) → Q (.ref D) H') :
    ∀ D, H D = none → ∃ W : Nat → Nat → Hp → Prop, (∃ m, W 0 m (upd H D (.lst []))) ∧ ∀ i m H, W i m H →
      ((Itr 0 n).stop i H ∧ Q (.ref D) H) ∨ ((Itr 0 n).go i H ∧ ∃ Nx : Hp → Prop, (∀ H', Nx H' → ∃ m', m' < m ∧ W (i + 1) m' H') ∧ ∀ x H', (Itr 0 n).yld i H x H' → gName k x (wipe σ [k]) H' fun σ2 H2 => wipe σ2 [k] = wipe σ [k] ∧ tYes σ2 H2 fun b H3 =>
        if b = true then te σ2 H3 fun y H4 => ∃ acc, H4 D = some (.lst acc) ∧ acc.length < sizeLine ∧ Nx (upd H4 D (.lst (acc ++ [y]))) else Nx H3) := by
  intro D hD
  refine lc_range (lo := 0) (n := n) (Qd := Q (.ref D)) (fun i H' => Same H H' ∧ H' D = some (.lst (ys.take i))) ⟨same_upd hD, upd_same⟩ ?_ ?_
  · rintro i H' hi ⟨s, e⟩
    refine a_gname ?_
    refine ⟨by simp [wipe], a_yes (ift ?_)⟩
    rw [Int.zero_add]
    refine he i hi H' _ s fun y H'' s2 ey => ?_
    refine ⟨_, s2 _ _ e, ?_, smut (s.trans s2) hD, ?_⟩
    · refine szl ?_
      rw [List.length_take]
      omega
    · rw [upd_same, take_app ey]
  · rintro H' ⟨s, e⟩
    refine q D H' hD s ?_
    rw [e, ← hlen, List.take_length]
/-- over a range, the element draws -/
theorem lr_draw {st c : Addr} {k n : Nat} {P : V → Prop} (hz : n ≤ 1000000) (s0 : StA H st c)
    (he : ∀ j : Nat, j < n → ∀ H' (R : VK), StA H' st c → Gd st c H H' → (∀ y H'', P y → StA H'' st c → Gd st c H' H'' → R y H'') → te ((wipe σ [k]).set k (some (.int (j : Int)))) H' R)
    (q : ∀ D H' ys, H D = none → StA H' st c → Gd st c H H' → ys.length = n → (∀ y ∈ ys, P y) → Ob st c H' D (.lst ys) → Q (.ref D) H') :
    ∀ D, H D = none → ∃ W : Nat → Nat → Hp → Prop, (∃ m, W 0 m (upd H D (.lst []))) ∧ ∀ i m H, W i m H →
      ((Itr 0 n).stop i H ∧ Q (.ref D) H) ∨ ((Itr 0 n).go i H ∧ ∃ Nx : Hp → Prop, (∀ H', Nx H' → ∃ m', m' < m ∧ W (i + 1) m' H') ∧ ∀ x H', (Itr 0 n).yld i H x H' → gName k x (wipe σ [k]) H' fun σ2 H2 => wipe σ2 [k] = wipe σ [k] ∧ tYes σ2 H2 fun b H3 =>
        if b = true then te σ2 H3 fun y H4 => ∃ acc, H4 D = some (.lst acc) ∧ acc.length < sizeLine ∧ Nx (upd H4 D (.lst (acc ++ [y]))) else Nx H3) := by
  intro D hD
  have nD := s0.neS hD
  refine lc_range (lo := 0) (n := n) (Qd := Q (.ref D)) (fun i H' => StA H' st c ∧ Gd st c H H' ∧ ∃ ys : List V, ys.length = i ∧ i ≤ n ∧ (∀ y ∈ ys, P y) ∧ H' D = some (.lst ys))
    ⟨s0.mut nD.1 nD.2, (Gd.refl H).mut hD, [], rfl, Nat.zero_le _, (fun y hy => by simp at hy), upd_same⟩ ?_ ?_
  · rintro i H' hi ⟨s, gd, ys, e1, e2, e3, e4⟩
    refine a_gname ?_
    refine ⟨by simp [wipe], a_yes (ift ?_)⟩
    rw [Int.zero_add]
    refine he i hi H' _ s gd fun y H'' py s2 g2 => ?_
    refine ⟨_, g2 _ _ e4 nD.1 nD.2, szl (by omega), s2.mut nD.1 nD.2, (gd.trans g2).mut hD, ys ++ [y], by rw [List.length_append, e1]; rfl, by omega, fun z hz => ?_, upd_same⟩
    rcases List.mem_append.mp hz with h | h
    · exact e3 z h
    · have := List.mem_singleton.mp h
      rw [this]; exact py
  · rintro H' ⟨s, gd, ys, e1, e2, e3, e4⟩
    exact q D H' ys hD s gd e1 e3 ⟨e4, nD.1, nD.2⟩
end
/-! ### loops, their ends by parts -/
section
variable {K : PySem.W.Frag} {g : TG} {tb : TS} {σ : L2.St} {H : Hp} {nx : L2.St → Hp → Prop} {rt : VK}
theorem fo_list {a : Addr} {xs : List V} (Pv : Nat → L2.St → Hp → Prop) (h0 : Pv 0 σ H) (hl : ∀ i σ H, i ≤ xs.length → Pv i σ H → SqL K H a xs)
    (hs : ∀ i x σ H, xs[i]? = some x → Pv i σ H → g x σ H fun σ2 H2 => tb ⟨Pv (i + 1), rt, nx, Pv (i + 1)⟩ σ2 H2) (hd : ∀ σ H, Pv xs.length σ H → nx σ H) :
    ∃ W : Nat → Nat → L2.St → Hp → Prop, (∃ m, W 0 m σ H) ∧ ∀ i m σ H, W i m σ H →
      ((Itl K a).stop i H ∧ nx σ H) ∨ ((Itl K a).go i H ∧ ∃ N : L2.St → Hp → Prop, (∀ σ' H', N σ' H' → ∃ m', m' < m ∧ W (i + 1) m' σ' H') ∧ ∀ x H', (Itl K a).yld i H x H' → g x σ H' fun σ2 H2 => tb ⟨N, rt, nx, N⟩ σ2 H2) :=
  for_list (D := ⟨nx, rt, fun _ _ => False, fun _ _ => False⟩) Pv h0 hl hs hd
theorem fo_range {n : Nat} (Pv : Nat → L2.St → Hp → Prop) (h0 : Pv 0 σ H)
    (hs : ∀ i σ H, i < n → Pv i σ H → g (.int (i : Int)) σ H fun σ2 H2 => tb ⟨Pv (i + 1), rt, nx, Pv (i + 1)⟩ σ2 H2) (hd : ∀ σ H, Pv n σ H → nx σ H) :
    ∃ W : Nat → Nat → L2.St → Hp → Prop, (∃ m, W 0 m σ H) ∧ ∀ i m σ H, W i m σ H →
      ((Itr 0 n).stop i H ∧ nx σ H) ∨ ((Itr 0 n).go i H ∧ ∃ N : L2.St → Hp → Prop, (∀ σ' H', N σ' H' → ∃ m', m' < m ∧ W (i + 1) m' σ' H') ∧ ∀ x H', (Itr 0 n).yld i H x H' → g x σ H' fun σ2 H2 => tb ⟨N, rt, nx, N⟩ σ2 H2) :=
  for_range (lo := 0) (D := ⟨nx, rt, fun _ _ => False, fun _ _ => False⟩) Pv h0 (fun i σ H hi p => by rw [Int.zero_add]; exact hs i σ H hi p) hd
theorem fo_zip {a b : Addr} {xs ys : List V} (hl : xs.length = ys.length) (Pv : Nat → L2.St → Hp → Prop) (h0 : Pv 0 σ H) (hq : ∀ i σ H, Pv i σ H → SqL K H a xs ∧ SqL K H b ys)
    (hs : ∀ (i : Nat) (x y : V) (T : Addr) (σ : L2.St) (H : Hp), xs[i]? = some x → ys[i]? = some y → Pv i σ H → H T = none → g (.ref T) σ (upd H T (.tup [x, y])) fun σ2 H2 => tb ⟨Pv (i + 1), rt, nx, Pv (i + 1)⟩ σ2 H2) (hd : ∀ σ H, Pv xs.length σ H → nx σ H) :
    ∃ W : Nat → Nat → L2.St → Hp → Prop, (∃ m, W 0 m σ H) ∧ ∀ i m σ H, W i m σ H →
      ((Itz K a b).stop i H ∧ nx σ H) ∨ ((Itz K a b).go i H ∧ ∃ N : L2.St → Hp → Prop, (∀ σ' H', N σ' H' → ∃ m', m' < m ∧ W (i + 1) m' σ' H') ∧ ∀ v H', (Itz K a b).yld i H v H' → g v σ H' fun σ2 H2 => tb ⟨N, rt, nx, N⟩ σ2 H2) :=
  RZ.for_zipL (D := ⟨nx, rt, fun _ _ => False, fun _ _ => False⟩) hl Pv h0 hq hs hd
end
theorem getV {xs : List Int} {i : Nat} {x : V} (h : (xs.map V.int)[i]? = some x) : ∃ n, xs[i]? = some n ∧ x = .int n := by
  rw [List.getElem?_map] at h
  cases e : xs[i]? with
  | none => rw [e] at h; cases h
  | some n => rw [e] at h; exact ⟨n, rfl, (Option.some.inj h).symm⟩
theorem a_exz {K : PySem.W.Frag} {H : Hp} {a b : Addr} {xs ys : List V} {R : Addr → Addr → Prop} (h1 : SqL K H a xs) (h2 : SqL K H b ys) (q : R a b) : ∃ a' b' xs ys, [V.ref a, V.ref b] = [V.ref a', V.ref b'] ∧ SqL K H a' xs ∧ SqL K H b' ys ∧ R a' b' := ⟨a, b, xs, ys, rfl, h1, h2, q⟩
/-! ### a comprehension as a whole -/
section
variable {K : PySem.W.Frag} {σ : L2.St} {H : Hp} {Q : VK} {te tl : TE} {ta : TA} {vs : List Nat}
theorem c_same {a : Addr} {k : Nat} {xs : List V} (ys : List V) (hv : vs = [k]) (ht : ∀ R : VK, R (.ref a) H → tl σ H R) (hx : SqL K H a xs) (hlen : ys.length = xs.length) (hz : ys.length ≤ 1000000)
    (he : ∀ (j : Nat) (x : V), xs[j]? = some x → ∀ H' (R : VK), Same H H' → (∀ y H'', Same H' H'' → ys[j]? = some y → R y H'') → te ((wipe σ [k]).set k (some x)) H' R)
    (q : ∀ D H', H D = none → Same H H' → H' D = some (.lst ys) → Q (.ref D) H') : tLc (iList K tl) (gName k) tYes te vs σ H Q := by
  subst hv
  refine ht (fun x H1 => ∃ a, x = .ref a ∧ (∃ xs, SqL K H1 a xs) ∧ _) ⟨a, rfl, ⟨xs, hx⟩, ?_⟩
  exact lc_same hx hlen hz he q
theorem c_rng {k n : Nat} (ys : List V) (hv : vs = [k]) (hn : n ≤ 1000000) (ht : ∀ R : List V → Hp → Prop, R [.int (n : Int)] H → ta σ H R) (hlen : ys.length = n)
    (he : ∀ j : Nat, j < n → ∀ H' (R : VK), Same H H' → (∀ y H'', Same H' H'' → ys[j]? = some y → R y H'') → te ((wipe σ [k]).set k (some (.int (j : Int)))) H' R)
    (q : ∀ D H', H D = none → Same H H' → H' D = some (.lst ys) → Q (.ref D) H') : tLc (iRng1 ta) (gName k) tYes te vs σ H Q := by
  subst hv
  refine ht (fun vs H1 => ∃ j : Int, vs = [.int j] ∧ -(2 ^ 62) ≤ j ∧ j < 2 ^ 62 ∧ _) ⟨(n : Int), rfl, by omega, by omega, ?_⟩
  rw [Int.toNat_natCast]
  exact lr_same hlen (by omega) he q
theorem c_draw {st c : Addr} {k n : Nat} (P : V → Prop) (hv : vs = [k]) (hn : n ≤ 1000000) (ht : ∀ R : List V → Hp → Prop, R [.int (n : Int)] H → ta σ H R) (s0 : StA H st c)
    (he : ∀ j : Nat, j < n → ∀ H' (R : VK), StA H' st c → Gd st c H H' → (∀ y H'', P y → StA H'' st c → Gd st c H' H'' → R y H'') → te ((wipe σ [k]).set k (some (.int (j : Int)))) H' R)
    (q : ∀ D H' ys, H D = none → StA H' st c → Gd st c H H' → ys.length = n → (∀ y ∈ ys, P y) → Ob st c H' D (.lst ys) → Q (.ref D) H') : tLc (iRng1 ta) (gName k) tYes te vs σ H Q := by
  subst hv
  refine ht (fun vs H1 => ∃ j : Int, vs = [.int j] ∧ -(2 ^ 62) ≤ j ∧ j < 2 ^ 62 ∧ _) ⟨(n : Int), rfl, by omega, by omega, ?_⟩
  rw [Int.toNat_natCast]
  exact lr_draw hn s0 he q
end
/-! ### more readings -/
theorem cdw {i j : Int} (h0 : 0 < j) (h1 : j < 9223372036854775808) : CDivW i j := by
  refine ⟨h0, ?_⟩
  have hn : j.natAbs ≠ 0 := by omega
  have h2 : j.natAbs < 2 ^ 63 := by
    have : (2 : Nat) ^ 63 = 9223372036854775808 := by decide
    omega
  have := (Nat.log2_lt hn).mpr h2
  omega
def In (lo hi : Int) (l : List Int) : Prop := ∀ e ∈ l, lo ≤ e ∧ e < hi
theorem in_getD {lo hi x : Int} {l : List Int} (h : In lo hi l) (h0 : 0 ≤ x) (h1 : x < (l.length : Int)) : lo ≤ l.getD x.toNat 0 ∧ l.getD x.toNat 0 < hi := by
  have hx : x.toNat < l.length := by omega
  rw [List.getD_eq_getElem?_getD, List.getElem?_eq_getElem hx]
  exact h _ (List.getElem_mem hx)
theorem at0 {α : Type} {y : α} {xs : List α} : atI (y :: xs) 0 = some y := atI_nat (j := 0) rfl
theorem at_int {l : List Int} {x : Int} (h0 : 0 ≤ x) (h1 : x < (l.length : Int)) : atI (l.map V.int) x = some (.int (l.getD x.toNat 0)) := by
  have hx : x.toNat < l.length := by omega
  have e := atI_nat (xs := l.map V.int) (j := x.toNat) (v := .int (l.getD x.toNat 0)) (by
    rw [List.getElem?_map, List.getElem?_eq_getElem hx, List.getD_eq_getElem?_getD, List.getElem?_eq_getElem hx]
    rfl)
  have z : ((x.toNat : Nat) : Int) = x := Int.toNat_of_nonneg h0
  rw [z] at e
  exact e
section
variable {σ : L2.St} {H : Hp} {v y : V} {tt : TT} {t1 : TS} {nx bk ct : L2.St → Hp → Prop} {rt : VK}
theorem a_setL0 {a : Addr} {xs : List V} {R : Hp → Prop} (h : H a = some (.lst (y :: xs))) (q : R (upd H a (.lst (v :: xs)))) : rSetL (.ref a) (.int 0) v H R :=
  a_setL (k := 0) h (by rw [List.length_cons]; omega) q
theorem a_setL1 {a : Addr} {z : V} {xs : List V} {R : Hp → Prop} (h : H a = some (.lst (z :: y :: xs))) (q : R (upd H a (.lst (z :: v :: xs)))) : rSetL (.ref a) (.int 1) v H R :=
  a_setL (k := 1) h (by rw [List.length_cons, List.length_cons]; omega) q
theorem a_while2 (A : L2.St → Hp → Prop) (post : ∀ σ H, A σ H → nx σ H) (W : Nat → L2.St → Hp → Prop) (m0 : Nat) (h0 : W m0 σ H)
    (q : ∀ nx' : L2.St → Hp → Prop, (∀ σ H, A σ H → nx' σ H) → ∀ m σ H, W m σ H → tt σ H fun b H1 => if b = true then ∃ N : L2.St → Hp → Prop, (∀ σ' H', N σ' H' → ∃ m', m' < m ∧ W m' σ' H') ∧ t1 ⟨N, rt, nx', N⟩ σ H1 else nx' σ H1) :
    tWhile tt t1 ⟨nx, rt, bk, ct⟩ σ H := ⟨W, ⟨m0, h0⟩, q nx post⟩
end
end Lk

namespace Lk
open PySem PySem.Spec PyProof.Rows L2
/-! ### the law's own def, where it is known that no repr is under way around it -/
def FreeA (A : Around) : Prop := A.guards = some []
/-- what a call promises at one surrounding -/
def RunsAt (P : Program) (w : World) (K : PySem.W.Frag) (mg : Str → Option Value) (base : Heap) (CX : CXT) (k : Nat) (f : Addr) (fd : FuncData) (ps : List Str) (sp : Sp) : Prop :=
  ∀ (A : Around) (outer : List Env) (s : Shared) (H : Hp) (args : Args) (us : List Value) (vs : List V) (Q : VK) (E : XK), FreeA A → Room k A → Env0 P w K mg base A outer s H → BindsTo s fd args (ps.zip us) → Vals vs us → sp vs H Q E →
    codeAny (model P w) A (.call (.ref f) args) (CR CX outer P w H s Q E) s
theorem runs_of {P : Program} {w : World} {K : PySem.W.Frag} {mg : Str → Option Value} {base : Heap} {CX : CXT} {k : Nat} {f : Addr} {x qual : Str} {st : Stmt} {fd : FuncData} {N ps : List Str} {sp : Sp} (F : Fun K x qual st f fd) (S : FnScope N ps (defScope st))
    (len : ∀ vs H Q E, sp vs H Q E → vs.length = ps.length)
    (body : ∀ (cdv : Value) (A : Around) (outer : List Env) (s : Shared) (H : Hp) (vs : List V) (Q : VK) (E : XK), FreeA A → Room k (A.deeper (envOfC qual (defScope st) s.heap.objs.size f cdv)) → sp vs H Q E →
      ∃ t, PSs (cxOf CX P w K mg base N qual (defScope st) f cdv A outer s H E).nox (defBody st) t ∧ t { nx := fun _ H' => Q .non H', rt := Q } (start N vs) H) : RunsAt P w K mg base CX (k + 1) f fd ps sp := by
  obtain ⟨oc, od, kV, doc, pm, an, cdv, ct, osl, efd, lk, hcode⟩ := F.ex
  subst efd
  intro A outer s H args us vs Q E fa room env bind rel want
  have nargs := len _ _ _ _ want
  have kin : K.In s.heap := env.mod.kin.keeps fun b o e => (env.bs b o e).1
  have nol : s.heap.NoLimit := env.mod.nolimit.keeps fun b o e => (env.bs b o e).1
  have cells : ∀ y ∈ ps.zip us, (defScope st).names.lookup y.1 = some .local ∨ ((defScope st).names.lookup y.1 = some .cell ∧ ((cellsFrom (s.heap.objs.size + 1) (defScope st).names []).lookup y.1).isSome = true) := by
    rintro ⟨n, v⟩ hy
    refine (S.par n (List.of_mem_zip hy).1).imp id fun q => ?_
    exact ⟨q, PySem.W.cellsFrom_some _ _ _ (.inl q)⟩
  refine codeAny_call_function room.depth (kin _ _ lk) rfl S.co S.gen rfl (PySem.W.codeRec_of kin hcode) (bind _ _ _ _ ?_)
  refine wpAny_newFunctionEnv_cells S.kind cells ?_
  intro e1 h1 s1 h2
  subst h1
  refine ⟨nol.keeps h2.toInCall.keep, codeAny_func ?_⟩
  obtain ⟨t, ht, want'⟩ := body cdv A outer s H vs Q E fa (room.deeper _) want
  have J := inv_start (CX := CX) (P := P) (w := w) (E := E) (cd := cdv) (qual := qual) (f := f) S room.hd env nargs rel h2
  refine wpAny_mono (ht.nox.run [] s1 (start N vs) H _ J want') ?_ fun _ _ z => z
  intro fl s' hs
  cases fl with
  | ret u =>
    obtain ⟨v, σ', H', J', rv, q⟩ := hs
    exact ⟨v, H', J'.os, J'.bare, J'.base, J'.hok, rv, q⟩
  | next =>
    obtain ⟨σ', H', J', q⟩ := hs
    exact ⟨V.non, H', J'.os, J'.bare, J'.base, J'.hok, rfl, q⟩
  | brk => exact hs.elim fun _ h => h.elim fun _ h => h.2.elim
  | cont => exact hs.elim fun _ h => h.elim fun _ h => h.2.elim
/-! ### the head for such a law -/
section
variable {P : Program} {w : World} {K : PySem.W.Frag} {mg mb : Str → Option Value} {CX : CXT} {k : Nat} {fa a : Addr} {fd : FuncData} {x : Str} {sp : Sp} {s₁ : Shared} {vs : List Value} {ns : List Int}
abbrev lawEnd (s₁ : Shared) : Result → Shared → Prop := fun r s' => r = .ok (.ret (.bool true)) ∧ OldK s₁.heap s'.heap ∧ s'.os = s₁.os ∧ AllBare s'.gens
/-- from an abstract heap in which at most the script stands -/
theorem law_from (KX : K.In s₁.heap) (hns : s₁.heap.Ns mainGlobals mg) (hb : s₁.heap.Ns builtinsNs mb) (hbb : ∀ x : Str, x ≠ "__name__" → mb x = bootBuiltins x) (hlim : s₁.heap.NoLimit) (hg : s₁.gens = #[])
    (ha : s₁.heap.get? a = some { cls := .type "list", data := .seq vs.toArray }) (room : Room k callerA)
    (F : ∀ base : Heap, K.In base → base.Ns mainGlobals mg → RunsAt P w K mg base CX k fa fd [x] sp) (hbind : ∀ (s : Shared) (u : Value), BindsTo s fd ⟨[u], []⟩ [(x, u)])
    (H : Hp) (hO : Only H) (hok : HOk P w H s₁.heap) (hA : ∀ b, H b ≠ none → b = a) (hK : H a ≠ none → K.lookup a = none) (want : sp [.ref a] H (fun v _ => v = .bl true) fun _ _ _ => False)
    (hCX : ∀ e s', CX [] H s₁ (fun _ _ _ => False) e s' → False) : codeAny (model P w) callerA (.call (.ref fa) ⟨[.ref a], []⟩) (lawEnd s₁) s₁ := by
  have only : ∀ {b : Addr}, b ≠ a → H b = none := fun {b} hb => by
    cases q : H b with
    | none => rfl
    | some u => exact absurd (hA b (by rw [q]; exact nofun)) hb
  have dicts : ∀ {b : Addr} {o : Obj} {es : Array DictEntry} {ep : Nat}, s₁.heap.get? b = some o → o.data = .dict es ep → H b = none := by
    intro b o es ep e d
    by_cases hb : b = a
    · subst hb
      obtain rfl := Option.some.inj (ha.symm.trans e)
      exact nomatch d
    · exact only hb
  have spaces : ∀ {b : Addr} {m : Str → Option Value}, s₁.heap.Ns b m → (hidT s₁.heap H).Ns b m := by
    rintro b m ⟨o, es, ep, e, d, r⟩
    exact ⟨o, es, ep, hidT_get e (dicts e d), d, r⟩
  have kin : K.In (hidT s₁.heap H) := by
    intro b o e
    refine hidT_get (KX b o e) ?_
    by_cases hb : b = a
    · subst hb
      cases q : H b with
      | none => rfl
      | some u =>
        have z := hK (by rw [q]; exact nofun)
        rw [e] at z
        exact nomatch z
    · exact only hb
  obtain ⟨mc, l1, l2⟩ := hlim
  have env : Env0 P w K mg (hidT s₁.heap H) callerA [] s₁ H :=
    ⟨rfl, ⟨kin, spaces hns, ⟨mb, spaces hb, hbb⟩, ⟨mc, spaces l1, l2⟩⟩, fun b o e => of_hidT e, Nat.le_of_eq (hidT_size _ _), trivial, fun b z => absurd (show b ∈ ([] : List Addr) from z) (by simp), hok, .of_eq hg⟩
  refine codeAny_mono (F _ kin (spaces hns) callerA [] s₁ H ⟨[.ref a], []⟩ [.ref a] [.ref a] _ _ rfl room env (hbind s₁ (.ref a)) (.cons rfl .nil) want) ?_
  intro r s' h
  cases r with
  | error e => exact (hCX e s' h).elim
  | ok fl =>
    cases fl with
    | ret u =>
      obtain ⟨v, H', os, bare, un, hok', rv, rfl⟩ := h
      obtain rfl : u = Value.bool true := rv
      refine ⟨rfl, OldK.of_keep ?_, os, bare⟩
      intro b o e
      rcases hO b with z | ⟨ob, xs, z⟩
      · exact un.keep b o e z (fun q => absurd (show b ∈ ([] : List Addr) from q) (by simp)) (by simp)
      · obtain ⟨e1, _⟩ := hok b _ z
        obtain ⟨e2, _⟩ := hok' b _ (un.frzs b ob _ z)
        obtain rfl := Option.some.inj (e1.symm.trans e)
        exact e2
    | next => exact False.elim h
    | brk => exact False.elim h
    | cont => exact False.elim h
theorem ints_vals : ∀ {vs : List Value} {ns : List Int}, IntsAre vs ns → Vals (ns.map V.int) vs
  | _, _, .nil => .nil
  | _, _, .cons n t h => .cons ⟨t, rfl⟩ (ints_vals h)
theorem law_runs (KX : K.In s₁.heap) (hns : s₁.heap.Ns mainGlobals mg) (hb : s₁.heap.Ns builtinsNs mb) (hbb : ∀ x : Str, x ≠ "__name__" → mb x = bootBuiltins x) (hlim : s₁.heap.NoLimit) (hg : s₁.gens = #[])
    (ha : s₁.heap.get? a = some { cls := .type "list", data := .seq vs.toArray }) (hi : IntsAre vs ns) (hl : ns.length ≤ sizeLine) (room : Room k callerA)
    (F : ∀ base : Heap, K.In base → base.Ns mainGlobals mg → RunsAt P w K mg base CX k fa fd [x] sp) (hbind : ∀ (s : Shared) (u : Value), BindsTo s fd ⟨[u], []⟩ [(x, u)])
    (hsp : ∀ H : Hp, Only H → SqL K H a (ns.map V.int) → sp [.ref a] H (fun v _ => v = .bl true) fun _ _ _ => False)
    (hCX : ∀ H e s', CX [] H s₁ (fun _ _ _ => False) e s' → False) : codeAny (model P w) callerA (.call (.ref fa) ⟨[.ref a], []⟩) (lawEnd s₁) s₁ := by
  have rel := ints_vals hi
  have nlen := hi.length
  by_cases hk : K.lookup a = none
  · have hS : SqL K (fun b => if b = a then some (.frz { cls := .type "list", data := .seq vs.toArray } (.lst (ns.map V.int))) else none) a (ns.map V.int) := .inl (.inr ⟨_, if_pos rfl⟩)
    have hO : Only (fun b => if b = a then some (.frz { cls := .type "list", data := .seq vs.toArray } (.lst (ns.map V.int))) else none) := by
      intro b
      by_cases hb : b = a
      · exact .inr ⟨_, _, if_pos hb⟩
      · exact .inl (if_neg hb)
    refine law_from KX hns hb hbb hlim hg ha room F hbind _ hO ?_ ?_ (fun _ => hk) (hsp _ hO hS) (hCX _)
    · intro b u z
      by_cases hb : b = a
      · subst hb
        obtain rfl := Option.some.inj ((if_pos rfl).symm.trans z)
        exact ⟨ha, by rw [List.length_map]; exact hl, vs, _, rel, ha⟩
      · exact nomatch (if_neg hb).symm.trans z
    · intro b z
      by_cases hb : b = a
      · exact hb
      · exact absurd (if_neg hb) z
  · obtain ⟨o, ho⟩ := Option.ne_none_iff_exists'.mp hk
    obtain rfl := Option.some.inj (ha.symm.trans (KX a o ho))
    have hS : SqL K (fun _ => none) a (ns.map V.int) := .inr ⟨_, vs.toArray, _, ho, rfl, rfl, rfl, by rw [List.size_toArray, nlen]; exact hl, by simpa using rel⟩
    have hO : Only (fun _ => none) := fun _ => .inl rfl
    exact law_from KX hns hb hbb hlim hg ha room F hbind _ hO (fun b u z => nomatch (show (none : Option HO) = some u from z)) (fun b z => absurd rfl z) (fun z => absurd rfl z) (hsp _ hO hS) (hCX _)
end
theorem walk_free {l : PySem.W.OpenLaw} {n k : Nat} {q : Program} {loose : List Str} {XP : (Str → Option Value) → Heap → Prop} {YP : World → Heap → Prop} {d : DefRec} {K : Params → PySem.W.Frag} {CX : CXT} {sp : PySem.W.Frag → Sp} {x : Str}
    (hn : l.most = some n) (hn2 : n ≤ sizeLine) (hdf : d.params.defaults = []) (room : Room k callerA) (hY : ∀ (w : World) (h : Heap), YP w h → (K w.params).In h)
    (F : ∀ (w : World) (mg : Str → Option Value) (fa : Addr) (h : Heap), (K w.params).In h → h.Ns mainGlobals mg → mg d.name = some (.ref fa) →
      ∃ fd : FuncData, (∀ (s : Shared) (u : Value), BindsTo s fd ⟨[u], []⟩ [(x, u)]) ∧ ∀ base : Heap, (K w.params).In base → base.Ns mainGlobals mg → RunsAt l.prog w (K w.params) mg base CX k fa fd [x] (sp (K w.params)))
    (hsp : ∀ (K : PySem.W.Frag) (H : Hp) (a : Addr) (ns : List Int), ns.length ≤ n → Only H → SqL K H a (ns.map V.int) → sp K [.ref a] H (fun v _ => v = .bl true) fun _ _ _ => False)
    (hCX : ∀ (H : Hp) (s : Shared) (e : Value) (s' : Shared), CX [] H s (fun _ _ _ => False) e s' → False) :
    PySem.W.WalkO q loose XP YP l.row.toRowW d [] (fun f vs => PySem.call f vs) := by
  refine Att.attach_call hn hdf ?_
  intro w s₀ s₁ mg mb fa o pm cd doc a vs ns G Y ho hd hcd hmg hobj hints hlen hg
  obtain ⟨fd, hb, hF⟩ := F w mg fa _ (hY w _ Y) G.T.g hmg
  exact law_runs (hY w _ Y) G.T.g G.T.b G.T.builtins G.T.nolimit hg hobj hints (Nat.le_trans hlen hn2) room hF hb (fun H hO hS => hsp _ H a ns hlen hO hS) fun H e s' => hCX H s₁ e s'
/-! ### repr -/
def rRep (K : PySem.W.Frag) : List V → Hp → VK → Prop := fun vs H Q => ∃ (a : Addr) (d : PyData), vs = [.ref a] ∧ Dp K H (.ref a) d ∧ d.showable = true ∧ d.hasDict = false ∧ d.depth ≤ 20 ∧ d.shown.length ≤ sizeLine ∧ Q (.str d.shown) H
theorem call_rep {X : Cx} {K : PySem.W.Frag} (hK : X.K = K) (hu : X.A.units + 64 < cLine) (hG : FreeA X.A) : CallR X (.builtin "repr") (rRep K) := by
  subst hK
  intro pins s σ H vs us Q I r h
  obtain ⟨a, d, rfl, hd, h1, h2, h3, h4, q⟩ := h
  rw [Vals.ref1 r]
  obtain ⟨as, rd⟩ := Dp.reads I d _ _ hd (rfl : RelV (.ref a) (.ref a))
  refine repr_of_reads' rd h1 (fun z => by rw [h2] at z; exact nomatch z) hG (by omega) (fun _ _ e => e) (fun h' u tk k => ?_) h4
  exact ⟨.str d.shown, H, I.kept k, ⟨u, rfl⟩, q⟩
end Lk

namespace Lk
open PySem PySem.Spec PyProof.Rows L2
/-! ### data: ==, repr, isinstance -/
theorem hu64 {A : Around} {k : Nat} (hr : Room k A) : A.units + 64 < cLine := by
  have := hr.un
  omega
section
variable {X : Cx} {K : PySem.W.Frag}
theorem eqD_ (h : X.K = K) (hu : X.A.units + 64 < cLine) : OpR X (compareOp .Eq) (rEqD K) := by subst h; exact op_eqD hu
theorem neD_ (h : X.K = K) (hu : X.A.units + 64 < cLine) : OpR X (compareOp .NotEq) (rNeD K) := by subst h; exact op_neD hu
theorem isi_ (h : X.K = K) : CallR X (.builtin "isinstance") (rIsi K) := by subst h; exact call_isi
end
section
variable {K : PySem.W.Frag} {H : Hp} {Q : VK} {x y : V}
theorem a_isi {T U : String} {b : Bool} (ty : TyX K H x (.type T)) (h : kitB T U = some b) (q : Q (.bl b) H) : rIsi K [x, .ty U] H Q := ⟨x, .ty U, .type T, .type U, b, rfl, .ty U, ty, kit_ty h, q⟩
theorem ty_tup {a : Addr} {xs : List V} (h : H a = some (.tup xs)) : TyX K H (.ref a) (.type "tuple") := .base (.tup h)
theorem ty_lst {a : Addr} {xs : List V} (h : H a = some (.lst xs)) : TyX K H (.ref a) (.type "list") := .base (.lst h)
theorem ty_bl {b : Bool} : TyX K H (.bl b) (.type "bool") := .base (.bl b)
theorem ty_int {i : Int} : TyX K H (.int i) (.type "int") := .base (.int i)
theorem kb_tt : kitB "tuple" "tuple" = some true := by decide +kernel
theorem kb_ll : kitB "list" "list" = some true := by decide +kernel
theorem kb_bb : kitB "bool" "bool" = some true := by decide +kernel
theorem kb_ib : kitB "int" "bool" = some false := by decide +kernel
theorem kb_ii : kitB "int" "int" = some true := by decide +kernel
theorem a_eqD {d e : PyData} (h1 : Dp K H x d) (h2 : Dp K H y e) (s1 : SeqAt.shaped d = true) (s2 : SeqAt.shaped e = true) (q : Q (.bl (PyData.eqv d e)) H) : rEqD K x y H Q := ⟨d, e, h1, h2, s1, s2, q⟩
theorem a_neD {d e : PyData} (h1 : Dp K H x d) (h2 : Dp K H y e) (s1 : SeqAt.shaped d = true) (s2 : SeqAt.shaped e = true) (q : Q (.bl (!PyData.eqv d e)) H) : rNeD K x y H Q := ⟨d, e, h1, h2, s1, s2, q⟩
end
/-! ### a comprehension of new objects -/
section
variable {K : PySem.W.Frag} {σ : L2.St} {H : Hp} {Q : VK} {te tl : TE} {vs : List Nat}
theorem c_new {a : Addr} {k : Nat} {xs : List V} (S : Nat → HO → Prop) (hv : vs = [k]) (ht : ∀ R : VK, R (.ref a) H → tl σ H R) (hx : SqL K H a xs) (hz : xs.length ≤ 1000000)
    (he : ∀ (j : Nat) (x : V), xs[j]? = some x → ∀ H' (R : VK), Same H H' → (∀ b H'' o, Same H' H'' → H' b = none → H'' b = some o → S j o → R (.ref b) H'') → te ((wipe σ [k]).set k (some x)) H' R)
    (q : ∀ D H' (as : List Addr), H D = none → Same H H' → as.length = xs.length → H' D = some (.lst (as.map V.ref)) → (∀ (j : Nat) (b : Addr), as[j]? = some b → ∃ o, H' b = some o ∧ S j o) → Q (.ref D) H') : tLc (iList K tl) (gName k) tYes te vs σ H Q := by
  subst hv
  refine ht (fun x H1 => ∃ a, x = .ref a ∧ (∃ xs, SqL K H1 a xs) ∧ _) ⟨a, rfl, ⟨xs, hx⟩, ?_⟩
  intro D hD
  refine lc_list (K := K) (a := a) (xs := xs) (Qd := Q (.ref D)) (fun i H' => Same H H' ∧ i ≤ xs.length ∧ ∃ as : List Addr, as.length = i ∧ H' D = some (.lst (as.map V.ref)) ∧ ∀ (j : Nat) (b : Addr), as[j]? = some b → ∃ o, H' b = some o ∧ S j o ∧ b ≠ D)
    ⟨same_upd hD, Nat.zero_le _, [], rfl, upd_same, fun j b e => by simp at e⟩ (fun i H' _ h => h.1.seq hx) ?_ ?_
  · rintro i x H' hi ⟨s, hil, as, e1, e2, e3⟩
    refine a_gname ?_
    refine ⟨by simp [wipe], a_yes (ift ?_)⟩
    refine he i x hi H' _ s fun b H'' o s2 nb eb sb => ?_
    have hi2 := (List.getElem?_eq_some_iff.mp hi).1
    have nbD : b ≠ D := fun z => by rw [z, e2] at nb; exact nomatch nb
    refine ⟨_, s2 _ _ e2, szl (by rw [List.length_map]; omega), smut (s.trans s2) hD, by omega, as ++ [b], by rw [List.length_append, e1]; rfl, by rw [upd_same, List.map_append]; rfl, fun j c ec => ?_⟩
    by_cases hj : j < as.length
    · rw [List.getElem?_append_left hj] at ec
      obtain ⟨u, h1, h2, h3⟩ := e3 j c ec
      exact ⟨u, by rw [upd_ne h3]; exact s2 _ _ h1, h2, h3⟩
    · have hj2 : j = as.length := by
        have := (List.getElem?_eq_some_iff.mp ec).1
        rw [List.length_append] at this
        have z : [b].length = 1 := rfl
        omega
      subst hj2
      rw [List.getElem?_append_right (Nat.le_refl _), Nat.sub_self] at ec
      obtain rfl : b = c := Option.some.inj ec
      exact ⟨o, by rw [upd_ne nbD]; exact eb, by rw [e1]; exact sb, nbD⟩
  · rintro H' ⟨s, _, as, e1, e2, e3⟩
    refine q D H' as hD s e1 e2 fun j b e => ?_
    obtain ⟨o, h1, h2, _⟩ := e3 j b e
    exact ⟨o, h1, h2⟩
end
/-- lists of ints as data -/
def dInts (l : List Int) : List PyData := l.map PyData.int
theorem dp_ints {K : PySem.W.Frag} {H : Hp} : ∀ l : List Int, DpAll K H (l.map V.int) (dInts l)
  | [] => .nil
  | i :: l => .cons (.int i) (dp_ints l)
theorem dp_lst {K : PySem.W.Frag} {H : Hp} {a : Addr} {l : List Int} (h : H a = some (.lst (l.map V.int))) : Dp K H (.ref a) (.list (dInts l)) := .lst (sql h) (dp_ints l)
/-! ### how long a repr is -/
mutual
def costD : PyData → Nat
  | .none => 5
  | .bool _ => 5
  | .int _ => 42
  | .str x => (reprText x).length
  | .list xs => 2 + costL xs
  | .tuple xs => 3 + costL xs
  | .dict _ => 0
def costL : List PyData → Nat
  | [] => 0
  | x :: xs => (costD x + 2) + costL xs
end
mutual
def tame : PyData → Bool
  | .none => true
  | .bool _ => true
  | .int i => decide (i.natAbs < 10 ^ 38)
  | .str _ => true
  | .list xs => tameL xs
  | .tuple xs => tameL xs
  | .dict _ => false
def tameL : List PyData → Bool
  | [] => true
  | x :: xs => tame x && tameL xs
end
theorem textFrom_le : ∀ (ts : List Str) (k : Nat) (acc : Str), (textFrom k acc ts).length ≤ acc.length + piled ts
  | [], _, acc => Nat.le_add_right _ _
  | t :: r, k, acc => by
    refine Nat.le_trans (textFrom_le r (k + 1) (acc ++ (if k > 0 then ", " else "" : String) ++ t)) ?_
    rw [strLen_append, strLen_append, piled_cons]
    have : (Str.ofString (if k > 0 then ", " else "" : String)).length ≤ 2 := by split <;> decide
    omega
theorem listText_le (ts : List Str) : (listText ts).length ≤ 2 + piled ts := by
  unfold listText
  rw [strLen_append]
  have h := textFrom_le ts 0 "["
  have e1 : (("[" : String) : Str).length = 1 := rfl
  have e2 : (("]" : String) : Str).length = 1 := rfl
  rw [e1] at h
  rw [e2]
  omega
theorem join_le : ∀ ts : List Str, (Str.join ", " ts).length ≤ piled ts := fun ts => by
  cases ts with
  | nil => exact Nat.zero_le _
  | cons t r =>
    have := join_length_add (t :: r) nofun
    omega
theorem tupleText_le (ts : List Str) : (tupleText ts).length ≤ 3 + piled ts := by
  unfold tupleText
  rw [strLen_append, strLen_append]
  have h := join_le ts
  have e1 : (("(" : String) : Str).length = 1 := rfl
  have e2 : (Str.ofString (if ts.length == 1 then ",)" else ")" : String)).length ≤ 2 := by split <;> decide
  rw [e1]
  omega
mutual
theorem shown_le : ∀ d : PyData, tame d = true → d.shown.length ≤ costD d ∧ d.showable = true ∧ d.hasDict = false
  | .none, _ => ⟨by decide, by simp only [PyData.showable], by simp only [PyData.hasDict]⟩
  | .bool b, _ => ⟨by cases b <;> decide, by simp only [PyData.showable], by simp only [PyData.hasDict]⟩
  | .int i, h => by
    unfold tame at h
    have h' : i.natAbs < 10 ^ 38 := of_decide_eq_true h
    refine ⟨?_, ?_, by simp only [PyData.hasDict]⟩
    · have e := int_text_length_le10 (k := 38) (by decide) h'
      show (Str.ofString (toString i)).length ≤ 42
      rw [PySem.ofString_length]
      omega
    · unfold PyData.showable
      refine decide_eq_true ?_
      by_cases h0 : i.natAbs = 0
      · rw [h0]
        decide
      · have h3 : (10 : Nat) ^ 38 ≤ 2 ^ 1920 := by decide +kernel
        exact (Nat.log2_lt h0).mpr (by omega)
  | .str x, _ => ⟨by unfold PyData.shown costD; exact Nat.le_refl _, by simp only [PyData.showable], by simp only [PyData.hasDict]⟩
  | .list xs, h => by
    unfold tame at h
    obtain ⟨h1, h2, h3⟩ := shownL_le xs h
    refine ⟨?_, by unfold PyData.showable; exact h2, by unfold PyData.hasDict; exact h3⟩
    unfold PyData.shown costD
    have := listText_le (PyData.shownAll xs)
    omega
  | .tuple xs, h => by
    unfold tame at h
    obtain ⟨h1, h2, h3⟩ := shownL_le xs h
    refine ⟨?_, by unfold PyData.showable; exact h2, by unfold PyData.hasDict; exact h3⟩
    unfold PyData.shown costD
    have := tupleText_le (PyData.shownAll xs)
    omega
  | .dict _, h => by
    unfold tame at h
    exact nomatch h
theorem shownL_le : ∀ xs : List PyData, tameL xs = true → piled (PyData.shownAll xs) ≤ costL xs ∧ PyData.showableAll xs = true ∧ PyData.hasDictAll xs = false
  | [], _ => ⟨Nat.zero_le _, by unfold PyData.showableAll; rfl, by unfold PyData.hasDictAll; rfl⟩
  | x :: xs, h => by
    unfold tameL at h
    obtain ⟨a, b⟩ := Bool.and_eq_true_iff.mp h
    obtain ⟨h1, h2, h3⟩ := shown_le x a
    obtain ⟨g1, g2, g3⟩ := shownL_le xs b
    refine ⟨?_, ?_, ?_⟩
    · unfold PyData.shownAll costL
      rw [piled_cons]
      omega
    · unfold PyData.showableAll
      rw [h2, g2]
      rfl
    · unfold PyData.hasDictAll
      rw [h3, g3]
      rfl
end
theorem a_rep {K : PySem.W.Frag} {H : Hp} {Q : VK} {a : Addr} {d : PyData} (h : Dp K H (.ref a) d) (ht : tame d = true) (hc : costD d ≤ 1000000) (hd : d.depth ≤ 20) (q : Q (.str d.shown) H) : rRep K [.ref a] H Q := by
  obtain ⟨h1, h2, h3⟩ := shown_le d ht
  exact ⟨a, d, rfl, h, h2, h3, hd, sz (by omega), q⟩
theorem costL_ints : ∀ l : List Int, costL (dInts l) = 44 * l.length
  | [] => rfl
  | i :: l => by
    unfold dInts
    rw [List.map_cons]
    unfold costL costD
    have e := costL_ints l
    unfold dInts at e
    rw [e, List.length_cons]
    omega
theorem tameL_ints {lo hi : Int} (h1 : -1000000000000 ≤ lo) (h2 : hi ≤ 1000000000000) : ∀ l : List Int, In lo hi l → tameL (dInts l) = true
  | [], _ => rfl
  | i :: l, h => by
    unfold dInts
    rw [List.map_cons]
    unfold tameL tame
    have e := tameL_ints h1 h2 l fun x hx => h x (List.mem_cons_of_mem _ hx)
    unfold dInts at e
    have b := h i List.mem_cons_self
    have b2 : i.natAbs < 10 ^ 38 := by
      have z : (10 : Nat) ^ 38 = 100000000000000000000000000000000000000 := by decide +kernel
      omega
    rw [e, decide_eq_true b2]
    rfl
mutual
theorem eqv_self : ∀ d : PyData, d.hasDict = false → PyData.eqv d d = true
  | .none, _ => by unfold PyData.eqv; rfl
  | .bool b, _ => by unfold PyData.eqv; exact beq_self_eq_true b
  | .int i, _ => by unfold PyData.eqv; exact beq_self_eq_true i
  | .str x, _ => by unfold PyData.eqv; exact beq_self_eq_true x
  | .list xs, h => by
    unfold PyData.eqv
    exact eqvL_self xs (by unfold PyData.hasDict at h; exact h)
  | .tuple xs, h => by
    unfold PyData.eqv
    exact eqvL_self xs (by unfold PyData.hasDict at h; exact h)
  | .dict _, h => by
    unfold PyData.hasDict at h
    exact nomatch h
theorem eqvL_self : ∀ xs : List PyData, PyData.hasDictAll xs = false → PyData.eqvAll xs xs = true
  | [], _ => by unfold PyData.eqvAll; rfl
  | x :: xs, h => by
    unfold PyData.hasDictAll at h
    obtain ⟨a, b⟩ := Bool.or_eq_false_iff.mp h
    unfold PyData.eqvAll
    rw [eqv_self x a, eqvL_self xs b]
    rfl
end
mutual
def flatTo : Nat → PyData → Bool
  | _, .none => true
  | _, .bool _ => true
  | _, .int _ => true
  | n + 1, .list xs => flatToL n xs
  | n + 1, .tuple xs => flatToL n xs
  | _, _ => false
def flatToL : Nat → List PyData → Bool
  | _, [] => true
  | n, x :: xs => flatTo n x && flatToL n xs
end
mutual
theorem flat_ok : ∀ (n : Nat) (d : PyData), flatTo n d = true → d.canLay0 = true ∧ d.depth ≤ n ∧ d.hasDict = false
  | _, .none, _ => ⟨by unfold PyData.canLay0; rfl, by unfold PyData.depth; omega, by unfold PyData.hasDict; rfl⟩
  | _, .bool _, _ => ⟨by unfold PyData.canLay0; rfl, by unfold PyData.depth; omega, by unfold PyData.hasDict; rfl⟩
  | _, .int _, _ => ⟨by unfold PyData.canLay0; rfl, by unfold PyData.depth; omega, by unfold PyData.hasDict; rfl⟩
  | n + 1, .list xs, h => by
    unfold flatTo at h
    obtain ⟨a, b, c⟩ := flatL_ok n xs h
    exact ⟨by unfold PyData.canLay0; exact a, by unfold PyData.depth; omega, by unfold PyData.hasDict; exact c⟩
  | n + 1, .tuple xs, h => by
    unfold flatTo at h
    obtain ⟨a, b, c⟩ := flatL_ok n xs h
    exact ⟨by unfold PyData.canLay0; exact a, by unfold PyData.depth; omega, by unfold PyData.hasDict; exact c⟩
  | 0, .list _, h => by unfold flatTo at h; exact nomatch h
  | 0, .tuple _, h => by unfold flatTo at h; exact nomatch h
  | _, .str _, h => by unfold flatTo at h; exact nomatch h
  | _, .dict _, h => by unfold flatTo at h; exact nomatch h
theorem flatL_ok : ∀ (n : Nat) (xs : List PyData), flatToL n xs = true → PyData.canLayAll0 xs = true ∧ PyData.depthAll xs ≤ n ∧ PyData.hasDictAll xs = false
  | _, [], _ => ⟨by unfold PyData.canLayAll0; rfl, by unfold PyData.depthAll; omega, by unfold PyData.hasDictAll; rfl⟩
  | n, x :: xs, h => by
    unfold flatToL at h
    obtain ⟨a, b⟩ := Bool.and_eq_true_iff.mp h
    obtain ⟨h1, h2, h3⟩ := flat_ok n x a
    obtain ⟨g1, g2, g3⟩ := flatL_ok n xs b
    refine ⟨by unfold PyData.canLayAll0; rw [h1, g1]; rfl, by unfold PyData.depthAll; exact Nat.max_le.mpr ⟨h2, g2⟩, by unfold PyData.hasDictAll; rw [h3, g3]; rfl⟩
end
theorem shaped_flat {n : Nat} {d : PyData} (h : flatTo n d = true) (hn : n ≤ 64) : SeqAt.shaped d = true := by
  obtain ⟨a, b, _⟩ := flat_ok n d h
  unfold SeqAt.shaped
  rw [a, decide_eq_true (by omega)]
  rfl
theorem flatL_ints (n : Nat) : ∀ l : List Int, flatToL n (dInts l) = true
  | [] => by unfold dInts; rw [List.map_nil]; unfold flatToL; rfl
  | i :: l => by
    unfold dInts
    rw [List.map_cons]
    unfold flatToL
    have e := flatL_ints n l
    unfold dInts at e
    rw [e]
    cases n <;> (unfold flatTo; rfl)
theorem depthL_ints : ∀ l : List Int, PyData.depthAll (dInts l) = 0
  | [] => by unfold dInts; rw [List.map_nil]; unfold PyData.depthAll; rfl
  | i :: l => by
    unfold dInts
    rw [List.map_cons]
    unfold PyData.depthAll
    have e := depthL_ints l
    unfold dInts at e
    rw [e]
    unfold PyData.depth
    rfl
theorem depth_ints (l : List Int) : PyData.depth (.list (dInts l)) = 1 := by
  unfold PyData.depth
  rw [depthL_ints]
end Lk

namespace Lk
/-! ### numbers modulo p -/
def C (p a b : Int) : Prop := a % p = b % p
theorem C.refl {p : Int} (a : Int) : C p a a := rfl
theorem C.symm {p a b : Int} (h : C p a b) : C p b a := Eq.symm h
theorem C.trans {p a b c : Int} (h : C p a b) (k : C p b c) : C p a c := Eq.trans h k
theorem C.of {p a b : Int} (h : a = b) : C p a b := by rw [h]; exact rfl
theorem C.add {p a b c d : Int} (h : C p a b) (k : C p c d) : C p (a + c) (b + d) := by
  unfold C at *
  rw [Int.add_emod, h, k, ← Int.add_emod]
theorem C.mul {p a b c d : Int} (h : C p a b) (k : C p c d) : C p (a * c) (b * d) := by
  unfold C at *
  rw [Int.mul_emod, h, k, ← Int.mul_emod]
theorem C.mod {p a : Int} : C p (a % p) a := Int.emod_emod_of_dvd a (Int.dvd_refl p)
theorem C.addp {p a n : Int} : C p (a + p * n) a := Int.add_mul_emod_self_left a p n
theorem C.eq {p a b : Int} (h : C p a b) (h0 : 0 ≤ b) (h1 : b < p) : a % p = b := by
  unfold C at h
  rw [h, Int.emod_eq_of_lt h0 h1]
/-! ### sums -/
def sumN (f : Nat → Int) : Nat → Int
  | 0 => 0
  | n + 1 => sumN f n + f n
theorem sumN_add (f g : Nat → Int) : ∀ n, sumN (fun i => f i + g i) n = sumN f n + sumN g n
  | 0 => rfl
  | n + 1 => by
    show sumN _ n + (f n + g n) = (sumN f n + f n) + (sumN g n + g n)
    rw [sumN_add f g n]
    omega
theorem sumN_mul (s : Int) (f : Nat → Int) : ∀ n, sumN (fun i => s * f i) n = s * sumN f n
  | 0 => by simp [sumN]
  | n + 1 => by
    show sumN _ n + s * f n = s * (sumN f n + f n)
    rw [sumN_mul s f n, Int.mul_add]
theorem sumN_zero : ∀ n, sumN (fun _ => 0) n = 0
  | 0 => rfl
  | n + 1 => by
    show sumN _ n + 0 = 0
    rw [sumN_zero n]
    rfl
theorem sumN_C {p : Int} {f g : Nat → Int} : ∀ n, (∀ i, i < n → C p (f i) (g i)) → C p (sumN f n) (sumN g n)
  | 0, _ => rfl
  | n + 1, h => C.add (sumN_C n fun i hi => h i (by omega)) (h n (by omega))
theorem sumN_congr {f g : Nat → Int} : ∀ n, (∀ i, i < n → f i = g i) → sumN f n = sumN g n
  | 0, _ => rfl
  | n + 1, h => by
    show sumN f n + f n = sumN g n + g n
    rw [sumN_congr n fun i hi => h i (by omega), h n (by omega)]
/-- one place alone -/
theorem sumN_at (F : Nat → Int) (x : Nat) : ∀ n, sumN (fun k => if x = k then F k else 0) n = if x < n then F x else 0
  | 0 => by simp [sumN]
  | n + 1 => by
    show sumN _ n + (if x = n then F n else 0) = _
    rw [sumN_at F x n]
    by_cases h : x = n
    · subst h
      rw [if_neg (Nat.lt_irrefl _), if_pos rfl, if_pos (Nat.lt_succ_self _)]
      omega
    · rw [if_neg h]
      by_cases h2 : x < n
      · rw [if_pos h2, if_pos (by omega)]
        omega
      · rw [if_neg h2, if_neg (by omega)]
        rfl
def dot : List Int → List Int → Int
  | a :: r, b :: s => a * b + dot r s
  | _, _ => 0
theorem dot_app : ∀ (a b c d : List Int), a.length = c.length → dot (a ++ b) (c ++ d) = dot a c + dot b d
  | [], b, [], d, _ => by
    show dot b d = 0 + dot b d
    omega
  | x :: a, b, y :: c, d, h => by
    show x * y + dot (a ++ b) (c ++ d) = (x * y + dot a c) + dot b d
    rw [dot_app a b c d (by simpa using h)]
    omega
  | [], _, _ :: _, _, h => by simp at h
  | _ :: _, _, [], _, h => by simp at h
theorem dot_map {p m : Int} : ∀ (a c : List Int), C p (dot (a.map fun e => e * m % p) c) (m * dot a c)
  | [], c => by
    show C p 0 (m * 0)
    rw [Int.mul_zero]
    exact rfl
  | x :: a, [] => by
    show C p 0 (m * 0)
    rw [Int.mul_zero]
    exact rfl
  | x :: a, y :: c => by
    show C p (x * m % p * y + dot (a.map fun e => e * m % p) c) (m * (x * y + dot a c))
    refine (C.add (C.mul C.mod (C.refl y)) (dot_map a c)).trans (C.of ?_)
    grind
theorem dot_C {p : Int} : ∀ (a b c : List Int), b.length = c.length → (∀ (i : Nat) (x y : Int), b[i]? = some x → c[i]? = some y → C p x y) → C p (dot a b) (dot a c)
  | [], _, _, _, _ => rfl
  | _ :: _, [], [], _, _ => rfl
  | x :: a, y :: b, z :: c, hl, h => C.add (C.mul (C.refl x) (h 0 y z rfl rfl)) (dot_C a b c (by simpa using hl) fun i u v e1 e2 => h (i + 1) u v e1 e2)
  | _ :: _, [], _ :: _, hl, _ => by simp at hl
  | _ :: _, _ :: _, [], hl, _ => by simp at hl
/-! ### folding a table -/
def foStep (p : Int) (t : List Int) (n : Int) : List Int := (List.range (t.length / 2)).map fun (k : Nat) => (t.getD (2 * (k : Int)).toNat 0 * (1 + p - n) + t.getD (2 * (k : Int) + 1).toNat 0 * n) % p
def ptStep (p : Int) (table : List Int) (number : Int) : List Int := table.map (fun e => e * (1 - number) % p) ++ table.map (fun e => e * number % p)
def ptM (p : Int) (pt : List Int) : List Int := pt.foldl (ptStep p) [1]
def foM (p : Int) (t pt : List Int) : Int := (pt.foldl (foStep p) t).getD 0 0
theorem foStep_len {p n : Int} {t : List Int} : (foStep p t n).length = t.length / 2 := by simp [foStep]
theorem getD_app_lt {a b : List Int} {i : Nat} (h : i < a.length) : (a ++ b).getD i 0 = a.getD i 0 := by
  rw [List.getD_eq_getElem?_getD, List.getD_eq_getElem?_getD, List.getElem?_append_left h]
theorem getD_app_ge {a b : List Int} {i : Nat} (h : a.length ≤ i) : (a ++ b).getD i 0 = b.getD (i - a.length) 0 := by
  rw [List.getD_eq_getElem?_getD, List.getD_eq_getElem?_getD, List.getElem?_append_right h]
theorem foStep_app {p n : Int} {a b : List Int} {m : Nat} (h : a.length = 2 * m) : foStep p (a ++ b) n = foStep p a n ++ foStep p b n := by
  refine List.ext_getElem? fun i => ?_
  have l1 : (foStep p a n).length = m := by rw [foStep_len, h]; omega
  by_cases hi : i < m
  · rw [List.getElem?_append_left (by omega)]
    unfold foStep
    rw [List.getElem?_map, List.getElem?_map, List.getElem?_range (by rw [List.length_append]; omega), List.getElem?_range (by omega)]
    simp only [Option.map_some]
    rw [getD_app_lt (by omega), getD_app_lt (by omega)]
  · rw [List.getElem?_append_right (by omega), l1]
    unfold foStep
    rw [List.getElem?_map, List.getElem?_map]
    by_cases h2 : i < (a ++ b).length / 2
    · have h3 : i - m < b.length / 2 := by rw [List.length_append] at h2; omega
      rw [List.getElem?_range h2, List.getElem?_range h3]
      simp only [Option.map_some]
      rw [getD_app_ge (by omega), getD_app_ge (by omega)]
      have e1 : (2 * (i : Int)).toNat - a.length = (2 * ((i - m : Nat) : Int)).toNat := by omega
      have e2 : (2 * (i : Int) + 1).toNat - a.length = (2 * ((i - m : Nat) : Int) + 1).toNat := by omega
      rw [e1, e2]
    · have h3 : ¬ i - m < b.length / 2 := by rw [List.length_append] at h2; omega
      rw [List.getElem?_eq_none (by rw [List.length_range]; omega), List.getElem?_eq_none (by rw [List.length_range]; omega)]
      rfl
/-- foldings from the right end -/
def foR (p : Int) (l t : List Int) : List Int := l.foldr (fun n t => foStep p t n) t
def ptR (p : Int) (l : List Int) : List Int := l.foldr (fun n t => ptStep p t n) [1]
theorem foR_app {p : Int} : ∀ (l : List Int) (m : Nat) (a b : List Int), a.length = 2 ^ l.length * m → foR p l (a ++ b) = foR p l a ++ foR p l b ∧ (foR p l a).length = m
  | [], m, a, b, h => ⟨rfl, show a.length = m by simpa using h⟩
  | n :: l, m, a, b, h => by
    have hl : a.length = 2 ^ l.length * (2 * m) := by rw [h, List.length_cons, Nat.pow_succ, Nat.mul_assoc]
    obtain ⟨e1, e2⟩ := foR_app l (2 * m) a b hl
    refine ⟨?_, ?_⟩
    · show foStep p (foR p l (a ++ b)) n = foStep p (foR p l a) n ++ foStep p (foR p l b) n
      rw [e1, foStep_app e2]
    · show (foStep p (foR p l a) n).length = m
      rw [foStep_len, e2]
      omega
theorem ptR_len {p : Int} : ∀ l : List Int, (ptR p l).length = 2 ^ l.length
  | [] => rfl
  | n :: l => by
    show (ptStep p (ptR p l) n).length = _
    unfold ptStep
    rw [List.length_append, List.length_map, List.length_map, ptR_len l, List.length_cons, Nat.pow_succ]
    omega
theorem foR_dot {p : Int} : ∀ (l t : List Int), t.length = 2 ^ l.length → ∃ f, foR p l t = [f] ∧ C p f (dot (ptR p l) t)
  | [], t, h => by
    obtain ⟨x, rfl⟩ : ∃ x, t = [x] := List.length_eq_one_iff.mp (by simpa using h)
    refine ⟨x, rfl, C.of ?_⟩
    show x = 1 * x + 0
    omega
  | n :: l, t, h => by
    have hp : t.length = 2 ^ l.length + 2 ^ l.length := by rw [h, List.length_cons, Nat.pow_succ]; omega
    obtain ⟨f1, e1, c1⟩ := foR_dot (p := p) l (t.take (2 ^ l.length)) (by rw [List.length_take]; omega)
    obtain ⟨f2, e2, c2⟩ := foR_dot (p := p) l (t.drop (2 ^ l.length)) (by rw [List.length_drop]; omega)
    have hsp := (foR_app (p := p) l 1 (t.take (2 ^ l.length)) (t.drop (2 ^ l.length)) (by rw [List.length_take]; omega)).1
    rw [List.take_append_drop, e1, e2] at hsp
    refine ⟨(f1 * (1 + p - n) + f2 * n) % p, ?_, ?_⟩
    · show foStep p (foR p l t) n = _
      rw [hsp]
      unfold foStep
      simp [List.range_succ]
    · show C p _ (dot (ptStep p (ptR p l) n) t)
      have e3 : dot (ptStep p (ptR p l) n) t = dot ((ptR p l).map fun e => e * (1 - n) % p) (t.take (2 ^ l.length)) + dot ((ptR p l).map fun e => e * n % p) (t.drop (2 ^ l.length)) := by
        conv => lhs; rw [← List.take_append_drop (2 ^ l.length) t]
        exact dot_app _ _ _ _ (by rw [List.length_map, ptR_len, List.length_take]; omega)
      rw [e3]
      refine C.mod.trans (C.trans ?_ (C.add (dot_map _ _) (dot_map _ _)).symm)
      refine C.trans (C.add (C.mul c1 (C.refl _)) (C.mul c2 (C.refl _))) ?_
      refine C.trans (b := (1 - n) * dot (ptR p l) (t.take (2 ^ l.length)) + n * dot (ptR p l) (t.drop (2 ^ l.length)) + p * dot (ptR p l) (t.take (2 ^ l.length))) (C.of ?_) C.addp
      grind
theorem foM_dot {p : Int} (t pt : List Int) (h : t.length = 2 ^ pt.length) : ∃ f, foM p t pt = f ∧ pt.foldl (foStep p) t = [f] ∧ C p f (dot (ptM p pt) t) := by
  obtain ⟨f, e, c⟩ := foR_dot (p := p) pt.reverse t (by rw [List.length_reverse]; exact h)
  have e1 : foR p pt.reverse t = pt.foldl (foStep p) t := by unfold foR; rw [List.foldr_reverse]
  have e2 : ptR p pt.reverse = ptM p pt := by unfold ptR ptM; rw [List.foldr_reverse]
  rw [e1] at e
  rw [e2] at c
  refine ⟨f, ?_, e, c⟩
  unfold foM
  rw [e]
  rfl
/-! ### corners -/
def coM (k : Int) (bits : Nat) : List Int := (List.range bits).map fun (j : Nat) => k / (1 * 2 ^ ((j : Int)).toNat) % 2
theorem coM_succ (k : Int) (b : Nat) : coM k (b + 1) = coM k b ++ [k / (1 * 2 ^ ((b : Int)).toNat) % 2] := by
  unfold coM
  rw [List.range_succ, List.map_append]
  rfl
def ind (n k : Nat) : List Int := (List.range n).map fun i => if i = k then 1 else 0
theorem ind_get {n k i : Nat} : (ind n k).getD i 0 = if i < n ∧ i = k then 1 else 0 := by
  unfold ind
  rw [List.getD_eq_getElem?_getD, List.getElem?_map]
  by_cases h : i < n
  · rw [List.getElem?_range h]
    show (if i = k then (1 : Int) else 0) = _
    by_cases h2 : i = k
    · rw [if_pos h2, if_pos ⟨h, h2⟩]
    · rw [if_neg h2, if_neg (fun z => h2 z.2)]
  · rw [List.getElem?_eq_none (by rw [List.length_range]; omega), if_neg (fun z => h z.1)]
    rfl
theorem bit_of (k b : Nat) : ((k : Nat) : Int) / (1 * 2 ^ ((b : Int)).toNat) % 2 = ((k / 2 ^ b % 2 : Nat) : Int) := by
  rw [Int.toNat_natCast, Int.one_mul]
  have : (2 : Int) ^ b = ((2 ^ b : Nat) : Int) := by rw [Int.natCast_pow]; rfl
  rw [this]
  omega
theorem ptM_corner {p : Int} (hp : 2 ≤ p) (k : Nat) : ∀ b, ptM p (coM (k : Int) b) = ind (2 ^ b) (k % 2 ^ b)
  | 0 => by
    have : k % 2 ^ 0 = 0 := by rw [Nat.pow_zero]; omega
    rw [this]
    rfl
  | b + 1 => by
    have e : ptM p (coM (k : Int) (b + 1)) = ptStep p (ptM p (coM (k : Int) b)) (k / (1 * 2 ^ ((b : Int)).toNat) % 2) := by
      unfold ptM
      rw [coM_succ, List.foldl_append]
      rfl
    rw [e, ptM_corner hp k b, bit_of]
    have hk : k % 2 ^ (b + 1) = k % 2 ^ b + 2 ^ b * (k / 2 ^ b % 2) := by rw [Nat.pow_succ, Nat.mod_mul]
    have hb : 0 < 2 ^ b := Nat.pow_pos (by decide)
    have hlt : k % 2 ^ b < 2 ^ b := Nat.mod_lt _ hb
    have h1 : (1 : Int) % p = 1 := Int.emod_eq_of_lt (by decide) (by omega)
    refine List.ext_getElem? fun i => ?_
    unfold ptStep ind
    rw [hk]
    have hbit : k / 2 ^ b % 2 = 0 ∨ k / 2 ^ b % 2 = 1 := by omega
    by_cases hi : i < 2 ^ b
    · rw [List.getElem?_append_left (by simp; omega), List.getElem?_map, List.getElem?_map, List.getElem?_map, List.getElem?_range hi, List.getElem?_range (by rw [Nat.pow_succ]; omega)]
      simp only [Option.map_some]
      rcases hbit with h | h
      · rw [h]
        by_cases h2 : i = k % 2 ^ b
        · rw [if_pos h2, if_pos (by omega)]
          simp [h1]
        · rw [if_neg h2, if_neg (by omega)]
          simp
      · rw [h, if_neg (show ¬ i = k % 2 ^ b + 2 ^ b * 1 by omega)]
        simp
    · by_cases hi2 : i < 2 ^ (b + 1)
      · have hi3 : i - 2 ^ b < 2 ^ b := by rw [Nat.pow_succ] at hi2; omega
        rw [List.getElem?_append_right (by simp; omega), List.length_map, List.length_map, List.length_range, List.getElem?_map, List.getElem?_map, List.getElem?_map, List.getElem?_range hi3, List.getElem?_range hi2]
        simp only [Option.map_some]
        rcases hbit with h | h
        · rw [h]
          rw [if_neg (show ¬ i = k % 2 ^ b + 2 ^ b * 0 by omega)]
          simp
        · rw [h]
          by_cases h2 : i - 2 ^ b = k % 2 ^ b
          · rw [if_pos h2, if_pos (by omega)]
            simp [h1]
          · rw [if_neg h2, if_neg (by omega)]
            simp
      · rw [List.getElem?_eq_none (by simp; rw [Nat.pow_succ] at hi2; omega), List.getElem?_eq_none (by simp; omega)]
/-! ### gates -/
inductive Gate where
  | mul (c x y : Int)
  | lin (a x b y : Int)
def okG (p n : Int) : Gate → Prop
  | .mul c x y => (0 ≤ c ∧ c < p) ∧ (0 ≤ x ∧ x < n) ∧ (0 ≤ y ∧ y < n)
  | .lin a x b y => (0 ≤ a ∧ a < p) ∧ (0 ≤ x ∧ x < n) ∧ (0 ≤ b ∧ b < p) ∧ (0 ≤ y ∧ y < n)
def wbStep (p : Int) (lx ly : List Int) (r : Int × Int × Int) (s : Int × Gate) : Int × Int × Int := match s.2 with
  | .lin a x b y => ((r.1 + a * (s.1 * lx.getD x.toNat 0 % p * ly.getD y.toNat 0 % p)) % p, (r.2.1 + b * (s.1 * lx.getD x.toNat 0 % p * ly.getD y.toNat 0 % p)) % p, r.2.2)
  | .mul c x y => (r.1, r.2.1, (r.2.2 + c * s.1 * lx.getD x.toNat 0 % p * ly.getD y.toNat 0) % p)
def wbM (p : Int) (gs : List Gate) (lg lx ly : List Int) : Int × Int × Int := (lg.zip gs).foldl (wbStep p lx ly) (0, 0, 0)
/-! ### nearness of a corner, number by number -/
def facM (p : Int) (pt : List Int) (corner : Int) (k : Nat) : Int := if corner / (1 * 2 ^ ((k : Int)).toNat) % 2 = 1 then pt.getD ((k : Int)).toNat 0 else 1 + p - pt.getD ((k : Int)).toNat 0
def prodM (p : Int) (pt : List Int) (corner : Int) (m : Nat) : Int := (List.range m).foldl (fun acc k => acc * facM p pt corner k) 1
def nearM (p : Int) (pt : List Int) (corner : Int) : Int := prodM p pt corner pt.length % p
theorem prodM_succ {p corner : Int} {pt : List Int} {m : Nat} : prodM p pt corner (m + 1) = prodM p pt corner m * facM p pt corner m := by
  unfold prodM
  rw [List.range_succ, List.foldl_append]
  rfl
theorem ptM_succ {p : Int} {pt : List Int} {m : Nat} (h : m < pt.length) : ptM p (pt.take (m + 1)) = ptStep p (ptM p (pt.take m)) (pt.getD m 0) := by
  unfold ptM
  rw [List.take_add_one, List.getElem?_eq_getElem h, List.getD_eq_getElem?_getD, List.getElem?_eq_getElem h, List.foldl_append]
  rfl
theorem ptM_len' {p : Int} : ∀ (m : Nat) (pt : List Int), m ≤ pt.length → (ptM p (pt.take m)).length = 2 ^ m
  | 0, pt, _ => by rw [List.take_zero]; rfl
  | m + 1, pt, h => by
    rw [ptM_succ (by omega)]
    unfold ptStep
    rw [List.length_append, List.length_map, List.length_map, ptM_len' m pt (by omega), Nat.pow_succ]
    omega
theorem getD_map_lt {f : Int → Int} {l : List Int} {i : Nat} (h : i < l.length) : (l.map f).getD i 0 = f (l.getD i 0) := by
  rw [List.getD_eq_getElem?_getD, List.getD_eq_getElem?_getD, List.getElem?_map, List.getElem?_eq_getElem h]
  rfl
theorem prodM_C {p : Int} {pt : List Int} (i : Nat) : ∀ m, m ≤ pt.length → C p (prodM p pt (i : Int) m) ((ptM p (pt.take m)).getD (i % 2 ^ m) 0)
  | 0, _ => by
    have : i % 2 ^ 0 = 0 := by rw [Nat.pow_zero]; omega
    rw [this, List.take_zero]
    exact rfl
  | m + 1, h => by
    have ih := prodM_C (p := p) (pt := pt) i m (by omega)
    have hl := ptM_len' (p := p) m pt (by omega)
    have hb : 0 < 2 ^ m := Nat.pow_pos (by decide)
    have hlt : i % 2 ^ m < 2 ^ m := Nat.mod_lt _ hb
    rw [prodM_succ, ptM_succ (by omega)]
    have hk : i % 2 ^ (m + 1) = i % 2 ^ m + 2 ^ m * (i / 2 ^ m % 2) := by rw [Nat.pow_succ, Nat.mod_mul]
    have hbit : i / 2 ^ m % 2 = 0 ∨ i / 2 ^ m % 2 = 1 := by omega
    unfold facM ptStep
    rw [bit_of, Int.toNat_natCast]
    generalize pt.getD m 0 = n at *
    rcases hbit with h0 | h0
    · rw [hk, h0, getD_app_lt (by rw [List.length_map]; omega), getD_map_lt (by omega), if_neg (by decide)]
      simp only [Nat.mul_zero, Nat.add_zero]
      refine C.trans ?_ C.mod.symm
      refine C.trans (b := prodM p pt (i : Int) m * (1 - n) + p * prodM p pt (i : Int) m) (C.of (by grind)) (C.addp.trans (C.mul ih (C.refl _)))
    · rw [hk, h0, getD_app_ge (by rw [List.length_map]; omega), List.length_map, hl, if_pos (by decide)]
      have e : i % 2 ^ m + 2 ^ m * 1 - 2 ^ m = i % 2 ^ m := by omega
      rw [e, getD_map_lt (by omega)]
      exact (C.mul ih (C.refl _)).trans C.mod.symm
theorem ptM_lt {p : Int} (hp : 2 ≤ p) : ∀ (m : Nat) (pt : List Int), m ≤ pt.length → In 0 p (ptM p (pt.take m))
  | 0, pt, _ => fun e he => by
    rw [List.take_zero] at he
    have : e = 1 := List.mem_singleton.mp he
    omega
  | m + 1, pt, h => fun e he => by
    rw [ptM_succ (by omega)] at he
    unfold ptStep at he
    rcases List.mem_append.mp he with h1 | h1 <;> (obtain ⟨x, _, rfl⟩ := List.mem_map.mp h1; exact ⟨Int.emod_nonneg _ (by omega), Int.emod_lt_of_pos _ (by omega)⟩)
theorem nearM_eq {p : Int} (hp : 2 ≤ p) {pt : List Int} {i : Nat} (h : i < 2 ^ pt.length) : nearM p pt (i : Int) = (ptM p pt).getD i 0 := by
  have c := prodM_C (p := p) (pt := pt) i pt.length (Nat.le_refl _)
  have hin := ptM_lt hp pt.length pt (Nat.le_refl _)
  have hl := ptM_len' (p := p) pt.length pt (Nat.le_refl _)
  rw [List.take_length, Nat.mod_eq_of_lt h] at c
  rw [List.take_length] at hin hl
  have hi := hin ((ptM p pt).getD i 0) (by
    rw [List.getD_eq_getElem?_getD, List.getElem?_eq_getElem (by omega)]
    exact List.getElem_mem _)
  exact C.eq c hi.1 hi.2
def nearL (p : Int) (pt : List Int) : List Int := (List.range (2 ^ pt.length)).map fun (k : Nat) => nearM p pt (k : Int)
theorem nearL_eq {p : Int} (hp : 2 ≤ p) {pt : List Int} : nearL p pt = ptM p pt := by
  have hl := ptM_len' (p := p) pt.length pt (Nat.le_refl _)
  rw [List.take_length] at hl
  refine List.ext_getElem? fun i => ?_
  unfold nearL
  rw [List.getElem?_map]
  by_cases h : i < 2 ^ pt.length
  · rw [List.getElem?_range h, List.getElem?_eq_getElem (by omega)]
    simp only [Option.map_some]
    rw [nearM_eq hp h, List.getD_eq_getElem?_getD, List.getElem?_eq_getElem (by omega)]
    rfl
  · rw [List.getElem?_eq_none (by rw [List.length_range]; omega), List.getElem?_eq_none (by omega)]
    rfl
/-! ### the due weights -/
def clM (p : Int) (p0 p1 p2 : List Int) (col : Nat) (x y : Int) : Int := nearM p p0 (col : Int) * nearM p p1 x * nearM p p2 y
def dueStep (p : Int) (p0 p1 p2 : List Int) (r : Int × Int × Int) (col : Nat) : Gate → Int × Int × Int
  | .lin a x b y => (r.1 + a * clM p p0 p1 p2 col x y, r.2.1 + b * clM p p0 p1 p2 col x y, r.2.2)
  | .mul c x y => (r.1, r.2.1, r.2.2 + c * clM p p0 p1 p2 col x y)
def dueF (p : Int) (gs : List Gate) (p0 p1 p2 : List Int) : Nat → Int × Int × Int
  | 0 => (0, 0, 0)
  | i + 1 => match gs[i]? with
    | some g => dueStep p p0 p1 p2 (dueF p gs p0 p1 p2 i) i g
    | none => dueF p gs p0 p1 p2 i
theorem dueF_succ {p : Int} {gs : List Gate} {p0 p1 p2 : List Int} {i : Nat} {g : Gate} (h : gs[i]? = some g) : dueF p gs p0 p1 p2 (i + 1) = dueStep p p0 p1 p2 (dueF p gs p0 p1 p2 i) i g := by
  show (match gs[i]? with | some g => _ | none => _) = _
  rw [h]
def CC (p : Int) (r s : Int × Int × Int) : Prop := C p r.1 s.1 ∧ C p r.2.1 s.2.1 ∧ C p r.2.2 s.2.2
def InT (p : Int) (r : Int × Int × Int) : Prop := (0 ≤ r.1 ∧ r.1 < p) ∧ (0 ≤ r.2.1 ∧ r.2.1 < p) ∧ (0 ≤ r.2.2 ∧ r.2.2 < p)
theorem due_C {p : Int} (hp : 2 ≤ p) {gs : List Gate} {p0 p1 p2 : List Int} {n : Nat} (h0 : gs.length = 2 ^ p0.length) (h1 : 2 ^ p1.length = n) (h2 : 2 ^ p2.length = n) (hok : ∀ g ∈ gs, okG p (n : Int) g) : ∀ i, i ≤ gs.length →
    CC p ((((ptM p p0).zip gs).take i).foldl (wbStep p (ptM p p1) (ptM p p2)) (0, 0, 0)) (dueF p gs p0 p1 p2 i) ∧ InT p ((((ptM p p0).zip gs).take i).foldl (wbStep p (ptM p p1) (ptM p p2)) (0, 0, 0))
  | 0, _ => ⟨⟨rfl, rfl, rfl⟩, ⟨show (0 : Int) ≤ 0 by omega, show (0 : Int) < p by omega⟩, ⟨show (0 : Int) ≤ 0 by omega, show (0 : Int) < p by omega⟩, show (0 : Int) ≤ 0 by omega, show (0 : Int) < p by omega⟩
  | i + 1, h => by
    obtain ⟨⟨c1, c2, c3⟩, b1, b2, b3⟩ := due_C hp h0 h1 h2 hok i (by omega)
    have hl0 := ptM_len' (p := p) p0.length p0 (Nat.le_refl _)
    rw [List.take_length] at hl0
    have eg : gs[i]? = some gs[i] := List.getElem?_eq_getElem (by omega)
    have en : (ptM p p0)[i]? = some ((ptM p p0).getD i 0) := by
      rw [List.getD_eq_getElem?_getD, List.getElem?_eq_getElem (by omega)]
      rfl
    have hz : ((ptM p p0).zip gs)[i]? = some ((ptM p p0).getD i 0, gs[i]) := by
      rw [List.getElem?_zip_eq_some]
      exact ⟨en, eg⟩
    have hst : (((ptM p p0).zip gs).take (i + 1)).foldl (wbStep p (ptM p p1) (ptM p p2)) (0, 0, 0) = wbStep p (ptM p p1) (ptM p p2) ((((ptM p p0).zip gs).take i).foldl (wbStep p (ptM p p1) (ptM p p2)) (0, 0, 0)) ((ptM p p0).getD i 0, gs[i]) := by
      rw [List.take_add_one, hz, List.foldl_append]
      rfl
    have hg := hok _ (List.getElem_mem (show i < gs.length by omega))
    rw [hst, dueF_succ eg]
    have hni := nearM_eq hp (pt := p0) (i := i) (by omega)
    generalize gs[i] = g at *
    generalize (((ptM p p0).zip gs).take i).foldl (wbStep p (ptM p p1) (ptM p p2)) (0, 0, 0) = r at *
    generalize dueF p gs p0 p1 p2 i = s at *
    have hm : ∀ z : Int, 0 ≤ z % p ∧ z % p < p := fun z => ⟨Int.emod_nonneg _ (by omega), Int.emod_lt_of_pos _ (by omega)⟩
    have nx : ∀ (q : List Int) (x : Int), 2 ^ q.length = n → 0 ≤ x → x < (n : Int) → nearM p q x = (ptM p q).getD x.toNat 0 := fun q x hq hx0 hx1 => by
      have := nearM_eq hp (pt := q) (i := x.toNat) (by omega)
      rw [← this, Int.toNat_of_nonneg hx0]
    cases g with
    | lin a x b y =>
      obtain ⟨_, hx, _, hy⟩ := hg
      have cl : C p ((ptM p p0).getD i 0 * (ptM p p1).getD x.toNat 0 % p * (ptM p p2).getD y.toNat 0 % p) (clM p p0 p1 p2 i x y) := by
        unfold clM
        rw [hni, nx p1 x h1 hx.1 hx.2, nx p2 y h2 hy.1 hy.2]
        exact C.mod.trans (C.mul C.mod (C.refl _))
      exact ⟨⟨C.mod.trans (C.add c1 (C.mul (C.refl _) cl)), C.mod.trans (C.add c2 (C.mul (C.refl _) cl)), c3⟩, hm _, hm _, b3⟩
    | mul c x y =>
      obtain ⟨_, hx, hy⟩ := hg
      have cl : C p (c * (ptM p p0).getD i 0 * (ptM p p1).getD x.toNat 0 % p * (ptM p p2).getD y.toNat 0) (c * clM p p0 p1 p2 i x y) := by
        unfold clM
        rw [hni, nx p1 x h1 hx.1 hx.2, nx p2 y h2 hy.1 hy.2]
        refine (C.mul C.mod (C.refl _)).trans (C.of ?_)
        grind
      exact ⟨⟨c1, c2, C.mod.trans (C.add c3 cl)⟩, b1, b2, hm _⟩
theorem due_eq {p : Int} (hp : 2 ≤ p) {gs : List Gate} {p0 p1 p2 : List Int} {n : Nat} (h0 : gs.length = 2 ^ p0.length) (h1 : 2 ^ p1.length = n) (h2 : 2 ^ p2.length = n) (hok : ∀ g ∈ gs, okG p (n : Int) g) :
    wbM p gs (ptM p p0) (ptM p p1) (ptM p p2) = ((dueF p gs p0 p1 p2 gs.length).1 % p, (dueF p gs p0 p1 p2 gs.length).2.1 % p, (dueF p gs p0 p1 p2 gs.length).2.2 % p) := by
  obtain ⟨⟨c1, c2, c3⟩, b1, b2, b3⟩ := due_C hp h0 h1 h2 hok gs.length (Nat.le_refl _)
  have hl0 := ptM_len' (p := p) p0.length p0 (Nat.le_refl _)
  rw [List.take_length] at hl0
  have e : ((ptM p p0).zip gs).take gs.length = (ptM p p0).zip gs := List.take_of_length_le (by rw [List.length_zip]; omega)
  rw [e] at c1 c2 c3 b1 b2 b3
  unfold wbM
  rw [C.eq c1.symm b1.1 b1.2, C.eq c2.symm b2.1 b2.2, C.eq c3.symm b3.1 b3.2]
end Lk

namespace Lk
open PySem PySem.Spec PyProof.Rows L2
local macro_rules | `(tactic| walk_at "side") => `(tactic| first | assumption | exact rfl | omega | (show _ ∧ _; omega) | (unfold CMul; omega) | (unfold CPow; omega) | (exact sql (by assumption)) | (exact sqt (by assumption)) | (exact cdw (by omega) (by omega)))
local macro_rules | `(tactic| walk_at "hs1") => `(tactic| first
  | (with_reducible refine a_seq ?_)
  | (with_reducible refine a_asg ?_)
  | (with_reducible refine a_gname ?_)
  | (with_reducible refine a_op ?_)
  | (with_reducible refine a_c ?_)
  | ((with_reducible refine' a_var ?h ?_); (case h => exact rfl))
  | (with_reducible refine a_i0 ?_)
  | ((with_reducible refine' a_iC ?h ?_); (case h => walk_at "side"))
  | (with_reducible refine a_un ?_)
  | (with_reducible refine a_u ?_)
  | (with_reducible refine a_ifS ?_)
  | (with_reducible refine a_test ?_)
  | (with_reducible refine a_tB ?_)
  | (with_reducible refine a_bl ?_)
  | (with_reducible refine a_eqI ?_)
  | (with_reducible refine a_neI ?_)
  | (with_reducible refine a_eqS ?_)
  | (with_reducible refine a_neS ?_)
  | (with_reducible refine a_eqB ?_)
  | (with_reducible refine a_neB ?_)
  | (with_reducible refine a_and ?_)
  | (with_reducible refine a_or ?_)
  | (with_reducible refine a_not ?_)
  | (with_reducible refine a_ifx ?_)
  | (with_reducible refine a_cons ?_)
  | (with_reducible refine a_nil ?_)
  | (with_reducible refine a_call ?_)
  | (with_reducible refine a_cb ?_)
  | (with_reducible refine a_int ?_)
  | (with_reducible refine a_ret ?_)
  | (with_reducible refine a_drop ?_)
  | (with_reducible refine a_next ?_)
  | (with_reducible refine a_for ?_)
  | (with_reducible refine a_iList ?_)
  | (with_reducible refine a_rng1 ?_)
  | (with_reducible refine a_zip ?_)
  | (with_reducible refine a_tup ?_)
  | (with_reducible refine a_lst ?_)
  | (with_reducible refine a_gsub ?_)
  | (with_reducible refine a_gcons ?_)
  | (with_reducible refine a_gnil ?_)
  | ((with_reducible refine' a_aug ?h ?_); (case h => exact rfl))
  | (with_reducible refine a_ip ?_)
  | ((with_reducible refine' a_ixL ?h ?e ?_); (case h => walk_at "side"); (case e => first | exact rfl | exact at0 | exact at_int (by omega) (by omega)))
  | ((with_reducible refine' a_len ?h ?_); (case h => walk_at "side"))
  | (with_reducible refine a_bm ?_)
  | ((with_reducible refine' a_exrng ?h ?h2 ?_); (case h => omega); (case h2 => omega))
  | (with_reducible refine a_abs ?_)
  | ((with_reducible refine' a_tyL ?h ?_); (case h => walk_at "side"))
  | ((with_reducible refine' a_ixT ?h ?e ?_); (case h => walk_at "side"); (case e => exact rfl)))
local macro_rules | `(tactic| walk_at "hs") => `(tactic| repeat walk_at "hs1")

/-! ### the text -/
def topS (i : Nat) : Stmt := PySem.Challenge.pw_layerask_k51_weights_of_a_layer.main.body.getD i (.Pass ⟨0, 0, 0, 0⟩)
abbrev s_point_table : Stmt := topS 1
abbrev N_point_table : List Str := ["point", "p", "table", "number", "without", "entry"]
theorem sc_point_table : FnScope N_point_table ["point", "p"] (defScope s_point_table) := ⟨rfl, rfl, rfl, by decide +kernel, rfl, by decide +kernel, by decide +kernel⟩
abbrev s_weights_by : Stmt := topS 3
abbrev N_weights_by : List Str := ["gates", "near_g", "near_x", "near_y", "p", "of_x", "of_y", "of_both", "near", "gate", "_", "a", "x", "b", "y", "closeness", "c"]
theorem sc_weights_by : FnScope N_weights_by ["gates", "near_g", "near_x", "near_y", "p"] (defScope s_weights_by) := ⟨rfl, rfl, rfl, by decide +kernel, rfl, by decide +kernel, by decide +kernel⟩
abbrev s_weights : Stmt := topS 4
abbrev N_weights : List Str := ["gates", "g", "x", "y", "p"]
theorem sc_weights : FnScope N_weights ["gates", "g", "x", "y", "p"] (defScope s_weights) := ⟨rfl, rfl, rfl, by decide +kernel, rfl, by decide +kernel, by decide +kernel⟩
abbrev s__law_state : Stmt := topS 6
abbrev N__law_state : List Str := ["script", "seed", "cell"]
theorem sc__law_state : FnScope N__law_state ["script"] (defScope s__law_state) := ⟨rfl, rfl, rfl, by decide +kernel, rfl, by decide +kernel, by decide +kernel⟩
abbrev s__law_draw : Stmt := topS 7
abbrev N__law_draw : List Str := ["state", "many", "cells", "number", "mixed"]
theorem sc__law_draw : FnScope N__law_draw ["state", "many"] (defScope s__law_draw) := ⟨rfl, rfl, rfl, by decide +kernel, rfl, by decide +kernel, by decide +kernel⟩
abbrev s__law_pick : Stmt := topS 8
abbrev N__law_pick : List Str := ["state", "row"]
theorem sc__law_pick : FnScope N__law_pick ["state", "row"] (defScope s__law_pick) := ⟨rfl, rfl, rfl, by decide +kernel, rfl, by decide +kernel, by decide +kernel⟩
abbrev s__law_gates : Stmt := topS 9
abbrev N__law_gates : List Str := ["state", "p", "many", "columns", "gates", "k", "x", "y"]
theorem sc__law_gates : FnScope N__law_gates ["state", "p", "many", "columns"] (defScope s__law_gates) := ⟨rfl, rfl, rfl, by decide +kernel, rfl, by decide +kernel, by decide +kernel⟩
abbrev s__law_point : Stmt := topS 10
abbrev N__law_point : List Str := ["state", "p", "bits", "most", "k"]
theorem sc__law_point : FnScope N__law_point ["state", "p", "bits"] (defScope s__law_point) := ⟨rfl, rfl, rfl, by decide +kernel, rfl, by decide +kernel, by decide +kernel⟩
abbrev s__law_near : Stmt := topS 11
abbrev N__law_near : List Str := ["point", "corner", "p", "found", "k", "bit"]
theorem sc__law_near : FnScope N__law_near ["point", "corner", "p"] (defScope s__law_near) := ⟨rfl, rfl, rfl, by decide +kernel, rfl, by decide +kernel, by decide +kernel⟩
abbrev s_law : Stmt := topS 12
abbrev N_law : List Str := ["script", "state", "p", "bits", "below", "gates", "turn", "points", "due", "column", "gate", "x", "y", "close", "near", "k", "point", "before", "told"]
theorem sc_law : FnScope N_law ["script"] (defScope s_law) := ⟨rfl, rfl, rfl, by decide +kernel, rfl, by decide +kernel, by decide +kernel⟩
structure Txt (K : PySem.W.Frag) (mg : Str → Option Value) where
  f_point_table : Addr
  fd_point_table : FuncData
  F_point_table : Fun K "point_table" "point_table" s_point_table f_point_table fd_point_table
  b_point_table : Binds K fd_point_table ["point", "p"] []
  g_point_table : mg "point_table" = some (.ref f_point_table)
  f_weights_by : Addr
  fd_weights_by : FuncData
  F_weights_by : Fun K "weights_by" "weights_by" s_weights_by f_weights_by fd_weights_by
  b_weights_by : Binds K fd_weights_by ["gates", "near_g", "near_x", "near_y", "p"] []
  g_weights_by : mg "weights_by" = some (.ref f_weights_by)
  f_weights : Addr
  fd_weights : FuncData
  F_weights : Fun K "weights" "weights" s_weights f_weights fd_weights
  b_weights : Binds K fd_weights ["gates", "g", "x", "y", "p"] []
  g_weights : mg "weights" = some (.ref f_weights)
  f__law_state : Addr
  fd__law_state : FuncData
  F__law_state : Fun K "_law_state" "_law_state" s__law_state f__law_state fd__law_state
  b__law_state : Binds K fd__law_state ["script"] []
  g__law_state : mg "_law_state" = some (.ref f__law_state)
  f__law_draw : Addr
  fd__law_draw : FuncData
  F__law_draw : Fun K "_law_draw" "_law_draw" s__law_draw f__law_draw fd__law_draw
  b__law_draw : Binds K fd__law_draw ["state", "many"] []
  g__law_draw : mg "_law_draw" = some (.ref f__law_draw)
  f__law_pick : Addr
  fd__law_pick : FuncData
  F__law_pick : Fun K "_law_pick" "_law_pick" s__law_pick f__law_pick fd__law_pick
  b__law_pick : Binds K fd__law_pick ["state", "row"] []
  g__law_pick : mg "_law_pick" = some (.ref f__law_pick)
  f__law_gates : Addr
  fd__law_gates : FuncData
  F__law_gates : Fun K "_law_gates" "_law_gates" s__law_gates f__law_gates fd__law_gates
  b__law_gates : Binds K fd__law_gates ["state", "p", "many", "columns"] []
  g__law_gates : mg "_law_gates" = some (.ref f__law_gates)
  f__law_point : Addr
  fd__law_point : FuncData
  F__law_point : Fun K "_law_point" "_law_point" s__law_point f__law_point fd__law_point
  b__law_point : Binds K fd__law_point ["state", "p", "bits"] []
  g__law_point : mg "_law_point" = some (.ref f__law_point)
  f__law_near : Addr
  fd__law_near : FuncData
  F__law_near : Fun K "_law_near" "_law_near" s__law_near f__law_near fd__law_near
  b__law_near : Binds K fd__law_near ["point", "corner", "p"] []
  g__law_near : mg "_law_near" = some (.ref f__law_near)
  f_law : Addr
  fd_law : FuncData
  F_law : Fun K "law" "law" s_law f_law fd_law
  b_law : Binds K fd_law ["script"] []
  g_law : mg "law" = some (.ref f_law)
  m_abs : mg "abs" = none
  m_int : mg "int" = none
  m_isinstance : mg "isinstance" = none
  m_len : mg "len" = none
  m_range : mg "range" = none
  m_repr : mg "repr" = none
  m_tuple : mg "tuple" = none
  m_zip : mg "zip" = none
/-! ### the mathematics -/
def encG : Gate → List V
  | .mul c x y => [.str "mul", .int c, .int x, .int y]
  | .lin a x b y => [.str "lin", .int a, .int x, .int b, .int y]
theorem ptStep_in {p : Int} {t : List Int} {n : Int} (hp : 0 < p) : In 0 p (ptStep p t n) := by
  intro e he
  unfold ptStep at he
  rcases List.mem_append.mp he with h | h <;> (obtain ⟨x, _, rfl⟩ := List.mem_map.mp h; exact ⟨Int.emod_nonneg _ (by omega), Int.emod_lt_of_pos _ hp⟩)
theorem ptStep_len {p : Int} {t : List Int} {n : Int} : (ptStep p t n).length = 2 * t.length := by
  unfold ptStep
  rw [List.length_append, List.length_map, List.length_map]
  omega
theorem ptF_len {p : Int} : ∀ (pt t : List Int), (pt.foldl (ptStep p) t).length = 2 ^ pt.length * t.length
  | [], t => by simp
  | n :: r, t => by
    rw [List.foldl_cons, ptF_len r, ptStep_len, List.length_cons, Nat.pow_succ, Nat.mul_assoc]
theorem ptM_len {p : Int} (pt : List Int) : (ptM p pt).length = 2 ^ pt.length := by
  unfold ptM
  rw [ptF_len]
  simp
theorem ptF_in {p : Int} (hp : 0 < p) : ∀ (pt t : List Int), In 0 2147483648 t → p ≤ 2147483647 → In 0 2147483648 (pt.foldl (ptStep p) t)
  | [], t, h, _ => h
  | n :: r, t, h, hb => by
    rw [List.foldl_cons]
    refine ptF_in hp r _ (fun e he => ?_) hb
    have := ptStep_in hp e he
    omega
theorem ptM_in {p : Int} (hp : 0 < p) (hb : p ≤ 2147483647) (pt : List Int) : In 0 2147483648 (ptM p pt) := ptF_in hp pt [1] (fun e he => by have := List.mem_singleton.mp he; omega) hb
theorem ptM_take {p : Int} {pt : List Int} {i : Nat} {n : Int} (h : pt[i]? = some n) : ptM p (pt.take (i + 1)) = ptStep p (ptM p (pt.take i)) n := by
  unfold ptM
  rw [← take_app h, List.foldl_append]
  rfl
theorem wbM_take {p : Int} {gs : List Gate} {lg lx ly : List Int} {i : Nat} {n : Int} {g : Gate} (h1 : lg[i]? = some n) (h2 : gs[i]? = some g) :
    ((lg.zip gs).take (i + 1)).foldl (wbStep p lx ly) (0, 0, 0) = wbStep p lx ly (((lg.zip gs).take i).foldl (wbStep p lx ly) (0, 0, 0)) (n, g) := by
  have h : (lg.zip gs)[i]? = some (n, g) := by
    rw [List.getElem?_zip_eq_some]
    exact ⟨h1, h2⟩
  rw [← take_app h, List.foldl_append]
  rfl
def GatesAt (H : Hp) (ga : Addr) (gs : List Gate) : Prop := ∃ ts : List Addr, H ga = some (.lst (ts.map V.ref)) ∧ ts.length = gs.length ∧ ∀ (i : Nat) (t : Addr) (g : Gate), ts[i]? = some t → gs[i]? = some g → H t = some (.tup (encG g))
theorem GatesAt.same {H H' : Hp} {ga : Addr} {gs : List Gate} (h : GatesAt H ga gs) (s : Same H H') : GatesAt H' ga gs := by
  obtain ⟨ts, h1, h2, h3⟩ := h
  exact ⟨ts, s _ _ h1, h2, fun i t g a b => s _ _ (h3 i t g a b)⟩
def GatesO (st c : Addr) (H : Hp) (ga : Addr) (gs : List Gate) : Prop := ∃ ts : List Addr, Ob st c H ga (.lst (ts.map V.ref)) ∧ ts.length = gs.length ∧ ∀ (i : Nat) (t : Addr) (g : Gate), ts[i]? = some t → gs[i]? = some g → Ob st c H t (.tup (encG g))
theorem GatesO.at_ {st c ga : Addr} {H : Hp} {gs : List Gate} (h : GatesO st c H ga gs) : GatesAt H ga gs := by
  obtain ⟨ts, h1, h2, h3⟩ := h
  exact ⟨ts, h1.at_, h2, fun i t g a b => (h3 i t g a b).at_⟩
theorem GatesO.go {st c ga : Addr} {H H' : Hp} {gs : List Gate} (h : GatesO st c H ga gs) (s : Gd st c H H') : GatesO st c H' ga gs := by
  obtain ⟨ts, h1, h2, h3⟩ := h
  exact ⟨ts, h1.go s, h2, fun i t g a b => (h3 i t g a b).go s⟩
theorem GatesO.app {st c ga t : Addr} {H : Hp} {gs : List Gate} {ts : List Addr} {g : Gate} (h1 : Ob st c H ga (.lst (ts.map V.ref))) (h2 : ts.length = gs.length) (h3 : ∀ (i : Nat) (t : Addr) (g : Gate), ts[i]? = some t → gs[i]? = some g → Ob st c H t (.tup (encG g)))
    (ht : Ob st c H t (.tup (encG g))) : GatesO st c (upd H ga (.lst (ts.map V.ref ++ [.ref t]))) ga (gs ++ [g]) := by
  have ne : ∀ {b : Addr} {xs : List V}, H b = some (.tup xs) → b ≠ ga := fun {b xs} e => ne_of e h1.at_ (fun z => by cases z)
  refine ⟨ts ++ [t], ⟨by rw [upd_same, List.map_append]; rfl, h1.ns, h1.nc⟩, by rw [List.length_append, List.length_append, h2]; rfl, fun i t' g' e1 e2 => ?_⟩
  by_cases hi : i < ts.length
  · rw [List.getElem?_append_left hi] at e1
    rw [List.getElem?_append_left (by omega)] at e2
    have o := h3 i t' g' e1 e2
    exact ⟨by rw [upd_ne (ne o.at_)]; exact o.at_, o.ns, o.nc⟩
  · have hi2 : i = ts.length := by
      have := (List.getElem?_eq_some_iff.mp e1).1
      rw [List.length_append] at this
      have z : [t].length = 1 := rfl
      omega
    subst hi2
    rw [List.getElem?_append_right (Nat.le_refl _), Nat.sub_self] at e1
    rw [h2, List.getElem?_append_right (Nat.le_refl _), Nat.sub_self] at e2
    obtain rfl : t = t' := Option.some.inj e1
    obtain rfl : g = g' := Option.some.inj e2
    exact ⟨by rw [upd_ne (ne ht.at_)]; exact ht.at_, ht.ns, ht.nc⟩
theorem vals_ints {lo hi : Int} : ∀ (ys : List V), (∀ y ∈ ys, ∃ d, y = V.int d ∧ lo ≤ d ∧ d < hi) → ∃ ds : List Int, ys = ds.map V.int ∧ In lo hi ds
  | [], _ => ⟨[], rfl, fun e he => by simp at he⟩
  | y :: r, h => by
    obtain ⟨d, rfl, h1⟩ := h y List.mem_cons_self
    obtain ⟨ds, rfl, h2⟩ := vals_ints r fun z hz => h z (List.mem_cons_of_mem _ hz)
    refine ⟨d :: ds, rfl, fun e he => ?_⟩
    rcases List.mem_cons.mp he with h | h
    · rw [h]; exact h1
    · exact h2 e h
theorem shl1 (B : Nat) : (1 : Int) * 2 ^ ((B : Int)).toNat = ((2 ^ B : Nat) : Int) := by
  rw [Int.toNat_natCast, Int.one_mul, Int.natCast_pow]
  rfl
theorem getR {xs : List Addr} {i : Nat} {x : V} (h : (xs.map V.ref)[i]? = some x) : ∃ n, xs[i]? = some n ∧ x = .ref n := by
  rw [List.getElem?_map] at h
  cases e : xs[i]? with
  | none => rw [e] at h; cases h
  | some n => rw [e] at h; exact ⟨n, rfl, (Option.some.inj h).symm⟩
def dGate : Gate → PyData
  | .mul c x y => .tuple [.str "mul", .int c, .int x, .int y]
  | .lin a x b y => .tuple [.str "lin", .int a, .int x, .int b, .int y]
theorem dp_gates {K : PySem.W.Frag} {H : Hp} : ∀ (ts : List Addr) (gs : List Gate), ts.length = gs.length → (∀ (i : Nat) (t : Addr) (g : Gate), ts[i]? = some t → gs[i]? = some g → H t = some (.tup (encG g))) → DpAll K H (ts.map V.ref) (gs.map dGate)
  | [], [], _, _ => .nil
  | t :: ts, g :: gs, hl, h => by
    refine .cons ?_ (dp_gates ts gs (by simpa using hl) fun i t' g' e1 e2 => h (i + 1) t' g' e1 e2)
    have ht := h 0 t g rfl rfl
    cases g with
    | mul c x y => exact .tup (xs := encG (.mul c x y)) (sqt ht) (.cons (.str _) (.cons (.int _) (.cons (.int _) (.cons (.int _) .nil))))
    | lin a x b y => exact .tup (xs := encG (.lin a x b y)) (sqt ht) (.cons (.str _) (.cons (.int _) (.cons (.int _) (.cons (.int _) (.cons (.int _) .nil)))))
  | [], _ :: _, hl, _ => by simp at hl
  | _ :: _, [], hl, _ => by simp at hl
theorem gate_data {p n : Int} (hp : p ≤ 2147483647) (hn : n ≤ 100000) {g : Gate} (h : okG p n g) : tame (dGate g) = true ∧ costD (dGate g) ≤ 300 ∧ (dGate g).depth ≤ 1 := by
  have b2 : ∀ i : Int, 0 ≤ i → i < 2147483648 → decide (i.natAbs < 10 ^ 38) = true := fun i h0 h1 => by
    have z : (10 : Nat) ^ 38 = 100000000000000000000000000000000000000 := by decide +kernel
    exact decide_eq_true (by omega)
  have l1 : (reprText "lin").length ≤ 10 := by decide +kernel
  have l2 : (reprText "mul").length ≤ 10 := by decide +kernel
  cases g with
  | mul c x y =>
    obtain ⟨hc, hx, hy⟩ := h
    refine ⟨?_, ?_, ?_⟩
    · simp only [dGate, tame, tameL, b2 c hc.1 (by omega), b2 x hx.1 (by omega), b2 y hy.1 (by omega), Bool.and_self]
    · simp only [dGate, costD, costL]
      omega
    · simp [dGate, PyData.depth, PyData.depthAll]
  | lin a x b y =>
    obtain ⟨ha, hx, hb, hy⟩ := h
    refine ⟨?_, ?_, ?_⟩
    · simp only [dGate, tame, tameL, b2 a ha.1 (by omega), b2 b hb.1 (by omega), b2 x hx.1 (by omega), b2 y hy.1 (by omega), Bool.and_self]
    · simp only [dGate, costD, costL]
      omega
    · simp [dGate, PyData.depth, PyData.depthAll]
theorem gates_data {p n : Int} (hp : p ≤ 2147483647) (hn : n ≤ 100000) : ∀ gs : List Gate, (∀ g ∈ gs, okG p n g) → tameL (gs.map dGate) = true ∧ costL (gs.map dGate) ≤ 302 * gs.length ∧ PyData.depthAll (gs.map dGate) ≤ 1
  | [], _ => ⟨by rw [List.map_nil]; unfold tameL; rfl, by rw [List.map_nil]; unfold costL; omega, by rw [List.map_nil]; unfold PyData.depthAll; omega⟩
  | g :: gs, h => by
    obtain ⟨h1, h2, h3⟩ := gate_data hp hn (h g List.mem_cons_self)
    obtain ⟨g1, g2, g3⟩ := gates_data hp hn gs fun x hx => h x (List.mem_cons_of_mem _ hx)
    rw [List.map_cons]
    refine ⟨by unfold tameL; rw [h1, g1]; rfl, by unfold costL; rw [List.length_cons]; omega, by unfold PyData.depthAll; exact Nat.max_le.mpr ⟨h3, g3⟩⟩
theorem ptM_small {p : Int} {pt : List Int} (i : Nat) (hl : pt.length ≤ 10) : (ptM p (pt.take i)).length ≤ 1000000 := by
  rw [ptM_len, List.length_take]
  have : 2 ^ min i pt.length ≤ 2 ^ 10 := Nat.pow_le_pow_right (by decide) (by omega)
  omega
section
variable {P : Program} {w : World} {K : PySem.W.Frag} {mg : Str → Option Value} {base : Heap}
/-! ### the promises -/
def sp_point_table : Sp := fun vs H Q _ => ∃ (a : Addr) (p : Int) (pt : List Int), vs = [.ref a, .int p] ∧ H a = some (.lst (pt.map V.int)) ∧ 0 < p ∧ p ≤ 2147483647 ∧ pt.length ≤ 10 ∧
  ∀ H' q, Same H H' → H q = none → H' q = some (.lst ((ptM p pt).map V.int)) → Q (.ref q) H'
theorem ok_point_table (T : Txt K mg) : FnOk P w K mg base CX0 1 T.f_point_table T.fd_point_table ["point", "p"] (sp_point_table) := by
  refine T.F_point_table.ok sc_point_table (fun vs H Q E h => ?len) (fun cdv A outer s H vs Q E hr h => ?body)
  · obtain ⟨a, p, pt, rfl, _⟩ := h
    rfl
  · obtain ⟨a, p, pt, rfl, ha, hp, hb, hl, q⟩ := h
    refine ⟨_, (pss_cons (ps_set (i := 2) sc_point_table.nd rfl (.inl rfl) (pe_lst (pa_cons pe_int pa_nil)))
      (pss_cons (ps_for PassesOwn.never rfl (piL_ (K := K) rfl (pv 0)) (pg_name (i := 3) sc_point_table.nd rfl (.inr rfl)) (pss_cons (ps_setLc (i := 4) (own := [("entry", 5)]) rfl sc_point_table.nd rfl rfl (sw_true rfl rfl rfl (by decide +kernel)) (piL_ (K := K) rfl (pv 2)) (blkOk_by (own := [("entry", 5)]) (N := N_point_table) (sc := defScope s_point_table) (by decide +kernel)) (fun _ _ _ _ _ => (pg_name (i := 5) sc_point_table.nd rfl (.inl rfl))) (fun _ _ _ _ _ => pts_nil) (fun _ _ _ _ _ => (pe_op op_mod (pe_op op_mul (pv 5) (pe_op op_sub pe_int (pv 3))) (pv 1))))
      (pss_one (ps_set (i := 2) sc_point_table.nd rfl (.inl rfl) (pe_op op_cat (pv 4) (pe_lc (own := [("entry", 5)]) rfl sc_point_table.nd (piL_ (K := K) rfl (pv 2)) (blkOk_by (own := [("entry", 5)]) (N := N_point_table) (sc := defScope s_point_table) (by decide +kernel)) (fun _ _ _ _ _ => (pg_name (i := 5) sc_point_table.nd rfl (.inl rfl))) (fun _ _ _ _ _ => pts_nil) (fun _ _ _ _ _ => (pe_op op_mod (pe_op op_mul (pv 5) (pv 3)) (pv 1)))))))))
      (pss_one (ps_ret (pv 2))))), ?_⟩
    walk_at "hs"
    refine ⟨sz (by decide), fun t nt => ?_⟩
    have s0 : Same H (upd H t (.lst [.int 1])) := same_upd nt
    walk_at "hs"
    refine a_exl (sql (s0 _ _ ha)) ?_
    refine fo_list (xs := pt.map V.int) (fun i σ H' => ∃ t x3 x4, σ = [some (.ref a), some (.int p), some (.ref t), x3, x4, none] ∧ Same H H' ∧ H t = none ∧ H' t = some (.lst ((ptM p (pt.take i)).map V.int)) ∧ i ≤ pt.length) ?_ ?_ ?_ ?_
    · exact ⟨t, none, none, rfl, s0, nt, upd_same, Nat.zero_le _⟩
    · rintro i σ H' _ ⟨t, x3, x4, _, s1, _⟩
      exact sql (s1 _ _ ha)
    · rintro i x σ H' hi ⟨t, x3, x4, rfl, s1, nt, et, hil⟩
      obtain ⟨n, hn, rfl⟩ := getV hi
      have hin := ptM_in hp hb (pt.take i)
      walk_at "hs"
      refine c_same (((ptM p (pt.take i)).map fun e => e * (1 - n) % p).map V.int) rfl (fun R r => a_var rfl r) (sql et) (by simp) ?_ ?_ ?_
      · refine Nat.le_trans (Nat.le_of_eq ?_) (ptM_small (p := p) i hl)
        simp
      · intro j x hj H2 R s2 r
        obtain ⟨e, he, rfl⟩ := getV hj
        have := hin e (List.mem_of_getElem? he)
        walk_at "hs"
        refine r _ _ (Same.refl _) ?_
        rw [List.getElem?_map, List.getElem?_map, he]
        rfl
      · intro D H2 nD s2 eD
        walk_at "hs"
        refine c_same (((ptM p (pt.take i)).map fun e => e * n % p).map V.int) rfl (fun R r => a_var rfl r) (sql (s2 _ _ et)) (by simp) ?_ ?_ ?_
        · refine Nat.le_trans (Nat.le_of_eq ?_) (ptM_small (p := p) i hl)
          simp
        · intro j x hj H3 R s3 r
          obtain ⟨e, he, rfl⟩ := getV hj
          have := hin e (List.mem_of_getElem? he)
          walk_at "hs"
          refine r _ _ (Same.refl _) ?_
          rw [List.getElem?_map, List.getElem?_map, he]
          rfl
        · intro D2 H3 nD2 s3 eD2
          refine a_cat (s3 _ _ eD) eD2 ?_ fun t2 nt2 => ?_
          · refine sz ?_
            rw [List.length_map, List.length_map, List.length_map, List.length_map, ptM_len, List.length_take]
            have : 2 ^ min i pt.length ≤ 2 ^ 10 := Nat.pow_le_pow_right (by decide) (by omega)
            omega
          · walk_at "hs"
            have hS : Same H (upd H3 t2 (HO.lst (List.map V.int (List.map (fun e => e * (1 - n) % p) (ptM p (List.take i pt))) ++ List.map V.int (List.map (fun e => e * n % p) (ptM p (List.take i pt)))))) := supd ((s1.trans s2).trans s3) nt2
            refine ⟨t2, _, _, rfl, hS, ((s1.trans s2).trans s3).free nt2, ?_, ?_⟩
            · rw [upd_same, ptM_take hn, ← List.map_append]
              rfl
            · exact (List.getElem?_eq_some_iff.mp hn).1
    · rintro σ H' ⟨t, x3, x4, rfl, s1, nt, et, _⟩
      walk_at "hs"
      refine q H' t s1 nt ?_
      rw [et, List.length_map, List.take_length]
def tri (r : Int × Int × Int) : List V := [.int r.1, .int r.2.1, .int r.2.2]
def sp_weights_by : Sp := fun vs H Q _ => ∃ (ga ng nx ny : Addr) (p n : Int) (gs : List Gate) (lg lx ly : List Int), vs = [.ref ga, .ref ng, .ref nx, .ref ny, .int p] ∧ GatesAt H ga gs ∧ H ng = some (.lst (lg.map V.int)) ∧ H nx = some (.lst (lx.map V.int)) ∧ H ny = some (.lst (ly.map V.int)) ∧
  lg.length = gs.length ∧ (lx.length : Int) = n ∧ (ly.length : Int) = n ∧ 0 < p ∧ p ≤ 2147483647 ∧ In 0 2147483648 lg ∧ In 0 2147483648 lx ∧ In 0 2147483648 ly ∧ (∀ g ∈ gs, okG p n g) ∧
  ∀ H' q, Same H H' → H q = none → H' q = some (.tup (tri (wbM p gs lg lx ly))) → Q (.ref q) H'
theorem ok_weights_by (T : Txt K mg) : FnOk P w K mg base CX0 1 T.f_weights_by T.fd_weights_by ["gates", "near_g", "near_x", "near_y", "p"] (sp_weights_by) := by
  refine T.F_weights_by.ok sc_weights_by (fun vs H Q E h => ?len) (fun cdv A outer s H vs Q E hr h => ?body)
  · obtain ⟨ga, ng, nx, ny, p, n, gs, lg, lx, ly, rfl, _⟩ := h
    rfl
  · obtain ⟨ga, ng, nx, ny, p, n, gs, lg, lx, ly, rfl, hga, hng, hnx, hny, hlen, hlx, hly, hp, hb, ilg, ilx, ily, hok, q⟩ := h
    refine ⟨_, (pss_cons (ps_set (i := 5) sc_weights_by.nd rfl (.inl rfl) pe_int)
      (pss_cons (ps_set (i := 6) sc_weights_by.nd rfl (.inl rfl) pe_int)
      (pss_cons (ps_set (i := 7) sc_weights_by.nd rfl (.inl rfl) pe_int)
      (pss_cons (ps_for PassesOwn.never rfl (piZ_ (K := K) rfl (pi_zip (by rfl) T.m_zip (pa_cons (pv 1) (pa_cons (pv 0) pa_nil)))) (pgT_ (K := K) rfl (pg_tup rfl (pgs_cons (pg_name (i := 8) sc_weights_by.nd rfl (.inl rfl)) (pgs_cons (pg_name (i := 9) sc_weights_by.nd rfl (.inl rfl)) pgs_nil)))) (pss_one (ps_if (pt_cmpR op_eq (pe_ix (ixT_ (K := K) rfl) (pv 9) pe_int (fun _ _ => rfl)) pe_str (nomark _)) (pss_cons (ps_asg (pv 9) (pgT_ (K := K) rfl (pg_tup rfl (pgs_cons (pg_name (i := 10) sc_weights_by.nd rfl (.inl rfl)) (pgs_cons (pg_name (i := 11) sc_weights_by.nd rfl (.inl rfl)) (pgs_cons (pg_name (i := 12) sc_weights_by.nd rfl (.inl rfl)) (pgs_cons (pg_name (i := 13) sc_weights_by.nd rfl (.inl rfl)) (pgs_cons (pg_name (i := 14) sc_weights_by.nd rfl (.inl rfl)) pgs_nil))))))))
      (pss_cons (ps_set (i := 15) sc_weights_by.nd rfl (.inl rfl) (pe_op op_mod (pe_op op_mul (pe_op op_mod (pe_op op_mul (pv 8) (pe_ix (ixL_ (K := K) rfl) (pv 2) (pv 12) (fun _ _ => rfl))) (pv 4)) (pe_ix (ixL_ (K := K) rfl) (pv 3) (pv 14) (fun _ _ => rfl))) (pv 4)))
      (pss_cons (ps_set (i := 5) sc_weights_by.nd rfl (.inl rfl) (pe_op op_mod (pe_op op_add (pv 5) (pe_op op_mul (pv 11) (pv 15))) (pv 4)))
      (pss_one (ps_set (i := 6) sc_weights_by.nd rfl (.inl rfl) (pe_op op_mod (pe_op op_add (pv 6) (pe_op op_mul (pv 13) (pv 15))) (pv 4))))))) (pss_cons (ps_asg (pv 9) (pgT_ (K := K) rfl (pg_tup rfl (pgs_cons (pg_name (i := 10) sc_weights_by.nd rfl (.inl rfl)) (pgs_cons (pg_name (i := 16) sc_weights_by.nd rfl (.inl rfl)) (pgs_cons (pg_name (i := 12) sc_weights_by.nd rfl (.inl rfl)) (pgs_cons (pg_name (i := 14) sc_weights_by.nd rfl (.inl rfl)) pgs_nil)))))))
      (pss_one (ps_set (i := 7) sc_weights_by.nd rfl (.inl rfl) (pe_op op_mod (pe_op op_add (pv 7) (pe_op op_mul (pe_op op_mod (pe_op op_mul (pe_op op_mul (pv 16) (pv 8)) (pe_ix (ixL_ (K := K) rfl) (pv 2) (pv 12) (fun _ _ => rfl))) (pv 4)) (pe_ix (ixL_ (K := K) rfl) (pv 3) (pv 14) (fun _ _ => rfl)))) (pv 4))))))))
      (pss_one (ps_ret (pe_tup (pa_cons (pv 5) (pa_cons (pv 6) (pa_cons (pv 7) pa_nil)))))))))), ?_⟩
    walk_at "hs"
    obtain ⟨ts, et, htl, hts⟩ := id hga
    refine a_exz (sql hng) (sql et) ?_
    refine fo_zip (xs := lg.map V.int) (ys := ts.map V.ref) (by rw [List.length_map, List.length_map]; omega)
      (fun i σ H' => Same H H' ∧ i ≤ lg.length ∧ ∃ x8 x9 x10 x11 x12 x13 x14 x15 x16, σ = [some (.ref ga), some (.ref ng), some (.ref nx), some (.ref ny), some (.int p), some (.int (((lg.zip gs).take i).foldl (wbStep p lx ly) (0, 0, 0)).1), some (.int (((lg.zip gs).take i).foldl (wbStep p lx ly) (0, 0, 0)).2.1), some (.int (((lg.zip gs).take i).foldl (wbStep p lx ly) (0, 0, 0)).2.2), x8, x9, x10, x11, x12, x13, x14, x15, x16])
      ⟨Same.refl H, Nat.zero_le _, none, none, none, none, none, none, none, none, none, rfl⟩ (fun i σ H' h => ⟨sql (h.1 _ _ hng), sql (h.1 _ _ et)⟩) ?_ ?_
    · rintro i x y TT σ H' hx hy ⟨s1, hi, x8, x9, x10, x11, x12, x13, x14, x15, x16, rfl⟩ nT
      obtain ⟨near, en, rfl⟩ := getV hx
      obtain ⟨t, e2, rfl⟩ := getR hy
      have hil : i < gs.length := by
        have := (List.getElem?_eq_some_iff.mp en).1
        omega
      have eg : gs[i]? = some gs[i] := List.getElem?_eq_getElem hil
      have s2 : Same H (upd H' TT (.tup [.int near, .ref t])) := supd s1 nT
      have ht := s2 _ _ (hts i t _ e2 eg)
      have hgo := hok _ (List.getElem_mem hil)
      have hst := wbM_take (p := p) (lx := lx) (ly := ly) en eg
      have hnr := ilg _ (List.mem_of_getElem? en)
      have hn1 := (List.getElem?_eq_some_iff.mp en).1
      have hx1 := s2 _ _ hnx
      have hy1 := s2 _ _ hny
      generalize gs[i] = g at *
      generalize ((lg.zip gs).take i).foldl (wbStep p lx ly) (0, 0, 0) = r at *
      refine a_gtup upd_same rfl ?_
      walk_at "hs"
      cases g with
      | lin a x b y =>
        obtain ⟨ha, hx, hb', hy⟩ := hgo
        have bx := in_getD ilx hx.1 (by omega)
        have by_ := in_getD ily hy.1 (by omega)
        have ht' : upd H' TT (.tup [.int near, .ref t]) t = some (.tup [.str "lin", .int a, .int x, .int b, .int y]) := ht
        walk_at "hs"
        refine ifd (fun _ => ?_) (fun h => absurd rfl h)
        walk_at "hs"
        refine a_gtup ht' rfl ?_
        walk_at "hs"
        rw [hst]
        exact ⟨s2, by omega, _, _, _, _, _, _, _, _, _, rfl⟩
      | mul c x y =>
        obtain ⟨hc, hx, hy⟩ := hgo
        have bx := in_getD ilx hx.1 (by omega)
        have by_ := in_getD ily hy.1 (by omega)
        have ht' : upd H' TT (.tup [.int near, .ref t]) t = some (.tup [.str "mul", .int c, .int x, .int y]) := ht
        walk_at "hs"
        refine ifd (fun h => absurd h (by decide)) (fun _ => ?_)
        walk_at "hs"
        refine a_gtup ht' rfl ?_
        walk_at "hs"
        rw [hst]
        exact ⟨s2, by omega, _, _, _, _, _, _, _, _, _, rfl⟩
    · rintro σ H' ⟨s1, _, x8, x9, x10, x11, x12, x13, x14, x15, x16, rfl⟩
      walk_at "hs"
      refine ⟨sz (show 3 ≤ 1000000 by decide), fun t nt => ?_⟩
      refine q _ t (supd s1 nt) (s1.free nt) ?_
      rw [upd_same]
      have e1 : (lg.zip gs).take (lg.map V.int).length = lg.zip gs := List.take_of_length_le (by rw [List.length_zip, List.length_map]; omega)
      rw [e1]
      rfl
def sp_weights : Sp := fun vs H Q _ => ∃ (ga ag ax ay : Addr) (p n : Int) (gs : List Gate) (pg px py : List Int), vs = [.ref ga, .ref ag, .ref ax, .ref ay, .int p] ∧ GatesAt H ga gs ∧ H ag = some (.lst (pg.map V.int)) ∧ H ax = some (.lst (px.map V.int)) ∧ H ay = some (.lst (py.map V.int)) ∧
  gs.length = 2 ^ pg.length ∧ ((2 ^ px.length : Nat) : Int) = n ∧ ((2 ^ py.length : Nat) : Int) = n ∧ pg.length ≤ 10 ∧ px.length ≤ 10 ∧ py.length ≤ 10 ∧ 0 < p ∧ p ≤ 2147483647 ∧ (∀ g ∈ gs, okG p n g) ∧
  ∀ H' q, Same H H' → H q = none → H' q = some (.tup (tri (wbM p gs (ptM p pg) (ptM p px) (ptM p py)))) → Q (.ref q) H'
theorem ok_weights (T : Txt K mg) : FnOk P w K mg base CX0 2 T.f_weights T.fd_weights ["gates", "g", "x", "y", "p"] (sp_weights) := by
  have G_weights_by := ok_weights_by (P := P) (w := w) (base := base) T
  have G_point_table := ok_point_table (P := P) (w := w) (base := base) T
  refine T.F_weights.ok sc_weights (fun vs H Q E h => ?len) (fun cdv A outer s H vs Q E hr h => ?body)
  · obtain ⟨ga, ag, ax, ay, p, n, gs, pg, px, py, rfl, _⟩ := h
    rfl
  · obtain ⟨ga, ag, ax, ay, p, n, gs, pg, px, py, rfl, hga, hg, hx, hy, hlen, hlx, hly, l1, l2, l3, hp, hb, hok, q⟩ := h
    refine ⟨_, (pss_one (ps_ret (pe_call G_weights_by (hr.mono (by decide)) (by rfl) T.g_weights_by T.F_weights_by.kp T.b_weights_by .nil pass0 (pa_cons (pv 0) (pa_cons (pe_call G_point_table (hr.mono (by decide)) (by rfl) T.g_point_table T.F_point_table.kp T.b_point_table .nil pass0 (pa_cons (pv 1) (pa_cons (pv 4) pa_nil))) (pa_cons (pe_call G_point_table (hr.mono (by decide)) (by rfl) T.g_point_table T.F_point_table.kp T.b_point_table .nil pass0 (pa_cons (pv 2) (pa_cons (pv 4) pa_nil))) (pa_cons (pe_call G_point_table (hr.mono (by decide)) (by rfl) T.g_point_table T.F_point_table.kp T.b_point_table .nil pass0 (pa_cons (pv 3) (pa_cons (pv 4) pa_nil))) (pa_cons (pv 4) pa_nil)))))))), ?_⟩
    walk_at "hs"
    refine ⟨ag, p, pg, rfl, hg, hp, hb, l1, fun H1 t1 s1 n1 e1 => ?_⟩
    walk_at "hs"
    refine ⟨ax, p, px, rfl, s1 _ _ hx, hp, hb, l2, fun H2 t2 s2 n2 e2 => ?_⟩
    walk_at "hs"
    refine ⟨ay, p, py, rfl, s2 _ _ (s1 _ _ hy), hp, hb, l3, fun H3 t3 s3 n3 e3 => ?_⟩
    walk_at "hs"
    have s13 := (s1.trans s2).trans s3
    refine ⟨ga, t1, t2, t3, p, n, gs, _, _, _, rfl, hga.same s13, s3 _ _ (s2 _ _ e1), s3 _ _ e2, e3, by rw [ptM_len, hlen], by rw [ptM_len, hlx], by rw [ptM_len, hly], hp, hb, ptM_in hp hb _, ptM_in hp hb _, ptM_in hp hb _, hok, fun H4 t4 s4 n4 e4 => ?_⟩
    exact q H4 t4 (s13.trans s4) (s13.free n4) e4
def sp__law_state (K : PySem.W.Frag) : Sp := fun vs H Q _ => ∃ (a : Addr) (ns : List Int), vs = [.ref a] ∧ SqL K H a (ns.map V.int) ∧ ns.length ≤ 63 ∧ ∀ H' st c, Same H H' → StA H' st c → Q (.ref st) H'
theorem ok__law_state (T : Txt K mg) : FnOk P w K mg base CX0 1 T.f__law_state T.fd__law_state ["script"] (sp__law_state K) := by
  refine T.F__law_state.ok sc__law_state (fun vs H Q E h => ?len) (fun cdv A outer s H vs Q E hr h => ?body)
  · obtain ⟨a, ns, rfl, _⟩ := h
    rfl
  · obtain ⟨a, ns, rfl, hS, hl, q⟩ := h
    refine ⟨_, (pss_cons (ps_set (i := 1) sc__law_state.nd rfl (.inl rfl) pe_int)
      (pss_cons (ps_for PassesOwn.never rfl (piL_ (K := K) rfl (pv 0)) (pg_name (i := 2) sc__law_state.nd rfl (.inl rfl)) (pss_one (ps_set (i := 1) sc__law_state.nd rfl (.inl rfl) (pe_op op_mod (pe_callTy call_int1 (by rfl) T.m_int (by decide +kernel) (pa_cons (pe_op op_add (pe_op op_mul (pv 1) pe_int) (pv 2)) pa_nil)) pe_int))))
      (pss_one (ps_ret (pe_lst (pa_cons (pe_lc (own := [("cell", 2)]) rfl sc__law_state.nd (piL_ (K := K) rfl (pv 0)) (blkOk_by (own := [("cell", 2)]) (N := N__law_state) (sc := defScope s__law_state) (by decide +kernel)) (fun _ _ _ _ _ => (pg_name (i := 2) sc__law_state.nd rfl (.inl rfl))) (fun _ _ _ _ _ => pts_nil) (fun _ _ _ _ _ => (pe_callB call_abs (by rfl) T.m_abs (by decide +kernel) (pa_cons (pv 2) pa_nil)))) (pa_cons (pe_op op_add (pv 1) pe_int) pa_nil))))))), ?_⟩
    walk_at "hs"
    refine a_exl hS ?_
    refine fo_list (xs := ns.map V.int) (fun i σ H' => H' = H ∧ ∃ (seed : Int) (x2 : Option V), σ = [some (.ref a), some (.int seed), x2]) ⟨rfl, 7, none, rfl⟩ (fun i σ H' _ h => by rw [h.1]; exact hS) ?_ ?_
    · rintro i x σ H' hi ⟨rfl, seed, x2, rfl⟩
      obtain ⟨v, _, rfl⟩ := getV hi
      walk_at "hs"
      exact ⟨rfl, _, _, rfl⟩
    · rintro σ H' ⟨rfl, seed, x2, rfl⟩
      walk_at "hs"
      refine c_same ((ns.map fun x => if x < 0 then -x else x).map V.int) rfl (fun R r => a_var rfl r) hS (by simp) (by simp; omega) ?_ ?_
      · intro j x hj H2 R s2 r
        obtain ⟨v, hv, rfl⟩ := getV hj
        walk_at "hs"
        refine r _ _ (Same.refl _) ?_
        rw [List.getElem?_map, List.getElem?_map, hv]
        rfl
      · intro D H2 nD s2 eD
        walk_at "hs"
        refine ⟨sz (show 2 ≤ 1000000 by decide), fun t nt => ?_⟩
        refine q _ t D (supd s2 nt) ⟨ns.map fun x => if x < 0 then -x else x, seed + 1, upd_same, ?_, by rw [List.length_map]; exact hl⟩
        rw [upd_ne (ne_of_none eD nt)]
        exact eD
def sp__law_draw : Sp := fun vs H Q _ => ∃ (st c : Addr) (many : Int), vs = [.ref st, .int many] ∧ StA H st c ∧ 0 < many ∧ many < 9223372036854775808 ∧ ∀ d H', 0 ≤ d → d < many → StA H' st c → Gd st c H H' → Q (.int d) H'
theorem ok__law_draw (T : Txt K mg) : FnOk P w K mg base CX0 1 T.f__law_draw T.fd__law_draw ["state", "many"] (sp__law_draw) := by
  refine T.F__law_draw.ok sc__law_draw (fun vs H Q E h => ?len) (fun cdv A outer s H vs Q E hr h => ?body)
  · obtain ⟨st, c, many, rfl, _⟩ := h
    rfl
  · obtain ⟨st, c, many, rfl, hs, hm, hM, q⟩ := h
    have nsc := hs.ne
    obtain ⟨cs, m, e1, e2, hl⟩ := hs
    refine ⟨_, (pss_cons (ps_set (i := 2) sc__law_draw.nd rfl (.inl rfl) (pe_ix (ixL_ (K := K) rfl) (pv 0) pe_int (fun _ _ => rfl)))
      (pss_cons (ps_while PassesOwn.never (pw_and (pt_cmpR op_gt (pe_callB (lenK_ (K := K) rfl) (by rfl) T.m_len PySem.boot_len (pa_cons (pv 2) pa_nil)) pe_int (nomark _)) (pw_and1 (pt_cmpR op_eq (pe_ix (ixL_ (K := K) rfl) (pv 2) pe_int (fun _ _ => rfl)) pe_int (nomark _)))).pt (pss_one (ps_expr (bmK_ (K := K) rfl (pe_bm PySem.F.plainAttrs_list PySem.F.slot_list_pop PySem.F.type_list_pop mt_popAt (pv 2) (pa_cons pe_int pa_nil))))))
      (pss_cons (ps_if (pt_cmpR op_gt (pe_callB (lenK_ (K := K) rfl) (by rfl) T.m_len PySem.boot_len (pa_cons (pv 2) pa_nil)) pe_int (nomark _)) (pss_cons (ps_set (i := 3) sc__law_draw.nd rfl (.inl rfl) (pe_ix (ixL_ (K := K) rfl) (pv 2) pe_int (fun _ _ => rfl)))
      (pss_cons (ps_asg (pe_op op_fdivW (pv 3) (pv 1)) (pg_sub (pv 2) pe_int set_list))
      (pss_one (ps_ret (pe_op op_mod (pe_callTy call_int1 (by rfl) T.m_int (by decide +kernel) (pa_cons (pv 3) pa_nil)) (pv 1)))))) pss_nil)
      (pss_cons (ps_set (i := 4) sc__law_draw.nd rfl (.inl rfl) (pe_op op_mod (pe_callTy call_int1 (by rfl) T.m_int (by decide +kernel) (pa_cons (pe_op op_add (pe_op op_mul (pe_ix (ixL_ (K := K) rfl) (pv 0) pe_int (fun _ _ => rfl)) pe_int) pe_int) pa_nil)) pe_int))
      (pss_cons (ps_asg (pv 4) (pg_sub (pv 0) pe_int set_list))
      (pss_one (ps_ret (pe_op op_mod (pe_callTy call_int1 (by rfl) T.m_int (by decide +kernel) (pa_cons (pe_op op_fdivW (pv 4) pe_int) pa_nil)) (pv 1))))))))), ?_⟩
    walk_at "hs"
    refine a_while2 (fun σ H' => ∃ cs' : List Int, σ = [some (.ref st), some (.int many), some (.ref c), none, none] ∧ cs'.length ≤ 63 ∧ H' st = some (.lst [.ref c, .int m]) ∧ H' c = some (.lst (cs'.map V.int)) ∧ Gd st c H H') ?post
      (fun k σ H' => ∃ cs' : List Int, σ = [some (.ref st), some (.int many), some (.ref c), none, none] ∧ k = cs'.length ∧ cs'.length ≤ 63 ∧ H' st = some (.lst [.ref c, .int m]) ∧ H' c = some (.lst (cs'.map V.int)) ∧ Gd st c H H') cs.length ⟨cs, rfl, rfl, hl, e1, e2, Gd.refl H⟩ ?turn
    case turn =>
      rintro nx' hnx k σ H' ⟨cs', rfl, rfl, hl', e1', e2', gd⟩
      cases cs' with
      | nil =>
        walk_at "hs"
        refine ifd (fun h => absurd h (by simp)) (fun _ => ?_)
        exact iff' (hnx _ _ ⟨[], rfl, hl', e1', e2', gd⟩)
      | cons x r =>
        walk_at "hs"
        refine ifd (fun _ => ?_) (fun h => absurd (show (0 : Int) < ((List.map V.int (x :: r)).length : Int) by rw [List.length_map, List.length_cons]; omega) h)
        walk_at "hs"
        refine ifd (fun hx => ?_) (fun hx => hnx _ _ ⟨x :: r, rfl, hl', e1', e2', gd⟩)
        refine ⟨_, fun _ _ z => z, ?_⟩
        walk_at "hs"
        refine a_popAt0 (y := .int x) (xs := r.map V.int) e2' ?_
        walk_at "hs"
        refine ⟨r.length, by simp, r, rfl, rfl, by simp at hl'; omega, by rw [upd_ne nsc]; exact e1', upd_same, fun a o ha h1 h2 => by rw [upd_ne h2]; exact gd a o ha h1 h2⟩
    case post =>
      rintro σ H' ⟨cs', rfl, hl', e1', e2', gd⟩
      cases cs' with
      | nil =>
        walk_at "hs"
        refine ifd (fun h => absurd h (by simp)) (fun _ => ?_)
        walk_at "hs"
        refine a_setL1 e1' ?_
        walk_at "hs"
        refine q _ _ (Int.emod_nonneg _ (by omega)) (Int.emod_lt_of_pos _ hm) ⟨[], _, upd_same, by rw [upd_ne nsc.symm]; exact e2', by simp⟩ (fun a o ha h1 h2 => by rw [upd_ne h1]; exact gd a o ha h1 h2)
      | cons x r =>
        walk_at "hs"
        refine ifd (fun _ => ?_) (fun h => absurd (show (0 : Int) < ((List.map V.int (x :: r)).length : Int) by rw [List.length_map, List.length_cons]; omega) h)
        walk_at "hs"
        refine a_setL0 e2' ?_
        walk_at "hs"
        refine q _ _ (Int.emod_nonneg _ (by omega)) (Int.emod_lt_of_pos _ hm) ⟨(x / many) :: r, m, by rw [upd_ne nsc]; exact e1', upd_same, hl'⟩ (fun a o ha h1 h2 => by rw [upd_ne h2]; exact gd a o ha h1 h2)
def sp__law_pick : Sp := fun vs H Q _ => ∃ (st c r : Addr) (l : List Int), vs = [.ref st, .ref r] ∧ StA H st c ∧ Ob st c H r (.lst (l.map V.int)) ∧ 0 < l.length ∧ l.length ≤ 1000 ∧ ∀ d H', d ∈ l → StA H' st c → Gd st c H H' → Q (.int d) H'
theorem ok__law_pick (T : Txt K mg) : FnOk P w K mg base CX0 2 T.f__law_pick T.fd__law_pick ["state", "row"] (sp__law_pick) := by
  have G__law_draw := ok__law_draw (P := P) (w := w) (base := base) T
  refine T.F__law_pick.ok sc__law_pick (fun vs H Q E h => ?len) (fun cdv A outer s H vs Q E hr h => ?body)
  · obtain ⟨st, c, r, l, rfl, _⟩ := h
    rfl
  · obtain ⟨st, c, r, l, rfl, hs, ho, h0, h1, q⟩ := h
    refine ⟨_, (pss_one (ps_ret (pe_ix (ixL_ (K := K) rfl) (pv 1) (pe_call G__law_draw (hr.mono (by decide)) (by rfl) T.g__law_draw T.F__law_draw.kp T.b__law_draw .nil pass0 (pa_cons (pv 0) (pa_cons (pe_callB (lenK_ (K := K) rfl) (by rfl) T.m_len PySem.boot_len (pa_cons (pv 1) pa_nil)) pa_nil))) (fun _ _ => rfl)))), ?_⟩
    have hr1 := ho.at_
    walk_at "hs"
    refine ⟨st, c, _, rfl, hs, by rw [List.length_map]; omega, by rw [List.length_map]; omega, fun d H' d0 d1 hs' gd => ?_⟩
    rw [List.length_map] at d1
    refine a_ixL (sql (ho.go gd).at_) (at_int d0 d1) (q _ _ ?_ hs' gd)
    have hx : d.toNat < l.length := by omega
    rw [List.getD_eq_getElem?_getD, List.getElem?_eq_getElem hx]
    exact List.getElem_mem hx
def sp__law_gates : Sp := fun vs H Q _ => ∃ (st c : Addr) (p many columns : Int), vs = [.ref st, .int p, .int many, .int columns] ∧ StA H st c ∧ 0 < p ∧ p ≤ 2147483647 ∧ 0 ≤ many ∧ many ≤ 1000 ∧ 0 < columns ∧ columns ≤ 1000 ∧
  ∀ H' q gs, StA H' st c → Gd st c H H' → (gs.length : Int) = many → (∀ g ∈ gs, okG p columns g) → GatesO st c H' q gs → Q (.ref q) H'
theorem ok__law_gates (T : Txt K mg) : FnOk P w K mg base CX0 3 T.f__law_gates T.fd__law_gates ["state", "p", "many", "columns"] (sp__law_gates) := by
  have G__law_draw := ok__law_draw (P := P) (w := w) (base := base) T
  have G__law_pick := ok__law_pick (P := P) (w := w) (base := base) T
  refine T.F__law_gates.ok sc__law_gates (fun vs H Q E h => ?len) (fun cdv A outer s H vs Q E hr h => ?body)
  · obtain ⟨st, c, p, many, columns, rfl, _⟩ := h
    rfl
  · obtain ⟨st, c, p, many, columns, rfl, hs, hp, hb, hm, hm2, hc, hc2, q⟩ := h
    refine ⟨_, (pss_cons (ps_set (i := 4) sc__law_gates.nd rfl (.inl rfl) (pe_lst pa_nil))
      (pss_cons (ps_for PassesOwn.never rfl (pi_range1 (by rfl) T.m_range (pa_cons (pv 2) pa_nil)) (pg_name (i := 5) sc__law_gates.nd rfl (.inl rfl)) (pss_cons (ps_set (i := 6) sc__law_gates.nd rfl (.inl rfl) (pe_call G__law_draw (hr.mono (by decide)) (by rfl) T.g__law_draw T.F__law_draw.kp T.b__law_draw .nil pass0 (pa_cons (pv 0) (pa_cons (pv 3) pa_nil))))
      (pss_cons (ps_set (i := 7) sc__law_gates.nd rfl (.inl rfl) (pe_call G__law_draw (hr.mono (by decide)) (by rfl) T.g__law_draw T.F__law_draw.kp T.b__law_draw .nil pass0 (pa_cons (pv 0) (pa_cons (pv 3) pa_nil))))
      (pss_one (ps_if (pt_cmpR op_eq (pe_call G__law_draw (hr.mono (by decide)) (by rfl) T.g__law_draw T.F__law_draw.kp T.b__law_draw .nil pass0 (pa_cons (pv 0) (pa_cons pe_int pa_nil))) pe_int (nomark _)) (pss_one (ps_expr (bmK_ (K := K) rfl (pe_bm PySem.F.plainAttrs_list PySem.F.slot_list_append PySem.F.type_list_append mt_append (pv 4) (pa_cons (pe_tup (pa_cons pe_str (pa_cons (pe_call G__law_draw (hr.mono (by decide)) (by rfl) T.g__law_draw T.F__law_draw.kp T.b__law_draw .nil pass0 (pa_cons (pv 0) (pa_cons (pv 1) pa_nil))) (pa_cons (pv 6) (pa_cons (pv 7) pa_nil))))) pa_nil))))) (pss_one (ps_expr (bmK_ (K := K) rfl (pe_bm PySem.F.plainAttrs_list PySem.F.slot_list_append PySem.F.type_list_append mt_append (pv 4) (pa_cons (pe_tup (pa_cons pe_str (pa_cons (pe_call G__law_draw (hr.mono (by decide)) (by rfl) T.g__law_draw T.F__law_draw.kp T.b__law_draw .nil pass0 (pa_cons (pv 0) (pa_cons (pv 1) pa_nil))) (pa_cons (pv 6) (pa_cons (pe_call G__law_pick (hr.mono (by decide)) (by rfl) T.g__law_pick T.F__law_pick.kp T.b__law_pick .nil pass0 (pa_cons (pv 0) (pa_cons (pe_lst (pa_cons pe_int (pa_cons (pe_call G__law_draw (hr.mono (by decide)) (by rfl) T.g__law_draw T.F__law_draw.kp T.b__law_draw .nil pass0 (pa_cons (pv 0) (pa_cons (pv 1) pa_nil))) pa_nil))) pa_nil))) (pa_cons (pv 7) pa_nil)))))) pa_nil))))))))))
      (pss_one (ps_ret (pv 4))))), ?_⟩
    walk_at "hs"
    refine ⟨Nat.zero_le _, fun ga nga => ?_⟩
    walk_at "hs"
    have nn := hs.neS nga
    refine fo_range (fun i σ H' => StA H' st c ∧ Gd st c H H' ∧ ∃ (gs : List Gate) (x5 x6 x7 : Option V), σ = [some (.ref st), some (.int p), some (.int many), some (.int columns), some (.ref ga), x5, x6, x7] ∧ gs.length = i ∧ i ≤ many.toNat ∧ (∀ g ∈ gs, okG p columns g) ∧ GatesO st c H' ga gs) ?_ ?_ ?_
    · exact ⟨hs.mut nn.1 nn.2, (Gd.refl H).mut nga, [], none, none, none, rfl, rfl, Nat.zero_le _, fun g hg => by simp at hg, [], ⟨upd_same, nn.1, nn.2⟩, rfl, fun i t g e => by simp at e⟩
    · rintro i σ H1 hi ⟨s1, g1, gs, x5, x6, x7, rfl, hgl, _, hok, hgo⟩
      walk_at "hs"
      refine ⟨st, c, columns, rfl, s1, hc, by omega, fun x H2 x0 x1 s2 g2 => ?_⟩
      walk_at "hs"
      refine ⟨st, c, columns, rfl, s2, hc, by omega, fun y H3 y0 y1 s3 g3 => ?_⟩
      walk_at "hs"
      refine ⟨st, c, 2, rfl, s3, by omega, by omega, fun d H4 d0 d1 s4 g4 => ?_⟩
      have hgo4 := hgo.go (g2.trans (g3.trans g4))
      have g14 := g1.trans (g2.trans (g3.trans g4))
      walk_at "hs"
      refine ifd (fun hd => ?_) (fun hd => ?_)
      · obtain ⟨ts, o1, o2, o3⟩ := id hgo4
        have o1' := o1.at_
        walk_at "hs"
        refine ⟨st, c, p, rfl, s4, hp, by omega, fun a H5 a0 a1 s5 g5 => ?_⟩
        walk_at "hs"
        refine ⟨sz (show 4 ≤ 1000000 by decide), fun t nt => ?_⟩
        have nt' := s5.neS nt
        have g5' : Gd st c H4 (upd H5 t (.tup [.str "mul", .int a, .int x, .int y])) := g5.trans (Gd.of (same_upd nt))
        walk_at "hs"
        refine a_append (o1.go g5').at_ (szl (by rw [List.length_map]; omega)) ?_
        walk_at "hs"
        refine ⟨(s5.same (same_upd nt)).mut nn.1 nn.2, (g14.trans g5').mut nga, gs ++ [.mul a x y], _, _, _, rfl, by rw [List.length_append, hgl]; rfl, by omega, fun g hg => ?_, GatesO.app (g := .mul a x y) (o1.go g5') o2 (fun i t g e1 e2 => (o3 i t g e1 e2).go g5') ⟨upd_same, nt'.1, nt'.2⟩⟩
        rcases List.mem_append.mp hg with h | h
        · exact hok g h
        · rw [List.mem_singleton.mp h]
          exact ⟨⟨a0, a1⟩, ⟨x0, x1⟩, y0, y1⟩
      · obtain ⟨ts, o1, o2, o3⟩ := id hgo4
        have o1' := o1.at_
        walk_at "hs"
        refine ⟨st, c, p, rfl, s4, hp, by omega, fun a H5 a0 a1 s5 g5 => ?_⟩
        walk_at "hs"
        refine ⟨st, c, p, rfl, s5, hp, by omega, fun b H6 b0 b1 s6 g6 => ?_⟩
        walk_at "hs"
        refine ⟨sz (show 2 ≤ 1000000 by decide), fun lr nlr => ?_⟩
        walk_at "hs"
        refine ⟨st, c, lr, [0, b], rfl, s6.same (same_upd nlr), Ob.new s6 nlr, show 0 < 2 by decide, show 2 ≤ 1000 by decide, fun b' H7 hb' s7 g7 => ?_⟩
        have bb : 0 ≤ b' ∧ b' < p := by
          simp only [List.mem_cons, List.not_mem_nil, or_false] at hb'
          omega
        walk_at "hs"
        refine ⟨sz (show 5 ≤ 1000000 by decide), fun t nt => ?_⟩
        have nt' := s7.neS nt
        have g5' : Gd st c H4 (upd H7 t (.tup [.str "lin", .int a, .int x, .int b', .int y])) := (((g5.trans g6).trans (Gd.of (same_upd nlr))).trans g7).trans (Gd.of (same_upd nt))
        walk_at "hs"
        refine a_append (o1.go g5').at_ (szl (by rw [List.length_map]; omega)) ?_
        walk_at "hs"
        refine ⟨(s7.same (same_upd nt)).mut nn.1 nn.2, (g14.trans g5').mut nga, gs ++ [.lin a x b' y], _, _, _, rfl, by rw [List.length_append, hgl]; rfl, by omega, fun g hg => ?_, GatesO.app (g := .lin a x b' y) (o1.go g5') o2 (fun i t g e1 e2 => (o3 i t g e1 e2).go g5') ⟨upd_same, nt'.1, nt'.2⟩⟩
        rcases List.mem_append.mp hg with h | h
        · exact hok g h
        · rw [List.mem_singleton.mp h]
          exact ⟨⟨a0, a1⟩, ⟨x0, x1⟩, bb, y0, y1⟩
    · rintro σ H1 ⟨s1, g1, gs, x5, x6, x7, rfl, hgl, _, hok, hgo⟩
      walk_at "hs"
      exact q H1 ga gs s1 g1 (by omega) hok hgo
def sp__law_point : Sp := fun vs H Q _ => ∃ (st c : Addr) (p : Int) (bits : Nat), vs = [.ref st, .int p, .int (bits : Int)] ∧ StA H st c ∧ 2 ≤ p ∧ p ≤ 2147483647 ∧ bits ≤ 10 ∧
  ∀ H' q pt, StA H' st c → Gd st c H H' → pt.length = bits → In 0 p pt → Ob st c H' q (.lst (pt.map V.int)) → Q (.ref q) H'
theorem ok__law_point (T : Txt K mg) : FnOk P w K mg base CX0 3 T.f__law_point T.fd__law_point ["state", "p", "bits"] (sp__law_point) := by
  have G__law_pick := ok__law_pick (P := P) (w := w) (base := base) T
  have G__law_draw := ok__law_draw (P := P) (w := w) (base := base) T
  refine T.F__law_point.ok sc__law_point (fun vs H Q E h => ?len) (fun cdv A outer s H vs Q E hr h => ?body)
  · obtain ⟨st, c, p, bits, rfl, _⟩ := h
    rfl
  · obtain ⟨st, c, p, bits, rfl, hs, hp, hb, hbits, q⟩ := h
    refine ⟨_, (pss_cons (ps_set (i := 3) sc__law_point.nd rfl (.inr rfl) (pe_call G__law_pick (hr.mono (by decide)) (by rfl) T.g__law_pick T.F__law_pick.kp T.b__law_pick .nil pass0 (pa_cons (pv 0) (pa_cons (pe_lst (pa_cons pe_int (pa_cons (pv 1) pa_nil))) pa_nil))))
      (pss_one (ps_ret (pe_lc (own := [("k", 4)]) rfl sc__law_point.nd (pi_range1 (by rfl) T.m_range (pa_cons (pv 2) pa_nil)) (blkOk_by (own := [("k", 4)]) (N := N__law_point) (sc := defScope s__law_point) (by decide +kernel)) (fun _ _ _ _ _ => (pg_name (i := 4) sc__law_point.nd rfl (.inl rfl))) (fun _ _ _ _ _ => pts_nil) (fun _ _ _ _ _ => (pe_call G__law_draw (hr.mono (by decide)) (by rfl) T.g__law_draw T.F__law_draw.kp T.b__law_draw .nil pass0 (pa_cons (pv 0) (pa_cons (pv 3) pa_nil)))))))), ?_⟩
    walk_at "hs"
    refine ⟨sz (show 2 ≤ 1000000 by decide), fun r nr => ?_⟩
    walk_at "hs"
    refine ⟨st, c, r, [2, p], rfl, hs.same (same_upd nr), Ob.new hs nr, show 0 < 2 by decide, show 2 ≤ 1000 by decide, fun most H2 hmost sa2 g2 => ?_⟩
    have bm : 2 ≤ most ∧ most ≤ p := by
      simp only [List.mem_cons, List.not_mem_nil, or_false] at hmost
      omega
    walk_at "hs"
    refine c_draw (n := bits) (st := st) (c := c) (fun v => ∃ d, v = V.int d ∧ 0 ≤ d ∧ d < p) rfl (by omega) (fun R r => ?_) sa2 ?_ ?_
    · walk_at "hs"
      exact r
    · intro j hj H' R sa' g' r
      walk_at "hs"
      refine ⟨st, c, most, rfl, sa', by omega, by omega, fun d H'' d0 d1 sa'' g'' => ?_⟩
      exact r _ _ ⟨d, rfl, d0, by omega⟩ sa'' g''
    intro pa H9 ys2 npa sa9 g9 hys2 hP2 opa
    obtain ⟨pt, rfl, hpt⟩ := vals_ints ys2 hP2
    rw [List.length_map] at hys2
    exact q H9 pa pt sa9 (((Gd.of (same_upd nr)).trans g2).trans g9) hys2 hpt opa
def sp__law_near : Sp := fun vs H Q _ => ∃ (a : Addr) (corner p : Int) (pt : List Int), vs = [.ref a, .int corner, .int p] ∧ H a = some (.lst (pt.map V.int)) ∧ 2 ≤ p ∧ p ≤ 2147483647 ∧ pt.length ≤ 10 ∧ In 0 p pt ∧ Q (.int (nearM p pt corner)) H
theorem ok__law_near (T : Txt K mg) : FnOk P w K mg base CX0 1 T.f__law_near T.fd__law_near ["point", "corner", "p"] (sp__law_near) := by
  refine T.F__law_near.ok sc__law_near (fun vs H Q E h => ?len) (fun cdv A outer s H vs Q E hr h => ?body)
  · obtain ⟨a, corner, p, pt, rfl, _⟩ := h
    rfl
  · obtain ⟨a, corner, p, pt, rfl, ha, hp, hb, hl, hin, q⟩ := h
    refine ⟨_, (pss_cons (ps_set (i := 3) sc__law_near.nd rfl (.inl rfl) pe_int)
      (pss_cons (ps_for PassesOwn.never rfl (pi_range1 (by rfl) T.m_range (pa_cons (pe_callB (lenK_ (K := K) rfl) (by rfl) T.m_len PySem.boot_len (pa_cons (pv 0) pa_nil)) pa_nil)) (pg_name (i := 4) sc__law_near.nd rfl (.inl rfl)) (pss_cons (ps_set (i := 5) sc__law_near.nd rfl (.inl rfl) (pe_op op_mod (pe_callTy call_int1 (by rfl) T.m_int (by decide +kernel) (pa_cons (pe_op op_fdivW (pv 1) (pe_op op_shl pe_int (pv 4))) pa_nil)) pe_int))
      (pss_one (ps_set (i := 3) sc__law_near.nd rfl (.inl rfl) (pe_op op_mul (pv 3) (pe_ifExp (pt_cmpR op_eq (pv 5) pe_int (nomark _)) (pe_ix (ixL_ (K := K) rfl) (pv 0) (pv 4) (fun _ _ => rfl)) (pe_op op_sub (pe_op op_add pe_int (pv 2)) (pe_ix (ixL_ (K := K) rfl) (pv 0) (pv 4) (fun _ _ => rfl)))))))))
      (pss_one (ps_ret (pe_op op_mod (pe_callTy call_int1 (by rfl) T.m_int (by decide +kernel) (pa_cons (pv 3) pa_nil)) (pv 2)))))), ?_⟩
    walk_at "hs"
    rw [List.length_map, Int.toNat_natCast]
    refine ⟨by omega, by omega, ?_⟩
    refine fo_range (fun i σ H' => H' = H ∧ i ≤ pt.length ∧ ∃ x4 x5, σ = [some (.ref a), some (.int corner), some (.int p), some (.int (prodM p pt corner i)), x4, x5]) ?_ ?_ ?_
    · exact ⟨rfl, Nat.zero_le _, none, none, rfl⟩
    · rintro i σ H' hi ⟨rfl, hi', x4, x5, rfl⟩
      have h2 : 0 < (1 : Int) * 2 ^ ((i : Int)).toNat ∧ (1 : Int) * 2 ^ ((i : Int)).toNat ≤ 1024 := by
        rw [shl1]
        have a1 : (2 : Nat) ^ i ≤ 2 ^ 10 := Nat.pow_le_pow_right (by decide) (by omega)
        have a2 : 0 < (2 : Nat) ^ i := Nat.pow_pos (by decide)
        omega
      have bx := in_getD hin (x := (i : Int)) (by omega) (by omega)
      have fm : facM p pt corner i = if corner / (1 * 2 ^ ((i : Int)).toNat) % 2 = 1 then pt.getD ((i : Int)).toNat 0 else 1 + p - pt.getD ((i : Int)).toNat 0 := rfl
      walk_at "hs"
      refine ifd (fun hc => ?_) (fun hc => ?_)
      · rw [if_pos hc] at fm
        walk_at "hs"
        rw [prodM_succ, fm]
        exact ⟨rfl, by omega, _, _, rfl⟩
      · rw [if_neg hc] at fm
        walk_at "hs"
        rw [prodM_succ, fm]
        exact ⟨rfl, by omega, _, _, rfl⟩
    · rintro σ H' ⟨rfl, _, x4, x5, rfl⟩
      walk_at "hs"
      exact q
def sp_law (K : PySem.W.Frag) : Sp := fun vs H Q _ => ∃ (a : Addr) (ns : List Int), vs = [.ref a] ∧ SqL K H a (ns.map V.int) ∧ ns.length ≤ 63 ∧ ∀ H', Q (.bl true) H'
theorem ok_law (T : Txt K mg) : RunsAt P w K mg base CX0 4 T.f_law T.fd_law ["script"] (sp_law K) := by
  have G__law_state := ok__law_state (P := P) (w := w) (base := base) T
  have G__law_pick := ok__law_pick (P := P) (w := w) (base := base) T
  have G__law_draw := ok__law_draw (P := P) (w := w) (base := base) T
  have G__law_gates := ok__law_gates (P := P) (w := w) (base := base) T
  have G_weights := ok_weights (P := P) (w := w) (base := base) T
  have G__law_point := ok__law_point (P := P) (w := w) (base := base) T
  have G__law_near := ok__law_near (P := P) (w := w) (base := base) T
  have G_weights_by := ok_weights_by (P := P) (w := w) (base := base) T
  refine runs_of T.F_law sc_law (fun vs H Q E h => ?len) (fun cdv A outer s H vs Q E hG hr h => ?body)
  · obtain ⟨a, ns, rfl, _⟩ := h
    rfl
  · obtain ⟨a, ns, rfl, hS, hl, q⟩ := h
    refine ⟨_, (pss_cons (ps_set (i := 1) sc_law.nd rfl (.inl rfl) (pe_call G__law_state (hr.mono (by decide)) (by rfl) T.g__law_state T.F__law_state.kp T.b__law_state .nil pass0 (pa_cons (pv 0) pa_nil)))
      (pss_cons (ps_set (i := 2) sc_law.nd rfl (.inr rfl) (pe_call G__law_pick (hr.mono (by decide)) (by rfl) T.g__law_pick T.F__law_pick.kp T.b__law_pick .nil pass0 (pa_cons (pv 1) (pa_cons (pe_lst (pa_cons pe_int (pa_cons pe_int (pa_cons pe_int (pa_cons pe_int (pa_cons pe_int (pa_cons pe_int pa_nil))))))) pa_nil))))
      (pss_cons (ps_set (i := 3) sc_law.nd rfl (.inl rfl) (pe_call G__law_draw (hr.mono (by decide)) (by rfl) T.g__law_draw T.F__law_draw.kp T.b__law_draw .nil pass0 (pa_cons (pv 1) (pa_cons pe_int pa_nil))))
      (pss_cons (ps_set (i := 4) sc_law.nd rfl (.inl rfl) (pe_call G__law_draw (hr.mono (by decide)) (by rfl) T.g__law_draw T.F__law_draw.kp T.b__law_draw .nil pass0 (pa_cons (pv 1) (pa_cons pe_int pa_nil))))
      (pss_cons (ps_set (i := 5) sc_law.nd rfl (.inl rfl) (pe_call G__law_gates (hr.mono (by decide)) (by rfl) T.g__law_gates T.F__law_gates.kp T.b__law_gates .nil pass0 (pa_cons (pv 1) (pa_cons (pv 2) (pa_cons (pe_op op_shl pe_int (pv 3)) (pa_cons (pe_op op_shl pe_int (pv 4)) pa_nil))))))
      (pss_cons (ps_for PassesOwn.never rfl (pi_range1 (by rfl) T.m_range (pa_cons pe_int pa_nil)) (pg_name (i := 6) sc_law.nd rfl (.inl rfl)) (pss_cons (ps_set (i := 7) sc_law.nd rfl (.inl rfl) (pe_lst (pa_cons (pe_call G__law_point (hr.mono (by decide)) (by rfl) T.g__law_point T.F__law_point.kp T.b__law_point .nil pass0 (pa_cons (pv 1) (pa_cons (pv 2) (pa_cons (pv 3) pa_nil)))) (pa_cons (pe_call G__law_point (hr.mono (by decide)) (by rfl) T.g__law_point T.F__law_point.kp T.b__law_point .nil pass0 (pa_cons (pv 1) (pa_cons (pv 2) (pa_cons (pv 4) pa_nil)))) (pa_cons (pe_call G__law_point (hr.mono (by decide)) (by rfl) T.g__law_point T.F__law_point.kp T.b__law_point .nil pass0 (pa_cons (pv 1) (pa_cons (pv 2) (pa_cons (pv 4) pa_nil)))) pa_nil)))))
      (pss_cons (ps_set (i := 8) sc_law.nd rfl (.inl rfl) (pe_lst (pa_cons pe_int (pa_cons pe_int (pa_cons pe_int pa_nil)))))
      (pss_cons (ps_for PassesOwn.never rfl (pi_range1 (by rfl) T.m_range (pa_cons (pe_callB (lenK_ (K := K) rfl) (by rfl) T.m_len PySem.boot_len (pa_cons (pv 5) pa_nil)) pa_nil)) (pg_name (i := 9) sc_law.nd rfl (.inl rfl)) (pss_cons (ps_set (i := 10) sc_law.nd rfl (.inl rfl) (pe_ix (ixL_ (K := K) rfl) (pv 5) (pv 9) (fun _ _ => rfl)))
      (pss_cons (ps_asg (pe_ifExp (pt_cmpR op_eq (pe_ix (ixT_ (K := K) rfl) (pv 10) pe_int (fun _ _ => rfl)) pe_str (nomark _)) (pe_tup (pa_cons (pe_ix (ixT_ (K := K) rfl) (pv 10) pe_int (fun _ _ => rfl)) (pa_cons (pe_ix (ixT_ (K := K) rfl) (pv 10) pe_int (fun _ _ => rfl)) pa_nil))) (pe_tup (pa_cons (pe_ix (ixT_ (K := K) rfl) (pv 10) pe_int (fun _ _ => rfl)) (pa_cons (pe_ix (ixT_ (K := K) rfl) (pv 10) pe_int (fun _ _ => rfl)) pa_nil)))) (pgT_ (K := K) rfl (pg_tup rfl (pgs_cons (pg_name (i := 11) sc_law.nd rfl (.inl rfl)) (pgs_cons (pg_name (i := 12) sc_law.nd rfl (.inl rfl)) pgs_nil)))))
      (pss_cons (ps_set (i := 13) sc_law.nd rfl (.inl rfl) (pe_op op_mul (pe_op op_mul (pe_call G__law_near (hr.mono (by decide)) (by rfl) T.g__law_near T.F__law_near.kp T.b__law_near .nil pass0 (pa_cons (pe_ix (ixL_ (K := K) rfl) (pv 7) pe_int (fun _ _ => rfl)) (pa_cons (pv 9) (pa_cons (pv 2) pa_nil)))) (pe_call G__law_near (hr.mono (by decide)) (by rfl) T.g__law_near T.F__law_near.kp T.b__law_near .nil pass0 (pa_cons (pe_ix (ixL_ (K := K) rfl) (pv 7) pe_int (fun _ _ => rfl)) (pa_cons (pv 11) (pa_cons (pv 2) pa_nil))))) (pe_call G__law_near (hr.mono (by decide)) (by rfl) T.g__law_near T.F__law_near.kp T.b__law_near .nil pass0 (pa_cons (pe_ix (ixL_ (K := K) rfl) (pv 7) pe_int (fun _ _ => rfl)) (pa_cons (pv 12) (pa_cons (pv 2) pa_nil))))))
      (pss_one (ps_if (pt_cmpR op_eq (pe_ix (ixT_ (K := K) rfl) (pv 10) pe_int (fun _ _ => rfl)) pe_str (nomark _)) (pss_one (ps_set (i := 8) sc_law.nd rfl (.inl rfl) (pe_lst (pa_cons (pe_op op_add (pe_ix (ixL_ (K := K) rfl) (pv 8) pe_int (fun _ _ => rfl)) (pe_op op_mul (pe_ix (ixT_ (K := K) rfl) (pv 10) pe_int (fun _ _ => rfl)) (pv 13))) (pa_cons (pe_op op_add (pe_ix (ixL_ (K := K) rfl) (pv 8) pe_int (fun _ _ => rfl)) (pe_op op_mul (pe_ix (ixT_ (K := K) rfl) (pv 10) pe_int (fun _ _ => rfl)) (pv 13))) (pa_cons (pe_ix (ixL_ (K := K) rfl) (pv 8) pe_int (fun _ _ => rfl)) pa_nil)))))) (pss_one (ps_set (i := 8) sc_law.nd rfl (.inl rfl) (pe_lst (pa_cons (pe_ix (ixL_ (K := K) rfl) (pv 8) pe_int (fun _ _ => rfl)) (pa_cons (pe_ix (ixL_ (K := K) rfl) (pv 8) pe_int (fun _ _ => rfl)) (pa_cons (pe_op op_add (pe_ix (ixL_ (K := K) rfl) (pv 8) pe_int (fun _ _ => rfl)) (pe_op op_mul (pe_ix (ixT_ (K := K) rfl) (pv 10) pe_int (fun _ _ => rfl)) (pv 13))) pa_nil))))))))))))
      (pss_cons (ps_set (i := 8) sc_law.nd rfl (.inl rfl) (pe_tup (pa_cons (pe_op op_mod (pe_callTy call_int1 (by rfl) T.m_int (by decide +kernel) (pa_cons (pe_ix (ixL_ (K := K) rfl) (pv 8) pe_int (fun _ _ => rfl)) pa_nil)) (pv 2)) (pa_cons (pe_op op_mod (pe_callTy call_int1 (by rfl) T.m_int (by decide +kernel) (pa_cons (pe_ix (ixL_ (K := K) rfl) (pv 8) pe_int (fun _ _ => rfl)) pa_nil)) (pv 2)) (pa_cons (pe_op op_mod (pe_callTy call_int1 (by rfl) T.m_int (by decide +kernel) (pa_cons (pe_ix (ixL_ (K := K) rfl) (pv 8) pe_int (fun _ _ => rfl)) pa_nil)) (pv 2)) pa_nil)))))
      (pss_cons (ps_setLc (i := 14) (own := [("point", 16)]) rfl sc_law.nd rfl rfl (sw_true rfl rfl rfl (by decide +kernel)) (piL_ (K := K) rfl (pv 7)) (blkOk_by (own := [("point", 16)]) (N := N_law) (sc := defScope s_law) (by decide +kernel)) (fun _ _ _ _ _ => (pg_name (i := 16) sc_law.nd rfl (.inr rfl))) (fun _ _ _ _ _ => pts_nil) (fun _ _ _ _ _ => (pe_lc (own := [("k", 15)]) rfl sc_law.nd (pi_range1 (by rfl) T.m_range (pa_cons (pe_op op_shl pe_int (pe_callB (lenK_ (K := K) rfl) (by rfl) T.m_len PySem.boot_len (pa_cons (pv 16) pa_nil))) pa_nil)) (blkOk_by (own := [("k", 15)]) (N := N_law) (by kernel_rfl)) (fun _ _ _ _ _ => (pg_name (i := 15) sc_law.nd rfl (.inl rfl))) (fun _ _ _ _ _ => pts_nil) (fun _ _ _ _ _ => (pe_call G__law_near (hr.mono (by decide)) (by rfl) T.g__law_near T.F__law_near.kp T.b__law_near .nil pass0 (pa_cons (pv 16) (pa_cons (pv 15) (pa_cons (pv 2) pa_nil))))))))
      (pss_cons (ps_set (i := 17) sc_law.nd rfl (.inl rfl) (pe_callB (call_rep (K := K) rfl (hu64 hr) hG) (by rfl) T.m_repr (by decide +kernel) (pa_cons (pe_lst (pa_cons (pv 5) (pa_cons (pv 7) (pa_cons (pv 14) pa_nil)))) pa_nil)))
      (pss_cons (ps_set (i := 18) sc_law.nd rfl (.inl rfl) (pe_call G_weights (hr.mono (by decide)) (by rfl) T.g_weights T.F_weights.kp T.b_weights .nil pass0 (pa_cons (pv 5) (pa_cons (pe_ix (ixL_ (K := K) rfl) (pv 7) pe_int (fun _ _ => rfl)) (pa_cons (pe_ix (ixL_ (K := K) rfl) (pv 7) pe_int (fun _ _ => rfl)) (pa_cons (pe_ix (ixL_ (K := K) rfl) (pv 7) pe_int (fun _ _ => rfl)) (pa_cons (pv 2) pa_nil)))))))
      (pss_cons (ps_if (pw_or (pt_not (pt_val (pe_callB (isi_ (K := K) rfl) (by rfl) T.m_isinstance (by decide +kernel) (pa_cons (pv 18) (pa_cons (pe_bltn (v := .ty "tuple") (by rfl) T.m_tuple (by decide +kernel) rfl) pa_nil))))) (pw_or (pt_cmpR (neD_ (K := K) rfl (hu64 hr)) (pv 18) (pv 8) (nomark _)) (pw_or1 (pt_cmpR (neD_ (K := K) rfl (hu64 hr)) (pe_call G_weights_by (hr.mono (by decide)) (by rfl) T.g_weights_by T.F_weights_by.kp T.b_weights_by .nil pass0 (pa_cons (pv 5) (pa_cons (pe_ix (ixL_ (K := K) rfl) (pv 14) pe_int (fun _ _ => rfl)) (pa_cons (pe_ix (ixL_ (K := K) rfl) (pv 14) pe_int (fun _ _ => rfl)) (pa_cons (pe_ix (ixL_ (K := K) rfl) (pv 14) pe_int (fun _ _ => rfl)) (pa_cons (pv 2) pa_nil)))))) (pv 8) (nomark _))))).pt (pss_one (ps_ret pe_bl)) pss_nil)
      (pss_one (ps_if (pt_cmpR op_ne (pe_callB (call_rep (K := K) rfl (hu64 hr) hG) (by rfl) T.m_repr (by decide +kernel) (pa_cons (pe_lst (pa_cons (pv 5) (pa_cons (pv 7) (pa_cons (pv 14) pa_nil)))) pa_nil)) (pv 17) (nomark _)) (pss_one (ps_ret pe_bl)) pss_nil)))))))))))
      (pss_one (ps_ret pe_bl)))))))), ?_⟩
    walk_at "hs"
    refine ⟨a, ns, rfl, hS, hl, fun H1 st c s1 sa1 => ?_⟩
    walk_at "hs"
    refine ⟨sz (show 6 ≤ 1000000 by decide), fun r nr => ?_⟩
    walk_at "hs"
    refine ⟨st, c, r, [2, 3, 5, 97, 65537, 2147483647], rfl, sa1.same (same_upd nr), Ob.new sa1 nr, by decide, by decide, fun p H2 hp sa2 g2 => ?_⟩
    have bp : 2 ≤ p ∧ p ≤ 2147483647 := by
      simp only [List.mem_cons, List.not_mem_nil, or_false] at hp
      omega
    walk_at "hs"
    refine ⟨st, c, 4, rfl, sa2, by omega, by omega, fun bits H3 b0 b1 sa3 g3 => ?_⟩
    obtain ⟨B, rfl⟩ : ∃ B : Nat, bits = (B : Int) := ⟨bits.toNat, by omega⟩
    walk_at "hs"
    refine ⟨st, c, 4, rfl, sa3, by omega, by omega, fun below H4 b0' b1' sa4 g4 => ?_⟩
    obtain ⟨b, rfl⟩ : ∃ b : Nat, below = (b : Int) := ⟨below.toNat, by omega⟩
    have hB : 2 ^ B ≤ 8 := Nat.le_trans (Nat.pow_le_pow_right (by decide) (show B ≤ 3 by omega)) (by decide)
    have hb : 2 ^ b ≤ 8 := Nat.le_trans (Nat.pow_le_pow_right (by decide) (show b ≤ 3 by omega)) (by decide)
    have hB0 : 0 < 2 ^ B := Nat.pow_pos (by decide)
    have hb0 : 0 < 2 ^ b := Nat.pow_pos (by decide)
    walk_at "hs"
    refine ⟨st, c, p, _, _, rfl, sa4, by omega, bp.2, by rw [shl1]; omega, by rw [shl1]; omega, by rw [shl1]; omega, by rw [shl1]; omega, fun H5 ga gs sa5 g5 hgl hok hgo => ?_⟩
    rw [shl1] at hgl hok
    have hgl2 : gs.length = 2 ^ B := by omega
    walk_at "hs"
    refine fo_range (n := 4) (fun i σ H' => StA H' st c ∧ GatesO st c H' ga gs ∧ ∃ x6 x7 x8 x9 x10 x11 x12 x13 x14 x15 x16 x17 x18, σ = [some (.ref a), some (.ref st), some (.int p), some (.int (B : Int)), some (.int (b : Int)), some (.ref ga), x6, x7, x8, x9, x10, x11, x12, x13, x14, x15, x16, x17, x18]) ?_ ?_ ?_
    · exact ⟨sa5, hgo, _, _, _, _, _, _, _, _, _, _, _, _, _, rfl⟩
    · rintro i σ H' hi ⟨sa6, hgo6, x6, x7, x8, x9, x10, x11, x12, x13, x14, x15, x16, x17, x18, rfl⟩
      walk_at "hs"
      refine ⟨st, c, p, B, rfl, sa6, bp.1, bp.2, by omega, fun HA P0 p0 saA gA hl0 in0 o0 => ?_⟩
      walk_at "hs"
      refine ⟨st, c, p, b, rfl, saA, bp.1, bp.2, by omega, fun HB P1 p1 saB gB hl1 in1 o1 => ?_⟩
      walk_at "hs"
      refine ⟨st, c, p, b, rfl, saB, bp.1, bp.2, by omega, fun HC P2 p2 saC gC hl2 in2 o2 => ?_⟩
      walk_at "hs"
      refine ⟨sz (show 3 ≤ 1000000 by decide), fun pl npl => ?_⟩
      walk_at "hs"
      refine ⟨sz (show 3 ≤ 1000000 by decide), fun d0 nd0 => ?_⟩
      have sCD : Same HC (upd (upd HC pl (.lst [.ref P0, .ref P1, .ref P2])) d0 (.lst [.int 0, .int 0, .int 0])) := (same_upd npl).trans (same_upd nd0)
      have epl : (upd (upd HC pl (.lst [.ref P0, .ref P1, .ref P2])) d0 (.lst [.int 0, .int 0, .int 0])) pl = some (.lst [.ref P0, .ref P1, .ref P2]) := same_upd nd0 _ _ upd_same
      have ed0 : (upd (upd HC pl (.lst [.ref P0, .ref P1, .ref P2])) d0 (.lst [.int 0, .int 0, .int 0])) d0 = some (.lst [.int 0, .int 0, .int 0]) := upd_same
      generalize upd (upd HC pl (.lst [.ref P0, .ref P1, .ref P2])) d0 (.lst [.int 0, .int 0, .int 0]) = HD at sCD epl ed0 ⊢
      have saD := saC.same sCD
      have hgoD := (hgo6.go (gA.trans (gB.trans gC))).go (Gd.of sCD)
      have e0 := ((o0.go (gB.trans gC)).same sCD).at_
      have e1 := ((o1.go gC).same sCD).at_
      have e2 := (o2.same sCD).at_
      obtain ⟨ts, og, htl, hts⟩ := id hgoD
      have og1 := og.at_
      have hgat := hgoD.at_
      walk_at "hs"
      rw [List.length_map, htl, Int.toNat_natCast]
      refine ⟨by omega, by omega, ?_⟩
      refine fo_range (fun i2 σ H' => Same HD H' ∧ i2 ≤ gs.length ∧ ∃ da x9 x10 x11 x12 x13, σ = [some (.ref a), some (.ref st), some (.int p), some (.int (B : Int)), some (.int (b : Int)), some (.ref ga), some (.int (i : Int)), some (.ref pl), some (.ref da), x9, x10, x11, x12, x13, x14, x15, x16, x17, x18] ∧ H' da = some (.lst (tri (dueF p gs p0 p1 p2 i2)))) ?_ ?_ ?_
      · exact ⟨Same.refl _, Nat.zero_le _, d0, _, _, _, _, _, rfl, ed0⟩
      · rintro i2 σ H' hi2 ⟨sH, hi2', da, x9, x10, x11, x12, x13, rfl, eda⟩
        have eg : gs[i2]? = some gs[i2] := List.getElem?_eq_getElem hi2
        have hti : i2 < ts.length := by omega
        have et : ts[i2]? = some ts[i2] := List.getElem?_eq_getElem hti
        have ht := sH _ _ (hts i2 _ _ et eg).at_
        have hgo2 := hok _ (List.getElem_mem hi2)
        have hds := dueF_succ (p := p) (p0 := p0) (p1 := p1) (p2 := p2) eg
        have hatg : atI (ts.map V.ref) (i2 : Int) = some (.ref ts[i2]) := atI_nat (by rw [List.getElem?_map, et]; rfl)
        generalize gs[i2] = g at *
        generalize ts[i2] = t at *
        generalize dueF p gs p0 p1 p2 i2 = dd at *
        walk_at "hs"
        refine a_ixL (sql (sH _ _ og1)) hatg ?_
        have nb : ∀ (q : List Int) (x : Int), 0 ≤ nearM p q x ∧ nearM p q x < p := fun q x => ⟨Int.emod_nonneg _ (by omega), Int.emod_lt_of_pos _ (by omega)⟩
        cases g with
        | lin ca x cb y =>
          obtain ⟨hca, hx, hcb, hy⟩ := hgo2
          have ht' : H' t = some (.tup [.str "lin", .int ca, .int x, .int cb, .int y]) := ht
          have n0 := nb p0 (i2 : Int)
          have n1 := nb p1 x
          have n2 := nb p2 y
          walk_at "hs"
          refine ifd (fun _ => ?_) (fun h => absurd rfl h)
          walk_at "hs"
          refine ⟨sz (show 2 ≤ 1000000 by decide), fun tt ntt => ?_⟩
          have sT := same_upd (o := .tup [.int x, .int y]) ntt
          have sDT := sH.trans sT
          refine a_gtup upd_same rfl ?_
          have ht2 := sT _ _ ht'
          have eda2 := sT _ _ eda
          have epl2 := sDT _ _ epl
          generalize upd H' tt (.tup [.int x, .int y]) = HT at *
          walk_at "hs"
          refine ⟨P0, (i2 : Int), p, p0, rfl, sDT _ _ e0, bp.1, bp.2, by omega, in0, ?_⟩
          walk_at "hs"
          refine ⟨P1, x, p, p1, rfl, sDT _ _ e1, bp.1, bp.2, by omega, in1, ?_⟩
          walk_at "hs"
          refine ⟨P2, y, p, p2, rfl, sDT _ _ e2, bp.1, bp.2, by omega, in2, ?_⟩
          walk_at "hs"
          refine ifd (fun _ => ?_) (fun h => absurd rfl h)
          unfold tri at eda2
          walk_at "hs"
          refine ⟨sz (show 3 ≤ 1000000 by decide), fun da' nda' => ?_⟩
          walk_at "hs"
          rw [hds]
          exact ⟨sDT.trans (same_upd nda'), by omega, da', _, _, _, _, _, rfl, upd_same⟩
        | mul ca x y =>
          obtain ⟨hca, hx, hy⟩ := hgo2
          have ht' : H' t = some (.tup [.str "mul", .int ca, .int x, .int y]) := ht
          have n0 := nb p0 (i2 : Int)
          have n1 := nb p1 x
          have n2 := nb p2 y
          walk_at "hs"
          refine ifd (fun h => absurd h (by decide)) (fun _ => ?_)
          walk_at "hs"
          refine ⟨sz (show 2 ≤ 1000000 by decide), fun tt ntt => ?_⟩
          have sT := same_upd (o := .tup [.int x, .int y]) ntt
          have sDT := sH.trans sT
          refine a_gtup upd_same rfl ?_
          have ht2 := sT _ _ ht'
          have eda2 := sT _ _ eda
          have epl2 := sDT _ _ epl
          generalize upd H' tt (.tup [.int x, .int y]) = HT at *
          walk_at "hs"
          refine ⟨P0, (i2 : Int), p, p0, rfl, sDT _ _ e0, bp.1, bp.2, by omega, in0, ?_⟩
          walk_at "hs"
          refine ⟨P1, x, p, p1, rfl, sDT _ _ e1, bp.1, bp.2, by omega, in1, ?_⟩
          walk_at "hs"
          refine ⟨P2, y, p, p2, rfl, sDT _ _ e2, bp.1, bp.2, by omega, in2, ?_⟩
          walk_at "hs"
          refine ifd (fun h => absurd h (by decide)) (fun _ => ?_)
          unfold tri at eda2
          walk_at "hs"
          refine ⟨sz (show 3 ≤ 1000000 by decide), fun da' nda' => ?_⟩
          walk_at "hs"
          rw [hds]
          exact ⟨sDT.trans (same_upd nda'), by omega, da', _, _, _, _, _, rfl, upd_same⟩
      · rintro σ H' ⟨sH, _, da, x9, x10, x11, x12, x13, rfl, eda⟩
        have hde := due_eq (p := p) (n := 2 ^ b) bp.1 (p0 := p0) (p1 := p1) (p2 := p2) (by rw [hl0, hgl2]) (by rw [hl1]) (by rw [hl2]) hok
        unfold tri at eda
        walk_at "hs"
        refine ⟨sz (show 3 ≤ 1000000 by decide), fun td ntd => ?_⟩
        have sTD := same_upd (o := .tup (tri (wbM p gs (ptM p p0) (ptM p p1) (ptM p p2)))) ntd
        have etd : (upd H' td (.tup (tri (wbM p gs (ptM p p0) (ptM p p1) (ptM p p2))))) td = some (.tup (tri (wbM p gs (ptM p p0) (ptM p p1) (ptM p p2)))) := upd_same
        have hsame : (HO.tup [V.int ((dueF p gs p0 p1 p2 gs.length).1 % p), V.int ((dueF p gs p0 p1 p2 gs.length).2.1 % p), V.int ((dueF p gs p0 p1 p2 gs.length).2.2 % p)]) = .tup (tri (wbM p gs (ptM p p0) (ptM p p1) (ptM p p2))) := by
          rw [hde]
          rfl
        rw [hsame]
        have sD1 := sH.trans sTD
        generalize upd H' td (.tup (tri (wbM p gs (ptM p p0) (ptM p p1) (ptM p p2)))) = H1' at *
        have epl1 := sD1 _ _ epl
        walk_at "hs"
        have A0 := sD1 _ _ e0
        have A1 := sD1 _ _ e1
        have A2 := sD1 _ _ e2
        refine c_new (fun j o => o = .lst ((nearL p (([p0, p1, p2] : List (List Int)).getD j [])).map V.int)) rfl (fun R r => a_var rfl r) (sql epl1) (show 3 ≤ 1000000 by decide) ?_ ?_
        · intro j x hj H3 R s3 r
          have hx : ∃ Pj pj, x = .ref Pj ∧ H3 Pj = some (.lst (pj.map V.int)) ∧ pj.length ≤ 10 ∧ In 0 p pj ∧ ([p0, p1, p2] : List (List Int)).getD j [] = pj := by
            match j, hj with
            | 0, hj => exact ⟨P0, p0, (Option.some.inj hj).symm, s3 _ _ A0, by omega, in0, rfl⟩
            | 1, hj => exact ⟨P1, p1, (Option.some.inj hj).symm, s3 _ _ A1, by omega, in1, rfl⟩
            | 2, hj => exact ⟨P2, p2, (Option.some.inj hj).symm, s3 _ _ A2, by omega, in2, rfl⟩
            | n + 3, hj => simp at hj
          obtain ⟨Pj, pj, rfl, eP, lj, inj, esel⟩ := hx
          rw [esel] at r
          have hlm : (pj.map V.int).length = pj.length := List.length_map ..
          have hpw : 2 ^ pj.length ≤ 1024 := Nat.le_trans (Nat.pow_le_pow_right (by decide) lj) (by decide)
          refine c_rng (n := 2 ^ pj.length) ((nearL p pj).map V.int) rfl (by omega) (fun R r => ?_) (by simp [nearL]) ?_ ?_
          · walk_at "hs"
            rw [hlm, shl1]
            exact r
          · intro k hk H4 R2 s4 r2
            walk_at "hs"
            refine ⟨Pj, (k : Int), p, pj, rfl, s4 _ _ eP, bp.1, bp.2, lj, inj, ?_⟩
            refine r2 _ _ (Same.refl _) ?_
            rw [List.getElem?_map]
            unfold nearL
            rw [List.getElem?_map, List.getElem?_range hk]
            rfl
          · intro D H4 nD s4 eD
            exact r D H4 _ s4 nD eD rfl
        intro nl H2' as nnl s2' has enl hSj
        obtain ⟨N0, N1, N2, rfl⟩ : ∃ N0 N1 N2, as = [N0, N1, N2] := by
          match as, has with
          | [x, y, z], _ => exact ⟨x, y, z, rfl⟩
        obtain ⟨_, f0, rfl⟩ := hSj 0 N0 rfl
        obtain ⟨_, f1, rfl⟩ := hSj 1 N1 rfl
        obtain ⟨_, f2, rfl⟩ := hSj 2 N2 rfl
        have f0 : H2' N0 = some (.lst ((ptM p p0).map V.int)) := by rw [← nearL_eq bp.1]; exact f0
        have f1 : H2' N1 = some (.lst ((ptM p p1).map V.int)) := by rw [← nearL_eq bp.1]; exact f1
        have f2 : H2' N2 = some (.lst ((ptM p p2).map V.int)) := by rw [← nearL_eq bp.1]; exact f2
        have sD2 := sD1.trans s2'
        have epl2 := sD2 _ _ epl
        have etd2 := s2' _ _ etd
        have lp : ∀ q : List Int, q.length ≤ 3 → (ptM p q).length ≤ 8 := fun q hq => by
          rw [ptM_len]
          exact Nat.le_trans (Nat.pow_le_pow_right (by decide) hq) (by decide)
        have hDD : ∀ Hx rl, Same H2' Hx → Hx rl = some (.lst [.ref ga, .ref pl, .ref nl]) → Dp K Hx (.ref rl) (.list [.list (gs.map dGate), .list [.list (dInts p0), .list (dInts p1), .list (dInts p2)], .list [.list (dInts (ptM p p0)), .list (dInts (ptM p p1)), .list (dInts (ptM p p2))]]) := by
          intro Hx rl sx el
          have sD3 := sD2.trans sx
          refine .lst (sql el) (.cons (.lst (sql (sD3 _ _ og1)) (dp_gates ts gs htl fun i t g a b => sD3 _ _ (hts i t g a b).at_)) (.cons (.lst (sql (sD3 _ _ epl)) (.cons (dp_lst (sD3 _ _ e0)) (.cons (dp_lst (sD3 _ _ e1)) (.cons (dp_lst (sD3 _ _ e2)) .nil)))) (.cons (.lst (sql (sx _ _ enl)) (.cons (dp_lst (sx _ _ f0)) (.cons (dp_lst (sx _ _ f1)) (.cons (dp_lst (sx _ _ f2)) .nil)))) .nil)))
        have gd := gates_data bp.2 (n := ((2 ^ b : Nat) : Int)) (by omega) gs hok
        have tm : ∀ q : List Int, In 0 p q → tameL (dInts q) = true := fun q hq => tameL_ints (lo := 0) (hi := p) (by omega) (by omega) q hq
        have tmp : ∀ q : List Int, tameL (dInts (ptM p q)) = true := fun q => tameL_ints (lo := 0) (hi := 2147483648) (by omega) (by omega) _ (ptM_in (by omega) bp.2 q)
        have c0 := lp p0 (by omega)
        have c1 := lp p1 (by omega)
        have c2 := lp p2 (by omega)
        have hrep : ∀ Hx rl (Qx : VK), Same H2' Hx → Hx rl = some (.lst [.ref ga, .ref pl, .ref nl]) → Qx (.str (PyData.list [.list (gs.map dGate), .list [.list (dInts p0), .list (dInts p1), .list (dInts p2)], .list [.list (dInts (ptM p p0)), .list (dInts (ptM p p1)), .list (dInts (ptM p p2))]]).shown) Hx → rRep K [.ref rl] Hx Qx := by
          intro Hx rl Qx sx el qx
          refine a_rep (hDD Hx rl sx el) ?_ ?_ ?_ qx
          · simp only [tame, tameL, gd.1, tm p0 in0, tm p1 in1, tm p2 in2, tmp, Bool.and_self]
          · simp only [costD, costL, costL_ints]
            omega
          · simp only [PyData.depth, PyData.depthAll, depthL_ints]
            omega
        walk_at "hs"
        refine ⟨sz (show 3 ≤ 1000000 by decide), fun rl nrl => ?_⟩
        walk_at "hs"
        refine hrep _ rl _ (same_upd nrl) upd_same ?_
        have epl3 := same_upd (o := .lst [.ref ga, .ref pl, .ref nl]) nrl _ _ epl2
        walk_at "hs"
        have s3 : Same H2' (upd H2' rl (.lst [.ref ga, .ref pl, .ref nl])) := same_upd nrl
        have sD4 := sD2.trans s3
        refine ⟨ga, P0, P1, P2, p, ((2 ^ b : Nat) : Int), gs, p0, p1, p2, rfl, hgat.same sD4, sD4 _ _ e0, sD4 _ _ e1, sD4 _ _ e2, by rw [hl0, hgl2], by rw [hl1], by rw [hl2], by omega, by omega, by omega, by omega, bp.2, hok, fun H5' tw s5 ntw etw => ?_⟩
        walk_at "hs"
        refine a_isi (ty_tup etw) kb_tt ?_
        walk_at "hs"
        refine iff' ?_
        have etd5 := s5 _ _ (s3 _ _ etd2)
        have fl3 : flatTo 1 (.tuple (dInts [(wbM p gs (ptM p p0) (ptM p p1) (ptM p p2)).1, (wbM p gs (ptM p p0) (ptM p p1) (ptM p p2)).2.1, (wbM p gs (ptM p p0) (ptM p p1) (ptM p p2)).2.2])) = true := by
          unfold flatTo
          exact flatL_ints 0 _
        have heq := eqv_self _ (flat_ok 1 _ fl3).2.2
        have hshape := shaped_flat fl3 (by decide)
        have dpt : ∀ Hx t, Hx t = some (.tup (tri (wbM p gs (ptM p p0) (ptM p p1) (ptM p p2)))) → Dp K Hx (.ref t) (.tuple (dInts [(wbM p gs (ptM p p0) (ptM p p1) (ptM p p2)).1, (wbM p gs (ptM p p0) (ptM p p1) (ptM p p2)).2.1, (wbM p gs (ptM p p0) (ptM p p1) (ptM p p2)).2.2])) := fun Hx t h => .tup (sqt h) (dp_ints [_, _, _])
        walk_at "hs"
        refine a_neD (dpt _ _ etw) (dpt _ _ etd5) hshape hshape ?_
        rw [heq]
        walk_at "hs"
        refine iff' ?_
        have enl5 := s5 _ _ (s3 _ _ enl)
        walk_at "hs"
        have sD5 := sD4.trans s5
        have s25 := s3.trans s5
        refine ⟨ga, N0, N1, N2, p, ((2 ^ b : Nat) : Int), gs, _, _, _, rfl, hgat.same sD5, s25 _ _ f0, s25 _ _ f1, s25 _ _ f2, by rw [ptM_len, hl0, hgl2], by rw [ptM_len, hl1], by rw [ptM_len, hl2], by omega, bp.2, ptM_in (by omega) bp.2 _, ptM_in (by omega) bp.2 _, ptM_in (by omega) bp.2 _, hok, fun H6' tw2 s6 ntw2 etw2 => ?_⟩
        walk_at "hs"
        refine a_neD (dpt _ _ etw2) (dpt _ _ (s6 _ _ etd5)) hshape hshape ?_
        rw [heq]
        walk_at "hs"
        refine iff' ?_
        walk_at "hs"
        refine ⟨sz (show 3 ≤ 1000000 by decide), fun rl2 nrl2 => ?_⟩
        walk_at "hs"
        refine hrep _ rl2 _ ((s25.trans s6).trans (same_upd nrl2)) upd_same ?_
        walk_at "hs"
        refine ifnd (fun h => absurd rfl h) (fun _ => ?_)
        walk_at "hs"
        have sF := (sD5.trans s6).trans (same_upd (o := .lst [.ref ga, .ref pl, .ref nl]) nrl2)
        exact ⟨saD.same sF, hgoD.go (Gd.of sF), _, _, _, _, _, _, _, _, _, _, _, _, _, rfl⟩
    · rintro σ H' ⟨sa6, hgo6, x6, x7, x8, x9, x10, x11, x12, x13, x14, x15, x16, x17, x18, rfl⟩
      walk_at "hs"
      exact q _
theorem all_mk {l : PySem.W.OpenLaw} {w : World} {K : PySem.W.Frag} {h : Heap} {mg : Str → Option Value} {fa f1 f2 f3 f4 f5 f6 f7 f8 f9 f10 : Addr} (X : K.In h) (G : h.Ns mainGlobals mg) (hfa : mg "law" = some (.ref fa))
    {od1 an1 od2 an2 od3 an3 od4 an4 od5 an5 od6 an6 od7 an7 od8 an8 od9 an9 od10 an10 : Option Addr} {sl1 sl2 sl3 sl4 sl5 sl6 sl7 sl8 sl9 sl10 : Array (Option Value)} {oc1 kV1 dc1 pm1 cd1 ct1 oc2 kV2 dc2 pm2 cd2 ct2 oc3 kV3 dc3 pm3 cd3 ct3 oc4 kV4 dc4 pm4 cd4 ct4 oc5 kV5 dc5 pm5 cd5 ct5 oc6 kV6 dc6 pm6 cd6 ct6 oc7 kV7 dc7 pm7 cd7 ct7 oc8 kV8 dc8 pm8 cd8 ct8 oc9 kV9 dc9 pm9 cd9 ct9 oc10 kV10 dc10 pm10 cd10 ct10 : Value}
    (a1 : PySem.W.nsIn K mainGlobals "point_table" = some (some (.ref f1))) (l1 : K.lookup f1 = some ⟨oc1, od1, .func (PySem.W.fnOf "point_table" "point_table" (defArgs s_point_table) (defBody s_point_table) (defScope s_point_table) .none kV1 dc1 pm1 an1 cd1 ct1), sl1⟩) (c1 : PySem.W.codeIn K cd1 "point_table" = true) (k1 : PySem.W.keepIn K (.ref f1) = true)
    (a2 : PySem.W.nsIn K mainGlobals "weights_by" = some (some (.ref f2))) (l2 : K.lookup f2 = some ⟨oc2, od2, .func (PySem.W.fnOf "weights_by" "weights_by" (defArgs s_weights_by) (defBody s_weights_by) (defScope s_weights_by) .none kV2 dc2 pm2 an2 cd2 ct2), sl2⟩) (c2 : PySem.W.codeIn K cd2 "weights_by" = true) (k2 : PySem.W.keepIn K (.ref f2) = true)
    (a3 : PySem.W.nsIn K mainGlobals "weights" = some (some (.ref f3))) (l3 : K.lookup f3 = some ⟨oc3, od3, .func (PySem.W.fnOf "weights" "weights" (defArgs s_weights) (defBody s_weights) (defScope s_weights) .none kV3 dc3 pm3 an3 cd3 ct3), sl3⟩) (c3 : PySem.W.codeIn K cd3 "weights" = true) (k3 : PySem.W.keepIn K (.ref f3) = true)
    (a4 : PySem.W.nsIn K mainGlobals "_law_state" = some (some (.ref f4))) (l4 : K.lookup f4 = some ⟨oc4, od4, .func (PySem.W.fnOf "_law_state" "_law_state" (defArgs s__law_state) (defBody s__law_state) (defScope s__law_state) .none kV4 dc4 pm4 an4 cd4 ct4), sl4⟩) (c4 : PySem.W.codeIn K cd4 "_law_state" = true) (k4 : PySem.W.keepIn K (.ref f4) = true)
    (a5 : PySem.W.nsIn K mainGlobals "_law_draw" = some (some (.ref f5))) (l5 : K.lookup f5 = some ⟨oc5, od5, .func (PySem.W.fnOf "_law_draw" "_law_draw" (defArgs s__law_draw) (defBody s__law_draw) (defScope s__law_draw) .none kV5 dc5 pm5 an5 cd5 ct5), sl5⟩) (c5 : PySem.W.codeIn K cd5 "_law_draw" = true) (k5 : PySem.W.keepIn K (.ref f5) = true)
    (a6 : PySem.W.nsIn K mainGlobals "_law_pick" = some (some (.ref f6))) (l6 : K.lookup f6 = some ⟨oc6, od6, .func (PySem.W.fnOf "_law_pick" "_law_pick" (defArgs s__law_pick) (defBody s__law_pick) (defScope s__law_pick) .none kV6 dc6 pm6 an6 cd6 ct6), sl6⟩) (c6 : PySem.W.codeIn K cd6 "_law_pick" = true) (k6 : PySem.W.keepIn K (.ref f6) = true)
    (a7 : PySem.W.nsIn K mainGlobals "_law_gates" = some (some (.ref f7))) (l7 : K.lookup f7 = some ⟨oc7, od7, .func (PySem.W.fnOf "_law_gates" "_law_gates" (defArgs s__law_gates) (defBody s__law_gates) (defScope s__law_gates) .none kV7 dc7 pm7 an7 cd7 ct7), sl7⟩) (c7 : PySem.W.codeIn K cd7 "_law_gates" = true) (k7 : PySem.W.keepIn K (.ref f7) = true)
    (a8 : PySem.W.nsIn K mainGlobals "_law_point" = some (some (.ref f8))) (l8 : K.lookup f8 = some ⟨oc8, od8, .func (PySem.W.fnOf "_law_point" "_law_point" (defArgs s__law_point) (defBody s__law_point) (defScope s__law_point) .none kV8 dc8 pm8 an8 cd8 ct8), sl8⟩) (c8 : PySem.W.codeIn K cd8 "_law_point" = true) (k8 : PySem.W.keepIn K (.ref f8) = true)
    (a9 : PySem.W.nsIn K mainGlobals "_law_near" = some (some (.ref f9))) (l9 : K.lookup f9 = some ⟨oc9, od9, .func (PySem.W.fnOf "_law_near" "_law_near" (defArgs s__law_near) (defBody s__law_near) (defScope s__law_near) .none kV9 dc9 pm9 an9 cd9 ct9), sl9⟩) (c9 : PySem.W.codeIn K cd9 "_law_near" = true) (k9 : PySem.W.keepIn K (.ref f9) = true)
    (a10 : PySem.W.nsIn K mainGlobals "law" = some (some (.ref f10))) (l10 : K.lookup f10 = some ⟨oc10, od10, .func (PySem.W.fnOf "law" "law" (defArgs s_law) (defBody s_law) (defScope s_law) .none kV10 dc10 pm10 an10 cd10 ct10), sl10⟩) (c10 : PySem.W.codeIn K cd10 "law" = true) (k10 : PySem.W.keepIn K (.ref f10) = true)
    (z_abs : PySem.W.nsIn K mainGlobals "abs" = some none)
    (z_int : PySem.W.nsIn K mainGlobals "int" = some none)
    (z_isinstance : PySem.W.nsIn K mainGlobals "isinstance" = some none)
    (z_len : PySem.W.nsIn K mainGlobals "len" = some none)
    (z_range : PySem.W.nsIn K mainGlobals "range" = some none)
    (z_repr : PySem.W.nsIn K mainGlobals "repr" = some none)
    (z_tuple : PySem.W.nsIn K mainGlobals "tuple" = some none)
    (z_zip : PySem.W.nsIn K mainGlobals "zip" = some none)
    : ∃ fd : FuncData, (∀ (s : Shared) (v : Value), BindsTo s fd ⟨[v], []⟩ [("script", v)]) ∧ ∀ base : Heap, K.In base → base.Ns mainGlobals mg → RunsAt l.prog w K mg base CX0 4 fa fd ["script"] (sp_law K) := by
  have e := hfa.symm.trans (PySem.W.mg_of X G a10)
  cases e
  have F1 := fun_mk (st := s_point_table) l1 c1 k1
  have b1 := F1.binds (ps := ["point", "p"]) fun _ _ _ _ _ _ us hl => match us, hl with | [_, _], _ => rfl
  have F2 := fun_mk (st := s_weights_by) l2 c2 k2
  have b2 := F2.binds (ps := ["gates", "near_g", "near_x", "near_y", "p"]) fun _ _ _ _ _ _ us hl => match us, hl with | [_, _, _, _, _], _ => rfl
  have F3 := fun_mk (st := s_weights) l3 c3 k3
  have b3 := F3.binds (ps := ["gates", "g", "x", "y", "p"]) fun _ _ _ _ _ _ us hl => match us, hl with | [_, _, _, _, _], _ => rfl
  have F4 := fun_mk (st := s__law_state) l4 c4 k4
  have b4 := F4.binds (ps := ["script"]) fun _ _ _ _ _ _ us hl => match us, hl with | [_], _ => rfl
  have F5 := fun_mk (st := s__law_draw) l5 c5 k5
  have b5 := F5.binds (ps := ["state", "many"]) fun _ _ _ _ _ _ us hl => match us, hl with | [_, _], _ => rfl
  have F6 := fun_mk (st := s__law_pick) l6 c6 k6
  have b6 := F6.binds (ps := ["state", "row"]) fun _ _ _ _ _ _ us hl => match us, hl with | [_, _], _ => rfl
  have F7 := fun_mk (st := s__law_gates) l7 c7 k7
  have b7 := F7.binds (ps := ["state", "p", "many", "columns"]) fun _ _ _ _ _ _ us hl => match us, hl with | [_, _, _, _], _ => rfl
  have F8 := fun_mk (st := s__law_point) l8 c8 k8
  have b8 := F8.binds (ps := ["state", "p", "bits"]) fun _ _ _ _ _ _ us hl => match us, hl with | [_, _, _], _ => rfl
  have F9 := fun_mk (st := s__law_near) l9 c9 k9
  have b9 := F9.binds (ps := ["point", "corner", "p"]) fun _ _ _ _ _ _ us hl => match us, hl with | [_, _, _], _ => rfl
  have F10 := fun_mk (st := s_law) l10 c10 k10
  have b10 := F10.binds (ps := ["script"]) fun _ _ _ _ _ _ us hl => match us, hl with | [_], _ => rfl
  exact ⟨PySem.W.fnOf "law" "law" (defArgs s_law) (defBody s_law) (defScope s_law) .none kV10 dc10 pm10 an10 cd10 ct10, fun s v => .of_eq rfl, fun base _ _ =>
    ok_law (T := (⟨_, _, F1, b1, PySem.W.mg_of X G a1,
    _, _, F2, b2, PySem.W.mg_of X G a2,
    _, _, F3, b3, PySem.W.mg_of X G a3,
    _, _, F4, b4, PySem.W.mg_of X G a4,
    _, _, F5, b5, PySem.W.mg_of X G a5,
    _, _, F6, b6, PySem.W.mg_of X G a6,
    _, _, F7, b7, PySem.W.mg_of X G a7,
    _, _, F8, b8, PySem.W.mg_of X G a8,
    _, _, F9, b9, PySem.W.mg_of X G a9,
    _, _, F10, b10, PySem.W.mg_of X G a10,
    PySem.W.mg_none_of X G z_abs,
    PySem.W.mg_none_of X G z_int,
    PySem.W.mg_none_of X G z_isinstance,
    PySem.W.mg_none_of X G z_len,
    PySem.W.mg_none_of X G z_range,
    PySem.W.mg_none_of X G z_repr,
    PySem.W.mg_none_of X G z_tuple,
    PySem.W.mg_none_of X G z_zip⟩ : Txt K mg))⟩
end
end Lk
open PySem PySem.W PyProof.Rows
set_option maxRecDepth 100000 in
set_option maxHeartbeats 0 in
theorem PySem.Challenge.cw_layerask_k51_weights_of_a_layer_holds : PySem.Challenge.rw_layerask_k51_weights_of_a_layer.Holds := by
  w_on; o_law; k_head; (case hw => w_witness2)
  k_fill
  refine Lk.walk_free (l := PySem.Challenge.rw_layerask_k51_weights_of_a_layer) (n := 63) (k := 4) (x := "script") (CX := L2.CX0) (sp := Lk.sp_law) rfl (by decide) rfl ⟨rfl, by decide, by decide⟩ (fun w h Y => PySem.W.kIn_of Y) ?F (fun _ _ a ns hl _ hS => ⟨a, ns, rfl, hS, hl, fun _ => rfl⟩) (fun _ _ _ _ h => h)
  case F =>
    intro w mg fa h KX G hmg
    refine' Lk.all_mk KX G hmg ?a1 ?l1 ?c1 ?k1 ?a2 ?l2 ?c2 ?k2 ?a3 ?l3 ?c3 ?k3 ?a4 ?l4 ?c4 ?k4 ?a5 ?l5 ?c5 ?k5 ?a6 ?l6 ?c6 ?k6 ?a7 ?l7 ?c7 ?k7 ?a8 ?l8 ?c8 ?k8 ?a9 ?l9 ?c9 ?k9 ?a10 ?l10 ?c10 ?k10 ?z_abs ?z_int ?z_isinstance ?z_len ?z_range ?z_repr ?z_tuple ?z_zip
    (case a1 => k_is)
    (case l1 => k_is)
    (case c1 => k_is)
    (case k1 => k_is)
    (case a2 => k_is)
    (case l2 => k_is)
    (case c2 => k_is)
    (case k2 => k_is)
    (case a3 => k_is)
    (case l3 => k_is)
    (case c3 => k_is)
    (case k3 => k_is)
    (case a4 => k_is)
    (case l4 => k_is)
    (case c4 => k_is)
    (case k4 => k_is)
    (case a5 => k_is)
    (case l5 => k_is)
    (case c5 => k_is)
    (case k5 => k_is)
    (case a6 => k_is)
    (case l6 => k_is)
    (case c6 => k_is)
    (case k6 => k_is)
    (case a7 => k_is)
    (case l7 => k_is)
    (case c7 => k_is)
    (case k7 => k_is)
    (case a8 => k_is)
    (case l8 => k_is)
    (case c8 => k_is)
    (case k8 => k_is)
    (case a9 => k_is)
    (case l9 => k_is)
    (case c9 => k_is)
    (case k9 => k_is)
    (case a10 => k_is)
    (case l10 => k_is)
    (case c10 => k_is)
    (case k10 => k_is)
    (case z_abs => k_is)
    (case z_int => k_is)
    (case z_isinstance => k_is)
    (case z_len => k_is)
    (case z_range => k_is)
    (case z_repr => k_is)
    (case z_tuple => k_is)
    (case z_zip => k_is)

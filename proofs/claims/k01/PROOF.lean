import PyProof.Rows.All
import Wide.All
import OpenK.AllK
import Wide.FinOn
import HandS.ForMost
import HandS.Evl
import HandS.Flow
import HandS.Style
import HandS.IsInst
import PyProof.StrBlock2
import PyProof.ReprRoads
import PyProof.Rows.RegFStrParts
import KE.KDictKeyed
import HandS.DictTup
import KE.DataIsa
import KE.KDictDisplayH
import PyProof.ReprLen
import HandS.Base
import HandS.TupAny
import HandS.More
import PyProof.StrLawsIn
import HandS.TupMul
import PySem.Challenge.RW_whoholds_k01_words_rows_programs
set_option Elab.async false
set_option linter.all false
set_option maxRecDepth 100000
set_option maxHeartbeats 4000000
namespace My
open PySem L2 Evl
section
open PySem L2 Evl

/-! ### heads -/
section
variable {σ : L2.St} {H : Hp} {Q : VK} {nx : L2.St → Hp → Prop} {rt : VK} {bk ct : L2.St → Hp → Prop} {K : PySem.W.Frag}
theorem w_var {i : Nat} {v : V} (h : σ[i]? = some (some v)) (q : Q v H) : tVar i σ H Q := ⟨v, h, q⟩
theorem w_c {v : V} (q : Q v H) : tC v σ H Q := q
theorem w_op {r : R2} {ta tb : TE} (h : ta σ H fun x H1 => tb σ H1 fun y H2 => r x y H2 Q) : tOp r ta tb σ H Q := h
theorem w_un {r : V → Hp → VK → Prop} {ta : TE} (h : ta σ H fun x H1 => r x H1 Q) : tUn r ta σ H Q := h
theorem w_rI0 {g : Int → Int → V} {i j : Int} (q : Q (g i j) H) : rI0 g (.int i) (.int j) H Q := ⟨i, j, rfl, rfl, q⟩
theorem w_rI {C : Int → Int → Prop} {g : Int → Int → V} {i j : Int} (c : C i j) (q : Q (g i j) H) : rI C g (.int i) (.int j) H Q := ⟨i, j, rfl, rfl, c, q⟩
theorem w_rU {g : Int → V} {i : Int} (q : Q (g i) H) : rU g (.int i) H Q := ⟨i, rfl, q⟩
theorem w_eqS {x y : Str} (q : Q (.bl (decide (V.str x = V.str y))) H) : rEq (.str x) (.str y) H Q := ⟨rfl, q⟩
theorem w_neS {x y : Str} (q : Q (.bl (!decide (V.str x = V.str y))) H) : rNe (.str x) (.str y) H Q := ⟨rfl, q⟩
theorem w_eqI {x y : Int} (q : Q (.bl (decide (V.int x = V.int y))) H) : rEq (.int x) (.int y) H Q := ⟨rfl, q⟩
theorem w_neI {x y : Int} (q : Q (.bl (!decide (V.int x = V.int y))) H) : rNe (.int x) (.int y) H Q := ⟨rfl, q⟩
theorem w_nil {Q : List V → Hp → Prop} (q : Q [] H) : tNil σ H Q := q
theorem w_cons {ta : TE} {tr : TA} {Q : List V → Hp → Prop} (h : ta σ H fun x H1 => tr σ H1 fun xs H2 => Q (x :: xs) H2) : tCons ta tr σ H Q := h
theorem w_tup {t : TA} (h : t σ H fun xs H1 => xs.length ≤ sizeLine ∧ ∀ p, H1 p = none → Q (.ref p) (upd H1 p (.tup xs))) : tTup t σ H Q := h
theorem w_lst {t : TA} (h : t σ H fun xs H1 => xs.length ≤ sizeLine ∧ ∀ p, H1 p = none → Q (.ref p) (upd H1 p (.lst xs))) : tLst t σ H Q := h
theorem w_size {n : Nat} {R : Prop} (h : n ≤ 100000) (q : R) : n ≤ sizeLine ∧ R := ⟨sz_of h, q⟩
theorem w_cb {r : List V → Hp → VK → Prop} {t : TA} (h : t σ H fun vs H1 => r vs H1 Q) : tCB r t σ H Q := h
theorem w_call {sp : Sp} {E : XK} {t : TA} (h : t σ H fun vs H1 => sp vs H1 Q E) : tCall sp [] E t σ H Q := by
  unfold tCall
  have e : (fun (vs : List V) (H1 : Hp) => sp (vs ++ []) H1 Q E) = fun vs H1 => sp vs H1 Q E := by
    funext vs H1
    rw [List.append_nil]
  rw [e]
  exact h
theorem w_bm {T : String} {r : V → List V → Hp → VK → Prop} {to : TE} {t : TA} (h : to σ H fun x H1 => tyV K T x H1 ∧ t σ H1 fun xs H2 => r x xs H2 Q) : tBM K T r to t σ H Q := h
theorem w_bm0 {T : String} {r : V → List V → Hp → VK → Prop} {to : TE} (h : to σ H fun x H1 => tyV K T x H1 ∧ r x [] H1 Q) : tBM0 K T r to σ H Q := h
theorem w_tyL {p : Addr} {xs : List V} {R : Prop} (h : SqL K H p xs) (q : R) : tyV K "list" (.ref p) H ∧ R := ⟨.inl ⟨rfl, _, h⟩, q⟩
theorem w_tyS {z : Str} {R : Prop} (q : R) : tyV K "str" (.str z) H ∧ R := ⟨rfl, q⟩
theorem w_ixL {p : Addr} {xs : List V} {i : Int} {v : V} (h : SqL K H p xs) (e : atI xs i = some v) (q : Q v H) : rIxL K (.ref p) (.int i) H Q := ⟨p, xs, i, v, rfl, rfl, h, e, q⟩
theorem w_ixT {p : Addr} {xs : List V} {i : Int} {v : V} (h : SqT K H p xs) (e : atI xs i = some v) (q : Q v H) : rIxT K (.ref p) (.int i) H Q := ⟨p, xs, i, v, rfl, rfl, h, e, q⟩
theorem w_ixS {z : Str} {i : Int} {c : Nat} (h : z.length ≤ 100000) (e : atI z.cps.toList i = some c) (q : Q (.str ⟨#[c]⟩) H) : rIxS (.str z) (.int i) H Q := ⟨z, i, c, rfl, rfl, sz_of h, e, q⟩
theorem w_lenL {p : Addr} {ys : List V} {G : Addr → List V → Prop} (h : SqL K H p ys) (q : G p ys) : ∃ a zs, [V.ref p] = [V.ref a] ∧ (SqL K H a zs ∨ SqT K H a zs) ∧ G a zs := ⟨p, ys, rfl, .inl h, q⟩
theorem w_lenT {p : Addr} {ys : List V} {G : Addr → List V → Prop} (h : SqT K H p ys) (q : G p ys) : ∃ a zs, [V.ref p] = [V.ref a] ∧ (SqL K H a zs ∨ SqT K H a zs) ∧ G a zs := ⟨p, ys, rfl, .inr h, q⟩
theorem w_bl {b : Bool} {G : Bool → Prop} (q : G b) : ∃ k, V.bl b = V.bl k ∧ G k := ⟨b, rfl, q⟩
theorem w_int {b : Int} {G : Int → Prop} (q : G b) : ∃ k, V.int b = V.int k ∧ G k := ⟨b, rfl, q⟩
theorem w_ints {b : Int} {G : Int → Prop} (q : G b) : ∃ k, [V.int b] = [V.int k] ∧ G k := ⟨b, rfl, q⟩
theorem w_strs {b : Str} {G : Str → Prop} (q : G b) : ∃ k, [V.str b] = [V.str k] ∧ G k := ⟨b, rfl, q⟩
theorem w_str2 {a b : Str} {G : Str → Str → Prop} (q : G a b) : ∃ i j, V.str a = V.str i ∧ V.str b = V.str j ∧ G i j := ⟨a, b, rfl, rfl, q⟩
theorem w_isN {x : V} {R : Prop} (q : R) : V.non = V.non ∧ R := ⟨rfl, q⟩
theorem w_test {t : TE} {Q : Bool → Hp → Prop} (h : t σ H fun x H' => ∃ k, x = .bl k ∧ Q k H') : tTest t σ H Q := h
theorem w_tB {t : TE} {Q : Bool → Hp → Prop} (h : t σ H fun x H' => ∃ k, x = .bl k ∧ Q k H') : tB t σ H Q := h
theorem w_tand {t u : TT} {Q : Bool → Hp → Prop} (h : t σ H fun c H1 => if c = true then u σ H1 Q else Q false H1) : tAnd t u σ H Q := h
theorem w_tor {t u : TT} {Q : Bool → Hp → Prop} (h : t σ H fun c H1 => if c = true then Q true H1 else u σ H1 Q) : tOr t u σ H Q := h
theorem w_tnot {t : TT} {Q : Bool → Hp → Prop} (h : t σ H fun c H1 => Q (!c) H1) : tNot t σ H Q := h
theorem w_tyes {Q : Bool → Hp → Prop} (h : Q true H) : tYes σ H Q := h
theorem w_tif {t : TT} {ta tb : TE} (h : t σ H fun c H1 => if c = true then ta σ H1 Q else tb σ H1 Q) : tIf t ta tb σ H Q := h
theorem w_tSl {r : V → Option Int → Option Int → Hp → VK → Prop} {te : TE} {tl th : TO} (h : te σ H fun x H1 => tl σ H1 fun l H2 => th σ H2 fun u H3 => r x l u H3 Q) : tSl r te tl th σ H Q := h
theorem w_noPart {Q : Option Int → Hp → Prop} (h : Q none H) : tNoPart σ H Q := h
theorem w_part {t : TE} {Q : Option Int → Hp → Prop} (h : t σ H fun x H1 => ∃ i, x = .int i ∧ Q (some i) H1) : tPart t σ H Q := h
/-- statements -/
theorem w_seq {t u : TS} (h : t ⟨u ⟨nx, rt, bk, ct⟩, rt, bk, ct⟩ σ H) : tSeq t u ⟨nx, rt, bk, ct⟩ σ H := h
theorem w_asg {te : TE} {g : TG} (h : te σ H fun x H1 => g x σ H1 nx) : tAsg te g ⟨nx, rt, bk, ct⟩ σ H := h
theorem w_gName {i : Nat} {v : V} {Q : L2.St → Hp → Prop} (q : Q (σ.set i (some v)) H) : gName i v σ H Q := q
theorem w_gSub {to ti : TE} {t : TSet} {v : V} {Q : L2.St → Hp → Prop} (h : to σ H fun o H1 => ti σ H1 fun i H2 => t o i v H2 fun H3 => Q σ H3) : gSub to ti t v σ H Q := h
theorem w_drop {te : TE} (h : te σ H fun _ H1 => nx σ H1) : tDrop te ⟨nx, rt, bk, ct⟩ σ H := h
theorem w_ret {te : TE} (h : te σ H rt) : tRet te ⟨nx, rt, bk, ct⟩ σ H := h
theorem w_if {c : TT} {t u : TS} (h : c σ H fun b H1 => if b = true then t ⟨nx, rt, bk, ct⟩ σ H1 else u ⟨nx, rt, bk, ct⟩ σ H1) : tIfS c t u ⟨nx, rt, bk, ct⟩ σ H := h
theorem w_next (h : nx σ H) : tNext ⟨nx, rt, bk, ct⟩ σ H := h
theorem w_cont (h : ct σ H) : tCont ⟨nx, rt, bk, ct⟩ σ H := h
theorem w_brk (h : bk σ H) : tBreak ⟨nx, rt, bk, ct⟩ σ H := h
theorem w_par {i j : Nat} {ta : TA} (h : ta σ H fun vs H1 => ∃ v w, vs = [v, w] ∧ nx ((σ.set i (some v)).set j (some w)) H1) : tPar i j ta ⟨nx, rt, bk, ct⟩ σ H := h
theorem w_par3 {i j l : Nat} {ta : TA} (h : ta σ H fun vs H1 => ∃ u v w, vs = [u, v, w] ∧ nx (((σ.set i (some u)).set j (some v)).set l (some w)) H1) : tPar3 i j l ta ⟨nx, rt, bk, ct⟩ σ H := h
theorem w_two {a b : V} {G : V → V → Prop} (q : G a b) : ∃ v w, [a, b] = [v, w] ∧ G v w := ⟨a, b, rfl, q⟩
theorem w_three {a b c : V} {G : V → V → V → Prop} (q : G a b c) : ∃ u v w, [a, b, c] = [u, v, w] ∧ G u v w := ⟨a, b, c, rfl, q⟩
theorem w_append {l : Addr} {xs : List V} {y : V} (h : H l = some (.lst xs)) (z : xs.length < 100000) (q : Q .non (upd H l (.lst (xs ++ [y])))) : rAppend (.ref l) [y] H Q := ⟨l, xs, y, rfl, rfl, h, sz_lt z, q⟩
theorem w_setL {p : Addr} {xs : List V} {k : Int} {j : Nat} {v : V} {Q : Hp → Prop} (h : H p = some (.lst xs)) (e : ixN xs.length k = some j) (q : Q (upd H p (.lst (xs.set j v)))) : rSetL (.ref p) (.int k) v H Q := ⟨p, xs, k, j, rfl, rfl, h, e, q⟩

/-- what a for, a comprehension says of its iterator -/
def LoopJ (J : It) (g : TG) (tb : TS) (D : Ends) (σ : L2.St) (H : Hp) : Prop := ∃ W : Nat → Nat → L2.St → Hp → Prop, (∃ m, W 0 m σ H) ∧ ∀ i m σ H, W i m σ H →
  (J.stop i H ∧ D.nx σ H) ∨ (J.go i H ∧ ∃ N : L2.St → Hp → Prop, (∀ σ' H', N σ' H' → ∃ m', m' < m ∧ W (i + 1) m' σ' H') ∧ ∀ x H', J.yld i H x H' → g x σ H' fun σ2 H2 => tb { D with nx := N, ct := N, bk := D.nx } σ2 H2)
theorem w_for {wi : TI} {g : TG} {tb : TS} {D : Ends} (h : wi σ H fun J H1 => LoopJ J g tb D σ H1) : tFor wi g tb D σ H := h
theorem w_iR1 {ta : TA} {R : It → Hp → Prop} (h : ta σ H fun vs H1 => ∃ j : Int, vs = [.int j] ∧ -(2 ^ 62) ≤ j ∧ j < 2 ^ 62 ∧ R (Itr 0 j.toNat) H1) : iRng1 ta σ H R := h
theorem w_r1 {n : Int} {G : Int → Prop} (h1 : -100000 ≤ n ∧ n ≤ 100000) (q : G n) : ∃ j : Int, [V.int n] = [.int j] ∧ -(2 ^ 62) ≤ j ∧ j < 2 ^ 62 ∧ G j := ⟨n, rfl, by omega, by omega, q⟩
theorem w_iR2 {ta : TA} {R : It → Hp → Prop} (h : ta σ H fun vs H1 => ∃ i j : Int, vs = [.int i, .int j] ∧ (-(2 ^ 62) ≤ i ∧ i < 2 ^ 62 ∧ -(2 ^ 62) ≤ j ∧ j < 2 ^ 62) ∧ R (Itr i (j - i).toNat) H1) : iRng2 ta σ H R := h
theorem w_r2 {m n : Int} {G : Int → Int → Prop} (h1 : -100000 ≤ m ∧ m ≤ 100000 ∧ -100000 ≤ n ∧ n ≤ 100000) (q : G m n) : ∃ i j : Int, [V.int m, V.int n] = [.int i, .int j] ∧ (-(2 ^ 62) ≤ i ∧ i < 2 ^ 62 ∧ -(2 ^ 62) ≤ j ∧ j < 2 ^ 62) ∧ G i j := ⟨m, n, rfl, by omega, q⟩
theorem w_iL {tl : TE} {R : It → Hp → Prop} (h : tl σ H fun x H1 => ∃ a, x = .ref a ∧ (∃ xs, SqL K H1 a xs) ∧ R (Itl K a) H1) : iList K tl σ H R := h
theorem w_iT {tl : TE} {R : It → Hp → Prop} (h : tl σ H fun x H1 => ∃ a, x = .ref a ∧ (∃ xs, SqT K H1 a xs) ∧ R (Itt K a) H1) : iTup K tl σ H R := h
theorem w_itL {a : Addr} {xs : List V} {G : Addr → Prop} (h : SqL K H a xs) (q : G a) : ∃ b, V.ref a = .ref b ∧ (∃ xs, SqL K H b xs) ∧ G b := ⟨a, rfl, ⟨xs, h⟩, q⟩
theorem w_itT {a : Addr} {xs : List V} {G : Addr → Prop} (h : SqT K H a xs) (q : G a) : ∃ b, V.ref a = .ref b ∧ (∃ xs, SqT K H b xs) ∧ G b := ⟨a, rfl, ⟨xs, h⟩, q⟩
theorem l_list {a : Addr} {xs : List V} {g : TG} {tb : TS} (Pv : Nat → L2.St → Hp → Prop) (h0 : Pv 0 σ H) (hl : ∀ i σ H, i ≤ xs.length → Pv i σ H → SqL K H a xs)
    (hs : ∀ i x σ H, xs[i]? = some x → Pv i σ H → g x σ H fun σ2 H2 => tb ⟨Pv (i + 1), rt, nx, Pv (i + 1)⟩ σ2 H2) (hd : ∀ σ H, Pv xs.length σ H → nx σ H) : LoopJ (Itl K a) g tb ⟨nx, rt, bk, ct⟩ σ H := for_list Pv h0 hl hs hd
theorem l_tup {a : Addr} {xs : List V} {g : TG} {tb : TS} (Pv : Nat → L2.St → Hp → Prop) (h0 : Pv 0 σ H) (hl : ∀ i σ H, i ≤ xs.length → Pv i σ H → SqT K H a xs)
    (hs : ∀ i x σ H, xs[i]? = some x → Pv i σ H → g x σ H fun σ2 H2 => tb ⟨Pv (i + 1), rt, nx, Pv (i + 1)⟩ σ2 H2) (hd : ∀ σ H, Pv xs.length σ H → nx σ H) : LoopJ (Itt K a) g tb ⟨nx, rt, bk, ct⟩ σ H := for_tup Pv h0 hl hs hd
theorem l_range {n : Nat} {g : TG} {tb : TS} (Pv : Nat → L2.St → Hp → Prop) (h0 : Pv 0 σ H)
    (hs : ∀ (i : Nat) σ H, i < n → Pv i σ H → g (.int (i : Int)) σ H fun σ2 H2 => tb ⟨Pv (i + 1), rt, nx, Pv (i + 1)⟩ σ2 H2) (hd : ∀ σ H, Pv n σ H → nx σ H) : LoopJ (Itr 0 n) g tb ⟨nx, rt, bk, ct⟩ σ H :=
  for_range (lo := 0) Pv h0 (fun i σ' H' hi p => by
    have e0 : (0 : Int) + (i : Int) = (i : Int) := Int.zero_add _
    rw [e0]
    exact hs i σ' H' hi p) hd
def CompJ (J : It) (g : TG) (tt : TT) (te : TE) (vs : List Nat) (σ : L2.St) (H1 : Hp) (Q : VK) : Prop := ∀ D, H1 D = none → ∃ W : Nat → Nat → Hp → Prop, (∃ m, W 0 m (upd H1 D (.lst []))) ∧ ∀ i m H, W i m H →
  (J.stop i H ∧ Q (.ref D) H) ∨ (J.go i H ∧ ∃ Nx : Hp → Prop, (∀ H', Nx H' → ∃ m', m' < m ∧ W (i + 1) m' H') ∧ ∀ x H', J.yld i H x H' → g x (wipe σ vs) H' fun σ2 H2 => wipe σ2 vs = wipe σ vs ∧ tt σ2 H2 fun b H3 =>
    if b = true then te σ2 H3 fun y H4 => ∃ acc, H4 D = some (.lst acc) ∧ acc.length < sizeLine ∧ Nx (upd H4 D (.lst (acc ++ [y]))) else Nx H3)
theorem w_lc {wi : TI} {g : TG} {tt : TT} {te : TE} {vs : List Nat} (h : wi σ H fun J H1 => CompJ J g tt te vs σ H1 Q) : tLc wi g tt te vs σ H Q := h
end

/-! ### what a comprehension gives: each item is E, which the new list does not touch -/
def Keeps (E : V → Hp → Prop) : Prop := (∀ y H H', Ex H H' → E y H → E y H') ∧ ∀ y H D xs ys, H D = some (.lst xs) → E y H → E y (upd H D (.lst ys))
section
variable {σ : L2.St} {H : Hp} {Q : VK} {K : PySem.W.Frag} {te : TE} {j : Nat} {vs : List Nat}
theorem c_range {n : Nat} (E : Nat → V → Hp → Prop) (hE : ∀ i, Keeps (E i)) (hn : n ≤ 50000) (hw : ∀ x, wipe ((wipe σ vs).set j (some x)) vs = wipe σ vs)
    (hb : ∀ (i : Nat) H' Q', i < n → Ex H H' → (∀ y H4, Ex H' H4 → E i y H4 → Q' y H4) → te ((wipe σ vs).set j (some (.int (i : Int)))) H' Q')
    (q : ∀ p ys H2, H p = none → Ex H H2 → H2 p = some (.lst ys) → ys.length = n → (∀ i y, ys[i]? = some y → E i y H2) → Q (.ref p) H2) : CompJ (Itr 0 n) (gName j) tYes te vs σ H Q := by
  intro D hD
  refine lc_range (lo := 0) (fun i H' => Ex H H' ∧ ∃ acc : List V, H' D = some (.lst acc) ∧ acc.length = i ∧ ∀ k y, acc[k]? = some y → E k y H') ⟨Ex.new hD, [], upd_same, rfl, fun k y h => by simp at h⟩ (fun i H' hi ⟨e, acc, ha, hl, hy⟩ => ?_) fun H' ⟨e, acc, ha, hl, hy⟩ => q D acc H' hD e ha hl hy
  have e0 : (0 : Int) + (i : Int) = (i : Int) := Int.zero_add _
  rw [e0]
  refine ⟨hw _, ?_⟩
  show te _ H' _
  refine hb i H' _ hi e fun y H4 e4 hE4 => ⟨acc, e4 _ _ ha, sz_lt (by omega), Ex.mut (e.trans e4) hD, acc ++ [y], upd_same, by rw [List.length_append, hl]; rfl, fun k z hk => ?_⟩
  by_cases hlt : k < acc.length
  · rw [List.getElem?_append_left hlt] at hk
    exact (hE k).2 _ _ _ _ _ (e4 _ _ ha) ((hE k).1 _ _ _ e4 (hy k z hk))
  · have hk2 : k = acc.length := by
      have := (List.getElem?_eq_some_iff.mp hk).1
      simp at this
      omega
    subst hk2
    rw [List.getElem?_append_right (Nat.le_refl _), Nat.sub_self] at hk
    have hz : y = z := Option.some.inj hk
    subst hz
    rw [hl]
    exact (hE i).2 _ _ _ _ _ (e4 _ _ ha) hE4
theorem c_list {a : Addr} {xs : List V} (E : Nat → V → Hp → Prop) (hE : ∀ i, Keeps (E i)) (hn : xs.length ≤ 50000) (hx : SqL K H a xs) (hw : ∀ x, wipe ((wipe σ vs).set j (some x)) vs = wipe σ vs)
    (hb : ∀ (i : Nat) x H' Q', xs[i]? = some x → Ex H H' → (∀ y H4, Ex H' H4 → E i y H4 → Q' y H4) → te ((wipe σ vs).set j (some x)) H' Q')
    (q : ∀ p ys H2, H p = none → Ex H H2 → H2 p = some (.lst ys) → ys.length = xs.length → (∀ i y, ys[i]? = some y → E i y H2) → Q (.ref p) H2) : CompJ (Itl K a) (gName j) tYes te vs σ H Q := by
  intro D hD
  refine lc_list (K := K) (a := a) (xs := xs) (fun i H' => Ex H H' ∧ ∃ acc : List V, H' D = some (.lst acc) ∧ acc.length = i ∧ ∀ k y, acc[k]? = some y → E k y H') ⟨Ex.new hD, [], upd_same, rfl, fun k y h => by simp at h⟩ (fun i H' _ p => ex_l p.1 hx) (fun i x H' hi ⟨e, acc, ha, hl, hy⟩ => ?_) fun H' ⟨e, acc, ha, hl, hy⟩ => q D acc H' hD e ha hl hy
  have hi' : i < xs.length := (List.getElem?_eq_some_iff.mp hi).1
  refine ⟨hw _, ?_⟩
  show te _ H' _
  refine hb i x H' _ hi e fun y H4 e4 hE4 => ⟨acc, e4 _ _ ha, sz_lt (by omega), Ex.mut (e.trans e4) hD, acc ++ [y], upd_same, by rw [List.length_append, hl]; rfl, fun k z hk => ?_⟩
  by_cases hlt : k < acc.length
  · rw [List.getElem?_append_left hlt] at hk
    exact (hE k).2 _ _ _ _ _ (e4 _ _ ha) ((hE k).1 _ _ _ e4 (hy k z hk))
  · have hk2 : k = acc.length := by
      have := (List.getElem?_eq_some_iff.mp hk).1
      simp at this
      omega
    subst hk2
    rw [List.getElem?_append_right (Nat.le_refl _), Nat.sub_self] at hk
    have hz : y = z := Option.some.inj hk
    subst hz
    rw [hl]
    exact (hE i).2 _ _ _ _ _ (e4 _ _ ha) hE4
end

/-! ### a text, so many times -/
def rMulS : R2 := fun x y H Q => ∃ (z : Str) (n : Int), x = .str z ∧ y = .int n ∧ z.length ≤ 1000 ∧ -1000 ≤ n ∧ n ≤ 1000 ∧ ∀ r : Str, r.length = z.length * n.toNat → r = Txt.mul z n → Q (.str r) H
theorem cps_fold (x : Array Nat) : ∀ (n : Nat) (a : Array Nat), ((List.replicate n x).foldl (· ++ ·) a).size = a.size + x.size * n
  | 0, a => by simp
  | n + 1, a => by
    rw [List.replicate_succ, List.foldl_cons, cps_fold x n, Array.size_append, Nat.mul_succ]
    omega
theorem mul_len (z : Str) (n : Int) : (Txt.mul z n).length = z.length * n.toNat := by
  unfold Txt.mul
  by_cases h : n < 1
  · rw [if_pos h]
    have : n.toNat = 0 := by omega
    rw [this]
    rfl
  · rw [if_neg h]
    by_cases h2 : (n == 1 || z.length == 0) = true
    · rw [if_pos h2]
      rcases Bool.or_eq_true_iff.mp h2 with h3 | h3
      · have : n = 1 := by simpa using h3
        subst this
        show z.length = z.length * 1
        omega
      · have : z.length = 0 := by simpa using h3
        rw [this]
        omega
    · rw [if_neg h2]
      show ((List.replicate n.toNat z.cps).foldl (· ++ ·) #[]).size = z.cps.size * n.toNat
      rw [cps_fold]
      simp
section
variable {X : Cx}
theorem op_mul_str : OpR X (binaryOp .Mult) rMulS := by
  intro pins s σ H x y v u Q I rx ry h
  obtain ⟨z, n, rfl, rfl, hz, h1, h2, q⟩ := h
  obtain ⟨t, rfl⟩ := rx
  obtain ⟨t', rfl⟩ := ry
  refine SB.mul ⟨?_, fun h3 _ => ?_, fun h3 _ => ?_⟩ fun t' k => ⟨.str _, H, ?_, ⟨_, rfl⟩, q _ (mul_len z n) rfl⟩
  · have a1 : ¬ n < -(2 ^ 63 : Int) := by omega
    have a2 : ¬ n ≥ 2 ^ 63 := by omega
    rw [decide_eq_false a1, decide_eq_false a2]
    rfl
  · have : (1000 : Int) ≤ (2 ^ 63 - 1) / n := by
      rw [Int.le_ediv_iff_mul_le (by omega)]
      omega
    omega
  · have hm : z.length * n.toNat ≤ 1000000 := by
      have a : z.length * n.toNat ≤ 1000 * 1000 := Nat.mul_le_mul hz (by omega)
      omega
    exact decide_eq_false (by have : sizeLine ≥ 1000000 := by decide
                              omega)
  · exact I.tok _
end

/-! ### the pen: a list of the script, its place, its cell: one object that a draw does not change -/
def PenAt (a sc : Addr) (h : Heap) : Prop := ∃ (i c : Int) (its : List Value) (n : Nat), 0 ≤ i ∧ Vals [.ref sc, .int i, .int c] its ∧ h.get? a = some { cls := .type "list", data := .seq its.toArray n }
def PenO (a sc : Addr) : HO := .ext (PenAt a sc)
/-- a place where a fixed pen becomes its list -/
def tPenOpen (t : TS) : TS := fun D σ H => ∃ a sc, H a = some (PenO a sc) ∧ ∀ i c : Int, 0 ≤ i → t D σ (upd H a (.lst [.ref sc, .int i, .int c]))
def tPenShut (t : TS) : TS := fun D σ H => ∃ a sc i c, H a = some (.lst [.ref sc, .int i, .int c]) ∧ 0 ≤ i ∧ t D σ (upd H a (PenO a sc))
section
variable {X : Cx} {ss : List Stmt} {t : TS}
theorem pss_open (h : PSs X ss t) : PSs X ss (tPenOpen t) := by
  refine ⟨fun pins s σ H D I hh => ?_⟩
  obtain ⟨a, sc, ha, k⟩ := hh
  obtain ⟨⟨i, c, its, n, i0, vs, ho⟩, _⟩ := I.hok a _ ha
  have J : Inv X pins σ (upd H a (.lst [.ref sc, .int i, .int c])) { s with heap := s.heap, toks := s.toks } :=
    I.write (e := a) (by rw [ha]; exact True.intro) (.inl rfl) (fun b u _ q => q) ⟨_, ho⟩ ⟨by show 3 ≤ sizeLine; decide, its, n, vs, ho⟩
  exact h.run pins s σ _ D J (k i c i0)
theorem pss_shut (h : PSs X ss t) : PSs X ss (tPenShut t) := by
  refine ⟨fun pins s σ H D I hh => ?_⟩
  obtain ⟨a, sc, i, c, ha, i0, k⟩ := hh
  obtain ⟨_, its, n, vs, ho⟩ := I.hok a _ ha
  have J : Inv X pins σ (upd H a (PenO a sc)) { s with heap := s.heap, toks := s.toks } :=
    I.write (e := a) (by rw [ha]; exact True.intro) (.inl rfl) (fun b u _ q => q) ⟨_, ho⟩
      ⟨⟨i, c, its, n, i0, vs, ho⟩, ⟨_, ho⟩, fun h1 h2 ⟨i, c, its, n, i0, vs, ho⟩ st => ⟨i, c, its, n, i0, vs, st _ ho⟩⟩
  exact h.run pins s σ _ D J k
end

/-! ### words for the reading -/
theorem gen1 {H H2 : Hp} {p : Addr} {o : HO} (hp : H p = none) (e : upd H p o = H2) : Ex H H2 ∧ H2 p = some o := by
  subst e
  exact ⟨Ex.new hp, upd_same⟩
def Mu (l : Addr) (H H' : Hp) : Prop := ∀ a o, a ≠ l → H a = some o → H' a = some o
theorem gen2 {H H2 : Hp} {p : Addr} {o : HO} (e : upd H p o = H2) : Mu p H H2 ∧ H2 p = some o := by
  subst e
  exact ⟨fun a u ne h => by rw [upd_ne ne]; exact h, upd_same⟩
theorem Ex.app {H H' : Hp} {a : Addr} {o : HO} (e : Ex H H') (h : H a = some o) : H' a = some o := e a o h
theorem Mu.ex {H0 H H' : Hp} {l : Addr} (m : Mu l H H') (e : Ex H0 H) (h : H0 l = none) : Ex H0 H' := fun a o q => m a o (ne_of_none q h) (e a o q)

section
variable {σ : L2.St} {H H' : Hp} {Q : VK} {nx : L2.St → Hp → Prop} {rt : VK} {bk ct : L2.St → Hp → Prop} {K : PySem.W.Frag} {a sc : Addr}
theorem w_cut {t u : TS} (Mid : L2.St → Hp → Prop) (h : t ⟨Mid, rt, bk, ct⟩ σ H) (k : ∀ σ' H', Mid σ' H' → u ⟨nx, rt, bk, ct⟩ σ' H') : tCut t u ⟨nx, rt, bk, ct⟩ σ H := ⟨Mid, h, k⟩
theorem w_open {t : TS} (h : H a = some (PenO a sc)) (k : ∀ i c : Int, 0 ≤ i → t ⟨nx, rt, bk, ct⟩ σ (upd H a (.lst [.ref sc, .int i, .int c]))) : tPenOpen t ⟨nx, rt, bk, ct⟩ σ H := ⟨a, sc, h, k⟩
theorem w_shut {t : TS} {i c : Int} (h : H a = some (.lst [.ref sc, .int i, .int c])) (h0 : 0 ≤ i) (k : t ⟨nx, rt, bk, ct⟩ σ (upd H a (PenO a sc))) : tPenShut t ⟨nx, rt, bk, ct⟩ σ H := ⟨a, sc, i, c, h, h0, k⟩
theorem Mu.trans {l : Addr} {H1 H2 H3 : Hp} (a : Mu l H1 H2) (b : Mu l H2 H3) : Mu l H1 H3 := fun x o n h => b x o n (a x o n h)
theorem Mu.of {l : Addr} {H1 H2 : Hp} (e : Ex H1 H2) : Mu l H1 H2 := fun x o _ h => e x o h
/-- a list that is no fixed pen stays while the pen moves -/
theorem Mu.seq {f : Heap → Prop} {b : Addr} {xs : List V} (m : Mu a H H') (h : H a = some (.ext f)) (q : SqL K H b xs) : SqL K H' b xs := by
  rcases q with (q | ⟨o, q⟩) | q
  · exact .inl (.inl (m _ _ (ne_of q h (by intro z; cases z)) q))
  · exact .inl (.inr ⟨o, m _ _ (ne_of q h (by intro z; cases z)) q⟩)
  · exact .inr q
end

theorem at_pos {xs : List V} {i : Int} (h0 : 0 ≤ i) (h1 : i < (xs.length : Int)) : ∃ v, atI xs i = some v ∧ xs[i.toNat]? = some v := by
  obtain ⟨n, rfl⟩ := Int.eq_ofNat_of_zero_le h0
  have h : n < xs.length := by omega
  exact ⟨xs[n], atI_nat (List.getElem?_eq_getElem h), List.getElem?_eq_getElem h⟩
theorem at_ints {ns : List Int} {i : Int} (h0 : 0 ≤ i) (h1 : i < (ns.length : Int)) : ∃ n, atI (ns.map V.int) i = some (.int n) := by
  obtain ⟨v, h, e⟩ := at_pos (xs := ns.map V.int) h0 (by rw [List.length_map]; exact h1)
  rw [List.getElem?_map] at e
  cases q : ns[i.toNat]? with
  | none =>
    rw [q] at e
    cases e
  | some n =>
    rw [q] at e
    exact ⟨n, by rw [h, ← e]; rfl⟩
theorem at_strs {ws : List Str} {i : Int} (h0 : 0 ≤ i) (h1 : i < (ws.length : Int)) : ∃ w, w ∈ ws ∧ atI (ws.map V.str) i = some (.str w) := by
  obtain ⟨v, h, e⟩ := at_pos (xs := ws.map V.str) h0 (by rw [List.length_map]; exact h1)
  rw [List.getElem?_map] at e
  cases q : ws[i.toNat]? with
  | none =>
    rw [q] at e
    cases e
  | some n =>
    rw [q] at e
    exact ⟨n, List.mem_of_getElem? q, by rw [h, ← e]; rfl⟩
theorem at_0 {α : Type} {a : α} {r : List α} : atI (a :: r) 0 = some a := atI_nat (j := 0) rfl
theorem at_1 {α : Type} {a b : α} {r : List α} : atI (a :: b :: r) 1 = some b := atI_nat (j := 1) rfl
theorem at_2 {α : Type} {a b c : α} {r : List α} : atI (a :: b :: c :: r) 2 = some c := atI_nat (j := 2) rfl
theorem at_3 {α : Type} {a b c d : α} {r : List α} : atI (a :: b :: c :: d :: r) 3 = some d := atI_nat (j := 3) rfl
theorem at_4 {α : Type} {a b c d e : α} {r : List α} : atI (a :: b :: c :: d :: e :: r) 4 = some e := atI_nat (j := 4) rfl
theorem at_5 {α : Type} {a b c d e f : α} {r : List α} : atI (a :: b :: c :: d :: e :: f :: r) 5 = some f := atI_nat (j := 5) rfl
theorem at_6 {α : Type} {a b c d e f g : α} {r : List α} : atI (a :: b :: c :: d :: e :: f :: g :: r) 6 = some g := atI_nat (j := 6) rfl
theorem at_7 {α : Type} {a b c d e f g h : α} {r : List α} : atI (a :: b :: c :: d :: e :: f :: g :: h :: r) 7 = some h := atI_nat (j := 7) rfl
theorem at_8 {α : Type} {a b c d e f g h i : α} {r : List α} : atI (a :: b :: c :: d :: e :: f :: g :: h :: i :: r) 8 = some i := atI_nat (j := 8) rfl
theorem at_9 {α : Type} {a b c d e f g h i j : α} {r : List α} : atI (a :: b :: c :: d :: e :: f :: g :: h :: i :: j :: r) 9 = some j := atI_nat (j := 9) rfl
theorem atm_1 {α : Type} {a : α} : atI [a] (-1) = some a := atI_last [] a
theorem atm_2 {α : Type} {a b : α} : atI [a, b] (-1) = some b := atI_last [a] b
theorem atm_3 {α : Type} {a b c : α} : atI [a, b, c] (-1) = some c := atI_last [a, b] c
theorem atm_4 {α : Type} {a b c d : α} : atI [a, b, c, d] (-1) = some d := atI_last [a, b, c] d
theorem atm_5 {α : Type} {a b c d e : α} : atI [a, b, c, d, e] (-1) = some e := atI_last [a, b, c, d] e
theorem atm_6 {α : Type} {a b c d e f : α} : atI [a, b, c, d, e, f] (-1) = some f := atI_last [a, b, c, d, e] f
theorem pen_ex {a sc : Addr} {H H2 : Hp} (m : Mu a H H2) (h : H a = some (PenO a sc)) : Ex H (upd H2 a (PenO a sc)) := fun b o hb => by
  by_cases e : b = a
  · subst e
    rw [upd_same, ← hb, h]
  · rw [upd_ne e]
    exact m b o e hb

/-! ### texts of which the length alone is told, and that their signs are signs -/
abbrev TxtOk (n : Nat) (z : Str) : Prop := z.length ≤ n ∧ PySem.PyData.strOk z = true
theorem app_len (a b : Str) : (a ++ b).length = a.length + b.length := by
  show (a.cps ++ b.cps).size = _
  rw [Array.size_append]
  rfl
theorem app_ok {a b : Str} (ha : PySem.PyData.strOk a = true) (hb : PySem.PyData.strOk b = true) : PySem.PyData.strOk (a ++ b) = true := by
  show ((a.cps ++ b.cps).all _) = true
  rw [Array.all_append]
  exact Bool.and_eq_true_iff.mpr ⟨ha, hb⟩
theorem reps_ok {x : Array Nat} {f : Nat → Bool} (hx : x.all f = true) : ∀ (n : Nat) (a : Array Nat), a.all f = true → ((List.replicate n x).foldl (· ++ ·) a).all f = true
  | 0, a, h => h
  | n + 1, a, h => by
    rw [List.replicate_succ, List.foldl_cons]
    refine reps_ok hx n _ ?_
    rw [Array.all_append]
    exact Bool.and_eq_true_iff.mpr ⟨h, hx⟩
theorem mul_ok {z : Str} {n : Int} (hz : PySem.PyData.strOk z = true) : PySem.PyData.strOk (Txt.mul z n) = true := by
  unfold Txt.mul
  split
  · decide +kernel
  · split
    · exact hz
    · exact reps_ok hz _ _ (by simp)
def rAddA : R2 := fun x y H Q => ∃ (i j : Str), x = .str i ∧ y = .str j ∧ i.length + j.length ≤ 100000 ∧ ∀ r : Str, r = i ++ j → Q (.str r) H
def rStrA : List V → Hp → VK → Prop := fun xs H Q => ∃ i : Int, xs = [.int i] ∧ (0 ≤ i ∧ i < 1000) ∧ ∀ r : Str, TxtOk 3 r → Q (.str r) H
theorem str_small : ∀ n : Nat, n < 1000 → TxtOk 3 (Str.ofString (toString (n : Int))) := by decide +kernel
section
variable {X : Cx} {H : Hp} {Q : VK}
theorem op_addA : OpR X (binaryOp .Add) rAddA := fun pins s σ H x y v u Q I rx ry ⟨i, j, e1, e2, hl, q⟩ => op_add_str pins s σ H x y v u Q I rx ry ⟨i, j, e1, e2, sz_of hl, q _ rfl⟩
theorem cr_strA : CallR X (.type "str") rStrA := fun pins s σ H xs us Q I r ⟨i, e, hi, q⟩ => by
  refine call_str_int pins s σ H xs us Q I r ⟨i, e, ?_, q _ ?_⟩
  · have h : i.natAbs < 2 ^ 1920 := Nat.lt_of_lt_of_le (show i.natAbs < 1000 by omega) (by decide +kernel)
    by_cases z : i.natAbs = 0
    · rw [z]
      decide +kernel
    · exact (Nat.log2_lt z).mpr h
  · obtain ⟨n, rfl⟩ := Int.eq_ofNat_of_zero_le hi.1
    exact str_small n (by omega)
theorem w_addA {i j : Str} {bi bj : Nat} (hi : TxtOk bi i) (hj : TxtOk bj j) (h : bi + bj ≤ 100000) (q : ∀ r : Str, TxtOk (bi + bj) r → Q (.str r) H) : rAddA (.str i) (.str j) H Q :=
  ⟨i, j, rfl, rfl, Nat.le_trans (Nat.add_le_add hi.1 hj.1) h, fun r hr => q r ⟨by rw [hr, app_len]; exact Nat.add_le_add hi.1 hj.1, by rw [hr]; exact app_ok hi.2 hj.2⟩⟩
theorem w_mulS {z : Str} {n : Int} (hz : TxtOk 10 z) (h : -1000 ≤ n ∧ n ≤ 50) (q : ∀ r : Str, TxtOk 500 r → Q (.str r) H) : rMulS (.str z) (.int n) H Q := ⟨z, n, rfl, rfl, Nat.le_trans hz.1 (by decide), h.1, by omega, fun r hr er => q r ⟨by
  have a : z.length * n.toNat ≤ 10 * 50 := Nat.mul_le_mul hz.1 (by omega)
  omega, by rw [er]; exact mul_ok hz.2⟩⟩
theorem sign_ok {z : Str} {c : Nat} {i : Nat} (hz : PySem.PyData.strOk z = true) (h : z.cps.toList[i]? = some c) : TxtOk 1 ⟨#[c]⟩ := by
  refine ⟨Nat.le_refl 1, ?_⟩
  have m : c ∈ z.cps := Array.mem_def.mpr (List.mem_of_getElem? h)
  have q : decide (c < 0x110000) = true := Array.all_eq_true'.mp hz c m
  show (#[c] : Array Nat).all (fun x => decide (x < 0x110000)) = true
  simpa using q
theorem w_ixSA {z : Str} {i : Int} {n : Nat} (h : TxtOk n z) (hn : n ≤ 100000) (h0 : 0 ≤ i) (h1 : i < (z.length : Int)) (q : ∀ r : Str, TxtOk 1 r → Q (.str r) H) : rIxS (.str z) (.int i) H Q := by
  obtain ⟨k, rfl⟩ := Int.eq_ofNat_of_zero_le h0
  have lt : k < z.cps.toList.length := by
    have : z.length = z.cps.toList.length := by simp [Str.length]
    omega
  exact ⟨z, k, _, rfl, rfl, sz_of (Nat.le_trans h.1 hn), atI_nat (List.getElem?_eq_getElem lt), q _ (sign_ok h.2 (List.getElem?_eq_getElem lt))⟩
theorem w_strA {i : Int} (h : 0 ≤ i ∧ i < 1000) (q : ∀ r : Str, TxtOk 3 r → Q (.str r) H) : rStrA [.int i] H Q := ⟨i, rfl, h, q⟩
theorem w_cat {l b : Addr} {xs zs : List V} (hl : H l = some (.lst xs)) (hb : H b = some (.lst zs)) (h : xs.length + zs.length ≤ 100000) (q : ∀ p, H p = none → Q (.ref p) (upd H p (.lst (xs ++ zs)))) : rCat (.ref l) (.ref b) H Q := ⟨l, b, xs, zs, rfl, rfl, hl, hb, sz_of h, q⟩
theorem w_rep {l : Addr} {xs : List V} {k : Int} (hl : H l = some (.lst xs)) (h : -1000 ≤ k ∧ k ≤ 1000) (h2 : xs.length ≤ 100) (q : ∀ p, H p = none → Q (.ref p) (upd H p (.lst (List.flatten (List.replicate k.toNat xs))))) : rRep (.ref l) (.int k) H Q := by
  refine ⟨l, k, xs, rfl, rfl, hl, by omega, by omega, ?_, ?_⟩
  · have a : xs.length * k.toNat ≤ 100 * 1000 := Nat.mul_le_mul h2 (by omega)
    exact sz_of (by omega)
  · exact q
end
/-- a place of a sign -/
theorem at_sign {z : Str} {i : Int} (h0 : 0 ≤ i) (h1 : i < (z.length : Int)) : ∃ c, atI z.cps.toList i = some c := by
  obtain ⟨n, rfl⟩ := Int.eq_ofNat_of_zero_le h0
  have h : n < z.cps.toList.length := by
    have : z.length = z.cps.toList.length := by simp [Str.length]
    omega
  exact ⟨_, atI_nat (List.getElem?_eq_getElem h)⟩

section
variable {K : PySem.W.Frag} {H : Hp} {Q : VK}
/-- some item -/
theorem w_ixLP {p : Addr} {xs : List V} {i : Int} (h : SqL K H p xs) (h0 : 0 ≤ i) (h1 : i < (xs.length : Int)) (q : ∀ v, v ∈ xs → Q v H) : rIxL K (.ref p) (.int i) H Q := by
  obtain ⟨v, e, e2⟩ := at_pos h0 h1
  exact w_ixL h e (q v (List.mem_of_getElem? e2))
/-- all are texts, none too long -/
def Short (n : Nat) (v : V) : Prop := ∃ z : Str, v = .str z ∧ TxtOk n z
theorem short_of {n m : Nat} {z : Str} (h : TxtOk n z) (hm : n ≤ m) : Short m (.str z) := ⟨z, rfl, Nat.le_trans h.1 hm, h.2⟩
theorem short_lit {s : String} {n : Nat} (h : TxtOk 60 (Str.ofString s)) (hm : 60 ≤ n) : Short n (.str (Str.ofString s)) := ⟨_, rfl, Nat.le_trans h.1 hm, h.2⟩
end
theorem ex_tr {H H1 H2 : Hp} (b : Ex H1 H2) (a : Ex H H1) : Ex H H2 := a.trans b
theorem w_tupL {K : PySem.W.Frag} {H : Hp} {p : Addr} {ys : List V} {G : Addr → List V → Addr → Prop} {R : Addr → List V → Prop} (h : SqL K H p ys) (q : ∀ l, H l = none → G p ys l) :
    ∃ a zs, [V.ref p] = [V.ref a] ∧ ((SqL K H a zs ∧ ∀ l, H l = none → G a zs l) ∨ R a zs) := ⟨p, ys, rfl, .inl ⟨h, q⟩⟩
theorem w_lstL {K : PySem.W.Frag} {H : Hp} {p : Addr} {ys : List V} {G : Addr → List V → Addr → Prop} (h : SqL K H p ys) (q : ∀ l, H l = none → G p ys l) :
    ∃ a zs, [V.ref p] = [V.ref a] ∧ (SqL K H a zs ∨ SqT K H a zs) ∧ ∀ l, H l = none → G a zs l := ⟨p, ys, rfl, .inl h, q⟩
theorem w_lstT {K : PySem.W.Frag} {H : Hp} {p : Addr} {ys : List V} {G : Addr → List V → Addr → Prop} (h : SqT K H p ys) (q : ∀ l, H l = none → G p ys l) :
    ∃ a zs, [V.ref p] = [V.ref a] ∧ (SqL K H a zs ∨ SqT K H a zs) ∧ ∀ l, H l = none → G a zs l := ⟨p, ys, rfl, .inr h, q⟩
theorem Mu.app {l a : Addr} {H H' : Hp} {o : HO} (m : Mu l H H') (ne : a ≠ l) (h : H a = some o) : H' a = some o := m a o ne h

/-! ### a comprehension whose items are new lists -/
def NewLists (E : Nat → List V → Prop) (H : Hp) (p : Addr) (qs : List Addr) (H2 : Hp) : Prop := qs.Nodup ∧ ∀ i q, qs[i]? = some q → q ≠ p ∧ H q = none ∧ ∃ ys, H2 q = some (.lst ys) ∧ E i ys
theorem newLists_step {E : Nat → List V → Prop} {H H' H4 : Hp} {D q : Addr} {qs : List Addr} {ys acc : List V} (h : NewLists E H D qs H') (eH : Ex H H') (hD : H' D = some (.lst acc)) (hq : H' q = none) (e : Ex H' H4) (hy : H4 q = some (.lst ys)) (hE : E qs.length ys) (o : HO) :
    NewLists E H D (qs ++ [q]) (upd H4 D o) := by
  have nD : q ≠ D := fun z => by
    rw [z, hD] at hq
    cases hq
  have old : ∀ i r, qs[i]? = some r → r ≠ q := fun i r hr z => by
    obtain ⟨_, _, zs, h3, _⟩ := h.2 i r hr
    rw [z, hq] at h3
    cases h3
  refine ⟨?_, fun i r hr => ?_⟩
  · refine List.nodup_append.mpr ⟨h.1, List.pairwise_singleton _ _, fun x hx y hy2 => ?_⟩
    rw [List.mem_singleton] at hy2
    subst hy2
    obtain ⟨i, lt, ei⟩ := List.getElem_of_mem hx
    exact old i x (by rw [List.getElem?_eq_getElem lt, ei])
  · by_cases lt : i < qs.length
    · rw [List.getElem?_append_left lt] at hr
      obtain ⟨h1, h2, zs, h3, h4⟩ := h.2 i r hr
      exact ⟨h1, h2, zs, by rw [upd_ne h1]; exact e _ _ h3, h4⟩
    · have hi : i = qs.length := by
        have := (List.getElem?_eq_some_iff.mp hr).1
        simp at this
        omega
      subst hi
      rw [List.getElem?_append_right (Nat.le_refl _), Nat.sub_self] at hr
      have : q = r := Option.some.inj hr
      subst this
      exact ⟨nD, fresh_back eH hq, ys, by rw [upd_ne nD]; exact hy, hE⟩
section
variable {σ : L2.St} {H : Hp} {Q : VK} {K : PySem.W.Frag} {te : TE} {j : Nat} {vs : List Nat}
theorem c_listN {a : Addr} {xs : List V} (E : Nat → List V → Prop) (hn : xs.length ≤ 50000) (hx : SqL K H a xs) (hw : ∀ x, wipe ((wipe σ vs).set j (some x)) vs = wipe σ vs)
    (hb : ∀ (i : Nat) x H' Q', xs[i]? = some x → Ex H H' → (∀ q ys H4, H' q = none → Ex H' H4 → H4 q = some (.lst ys) → E i ys → Q' (.ref q) H4) → te ((wipe σ vs).set j (some x)) H' Q')
    (q : ∀ p (qs : List Addr) H2, H p = none → Ex H H2 → H2 p = some (.lst (qs.map V.ref)) → qs.length = xs.length → NewLists E H p qs H2 → Q (.ref p) H2) : CompJ (Itl K a) (gName j) tYes te vs σ H Q := by
  intro D hD
  refine lc_list (K := K) (a := a) (xs := xs) (fun i H' => Ex H H' ∧ ∃ qs : List Addr, H' D = some (.lst (qs.map V.ref)) ∧ qs.length = i ∧ NewLists E H D qs H') ⟨Ex.new hD, [], upd_same, rfl, List.nodup_nil, fun i r h => by simp at h⟩ (fun i H' _ p => ex_l p.1 hx) (fun i x H' hi ⟨e, qs, ha, hl, hN⟩ => ?_) fun H' ⟨e, qs, ha, hl, hN⟩ => q D qs H' hD e ha hl hN
  have lt : i < xs.length := (List.getElem?_eq_some_iff.mp hi).1
  refine ⟨hw _, ?_⟩
  show te _ H' _
  refine hb i x H' _ hi e fun r ys H4 hr e4 h4 hE => ⟨qs.map V.ref, e4 _ _ ha, sz_lt (by rw [List.length_map]; omega), Ex.mut (e.trans e4) hD, qs ++ [r], by rw [List.map_append]; exact upd_same, by rw [List.length_append, hl]; rfl, newLists_step hN e ha hr e4 h4 (by rw [hl]; exact hE) _⟩
end

end

section
open PySem PySem.Spec PyProof.Rows L2 Evl
/-- as FnOk, but only where no guard stands -/
structure FnG (P : Program) (w : World) (K : PySem.W.Frag) (mg : Str → Option Value) (base : Heap) (CX : CXT) (k : Nat) (f : Addr) (fd : FuncData) (ps : List Str) (sp : Sp) : Prop where
  len : ∀ vs H Q E, sp vs H Q E → vs.length = ps.length
  run : ∀ (A : Around) (outer : List Env) (s : Shared) (H : Hp) (args : Args) (us : List Value) (vs : List V) (Q : VK) (E : XK), A.guards = some [] → Room k A → Env0 P w K mg base A outer s H → BindsTo s fd args (ps.zip us) → Vals vs us → sp vs H Q E →
    codeAny (model P w) A (.call (.ref f) args) (CR CX outer P w H s Q E) s
theorem FnG.of {P : Program} {w : World} {K : PySem.W.Frag} {mg : Str → Option Value} {base : Heap} {CX : CXT} {k : Nat} {f : Addr} {fd : FuncData} {ps : List Str} {sp : Sp} (F : FnOk P w K mg base CX k f fd ps sp) : FnG P w K mg base CX k f fd ps sp :=
  ⟨F.len, fun A outer s H args us vs Q E _ => F.run A outer s H args us vs Q E⟩
section
variable {P : Program} {w : World} {K : PySem.W.Frag} {mg : Str → Option Value} {base : Heap}
/-- a def's body, where no guard stands -/
theorem okG {x qual : Str} {st : Stmt} {f : Addr} {fd : FuncData} {N ps : List Str} {k : Nat} {sp : Sp} (F : Fun K x qual st f fd) (S : FnScope N ps (defScope st)) (len : ∀ vs H Q E, sp vs H Q E → vs.length = ps.length)
    (body : ∀ (cdv : Value) (A : Around) (outer : List Env) (s : Shared) (H : Hp) (vs : List V) (Q : VK) (E : XK), (A.deeper (envOfC qual (defScope st) s.heap.objs.size f cdv)).guards = some [] → Room k (A.deeper (envOfC qual (defScope st) s.heap.objs.size f cdv)) → sp vs H Q E →
      ∃ t, PSs (cxOf CX0 P w K mg base N qual (defScope st) f cdv A outer s H E).nox (defBody st) t ∧ t { nx := fun _ H' => Q .non H', rt := Q } (start N vs) H) : FnG P w K mg base CX0 (k + 1) f fd ps sp := by
  obtain ⟨oc, od, kV, doc, pm, an, cdv, ct, osl, rfl, lk, code⟩ := F.ex
  refine ⟨len, fun A outer s H args us vs Q E gd hr e0 bind rv want => ?_⟩
  have inK : K.In s.heap := e0.mod.kin.keeps fun b o e => (e0.bs b o e).1
  have noLim : s.heap.NoLimit := e0.mod.nolimit.keeps fun b o e => (e0.bs b o e).1
  refine codeAny_call_function hr.depth (inK _ _ lk) rfl S.co S.gen rfl (PySem.W.codeRec_of inK code) (bind _ _ _ _ ?_)
  refine wpAny_newFunctionEnv_cells S.kind (fun ⟨n, v⟩ hy => ?_) fun env he s1 x => ?_
  · rcases S.par n (List.of_mem_zip hy).1 with q | q
    · exact .inl q
    · exact .inr ⟨q, PySem.W.cellsFrom_some _ _ _ (.inl q)⟩
  · subst he
    refine ⟨noLim.keeps x.toInCall.keep, codeAny_func ?_⟩
    obtain ⟨t, ht, q⟩ := body cdv A outer s H vs Q E gd (hr.deeper _) want
    have I := inv_start (CX := CX0) (E := E) S hr.hd e0 (len _ _ _ _ want) rv x
    refine wpAny_mono (ht.nox.run [] s1 (start N vs) H _ I q) (fun fl s' z => ?_) fun e s' z => z
    match fl, z with
    | .ret u, ⟨v, σ', H', J, r2, q2⟩ => exact ⟨v, H', J.os, J.bare, J.base, J.hok, r2, q2⟩
    | .next, ⟨σ', H', J, q2⟩ => exact ⟨V.non, H', J.os, J.bare, J.base, J.hok, (show RelV V.non Value.none from rfl), q2⟩
    | .brk, ⟨_, _, _, q2⟩ => exact q2.elim
    | .cont, ⟨_, _, _, q2⟩ => exact q2.elim
end
section
variable {X : Cx} {CX : CXT} {k : Nat} {f : Addr} {fd : FuncData} {ps : List Str} {sp : Sp} {dvs : List V} {ds : List Value} {E : XK} {x : Str} {p pos : Pos} {e : Expr} {es : List Expr} {t : TA}
/-- f(..), f such a def -/
theorem pe_callG (F : FnG X.prog X.w X.K X.mg X.base CX k f fd ps sp) (gd : X.A.guards = some []) (hr : Room k X.A) (hg : Gl X x) (hm : X.mg x = some (.ref f)) (hk : PySem.W.keepIn X.K (.ref f) = true) (hb : Binds X.K fd ps ds) (hd : Vals dvs ds) (hx : Passes CX X E)
    (ha : PA X (e :: es) t) (hdb : (x == ("__debug__" : Str)) = false := by decide) (he : starEach (e :: es) X.env = (false, eval e X.env) :: starEach es X.env := by rfl) (hpl : (backTo pos (starEach es X.env)).any (·.1) = false := by rfl) :
    PE X (.Call (.Name x p) (e :: es) [] pos) (tCall sp dvs E t) := by
  refine ⟨fun pins s σ H Q I h => wpAny_Call_Name_kw (ld_glob I hg hm ?_ hdb)⟩
  refine PySem.W.callWith_K (h₀ := X.base) I.ok.mod.kin hk (thn (ha.run pos pins s σ H _ I h) fun us s1 ⟨vs, H1, I1, r, q⟩ => ⟨I1.kIn, ?_⟩) he hpl
  have r2 : Vals (vs ++ dvs) (us ++ ds) := r.append hd
  refine wpAny_call (codeAny_mono (F.run X.A X.stack s1 H1 ⟨us, []⟩ (us ++ ds) (vs ++ dvs) Q E gd hr I1.env0 (hb s1 us I1.kIn (by rw [← r2.length]; exact F.len _ _ _ _ q)) r2 q) fun r s' z => ?_)
  match r, z with
  | .error e, z => exact hx pins σ H1 s1 e s' I1 z
  | .ok (.ret u), z => exact I1.after z
  | .ok .next, z => exact z.elim
  | .ok .brk, z => exact z.elim
  | .ok .cont, z => exact z.elim
end

/-! ### repr of data -/
def rRepr (K : PySem.W.Frag) : List V → Hp → VK → Prop := fun xs H Q => ∃ (a : Addr) (d : PyData), xs = [.ref a] ∧ Dp K H (.ref a) d ∧ d.showable = true ∧ d.hasDict = false ∧ d.depth ≤ 64 ∧ d.shown.length ≤ sizeLine ∧ Q (.str d.shown) H
section
variable {X : Cx}
theorem call_repr (gd : X.A.guards = some []) (hu : X.A.units + 200 < cLine) : CallR X (.builtin "repr") (rRepr X.K) := by
  intro pins s σ H xs us Q I r h
  obtain ⟨a, d, rfl, hd, sh, nd, dep, len, q⟩ := h
  rw [Vals.ref1 r]
  obtain ⟨as, rd⟩ := Dp.reads I d (.ref a) (.ref a) hd rfl
  refine repr_of_reads' rd sh (PyData.noDict_hsm nd) gd (by omega) (fun _ _ e => e) (fun h' u tk k => ?_) len
  exact ⟨.str d.shown, H, I.kept (t' := tk) k, ⟨u, rfl⟩, q⟩
end

/-! ### the law's end for such a promise -/
section
variable {P : Program} {w : World} {K : PySem.W.Frag}
/-- from the heap in which the script alone may be tracked -/
theorem law_runG {mg mb : Str → Option Value} {CX : CXT} {k : Nat} {fa a : Addr} {fd : FuncData} {x : Str} {sp : Sp} {s₁ : Shared} {vs : List Value} {H : Hp}
    (inK : K.In s₁.heap) (gl : s₁.heap.Ns mainGlobals mg) (bl : s₁.heap.Ns builtinsNs mb) (bb : ∀ x : Str, x ≠ "__name__" → mb x = bootBuiltins x) (lim : s₁.heap.NoLimit) (gens : s₁.gens = #[])
    (ob : s₁.heap.get? a = some { cls := .type "list", data := .seq vs.toArray }) (room : Room k callerA)
    (F : ∀ base : Heap, K.In base → base.Ns mainGlobals mg → FnG P w K mg base CX k fa fd [x] sp) (bind : ∀ (s : Shared) (u : Value), BindsTo s fd ⟨[u], []⟩ [(x, u)])
    (only : Only H) (ok : HOk P w H s₁.heap) (one : ∀ b, H b ≠ none → b = a) (out : H a ≠ none → K.lookup a = none)
    (want : sp [.ref a] H (fun v _ => v = .bl true) fun _ _ _ => False) (noErr : ∀ H e s', CX [] H s₁ (fun _ _ _ => False) e s' → False) :
    codeAny (model P w) callerA (.call (.ref fa) ⟨[.ref a], []⟩) (fun r s' => r = .ok (.ret (.bool true)) ∧ OldK s₁.heap s'.heap ∧ s'.os = s₁.os ∧ AllBare s'.gens) s₁ := by
  have free : ∀ {b : Addr}, b ≠ a → H b = none := fun {b} nb => by
    cases q : H b with
    | none => rfl
    | some u => exact absurd (one b (by rw [q]; exact Option.some_ne_none u)) nb
  have hidden : ∀ {b : Addr} {m : Str → Option Value}, s₁.heap.Ns b m → (hidT s₁.heap H).Ns b m := fun {b m} ⟨o, es, ep, e, d, r⟩ =>
    ⟨o, es, ep, hidT_get e (free fun z => by
      subst z
      rw [ob] at e
      cases e
      exact nomatch (show Data.seq vs.toArray _ = Data.dict es ep from d)), d, r⟩
  have inB : K.In (hidT s₁.heap H) := fun b o e => by
    refine hidT_get (inK b o e) ?_
    cases q : H b with
    | none => rfl
    | some u =>
      have z := one b (by rw [q]; exact Option.some_ne_none u)
      subst z
      rw [out (by rw [q]; exact Option.some_ne_none u)] at e
      cases e
  have m : Mod K mg (hidT s₁.heap H) := ⟨inB, hidden gl, ⟨mb, hidden bl, bb⟩, let ⟨mc, h1, h2⟩ := lim; ⟨mc, hidden h1, h2⟩⟩
  have e0 : Env0 P w K mg (hidT s₁.heap H) callerA [] s₁ H := ⟨rfl, m, fun b o e => of_hidT e, Nat.le_of_eq (hidT_size _ _), True.intro, fun b hb => by simp [frs] at hb, ok, .of_eq gens⟩
  refine codeAny_mono ((F _ inB (hidden gl)).run callerA [] s₁ H ⟨[.ref a], []⟩ [.ref a] [.ref a] _ _ rfl room e0 (bind s₁ (.ref a)) (.cons rfl .nil) want) fun r s' z => ?_
  match r, z with
  | .error e, z => exact (noErr H e s' z).elim
  | .ok .next, z => exact z.elim
  | .ok .brk, z => exact z.elim
  | .ok .cont, z => exact z.elim
  | .ok (.ret u), ⟨v, H', os, bare, un, ok', ru, q⟩ =>
    obtain rfl : v = .bl true := q
    obtain rfl : u = Value.bool true := ru
    refine ⟨rfl, OldK.of_keep fun b o e => ?_, os, bare⟩
    rcases only b with z | ⟨o2, xs, z⟩
    · exact un.keep b o e z (by simp [frs]) (by simp)
    · obtain ⟨e1, _⟩ := ok b _ z
      obtain ⟨e2, _⟩ := ok' b _ (un.frzs b o2 _ z)
      rw [e] at e1
      cases e1
      exact e2
theorem walk_ofG {l : PySem.W.OpenLaw} {n k : Nat} {q : Program} {loose : List Str} {XP : (Str → Option Value) → Heap → Prop} {YP : World → Heap → Prop} {d : DefRec} {K : Params → PySem.W.Frag} {CX : World → CXT} {sp : World → Sp} {x : Str}
    (hn : l.most = some n) (hn2 : n ≤ sizeLine) (hdf : d.params.defaults = []) (room : Room k callerA) (hY : ∀ (w : World) (h : Heap), YP w h → (K w.params).In h)
    (F : ∀ (w : World) (mg : Str → Option Value) (fa : Addr) (h : Heap), (K w.params).In h → h.Ns mainGlobals mg → mg d.name = some (.ref fa) → ∃ fd : FuncData, (∀ (s : Shared) (u : Value), BindsTo s fd ⟨[u], []⟩ [(x, u)]) ∧
      ∀ base : Heap, (K w.params).In base → base.Ns mainGlobals mg → FnG l.prog w (K w.params) mg base (CX w) k fa fd [x] (sp w))
    (want : ∀ (w : World) (H : Hp) (a : Addr) (ns : List Int), ns.length ≤ n → Only H → SqL (K w.params) H a (ns.map V.int) → sp w [.ref a] H (fun v _ => v = .bl true) fun _ _ _ => False)
    (noErr : ∀ (w : World) (H : Hp) (s : Shared) (e : Value) (s' : Shared), CX w [] H s (fun _ _ _ => False) e s' → False) : PySem.W.WalkO q loose XP YP l.row.toRowW d [] (fun f vs => PySem.call f vs) := by
  refine Att.attach_call hn hdf fun w s₀ s₁ mg mb fa o pm cd doc a vs ns G Y ho hd hcd hmg ob allInt len gens => ?_
  have inK := hY w _ Y
  obtain ⟨fd, bind, hF⟩ := F w mg fa _ inK G.T.g hmg
  have rv := vals_ints allInt
  have ll : (ns.map V.int).length ≤ sizeLine := by rw [List.length_map]; exact Nat.le_trans len hn2
  cases look : (K w.params).lookup a with
  | some oK =>
    have e := inK a oK look
    rw [ob] at e
    cases e
    have sq : SqL (K w.params) (fun _ => none) a (ns.map V.int) := .inr ⟨_, vs.toArray, _, look, rfl, rfl, rfl, by rw [List.size_toArray, allInt.length]; exact Nat.le_trans len hn2, by simpa using rv⟩
    exact law_runG inK G.T.g G.T.b G.T.builtins G.T.nolimit gens ob room hF bind (fun _ => .inl rfl) (fun b u z => nomatch (show (none : Option HO) = some u from z)) (fun b z => absurd rfl z) (fun z => absurd rfl z) (want w _ a ns len (fun _ => .inl rfl) sq) fun H e s' => noErr w H s₁ e s'
  | none =>
    have only : Only (upd (fun _ => none) a (.frz { cls := .type "list", data := .seq vs.toArray } (.lst (ns.map V.int)))) := fun b => by
      by_cases z : b = a
      · exact .inr ⟨_, _, by rw [z]; exact upd_same⟩
      · exact .inl (upd_ne z)
    refine law_runG inK G.T.g G.T.b G.T.builtins G.T.nolimit gens ob room hF bind only (fun b u z => ?_) (fun b z => ?_) (fun _ => look) (want w _ a ns len only (.inl (.inr ⟨_, upd_same⟩))) fun H e s' => noErr w H s₁ e s'
    · by_cases e : b = a
      · subst e
        rw [upd_same] at z
        cases z
        exact ⟨ob, ll, vs, _, rv, ob⟩
      · rw [upd_ne e] at z
        cases z
    · by_cases e : b = a
      · exact e
      · exact absurd (upd_ne e) z
end

end

section
open PySem PySem.Spec PyProof.Rows L2 Evl
mutual
/-- the value v is the key k -/
inductive KyD (K : PySem.W.Frag) (H : Hp) : V → NestedKey → Prop
  | non : KyD K H .non .none
  | int (i : Int) : KyD K H (.int i) (.num i)
  | str (x : Str) : KyD K H (.str x) (.text x)
  | tup {a : Addr} {xs : List V} {ks : List NestedKey} : SqT K H a xs → KyAll K H xs ks → KyD K H (.ref a) (.tup ks)
inductive KyAll (K : PySem.W.Frag) (H : Hp) : List V → List NestedKey → Prop
  | nil : KyAll K H [] []
  | cons {v : V} {vs : List V} {k : NestedKey} {ks : List NestedKey} : KyD K H v k → KyAll K H vs ks → KyAll K H (v :: vs) (k :: ks)
end
section
variable {X : Cx} {pins : List (Addr × Obj)} {σ : L2.St} {H H' : Hp} {s : Shared} {K : PySem.W.Frag}
mutual
theorem KyD.is (I : Inv X pins σ H s) : ∀ (k : NestedKey) (v : V) (u : Value), KyD X.K H v k → RelV v u → NestedIs s.heap k u
  | .none, _, _, h, r => by cases h; cases r; exact .none
  | .num _, _, _, h, r => by cases h; obtain ⟨t, rfl⟩ := r; exact .int _ t
  | .text _, _, _, h, r => by cases h; obtain ⟨t, rfl⟩ := r; exact .text _ t
  | .tup ks, _, _, h, r => by
    cases h with
    | tup hs ha =>
      cases r
      obtain ⟨its, rv, ⟨o, ho, hc, n, hd⟩, _⟩ := I.tuple hs
      exact .tup ho hc hd (KyAll.is I ks _ _ ha rv)
theorem KyAll.is (I : Inv X pins σ H s) : ∀ (ks : List NestedKey) (vs : List V) (us : List Value), KyAll X.K H vs ks → Vals vs us → NestedAll s.heap ks us
  | [], _, _, h, r => by cases h; cases r; exact .nil
  | k :: ks, _, _, h, r => by
    cases h with
    | cons h1 h2 =>
      cases r with
      | cons r1 r2 => exact .cons (KyD.is I k _ _ h1 r1) (KyAll.is I ks _ _ h2 r2)
end
mutual
theorem KyD.at (e : ∀ a xs, SqT K H a xs → SqT K H' a xs) : ∀ (k : NestedKey) (v : V), KyD K H v k → KyD K H' v k
  | .none, _, h => by cases h; exact .non
  | .num _, _, h => by cases h; exact .int _
  | .text _, _, h => by cases h; exact .str _
  | .tup ks, _, h => by
    cases h with
    | tup hs ha => exact .tup (e _ _ hs) (KyAll.at e ks _ ha)
theorem KyAll.at (e : ∀ a xs, SqT K H a xs → SqT K H' a xs) : ∀ (ks : List NestedKey) (vs : List V), KyAll K H vs ks → KyAll K H' vs ks
  | [], _, h => by cases h; exact .nil
  | k :: ks, _, h => by
    cases h with
    | cons h1 h2 => exact .cons (KyD.at e k _ h1) (KyAll.at e ks _ h2)
end
/-- tuples stay where no tracked one is changed -/
theorem sqT_upd {a : Addr} {o : HO} (h : ∀ xs, H a ≠ some (.tup xs)) (h2 : ∀ ob xs, H a ≠ some (.frz ob (.tup xs))) : ∀ b xs, SqT K H b xs → SqT K (upd H a o) b xs := fun b xs q => by
  rcases q with (q | ⟨ob, q⟩) | q
  · exact .inl (.inl (by rw [upd_ne (fun z => h xs (by rw [← z]; exact q))]; exact q))
  · exact .inl (.inr ⟨ob, by rw [upd_ne (fun z => h2 ob xs (by rw [← z]; exact q))]; exact q⟩)
  · exact .inr q
end

/-! ### what the dict holds -/
abbrev Nkv := NestedKey × Addr × V
def valN (kvs : List Nkv) (k : NestedKey) : Option V := (kvs.find? fun x => decide (x.1 = k)).map (·.2.2)
def putN (kvs : List Nkv) (k : NestedKey) (b : Addr) (v : V) : List Nkv :=
  if (valN kvs k).isSome then kvs.map (fun x => if x.1 = k then (x.1, x.2.1, v) else x) else kvs ++ [(k, b, v)]
def dropN (kvs : List Nkv) (k : NestedKey) : List Nkv := kvs.filter fun x => decide (x.1 ≠ k)
abbrev NR : Nkv → NestedKey × Addr × Value → Prop := fun p q => p.1 = q.1 ∧ p.2.1 = q.2.1 ∧ RelV p.2.2 q.2.2
theorem valN_nil (k : NestedKey) : valN [] k = none := rfl
theorem valN_cons (x : Nkv) (kvs : List Nkv) (k : NestedKey) : valN (x :: kvs) k = if x.1 = k then some x.2.2 else valN kvs k := by
  by_cases e : x.1 = k <;> simp [valN, List.find?_cons, e]
theorem nr_val {kvs : List Nkv} {xs : List (NestedKey × Addr × Value)} (r : Paired NR kvs xs) (k : NestedKey) : RelO (valN kvs k) ((atKey xs k).map (·.2)) := by
  induction r with
  | nil => exact True.intro
  | @cons p q ps qs h t ih =>
    obtain ⟨h1, _, h2⟩ := h
    rw [valN_cons]
    by_cases e : p.1 = k
    · have e' : q.1 = k := h1.symm.trans e
      have b : atKey (q :: qs) k = some q.2 := by simp [atKey, List.find?_cons, e']
      rw [if_pos e, b]; exact h2
    · have e' : ¬ q.1 = k := fun z => e (h1.trans z)
      have b : atKey (q :: qs) k = atKey qs k := by simp [atKey, List.find?_cons, e']
      rw [if_neg e, b]; exact ih
theorem nr_some {kvs : List Nkv} {xs : List (NestedKey × Addr × Value)} (r : Paired NR kvs xs) (k : NestedKey) : (valN kvs k).isSome = (atKey xs k).isSome := by
  rw [(nr_val r k).isSome_eq, Option.isSome_map]
theorem nr_put {kvs : List Nkv} {xs : List (NestedKey × Addr × Value)} (r : Paired NR kvs xs) (k : NestedKey) {b : Addr} {y : V} {u : Value} (ry : RelV y u) : Paired NR (putN kvs k b y) (storedH xs k b u) := by
  unfold putN storedH
  rw [nr_some r k]
  by_cases q : (atKey xs k).isSome = true
  · rw [if_pos q, if_pos q]
    clear q
    induction r with
    | nil => exact .nil
    | @cons p q ps qs h t ih =>
      rw [List.map_cons, List.map_cons]
      refine .cons ?_ ih
      obtain ⟨h1, h2, h3⟩ := h
      unfold putAt
      by_cases e : p.1 = k
      · rw [if_pos e, if_pos (h1.symm.trans e)]; exact ⟨h1, h2, ry⟩
      · rw [if_neg e, if_neg (fun z => e (h1.trans z))]; exact ⟨h1, h2, h3⟩
  · rw [if_neg q, if_neg q]; exact Paired.snoc r ⟨rfl, rfl, ry⟩
theorem nr_drop {kvs : List Nkv} {xs : List (NestedKey × Addr × Value)} (r : Paired NR kvs xs) (k : NestedKey) : Paired NR (dropN kvs k) (withoutH xs k) := by
  induction r with
  | nil => exact .nil
  | @cons p q ps qs h t ih =>
    unfold dropN withoutH at ih ⊢
    by_cases e : p.1 = k
    · have e2 : q.1 = k := h.1.symm.trans e
      rw [List.filter_cons_of_neg (by simp [e]), List.filter_cons_of_neg (by simp [e2])]
      exact ih
    · have e2 : ¬ q.1 = k := fun z => e (h.1.trans z)
      rw [List.filter_cons_of_pos (by simp [e]), List.filter_cons_of_pos (by simp [e2])]
      exact .cons h ih
theorem putN_len (kvs : List Nkv) (k : NestedKey) (b : Addr) (v : V) : (putN kvs k b v).length ≤ kvs.length + 1 := by
  unfold putN
  split <;> simp
theorem dropN_len (kvs : List Nkv) (k : NestedKey) : (dropN kvs k).length ≤ kvs.length := List.length_filter_le _ _
theorem valN_put_same (kvs : List Nkv) (k : NestedKey) (b : Addr) (v : V) : valN (putN kvs k b v) k = some v := by
  unfold putN
  split
  · rename_i h
    induction kvs with
    | nil => simp [valN] at h
    | cons x kvs ih =>
      rw [List.map_cons, valN_cons]
      rw [valN_cons] at h
      by_cases e : x.1 = k
      · simp [e]
      · rw [if_neg e] at h
        simp only [e, if_false]
        exact ih h
  · rename_i h
    induction kvs with
    | nil => rw [List.nil_append, valN_cons, if_pos rfl]
    | cons x kvs ih =>
      rw [valN_cons] at h
      rw [List.cons_append, valN_cons]
      by_cases e : x.1 = k
      · rw [if_pos e] at h; exact absurd rfl h
      · rw [if_neg e] at h ⊢; exact ih h
theorem valN_put_other (kvs : List Nkv) (k j : NestedKey) (b : Addr) (v : V) (ne : j ≠ k) : valN (putN kvs k b v) j = valN kvs j := by
  unfold putN
  split
  · rename_i h
    clear h
    induction kvs with
    | nil => rfl
    | cons x kvs ih =>
      rw [List.map_cons, valN_cons, valN_cons]
      by_cases e : x.1 = k
      · have : ¬ x.1 = j := fun z => ne (z.symm.trans e)
        simp only [e, if_true]
        rw [if_neg (fun z => ne z.symm), if_neg (fun z => ne z.symm)]
        exact ih
      · simp only [e, if_false]
        rw [ih]
  · rename_i h
    clear h
    induction kvs with
    | nil => rw [List.nil_append, valN_cons, if_neg (fun z => ne z.symm)]
    | cons x kvs ih => rw [List.cons_append, valN_cons, valN_cons, ih]
theorem valN_drop_same (kvs : List Nkv) (k : NestedKey) : valN (dropN kvs k) k = none := by
  unfold valN dropN
  rw [List.find?_eq_none.mpr]
  · rfl
  · intro x hx
    have := (List.mem_filter.mp hx).2
    simpa using this
theorem valN_drop_other (kvs : List Nkv) (k j : NestedKey) (ne : j ≠ k) : valN (dropN kvs k) j = valN kvs j := by
  induction kvs with
  | nil => rfl
  | cons x kvs ih =>
    unfold dropN at ih ⊢
    by_cases e : x.1 = k
    · rw [List.filter_cons_of_neg (by simp [e]), valN_cons, if_neg (fun z => ne (z.symm.trans e))]
      exact ih
    · rw [List.filter_cons_of_pos (by simp [e]), valN_cons, valN_cons, ih]
theorem put_mem {kvs : List Nkv} {k : NestedKey} {b : Addr} {v : V} {e : Nkv} (h : e ∈ putN kvs k b v) : (e.1 = k ∧ e.2.1 = b) ∨ ∃ e' ∈ kvs, e'.1 = e.1 ∧ e'.2.1 = e.2.1 := by
  unfold putN at h
  split at h
  · obtain ⟨x, hx, rfl⟩ := List.mem_map.mp h
    refine .inr ⟨x, hx, ?_⟩
    split <;> exact ⟨rfl, rfl⟩
  · rcases List.mem_append.mp h with q | q
    · exact .inr ⟨e, q, rfl, rfl⟩
    · obtain rfl := List.mem_singleton.mp q
      exact .inl ⟨rfl, rfl⟩

/-! ### the object -/
def DnAt (P : Program) (w : World) (d : Addr) (kvs : List Nkv) (h : Heap) : Prop := kvs.length ≤ sizeLine ∧ (d == sysModules) = false ∧ ∃ xs, Paired NR kvs xs ∧
  ∃ o es ep, h.get? d = some o ∧ o.ExactDict ∧ o.data = .dict es ep ∧ es.toList = xs.map (entryOfKey (nestedKind P w)) ∧ (xs.map (·.1)).Nodup
def DnO (P : Program) (w : World) (d : Addr) (kvs : List Nkv) : HO := .ext (DnAt P w d kvs)
/-- the keys' tuples stand -/
def KsAt (K : PySem.W.Frag) (H : Hp) (kvs : List Nkv) : Prop := ∀ e ∈ kvs, KyD K H (.ref e.2.1) e.1 ∧ e.1.depth ≤ 8
theorem dnO_ok {P : Program} {w : World} {H : Hp} {h : Heap} {d : Addr} {kvs : List Nkv} (x : DnAt P w d kvs h) : ObjOk P w H h d (DnO P w d kvs) := by
  refine ⟨x, ?_, fun h1 h2 y st => ?_⟩
  · obtain ⟨_, _, _, _, o, _, _, e, _⟩ := x
    exact ⟨o, e⟩
  · obtain ⟨z, m, xs, r, o, es, ep, e, c⟩ := y
    exact ⟨z, m, xs, r, o, es, ep, st _ e, c⟩
section
variable {X : Cx} {pins : List (Addr × Obj)} {σ : L2.St} {H H' : Hp} {s : Shared} {a b : Addr} {kvs : List Nkv} {k : NestedKey} {v d : V} {u r : Value} {A : Around} {E : Value → Shared → Prop}
theorem keys_is (I : Inv X pins σ H s) {xs : List (NestedKey × Addr × Value)} (rel : Paired NR kvs xs) (ks : KsAt X.K H kvs) : ∀ x ∈ xs, (nestedKind X.prog X.w).is s.heap x.1 x.2.1 := by
  induction rel with
  | nil => exact fun x hx => nomatch hx
  | @cons p q ps qs hq t ih =>
    intro x hx
    rcases List.mem_cons.mp hx with e | hx
    · subst e
      obtain ⟨ky, dp⟩ := ks p (List.mem_cons_self ..)
      obtain ⟨e1, e2, _⟩ := hq
      rw [← e1, ← e2]
      exact ⟨KyD.is I _ _ _ ky rfl, dp⟩
    · exact ih (fun e he => ks e (List.mem_cons_of_mem _ he)) x hx
theorem dn_rd (I : Inv X pins σ H s) (e : H a = some (DnO X.prog X.w a kvs)) (ks : KsAt X.K H kvs) : kvs.length ≤ sizeLine ∧ (a == sysModules) = false ∧ ∃ xs, Paired NR kvs xs ∧ s.heap.DictOfH (nestedKind X.prog X.w) a xs := by
  obtain ⟨⟨z, m, xs, rel, o, es, ep, h1, h2, h3, h4, h5⟩, _⟩ := (show ObjOk X.prog X.w H s.heap a (DnO X.prog X.w a kvs) from I.hok a _ e)
  exact ⟨z, m, xs, rel, o, es, ep, h1, h2, h3, h4, keys_is I rel ks, h5⟩
theorem dn_type (I : Inv X pins σ H s) (e : H a = some (DnO X.prog X.w a kvs)) : s.TypeIs (.ref a) "dict" ∧ ∀ b, Value.ref a = .ref b → ∃ ob, s.heap.get? b = some ob ∧ ob.dict = none := by
  obtain ⟨⟨z, m, xs, rel, o, es, ep, h1, h2, _⟩, _⟩ := (show ObjOk X.prog X.w H s.heap a (DnO X.prog X.w a kvs) from I.hok a _ e)
  refine ⟨⟨o, h1, h2.1⟩, fun b q => ?_⟩
  cases q
  exact ⟨o, h1, h2.2.1⟩
theorem nroom (hu : A.units + 9 < cLine) : (nestedKind X.prog X.w).room A.in1 := by show A.units + 1 + 8 < cLine; omega
theorem nkey (I : Inv X pins σ H s) (ky : KyD X.K H (.ref b) k) (dp : k.depth ≤ 8) : (nestedKind X.prog X.w).is s.heap k b := ⟨KyD.is I _ _ _ ky rfl, dp⟩
/-- d[k], there -/
theorem n_getItem {Q : Value → Shared → Prop} (hu : A.units + 9 < cLine) (I : Inv X pins σ H s) (e : H a = some (DnO X.prog X.w a kvs)) (ks : KsAt X.K H kvs) (ky : KyD X.K H (.ref b) k) (dp : k.depth ≤ 8) (l : valN kvs k = some v)
    (h : ∀ w' s', Inv X pins σ H s' → RelV v w' → Q w' s') : wpAny (model X.prog X.w) A (getItem (.ref a) (.ref b)) Q E s := by
  obtain ⟨_, m, xs, rel, dd⟩ := dn_rd I e ks
  obtain ⟨w', hw, rw'⟩ := RelO.some_of (v := v) (o := (atKey xs k).map (·.2)) (by rw [← l]; exact nr_val rel k)
  obtain ⟨p, hp, hp2⟩ := Option.map_eq_some_iff.mp hw
  refine wpAny_getItem_heap (knd := nestedKind X.prog X.w) (nroom (X := X) hu) (nkey I ky dp) dd hp ?_
  rw [hp2]
  exact h w' _ (I.tok _) rw'
/-- k in d, k not in d -/
theorem n_in {Q : Value → Shared → Prop} (hu : A.units + 9 < cLine) (I : Inv X pins σ H s) (e : H a = some (DnO X.prog X.w a kvs)) (ks : KsAt X.K H kvs) (ky : KyD X.K H (.ref b) k) (dp : k.depth ≤ 8)
    (h : ∀ s', Inv X pins σ H s' → Q (.bool (valN kvs k).isSome) s') : wpAny (model X.prog X.w) A (compareOp .In (.ref b) (.ref a)) Q E s := by
  obtain ⟨_, m, xs, rel, dd⟩ := dn_rd I e ks
  refine wpAny_in_heap (knd := nestedKind X.prog X.w) (nroom (X := X) hu) (nkey I ky dp) m dd ?_
  rw [← nr_some rel k]
  exact h _ (I.tok _)
theorem n_notIn {Q : Value → Shared → Prop} (hu : A.units + 9 < cLine) (I : Inv X pins σ H s) (e : H a = some (DnO X.prog X.w a kvs)) (ks : KsAt X.K H kvs) (ky : KyD X.K H (.ref b) k) (dp : k.depth ≤ 8)
    (h : ∀ s', Inv X pins σ H s' → Q (.bool (!(valN kvs k).isSome)) s') : wpAny (model X.prog X.w) A (compareOp .NotIn (.ref b) (.ref a)) Q E s := by
  obtain ⟨_, m, xs, rel, dd⟩ := dn_rd I e ks
  refine notIn_keyed (knd := nestedKind X.prog X.w) (k := k) (kvs := pairsH xs) (nroom (X := X) hu) (nkey I ky dp) m ⟨xs, dd, rfl⟩ ?_
  rw [valueAt_pairsH, Option.isSome_map, ← nr_some rel k]
  exact h _ (I.tok _)
/-- d.get(k), d.get(k, x) -/
theorem n_get1 {Q : Value → Shared → Prop} (hu : A.units + 9 < cLine) (I : Inv X pins σ H s) (e : H a = some (DnO X.prog X.w a kvs)) (ks : KsAt X.K H kvs) (ky : KyD X.K H (.ref b) k) (dp : k.depth ≤ 8)
    (h : ∀ w' s', Inv X pins σ H s' → RelV ((valN kvs k).getD .non) w' → Q w' s') : wpAny (model X.prog X.w) A (call (.builtin "dict.get") [.ref a, .ref b]) Q E s := by
  obtain ⟨_, m, xs, rel, dd⟩ := dn_rd I e ks
  refine call_meetsIn PySem.F.slot_dict_get dd.typeIs PySem.F.entry_dict_get (PySem.F.args_dict_get_2 _ _) (meetsH_dict_get (nestedKind X.prog X.w) a b m) ⟨nroom (X := X) hu, k, xs, nkey I ky dp, dd, h _ _ (I.tok _) ?_⟩
  exact (nr_val rel k).getD rfl
theorem n_get2 {Q : Value → Shared → Prop} (hu : A.units + 9 < cLine) (I : Inv X pins σ H s) (e : H a = some (DnO X.prog X.w a kvs)) (ks : KsAt X.K H kvs) (ky : KyD X.K H (.ref b) k) (dp : k.depth ≤ 8) (rd : RelV d r)
    (h : ∀ w' s', Inv X pins σ H s' → RelV ((valN kvs k).getD d) w' → Q w' s') : wpAny (model X.prog X.w) A (call (.builtin "dict.get") [.ref a, .ref b, r]) Q E s := by
  obtain ⟨_, m, xs, rel, dd⟩ := dn_rd I e ks
  refine call_meetsIn PySem.F.slot_dict_get dd.typeIs PySem.F.entry_dict_get (PySem.F.args_dict_get_3 _ _ _) (meetsH_dict_get_default (nestedKind X.prog X.w) a b m r) ⟨nroom (X := X) hu, k, xs, nkey I ky dp, dd, h _ _ (I.tok _) ?_⟩
  exact (nr_val rel k).getD rd
theorem dn_write {h' : Heap} {t' : Nat} {kvs' : List Nkv} {xs : List (NestedKey × Addr × Value)} (I : Inv X pins σ H s) (e : H a = some (DnO X.prog X.w a kvs)) (m : (a == sysModules) = false) (hs : Heap.SameBut a s.heap h') (z : kvs'.length ≤ sizeLine) (rel : Paired NR kvs' xs)
    (dd : h'.DictOfH (nestedKind X.prog X.w) a xs) : Inv X pins σ (upd H a (DnO X.prog X.w a kvs')) { s with heap := h', toks := t' } := by
  obtain ⟨o, es, ep, h1, h2, h3, h4, _, h5⟩ := dd
  exact d_write I (by rw [e]; exact True.intro) hs ⟨o, h1⟩ (dnO_ok ⟨z, m, xs, rel, o, es, ep, h1, h2, h3, h4, h5⟩)
/-- d[k] = v -/
theorem n_setItem {Q : Unit → Shared → Prop} (hu : A.units + 9 < cLine) (I : Inv X pins σ H s) (e : H a = some (DnO X.prog X.w a kvs)) (ks : KsAt X.K H kvs) (ky : KyD X.K H (.ref b) k) (dp : k.depth ≤ 8) (z : kvs.length < sizeLine) (rv : RelV v r)
    (h : ∀ s', Inv X pins σ (upd H a (DnO X.prog X.w a (putN kvs k b v))) s' → Q () s') : wpAny (model X.prog X.w) A (setItem (.ref a) (.ref b) r) Q E s := by
  obtain ⟨_, m, xs, rel, dd⟩ := dn_rd I e ks
  refine wpAny_setItem_heap (knd := nestedKind X.prog X.w) (hsz := by rw [← Paired.length rel]; omega) (nroom (X := X) hu) (nkey I ky dp) dd fun h' dd' hs => h _ ?_
  exact dn_write I e m hs (by have := putN_len kvs k b v; omega) (nr_put rel k rv) dd'
/-- d.pop(k, x) -/
theorem n_pop2 {Q : Value → Shared → Prop} (hu : A.units + 9 < cLine) (I : Inv X pins σ H s) (e : H a = some (DnO X.prog X.w a kvs)) (ks : KsAt X.K H kvs) (ky : KyD X.K H (.ref b) k) (dp : k.depth ≤ 8) (rd : RelV d r)
    (h1 : ∀ v w' s', valN kvs k = some v → Inv X pins σ (upd H a (DnO X.prog X.w a (dropN kvs k))) s' → RelV v w' → Q w' s') (h2 : ∀ s', valN kvs k = none → Inv X pins σ H s' → Q r s') :
    wpAny (model X.prog X.w) A (call (.builtin "dict.pop") [.ref a, .ref b, r]) Q E s := by
  obtain ⟨z, m, xs, rel, dd⟩ := dn_rd I e ks
  have hz : xs.length ≤ sizeLine := by rw [← Paired.length rel]; exact z
  have hv := nr_val rel k
  cases ha : atKey xs k with
  | none =>
    rw [ha] at hv
    exact call_pop_default_heap (knd := nestedKind X.prog X.w) (hsz := hz) (nroom (X := X) hu) (nkey I ky dp) m dd ha fun tk => h2 _ (by
      cases q : valN kvs k with
      | none => rfl
      | some v => rw [q] at hv; exact (show False from hv).elim) (I.tok tk)
  | some p =>
    rw [ha] at hv
    obtain ⟨v, ev, rv⟩ : ∃ v, valN kvs k = some v ∧ RelV v p.2 := by
      cases q : valN kvs k with
      | none => rw [q] at hv; exact (show False from hv).elim
      | some v => rw [q] at hv; exact ⟨v, rfl, hv⟩
    exact call_pop_heap (knd := nestedKind X.prog X.w) (more := [r]) (hsz := hz) (.inr ⟨r, rfl⟩) (PySem.F.args_dict_pop_3 _ _ _) (nroom (X := X) hu) (nkey I ky dp) m dd ha fun h' dd' hs =>
      h1 v _ _ ev (dn_write I e m hs (Nat.le_trans (dropN_len kvs k) z) (nr_drop rel k) dd') rv
end

end

section
open PySem PySem.Spec PyProof.Rows L2 Evl
/-! ### new lists that are not the modules' dict -/
def tLstA (t : TA) : TE := fun σ H Q => t σ H fun xs H1 => xs.length ≤ sizeLine ∧ ∀ p, H1 p = none → p ≠ sysModules → Q (.ref p) (upd H1 p (.lst xs))
def rListA (K : PySem.W.Frag) : List V → Hp → VK → Prop := fun xs H Q => ∃ p ys, xs = [.ref p] ∧ (SqL K H p ys ∨ SqT K H p ys) ∧ ∀ l, H l = none → l ≠ sysModules → Q (.ref l) (upd H l (.lst ys))
section
variable {X : Cx} {es : List Expr} {pos : Pos} {t : TA}
theorem pe_lstA (h : PA X es t) : PE X (.List es pos) (tLstA t) := by
  refine ⟨fun pins s σ H Q I hq => ?_⟩
  refine wpAny_List_spliced (thn (h.run pos pins s σ H _ I hq) fun us s1 ⟨xs, H1, I1, r, z, q⟩ => ⟨by rw [← r.length]; exact z, ?_⟩)
  have hf : H1 s1.heap.objs.size = none := I1.hok.fresh (Nat.le_refl _)
  exact ⟨.ref s1.heap.objs.size, upd H1 s1.heap.objs.size (.lst xs), I1.laid (t' := s1.toks) (fun b u e => Heap.get?_push_of_some _ e) (Nat.le_refl _) ⟨z, us, 0, r, Heap.get?_push_size _ rfl⟩, rfl, q _ hf (Nat.ne_of_gt I1.big)⟩
theorem call_listA : CallR X (.type "list") (rListA X.K) := by
  intro pins s σ H xs us Q I r h
  obtain ⟨p, ys, rfl, hq, q⟩ := h
  obtain ⟨u, rfl, rx⟩ := vals1 r
  cases rx
  have fin : ∀ (its : List Value), Vals ys its → ys.length ≤ sizeLine → ∀ (h' : Heap) (c' : Nat), (∀ b o', s.heap.get? b = some o' → h'.get? b = some o') →
      h'.get? s.heap.objs.size = some { cls := .type "list", dict := none, data := .seq its.toArray c', slots := #[] } → EP X pins σ Q (.ref s.heap.objs.size) { s with heap := h' } := fun its r' hz h' c' kp e =>
    ⟨.ref s.heap.objs.size, _, I.laid (t' := s.toks) kp (Nat.le_refl _) (show ObjOk X.prog X.w _ h' _ (.lst ys) from ⟨hz, its, c', r', e⟩), rfl, q _ (I.hok.fresh (Nat.le_refl _)) (Nat.ne_of_gt I.big)⟩
  rcases hq with hq | hq
  · obtain ⟨its, r', pl, hz⟩ := I.list hq
    have hlen := r'.length
    obtain ⟨o, ho, hc, n, hd⟩ := pl.isList
    exact call_list_seq p (.inl rfl) ho hc hd (fun h' c' kp e => fin its r' hz h' c' kp e) (by simp only [List.size_toArray] <;> omega)
  · obtain ⟨its, r', pl, hz⟩ := I.tuple hq
    have hlen := r'.length
    obtain ⟨o, ho, hc, n, hd⟩ := pl
    exact call_list_seq p (.inr rfl) ho hc hd (fun h' c' kp e => fin its r' hz h' c' kp e) (by simp only [List.size_toArray] <;> omega)
end

/-! ### dicts: {}, {k: v} with k a tuple -/
def tNewN (P : Program) (w : World) : TE := fun _ H Q => ∀ p, H p = none → Q (.ref p) (upd H p (DnO P w p []))
def tDisp1N (P : Program) (w : World) (K : PySem.W.Frag) (tk tv : TE) : TE := fun σ H Q => ∀ p, H p = none → tk σ (upd H p (DnO P w p [])) fun x H1 => tv σ H1 fun y H2 =>
  H2 p = some (DnO P w p []) ∧ ∃ b k, x = .ref b ∧ KyD K H2 (.ref b) k ∧ k.depth ≤ 8 ∧ Q (.ref p) (upd H2 p (DnO P w p [(k, b, y)]))
theorem dn_empty {P : Program} {w : World} {H : Hp} (h : Heap) (hb : sysModules < h.objs.size) : ObjOk P w H (h.push { cls := .type "dict", data := .dict #[] }) h.objs.size (DnO P w h.objs.size []) :=
  dnO_ok ⟨Nat.zero_le _, beq_eq_false_iff_ne.mpr (Ne.symm (Nat.ne_of_lt hb)), [], .nil, _, #[], 0, Heap.get?_push_size _ rfl, ⟨rfl, rfl, rfl⟩, rfl, rfl, List.nodup_nil⟩
section
variable {X : Cx} {pos : Pos} {k v : Expr} {tk tv : TE}
theorem pe_newN : PE X (.Dict [] [] pos) (tNewN X.prog X.w) := ⟨fun pins s σ H Q I h =>
  wpAny_Dict_empty ⟨.ref s.heap.objs.size, _, I.laid (a := s.heap.objs.size) (o := DnO X.prog X.w s.heap.objs.size []) (t' := s.toks) (fun _ _ q => Heap.get?_push_of_some _ q) (Nat.le_refl _) (dn_empty s.heap I.big), rfl, h _ (I.hok.fresh (Nat.le_refl _))⟩⟩
theorem pe_disp1N (hu : X.A.units + 9 < cLine) (hk : PE X k tk) (hv : PE X v tv) : PE X (.Dict [some k] [v] pos) (tDisp1N X.prog X.w X.K tk tv) := by
  refine ⟨fun pins s σ H Q I q => ?_⟩
  have hn := I.hok.fresh (Nat.le_refl s.heap.objs.size)
  have I1 := I.laid (a := s.heap.objs.size) (o := DnO X.prog X.w s.heap.objs.size []) (h' := s.heap.push { cls := .type "dict", data := .dict #[] }) (t' := s.toks) (fun _ _ q => Heap.get?_push_of_some _ q) (Nat.le_refl _) (dn_empty s.heap I.big)
  have sh := zip_pairTrees [some k] [v] X.env pos rfl rfl
  have hlen := pairTrees_length [some k] [v] X.env pos rfl rfl
  rw [arm_eval_Dict, sh, dictDisplay_pairs (pairTrees [some k] [v] X.env pos) (fun e => by rw [e] at hlen; exact nomatch hlen) (by rw [hlen]; show 1 < 17; decide)]
  refine wpAny_bind (wpAny_standAt (wpAny_bind (wpAny_subDictH (knd := nestedKind X.prog X.w) (Q := fun d s' => wpAny (model X.prog X.w) X.A (pure (Value.ref d)) (EP X pins σ Q) X.xe s') (show X.A.units + 8 < cLine by omega) (by rw [hlen]; show 1 ≤ 15; decide) ?_)))
  refine pairTrees_cons_walk (thn (hk.run pins _ σ _ _ I1 (q _ hn)) fun u s1 ⟨x, H1, J1, rx, q1⟩ => thn (hv.run pins s1 σ H1 _ J1 q1) fun w2 s2 ⟨y, H2, J2, ry, e, b, kk, ex, ky, dp, q2⟩ => pairTrees_nil_walk ?_)
  subst ex
  cases rx
  obtain ⟨_, m, xs, rel, dd⟩ := dn_rd J2 e (fun e he => nomatch he)
  cases rel
  exact ⟨[(kk, b, w2)], ⟨rfl, rfl, nkey J2 ky dp, trivial⟩, dd, fun h' tk dd' hs => wpAny_pure ⟨.ref s.heap.objs.size, _, dn_write (kvs' := [(kk, b, y)]) J2 e m hs (show 1 ≤ sizeLine by decide) (.cons ⟨rfl, rfl, ry⟩ .nil) dd', rfl, q2⟩⟩
end

/-! ### data of any kind -/
/-- at a stands a dict with these keys and values, in order -/
def DicAt (P : Program) (w : World) (H : Hp) (a : Addr) (ps : List (V × V)) : Prop :=
  (∃ kvs, H a = some (.dK kvs) ∧ ps = kvs.map fun x => (kV x.1, x.2)) ∨ ∃ kvs : List Nkv, H a = some (DnO P w a kvs) ∧ ps = kvs.map fun x => (V.ref x.2.1, x.2.2)
mutual
inductive Aq (P : Program) (w : World) (K : PySem.W.Frag) (H : Hp) : V → PyData → Prop
  | non : Aq P w K H .non .none
  | bl (b : Bool) : Aq P w K H (.bl b) (.bool b)
  | int (i : Int) : Aq P w K H (.int i) (.int i)
  | str (x : Str) : Aq P w K H (.str x) (.str x)
  | lst {a : Addr} {xs : List V} {ds : List PyData} : SqL K H a xs → a ≠ sysModules → AqAll P w K H xs ds → Aq P w K H (.ref a) (.list ds)
  | tup {a : Addr} {xs : List V} {ds : List PyData} : SqT K H a xs → AqAll P w K H xs ds → Aq P w K H (.ref a) (.tuple ds)
  | dic {a : Addr} {ps : List (V × V)} {ds : List (PyData × PyData)} : DicAt P w H a ps → AqAll P w K H (ps.map (·.1)) (ds.map (·.1)) → AqAll P w K H (ps.map (·.2)) (ds.map (·.2)) → Aq P w K H (.ref a) (.dict ds)
inductive AqAll (P : Program) (w : World) (K : PySem.W.Frag) (H : Hp) : List V → List PyData → Prop
  | nil : AqAll P w K H [] []
  | cons {v : V} {vs : List V} {d : PyData} {ds : List PyData} : Aq P w K H v d → AqAll P w K H vs ds → AqAll P w K H (v :: vs) (d :: ds)
end
theorem kv_keys {kvs : List (L2.Key × V)} {vs : List (L2.Key × Value)} (r : KV kvs vs) {P : Program} {w : World} : ∀ {es : List DictEntry}, PySem.Pairs (mixKind P w) es vs → Vals (kvs.map fun x => kV x.1) (es.map (·.key)) ∧ Vals (kvs.map (·.2)) (es.map (·.val)) := by
  induction r with
  | nil => intro es h; cases h; exact ⟨.nil, .nil⟩
  | @cons p q ps qs h t ih =>
    intro es hp
    cases hp with
    | @cons e _ es _ h1 h2 h3 =>
      obtain ⟨a, b⟩ := ih h3
      obtain ⟨e1, r1⟩ := h
      refine ⟨.cons ?_ a, .cons (show RelV p.2 e.val by rw [h2]; exact r1) b⟩
      have h1 : keyIs q.1 e.key = true := h1
      show RelV (kV p.1) e.key
      rcases keyIs_shape h1 with ⟨i, t, z, e2⟩ | ⟨x, t, z, e2⟩
      · rw [e1, z, e2]; exact ⟨t, rfl⟩
      · rw [e1, z, e2]; exact ⟨t, rfl⟩
theorem nr_keys {P : Program} {w : World} {kvs : List Nkv} {xs : List (NestedKey × Addr × Value)} (r : Paired NR kvs xs) : Vals (kvs.map fun x => V.ref x.2.1) ((xs.map (entryOfKey (nestedKind P w))).map (·.key)) ∧ Vals (kvs.map (·.2.2)) ((xs.map (entryOfKey (nestedKind P w))).map (·.val)) := by
  induction r with
  | nil => exact ⟨.nil, .nil⟩
  | @cons p q ps qs h t ih => exact ⟨.cons (show RelV (V.ref p.2.1) (Value.ref q.2.1) by rw [h.2.1]; rfl) ih.1, .cons h.2.2 ih.2⟩
section
variable {X : Cx} {pins : List (Addr × Obj)} {σ : L2.St} {H : Hp} {s : Shared}
theorem DicAt.raw (I : Inv X pins σ H s) {a : Addr} {ps : List (V × V)} (h : DicAt X.prog X.w H a ps) : a ≠ sysModules ∧ ∃ o es ep, s.heap.get? a = some o ∧ o.cls = .type "dict" ∧ o.data = .dict es ep ∧ Vals (ps.map (·.1)) (es.toList.map (·.key)) ∧ Vals (ps.map (·.2)) (es.toList.map (·.val)) := by
  rcases h with ⟨kvs, e, rfl⟩ | ⟨kvs, e, rfl⟩
  · obtain ⟨_, m, vs, rel, o, es, ep, h1, h2, h3, _, h5, _⟩ := dk_of I.hok e
    obtain ⟨a1, a2⟩ := kv_keys rel h5
    exact ⟨by simpa using m, o, es, ep, h1, h2.1, h3, by simpa [Function.comp_def] using a1, by simpa [Function.comp_def] using a2⟩
  · obtain ⟨⟨_, m, xs, rel, o, es, ep, h1, h2, h3, h4, _⟩, _⟩ := (show ObjOk X.prog X.w H s.heap a (DnO X.prog X.w a kvs) from I.hok a _ e)
    obtain ⟨a1, a2⟩ := nr_keys (P := X.prog) (w := X.w) rel
    exact ⟨by simpa using m, o, es, ep, h1, h2.1, h3, by rw [h4]; simpa [Function.comp_def] using a1, by rw [h4]; simpa [Function.comp_def] using a2⟩
mutual
theorem Aq.reads (I : Inv X pins σ H s) : ∀ (d : PyData) (v : V) (u : Value), Aq X.prog X.w X.K H v d → RelV v u → ∃ as, sysModules ∉ as ∧ Reads s.heap u d as
  | .none, _, _, h, r => by cases h; cases r; exact ⟨_, by simp, Reads.none⟩
  | .bool b, _, _, h, r => by cases h; cases r; exact ⟨_, by simp, Reads.bool b⟩
  | .int i, _, _, h, r => by cases h; obtain ⟨t, rfl⟩ := r; exact ⟨_, by simp, Reads.int i t⟩
  | .str x, _, _, h, r => by cases h; obtain ⟨t, rfl⟩ := r; exact ⟨_, by simp, Reads.str x t⟩
  | .list ds, _, _, h, r => by
    cases h with
    | lst hs hm ha =>
      cases r
      obtain ⟨its, rv, ⟨o, n, ho, hc, _, hd⟩, _⟩ := I.list hs
      obtain ⟨as, hn, hr⟩ := Aq.readsAll I ds _ its ha rv
      exact ⟨_, by simp only [List.mem_cons, not_or]; exact ⟨fun e => hm e.symm, hn⟩, Reads.list ho hc hd hr⟩
  | .tuple ds, _, _, h, r => by
    cases h with
    | tup hs ha =>
      cases r
      obtain ⟨its, rv, ⟨o, ho, hc, n, hd⟩, _⟩ := I.tuple hs
      obtain ⟨as, hn, hr⟩ := Aq.readsAll I ds _ its ha rv
      exact ⟨_, hn, Reads.tuple ho hc hd hr⟩
  | .dict ds, _, _, h, r => by
    cases h with
    | dic hd hk hv =>
      cases r
      obtain ⟨m, o, es, ep, h1, h2, h3, r1, r2⟩ := hd.raw I
      obtain ⟨as, n1, q1⟩ := Aq.readsFst I ds _ _ hk r1
      obtain ⟨bs, n2, q2⟩ := Aq.readsSnd I ds _ _ hv r2
      exact ⟨_, by simp only [List.cons_append, List.mem_cons, List.mem_append, not_or]; exact ⟨fun e => m e.symm, n1, n2⟩, Reads.dict h1 h2 h3 q1 q2⟩
theorem Aq.readsAll (I : Inv X pins σ H s) : ∀ (ds : List PyData) (vs : List V) (us : List Value), AqAll X.prog X.w X.K H vs ds → Vals vs us → ∃ as, sysModules ∉ as ∧ ReadsAll s.heap us ds as
  | [], _, _, h, r => by cases h; cases r; exact ⟨_, by simp, ReadsAll.nil⟩
  | d :: ds, _, _, h, r => by
    cases h with
    | cons h1 h2 =>
      cases r with
      | cons r1 r2 =>
        obtain ⟨as, n1, q1⟩ := Aq.reads I d _ _ h1 r1
        obtain ⟨bs, n2, q2⟩ := Aq.readsAll I ds _ _ h2 r2
        exact ⟨_, by simp only [List.mem_append, not_or]; exact ⟨n1, n2⟩, ReadsAll.cons q1 q2⟩
theorem Aq.readsFst (I : Inv X pins σ H s) : ∀ (ds : List (PyData × PyData)) (vs : List V) (us : List Value), AqAll X.prog X.w X.K H vs (ds.map (·.1)) → Vals vs us → ∃ as, sysModules ∉ as ∧ ReadsAll s.heap us (ds.map (·.1)) as
  | [], _, _, h, r => by cases h; cases r; exact ⟨_, by simp, ReadsAll.nil⟩
  | (d, e) :: ds, _, _, h, r => by
    cases h with
    | cons h1 h2 =>
      cases r with
      | cons r1 r2 =>
        obtain ⟨as, n1, q1⟩ := Aq.reads I d _ _ h1 r1
        obtain ⟨bs, n2, q2⟩ := Aq.readsFst I ds _ _ h2 r2
        exact ⟨_, by simp only [List.mem_append, not_or]; exact ⟨n1, n2⟩, ReadsAll.cons q1 q2⟩
theorem Aq.readsSnd (I : Inv X pins σ H s) : ∀ (ds : List (PyData × PyData)) (vs : List V) (us : List Value), AqAll X.prog X.w X.K H vs (ds.map (·.2)) → Vals vs us → ∃ as, sysModules ∉ as ∧ ReadsAll s.heap us (ds.map (·.2)) as
  | [], _, _, h, r => by cases h; cases r; exact ⟨_, by simp, ReadsAll.nil⟩
  | (d, e) :: ds, _, _, h, r => by
    cases h with
    | cons h1 h2 =>
      cases r with
      | cons r1 r2 =>
        obtain ⟨as, n1, q1⟩ := Aq.reads I e _ _ h1 r1
        obtain ⟨bs, n2, q2⟩ := Aq.readsSnd I ds _ _ h2 r2
        exact ⟨_, by simp only [List.mem_append, not_or]; exact ⟨n1, n2⟩, ReadsAll.cons q1 q2⟩
end
end

end

section
open PySem L2
/-- a heap without some addresses: what lies in them may change -/
def Wo (A : List Addr) (H : Hp) : Hp := fun b => if b ∈ A then none else H b
/-- .. set back -/
def Bk (A : List Addr) (H H' : Hp) : Hp := fun b => if b ∈ A then H b else H' b
def Pl (a : Addr) : HO → Prop
  | .lst _ => True
  | .dK _ => True
  | .set _ _ => True
  | .ext φ => ∀ h o, φ h → h.get? a = some o → ∀ v, o.data ≠ .cell v
  | _ => False
section
variable {P : Program} {w : World} {H H' : Hp} {h h' : Heap} {a : Addr} {o : HO} {A : List Addr}
theorem wo_in (m : a ∈ A) : Wo A H a = none := if_pos m
theorem wo_out (m : a ∉ A) : Wo A H a = H a := if_neg m
theorem bk_in (m : a ∈ A) : Bk A H H' a = H a := if_pos m
theorem bk_out (m : a ∉ A) : Bk A H H' a = H' a := if_neg m
theorem ObjOk.move (x : ObjOk P w H h a o) (p : Pl a o) (k : ∀ u, h.get? a = some u → h'.get? a = some u) : ObjOk P w H' h' a o := by
  cases o with
  | lst xs => obtain ⟨z, its, n, r, e⟩ := x; exact ⟨z, its, n, r, k _ e⟩
  | dK kvs => obtain ⟨z, y, vs, r, ob, es, ep, e, c⟩ := x; exact ⟨z, y, vs, r, ob, es, ep, k _ e, c⟩
  | set S n => obtain ⟨ob, es, ep, t, e, c⟩ := x; exact ⟨ob, es, ep, t, k _ e, c⟩
  | ext φ => obtain ⟨q, ⟨o, e⟩, st⟩ := x; exact ⟨st _ _ q fun o q => k _ q, ⟨o, k _ e⟩, st⟩
  | tup _ => exact p.elim
  | dT _ => exact p.elim
  | ins _ _ _ => exact p.elim
  | own _ => exact p.elim
  | xd _ => exact p.elim
  | met _ _ => exact p.elim
  | rng _ _ => exact p.elim
  | frz _ _ => exact p.elim
  | tbl _ => exact p.elim
theorem ObjOk.objP (x : ObjOk P w H h a o) (p : Pl a o) : ∃ u, h.get? a = some u ∧ ∀ v, u.data ≠ .cell v := by
  cases o with
  | lst xs => obtain ⟨z, its, n, r, e⟩ := x; exact ⟨_, e, fun v z => nomatch z⟩
  | dK kvs => obtain ⟨z, y, vs, r, ob, es, ep, e, c, d, _⟩ := x; exact ⟨_, e, fun v z => by rw [d] at z; cases z⟩
  | set S n => obtain ⟨ob, es, ep, t, e, c, d, _⟩ := x; exact ⟨_, e, fun v z => by rw [d] at z; cases z⟩
  | ext φ => obtain ⟨q, ⟨o, e⟩, st⟩ := x; exact ⟨o, e, p h o q e⟩
  | tup _ => exact p.elim
  | dT _ => exact p.elim
  | ins _ _ _ => exact p.elim
  | own _ => exact p.elim
  | xd _ => exact p.elim
  | met _ _ => exact p.elim
  | rng _ _ => exact p.elim
  | frz _ _ => exact p.elim
  | tbl _ => exact p.elim
end
/-- all of these are tracked, and stand for themselves -/
def Asi (A : List Addr) (H : Hp) : Prop := ∀ a ∈ A, ∃ o, H a = some o ∧ Pl a o
def tFrame (t : TE) : TE := fun σ H Q => ∃ A : List Addr, Asi A H ∧ t σ (Wo A H) fun v H' => (∀ a ∈ A, H' a = none) → Q v (Bk A H H')
section
variable {X : Cx} {pins : List (Addr × Obj)} {σ : L2.St} {H H' : Hp} {s s' : Shared} {A : List Addr}
theorem Inv.noFs (I : Inv X pins σ H s) {b : Addr} (hb : b ∈ X.fs) : H b = none := by
  obtain ⟨_, o, ho, _⟩ := I.ok.funs.mem hb
  exact I.base.free b o ho (I.ok.frf b hb) fun z => I.ok.exfs b z hb
/-- set aside -/
theorem Inv.aside (I : Inv X pins σ H s) (hA : Asi A H) : ∃ ps : List (Addr × Obj), (∀ a ∈ A, ∃ o u, H a = some o ∧ Pl a o ∧ s.heap.get? a = some u ∧ (a, u) ∈ ps) ∧ Inv X (pins ++ ps) σ (Wo A H) s := by
  have hn : ∀ b, H b = none → Wo A H b = none := fun b e => by
    unfold Wo
    split
    · rfl
    · exact e
  have hs : ∀ b u, (∀ v, Pl b v → u ≠ v) → H b = some u → Wo A H b = some u := fun b u d e => by
    by_cases m : b ∈ A
    · obtain ⟨o, ho, po⟩ := hA b m
      rw [e] at ho; cases ho
      exact absurd rfl (d _ po)
    · rw [wo_out m]; exact e
  refine ⟨A.filterMap fun a => (s.heap.get? a).map fun u => (a, u), fun a ha => ?_, ⟨I.ok, I.os, I.bare, ⟨I.base.keep, I.base.slot, fun b o e n hx => hn b (I.base.free b o e n hx), I.base.there, fun b xs e => hs b _ (fun v p z => by subst z; exact p) (I.base.tups b xs e), fun b o u e => hs b _ (fun v p z => by subst z; exact p) (I.base.frzs b o u e), fun b ps e => ?_⟩, I.loc, I.cell, hn _ I.free, fun x c e => hn _ (I.freeC x c e), fun p hp => ?_, ?_, I.len⟩⟩
  · obtain ⟨o, ho, po⟩ := hA a ha
    obtain ⟨u, hu, _⟩ := ObjOk.objP (I.hok a o ho) po
    exact ⟨o, u, ho, po, hu, List.mem_filterMap.mpr ⟨a, ha, by rw [hu]; rfl⟩⟩
  · obtain ⟨m, e2⟩ := I.base.tbls b ps e
    exact ⟨m, hs b _ (fun v p z => by subst z; exact p) e2⟩
  · rw [← List.append_assoc] at hp
    rcases List.mem_append.mp hp with hp | hp
    · obtain ⟨a, b, c⟩ := I.pin p hp
      exact ⟨a, hn _ b, c⟩
    · obtain ⟨a, ha, e⟩ := List.mem_filterMap.mp hp
      obtain ⟨o, ho, po⟩ := hA a ha
      obtain ⟨u, hu, hc⟩ := ObjOk.objP (I.hok a o ho) po
      rw [hu] at e
      cases e
      have e1 : a ≠ X.env.locals := fun z => by have h := I.free; rw [← z, ho] at h; cases h
      have e2 : a ∉ X.fs := fun z => by have h := Inv.noFs I z; rw [ho] at h; cases h
      exact ⟨hu, wo_in ha, e1, e2, hc⟩
  · intro a o e
    have m : a ∉ A := fun m => by rw [wo_in m] at e; cases e
    rw [wo_out m] at e
    exact (I.hok a o e).stay (fun b u _ q => q) (fun b e => hs b _ (fun v p z => by subst z; exact p) e) fun b xs e => hs b _ (fun v p z => by subst z; exact p) e
/-- set back -/
theorem Inv.back {ps : List (Addr × Obj)} (I : Inv X pins σ H s) (hA : ∀ a ∈ A, ∃ o u, H a = some o ∧ Pl a o ∧ s.heap.get? a = some u ∧ (a, u) ∈ ps) (J : Inv X (pins ++ ps) σ H' s') : (∀ a ∈ A, H' a = none) ∧ Inv X pins σ (Bk A H H') s' := by
  have hp : ∀ a ∈ A, ∃ o u, H a = some o ∧ Pl a o ∧ s.heap.get? a = some u ∧ s'.heap.get? a = some u ∧ H' a = none := fun a ha => by
    obtain ⟨o, u, h1, h2, h3, h4⟩ := hA a ha
    obtain ⟨p1, p2, _⟩ := J.pin (a, u) (List.mem_append_right _ (List.mem_append_right _ h4))
    exact ⟨o, u, h1, h2, h3, p1, p2⟩
  have hn : ∀ b, H b = none → H' b = none → Bk A H H' b = none := fun b e e' => by
    unfold Bk
    split
    · exact e
    · exact e'
  have hs : ∀ b u, H' b = some u → Bk A H H' b = some u := fun b u e => by
    by_cases m : b ∈ A
    · obtain ⟨_, _, _, _, _, _, z⟩ := hp b m
      rw [e] at z; cases z
    · rw [bk_out m]; exact e
  refine ⟨fun a ha => let ⟨_, _, _, _, _, _, z⟩ := hp a ha; z, ⟨J.ok, J.os, J.bare, ⟨J.base.keep, J.base.slot, fun b o e n hx => hn b (I.base.free b o e n hx) (J.base.free b o e n hx), J.base.there, fun b xs e => hs b _ (J.base.tups b xs e), fun b o u e => hs b _ (J.base.frzs b o u e), fun b ps e => ?_⟩, J.loc, J.cell, hn _ I.free J.free, fun x c e => hn _ (I.freeC x c e) (J.freeC x c e), fun p hp => ?_, ?_, J.len⟩⟩
  · obtain ⟨m, e2⟩ := J.base.tbls b ps e
    exact ⟨m, hs b _ e2⟩
  · obtain ⟨_, n1, _⟩ := I.pin p hp
    obtain ⟨a, b, c⟩ := J.pin p (by rw [← List.append_assoc]; exact List.mem_append_left _ hp)
    exact ⟨a, hn _ n1 b, c⟩
  · intro a o e
    by_cases m : a ∈ A
    · obtain ⟨o', u, h1, h2, h3, h4, _⟩ := hp a m
      rw [bk_in m, h1] at e
      cases e
      exact ObjOk.move (I.hok a _ h1) h2 fun v q => by rw [h3] at q; cases q; exact h4
    · rw [bk_out m] at e
      exact (J.hok a o e).stay (fun b u _ q => q) (fun b e => hs b _ e) fun b xs e => hs b _ e
end
theorem pe_frame {X : Cx} {e : Expr} {t : TE} (h : PE X e t) : PE X e (tFrame t) := ⟨fun pins s σ H Q I ⟨A, hA, ht⟩ => by
  obtain ⟨ps, hp, J⟩ := Inv.aside I hA
  exact thn (h.run (pins ++ ps) s σ _ _ J ht) fun u s' ⟨v, H', J', r, q⟩ => by
    obtain ⟨n, K⟩ := Inv.back I hp J'
    exact ⟨v, _, K, r, q n⟩⟩

end

section
open PySem PySem.Spec PyProof.Rows L2 Evl
/-! ### isinstance(x, T) of data -/
def isA (T : String) (d : PyData) : Bool := if T = "str" then d.isStr else if T = "tuple" then d.isTuple else if T = "list" then d.isList else d.isDict
def rIsA (P : Program) (w : World) (K : PySem.W.Frag) : List V → Hp → VK → Prop := fun xs H Q => ∃ (x : V) (d : PyData) (T : String), xs = [x, .ty T] ∧ Aq P w K H x d ∧ (T = "str" ∨ T = "tuple" ∨ T = "list" ∨ T = "dict") ∧ Q (.bl (isA T d)) H
section
variable {X : Cx}
theorem call_isA : CallR X (.builtin "isinstance") (rIsA X.prog X.w X.K) := by
  intro pins s σ H xs us Q I r h
  obtain ⟨x, d, T, rfl, ha, hT, q⟩ := h
  obtain ⟨u1, u2, rfl, r1, r2⟩ := vals2 r
  obtain rfl : u2 = Value.type T := r2
  obtain ⟨as, _, rd⟩ := ha.reads I d x u1 r1
  rcases hT with rfl | rfl | rfl | rfl
  · exact PySem.W.isinstance_str_data rd fun tk _ => ⟨.bl _, H, I.tok tk, rfl, q⟩
  · exact PySem.W.isinstance_tuple_data rd fun tk _ => ⟨.bl _, H, I.tok tk, rfl, q⟩
  · exact PySem.W.isinstance_list_data rd fun tk _ => ⟨.bl _, H, I.tok tk, rfl, q⟩
  · exact PySem.W.isinstance_dict_data rd fun tk _ => ⟨.bl _, H, I.tok tk, rfl, q⟩
end
/-! ### repr of data -/
def rReprA (P : Program) (w : World) (K : PySem.W.Frag) : List V → Hp → VK → Prop := fun xs H Q => ∃ (a : Addr) (d : PyData), xs = [.ref a] ∧ Aq P w K H (.ref a) d ∧ d.showable = true ∧ d.depth ≤ 64 ∧ d.shown.length ≤ sizeLine ∧ Q (.str d.shown) H
section
variable {X : Cx}
theorem call_reprA (gd : X.A.guards = some []) (hu : X.A.units + 200 < cLine) : CallR X (.builtin "repr") (rReprA X.prog X.w X.K) := by
  intro pins s σ H xs us Q I r h
  obtain ⟨a, d, rfl, hd, sh, dp, len, q⟩ := h
  rw [Vals.ref1 r]
  obtain ⟨as, hm, rd⟩ := hd.reads I d (.ref a) (.ref a) rfl
  refine repr_of_reads' rd sh (fun _ => hm) gd (by omega) (fun _ _ e => e) (fun h' u tk k => ?_) len
  exact ⟨.str d.shown, H, I.kept (t' := tk) k, ⟨u, rfl⟩, q⟩
end
theorem hu9_of {A : Around} {k : Nat} (hr : Room k A) : A.units + 9 < cLine := by have := hr.un; omega
theorem hu200_of {A : Around} {k : Nat} (hr : Room (k + 1) A) : A.units + 200 < cLine := by have := hr.un; omega
/-- of anything: texts, numbers, truths, None, too -/
def rReprV (P : Program) (w : World) (K : PySem.W.Frag) : List V → Hp → VK → Prop := fun xs H Q => ∃ (x : V) (d : PyData), xs = [x] ∧ Aq P w K H x d ∧ d.showable = true ∧ d.depth ≤ 64 ∧ d.shown.length ≤ sizeLine ∧ Q (.str d.shown) H
section
variable {X : Cx}
theorem call_reprV (gd : X.A.guards = some []) (hu : X.A.units + 200 < cLine) : CallR X (.builtin "repr") (rReprV X.prog X.w X.K) := by
  intro pins s σ H xs us Q I r h
  obtain ⟨x, d, rfl, hd, sh, dp, len, q⟩ := h
  obtain ⟨u, rfl, ru⟩ := vals1 r
  obtain ⟨as, hm, rd⟩ := hd.reads I d x u ru
  cases rd with
  | none => exact PySem.P.repr_of_none ⟨.str _, H, I.tok _, ⟨_, rfl⟩, q⟩
  | bool b => exact PySem.P.repr_of_bool ⟨.str _, H, I.tok _, ⟨_, rfl⟩, q⟩
  | int i t => exact PySem.P.repr_of_int (by simpa [PyData.showable] using sh) ⟨.str _, H, I.tok _, ⟨_, rfl⟩, q⟩
  | str z t => exact PySem.P.repr_of_str (hsz := len) ⟨.str _, H, I.tok _, ⟨_, rfl⟩, q⟩
  | list h1 h2 h3 h4 => exact repr_of_reads' (.list h1 h2 h3 h4) sh (fun _ => hm) gd (by omega) (fun _ _ e => e) (fun h' u tk k => ⟨.str _, H, I.kept (t' := tk) k, ⟨u, rfl⟩, q⟩) len
  | tuple h1 h2 h3 h4 => exact repr_of_reads' (.tuple h1 h2 h3 h4) sh (fun _ => hm) gd (by omega) (fun _ _ e => e) (fun h' u tk k => ⟨.str _, H, I.kept (t' := tk) k, ⟨u, rfl⟩, q⟩) len
  | dict h1 h2 h3 h4 h5 => exact repr_of_reads' (.dict h1 h2 h3 h4 h5) sh (fun _ => hm) gd (by omega) (fun _ _ e => e) (fun h' u tk k => ⟨.str _, H, I.kept (t' := tk) k, ⟨u, rfl⟩, q⟩) len
end
/-! ### growth -/
section
variable {P : Program} {w : World} {K : PySem.W.Frag} {H H' : Hp}
theorem sqL_ex {a : Addr} {xs : List V} (e : Ex H H') (h : SqL K H a xs) : SqL K H' a xs := ex_l e h
theorem DicAt.ex {a : Addr} {ps : List (V × V)} (e : Ex H H') (h : DicAt P w H a ps) : DicAt P w H' a ps := by
  rcases h with ⟨kvs, h, z⟩ | ⟨kvs, h, z⟩
  · exact .inl ⟨kvs, e _ _ h, z⟩
  · exact .inr ⟨kvs, e _ _ h, z⟩
mutual
theorem Aq.ex (e : Ex H H') : ∀ {v : V} {d : PyData}, Aq P w K H v d → Aq P w K H' v d
  | _, _, .non => .non
  | _, _, .bl b => .bl b
  | _, _, .int i => .int i
  | _, _, .str x => .str x
  | _, _, .lst h m a => .lst (ex_l e h) m (AqAll.ex e a)
  | _, _, .tup h a => .tup (ex_t e h) (AqAll.ex e a)
  | _, _, .dic h a b => .dic (h.ex e) (AqAll.ex e a) (AqAll.ex e b)
theorem AqAll.ex (e : Ex H H') : ∀ {vs : List V} {ds : List PyData}, AqAll P w K H vs ds → AqAll P w K H' vs ds
  | _, _, .nil => .nil
  | _, _, .cons a b => .cons (Aq.ex e a) (AqAll.ex e b)
end
theorem AqAll.len : ∀ {vs : List V} {ds : List PyData}, AqAll P w K H vs ds → vs.length = ds.length
  | _, _, .nil => rfl
  | _, _, .cons a b => by rw [List.length_cons, List.length_cons, AqAll.len b]
theorem AqAll.at : ∀ {vs : List V} {ds : List PyData}, AqAll P w K H vs ds → ∀ {i : Nat} {v : V}, vs[i]? = some v → ∃ d, ds[i]? = some d ∧ Aq P w K H v d
  | _, _, .nil, i, v, h => by simp at h
  | _, _, .cons a b, 0, v, h => by
    rw [List.getElem?_cons_zero] at h
    cases h
    exact ⟨_, rfl, a⟩
  | _, _, .cons a b, i + 1, v, h => by
    rw [List.getElem?_cons_succ] at h
    exact AqAll.at b h
theorem AqAll.app : ∀ {vs : List V} {ds : List PyData} {us : List V} {es : List PyData}, AqAll P w K H vs ds → AqAll P w K H us es → AqAll P w K H (vs ++ us) (ds ++ es)
  | _, _, _, _, .nil, h => h
  | _, _, _, _, .cons a b, h => .cons a (AqAll.app b h)
theorem AqAll.take : ∀ {vs : List V} {ds : List PyData} (n : Nat), AqAll P w K H vs ds → AqAll P w K H (vs.take n) (ds.take n)
  | _, _, 0, _ => by rw [List.take_zero, List.take_zero]; exact .nil
  | _, _, n + 1, .nil => by rw [List.take_nil, List.take_nil]; exact .nil
  | _, _, n + 1, .cons a b => by rw [List.take_succ_cons, List.take_succ_cons]; exact .cons a (AqAll.take n b)
theorem AqAll.drop : ∀ {vs : List V} {ds : List PyData} (n : Nat), AqAll P w K H vs ds → AqAll P w K H (vs.drop n) (ds.drop n)
  | _, _, 0, h => h
  | _, _, n + 1, .nil => by rw [List.drop_nil, List.drop_nil]; exact .nil
  | _, _, n + 1, .cons a b => by rw [List.drop_succ_cons, List.drop_succ_cons]; exact AqAll.drop n b
end
section
variable {H H' : Hp} {A : List Addr} {a : Addr} {o : HO}
theorem wo_ex : Ex (Wo A H) H := fun b u h => by
  unfold Wo at h
  split at h
  · cases h
  · exact h
theorem wo_mono (e : Ex H H') : Ex (Wo A H) (Wo A H') := fun b u h => by
  unfold Wo at h ⊢
  split at h
  · cases h
  · rename_i hn
    rw [if_neg hn]
    exact e b u h
theorem wo_upd (h : a ∈ A) : Wo A (upd H a o) = Wo A H := by
  funext b
  unfold Wo
  split
  · rfl
  · rename_i hn
    exact upd_ne (fun z => hn (by rw [z]; exact h))
theorem wo_mu (m : Mu a H H') (h : a ∈ A) : Ex (Wo A H) (Wo A H') := fun b u hb => by
  unfold Wo at hb ⊢
  split at hb
  · cases hb
  · rename_i hn
    rw [if_neg hn]
    exact m b u (fun z => hn (by rw [z]; exact h)) hb
end
/-! ### signs -/
def letterB (c : Nat) : Bool := decide (97 ≤ c ∧ c ≤ 122)
def signB (c : Nat) : Bool := letterB c || decide (48 ≤ c ∧ c ≤ 57) || decide (c = 46)
def wordS (z : Str) : Bool := decide (1 ≤ z.length ∧ z.length ≤ 40) && letterB (z.cps.toList.headD 0) && z.cps.toList.all signB
def wordB : PyData → Bool
  | .str z => wordS z
  | _ => false
theorem range_letters : (Str.ofString "abcdefghijklmnopqrstuvwxyz").cps.toList = List.range' 97 26 := by decide +kernel
theorem range_signs : (Str.ofString "abcdefghijklmnopqrstuvwxyz0123456789.").cps.toList = List.range' 97 26 ++ List.range' 48 10 ++ [46] := by decide +kernel
theorem in_letters (c : Nat) : (!(Builtin.Str.occurrences (Str.ofString "abcdefghijklmnopqrstuvwxyz") ⟨#[c]⟩ 0 (Str.ofString "abcdefghijklmnopqrstuvwxyz").length 1).isEmpty) = letterB c := by
  rw [StrLaws.found_one, range_letters, letterB]
  refine decide_eq_decide.mpr ?_
  rw [List.mem_range'_1]
  omega
theorem in_signs (c : Nat) : (!(Builtin.Str.occurrences (Str.ofString "abcdefghijklmnopqrstuvwxyz0123456789.") ⟨#[c]⟩ 0 (Str.ofString "abcdefghijklmnopqrstuvwxyz0123456789.").length 1).isEmpty) = signB c := by
  rw [StrLaws.found_one, range_signs, signB, letterB, ← Bool.decide_or, ← Bool.decide_or]
  refine decide_eq_decide.mpr ?_
  rw [List.mem_append, List.mem_append, List.mem_range'_1, List.mem_range'_1, List.mem_singleton]
  omega
/-! ### comprehensions whose items are known -/
section
variable {σ : L2.St} {H : Hp} {Q : VK} {K : PySem.W.Frag} {te : TE} {j : Nat} {vs : List Nat}
theorem c_strV {x : Str} (f : Nat → V) (hn : x.length ≤ 50000) (hw : ∀ y, wipe ((wipe σ vs).set j (some y)) vs = wipe σ vs)
    (hb : ∀ (c : Nat) H' (Q' : VK), Ex H H' → (∀ H4, Ex H' H4 → Q' (f c) H4) → te ((wipe σ vs).set j (some (.str ⟨#[c]⟩))) H' Q')
    (q : ∀ p H2, H p = none → Ex H H2 → H2 p = some (.lst (x.cps.toList.map f)) → Q (.ref p) H2) : CompJ (Its x) (gName j) tYes te vs σ H Q := by
  intro D hD
  have hs : x.cps.size = x.length := rfl
  refine ⟨fun i m H' => m + i = x.cps.size ∧ Ex H H' ∧ H' D = some (.lst ((x.cps.toList.take i).map f)), ⟨x.cps.size, rfl, Ex.new hD, upd_same⟩, fun i m H' ⟨hm, e, hd⟩ => ?_⟩
  by_cases hi : i < x.cps.size
  · refine .inr ⟨hi, fun H2 => i + 1 ≤ x.cps.size ∧ Ex H H2 ∧ H2 D = some (.lst ((x.cps.toList.take (i + 1)).map f)), fun H2 ⟨_, e2, h2⟩ => ⟨m - 1, by omega, by omega, e2, h2⟩, fun y H2 hy => ?_⟩
    obtain ⟨rfl, c, hc, rfl⟩ := hy
    refine ⟨hw _, ?_⟩
    show te _ H2 _
    refine hb c H2 _ e fun H4 e4 => ⟨_, e4 _ _ hd, sz_lt (by rw [List.length_map, List.length_take]; omega), hi, Ex.mut (e.trans e4) hD, ?_⟩
    rw [upd_same, ← Array.getElem?_toList] at *
    rw [List.take_add_one, hc, List.map_append]
    rfl
  · refine .inl ⟨Nat.le_of_not_lt hi, q D H' hD e ?_⟩
    rw [hd, List.take_of_length_le (by rw [Array.length_toList]; omega)]
theorem c_tupV {a : Addr} {xs : List V} (ys : List V) (hl : ys.length = xs.length) (hn : xs.length ≤ 50000) (hx : SqT K H a xs) (hw : ∀ y, wipe ((wipe σ vs).set j (some y)) vs = wipe σ vs)
    (hb : ∀ (i : Nat) x y H' (Q' : VK), xs[i]? = some x → ys[i]? = some y → Ex H H' → (∀ H4, Ex H' H4 → Q' y H4) → te ((wipe σ vs).set j (some x)) H' Q')
    (q : ∀ p H2, H p = none → Ex H H2 → H2 p = some (.lst ys) → Q (.ref p) H2) : CompJ (Itt K a) (gName j) tYes te vs σ H Q := by
  intro D hD
  refine ⟨fun i m H' => m + i = xs.length ∧ Ex H H' ∧ H' D = some (.lst (ys.take i)), ⟨xs.length, rfl, Ex.new hD, upd_same⟩, fun i m H' ⟨hm, e, hd⟩ => ?_⟩
  by_cases hi : i < xs.length
  · refine .inr ⟨⟨xs, xs[i], ex_t e hx, List.getElem?_eq_getElem hi⟩, fun H2 => i + 1 ≤ xs.length ∧ Ex H H2 ∧ H2 D = some (.lst (ys.take (i + 1))), fun H2 ⟨_, e2, h2⟩ => ⟨m - 1, by omega, by omega, e2, h2⟩, fun x H2 hy => ?_⟩
    obtain ⟨rfl, hy⟩ := hy
    have hxi := hy xs (ex_t e hx)
    have hyi : ys[i]? = some ys[i] := List.getElem?_eq_getElem (by omega)
    refine ⟨hw _, ?_⟩
    show te _ H2 _
    refine hb i x _ H2 _ hxi hyi e fun H4 e4 => ⟨_, e4 _ _ hd, sz_lt (by rw [List.length_take]; omega), hi, Ex.mut (e.trans e4) hD, ?_⟩
    rw [upd_same, List.take_add_one, hyi]
    rfl
  · refine .inl ⟨⟨xs, ex_t e hx, Nat.le_of_not_lt hi⟩, q D H' hD e ?_⟩
    rw [hd, List.take_of_length_le (by omega)]
end
/-! ### D.get(x, y), D a written dict of the module, x a text -/
def tKGet2 (K : PySem.W.Frag) (d : Addr) (td ty tx : TE) : TE := fun σ H Q => td σ H fun x H1 => x = .ref d ∧ ty σ H1 fun y H2 => tx σ H2 fun z H3 => ∃ (t : Str) (r : Option Value) (v0 : V), y = .str t ∧ PySem.W.nsIn K d t = some r ∧
  (r = none → v0 = z) ∧ (∀ u0, r = some u0 → RelV v0 u0) ∧ Q v0 H3
section
variable {X : Cx} {o e f : Expr} {apos cpos : Pos} {td ty tx : TE} {d : Addr} {es : Array DictEntry} {n : Nat}
theorem pe_kget2 (D : KDict X.K X.w d es n) (ho : PE X o td) (he : PE X e ty) (hf : PE X f tx) (m : M2 X o "get" apos e f cpos) : PE X (.Call (.Attribute o "get" apos) [e, f] [] cpos) (tKGet2 X.K d td ty tx) := by
  refine ⟨fun pins s σ H Q I h => ?_⟩
  refine wpAny_Call_method m.base m.few m.line PySem.F.plainAttrs_dict PySem.F.slot_dict_get PySem.F.type_dict_get (thn (ho.run pins s σ H _ I h) fun u s1 ⟨x, H1, I1, rx, ex, q1⟩ => ?_)
  subst ex
  obtain rfl : u = Value.ref d := rx
  refine ⟨kd_type D I1, fun b q => ?_, ?_⟩
  · cases q
    exact ⟨_, I1.kIn _ _ D.at_, rfl⟩
  rw [m.trees]
  refine Calls.callWith_builtin rfl (Calls.evalArgs_plain (Calls.spliced_cons (thn (he.run pins s1 σ H1 _ I1 q1) fun iv s2 ⟨y, H2, I2, ry, q2⟩ =>
    Calls.spliced_cons (thn (hf.run pins s2 σ H2 _ I2 q2) fun fv s3 ⟨z, H3, I3, rz, t, r, v0, ey, en, q3, q4, qq⟩ => Calls.spliced_nil ?_))))
  subst ey
  obtain ⟨tk, rfl⟩ := ry
  have mp := PySem.W.mapOf_K (prog := X.prog) I3.kIn D.at_ D.lit
  refine call_meetsIn PySem.F.slot_dict_get (kd_type D I3) PySem.F.entry_dict_get (PySem.F.args_dict_get_3 _ _ _) (meets_dict_get_default (strKind X.prog X.w) d (PySem.strKind_is X.prog X.w t tk) D.low fv) ⟨_, mp, ?_⟩
  rw [PySem.W.find_K D.at_ en]
  cases r with
  | none =>
    rw [q3 rfl] at qq
    exact ⟨z, H3, I3.tok _, rz, qq⟩
  | some u0 => exact ⟨v0, H3, I3.tok _, q4 u0 rfl, qq⟩
end

end

section
open PySem L2

end

local macro_rules | `(tactic| walk_at "ho") => `(tactic| first | assumption | exact upd_same | exact Ex.app (by assumption) (by walk_at "ho") | exact Mu.app (by assumption) (by assumption) (by walk_at "ho"))
local macro_rules | `(tactic| walk_at "ex") => `(tactic| first | assumption | exact Ex.refl _ | exact ex_tr (by assumption) (by walk_at "ex"))
local macro_rules | `(tactic| walk_at "sl") => `(tactic| first | assumption | exact sq_of (by walk_at "ho") | exact ex_l (by assumption) (by walk_at "sl"))
local macro_rules | `(tactic| walk_at "st") => `(tactic| first | assumption | exact st_of (by walk_at "ho") | exact ex_t (by assumption) (by walk_at "st"))
local macro_rules | `(tactic| walk_at "at") => `(tactic| first | assumption | with_reducible exact at_0 | with_reducible exact at_1 | with_reducible exact at_2 | with_reducible exact at_3 | with_reducible exact at_4 | with_reducible exact at_5 | with_reducible exact at_6 | with_reducible exact at_7 | with_reducible exact at_8 | with_reducible exact at_9 | with_reducible exact atm_1 | with_reducible exact atm_2 | with_reducible exact atm_3 | with_reducible exact atm_4 | with_reducible exact atm_5 | with_reducible exact atm_6 | exact atI_nat (by assumption))
local macro_rules | `(tactic| walk_at "side") => `(tactic| first
  | decide | omega | exact Or.inr ⟨by decide, by decide⟩ | exact Or.inl ⟨by decide, by decide⟩ | exact Or.inl ⟨by omega, by omega⟩ | exact Or.inr ⟨by omega, by omega⟩ | exact ⟨by decide, by decide, by decide⟩ | exact ⟨by decide, by decide⟩ | exact ⟨by omega, by omega⟩)
local macro_rules | `(tactic| walk_at "sz") => `(tactic| first | assumption | omega | (simp only [List.length_cons, List.length_nil, List.length_append, List.length_map] at *; omega))
local macro_rules | `(tactic| walk_at "ln") => `(tactic| first | decide | omega | (constructor <;> first | decide | omega) | (simp only [List.length_cons, List.length_nil, List.length_append, List.length_map, List.length_flatten, List.length_replicate]; omega))
local macro_rules | `(tactic| walk_at "lz") => `(tactic| first | assumption | (show TxtOk 60 (Str.ofString _); decide +kernel))
local macro_rules | `(tactic| walk_at "l10") => `(tactic| first | assumption | exact ⟨Nat.le_trans (And.left (by assumption : TxtOk _ _)) (by decide), And.right (by assumption : TxtOk _ _)⟩ | (show TxtOk 10 (Str.ofString _); decide +kernel))
local macro_rules | `(tactic| walk_at "sh") => `(tactic| first | exact short_lit (by decide +kernel) (by decide) | exact short_of (by assumption) (by decide))
local macro_rules | `(tactic| walk_at "new") => `(tactic| ((with_reducible show ∀ p : Addr, _ = none → _); intro p hp; generalize hX : upd _ p _ = H2; have hX2 := gen1 hp hX; clear hX; obtain ⟨e2, h2⟩ := hX2))
local macro_rules | `(tactic| walk_at "mut") => `(tactic| (generalize hX : upd _ _ _ = H2; have hX2 := gen2 hX; clear hX; obtain ⟨e2, h2⟩ := hX2))
local macro_rules | `(tactic| walk_at "rd1") => `(tactic| first
  | with_reducible refine w_seq ?_
  | with_reducible refine w_op ?_
  | ((with_reducible show tVar _ _ _ _); refine w_var (by exact rfl) ?_)
  | with_reducible refine w_c ?_
  | with_reducible refine w_cons ?_
  | with_reducible refine w_nil ?_
  | with_reducible refine w_asg ?_
  | ((with_reducible refine w_gName ?_); try dsimp only [List.set_cons_succ, List.set_cons_zero])
  | with_reducible refine w_rI0 ?_
  | ((with_reducible refine w_rI ?_ ?_); (first | walk_at "side" | (dsimp only; walk_at "side")))
  | with_reducible refine w_rU ?_
  | with_reducible refine w_un ?_
  | with_reducible refine w_eqS ?_ | with_reducible refine w_neS ?_ | with_reducible refine w_eqI ?_ | with_reducible refine w_neI ?_
  | with_reducible refine w_tup ?_ | with_reducible refine w_lst ?_
  | ((with_reducible refine w_size ?_ ?_); first | decide | decide +kernel | (simp only [List.length_cons, List.length_nil]; omega))
  | with_reducible refine w_cb ?_ | with_reducible refine w_call ?_ | with_reducible refine w_bm ?_ | with_reducible refine w_bm0 ?_
  | ((with_reducible show tyV _ _ (V.ref _) _ ∧ _); refine w_tyL (by walk_at "sl") ?_) | with_reducible refine w_tyS ?_
  | ((with_reducible show rIxL _ _ _ _ _); refine w_ixL (by walk_at "sl") (by walk_at "at") ?_)
  | ((with_reducible show rIxT _ _ _ _ _); refine w_ixT (by walk_at "st") (by walk_at "at") ?_)
  | ((with_reducible show ∃ a, ∃ _, [V.ref _] = [V.ref a] ∧ _); first | refine w_lenL (by walk_at "sl") ?_ | refine w_lenT (by walk_at "st") ?_)
  | with_reducible refine w_test ?_ | with_reducible refine w_tB ?_ | with_reducible refine w_tand ?_ | with_reducible refine w_tor ?_ | with_reducible refine w_tnot ?_ | with_reducible refine w_tyes ?_ | with_reducible refine w_tif ?_
  | with_reducible refine w_if ?_ | with_reducible refine w_next ?_ | with_reducible refine w_cont ?_ | with_reducible refine w_brk ?_ | with_reducible refine w_drop ?_ | with_reducible refine w_ret ?_
  | with_reducible refine w_par ?_ | with_reducible refine w_par3 ?_ | with_reducible refine w_two ?_ | with_reducible refine w_three ?_
  | with_reducible refine w_gSub ?_
  | ((with_reducible show rAppend _ _ _ _); refine w_append (by walk_at "ho") (by walk_at "sz") ?_; walk_at "mut")
  | ((with_reducible show rSetL _ _ _ _ _); refine w_setL (by walk_at "ho") (by exact rfl) ?_; walk_at "mut")
  | with_reducible refine w_tSl ?_ | with_reducible refine w_noPart ?_ | with_reducible refine w_part ?_
  | with_reducible refine w_for ?_ | with_reducible refine w_lc ?_ | with_reducible refine w_iR1 ?_ | with_reducible refine w_iR2 ?_ | with_reducible refine w_iL ?_ | with_reducible refine w_iT ?_
  | ((with_reducible show ∃ b, V.ref _ = V.ref b ∧ (∃ xs, SqL _ _ b xs) ∧ _); refine w_itL (by walk_at "sl") ?_) | ((with_reducible show ∃ b, V.ref _ = V.ref b ∧ (∃ xs, SqT _ _ b xs) ∧ _); refine w_itT (by walk_at "st") ?_)
  | ((with_reducible refine w_r1 ?_ ?_); walk_at "side") | ((with_reducible refine w_r2 ?_ ?_); walk_at "side")
  | with_reducible refine w_bl ?_ | with_reducible refine w_int ?_ | with_reducible refine w_ints ?_ | with_reducible refine w_strs ?_ | with_reducible refine w_str2 ?_ | with_reducible refine w_isN ?_
  | ((with_reducible show rAddA _ _ _ _); refine w_addA (by walk_at "lz") (by walk_at "lz") (by walk_at "ln") ?_; intro r hr)
  | ((with_reducible show rMulS _ _ _ _); refine w_mulS (by walk_at "l10") (by walk_at "ln") ?_; intro r hr)
  | ((with_reducible show rStrA _ _ _); refine w_strA (by walk_at "ln") ?_; intro r hr)
  | ((with_reducible show rCat _ _ _ _); refine w_cat (by walk_at "ho") (by walk_at "ho") (by walk_at "ln") ?_)
  | ((with_reducible show rRep _ _ _ _); refine w_rep (by walk_at "ho") (by walk_at "ln") (by walk_at "ln") ?_)
  | ((with_reducible show rIxS _ _ _ _); refine w_ixSA (by first | assumption | (show TxtOk 60 (Str.ofString _); decide +kernel) | (show TxtOk 60 (Str.ofString _ ++ Str.ofString _); decide +kernel)) (by decide) (by omega) (by first | exact Int.lt_of_lt_of_le (by assumption) (by decide +kernel) | (have h := (by decide +kernel : (Str.ofString "abcdefghijklmnopqrstuvwxyz").length = 26); omega)) ?_; intro r hr)
  | ((with_reducible show ∃ a, ∃ zs, [V.ref _] = [V.ref a] ∧ ((SqL _ _ a zs ∧ ∀ l, _ → _) ∨ _)); refine w_tupL (by walk_at "sl") ?_)
  | ((with_reducible show ∃ a, ∃ zs, [V.ref _] = [V.ref a] ∧ (SqL _ _ a zs ∨ SqT _ _ a zs) ∧ ∀ l, _ → _); first | refine w_lstL (by walk_at "sl") ?_ | refine w_lstT (by walk_at "st") ?_)
  | walk_at "new")
local macro_rules | `(tactic| walk_at "rd") => `(tactic| repeat walk_at "rd1")

def topS (i : Nat) : Stmt := PySem.Challenge.pw_whoholds_k01_words_rows_programs.main.body.getD i (.Pass ⟨0, 0, 0, 0⟩)
abbrev s_is_word : Stmt := topS 6
theorem sc_is_word : FnScope ["thing", "sign"] ["thing"] (defScope s_is_word) := ⟨rfl, rfl, rfl, by decide +kernel, rfl, by decide +kernel, by decide +kernel⟩
abbrev s_is_row : Stmt := topS 7
theorem sc_is_row : FnScope ["thing", "part"] ["thing"] (defScope s_is_row) := ⟨rfl, rfl, rfl, by decide +kernel, rfl, by decide +kernel, by decide +kernel⟩
abbrev s_is_program : Stmt := topS 8
theorem sc_is_program : FnScope ["thing", "part"] ["thing"] (defScope s_is_program) := ⟨rfl, rfl, rfl, by decide +kernel, rfl, by decide +kernel, by decide +kernel⟩
abbrev s_Lfill : Stmt := topS 10
theorem sc_Lfill : FnScope ["_law_cell", "_law_at", "_law_x"] ["_law_cell", "_law_at"] (defScope s_Lfill) := ⟨rfl, rfl, rfl, by decide +kernel, rfl, by decide +kernel, by decide +kernel⟩
abbrev s_Lnext : Stmt := topS 11
theorem sc_Lnext : FnScope ["_law_pen", "_law_many", "_law_at", "_law_cell", "_law_found"] ["_law_pen", "_law_many"] (defScope s_Lnext) := ⟨rfl, rfl, rfl, by decide +kernel, rfl, by decide +kernel, by decide +kernel⟩
abbrev s_Lwords : Stmt := topS 12
theorem sc_Lwords : FnScope ["_law_pen", "_law_many", "_law_way", "_law_own", "_law_letters", "_law_signs", "_law_one", "_law_two", "_law_found", "_law_k", "_law_some"] ["_law_pen", "_law_many"] (defScope s_Lwords) := ⟨rfl, rfl, rfl, by decide +kernel, rfl, by decide +kernel, by decide +kernel⟩
abbrev s_Lrow : Stmt := topS 13
theorem sc_Lrow : FnScope ["_law_pen", "_law_names", "_law_boxes", "_law_slots", "_law_way", "_law_x", "_law_y", "_law_box", "_law_slot"] ["_law_pen", "_law_names", "_law_boxes", "_law_slots"] (defScope s_Lrow) := ⟨rfl, rfl, rfl, by decide +kernel, rfl, by decide +kernel, by decide +kernel⟩
abbrev s_Lprogram : Stmt := topS 14
theorem sc_Lprogram : FnScope ["_law_pen", "_law_most", "_law_many", "_law_sizes", "_law_names", "_law_boxes", "_law_slots", "_law_k"] ["_law_pen", "_law_most"] (defScope s_Lprogram) := ⟨rfl, rfl, rfl, by decide +kernel, rfl, by decide +kernel, by decide +kernel⟩
abbrev s_Lword_is : Stmt := topS 15
theorem sc_Lword_is : FnScope ["_law_thing", "_law_at", "_law_code", "_law_letter"] ["_law_thing"] (defScope s_Lword_is) := ⟨rfl, rfl, rfl, by decide +kernel, rfl, by decide +kernel, by decide +kernel⟩
abbrev s_Lrow_is : Stmt := topS 16
theorem sc_Lrow_is : FnScope ["_law_thing", "_law_one"] ["_law_thing"] (defScope s_Lrow_is) := ⟨rfl, rfl, rfl, by decide +kernel, rfl, by decide +kernel, by decide +kernel⟩
abbrev s_Lprogram_is : Stmt := topS 17
theorem sc_Lprogram_is : FnScope ["_law_thing", "_law_one"] ["_law_thing"] (defScope s_Lprogram_is) := ⟨rfl, rfl, rfl, by decide +kernel, rfl, by decide +kernel, by decide +kernel⟩
abbrev s_Lbad_word : Stmt := topS 18
theorem sc_Lbad_word : FnScope ["_law_pen", "_law_way", "_law_signs", "_law_sign", "_law_some", "_law_word", "_law_turn", "_law_at"] ["_law_pen"] (defScope s_Lbad_word) := ⟨rfl, rfl, rfl, by decide +kernel, rfl, by decide +kernel, by decide +kernel⟩
abbrev s_Lbent_row : Stmt := topS 19
theorem sc_Lbent_row : FnScope ["_law_pen", "_law_handed", "_law_way", "_law_told", "_law_at", "_law_bad", "_law_words_here", "_law_word", "_law_some", "_law_found"] ["_law_pen", "_law_handed"] (defScope s_Lbent_row) := ⟨rfl, rfl, rfl, by decide +kernel, rfl, by decide +kernel, by decide +kernel⟩
abbrev s_law : Stmt := topS 20
theorem sc_law : FnScope ["script", "_law_pen", "_law_k", "_law_told", "_law_way", "_law_things", "_law_deep", "_law_turn", "_law_at", "_law_row_here", "_law_again", "_law_thing", "_law_text", "_law_due", "_law_found"] ["script"] (defScope s_law) := ⟨rfl, rfl, rfl, by decide +kernel, rfl, by decide +kernel, by decide +kernel⟩
/-- what the top has bound -/
structure Top (K : PySem.W.Frag) (mg : Str → Option Value) where
  f_is_word : Addr
  d_is_word : FuncData
  F_is_word : Fun K "is_word" "is_word" s_is_word f_is_word d_is_word
  b_is_word : Binds K d_is_word ["thing"] []
  g_is_word : mg "is_word" = some (.ref f_is_word)
  f_is_row : Addr
  d_is_row : FuncData
  F_is_row : Fun K "is_row" "is_row" s_is_row f_is_row d_is_row
  b_is_row : Binds K d_is_row ["thing"] []
  g_is_row : mg "is_row" = some (.ref f_is_row)
  f_is_program : Addr
  d_is_program : FuncData
  F_is_program : Fun K "is_program" "is_program" s_is_program f_is_program d_is_program
  b_is_program : Binds K d_is_program ["thing"] []
  g_is_program : mg "is_program" = some (.ref f_is_program)
  f_Lfill : Addr
  d_Lfill : FuncData
  F_Lfill : Fun K "_law_fill" "_law_fill" s_Lfill f_Lfill d_Lfill
  b_Lfill : Binds K d_Lfill ["_law_cell", "_law_at"] []
  g_Lfill : mg "_law_fill" = some (.ref f_Lfill)
  f_Lnext : Addr
  d_Lnext : FuncData
  F_Lnext : Fun K "_law_next" "_law_next" s_Lnext f_Lnext d_Lnext
  b_Lnext : Binds K d_Lnext ["_law_pen", "_law_many"] []
  g_Lnext : mg "_law_next" = some (.ref f_Lnext)
  f_Lwords : Addr
  d_Lwords : FuncData
  F_Lwords : Fun K "_law_words" "_law_words" s_Lwords f_Lwords d_Lwords
  b_Lwords : Binds K d_Lwords ["_law_pen", "_law_many"] []
  g_Lwords : mg "_law_words" = some (.ref f_Lwords)
  f_Lrow : Addr
  d_Lrow : FuncData
  F_Lrow : Fun K "_law_row" "_law_row" s_Lrow f_Lrow d_Lrow
  b_Lrow : Binds K d_Lrow ["_law_pen", "_law_names", "_law_boxes", "_law_slots"] []
  g_Lrow : mg "_law_row" = some (.ref f_Lrow)
  f_Lprogram : Addr
  d_Lprogram : FuncData
  F_Lprogram : Fun K "_law_program" "_law_program" s_Lprogram f_Lprogram d_Lprogram
  b_Lprogram : Binds K d_Lprogram ["_law_pen", "_law_most"] []
  g_Lprogram : mg "_law_program" = some (.ref f_Lprogram)
  f_Lword_is : Addr
  d_Lword_is : FuncData
  F_Lword_is : Fun K "_law_word_is" "_law_word_is" s_Lword_is f_Lword_is d_Lword_is
  b_Lword_is : Binds K d_Lword_is ["_law_thing"] []
  g_Lword_is : mg "_law_word_is" = some (.ref f_Lword_is)
  f_Lrow_is : Addr
  d_Lrow_is : FuncData
  F_Lrow_is : Fun K "_law_row_is" "_law_row_is" s_Lrow_is f_Lrow_is d_Lrow_is
  b_Lrow_is : Binds K d_Lrow_is ["_law_thing"] []
  g_Lrow_is : mg "_law_row_is" = some (.ref f_Lrow_is)
  f_Lprogram_is : Addr
  d_Lprogram_is : FuncData
  F_Lprogram_is : Fun K "_law_program_is" "_law_program_is" s_Lprogram_is f_Lprogram_is d_Lprogram_is
  b_Lprogram_is : Binds K d_Lprogram_is ["_law_thing"] []
  g_Lprogram_is : mg "_law_program_is" = some (.ref f_Lprogram_is)
  f_Lbad_word : Addr
  d_Lbad_word : FuncData
  F_Lbad_word : Fun K "_law_bad_word" "_law_bad_word" s_Lbad_word f_Lbad_word d_Lbad_word
  b_Lbad_word : Binds K d_Lbad_word ["_law_pen"] []
  g_Lbad_word : mg "_law_bad_word" = some (.ref f_Lbad_word)
  f_Lbent_row : Addr
  d_Lbent_row : FuncData
  F_Lbent_row : Fun K "_law_bent_row" "_law_bent_row" s_Lbent_row f_Lbent_row d_Lbent_row
  b_Lbent_row : Binds K d_Lbent_row ["_law_pen", "_law_handed"] []
  g_Lbent_row : mg "_law_bent_row" = some (.ref f_Lbent_row)
  f_law : Addr
  d_law : FuncData
  F_law : Fun K "law" "law" s_law f_law d_law
  b_law : Binds K d_law ["script"] []
  g_law : mg "law" = some (.ref f_law)
  t_LONGEST_WORD : Tok
  g_LONGEST_WORD : mg "LONGEST_WORD" = some (.int 40 t_LONGEST_WORD)
  t_MOST_ROWS : Tok
  g_MOST_ROWS : mg "MOST_ROWS" = some (.int 60 t_MOST_ROWS)
  t_LETTERS : Tok
  g_LETTERS : mg "LETTERS" = some (.str "abcdefghijklmnopqrstuvwxyz" t_LETTERS)
  t_SIGNS : Tok
  g_SIGNS : mg "SIGNS" = some (.str "abcdefghijklmnopqrstuvwxyz0123456789." t_SIGNS)
  z_all : mg "all" = none
  z_isinstance : mg "isinstance" = none
  z_len : mg "len" = none
  z_list : mg "list" = none
  z_ord : mg "ord" = none
  z_range : mg "range" = none
  z_repr : mg "repr" = none
  z_str : mg "str" = none
  z_tuple : mg "tuple" = none

/-! ### rows as data -/
inductive Row where
  | new (x b : Str) | move (x y : Str) | put (x s y : Str) | take (x s y : Str)
  deriving DecidableEq
def sNew : Str := Str.ofString "new"
def sMove : Str := Str.ofString "move"
def sPut : Str := Str.ofString "put"
def sTake : Str := Str.ofString "take"
def rowV : Row → List V
  | .new x b => [.str (Str.ofString "new"), .str x, .str b]
  | .move x y => [.str (Str.ofString "move"), .str x, .str y]
  | .put x s y => [.str (Str.ofString "put"), .str x, .str s, .str y]
  | .take x s y => [.str (Str.ofString "take"), .str x, .str s, .str y]
def RowAt (r : Row) (v : V) (H : Hp) : Prop := ∃ p, v = .ref p ∧ H p = some (.tup (rowV r))
theorem rowAt_keeps (r : Row) : Keeps (RowAt r) := by
  refine ⟨fun y H H' e ⟨p, h1, h2⟩ => ⟨p, h1, e _ _ h2⟩, fun y H D xs ys hD ⟨p, h1, h2⟩ => ⟨p, h1, ?_⟩⟩
  rw [upd_ne (ne_of h2 hD (by intro z; cases z))]
  exact h2
/-- the words of a row come from these -/
def RowIn (xs bs ss : List Str) : Row → Prop
  | .new x b => x ∈ xs ∧ b ∈ bs
  | .move x y => x ∈ xs ∧ y ∈ xs
  | .put x s y => x ∈ xs ∧ s ∈ ss ∧ y ∈ xs
  | .take x s y => x ∈ xs ∧ s ∈ ss ∧ y ∈ xs
/-- some row of these words -/
def RowOf (xs bs ss : List Str) (v : V) (H : Hp) : Prop := ∃ r, RowIn xs bs ss r ∧ RowAt r v H
theorem rowOf_keeps (xs bs ss : List Str) : Keeps (RowOf xs bs ss) :=
  ⟨fun y H H' e ⟨r, h1, h2⟩ => ⟨r, h1, (rowAt_keeps r).1 _ _ _ e h2⟩, fun y H D xs ys hD ⟨r, h1, h2⟩ => ⟨r, h1, (rowAt_keeps r).2 _ _ _ _ _ hD h2⟩⟩

section
variable {P : Program} {w : World} {K : PySem.W.Frag} {H : Hp} {Q : VK}
theorem w_isA {x : V} {d : PyData} {T : String} (h : Aq P w K H x d) (hT : T = "str" ∨ T = "tuple" ∨ T = "list" ∨ T = "dict") (q : Q (.bl (isA T d)) H) : rIsA P w K [x, .ty T] H Q := ⟨x, d, T, rfl, h, hT, q⟩
theorem w_chain {r r' : R2} {ta tb tc : TE} {σ : L2.St} (h : ta σ H fun x H1 => tb σ H1 fun y H2 => r x y H2 fun z H3 => ∃ k, z = .bl k ∧ (if k = true then tc σ H3 fun w' H4 => r' y w' H4 Q else Q (.bl false) H3)) : tChain r r' ta tb tc σ H Q := h
theorem w_andV {ta tb : TE} {σ : L2.St} (h : ta σ H fun x H1 => ∃ c, x = .bl c ∧ if c = true then tb σ H1 Q else Q (.bl false) H1) : tAndV ta tb σ H Q := h
theorem w_iStr {te : TE} {σ : L2.St} {R : It → Hp → Prop} (h : te σ H fun v H1 => ∃ x, v = .str x ∧ R (Its x) H1) : iStr te σ H R := h
theorem w_str1 {z : Str} {G : Str → Prop} (q : G z) : ∃ x, V.str z = .str x ∧ G x := ⟨z, rfl, q⟩
theorem w_all {p : Addr} {bs : List Bool} (h : SqL K H p (bs.map V.bl)) (q : Q (.bl (bs.all id)) H) : rAll K [.ref p] H Q := ⟨p, bs, rfl, h, q⟩
theorem w_lenS {z : Str} (h : z.length ≤ 100000) (q : Q (.int z.length) H) : ∃ y : Str, [V.str z] = [V.str y] ∧ y.length ≤ sizeLine ∧ Q (.int y.length) H := ⟨z, rfl, sz_of h, q⟩
end
def spAsk (P : Program) (w : World) (K : PySem.W.Frag) (f : PyData → Bool) : Sp := fun vs H Q _ => ∃ (x : V) (d : PyData), vs = [x] ∧ Aq P w K H x d ∧ d.weight ≤ 50000 ∧ ∀ H', Ex H H' → Q (.bl (f d)) H'

local macro_rules | `(tactic| walk_at "rd1") => `(tactic| first
  | ((with_reducible show rIsA _ _ _ [_, .ty _] _ _); refine w_isA (by first | assumption | exact Aq.ex (by walk_at "ex") (by assumption)) (by decide) ?_)
  | with_reducible refine w_chain ?_ | with_reducible refine w_andV ?_ | with_reducible refine w_iStr ?_ | with_reducible refine w_str1 ?_
  | ((with_reducible show rAll _ _ _ _); refine w_all (by walk_at "sl") ?_))
section
variable {P : Program} {w : World} {K : PySem.W.Frag} {mg : Str → Option Value} {base : Heap}
theorem ok_is_word (T : Top K mg) : FnOk P w K mg base CX0 1 T.f_is_word T.d_is_word ["thing"] (spAsk P w K wordB) := by
  refine T.F_is_word.ok sc_is_word (fun vs H Q E h => ?_) (fun cdv A outer s H vs Q E hr h => ?_)
  · obtain ⟨x, d, rfl, _⟩ := h
    rfl
  · obtain ⟨x, d, rfl, ha, hw, q⟩ := h
    refine ⟨_, (pss_cons (ps_if (PW.pt (pw_or (pt_not (pt_val (pe_callB call_isA (by rfl) T.z_isinstance (by decide +kernel) (pa_cons (pv 0) (pa_cons (pe_bltn (v := .ty "str") (by rfl) T.z_str (by decide +kernel) rfl) pa_nil))))) (pw_or1 (pt_not (pt_chain op_le op_le pe_int (pe_callB call_len_str (by rfl) T.z_len PySem.boot_len (pa_cons (pv 0) pa_nil)) (pe_glob (v := .int 40) rfl T.g_LONGEST_WORD ⟨_, rfl⟩))))))
            (pss_one (ps_ret pe_bl))
            pss_nil)
          (pss_one (ps_ret (pe_and (pe_cmpR op_in_str (pe_ix ix_str (pv 0) pe_int (fun _ _ => rfl)) (pe_glob (v := .str "abcdefghijklmnopqrstuvwxyz") rfl T.g_LETTERS ⟨_, rfl⟩) (by rfl)) (pe_one (pe_callB (cr_all rfl) (by rfl) T.z_all (by decide +kernel) (pa_cons (pe_lc (own := [("sign", 1)]) (g := gName 1) (tt := tYes) (by rfl) sc_is_word.nd (pi_str (pv 0)) (blkOk_by (own := [("sign", 1)]) (N := ["thing", "sign"]) (sc := defScope s_is_word) (by decide +kernel)) (fun _ _ _ _ _ => pg_name (i := 1) sc_is_word.nd rfl (Or.inl rfl)) (fun _ _ _ _ _ => pts_nil) (fun _ _ _ _ _ => (pe_cmpR op_in_str (pv 1) (pe_glob (v := .str "abcdefghijklmnopqrstuvwxyz0123456789.") rfl T.g_SIGNS ⟨_, rfl⟩) (by rfl)))) pa_nil))))))), ?_⟩
    rw [show start ["thing", "sign"] [x] = [some x, none] from rfl]
    try dsimp only [cxOf]
    walk_at "rd"
    cases ha with
    | str z =>
      rw [if_neg (show ¬ (!isA "str" (PyData.str z)) = true from Bool.false_ne_true)]
      walk_at "rd"
      have hz : z.length ≤ 50000 := hw
      refine ⟨sz_of (Nat.le_trans hz (by decide)), ?_⟩
      walk_at "rd"
      by_cases h1 : (1 : Int) ≤ ((z.length : Nat) : Int)
      · rw [if_pos (decide_eq_true h1)]
        walk_at "rd"
        by_cases h2 : ((z.length : Nat) : Int) ≤ 40
        · rw [decide_eq_true h2, if_neg (show ¬ (!true) = true from Bool.false_ne_true)]
          walk_at "rd"
          obtain ⟨c, r, hc⟩ : ∃ c r, z.cps.toList = c :: r := by
            cases e : z.cps.toList with
            | nil =>
              have : z.length = 0 := by
                show z.cps.size = 0
                rw [← Array.length_toList, e]
                rfl
              omega
            | cons c r => exact ⟨c, r, rfl⟩
          have hv : wordB (PyData.str z) = (letterB c && z.cps.toList.all signB) := by
            show wordS z = _
            rw [wordS, decide_eq_true (by omega), hc]
            rfl
          rw [hv] at q
          refine w_ixS (Nat.le_trans hz (by decide)) (show atI z.cps.toList 0 = some c by rw [hc]; exact at_0) ?_
          walk_at "rd"
          rw [in_letters c]
          generalize letterB c = lb at q ⊢
          cases lb with
          | false =>
            rw [if_neg Bool.false_ne_true]
            exact q _ (Ex.refl _)
          | true =>
            rw [if_pos rfl]
            walk_at "rd"
            refine c_strV (fun c => V.bl (signB c)) hz (fun y => rfl) (fun c H' Q' e k => ?_) fun p H2 hp e hl => ?_
            · show tOp _ (tVar 1) _ _ _ _
              walk_at "rd"
              rw [in_signs c]
              exact k _ (Ex.refl _)
            · walk_at "rd"
              refine w_all (bs := z.cps.toList.map signB) (by rw [List.map_map]; exact sq_of hl) ?_
              have ea : (z.cps.toList.map signB).all id = z.cps.toList.all signB := by rw [List.all_map]; rfl
              rw [ea]
              exact q _ e
        · rw [decide_eq_false h2, if_pos (show (!false) = true from rfl)]
          walk_at "rd"
          have e : wordB (PyData.str z) = false := by
            show wordS z = false
            rw [wordS, decide_eq_false (by omega)]
            rfl
          rw [← e]
          exact q _ (Ex.refl _)
      · rw [if_neg (by rw [decide_eq_false h1]; exact Bool.false_ne_true)]
        refine w_bl ?_
        rw [if_pos (show (!false) = true from rfl)]
        walk_at "rd"
        have e : wordB (PyData.str z) = false := by
          show wordS z = false
          rw [wordS, decide_eq_false (by omega)]
          rfl
        rw [← e]
        exact q _ (Ex.refl _)
    | _ =>
      rw [if_pos (show (!isA "str" _) = true from rfl), if_pos rfl]
      walk_at "rd"
      exact q _ (Ex.refl _)
end

local macro_rules | `(tactic| walk_at "rd1") => `(tactic| first
  | ((with_reducible show rIsA _ _ _ [_, .ty _] _ _); refine w_isA (by first | assumption | exact Aq.ex (by walk_at "ex") (by assumption)) (by decide) ?_)
  | with_reducible refine w_chain ?_ | with_reducible refine w_andV ?_ | with_reducible refine w_iStr ?_ | with_reducible refine w_str1 ?_
  | ((with_reducible show rAll _ _ _ _); refine w_all (by walk_at "sl") ?_))

section
theorem wtAll_mem : ∀ {ds : List PyData} {e : PyData}, e ∈ ds → e.weight + 1 ≤ PyData.weightAll ds
  | d :: ds, e, h => by
    simp only [PyData.weightAll]
    rcases List.mem_cons.mp h with rfl | h
    · omega
    · have := wtAll_mem h
      omega
theorem wtAll_len : ∀ ds : List PyData, ds.length ≤ PyData.weightAll ds
  | [] => Nat.zero_le _
  | d :: ds => by
    simp only [PyData.weightAll, List.length_cons]
    have := wtAll_len ds
    omega
theorem wt_tup (ds : List PyData) : (PyData.tuple ds).weight = PyData.weightAll ds := by simp only [PyData.weight]
def partsN (z : Str) : Int := if z = Str.ofString "new" ∨ z = Str.ofString "move" then 3 else if z = Str.ofString "put" ∨ z = Str.ofString "take" then 4 else 0
structure Parts (K : PySem.W.Frag) (w : World) (mg : Str → Option Value) where
  p : Addr
  es : Array DictEntry
  n : Nat
  kd : KDict K w p es n
  g : mg (Str.ofString "PARTS") = some (.ref p)
  get : ∀ z : Str, ∃ r, PySem.W.nsIn K p z = some r ∧ (r = none → partsN z = 0) ∧ ∀ u, r = some u → RelV (.int (partsN z)) u
def rowB : PyData → Bool
  | .tuple (.str k :: r) => decide (((r.length + 1 : Nat) : Int) = partsN k) && r.all wordB
  | _ => false
def progB : PyData → Bool
  | .tuple ds => decide (ds.length ≤ 60) && ds.all rowB
  | _ => false
variable {P : Program} {w : World} {K : PySem.W.Frag} {mg : Str → Option Value} {base : Heap}
theorem w_kget {d : Addr} {td ty tx : TE} {σ : L2.St} {H : Hp} {Q : VK} (h : td σ H fun x H1 => x = .ref d ∧ ty σ H1 fun y H2 => tx σ H2 fun z H3 => ∃ (t : Str) (r : Option Value) (v0 : V), y = .str t ∧ PySem.W.nsIn K d t = some r ∧
  (r = none → v0 = z) ∧ (∀ u0, r = some u0 → RelV v0 u0) ∧ Q v0 H3) : tKGet2 K d td ty tx σ H Q := h
theorem cut_tail (v : V) (vs : List V) : cutV (v :: vs) (some 1) none = vs := by
  have e : HT.sIx (v :: vs).length 0 (some 1) = 1 := by
    rw [show (1 : Int) = ((1 : Nat) : Int) from rfl, HT.sIx_nat, List.length_cons]
    omega
  unfold cutV
  rw [e, HT.sIx_none, List.drop_succ_cons, List.drop_zero, List.take_of_length_le]
  rw [List.length_cons]
  omega
theorem w_slTail {a : Addr} {v : V} {vs : List V} {H : Hp} {Q : VK} (h : SqT K H a (v :: vs)) (q : ∀ p, H p = none → Q (.ref p) (upd H p (.tup vs))) : rSlT K (.ref a) (some 1) none H Q := by
  refine ⟨a, v :: vs, rfl, h, fun z => ?_, fun p hp => by rw [cut_tail]; exact q p hp⟩
  have e : HT.sIx (v :: vs).length 0 (some 1) = 1 := by
    rw [show (1 : Int) = ((1 : Nat) : Int) from rfl, HT.sIx_nat, List.length_cons]
    omega
  omega
theorem w_parts (PT : Parts K w mg) {k : Str} {G : V → Prop} (q : G (.int (partsN k))) : ∃ (t : Str) (r : Option Value) (v0 : V), V.str k = .str t ∧ PySem.W.nsIn K PT.p t = some r ∧
    (r = none → v0 = .int 0) ∧ (∀ u0, r = some u0 → RelV v0 u0) ∧ G v0 := by
  obtain ⟨r, e, h1, h2⟩ := PT.get k
  exact ⟨k, r, _, rfl, e, fun z => by rw [h1 z], h2, q⟩
theorem ok_is_row (T : Top K mg) (PT : Parts K w mg) : FnOk P w K mg base CX0 2 T.f_is_row T.d_is_row ["thing"] (spAsk P w K rowB) := by
  refine T.F_is_row.ok sc_is_row (fun vs H Q E h => ?_) (fun cdv A outer s H vs Q E hr h => ?_)
  · obtain ⟨x, d, rfl, _⟩ := h
    rfl
  · obtain ⟨x, d, rfl, ha, hw, q⟩ := h
    refine ⟨_, (pss_cons (ps_if (PW.pt (pw_or (pt_not (pt_val (pe_callB call_isA (by rfl) T.z_isinstance (by decide +kernel) (pa_cons (pv 0) (pa_cons (pe_bltn (v := .ty "tuple") (by rfl) T.z_tuple (by decide +kernel) rfl) pa_nil))))) (pw_or1 (pt_cmpR op_eq (pe_callB call_len_seq (by rfl) T.z_len PySem.boot_len (pa_cons (pv 0) pa_nil)) pe_int (nomark _)))))
            (pss_one (ps_ret pe_bl))
            pss_nil)
          (pss_cons (ps_if (PW.pt (pw_or (pt_not (pt_val (pe_callB call_isA (by rfl) T.z_isinstance (by decide +kernel) (pa_cons (pe_ix ix_tup (pv 0) pe_int (fun _ _ => rfl)) (pa_cons (pe_bltn (v := .ty "str") (by rfl) T.z_str (by decide +kernel) rfl) pa_nil))))) (pw_or1 (pt_cmpR op_ne (pe_callB call_len_seq (by rfl) T.z_len PySem.boot_len (pa_cons (pv 0) pa_nil)) (pe_kget2 PT.kd (pe_glob (v := .ref PT.p) rfl PT.g rfl) (pe_ix ix_tup (pv 0) pe_int (fun _ _ => rfl)) pe_int ⟨by rfl, by rfl, by rfl, by rfl⟩) (nomark _)))))
            (pss_one (ps_ret pe_bl))
            pss_nil)
          (pss_one (ps_ret (pe_callB (cr_all rfl) (by rfl) T.z_all (by decide +kernel) (pa_cons (pe_lc (own := [("part", 1)]) (g := gName 1) (tt := tYes) (by rfl) sc_is_row.nd (pi_tup (pe_slice sl_tup (pv 0) (po_some pe_int) po_none)) (blkOk_by (own := [("part", 1)]) (N := ["thing", "part"]) (sc := defScope s_is_row) (by decide +kernel)) (fun _ _ _ _ _ => pg_name (i := 1) sc_is_row.nd rfl (Or.inl rfl)) (fun _ _ _ _ _ => pts_nil) (fun _ _ _ _ _ => (pe_call (ok_is_word (P := P) (w := w) (base := base) T) (hr.mono (by decide)) (by rfl) T.g_is_word T.F_is_word.kp T.b_is_word .nil pass0 (pa_cons (pv 1) pa_nil)))) pa_nil)))))), ?_⟩
    rw [show start ["thing", "part"] [x] = [some x, none] from rfl]
    try dsimp only [cxOf]
    walk_at "rd"
    cases ha with
    | @tup a xs ds hs ha =>
      rw [if_neg (show ¬ (!isA "tuple" (PyData.tuple ds)) = true from Bool.false_ne_true)]
      walk_at "rd"
      cases ha with
      | nil =>
        rw [if_pos (by rfl)]
        walk_at "rd"
        exact q _ (Ex.refl _)
      | @cons v vs d ds ha hr2 =>
        have hl := hr2.len
        have hne : ¬ (V.int (((v :: vs).length : Nat) : Int) = V.int 0) := fun z => by
          injection z with z
          rw [List.length_cons] at z
          omega
        rw [if_neg (by rw [decide_eq_false hne]; exact Bool.false_ne_true)]
        walk_at "rd"
        cases ha with
        | str k =>
          rw [if_neg (show ¬ (!isA "str" (PyData.str k)) = true from Bool.false_ne_true)]
          walk_at "rd"
          refine w_kget ?_
          walk_at "rd"
          refine ⟨rfl, ?_⟩
          walk_at "rd"
          refine w_parts PT ?_
          walk_at "rd"
          have hlen : (((V.str k :: vs).length : Nat) : Int) = ((ds.length + 1 : Nat) : Int) := by rw [List.length_cons, hl]
          by_cases hk : ((ds.length + 1 : Nat) : Int) = partsN k
          · rw [hlen, hk, decide_eq_true rfl, if_neg (show ¬ (!true) = true from Bool.false_ne_true)]
            have hv : rowB (PyData.tuple (PyData.str k :: ds)) = ds.all wordB := by
              show (decide (((ds.length + 1 : Nat) : Int) = partsN k) && ds.all wordB) = _
              rw [decide_eq_true hk]
              rfl
            rw [hv] at q
            walk_at "rd"
            refine w_slTail hs ?_
            walk_at "rd"
            rename_i p hp H1 e1 h1
            have hd := wt_tup (PyData.str k :: ds)
            have hlw := wtAll_len (PyData.str k :: ds)
            rw [List.length_cons] at hlw
            refine c_tupV (ds.map fun d => V.bl (wordB d)) (by rw [List.length_map, hl]) (by omega) (st_of h1) (fun y => rfl) (fun i x y H' Q' hx hy e2 kk => ?_) fun p2 H2 hp2 e2 hl2 => ?_
            · obtain ⟨d, hd1, hd2⟩ := hr2.at hx
              rw [List.getElem?_map, hd1] at hy
              cases hy
              show tCall _ [] _ (tCons (tVar 1) tNil) _ _ _
              walk_at "rd"
              have hm := wtAll_mem (ds := PyData.str k :: ds) (List.mem_cons_of_mem _ (List.mem_of_getElem? hd1))
              exact ⟨x, d, rfl, hd2.ex (e1.trans e2), by omega, fun H4 e4 => kk H4 e4⟩
            · walk_at "rd"
              refine w_all (bs := ds.map wordB) (by rw [List.map_map]; exact sq_of hl2) ?_
              have ea : (ds.map wordB).all id = ds.all wordB := by rw [List.all_map]; rfl
              rw [ea]
              exact q _ (e1.trans e2)
          · have hx : ¬ (V.int (((V.str k :: vs).length : Nat) : Int) = V.int (partsN k)) := fun z => by
              injection z with z
              exact hk (hlen ▸ z)
            rw [decide_eq_false hx, if_pos (show (!false) = true from rfl)]
            walk_at "rd"
            have hv : rowB (PyData.tuple (PyData.str k :: ds)) = false := by
              show (decide (((ds.length + 1 : Nat) : Int) = partsN k) && ds.all wordB) = _
              rw [decide_eq_false hk]
              rfl
            rw [hv] at q
            exact q _ (Ex.refl _)
        | _ =>
          rw [if_pos (show (!isA "str" _) = true from rfl), if_pos rfl]
          walk_at "rd"
          exact q _ (Ex.refl _)
    | _ =>
      rw [if_pos (show (!isA "tuple" _) = true from rfl), if_pos rfl]
      walk_at "rd"
      exact q _ (Ex.refl _)
end

section
variable {P : Program} {w : World} {K : PySem.W.Frag} {mg : Str → Option Value} {base : Heap}
theorem ok_is_program (T : Top K mg) (PT : Parts K w mg) : FnOk P w K mg base CX0 3 T.f_is_program T.d_is_program ["thing"] (spAsk P w K progB) := by
  refine T.F_is_program.ok sc_is_program (fun vs H Q E h => ?_) (fun cdv A outer s H vs Q E hr h => ?_)
  · obtain ⟨x, d, rfl, _⟩ := h
    rfl
  · obtain ⟨x, d, rfl, ha, hw, q⟩ := h
    refine ⟨_, (pss_cons (ps_if (PW.pt (pw_or (pt_not (pt_val (pe_callB call_isA (by rfl) T.z_isinstance (by decide +kernel) (pa_cons (pv 0) (pa_cons (pe_bltn (v := .ty "tuple") (by rfl) T.z_tuple (by decide +kernel) rfl) pa_nil))))) (pw_or1 (pt_cmpR op_gt (pe_callB call_len_seq (by rfl) T.z_len PySem.boot_len (pa_cons (pv 0) pa_nil)) (pe_glob (v := .int 60) rfl T.g_MOST_ROWS ⟨_, rfl⟩) (nomark _)))))
            (pss_one (ps_ret pe_bl))
            pss_nil)
          (pss_one (ps_ret (pe_callB (cr_all rfl) (by rfl) T.z_all (by decide +kernel) (pa_cons (pe_lc (own := [("part", 1)]) (g := gName 1) (tt := tYes) (by rfl) sc_is_program.nd (pi_tup (pv 0)) (blkOk_by (own := [("part", 1)]) (N := ["thing", "part"]) (sc := defScope s_is_program) (by decide +kernel)) (fun _ _ _ _ _ => pg_name (i := 1) sc_is_program.nd rfl (Or.inl rfl)) (fun _ _ _ _ _ => pts_nil) (fun _ _ _ _ _ => (pe_call (ok_is_row (P := P) (w := w) (base := base) T PT) (hr.mono (by decide)) (by rfl) T.g_is_row T.F_is_row.kp T.b_is_row .nil pass0 (pa_cons (pv 1) pa_nil)))) pa_nil))))), ?_⟩
    rw [show start ["thing", "part"] [x] = [some x, none] from rfl]
    try dsimp only [cxOf]
    walk_at "rd"
    cases ha with
    | @tup a xs ds hs ha =>
      have hl := ha.len
      have hd := wt_tup ds
      have hlw := wtAll_len ds
      rw [if_neg (show ¬ (!isA "tuple" (PyData.tuple ds)) = true from Bool.false_ne_true)]
      walk_at "rd"
      by_cases hk : ds.length ≤ 60
      · rw [if_neg (by rw [hl, decide_eq_false (by omega)]; exact Bool.false_ne_true)]
        have hv : progB (PyData.tuple ds) = ds.all rowB := by
          show (decide (ds.length ≤ 60) && ds.all rowB) = _
          rw [decide_eq_true hk]
          rfl
        rw [hv] at q
        walk_at "rd"
        refine c_tupV (ds.map fun d => V.bl (rowB d)) (by rw [List.length_map, hl]) (by omega) hs (fun y => rfl) (fun i x y H' Q' hx hy e2 kk => ?_) fun p2 H2 hp2 e2 hl2 => ?_
        · obtain ⟨d, hd1, hd2⟩ := ha.at hx
          rw [List.getElem?_map, hd1] at hy
          cases hy
          show tCall _ [] _ (tCons (tVar 1) tNil) _ _ _
          walk_at "rd"
          have hm := wtAll_mem (List.mem_of_getElem? hd1)
          exact ⟨x, d, rfl, hd2.ex e2, by omega, fun H4 e4 => kk H4 e4⟩
        · walk_at "rd"
          refine w_all (bs := ds.map rowB) (by rw [List.map_map]; exact sq_of hl2) ?_
          have ea : (ds.map rowB).all id = ds.all rowB := by rw [List.all_map]; rfl
          rw [ea]
          exact q _ e2
      · rw [if_pos (by rw [hl, decide_eq_true (by omega)])]
        walk_at "rd"
        have hv : progB (PyData.tuple ds) = false := by
          show (decide (ds.length ≤ 60) && ds.all rowB) = _
          rw [decide_eq_false hk]
          rfl
        rw [hv] at q
        exact q _ (Ex.refl _)
    | _ =>
      rw [if_pos (show (!isA "tuple" _) = true from rfl), if_pos rfl]
      walk_at "rd"
      exact q _ (Ex.refl _)
end

section
variable {P : Program} {w : World} {K : PySem.W.Frag} {mg : Str → Option Value} {base : Heap}
theorem w_chainI {σ : L2.St} {H : Hp} {Q : VK} {a x b : Int} {j : Nat} (hv : σ[j]? = some (some (V.int x))) (q : Q (.bl (decide (a ≤ x ∧ x ≤ b))) H) :
    tChain (rI0 fun i j => V.bl (decide (i ≤ j))) (rI0 fun i j => V.bl (decide (i ≤ j))) (tC (.int a)) (tVar j) (tC (.int b)) σ H Q := by
  refine w_chain (w_c (w_var hv (w_rI0 (w_bl ?_))))
  by_cases h1 : a ≤ x
  · rw [if_pos (decide_eq_true h1)]
    refine w_c (w_rI0 ?_)
    have e : decide (a ≤ x ∧ x ≤ b) = decide (x ≤ b) := decide_eq_decide.mpr ⟨fun z => z.2, fun z => ⟨h1, z⟩⟩
    rw [← e]
    exact q
  · rw [if_neg (by rw [decide_eq_false h1]; exact Bool.false_ne_true)]
    have e : decide (a ≤ x ∧ x ≤ b) = false := decide_eq_false fun z => h1 z.1
    rw [← e]
    exact q
local macro_rules | `(tactic| walk_at "rd1") => `(tactic| first
  | ((with_reducible show tChain _ _ _ _ _ _ _ _); refine w_chainI (by exact rfl) ?_))
def okL (l : List Nat) : Bool := (l.isEmpty || letterB (l.headD 0)) && l.all signB
theorem okL_snoc {l : List Nat} {c : Nat} (h : okL l = true) : okL (l ++ [c]) = (letterB c || (!l.isEmpty && signB c)) := by
  unfold okL at h ⊢
  rw [Bool.and_eq_true] at h
  rw [List.all_append, h.2]
  cases l with
  | nil =>
    show ((false || letterB c) && (true && (signB c && true))) = (letterB c || (!true && signB c))
    unfold signB
    cases letterB c <;> rfl
  | cons a r =>
    have h1 : letterB a = true := by simpa using h.1
    show ((false || letterB a) && (true && (signB c && true))) = (letterB c || (!false && signB c))
    rw [h1]
    unfold signB
    cases letterB c <;> simp
theorem okL_pre {l r : List Nat} (h : okL l = false) : okL (l ++ r) = false := by
  unfold okL at h ⊢
  rw [List.all_append]
  cases l with
  | nil => exact absurd h (by decide)
  | cons a l =>
    show ((false || letterB a) && ((a :: l).all signB && r.all signB)) = false
    have h : ((false || letterB a) && (a :: l).all signB) = false := h
    rw [← Bool.and_assoc, h]
    rfl
theorem wordS_okL {z : Str} (h1 : 1 ≤ z.length) (h2 : z.length ≤ 40) : wordS z = okL z.cps.toList := by
  rw [wordS, decide_eq_true ⟨h1, h2⟩, okL]
  cases e : z.cps.toList with
  | nil =>
    have : z.length = 0 := by
      show z.cps.size = 0
      rw [← Array.length_toList, e]
      rfl
    omega
  | cons c r => rfl
theorem ok_Lword_is (T : Top K mg) : FnOk P w K mg base CX0 1 T.f_Lword_is T.d_Lword_is ["_law_thing"] (spAsk P w K wordB) := by
  refine T.F_Lword_is.ok sc_Lword_is (fun vs H Q E h => ?_) (fun cdv A outer s H vs Q E hr h => ?_)
  · obtain ⟨x, d, rfl, _⟩ := h
    rfl
  · obtain ⟨x, d, rfl, ha, hw, q⟩ := h
    refine ⟨_, (pss_cons (ps_if (PW.pt (pw_or (pt_not (pt_val (pe_callB call_isA (by rfl) T.z_isinstance (by decide +kernel) (pa_cons (pv 0) (pa_cons (pe_bltn (v := .ty "str") (by rfl) T.z_str (by decide +kernel) rfl) pa_nil))))) (pw_or (pt_cmpR op_lt (pe_callB call_len_str (by rfl) T.z_len PySem.boot_len (pa_cons (pv 0) pa_nil)) pe_int (nomark _)) (pw_or1 (pt_cmpR op_gt (pe_callB call_len_str (by rfl) T.z_len PySem.boot_len (pa_cons (pv 0) pa_nil)) pe_int (nomark _))))))
            (pss_one (ps_ret pe_bl))
            pss_nil)
          (pss_cons (ps_for PassesOwn.never rfl (pi_range1 rfl T.z_range (pa_cons (pe_callB call_len_str (by rfl) T.z_len PySem.boot_len (pa_cons (pv 0) pa_nil)) pa_nil)) (pg_name (i := 1) sc_Lword_is.nd rfl (Or.inl rfl))
            (pss_cons (ps_set (i := 2) sc_Lword_is.nd rfl (Or.inl rfl) (pe_callB call_ord (by rfl) T.z_ord (by decide +kernel) (pa_cons (pe_ix ix_str (pv 0) (pv 1) (fun _ _ => rfl)) pa_nil)))
          (pss_cons (ps_set (i := 3) sc_Lword_is.nd rfl (Or.inl rfl) (pe_chain op_le op_le pe_int (pv 2) pe_int))
          (pss_one (ps_if (PW.pt (pw_and (pt_not (pt_val (pv 3))) (pw_and1 (PW.pt (pw_or (pt_cmpR op_eq (pv 1) pe_int (nomark _)) (pw_or1 (PW.pt (pw_and (pt_not (pt_chain op_le op_le pe_int (pv 2) pe_int)) (pw_and1 (pt_cmpR op_ne (pv 2) pe_int (nomark _)))))))))))
            (pss_one (ps_ret pe_bl))
            pss_nil)))))
          (pss_one (ps_ret pe_bl)))), ?_⟩
    rw [show start ["_law_thing", "_law_at", "_law_code", "_law_letter"] [x] = [some x, none, none, none] from rfl]
    try dsimp only [cxOf]
    walk_at "rd"
    cases ha with
    | str z =>
      rw [if_neg (show ¬ (!isA "str" (PyData.str z)) = true from Bool.false_ne_true)]
      have hz : z.length ≤ 50000 := hw
      walk_at "rd"
      refine ⟨sz_of (Nat.le_trans hz (by decide)), ?_⟩
      walk_at "rd"
      by_cases h1 : ((z.length : Nat) : Int) < 1
      · rw [if_pos (decide_eq_true h1)]
        walk_at "rd"
        have e : wordB (PyData.str z) = false := by
          show wordS z = false
          rw [wordS, decide_eq_false (by omega)]
          rfl
        rw [e] at q
        exact q _ (Ex.refl _)
      rw [if_neg (by rw [decide_eq_false h1]; exact Bool.false_ne_true)]
      walk_at "rd"
      refine ⟨sz_of (Nat.le_trans hz (by decide)), ?_⟩
      walk_at "rd"
      by_cases h2 : ((z.length : Nat) : Int) > 40
      · rw [if_pos (decide_eq_true h2)]
        walk_at "rd"
        have e : wordB (PyData.str z) = false := by
          show wordS z = false
          rw [wordS, decide_eq_false (by omega)]
          rfl
        rw [e] at q
        exact q _ (Ex.refl _)
      rw [if_neg (by rw [decide_eq_false h2]; exact Bool.false_ne_true)]
      walk_at "rd"
      refine ⟨sz_of (Nat.le_trans hz (by decide)), ?_⟩
      walk_at "rd"
      rw [Int.toNat_natCast]
      have hs : z.cps.toList.length = z.length := Array.length_toList
      have hv : wordB (PyData.str z) = okL z.cps.toList := wordS_okL (by omega) (by omega)
      rw [hv] at q
      refine l_range (fun i σ' H' => ∃ x y u : Option V, σ' = [some (V.str z), x, y, u] ∧ Ex H H' ∧ okL (z.cps.toList.take i) = true) ⟨none, none, none, rfl, Ex.refl _, rfl⟩ ?_ ?_
      · rintro i σ' H' hi ⟨x, y, u, rfl, e1, ho⟩
        have hil : i < z.cps.toList.length := by omega
        obtain ⟨c, hc⟩ : ∃ c, z.cps.toList[i]? = some c := ⟨_, List.getElem?_eq_getElem hil⟩
        have ht : z.cps.toList.take (i + 1) = z.cps.toList.take i ++ [c] := by rw [List.take_add_one, hc]; rfl
        have hem : (z.cps.toList.take i).isEmpty = decide (i = 0) := by
          cases i with
          | zero => rfl
          | succ i =>
            cases e : z.cps.toList with
            | nil => rw [e] at hil; exact absurd hil (Nat.not_lt_zero _)
            | cons a r => rfl
        have hcut : okL (z.cps.toList.take (i + 1)) = false → okL z.cps.toList = false := fun h => by
          rw [← List.take_append_drop (i + 1) z.cps.toList]
          exact okL_pre h
        have hn := okL_snoc (c := c) ho
        rw [← ht, hem] at hn
        walk_at "rd"
        refine w_ixS (Nat.le_trans hz (by decide)) (atI_nat hc) ?_
        walk_at "rd"
        refine ⟨rfl, ?_⟩
        rw [show (({ cps := #[c] } : Str).cps.getD 0 0) = c from rfl]
        walk_at "rd"
        have hlet : letterB c = decide ((97 : Int) ≤ ((c : Nat) : Int) ∧ ((c : Nat) : Int) ≤ 122) := decide_eq_decide.mpr (by omega)
        rw [← hlet]
        generalize letterB c = lb at hn hlet
        cases lb with
        | true =>
          rw [if_neg (show ¬ (!true) = true from Bool.false_ne_true)]
          walk_at "rd"
          rw [if_neg Bool.false_ne_true]
          walk_at "rd"
          exact ⟨_, _, _, rfl, e1, hn⟩
        | false =>
          rw [if_pos (show (!false) = true from rfl)]
          walk_at "rd"
          have bad : okL (z.cps.toList.take (i + 1)) = false → Q (.bl false) H' := fun h => by
            have := q _ e1
            rw [hcut h] at this
            exact this
          have hsg : signB c = (decide ((48 : Int) ≤ ((c : Nat) : Int) ∧ ((c : Nat) : Int) ≤ 57) || decide (c = 46)) := by
            have hl2 : letterB c = false := by
              rw [hlet]
              exact decide_eq_decide.mpr (by omega)
            unfold signB
            rw [hl2, Bool.false_or]
            congr 1
            exact decide_eq_decide.mpr (by omega)
          by_cases hi0 : i = 0
          · rw [if_pos (by rw [hi0]; exact decide_eq_true rfl), if_pos rfl]
            walk_at "rd"
            exact bad (by rw [hn, hi0]; rfl)
          · have hne : ¬ (V.int ((i : Nat) : Int) = V.int 0) := fun e => by
              injection e with e
              omega
            rw [if_neg (by rw [decide_eq_false hne]; exact Bool.false_ne_true)]
            rw [decide_eq_false hi0] at hn
            walk_at "rd"
            generalize decide ((48 : Int) ≤ ((c : Nat) : Int) ∧ ((c : Nat) : Int) ≤ 57) = dg at hsg ⊢
            cases dg with
            | true =>
              rw [if_neg (show ¬ (!true) = true from Bool.false_ne_true), if_neg Bool.false_ne_true]
              walk_at "rd"
              exact ⟨_, _, _, rfl, e1, by rw [hn, hsg]; rfl⟩
            | false =>
              rw [if_pos (show (!false) = true from rfl)]
              walk_at "rd"
              by_cases h46 : c = 46
              · rw [decide_eq_true (by rw [h46]; rfl), if_neg (show ¬ (!true) = true from Bool.false_ne_true)]
                walk_at "rd"
                exact ⟨_, _, _, rfl, e1, by rw [hn, hsg, decide_eq_true h46]; rfl⟩
              · have hne : ¬ (V.int ((c : Nat) : Int) = V.int 46) := fun e => by
                  injection e with e
                  omega
                rw [decide_eq_false hne, if_pos (show (!false) = true from rfl)]
                walk_at "rd"
                exact bad (by rw [hn, hsg, decide_eq_false h46]; rfl)
      · rintro σ' H' ⟨x, y, u, rfl, e1, ho⟩
        walk_at "rd"
        rw [← hs, List.take_length] at ho
        rw [ho] at q
        exact q _ e1
    | _ =>
      rw [if_pos (show (!isA "str" _) = true from rfl), if_pos rfl]
      walk_at "rd"
      exact q _ (Ex.refl _)
end

section
variable {P : Program} {w : World} {K : PySem.W.Frag} {mg : Str → Option Value} {base : Heap}
theorem w_notIn {x : V} {p : Addr} {xs : List V} {H : Hp} {Q : VK} (h : SqL K H p xs ∨ SqT K H p xs) (f : flatV x = true) (g : xs.all flatV = true) (q : Q (.bl (!inV x xs)) H) : rIn K true x (.ref p) H Q := ⟨p, xs, rfl, h, f, g, q⟩
theorem inV34 (n : Nat) : inV (.int ((n : Nat) : Int)) [.int 3, .int 4] = decide (n = 3 ∨ n = 4) := by
  rw [Bool.eq_iff_iff, decide_eq_true_eq]
  unfold inV
  simp only [List.any_cons, List.any_nil, Bool.or_false, Bool.or_eq_true]
  simp [eqV]
  omega
theorem eqV_str (a b : Str) : eqV (.str a) (.str b) = decide (a = b) := by
  rw [Bool.eq_iff_iff, decide_eq_true_eq]
  show (a == b) = true ↔ _
  exact beq_iff_eq
theorem inV2 (k a b : Str) : inV (.str k) [.str a, .str b] = decide (k = a ∨ k = b) := by
  rw [Bool.eq_iff_iff, decide_eq_true_eq]
  unfold inV
  rw [List.any_cons, List.any_cons, List.any_nil, Bool.or_false, Bool.or_eq_true, eqV_str, eqV_str, decide_eq_true_eq, decide_eq_true_eq]
  exact ⟨fun h => h.elim (fun h => .inl h.symm) fun h => .inr h.symm, fun h => h.elim (fun h => .inl h.symm) fun h => .inr h.symm⟩
theorem partsN3 (k : Str) : decide (((3 : Nat) : Int) = partsN k) = decide (k = Str.ofString "new" ∨ k = Str.ofString "move") := by
  refine decide_eq_decide.mpr ⟨fun h => ?_, fun h => by rw [partsN, if_pos h]; rfl⟩
  unfold partsN at h
  split at h
  · assumption
  · split at h <;> exact absurd h (by decide)
theorem partsN4 (k : Str) : decide (((4 : Nat) : Int) = partsN k) = decide (k = Str.ofString "put" ∨ k = Str.ofString "take") := by
  refine decide_eq_decide.mpr ⟨fun h => ?_, fun h => ?_⟩
  · unfold partsN at h
    split at h
    · exact absurd h (by decide)
    · split at h
      · assumption
      · exact absurd h (by decide)
  · rw [partsN, if_neg, if_pos h]
    · rfl
    · rcases h with rfl | rfl <;> decide +kernel
theorem rowB_len {ds : List PyData} (h : ¬ (ds.length = 3 ∨ ds.length = 4)) : rowB (PyData.tuple ds) = false := by
  cases ds with
  | nil => rfl
  | cons d r =>
    cases d with
    | str k =>
      show (decide (((r.length + 1 : Nat) : Int) = partsN k) && r.all wordB) = false
      rw [List.length_cons] at h
      rw [decide_eq_false fun z => ?_]
      · rfl
      · unfold partsN at z
        split at z
        · omega
        · split at z <;> omega
    | _ => rfl
theorem ok_Lrow_is (T : Top K mg) : FnOk P w K mg base CX0 2 T.f_Lrow_is T.d_Lrow_is ["_law_thing"] (spAsk P w K rowB) := by
  refine T.F_Lrow_is.ok sc_Lrow_is (fun vs H Q E h => ?_) (fun cdv A outer s H vs Q E hr h => ?_)
  · obtain ⟨x, d, rfl, _⟩ := h
    rfl
  · obtain ⟨x, d, rfl, ha, hw, q⟩ := h
    refine ⟨_, (pss_cons (ps_if (PW.pt (pw_or (pt_not (pt_val (pe_callB call_isA (by rfl) T.z_isinstance (by decide +kernel) (pa_cons (pv 0) (pa_cons (pe_bltn (v := .ty "tuple") (by rfl) T.z_tuple (by decide +kernel) rfl) pa_nil))))) (pw_or (pt_cmpR op_notIn_seq (pe_callB call_len_seq (by rfl) T.z_len PySem.boot_len (pa_cons (pv 0) pa_nil)) (pe_tup (pa_cons pe_int (pa_cons pe_int pa_nil))) (by rfl)) (pw_or1 (pt_not (pt_val (pe_callB call_isA (by rfl) T.z_isinstance (by decide +kernel) (pa_cons (pe_ix ix_tup (pv 0) pe_int (fun _ _ => rfl)) (pa_cons (pe_bltn (v := .ty "str") (by rfl) T.z_str (by decide +kernel) rfl) pa_nil)))))))))
            (pss_one (ps_ret pe_bl))
            pss_nil)
          (pss_cons (ps_if (pt_cmpR op_notIn_seq (pe_ix ix_tup (pv 0) pe_int (fun _ _ => rfl)) (pe_ix ix_list (pe_lst (pa_cons pe_str (pa_cons pe_str (pa_cons pe_str (pa_cons (pe_lst (pa_cons pe_str (pa_cons pe_str pa_nil))) (pa_cons (pe_lst (pa_cons pe_str (pa_cons pe_str pa_nil))) pa_nil)))))) (pe_callB call_len_seq (by rfl) T.z_len PySem.boot_len (pa_cons (pv 0) pa_nil)) (fun _ _ => rfl)) (by rfl))
            (pss_one (ps_ret pe_bl))
            pss_nil)
          (pss_one (ps_ret (pe_callB (cr_all rfl) (by rfl) T.z_all (by decide +kernel) (pa_cons (pe_lc (own := [("_law_one", 1)]) (g := gName 1) (tt := tYes) (by rfl) sc_Lrow_is.nd (pi_tup (pe_slice sl_tup (pv 0) (po_some pe_int) po_none)) (blkOk_by (own := [("_law_one", 1)]) (N := ["_law_thing", "_law_one"]) (sc := defScope s_Lrow_is) (by decide +kernel)) (fun _ _ _ _ _ => pg_name (i := 1) sc_Lrow_is.nd rfl (Or.inl rfl)) (fun _ _ _ _ _ => pts_nil) (fun _ _ _ _ _ => (pe_call (ok_Lword_is (P := P) (w := w) (base := base) T) (hr.mono (by decide)) (by rfl) T.g_Lword_is T.F_Lword_is.kp T.b_Lword_is .nil pass0 (pa_cons (pv 1) pa_nil)))) pa_nil)))))), ?_⟩
    rw [show start ["_law_thing", "_law_one"] [x] = [some x, none] from rfl]
    try dsimp only [cxOf]
    walk_at "rd"
    cases ha with
    | @tup a xs ds hs ha =>
      have hl := ha.len
      rw [if_neg (show ¬ (!isA "tuple" (PyData.tuple ds)) = true from Bool.false_ne_true)]
      walk_at "rd"
      rename_i p hp H1 e1 h1
      refine w_notIn (.inr (st_of h1)) rfl rfl ?_
      walk_at "rd"
      rw [inV34, hl]
      by_cases h34 : ds.length = 3 ∨ ds.length = 4
      · rw [decide_eq_true h34, if_neg (show ¬ (!true) = true from Bool.false_ne_true)]
        cases ha with
        | nil => exact absurd h34 (by simp)
        | @cons v vs d ds ha hr2 =>
          have hs1 : SqT K H1 a (v :: vs) := ex_t e1 hs
          walk_at "rd"
          have ha1 := ha.ex e1
          cases ha1 with
          | str k =>
            rw [if_neg (show ¬ (!isA "str" (PyData.str k)) = true from Bool.false_ne_true)]
            walk_at "rd"
            rename_i pa hpa Ha ea ha' pb hpb Hb eb hb pc hpc Hc ec hc
            have E3 : Ex H Hc := ((e1.trans ea).trans eb).trans ec
            have hl2 := hr2.len
            have hd := wt_tup (PyData.str k :: ds)
            have hlw := wtAll_len (PyData.str k :: ds)
            rw [List.length_cons] at hlw
            rcases h34 with h3 | h4
            · have hlen : (((V.str k :: vs).length : Nat) : Int) = 3 := by rw [hl, h3]; rfl
              have hr1 : ((ds.length + 1 : Nat) : Int) = ((3 : Nat) : Int) := congrArg Int.ofNat h3
              have hv : rowB (PyData.tuple (PyData.str k :: ds)) = (decide (k = Str.ofString "new" ∨ k = Str.ofString "move") && ds.all wordB) := by
                show (decide (((ds.length + 1 : Nat) : Int) = partsN k) && ds.all wordB) = _
                rw [hr1, partsN3]
              rw [hv] at q
              show rIxL K (V.ref pc) (V.int _) Hc _
              rw [hlen]
              refine w_ixL (sq_of hc) at_3 ?_
              walk_at "rd"
              refine w_notIn (.inl (sq_of (ec _ _ (eb _ _ ha')))) rfl rfl ?_
              rw [inV2]
              walk_at "rd"
              generalize decide (k = Str.ofString "new" ∨ k = Str.ofString "move") = kb at q ⊢
              cases kb with
              | false =>
                rw [if_pos (show (!false) = true from rfl)]
                walk_at "rd"
                exact q _ E3
              | true =>
                rw [if_neg (show ¬ (!true) = true from Bool.false_ne_true)]
                walk_at "rd"
                refine w_slTail (ex_t E3 hs) ?_
                walk_at "rd"
                rename_i p4 hp4 H4 e4 h4'
                refine c_tupV (ds.map fun d => V.bl (wordB d)) (by rw [List.length_map, hl2]) (by omega) (st_of h4') (fun y => rfl) (fun i x y H' Q' hx hy e2 kk => ?_) fun p2 H2 hp2 e2 hl2 => ?_
                · obtain ⟨d, hd1, hd2⟩ := hr2.at hx
                  rw [List.getElem?_map, hd1] at hy
                  cases hy
                  show tCall _ [] _ (tCons (tVar 1) tNil) _ _ _
                  walk_at "rd"
                  have hm := wtAll_mem (ds := PyData.str k :: ds) (List.mem_cons_of_mem _ (List.mem_of_getElem? hd1))
                  exact ⟨x, d, rfl, hd2.ex ((E3.trans e4).trans e2), by omega, fun H4 e4 => kk H4 e4⟩
                · walk_at "rd"
                  refine w_all (bs := ds.map wordB) (by rw [List.map_map]; exact sq_of hl2) ?_
                  have ea : (ds.map wordB).all id = ds.all wordB := by rw [List.all_map]; rfl
                  rw [ea]
                  exact q _ ((E3.trans e4).trans e2)
            · have hlen : (((V.str k :: vs).length : Nat) : Int) = 4 := by rw [hl, h4]; rfl
              have hr1 : ((ds.length + 1 : Nat) : Int) = ((4 : Nat) : Int) := congrArg Int.ofNat h4
              have hv : rowB (PyData.tuple (PyData.str k :: ds)) = (decide (k = Str.ofString "put" ∨ k = Str.ofString "take") && ds.all wordB) := by
                show (decide (((ds.length + 1 : Nat) : Int) = partsN k) && ds.all wordB) = _
                rw [hr1, partsN4]
              rw [hv] at q
              show rIxL K (V.ref pc) (V.int _) Hc _
              rw [hlen]
              refine w_ixL (sq_of hc) at_4 ?_
              walk_at "rd"
              refine w_notIn (.inl (sq_of (ec _ _ hb))) rfl rfl ?_
              rw [inV2]
              walk_at "rd"
              generalize decide (k = Str.ofString "put" ∨ k = Str.ofString "take") = kb at q ⊢
              cases kb with
              | false =>
                rw [if_pos (show (!false) = true from rfl)]
                walk_at "rd"
                exact q _ E3
              | true =>
                rw [if_neg (show ¬ (!true) = true from Bool.false_ne_true)]
                walk_at "rd"
                refine w_slTail (ex_t E3 hs) ?_
                walk_at "rd"
                rename_i p4 hp4 H4 e4 h4'
                refine c_tupV (ds.map fun d => V.bl (wordB d)) (by rw [List.length_map, hl2]) (by omega) (st_of h4') (fun y => rfl) (fun i x y H' Q' hx hy e2 kk => ?_) fun p2 H2 hp2 e2 hl2 => ?_
                · obtain ⟨d, hd1, hd2⟩ := hr2.at hx
                  rw [List.getElem?_map, hd1] at hy
                  cases hy
                  show tCall _ [] _ (tCons (tVar 1) tNil) _ _ _
                  walk_at "rd"
                  have hm := wtAll_mem (ds := PyData.str k :: ds) (List.mem_cons_of_mem _ (List.mem_of_getElem? hd1))
                  exact ⟨x, d, rfl, hd2.ex ((E3.trans e4).trans e2), by omega, fun H4 e4 => kk H4 e4⟩
                · walk_at "rd"
                  refine w_all (bs := ds.map wordB) (by rw [List.map_map]; exact sq_of hl2) ?_
                  have ea : (ds.map wordB).all id = ds.all wordB := by rw [List.all_map]; rfl
                  rw [ea]
                  exact q _ ((E3.trans e4).trans e2)
          | _ =>
            rw [if_pos (show (!isA "str" _) = true from rfl)]
            walk_at "rd"
            exact q _ e1
      · rw [decide_eq_false h34, if_pos (show (!false) = true from rfl), if_pos rfl]
        walk_at "rd"
        rw [rowB_len h34] at q
        exact q _ e1
    | _ =>
      rw [if_pos (show (!isA "tuple" _) = true from rfl), if_pos rfl]
      walk_at "rd"
      exact q _ (Ex.refl _)
end

section
variable {P : Program} {w : World} {K : PySem.W.Frag} {mg : Str → Option Value} {base : Heap}
theorem ok_Lprogram_is (T : Top K mg) : FnOk P w K mg base CX0 3 T.f_Lprogram_is T.d_Lprogram_is ["_law_thing"] (spAsk P w K progB) := by
  refine T.F_Lprogram_is.ok sc_Lprogram_is (fun vs H Q E h => ?_) (fun cdv A outer s H vs Q E hr h => ?_)
  · obtain ⟨x, d, rfl, _⟩ := h
    rfl
  · obtain ⟨x, d, rfl, ha, hw, q⟩ := h
    refine ⟨_, (pss_cons (ps_if (PW.pt (pw_or (pt_not (pt_val (pe_callB call_isA (by rfl) T.z_isinstance (by decide +kernel) (pa_cons (pv 0) (pa_cons (pe_bltn (v := .ty "tuple") (by rfl) T.z_tuple (by decide +kernel) rfl) pa_nil))))) (pw_or1 (pt_cmpR op_gt (pe_callB call_len_seq (by rfl) T.z_len PySem.boot_len (pa_cons (pv 0) pa_nil)) pe_int (nomark _)))))
            (pss_one (ps_ret pe_bl))
            pss_nil)
          (pss_one (ps_ret (pe_callB (cr_all rfl) (by rfl) T.z_all (by decide +kernel) (pa_cons (pe_lc (own := [("_law_one", 1)]) (g := gName 1) (tt := tYes) (by rfl) sc_Lprogram_is.nd (pi_tup (pv 0)) (blkOk_by (own := [("_law_one", 1)]) (N := ["_law_thing", "_law_one"]) (sc := defScope s_Lprogram_is) (by decide +kernel)) (fun _ _ _ _ _ => pg_name (i := 1) sc_Lprogram_is.nd rfl (Or.inl rfl)) (fun _ _ _ _ _ => pts_nil) (fun _ _ _ _ _ => (pe_call (ok_Lrow_is (P := P) (w := w) (base := base) T) (hr.mono (by decide)) (by rfl) T.g_Lrow_is T.F_Lrow_is.kp T.b_Lrow_is .nil pass0 (pa_cons (pv 1) pa_nil)))) pa_nil))))), ?_⟩
    rw [show start ["_law_thing", "_law_one"] [x] = [some x, none] from rfl]
    try dsimp only [cxOf]
    walk_at "rd"
    cases ha with
    | @tup a xs ds hs ha =>
      have hl := ha.len
      have hd := wt_tup ds
      have hlw := wtAll_len ds
      rw [if_neg (show ¬ (!isA "tuple" (PyData.tuple ds)) = true from Bool.false_ne_true)]
      walk_at "rd"
      by_cases hk : ds.length ≤ 60
      · rw [if_neg (by rw [hl, decide_eq_false (by omega)]; exact Bool.false_ne_true)]
        have hv : progB (PyData.tuple ds) = ds.all rowB := by
          show (decide (ds.length ≤ 60) && ds.all rowB) = _
          rw [decide_eq_true hk]
          rfl
        rw [hv] at q
        walk_at "rd"
        refine c_tupV (ds.map fun d => V.bl (rowB d)) (by rw [List.length_map, hl]) (by omega) hs (fun y => rfl) (fun i x y H' Q' hx hy e2 kk => ?_) fun p2 H2 hp2 e2 hl2 => ?_
        · obtain ⟨d, hd1, hd2⟩ := ha.at hx
          rw [List.getElem?_map, hd1] at hy
          cases hy
          show tCall _ [] _ (tCons (tVar 1) tNil) _ _ _
          walk_at "rd"
          have hm := wtAll_mem (List.mem_of_getElem? hd1)
          exact ⟨x, d, rfl, hd2.ex e2, by omega, fun H4 e4 => kk H4 e4⟩
        · walk_at "rd"
          refine w_all (bs := ds.map rowB) (by rw [List.map_map]; exact sq_of hl2) ?_
          have ea : (ds.map rowB).all id = ds.all rowB := by rw [List.all_map]; rfl
          rw [ea]
          exact q _ e2
      · rw [if_pos (by rw [hl, decide_eq_true (by omega)])]
        walk_at "rd"
        have hv : progB (PyData.tuple ds) = false := by
          show (decide (ds.length ≤ 60) && ds.all rowB) = _
          rw [decide_eq_false hk]
          rfl
        rw [hv] at q
        exact q _ (Ex.refl _)
    | _ =>
      rw [if_pos (show (!isA "tuple" _) = true from rfl), if_pos rfl]
      walk_at "rd"
      exact q _ (Ex.refl _)
end

def spFill : Sp := fun vs H Q _ => ∃ n m : Int, vs = [.int n, .int m] ∧ ∀ r : Int, Q (.int r) H
section
variable {P : Program} {w : World} {K : PySem.W.Frag} {mg : Str → Option Value} {base : Heap}
theorem ok_Lfill (T : Top K mg) : FnOk P w K mg base CX0 1 T.f_Lfill T.d_Lfill ["_law_cell", "_law_at"] spFill := by
  refine T.F_Lfill.ok sc_Lfill (fun vs H Q E h => ?_) (fun cdv A outer s H vs Q E hr h => ?_)
  · obtain ⟨n, m, rfl, _⟩ := h
    rfl
  · obtain ⟨n, m, rfl, q⟩ := h
    refine ⟨_, (pss_cons (ps_if (pt_cmpR op_ge (pv 0) (pe_op op_pow pe_int pe_int) (nomark _))
            (pss_one (ps_ret (pv 0)))
            pss_nil)
          (pss_cons (ps_set (i := 2) sc_Lfill.nd rfl (Or.inl rfl) (pe_op op_mod (pe_op op_add (pe_op op_add (pe_op op_mul (pe_op op_mod (pv 0) pe_int) pe_int) (pe_op op_mul (pv 1) pe_int)) pe_int) pe_int))
          (pss_cons (ps_set (i := 2) sc_Lfill.nd rfl (Or.inl rfl) (pe_op op_mod (pe_op op_add (pe_op op_add (pe_op op_mul (pv 2) (pv 2)) (pe_op op_mul pe_int (pv 2))) (pv 1)) pe_int))
          (pss_one (ps_ret (pe_op op_add (pe_op op_mul (pv 2) pe_int) (pe_op op_mod (pe_op op_add (pe_op op_mul (pv 2) (pv 2)) (pe_op op_mul pe_int (pv 1))) pe_int))))))), ?_⟩
    rw [show start ["_law_cell", "_law_at", "_law_x"] [V.int n, V.int m] = [some (V.int n), some (V.int m), none] from rfl]
    try dsimp only [cxOf]
    walk_at "rd"
    refine ite2 (fun _ => ?_) (fun _ => ?_)
    · walk_at "rd"
      exact q _
    · walk_at "rd"
      exact q _
end

def spNext (K : PySem.W.Frag) : Sp := fun vs H Q _ => ∃ (a sc : Addr) (ns : List Int) (m : Int), vs = [.ref a, .int m] ∧ H a = some (PenO a sc) ∧ SqL K H sc (ns.map V.int) ∧ 0 < m ∧ m < 1000000 ∧
  ∀ (r : Int) H', 0 ≤ r → r < m → Ex H H' → Q (.int r) H'
section
variable {P : Program} {w : World} {K : PySem.W.Frag} {mg : Str → Option Value} {base : Heap}
theorem ok_Lnext (T : Top K mg) : FnOk P w K mg base CX0 2 T.f_Lnext T.d_Lnext ["_law_pen", "_law_many"] (spNext K) := by
  refine T.F_Lnext.ok sc_Lnext (fun vs H Q E h => ?_) (fun cdv A outer s H vs Q E hr h => ?_)
  · obtain ⟨a, sc, ns, m, rfl, _⟩ := h
    rfl
  · obtain ⟨a, sc, ns, m, rfl, hp, hsc, m0, m1, q⟩ := h
    refine ⟨_, (pss_open (pss_cut (ps_if (pt_cmpR op_lt (pe_ix ix_list (pv 0) pe_int (fun _ _ => rfl)) (pv 1) (nomark _))
            (pss_cons (ps_set (i := 2) sc_Lnext.nd rfl (Or.inl rfl) (pe_ix ix_list (pv 0) pe_int (fun _ _ => rfl)))
          (pss_cons (ps_set (i := 3) sc_Lnext.nd rfl (Or.inl rfl) pe_int)
          (pss_cut (ps_if (pt_cmpR op_lt (pv 2) (pe_callB call_len_seq (by rfl) T.z_len PySem.boot_len (pa_cons (pe_ix ix_list (pv 0) pe_int (fun _ _ => rfl)) pa_nil)) (nomark _))
            (pss_one (ps_set (i := 3) sc_Lnext.nd rfl (Or.inl rfl) (pe_ix ix_list (pe_ix ix_list (pv 0) pe_int (fun _ _ => rfl)) (pv 2) (fun _ _ => rfl))))
            (pss_one (ps_if (pt_cmpR op_gt (pe_callB call_len_seq (by rfl) T.z_len PySem.boot_len (pa_cons (pe_ix ix_list (pv 0) pe_int (fun _ _ => rfl)) pa_nil)) pe_int (nomark _))
            (pss_one (ps_set (i := 3) sc_Lnext.nd rfl (Or.inl rfl) (pe_op op_add (pe_op op_mod (pe_ix ix_list (pe_ix ix_list (pv 0) pe_int (fun _ _ => rfl)) (pe_op op_mod (pe_op op_mul (pv 2) pe_int) (pe_callB call_len_seq (by rfl) T.z_len PySem.boot_len (pa_cons (pe_ix ix_list (pv 0) pe_int (fun _ _ => rfl)) pa_nil))) (fun _ _ => rfl)) pe_int) (pe_op op_mul (pv 2) pe_int))))
            pss_nil)))
          (pss_cons (ps_asg (pe_op op_add (pv 2) pe_int) (pg_sub (pv 0) pe_int set_list))
          (pss_one (ps_asg (pe_call (ok_Lfill T) (hr.mono (by decide)) (by rfl) T.g_Lfill T.F_Lfill.kp T.b_Lfill .nil pass0 (pa_cons (pv 3) (pa_cons (pv 2) pa_nil))) (pg_sub (pv 0) pe_int set_list)))))))
            pss_nil)
          (pss_cons (ps_set (i := 4) sc_Lnext.nd rfl (Or.inl rfl) (pe_op op_mod (pe_ix ix_list (pv 0) pe_int (fun _ _ => rfl)) (pv 1)))
          (pss_cons (ps_asg (pe_op op_fdiv (pe_ix ix_list (pv 0) pe_int (fun _ _ => rfl)) (pv 1)) (pg_sub (pv 0) pe_int set_list))
          (pss_shut (pss_one (ps_ret (pv 4)))))))), ?_⟩
    rw [show start ["_law_pen", "_law_many", "_law_at", "_law_cell", "_law_found"] [V.ref a, V.int m] = [some (V.ref a), some (V.int m), none, none, none] from rfl]
    try dsimp only [cxOf]
    refine w_open hp fun i c i0 => ?_
    generalize hX : upd H a _ = H1
    obtain ⟨u1, h1⟩ := gen2 hX
    clear hX
    have s1 : SqL K H1 sc _ := u1.seq hp hsc
    refine w_cut (fun σ' H' => ∃ (i c : Int) (x y : Option V), 0 ≤ i ∧ σ' = [some (.ref a), some (.int m), x, y, none] ∧ Mu a H H' ∧ H' a = some (.lst [.ref sc, .int i, .int c])) ?_ ?_
    · walk_at "rd"
      refine ite2 (fun _ => ?_) (fun _ => ?_)
      · walk_at "rd"
        refine w_cut (fun σ' H' => ∃ c : Int, σ' = [some (.ref a), some (.int m), some (.int i), some (.int c), none] ∧ H' = H1) ?_ ?_
        · walk_at "rd"
          refine ite2 (fun h => ?_) (fun h => ?_)
          · have h' := of_decide_eq_true h
            rw [List.length_map] at h'
            obtain ⟨v, hv⟩ := at_ints i0 h'
            walk_at "rd"
            exact ⟨v, rfl, rfl⟩
          · walk_at "rd"
            refine ite2 (fun h2 => ?_) (fun h2 => ?_)
            · have h2' := of_decide_eq_true h2
              have b0 : 0 ≤ i * 7 % ((ns.map V.int).length : Int) := Int.emod_nonneg _ (by omega)
              have b1 : i * 7 % ((ns.map V.int).length : Int) < (ns.length : Int) := by
                have := Int.emod_lt_of_pos (i * 7) h2'
                rw [List.length_map] at this ⊢
                exact this
              obtain ⟨v, hv⟩ := at_ints b0 b1
              walk_at "rd"
              exact ⟨_, rfl, rfl⟩
            · walk_at "rd"
              exact ⟨_, rfl, rfl⟩
        · rintro _ _ ⟨c2, rfl, rfl⟩
          walk_at "rd"
          refine ⟨c2, i, rfl, fun r => ?_⟩
          walk_at "rd"
          rename_i Ha ua ha Hb ub hb
          exact ⟨i + 1, r, _, _, by omega, rfl, (u1.trans ua).trans ub, hb⟩
      · walk_at "rd"
        exact ⟨i, c, _, _, i0, rfl, u1, h1⟩
    · rintro _ H2 ⟨i, c, x, y, i0, rfl, u2, h2⟩
      walk_at "rd"
      rename_i Ha ua ha
      refine w_shut (i := i) (c := c / m) ha i0 ?_
      walk_at "rd"
      exact q _ _ (Int.emod_nonneg _ (by omega)) (Int.emod_lt_of_pos _ m0) (pen_ex (u2.trans ua) hp)
theorem u_next {a sc : Addr} {ns : List Int} {m : Int} {H : Hp} {Q : VK} {E : XK} (h : H a = some (PenO a sc)) (hs : SqL K H sc (ns.map V.int)) (hm : 0 < m ∧ m < 1000000) (q : ∀ (r : Int) H', 0 ≤ r → r < m → Ex H H' → Q (.int r) H') :
    spNext K [.ref a, .int m] H Q E := ⟨a, sc, ns, m, rfl, h, hs, hm.1, hm.2, q⟩
end

theorem w_mulS2 {z : Str} {n : Int} {H : Hp} {Q : VK} (hz : TxtOk 2 z) (h : -1000 ≤ n ∧ n ≤ 45) (q : ∀ r : Str, TxtOk 90 r → Q (.str r) H) : rMulS (.str z) (.int n) H Q := ⟨z, n, rfl, rfl, Nat.le_trans hz.1 (by decide), h.1, by omega, fun r hr er => q r ⟨by
  have a : z.length * n.toNat ≤ 2 * 45 := Nat.mul_le_mul hz.1 (by omega)
  omega, by rw [er]; exact mul_ok hz.2⟩⟩

local macro_rules | `(tactic| walk_at "rd1") => `(tactic| first
  | ((with_reducible show rMulS _ _ _ _); refine w_mulS2 (by first | exact ⟨Nat.le_trans (And.left (by assumption : TxtOk 1 _)) (by decide), And.right (by assumption : TxtOk 1 _)⟩ | (show TxtOk 2 (Str.ofString _); decide +kernel)) (by walk_at "ln") ?_; intro r hr))

local macro_rules | `(tactic| walk_at "rd1") => `(tactic| ((with_reducible show spNext _ _ _ _ _); refine u_next (by walk_at "ho") (by walk_at "sl") (by walk_at "ln") ?_; intro r H2 hr0 hr1 e2))

section
variable {P : Program} {w : World} {K : PySem.W.Frag} {mg : Str → Option Value} {base : Heap}
def spWords (K : PySem.W.Frag) : Sp := fun vs H Q _ => ∃ (a sc : Addr) (ns : List Int) (m : Int), vs = [.ref a, .int m] ∧ H a = some (PenO a sc) ∧ SqL K H sc (ns.map V.int) ∧ 0 ≤ m ∧ m ≤ 20 ∧
  ∀ (p : Addr) (ws : List Str) H', H p = none → Ex H H' → H' p = some (.lst (ws.map V.str)) → (ws.length : Int) = m → (∀ z ∈ ws, TxtOk 160 z) → Q (.ref p) H'
theorem ok_Lwords (T : Top K mg) : FnOk P w K mg base CX0 3 T.f_Lwords T.d_Lwords ["_law_pen", "_law_many"] (spWords K) := by
  refine T.F_Lwords.ok sc_Lwords (fun vs H Q E h => ?_) (fun cdv A outer s H vs Q E hr h => ?_)
  · obtain ⟨a, sc, ns, m, rfl, _⟩ := h
    rfl
  · obtain ⟨a, sc, ns, m, rfl, hp, hsc, m0, m1, q⟩ := h
    refine ⟨_, (pss_cons (ps_set (i := 2) sc_Lwords.nd rfl (Or.inl rfl) (pe_call (ok_Lnext T) (hr.mono (by decide)) (by rfl) T.g_Lnext T.F_Lnext.kp T.b_Lnext .nil pass0 (pa_cons (pv 0) (pa_cons pe_int pa_nil))))
          (pss_cons (ps_set (i := 3) sc_Lwords.nd rfl (Or.inl rfl) (pe_lst (pa_cons pe_str (pa_cons pe_str (pa_cons pe_str (pa_cons pe_str (pa_cons pe_str (pa_cons pe_str (pa_cons pe_str (pa_cons pe_str (pa_cons pe_str (pa_cons pe_str (pa_cons pe_str (pa_cons pe_str pa_nil))))))))))))))
          (pss_cons (ps_set (i := 4) sc_Lwords.nd rfl (Or.inl rfl) pe_str)
          (pss_cons (ps_set (i := 5) sc_Lwords.nd rfl (Or.inl rfl) (pe_op op_add_str (pv 4) pe_str))
          (pss_cons (ps_set (i := 6) sc_Lwords.nd rfl (Or.inl rfl) (pe_ix ix_str (pv 4) (pe_call (ok_Lnext T) (hr.mono (by decide)) (by rfl) T.g_Lnext T.F_Lnext.kp T.b_Lnext .nil pass0 (pa_cons (pv 0) (pa_cons pe_int pa_nil))) (fun _ _ => rfl)))
          (pss_cons (ps_set (i := 7) sc_Lwords.nd rfl (Or.inl rfl) (pe_ix ix_str (pv 5) (pe_call (ok_Lnext T) (hr.mono (by decide)) (by rfl) T.g_Lnext T.F_Lnext.kp T.b_Lnext .nil pass0 (pa_cons (pv 0) (pa_cons pe_int pa_nil))) (fun _ _ => rfl)))
          (pss_cons (ps_set (i := 8) sc_Lwords.nd rfl (Or.inl rfl) (pe_lst pa_nil))
          (pss_cons (ps_for PassesOwn.never rfl (pi_range1 rfl T.z_range (pa_cons (pv 1) pa_nil)) (pg_name (i := 9) sc_Lwords.nd rfl (Or.inl rfl))
            (pss_cons (ps_set (i := 10) sc_Lwords.nd rfl (Or.inl rfl) (pe_lst (pa_cons (pe_ix ix_str (pv 4) (pv 9) (fun _ _ => rfl)) (pa_cons (pe_op op_addA pe_str (pe_callTy cr_strA (by rfl) T.z_str (by decide +kernel) (pa_cons (pv 9) pa_nil))) (pa_cons (pe_op op_mul_str pe_str (pe_op op_add (pv 9) pe_int)) (pa_cons (pe_op op_addA (pe_op op_addA (pv 6) (pv 7)) (pe_callTy cr_strA (by rfl) T.z_str (by decide +kernel) (pa_cons (pv 9) pa_nil))) pa_nil))))))
          (pss_cons (ps_set (i := 10) sc_Lwords.nd rfl (Or.inl rfl) (pe_op op_cat (pv 10) (pe_lst (pa_cons (pe_op op_addA pe_str (pe_ix ix_str (pv 4) (pe_op op_sub pe_int (pv 9)) (fun _ _ => rfl))) (pa_cons (pe_op op_addA (pe_op op_addA (pe_op op_addA (pe_op op_mul_str (pv 6) pe_int) (pv 7)) (pe_callTy cr_strA (by rfl) T.z_str (by decide +kernel) (pa_cons (pv 9) pa_nil))) pe_str) pa_nil)))))
          (pss_cons (ps_set (i := 10) sc_Lwords.nd rfl (Or.inl rfl) (pe_op op_cat (pv 10) (pe_lst (pa_cons (pe_ix ix_list (pe_op op_cat (pv 3) (pe_op op_rep (pe_lst (pa_cons (pe_op op_addA pe_str (pe_callTy cr_strA (by rfl) T.z_str (by decide +kernel) (pa_cons (pv 9) pa_nil))) pa_nil)) pe_int)) (pv 9) (fun _ _ => rfl)) (pa_cons (pe_op op_addA pe_str (pe_op op_mul_str pe_str (pv 9))) pa_nil)))))
          (pss_one (ps_expr (pe_bm PySem.F.plainAttrs_list PySem.F.slot_list_append PySem.F.type_list_append mt_append (pv 8) (pa_cons (pe_ix ix_list (pv 10) (pv 2) (fun _ _ => rfl)) pa_nil))))))))
          (pss_one (ps_ret (pv 8))))))))))), ?_⟩
    rw [show start ["_law_pen", "_law_many", "_law_way", "_law_own", "_law_letters", "_law_signs", "_law_one", "_law_two", "_law_found", "_law_k", "_law_some"] [V.ref a, V.int m] = [some (V.ref a), some (V.int m), none, none, none, none, none, none, none, none, none] from rfl]
    try dsimp only [cxOf]
    walk_at "rd"
    rename_i way Hb w0 w1 eb po hpo Hc ec hown one Hd o0 o1 ed ro hro two He t0 t1 ee rt hrt pf hpf Hf ef hf
    have E0 : Ex H Hf := (((eb.trans ec).trans ed).trans ee).trans ef
    have hpf0 : H pf = none := fresh_back (((eb.trans ec).trans ed).trans ee) hpf
    have hL := (by decide +kernel : (Str.ofString "abcdefghijklmnopqrstuvwxyz").length = 26)
    refine l_range (fun i σ' H' => ∃ (ws : List Str) (x y : Option V), σ' = [some (V.ref a), some (V.int m), some (V.int way), some (V.ref po), some (V.str (Str.ofString "abcdefghijklmnopqrstuvwxyz")), some (V.str (Str.ofString "abcdefghijklmnopqrstuvwxyz" ++ Str.ofString "0123456789.")), some (V.str ro), some (V.str rt), some (V.ref pf), x, y] ∧ Ex H H' ∧ Mu pf Hf H' ∧ H' pf = some (.lst (ws.map V.str)) ∧ ws.length = i ∧ ∀ z ∈ ws, TxtOk 160 z)
      ⟨[], none, none, rfl, E0, fun _ _ _ h => h, hf, rfl, fun z h => nomatch h⟩ ?_ ?_
    · rintro k σ' H' hk ⟨ws, x, y, rfl, e1, mu, hw, hl, hsh⟩
      have hk2 : (k : Int) < 20 := by omega
      have hown' : H' po = some _ := mu po _ (fun z => by rw [z] at hown; exact absurd hpf (by rw [(ed.trans ee) _ _ hown]; intro q; cases q)) (((ed.trans ee).trans ef) _ _ hown)
      walk_at "rd"
      refine w_cat (by walk_at "ho") (by walk_at "ho") (by show (12 + 20 : Nat) ≤ 100000; decide) ?_
      walk_at "rd"
      refine w_ixLP (by walk_at "sl") (by omega) (Int.lt_of_lt_of_le hk2 (by show (20 : Int) ≤ ((32 : Nat) : Int); decide)) fun v hv => ?_
      obtain ⟨ov, rfl, hov⟩ : Short 160 v := by
        rcases List.mem_append.mp hv with hv | hv
        · simp only [List.mem_cons, List.not_mem_nil, or_false] at hv
          rcases hv with rfl | rfl | rfl | rfl | rfl | rfl | rfl | rfl | rfl | rfl | rfl | rfl <;> exact short_lit (by decide +kernel) (by decide)
        · obtain ⟨l, hl1, hl2⟩ := List.mem_flatten.mp hv
          rw [(List.mem_replicate.mp hl1).2, List.mem_singleton] at hl2
          subst hl2
          exact short_of (by assumption) (by decide)
      walk_at "rd"
      refine w_ixLP (by walk_at "sl") w0 (by show way < ((8 : Nat) : Int); omega) fun v hv => ?_
      obtain ⟨nw, rfl, hnw⟩ : Short 160 v := by
        simp only [List.mem_append, List.mem_cons, List.not_mem_nil, or_false] at hv
        rcases hv with ((rfl | rfl | rfl | rfl) | (rfl | rfl)) | (rfl | rfl) <;> exact short_of (by assumption) (by decide)
      walk_at "rd"
      rename_i Hl ml hm
      refine ⟨ws ++ [nw], _, _, rfl, ml.ex (e1.trans (by walk_at "ex")) hpf0, mu.trans ((Mu.of (by walk_at "ex")).trans ml), by rw [List.map_append]; exact hm, by rw [List.length_append, hl]; rfl, fun z hz => ?_⟩
      rcases List.mem_append.mp hz with hz | hz
      · exact hsh z hz
      · rw [List.mem_singleton] at hz
        rw [hz]
        exact hnw
    · rintro σ' H' ⟨ws, x, y, rfl, e1, mu, hw, hl, hsh⟩
      walk_at "rd"
      exact q _ ws _ hpf0 e1 hw (by omega) hsh
end

section
variable {P : Program} {w : World} {K : PySem.W.Frag} {mg : Str → Option Value} {base : Heap}
def WordsAt (H : Hp) (p : Addr) (xs : List Str) : Prop := H p = some (.lst (xs.map V.str)) ∧ 0 < xs.length ∧ xs.length ≤ 20
def spRow (K : PySem.W.Frag) : Sp := fun vs H Q _ => ∃ (a sc pn pb ps : Addr) (ns : List Int) (xs bs ss : List Str), vs = [.ref a, .ref pn, .ref pb, .ref ps] ∧ H a = some (PenO a sc) ∧ SqL K H sc (ns.map V.int) ∧
  WordsAt H pn xs ∧ WordsAt H pb bs ∧ WordsAt H ps ss ∧ ∀ (p : Addr) (r : Row) H', H p = none → Ex H H' → H' p = some (.tup (rowV r)) → RowIn xs bs ss r → Q (.ref p) H'
theorem ok_Lrow (T : Top K mg) : FnOk P w K mg base CX0 3 T.f_Lrow T.d_Lrow ["_law_pen", "_law_names", "_law_boxes", "_law_slots"] (spRow K) := by
  refine T.F_Lrow.ok sc_Lrow (fun vs H Q E h => ?_) (fun cdv A outer s H vs Q E hr h => ?_)
  · obtain ⟨a, sc, pn, pb, ps, ns, xs, bs, ss, rfl, _⟩ := h
    rfl
  · obtain ⟨a, sc, pn, pb, ps, ns, xs, bs, ss, rfl, hp, hsc, ⟨hn, n0, n1⟩, ⟨hb, b0, b1⟩, ⟨hs, s0, s1⟩, q⟩ := h
    refine ⟨_, (pss_cons (ps_set (i := 4) sc_Lrow.nd rfl (Or.inl rfl) (pe_call (ok_Lnext T) (hr.mono (by decide)) (by rfl) T.g_Lnext T.F_Lnext.kp T.b_Lnext .nil pass0 (pa_cons (pv 0) (pa_cons pe_int pa_nil))))
          (pss_cons (ps_set (i := 5) sc_Lrow.nd rfl (Or.inl rfl) (pe_ix ix_list (pv 1) (pe_call (ok_Lnext T) (hr.mono (by decide)) (by rfl) T.g_Lnext T.F_Lnext.kp T.b_Lnext .nil pass0 (pa_cons (pv 0) (pa_cons (pe_callB call_len_seq (by rfl) T.z_len PySem.boot_len (pa_cons (pv 1) pa_nil)) pa_nil))) (fun _ _ => rfl)))
          (pss_cons (ps_set (i := 6) sc_Lrow.nd rfl (Or.inl rfl) (pe_ix ix_list (pv 1) (pe_call (ok_Lnext T) (hr.mono (by decide)) (by rfl) T.g_Lnext T.F_Lnext.kp T.b_Lnext .nil pass0 (pa_cons (pv 0) (pa_cons (pe_callB call_len_seq (by rfl) T.z_len PySem.boot_len (pa_cons (pv 1) pa_nil)) pa_nil))) (fun _ _ => rfl)))
          (pss_cons (ps_set (i := 7) sc_Lrow.nd rfl (Or.inl rfl) (pe_ix ix_list (pv 2) (pe_call (ok_Lnext T) (hr.mono (by decide)) (by rfl) T.g_Lnext T.F_Lnext.kp T.b_Lnext .nil pass0 (pa_cons (pv 0) (pa_cons (pe_callB call_len_seq (by rfl) T.z_len PySem.boot_len (pa_cons (pv 2) pa_nil)) pa_nil))) (fun _ _ => rfl)))
          (pss_cons (ps_set (i := 8) sc_Lrow.nd rfl (Or.inl rfl) (pe_ix ix_list (pv 3) (pe_call (ok_Lnext T) (hr.mono (by decide)) (by rfl) T.g_Lnext T.F_Lnext.kp T.b_Lnext .nil pass0 (pa_cons (pv 0) (pa_cons (pe_callB call_len_seq (by rfl) T.z_len PySem.boot_len (pa_cons (pv 3) pa_nil)) pa_nil))) (fun _ _ => rfl)))
          (pss_cons (ps_if (pt_cmpR op_lt (pv 4) pe_int (nomark _))
            (pss_one (ps_ret (pe_tup (pa_cons pe_str (pa_cons (pv 5) (pa_cons (pv 7) pa_nil))))))
            pss_nil)
          (pss_cons (ps_if (pt_cmpR op_lt (pv 4) pe_int (nomark _))
            (pss_one (ps_ret (pe_tup (pa_cons pe_str (pa_cons (pv 5) (pa_cons (pv 6) pa_nil))))))
            pss_nil)
          (pss_one (ps_ret (pe_ix ix_list (pe_lst (pa_cons (pe_tup (pa_cons pe_str (pa_cons (pv 5) (pa_cons (pv 8) (pa_cons (pv 6) pa_nil))))) (pa_cons (pe_tup (pa_cons pe_str (pa_cons (pv 5) (pa_cons (pv 8) (pa_cons (pv 6) pa_nil))))) pa_nil))) (pe_op op_mod (pv 4) pe_int) (fun _ _ => rfl))))))))))), ?_⟩
    rw [show start ["_law_pen", "_law_names", "_law_boxes", "_law_slots", "_law_way", "_law_x", "_law_y", "_law_box", "_law_slot"] [V.ref a, V.ref pn, V.ref pb, V.ref ps] = [some (V.ref a), some (V.ref pn), some (V.ref pb), some (V.ref ps), none, none, none, none, none] from rfl]
    try dsimp only [cxOf]
    walk_at "rd"
    rename_i i1 H1 i0 i2 e1
    rw [List.length_map] at i2
    obtain ⟨x, hx, ax⟩ := at_strs i0 i2
    walk_at "rd"
    rename_i j1 H2 j0 j2 e2
    rw [List.length_map] at j2
    obtain ⟨y, hy, ay⟩ := at_strs j0 j2
    walk_at "rd"
    rename_i k1 H3 k0 k2 e3
    rw [List.length_map] at k2
    obtain ⟨b, hbb, ab⟩ := at_strs k0 k2
    walk_at "rd"
    rename_i l1 H4 l0 l2 e4
    rw [List.length_map] at l2
    obtain ⟨sl, hsl, asl⟩ := at_strs l0 l2
    walk_at "rd"
    refine ite2 (fun _ => ?_) (fun _ => ?_)
    · walk_at "rd"
      rename_i p hp0 H5 e5 h5
      exact q p (.new x b) _ (fresh_back (by walk_at "ex") hp0) (by walk_at "ex") h5 ⟨hx, hbb⟩
    · walk_at "rd"
      refine ite2 (fun _ => ?_) (fun _ => ?_)
      · walk_at "rd"
        rename_i p hp0 H5 e5 h5
        exact q p (.move x y) _ (fresh_back (by walk_at "ex") hp0) (by walk_at "ex") h5 ⟨hx, hy⟩
      · walk_at "rd"
        rename_i p1 hp1 H5 e5 h5 p2 hp2 H6 e6 h6 p3 hp3 H7 e7 h7
        refine w_ixLP (by walk_at "sl") (Int.emod_nonneg _ (by decide)) (by show _ < ((2 : Nat) : Int); exact Int.emod_lt_of_pos _ (by decide)) fun v hv => ?_
        simp only [List.mem_cons, List.not_mem_nil, or_false] at hv
        rcases hv with rfl | rfl
        · exact q p1 (.put x sl y) _ (fresh_back (by walk_at "ex") hp1) (by walk_at "ex") (by walk_at "ho") ⟨hx, hsl, hy⟩
        · exact q p2 (.take x sl y) _ (fresh_back (by walk_at "ex") hp2) (by walk_at "ex") (by walk_at "ho") ⟨hx, hsl, hy⟩
theorem u_words {a sc : Addr} {ns : List Int} {m : Int} {H : Hp} {Q : VK} {E : XK} (h : H a = some (PenO a sc)) (hs : SqL K H sc (ns.map V.int)) (hm : 1 ≤ m ∧ m ≤ 20)
    (q : ∀ (p : Addr) (ws : List Str) H', H p = none → Ex H H' → WordsAt H' p ws → (∀ z ∈ ws, TxtOk 160 z) → Q (.ref p) H') : spWords K [.ref a, .int m] H Q E :=
  ⟨a, sc, ns, m, rfl, h, hs, by omega, by omega, fun p ws H' h1 h2 h3 h4 h5 => q p ws H' h1 h2 ⟨h3, by omega, by omega⟩ h5⟩
theorem u_row {a sc pn pb ps : Addr} {ns : List Int} {xs bs ss : List Str} {H : Hp} {Q : VK} {E : XK} (h : H a = some (PenO a sc)) (hs : SqL K H sc (ns.map V.int)) (h1 : WordsAt H pn xs) (h2 : WordsAt H pb bs) (h3 : WordsAt H ps ss)
    (q : ∀ (p : Addr) (r : Row) H', H p = none → Ex H H' → H' p = some (.tup (rowV r)) → RowIn xs bs ss r → Q (.ref p) H') : spRow K [.ref a, .ref pn, .ref pb, .ref ps] H Q E :=
  ⟨a, sc, pn, pb, ps, ns, xs, bs, ss, rfl, h, hs, h1, h2, h3, q⟩
theorem WordsAt.ex {H H' : Hp} {p : Addr} {xs : List Str} (h : WordsAt H p xs) (e : Ex H H') : WordsAt H' p xs := ⟨e _ _ h.1, h.2⟩
end

theorem w_lstA {t : TA} {σ : L2.St} {H : Hp} {Q : VK} (h : t σ H fun xs H1 => xs.length ≤ sizeLine ∧ ∀ p, H1 p = none → p ≠ sysModules → Q (.ref p) (upd H1 p (.lst xs))) : tLstA t σ H Q := h
theorem w_dnewK {σ : L2.St} {H : Hp} {Q : VK} (h : ∀ p, H p = none → Q (.ref p) (upd H p (.dK []))) : tDNewK σ H Q := h

local macro_rules | `(tactic| walk_at "rd1") => `(tactic| first
  | with_reducible refine w_lstA ?_ | with_reducible refine w_dnewK ?_
  | ((with_reducible show ∀ p : Addr, _ = none → p ≠ _ → _); intro p hp hps; generalize hX : upd _ p _ = H2; have hX2 := gen1 hp hX; clear hX; obtain ⟨e2, h2⟩ := hX2))

local macro_rules | `(tactic| walk_at "wo") => `(tactic| first | assumption | exact WordsAt.ex (by walk_at "wo1") (by walk_at "ex"))
local macro_rules | `(tactic| walk_at "wo1") => `(tactic| assumption)
local macro_rules | `(tactic| walk_at "rd1") => `(tactic| ((with_reducible show spWords _ _ _ _ _); refine u_words (by walk_at "ho") (by walk_at "sl") (by walk_at "ln") ?_; intro p ws H2 hp e2 h2 hws))
local macro_rules | `(tactic| walk_at "rd1") => `(tactic| ((with_reducible show spRow _ _ _ _ _); refine u_row (by walk_at "ho") (by walk_at "sl") (by walk_at "wo") (by walk_at "wo") (by walk_at "wo") ?_; intro p r H2 hp e2 h2 hri))

section
theorem cutS_ok {n : Nat} {z : Str} (h : TxtOk n z) (lo hi : Option Int) : TxtOk n (cutS z lo hi) := by
  refine ⟨?_, ?_⟩
  · show ((_ : List Nat).toArray).size ≤ n
    rw [List.size_toArray, List.length_take, List.length_drop]
    have : z.cps.toList.length ≤ n := by rw [Array.length_toList]; exact h.1
    omega
  · have h2 : z.cps.all (· < 0x110000) = true := h.2
    show ((_ : List Nat).toArray).all (· < 0x110000) = true
    rw [← Array.all_toList, List.all_eq_true] at h2 ⊢
    intro c hc
    exact h2 c (List.mem_of_mem_drop (List.mem_of_mem_take hc))
theorem w_slS {n : Nat} {z : Str} {lo hi : Option Int} {H : Hp} {Q : VK} (h : TxtOk n z) (hn : n ≤ 100000) (q : ∀ r : Str, TxtOk n r → Q (.str r) H) : rSlS (.str z) lo hi H Q := ⟨z, rfl, sz_of (Nat.le_trans h.1 hn), q _ (cutS_ok h lo hi)⟩
theorem w_lenSL {z : Str} {R : Prop} (h : z.length ≤ 100000) (q : R) : z.length ≤ sizeLine ∧ R := ⟨sz_of h, q⟩
/-- good data: small, shown in a line -/
structure Gd (n m : Nat) (d : PyData) : Prop where
  wt : d.weight ≤ n
  dp : d.depth ≤ m
  ls : d.leavesShort 60 = true
  sh : d.showable = true
theorem Gd.more {n m n' m' : Nat} {d : PyData} (g : Gd n m d) (h : n ≤ n') (h2 : m ≤ m') : Gd n' m' d := ⟨Nat.le_trans g.wt h, Nat.le_trans g.dp h2, g.ls, g.sh⟩
theorem gd_str {n : Nat} {z : Str} (h : TxtOk n z) : Gd n 0 (.str z) := by
  refine ⟨h.1, Nat.le_refl _, ?_, rfl⟩
  have h0 : z.cps.all (· < 0x110000) = true := h.2
  rw [← Array.all_toList, List.all_eq_true] at h0
  simp only [PyData.leavesShort, List.all_eq_true, decide_eq_true_eq]
  intro c hcm
  have h2 : c < 0x110000 := by simpa using h0 c hcm
  have e : (16 : Nat) ^ 8 = 4294967296 := by decide
  omega
theorem at_lastS {ws : List Str} (h : 1 ≤ ws.length) : ∃ z, z ∈ ws ∧ atI (ws.map V.str) (-1) = some (V.str z) := by
  obtain ⟨l, z, rfl⟩ : ∃ l z, ws = l ++ [z] := ⟨ws.dropLast, ws.getLast (by intro e; rw [e] at h; exact absurd h (by decide)), by rw [List.dropLast_concat_getLast]⟩
  refine ⟨z, List.mem_append_right _ (List.mem_singleton.mpr rfl), ?_⟩
  rw [List.map_append]
  exact atI_last _ _
local macro_rules | `(tactic| walk_at "rd1") => `(tactic| first
  | ((with_reducible show rSlS _ _ _ _ _); refine w_slS (by assumption) (by omega) ?_; intro r hr)
  | ((with_reducible show Str.length _ ≤ _ ∧ _); refine w_lenSL (by omega) ?_))
/-- what may stand in a row's place: no longer row itself -/
def oneB : PyData → Bool
  | .tuple ds => decide (ds.length ≤ 1)
  | .list ds => decide (ds.length ≤ 1)
  | _ => true
def Wd (d : PyData) : Prop := Gd 2000 1 d ∧ oneB d = true
variable {P : Program} {w : World} {K : PySem.W.Frag} {mg : Str → Option Value} {base : Heap}
/-- told over the heap without some addresses that were known before: what is new lies elsewhere -/
def spBad (P : Program) (w : World) (K : PySem.W.Frag) : Sp := fun vs H Q _ => ∃ (a sc : Addr) (ns : List Int) (A : List Addr), vs = [.ref a] ∧ H a = some (PenO a sc) ∧ SqL K H sc (ns.map V.int) ∧ (∀ b ∈ A, H b ≠ none) ∧
  ∀ (v : V) (d : PyData) H', Ex H H' → Aq P w K (Wo A H') v d → Wd d → Q v H'
theorem wo_getA {H : Hp} {A : List Addr} {t : Addr} {o : HO} (h : H t = some o) (ne : t ∉ A) : Wo A H t = some o := by
  unfold Wo
  rw [if_neg ne]
  exact h
theorem ok_Lbad_word (T : Top K mg) : FnOk P w K mg base CX0 4 T.f_Lbad_word T.d_Lbad_word ["_law_pen"] (spBad P w K) := by
  refine T.F_Lbad_word.ok sc_Lbad_word (fun vs H Q E h => ?_) (fun cdv A outer s H vs Q E hr h => ?_)
  · obtain ⟨a, sc, ns, A, rfl, _⟩ := h
    rfl
  · obtain ⟨a, sc, ns, A', rfl, hp, hsc, hA, q⟩ := h
    refine ⟨_, (pss_cons (ps_set (i := 1) sc_Lbad_word.nd rfl (Or.inl rfl) (pe_call (ok_Lnext T) (hr.mono (by decide)) (by rfl) T.g_Lnext T.F_Lnext.kp T.b_Lnext .nil pass0 (pa_cons (pv 0) (pa_cons pe_int pa_nil))))
          (pss_cons (ps_set (i := 2) sc_Lbad_word.nd rfl (Or.inl rfl) pe_str)
          (pss_cons (ps_set (i := 3) sc_Lbad_word.nd rfl (Or.inl rfl) (pe_ix ix_str (pv 2) (pe_call (ok_Lnext T) (hr.mono (by decide)) (by rfl) T.g_Lnext T.F_Lnext.kp T.b_Lnext .nil pass0 (pa_cons (pv 0) (pa_cons (pe_callB call_len_str (by rfl) T.z_len PySem.boot_len (pa_cons (pv 2) pa_nil)) pa_nil))) (fun _ _ => rfl)))
          (pss_cons (ps_set (i := 4) sc_Lbad_word.nd rfl (Or.inl rfl) (pe_lst (pa_cons pe_str (pa_cons pe_str (pa_cons pe_str (pa_cons (pe_op op_mul_str pe_str pe_int) (pa_cons (pe_op op_mul_str pe_str pe_int) (pa_cons pe_str (pa_cons pe_str (pa_cons pe_non (pa_cons pe_bl (pa_cons pe_int (pa_cons (pe_lstA (pa_cons pe_str pa_nil)) (pa_cons (pe_tup (pa_cons pe_str pa_nil)) (pa_cons pe_dnewK (pa_cons (pe_op op_mul_str pe_str pe_int) pa_nil))))))))))))))))
          (pss_cons (ps_expr (pe_bm PySem.F.plainAttrs_list PySem.F.slot_list_append PySem.F.type_list_append mt_append (pv 4) (pa_cons (pe_op op_mul_str pe_str pe_int) pa_nil)))
          (pss_cons (ps_if (pt_cmpR op_gt (pv 1) pe_int (nomark _))
            (pss_one (ps_ret (pe_op op_addA (pe_ix ix_str pe_str (pe_call (ok_Lnext T) (hr.mono (by decide)) (by rfl) T.g_Lnext T.F_Lnext.kp T.b_Lnext .nil pass0 (pa_cons (pv 0) (pa_cons pe_int pa_nil))) (fun _ _ => rfl)) (pe_slice sl_str (pe_ix ix_list (pe_call (ok_Lwords T) (hr.mono (by decide)) (by rfl) T.g_Lwords T.F_Lwords.kp T.b_Lwords .nil pass0 (pa_cons (pv 0) (pa_cons (pe_op op_add pe_int (pe_call (ok_Lnext T) (hr.mono (by decide)) (by rfl) T.g_Lnext T.F_Lnext.kp T.b_Lnext .nil pass0 (pa_cons (pv 0) (pa_cons pe_int pa_nil)))) pa_nil))) (pe_un un_neg pe_int) (fun _ _ => rfl)) po_none (po_some pe_int)))))
            pss_nil)
          (pss_cons (ps_if (pt_cmpR op_gt (pv 1) pe_int (nomark _))
            (pss_cons (ps_set (i := 5) sc_Lbad_word.nd rfl (Or.inl rfl) (pe_ix ix_list (pe_call (ok_Lwords T) (hr.mono (by decide)) (by rfl) T.g_Lwords T.F_Lwords.kp T.b_Lwords .nil pass0 (pa_cons (pv 0) (pa_cons (pe_op op_add pe_int (pe_call (ok_Lnext T) (hr.mono (by decide)) (by rfl) T.g_Lnext T.F_Lnext.kp T.b_Lnext .nil pass0 (pa_cons (pv 0) (pa_cons pe_int pa_nil)))) pa_nil))) (pe_un un_neg pe_int) (fun _ _ => rfl)))
          (pss_cons (ps_for PassesOwn.never rfl (pi_range1 rfl T.z_range (pa_cons (pe_op op_add pe_int (pe_call (ok_Lnext T) (hr.mono (by decide)) (by rfl) T.g_Lnext T.F_Lnext.kp T.b_Lnext .nil pass0 (pa_cons (pv 0) (pa_cons pe_int pa_nil)))) pa_nil)) (pg_name (i := 6) sc_Lbad_word.nd rfl (Or.inl rfl))
            (pss_cons (ps_set (i := 7) sc_Lbad_word.nd rfl (Or.inl rfl) (pe_call (ok_Lnext T) (hr.mono (by decide)) (by rfl) T.g_Lnext T.F_Lnext.kp T.b_Lnext .nil pass0 (pa_cons (pv 0) (pa_cons (pe_op op_add (pe_callB call_len_str (by rfl) T.z_len PySem.boot_len (pa_cons (pv 5) pa_nil)) pe_int) pa_nil))))
          (pss_cons (ps_set (i := 5) sc_Lbad_word.nd rfl (Or.inl rfl) (pe_op op_addA (pe_op op_addA (pe_slice sl_str (pv 5) po_none (po_some (pv 7))) (pv 3)) (pe_slice sl_str (pv 5) (po_some (pe_op op_add (pv 7) (pe_op op_mod (pv 1) pe_int))) po_none)))
          (pss_one (ps_set (i := 3) sc_Lbad_word.nd rfl (Or.inl rfl) (pe_ix ix_str (pv 2) (pe_call (ok_Lnext T) (hr.mono (by decide)) (by rfl) T.g_Lnext T.F_Lnext.kp T.b_Lnext .nil pass0 (pa_cons (pv 0) (pa_cons (pe_callB call_len_str (by rfl) T.z_len PySem.boot_len (pa_cons (pv 2) pa_nil)) pa_nil))) (fun _ _ => rfl)))))))
          (pss_one (ps_ret (pv 5)))))
            pss_nil)
          (pss_one (ps_ret (pe_ix ix_list (pv 4) (pv 1) (fun _ _ => rfl))))))))))), ?_⟩
    rw [show start ["_law_pen", "_law_way", "_law_signs", "_law_sign", "_law_some", "_law_word", "_law_turn", "_law_at"] [V.ref a] = [some (V.ref a), none, none, none, none, none, none, none] from rfl]
    try dsimp only [cxOf]
    walk_at "rd"
    rename_i way Ha w0 w1 ea sg Hb sg0 sg1 eb s0 hs0 t1 ht1 t2 ht2 pl hpl hplm Hc ec hlst pt hpt Hd ed htup pd hpd He ee hdic t3 ht3 po hpo Hf ef hsome t4 ht4 Hg mu hsome2
    have hz1 : TxtOk 100 (Str.ofString " !\"#$&'()*+,-/:;<=>?@ABCDEFGHIJKLMNOPQRSTUVWXYZ[\\]^_`{|}~\n\t.") ∧ 1 ≤ (Str.ofString " !\"#$&'()*+,-/:;<=>?@ABCDEFGHIJKLMNOPQRSTUVWXYZ[\\]^_`{|}~\n\t.").length := by decide +kernel
    generalize Str.ofString " !\"#$&'()*+,-/:;<=>?@ABCDEFGHIJKLMNOPQRSTUVWXYZ[\\]^_`{|}~\n\t." = zs at *
    obtain ⟨hz1, hz2⟩ := hz1
    have np : pl ∉ A' := fun z => hA pl z (fresh_back (ea.trans eb) hpl)
    have nt : pt ∉ A' := fun z => hA pt z (fresh_back ((ea.trans eb).trans ec) hpt)
    have nd : pd ∉ A' := fun z => hA pd z (fresh_back (((ea.trans eb).trans ec).trans ed) hpd)
    have hlst' : Hg pl = some _ := (mu.ex ((ed.trans ee).trans ef) (fresh_back (ed.trans ee) hpo)) _ _ hlst
    have htup' : Hg pt = some _ := (mu.ex (ee.trans ef) (fresh_back ee hpo)) _ _ htup
    have hdic' : Hg pd = some _ := (mu.ex ef hpo) _ _ hdic
    have Eg : Ex H Hg := mu.ex (((((ea.trans eb).trans ec).trans ed).trans ee).trans ef) (fresh_back ((((ea.trans eb).trans ec).trans ed).trans ee) hpo)
    clear ea eb ec ed ee ef mu hsome hlst htup hdic hpo hpd hpt hpl
    have hz3 := hz1.1
    refine ite2 (fun h => ?_) (fun h => ?_)
    · walk_at "rd"
      rename_i p ws Hn hpn e2 hw0 hws
      obtain ⟨z, hz, hat⟩ := at_lastS (ws := ws) (by have := hw0.2; omega)
      have hzo := hws z hz
      refine w_ixL (sq_of hw0.1) hat ?_
      walk_at "rd"
      rename_i r hr
      exact q _ _ _ (by walk_at "ex") (.str r) ⟨(gd_str hr).more (by decide) (by decide), rfl⟩
    · walk_at "rd"
      refine ite2 (fun h2 => ?_) (fun h2 => ?_)
      · walk_at "rd"
        rename_i p ws Hn hpn e2 hw0 hws
        obtain ⟨z, hz, hat⟩ := at_lastS (ws := ws) (by have := hw0.2; omega)
        have hzo := hws z hz
        refine w_ixL (sq_of hw0.1) hat ?_
        walk_at "rd"
        rename_i rn Hm rn0 rn1 em
        have Em : Ex H Hm := ((by assumption : Ex H Hg).trans (by assumption)).trans (e2.trans em)
        refine l_range (fun i σ' H' => ∃ (sg z' : Str) (n : Nat) (x y : Option V), σ' = [some (V.ref a), some (V.int way), some (V.str zs), some (V.str sg), some (V.ref po), some (V.str z'), x, y] ∧ Ex H H' ∧ TxtOk 1 sg ∧ TxtOk n z' ∧ (i = 0 ∧ n ≤ 200 ∨ i = 1 ∧ n ≤ 401 ∨ i = 2 ∧ n ≤ 803 ∨ i = 3 ∧ n ≤ 1607)) ⟨s0, z, 160, none, none, rfl, Em, hs0, hzo, by omega⟩ ?_ ?_
        · rintro i σ' H' hi ⟨sg', z', n, x, y, rfl, e5, hsg', hz', hn⟩
          have hz4 := hz'.1
          walk_at "rd"
          rename_i r6 Hx _ _ e6 r5 h5 r4 h4 r3 h3 r2 h2' r1 Hy _ _ e7 r0 hr0
          exact ⟨_, _, n + 1 + n, _, _, rfl, (e5.trans e6).trans e7, hr0, h2', by omega⟩
        · rintro σ' H' ⟨sg', z', n, x, y, rfl, e5, hsg', hz', hn⟩
          walk_at "rd"
          exact q _ _ _ e5 (.str z') ⟨(gd_str hz').more (by omega) (by decide), rfl⟩
      · walk_at "rd"
        have hl3 : (14 : Nat) < 15 := by decide
        have hw15 : way < 15 := by
          have := of_decide_eq_false (Bool.eq_false_iff.mpr h2)
          omega
        refine w_ixLP (sq_of hsome2) w0 (by show way < ((15 : Nat) : Int); omega) fun v hv => ?_
        have hg : ∃ d, Aq P w K (Wo A' Hg) v d ∧ Wd d := by
          simp only [List.mem_append, List.mem_cons, List.not_mem_nil, or_false] at hv
          rcases hv with (rfl | rfl | rfl | rfl | rfl | rfl | rfl | rfl | rfl | rfl | rfl | rfl | rfl | rfl) | rfl
          · exact ⟨_, .str _, (gd_str (n := 60) (by decide +kernel)).more (by decide) (by decide), rfl⟩
          · exact ⟨_, .str _, (gd_str (n := 60) (by decide +kernel)).more (by decide) (by decide), rfl⟩
          · exact ⟨_, .str _, (gd_str (n := 60) (by decide +kernel)).more (by decide) (by decide), rfl⟩
          · exact ⟨_, .str _, (gd_str ht1).more (by decide) (by decide), rfl⟩
          · exact ⟨_, .str _, (gd_str ht2).more (by decide) (by decide), rfl⟩
          · exact ⟨_, .str _, (gd_str (n := 60) (by decide +kernel)).more (by decide) (by decide), rfl⟩
          · exact ⟨_, .str _, (gd_str (n := 60) (by decide +kernel)).more (by decide) (by decide), rfl⟩
          · exact ⟨_, .non, ⟨by decide, by decide, rfl, rfl⟩, rfl⟩
          · exact ⟨_, .bl _, ⟨by decide, by decide, rfl, rfl⟩, rfl⟩
          · exact ⟨_, .int _, ⟨by decide, by decide, by decide +kernel, by decide +kernel⟩, by decide +kernel⟩
          · exact ⟨_, .lst (sq_of (wo_getA hlst' np)) hplm (.cons (.str _) .nil), ⟨by decide +kernel, by decide +kernel, by decide +kernel, by decide +kernel⟩, by decide +kernel⟩
          · exact ⟨_, .tup (st_of (wo_getA htup' nt)) (.cons (.str _) .nil), ⟨by decide +kernel, by decide +kernel, by decide +kernel, by decide +kernel⟩, by decide +kernel⟩
          · exact ⟨.dict [], .dic (ps := []) (.inl ⟨[], wo_getA hdic' nd, rfl⟩) .nil .nil, ⟨by decide +kernel, by decide +kernel, by decide +kernel, by decide +kernel⟩, by decide +kernel⟩
          · exact ⟨_, .str _, (gd_str ht3).more (by decide) (by decide), rfl⟩
          · exact ⟨_, .str _, (gd_str ht4).more (by decide) (by decide), rfl⟩
        obtain ⟨d, hd, gd⟩ := hg
        exact q _ d _ (by assumption) hd gd
end

section
variable {P : Program} {w : World} {K : PySem.W.Frag} {mg : Str → Option Value} {base : Heap}
/-- a program at p -/
def ProgAt (H : Hp) (p : Addr) (rows : List Row) : Prop := ∃ vs : List V, H p = some (.tup vs) ∧ vs.length = rows.length ∧ ∀ (i : Nat) r, rows[i]? = some r → ∃ v, vs[i]? = some v ∧ RowAt r v H
theorem ProgAt.ex {H H' : Hp} {p : Addr} {rows : List Row} (h : ProgAt H p rows) (e : Ex H H') : ProgAt H' p rows := by
  obtain ⟨vs, h1, h2, h3⟩ := h
  exact ⟨vs, e _ _ h1, h2, fun i r hr => let ⟨v, a, b⟩ := h3 i r hr; ⟨v, a, (rowAt_keeps r).1 _ _ _ e b⟩⟩
def AllIn (xs bs ss : List Str) (rows : List Row) : Prop := ∀ r ∈ rows, RowIn xs bs ss r
/-- items told one by one are a list's -/
theorem rows_of {H : Hp} {xs bs ss : List Str} : ∀ (vs : List V), (∀ (i : Nat) y, vs[i]? = some y → RowOf xs bs ss y H) → ∃ rows : List Row, vs.length = rows.length ∧ (∀ (i : Nat) r, rows[i]? = some r → ∃ v, vs[i]? = some v ∧ RowAt r v H) ∧ AllIn xs bs ss rows
  | [], _ => ⟨[], rfl, fun i r h => by simp at h, fun r h => nomatch h⟩
  | v :: vs, h => by
    obtain ⟨rows, h1, h2, h3⟩ := rows_of vs fun i y (e : vs[i]? = some y) => h (i + 1) y e
    obtain ⟨r, r1, r2⟩ := h 0 v rfl
    refine ⟨r :: rows, by rw [List.length_cons, List.length_cons, h1], fun i r' e => ?_, fun r' e => ?_⟩
    · cases i with
      | zero =>
        have : r = r' := Option.some.inj e
        subst this
        exact ⟨v, rfl, r2⟩
      | succ i => exact h2 i r' e
    · rcases List.mem_cons.mp e with rfl | e
      · exact r1
      · exact h3 _ e
def spProgram (K : PySem.W.Frag) : Sp := fun vs H Q _ => ∃ (a sc : Addr) (ns : List Int) (m : Int), vs = [.ref a, .int m] ∧ H a = some (PenO a sc) ∧ SqL K H sc (ns.map V.int) ∧ 0 ≤ m ∧ m ≤ 60 ∧
  ∀ (p : Addr) (rows : List Row) (xs bs ss : List Str) H', H p = none → Ex H H' → ProgAt H' p rows → (rows.length : Int) ≤ m → AllIn xs bs ss rows → xs.length ≤ 20 → bs.length ≤ 20 → ss.length ≤ 20 →
    (∀ z ∈ xs, TxtOk 160 z) → (∀ z ∈ bs, TxtOk 160 z) → (∀ z ∈ ss, TxtOk 160 z) → Q (.ref p) H'
theorem ok_Lprogram (T : Top K mg) : FnOk P w K mg base CX0 4 T.f_Lprogram T.d_Lprogram ["_law_pen", "_law_most"] (spProgram K) := by
  refine T.F_Lprogram.ok sc_Lprogram (fun vs H Q E h => ?_) (fun cdv A outer s H vs Q E hr h => ?_)
  · obtain ⟨a, sc, ns, m, rfl, _⟩ := h
    rfl
  · obtain ⟨a, sc, ns, m, rfl, hp, hsc, m0, m1, q⟩ := h
    refine ⟨_, (pss_cons (ps_set (i := 2) sc_Lprogram.nd rfl (Or.inl rfl) (pe_call (ok_Lnext T) (hr.mono (by decide)) (by rfl) T.g_Lnext T.F_Lnext.kp T.b_Lnext .nil pass0 (pa_cons (pv 0) (pa_cons (pe_op op_add (pv 1) pe_int) pa_nil))))
          (pss_cons (ps_set (i := 3) sc_Lprogram.nd rfl (Or.inl rfl) (pe_ix ix_list (pe_lst (pa_cons (pe_lst (pa_cons pe_int (pa_cons pe_int (pa_cons pe_int pa_nil)))) (pa_cons (pe_lst (pa_cons pe_int (pa_cons pe_int (pa_cons pe_int pa_nil)))) (pa_cons (pe_lst (pa_cons pe_int (pa_cons pe_int (pa_cons pe_int pa_nil)))) (pa_cons (pe_lst (pa_cons pe_int (pa_cons pe_int (pa_cons pe_int pa_nil)))) (pa_cons (pe_lst (pa_cons pe_int (pa_cons pe_int (pa_cons pe_int pa_nil)))) (pa_cons (pe_lst (pa_cons pe_int (pa_cons pe_int (pa_cons pe_int pa_nil)))) pa_nil))))))) (pe_call (ok_Lnext T) (hr.mono (by decide)) (by rfl) T.g_Lnext T.F_Lnext.kp T.b_Lnext .nil pass0 (pa_cons (pv 0) (pa_cons pe_int pa_nil))) (fun _ _ => rfl)))
          (pss_cons (ps_set (i := 4) sc_Lprogram.nd rfl (Or.inr rfl) (pe_call (ok_Lwords T) (hr.mono (by decide)) (by rfl) T.g_Lwords T.F_Lwords.kp T.b_Lwords .nil pass0 (pa_cons (pv 0) (pa_cons (pe_op op_add pe_int (pe_call (ok_Lnext T) (hr.mono (by decide)) (by rfl) T.g_Lnext T.F_Lnext.kp T.b_Lnext .nil pass0 (pa_cons (pv 0) (pa_cons (pe_ix ix_list (pv 3) pe_int (fun _ _ => rfl)) pa_nil)))) pa_nil))))
          (pss_cons (ps_set (i := 5) sc_Lprogram.nd rfl (Or.inr rfl) (pe_call (ok_Lwords T) (hr.mono (by decide)) (by rfl) T.g_Lwords T.F_Lwords.kp T.b_Lwords .nil pass0 (pa_cons (pv 0) (pa_cons (pe_op op_add pe_int (pe_call (ok_Lnext T) (hr.mono (by decide)) (by rfl) T.g_Lnext T.F_Lnext.kp T.b_Lnext .nil pass0 (pa_cons (pv 0) (pa_cons (pe_ix ix_list (pv 3) pe_int (fun _ _ => rfl)) pa_nil)))) pa_nil))))
          (pss_cons (ps_set (i := 6) sc_Lprogram.nd rfl (Or.inr rfl) (pe_call (ok_Lwords T) (hr.mono (by decide)) (by rfl) T.g_Lwords T.F_Lwords.kp T.b_Lwords .nil pass0 (pa_cons (pv 0) (pa_cons (pe_op op_add pe_int (pe_call (ok_Lnext T) (hr.mono (by decide)) (by rfl) T.g_Lnext T.F_Lnext.kp T.b_Lnext .nil pass0 (pa_cons (pv 0) (pa_cons (pe_ix ix_list (pv 3) pe_int (fun _ _ => rfl)) pa_nil)))) pa_nil))))
          (pss_one (ps_ret (pe_callTy call_tuple_of (by rfl) T.z_tuple (by decide +kernel) (pa_cons (pe_lc (own := [("_law_k", 7)]) (g := gName 7) (tt := tYes) (by rfl) sc_Lprogram.nd (pi_range1 rfl T.z_range (pa_cons (pv 2) pa_nil)) (blkOk_by (own := [("_law_k", 7)]) (N := ["_law_pen", "_law_most", "_law_many", "_law_sizes", "_law_names", "_law_boxes", "_law_slots", "_law_k"]) (sc := defScope s_Lprogram) (by decide +kernel)) (fun _ _ _ _ _ => pg_name (i := 7) sc_Lprogram.nd rfl (Or.inl rfl)) (fun _ _ _ _ _ => pts_nil) (fun _ _ _ _ _ => (pe_call (ok_Lrow T) (hr.mono (by decide)) (by rfl) T.g_Lrow T.F_Lrow.kp T.b_Lrow .nil pass0 (pa_cons (pv 0) (pa_cons (pv 4) (pa_cons (pv 5) (pa_cons (pv 6) pa_nil))))))) pa_nil))))))))), ?_⟩
    rw [show start ["_law_pen", "_law_most", "_law_many", "_law_sizes", "_law_names", "_law_boxes", "_law_slots", "_law_k"] [V.ref a, V.int m] = [some (V.ref a), some (V.int m), none, none, none, none, none, none] from rfl]
    try dsimp only [cxOf]
    walk_at "rd"
    rename_i many Hm many0 many1 em q1 hq1 H1 e1 h1 q2 hq2 H2 e2 h2 q3 hq3 H3 e3 h3 q4 hq4 H4 e4 h4 q5 hq5 H5 e5 h5 q6 hq6 H6 e6 h6 q7 hq7 H7 e7 h7 way H8 way0 way1 e8
    refine w_ixLP (by walk_at "sl") way0 (by show way < ((6 : Nat) : Int); omega) fun v hv => ?_
    obtain ⟨pz, c0, c1, c2, rfl, hz, hc⟩ : ∃ (pz : Addr) (c0 c1 c2 : Int), v = .ref pz ∧ H8 pz = some (.lst [.int c0, .int c1, .int c2]) ∧ 1 ≤ c0 ∧ c0 ≤ 20 ∧ 1 ≤ c1 ∧ c1 ≤ 20 ∧ 1 ≤ c2 ∧ c2 ≤ 20 := by
      simp only [List.mem_cons, List.not_mem_nil, or_false] at hv
      rcases hv with rfl | rfl | rfl | rfl | rfl | rfl
      · exact ⟨_, _, _, _, rfl, by walk_at "ho", by decide⟩
      · exact ⟨_, _, _, _, rfl, by walk_at "ho", by decide⟩
      · exact ⟨_, _, _, _, rfl, by walk_at "ho", by decide⟩
      · exact ⟨_, _, _, _, rfl, by walk_at "ho", by decide⟩
      · exact ⟨_, _, _, _, rfl, by walk_at "ho", by decide⟩
      · exact ⟨_, _, _, _, rfl, by walk_at "ho", by decide⟩
    clear hq1 h1 hq2 h2 hq3 h3 hq4 h4 hq5 h5 hq6 h6 h7 hq7 hv
    walk_at "rd"
    rename_i r1 H9 r10 r11 e9 px xs H10 hpx e10 hxs kxs r2 H11 r20 r21 e11 pb bs H12 hpb e12 hbs kbs r3 H13 r30 r31 e13 ps ss H14 hps e14 hss kss
    refine c_range (fun _ => RowOf xs bs ss) (fun _ => rowOf_keeps xs bs ss) (by omega) (fun _ => rfl) (fun i H' Q' hi e Hq => ?_) (fun p ys H2 hp e2 h2 hl hy => ?_)
    · walk_at "rd"
      rename_i pr r Hr hpr er hr' hri
      exact Hq _ _ (by walk_at "ex") ⟨r, hri, pr, rfl, hr'⟩
    · obtain ⟨rows, l1, l2, l3⟩ := rows_of ys hy
      walk_at "rd"
      rename_i pt hpt Ht et ht
      exact q pt rows xs bs ss Ht (fresh_back (by walk_at "ex") hpt) (by walk_at "ex") (ProgAt.ex ⟨ys, by walk_at "ho", l1, fun i r hr => let ⟨v, a, b⟩ := l2 i r hr; ⟨v, a, (rowAt_keeps r).1 _ _ _ et b⟩⟩ (Ex.refl _)) (by omega) l3 hxs.2.2 hbs.2.2 hss.2.2 kxs kbs kss
end

section
def cutD (ds : List PyData) (lo hi : Option Int) : List PyData := (ds.drop (HT.sIx ds.length 0 lo)).take (HT.sIx ds.length ds.length hi - HT.sIx ds.length 0 lo)
theorem cutD_mem {ds : List PyData} {lo hi : Option Int} {e : PyData} (h : e ∈ cutD ds lo hi) : e ∈ ds := List.mem_of_mem_drop (List.mem_of_mem_take h)
variable {P : Program} {w : World} {K : PySem.W.Frag} {mg : Str → Option Value} {base : Heap}
theorem AqAll.cut {H : Hp} {xs : List V} {ds : List PyData} (h : AqAll P w K H xs ds) (lo hi : Option Int) : AqAll P w K H (cutV xs lo hi) (cutD ds lo hi) := by
  unfold cutV cutD
  rw [h.len]
  exact (h.drop _).take _
theorem nw_to {n : Nat} {k : Nat} (h : k < n) : ¬ (HT.sIx n 0 none = 0 ∧ HT.sIx n n (some (k : Int)) = n) := fun z => by
  have := z.2
  rw [HT.sIx_nat] at this
  omega
theorem nw_from {n : Nat} {k : Nat} (h : 0 < k) (h0 : 0 < n) : ¬ (HT.sIx n 0 (some (k : Int)) = 0 ∧ HT.sIx n n none = n) := fun z => by
  have := z.1
  rw [HT.sIx_nat] at this
  omega
theorem nw_toM {n : Nat} (h : 2 ≤ n) : ¬ (HT.sIx n 0 none = 0 ∧ HT.sIx n n (some (-1)) = n) := fun z => by
  have h2 : (if (-1 : Int) < 0 then ((-1 : Int) + (n : Int)).toNat else min (-1 : Int).toNat n) = n := z.2
  rw [if_pos (by decide)] at h2
  omega
theorem nw_fromM {n : Nat} (h : 2 ≤ n) : ¬ (HT.sIx n 0 (some (-1)) = 0 ∧ HT.sIx n n none = n) := fun z => by
  have h2 : (if (-1 : Int) < 0 then ((-1 : Int) + (n : Int)).toNat else min (-1 : Int).toNat n) = 0 := z.1
  rw [if_pos (by decide)] at h2
  omega
theorem cut_to {xs : List V} {k : Nat} (h : k ≤ xs.length) : (cutV xs none (some (k : Int))).length = k := by
  unfold cutV
  rw [List.length_take, List.length_drop, HT.sIx_none, HT.sIx_nat]
  omega
theorem cut_from {xs : List V} {k : Nat} (h : k ≤ xs.length) : (cutV xs (some (k : Int)) none).length = xs.length - k := by
  unfold cutV
  rw [List.length_take, List.length_drop, HT.sIx_none, HT.sIx_nat]
  omega
theorem cut_fromM {xs : List V} (h : 2 ≤ xs.length) : (cutV xs (some (-1)) none).length = 1 := by
  have e : HT.sIx xs.length 0 (some (-1)) = xs.length - 1 := by
    show (if (-1 : Int) < 0 then ((-1 : Int) + (xs.length : Int)).toNat else min (-1 : Int).toNat xs.length) = _
    rw [if_pos (by decide)]
    omega
  unfold cutV
  rw [List.length_take, List.length_drop, HT.sIx_none, e]
  omega
theorem w_slT {a : Addr} {xs : List V} {lo hi : Option Int} {H : Hp} {Q : VK} (h : SqT K H a xs) (nw : ¬ (HT.sIx xs.length 0 lo = 0 ∧ HT.sIx xs.length xs.length hi = xs.length))
    (q : ∀ p H', Ex H H' → SqT K H' p (cutV xs lo hi) → Q (.ref p) H') : rSlT K (.ref a) lo hi H Q := ⟨a, xs, rfl, h, nw, fun p hp => q p _ (Ex.new hp) (st_of upd_same)⟩
theorem w_catT {a b : Addr} {xs ys : List V} {H : Hp} {Q : VK} (h : SqT K H a xs) (h2 : SqT K H b ys) (ne : xs ≠ []) (z : xs.length + ys.length ≤ 100000)
    (q : ∀ p H', Ex H H' → SqT K H' p (xs ++ ys) → Q (.ref p) H') : rCatT K (.ref a) (.ref b) H Q :=
  ⟨a, b, xs, ys, rfl, rfl, h, h2, ne, sz_of z, fun e => q a H (Ex.refl H) (by rw [e, List.append_nil]; exact h), fun _ p hp => q p _ (Ex.new hp) (st_of upd_same)⟩
def rTupA (K : PySem.W.Frag) : List V → Hp → VK → Prop := fun xs H Q => ∃ p ys, xs = [.ref p] ∧ ((SqL K H p ys ∧ ∀ l, H l = none → Q (.ref l) (upd H l (.tup ys))) ∨ (SqT K H p ys ∧ Q (.ref p) H))
theorem call_tupleA {X : Cx} : CallR X (.type "tuple") (rTupA X.K) := call_tuple_of
theorem w_tupOf {a : Addr} {xs : List V} {H : Hp} {Q : VK} (h : SqL K H a xs ∨ SqT K H a xs) (q : ∀ p H', Ex H H' → SqT K H' p xs → Q (.ref p) H') : rTupA K [.ref a] H Q := by
  rcases h with h | h
  · exact ⟨a, xs, rfl, .inl ⟨h, fun l hl => q l _ (Ex.new hl) (st_of upd_same)⟩⟩
  · exact ⟨a, xs, rfl, .inr ⟨h, q a H (Ex.refl H) h⟩⟩
theorem w_listA {a : Addr} {xs : List V} {H : Hp} {Q : VK} (h : SqT K H a xs) (q : ∀ p H', Ex H H' → p ≠ sysModules → SqL K H' p xs → Q (.ref p) H') : rListA K [.ref a] H Q :=
  ⟨a, xs, rfl, .inr h, fun l hl hm => q l _ (Ex.new hl) hm (sq_of upd_same)⟩
def RowD (k : Nat) (d : PyData) : Prop := ∃ ds, (d = .tuple ds ∨ d = .list ds) ∧ ds.length ≤ k ∧ ∀ e ∈ ds, Wd e
def Bent (k : Nat) (d : PyData) : Prop := RowD k d ∨ Wd d
def spBent (P : Program) (w : World) (K : PySem.W.Frag) : Sp := fun vs H Q _ => ∃ (a sc : Addr) (ns : List Int) (x : V) (d : PyData) (ds : List PyData) (k : Nat), vs = [.ref a, x] ∧ H a = some (PenO a sc) ∧ SqL K H sc (ns.map V.int) ∧
  Aq P w K H x d ∧ (d = .tuple ds ∨ d = .list ds) ∧ 2 ≤ ds.length ∧ ds.length ≤ k ∧ k ≤ 10 ∧ (∀ e ∈ ds, Wd e) ∧
  ∀ (v : V) (d : PyData) H', Ex H H' → Aq P w K H' v d → Bent (k + 1) d → Q v H'
theorem u_bad {a sc : Addr} {ns : List Int} {H : Hp} {Q : VK} {E : XK} (h : H a = some (PenO a sc)) (hs : SqL K H sc (ns.map V.int)) (q : ∀ (v : V) (d : PyData) H', Ex H H' → Aq P w K H' v d → Wd d → Q v H') : spBad P w K [.ref a] H Q E := ⟨a, sc, ns, [], rfl, h, hs, (fun b hb => nomatch hb), fun v d H' e ha hd => q v d H' e (ha.ex wo_ex) hd⟩
local macro_rules | `(tactic| walk_at "rd1") => `(tactic| first
  | ((with_reducible show spBad _ _ _ _ _ _ _); refine u_bad (by walk_at "ho") (by walk_at "sl") ?_; intro v d H2 e2 hv hd)
  | ((with_reducible show rSlT _ _ _ _ _ _); refine w_slT (by walk_at "st") (by assumption) ?_; intro p H2 e2 h2)
  | ((with_reducible show rCatT _ _ _ _ _); refine w_catT (by walk_at "st") (by walk_at "st") (by first | assumption | exact List.cons_ne_nil _ _ | (intro e; exact absurd (List.append_eq_nil_iff.mp e).2 (List.cons_ne_nil _ _))) (by first | omega | (simp only [List.length_append, List.length_cons, List.length_nil]; omega)) ?_; intro p H2 e2 h2)
  | ((with_reducible show rTupA _ _ _ _); refine w_tupOf (.inr (by walk_at "st")) ?_; intro p H2 e2 h2)
  | ((with_reducible show rListA _ _ _ _); refine w_listA (by walk_at "st") ?_; intro p H2 e2 hpm h2))
set_option maxHeartbeats 4000000 in
theorem ok_Lbent_row (T : Top K mg) : FnOk P w K mg base CX0 5 T.f_Lbent_row T.d_Lbent_row ["_law_pen", "_law_handed"] (spBent P w K) := by
  refine T.F_Lbent_row.ok sc_Lbent_row (fun vs H Q E h => ?_) (fun cdv A outer s H vs Q E hr h => ?_)
  · obtain ⟨a, sc, ns, x, d, ds, k, rfl, _⟩ := h
    rfl
  · obtain ⟨a, sc, ns, x, d, ds, k, rfl, hp, hsc, hx, hd, l2, lk, k10, hw, q⟩ := h
    refine ⟨_, (pss_cons (ps_set (i := 2) sc_Lbent_row.nd rfl (Or.inl rfl) (pe_call (ok_Lnext T) (hr.mono (by decide)) (by rfl) T.g_Lnext T.F_Lnext.kp T.b_Lnext .nil pass0 (pa_cons (pv 0) (pa_cons pe_int pa_nil))))
          (pss_cons (ps_set (i := 3) sc_Lbent_row.nd rfl (Or.inl rfl) (pe_callTy call_tupleA (by rfl) T.z_tuple (by decide +kernel) (pa_cons (pv 1) pa_nil)))
          (pss_cons (ps_set (i := 4) sc_Lbent_row.nd rfl (Or.inl rfl) (pe_op op_add pe_int (pe_call (ok_Lnext T) (hr.mono (by decide)) (by rfl) T.g_Lnext T.F_Lnext.kp T.b_Lnext .nil pass0 (pa_cons (pv 0) (pa_cons (pe_op op_sub (pe_callB call_len_seq (by rfl) T.z_len PySem.boot_len (pa_cons (pv 3) pa_nil)) pe_int) pa_nil)))))
          (pss_cons (ps_set (i := 5) sc_Lbent_row.nd rfl (Or.inl rfl) (pe_call (ok_Lbad_word (P := P) (w := w) (base := base) T) (hr.mono (by decide)) (by rfl) T.g_Lbad_word T.F_Lbad_word.kp T.b_Lbad_word .nil pass0 (pa_cons (pv 0) pa_nil)))
          (pss_cons (ps_set (i := 6) sc_Lbent_row.nd rfl (Or.inl rfl) (pe_lst (pa_cons pe_str (pa_cons pe_str (pa_cons pe_str (pa_cons pe_str (pa_cons pe_str (pa_cons pe_str (pa_cons pe_str (pa_cons pe_str (pa_cons pe_non (pa_cons (pe_tup (pa_cons pe_str pa_nil)) (pa_cons (pe_lstA (pa_cons pe_str pa_nil)) (pa_cons pe_dnewK (pa_cons pe_str pa_nil)))))))))))))))
          (pss_cons (ps_set (i := 6) sc_Lbent_row.nd rfl (Or.inl rfl) (pe_op op_cat (pv 6) (pe_lst (pa_cons pe_str (pa_cons pe_str (pa_cons pe_str (pa_cons pe_str (pa_cons pe_str (pa_cons pe_str (pa_cons pe_str (pa_cons pe_str (pa_cons pe_str pa_nil))))))))))))
          (pss_cons (ps_set (i := 7) sc_Lbent_row.nd rfl (Or.inl rfl) (pe_ix ix_list (pv 6) (pe_call (ok_Lnext T) (hr.mono (by decide)) (by rfl) T.g_Lnext T.F_Lnext.kp T.b_Lnext .nil pass0 (pa_cons (pv 0) (pa_cons pe_int pa_nil))) (fun _ _ => rfl)))
          (pss_cons (ps_set (i := 8) sc_Lbent_row.nd rfl (Or.inl rfl) (pe_lst (pa_cons (pe_slice sl_tup (pv 3) po_none (po_some (pe_un un_neg pe_int))) (pa_cons (pe_op op_catT (pv 3) (pe_slice sl_tup (pv 3) (po_some (pe_un un_neg pe_int)) po_none)) (pa_cons (pe_callTy call_listA (by rfl) T.z_list (by decide +kernel) (pa_cons (pv 3) pa_nil)) (pa_cons (pe_op op_catT (pe_tup (pa_cons (pv 7) pa_nil)) (pe_slice sl_tup (pv 3) (po_some pe_int) po_none)) (pa_cons (pe_tup pa_nil) (pa_cons pe_non pa_nil))))))))
          (pss_cons (ps_set (i := 8) sc_Lbent_row.nd rfl (Or.inl rfl) (pe_op op_cat (pv 8) (pe_lst (pa_cons (pe_ix ix_tup (pv 3) pe_int (fun _ _ => rfl)) (pa_cons (pe_slice sl_tup (pv 3) (po_some pe_int) po_none) (pa_cons (pe_op op_catT (pe_tup (pa_cons (pe_ix ix_tup (pv 3) pe_int (fun _ _ => rfl)) pa_nil)) (pe_callTy call_tupleA (by rfl) T.z_tuple (by decide +kernel) (pa_cons (pv 3) pa_nil))) (pa_cons (pe_tup (pa_cons (pe_ix ix_tup (pv 3) pe_int (fun _ _ => rfl)) pa_nil)) pa_nil)))))))
          (pss_cons (ps_set (i := 9) sc_Lbent_row.nd rfl (Or.inl rfl) (pe_op op_catT (pe_op op_catT (pe_slice sl_tup (pv 3) po_none (po_some (pv 4))) (pe_tup (pa_cons (pv 5) pa_nil))) (pe_slice sl_tup (pv 3) (po_some (pe_op op_add (pv 4) pe_int)) po_none)))
          (pss_cut (ps_if (pt_cmpR op_lt (pv 2) pe_int (nomark _))
            (pss_one (ps_set (i := 9) sc_Lbent_row.nd rfl (Or.inl rfl) (pe_ix ix_list (pv 8) (pv 2) (fun _ _ => rfl))))
            pss_nil)
          (pss_cons (ps_if (PW.pt (pw_and (pt_val (pe_callB call_isA (by rfl) T.z_isinstance (by decide +kernel) (pa_cons (pv 1) (pa_cons (pe_bltn (v := .ty "list") (by rfl) T.z_list (by decide +kernel) rfl) pa_nil)))) (pw_and1 (pt_val (pe_callB call_isA (by rfl) T.z_isinstance (by decide +kernel) (pa_cons (pv 9) (pa_cons (pe_bltn (v := .ty "tuple") (by rfl) T.z_tuple (by decide +kernel) rfl) pa_nil)))))))
            (pss_one (ps_ret (pe_callTy call_listA (by rfl) T.z_list (by decide +kernel) (pa_cons (pv 9) pa_nil))))
            pss_nil)
          (pss_one (ps_ret (pv 9))))))))))))))), ?_⟩
    rw [show start ["_law_pen", "_law_handed", "_law_way", "_law_told", "_law_at", "_law_bad", "_law_words_here", "_law_word", "_law_some", "_law_found"] [V.ref a, x] = [some (V.ref a), some x, none, none, none, none, none, none, none, none] from rfl]
    try dsimp only [cxOf]
    walk_at "rd"
    rename_i way Ha w0 w1 ea
    obtain ⟨t, xs, rfl, ht, hxs⟩ : ∃ t xs, x = .ref t ∧ (SqL K Ha t xs ∨ SqT K Ha t xs) ∧ AqAll P w K Ha xs ds := by
      have hx := hx.ex ea
      rcases hd with rfl | rfl
      · cases hx with
        | tup h1 h2 => exact ⟨_, _, rfl, .inr h1, h2⟩
      · cases hx with
        | lst h1 h2 h3 => exact ⟨_, _, rfl, .inl h1, h3⟩
    have hl := hxs.len
    refine w_tupOf ht fun t2 Hb eb ht2 => ?_
    clear ht
    walk_at "rd"
    rename_i atr Hc at0 at1 ec bv bd Hd ed hbv hbd pt hpt Hf ef htt pl hpl hplm Hg eg hll pd hpd Hh eh hdd p6 hp6 Hi ei h6 p7 hp7 Hj ej h7 p8 hp8 Hk ek h8 wi Hl wi0 wi1 el
    refine w_ixLP (by walk_at "sl") wi0 (by show wi < ((22 : Nat) : Int); omega) fun wv hwv => ?_
    have hg : ∃ d, Aq P w K Hl wv d ∧ Wd d := by
      have E1 : Ex Hf Hl := ((((eg.trans eh).trans ei).trans ej).trans ek).trans el
      have E2 : Ex Hg Hl := (((eh.trans ei).trans ej).trans ek).trans el
      have E3 : Ex Hh Hl := ((ei.trans ej).trans ek).trans el
      simp only [List.mem_append, List.mem_cons, List.not_mem_nil, or_false] at hwv
      rcases hwv with (rfl | rfl | rfl | rfl | rfl | rfl | rfl | rfl | rfl | rfl | rfl | rfl | rfl) | (rfl | rfl | rfl | rfl | rfl | rfl | rfl | rfl | rfl)
      case inl.inr.inr.inr.inr.inr.inr.inr.inr.inl => exact ⟨_, .non, ⟨by decide, by decide, rfl, rfl⟩, rfl⟩
      case inl.inr.inr.inr.inr.inr.inr.inr.inr.inr.inl => exact ⟨_, .tup (st_of (E1 _ _ htt)) (.cons (.str _) .nil), ⟨by decide +kernel, by decide +kernel, by decide +kernel, by decide +kernel⟩, by decide +kernel⟩
      case inl.inr.inr.inr.inr.inr.inr.inr.inr.inr.inr.inl => exact ⟨_, .lst (sq_of (E2 _ _ hll)) hplm (.cons (.str _) .nil), ⟨by decide +kernel, by decide +kernel, by decide +kernel, by decide +kernel⟩, by decide +kernel⟩
      case inl.inr.inr.inr.inr.inr.inr.inr.inr.inr.inr.inr.inl => exact ⟨.dict [], .dic (ps := []) (.inl ⟨[], E3 _ _ hdd, rfl⟩) .nil .nil, ⟨by decide +kernel, by decide +kernel, by decide +kernel, by decide +kernel⟩, by decide +kernel⟩
      all_goals exact ⟨_, .str _, (gd_str (n := 60) (by decide +kernel)).more (by decide) (by decide), rfl⟩
    obtain ⟨wd, hwa, hwd⟩ := hg
    have El : Ex Hd Hl := (((((ef.trans eg).trans eh).trans ei).trans ej).trans ek).trans el
    have hbv' := hbv.ex El
    have ht' : SqT K Hl t2 xs := ex_t (((ec.trans ed)).trans El) ht2
    have EH : Ex H Hl := (((ea.trans eb).trans ec).trans ed).trans El
    have hxs' : AqAll P w K Hl xs ds := hxs.ex (((eb.trans ec).trans ed).trans El)
    clear hwv h8 h7 h6 hdd hll htt ek ej ei eh eg ef el ht2 hbv ed ec eb hxs El hp8 hp7 hp6 hpd hpl hpt ea
    obtain ⟨k1, hk1⟩ := Int.eq_ofNat_of_zero_le (a := 1 + atr) (by omega)
    rw [hk1]
    have nw1 := nw_toM (n := xs.length) (by omega)
    have nw2 := nw_fromM (n := xs.length) (by omega)
    have nw3 : ¬ (HT.sIx xs.length 0 (some 1) = 0 ∧ HT.sIx xs.length xs.length none = xs.length) := nw_from (k := 1) (by decide) (by omega)
    have nw4 := nw_to (n := xs.length) (k := k1) (by omega)
    have nw5 : ¬ (HT.sIx xs.length 0 (some ((k1 : Int) + 1)) = 0 ∧ HT.sIx xs.length xs.length none = xs.length) := nw_from (k := k1 + 1) (by omega) (by omega)
    have c1 := cutV_length xs none (some (-1))
    have c2 := cut_fromM (xs := xs) (by omega)
    have c3 : (cutV xs (some 1) none).length = xs.length - 1 := cut_from (k := 1) (by omega)
    have c4 := cut_to (xs := xs) (k := k1) (by omega)
    have c5 : (cutV xs (some ((k1 : Int) + 1)) none).length = xs.length - (k1 + 1) := cut_from (k := k1 + 1) (by omega)
    have n4 : cutV xs none (some (k1 : Int)) ≠ [] := fun e => by rw [e] at c4; simp at c4; omega
    obtain ⟨x0, xr, hx0⟩ : ∃ x0 xr, xs = x0 :: xr := by
      cases xs with
      | nil => simp at hl; omega
      | cons x0 xr => exact ⟨x0, xr, rfl⟩
    have nx : xs ≠ [] := by rw [hx0]; exact List.cons_ne_nil _ _
    have at0' : atI xs 0 = some x0 := by rw [hx0]; exact at_0
    walk_at "rd"
    rename_i q1 G1 f1 s1 q2 G2 f2 s2 q3 G3 f3 s3 q4 G4 f4 m4 s4 q5 hq5 G5 f5 s5 q6 G6 f6 s6 q7 G7 f7 s7 q8 hq8 G8 f8 s8 q9 hq9 G9 f9 s9 q10 G10 f10 s10 q11 hq11 G11 f11 s11 q12 G12 f12 s12 q13 G13 f13 s13 q14 hq14 G14 f14 s14 q15 hq15 G15 f15 s15 q16 hq16 G16 f16 s16 q17 G17 f17 s17 q18 hq18 G18 f18 s18 q19 G19 f19 s19 q20 G20 f20 s20 q21 G21 f21 s21
    have F20 : Ex G20 G21 := f21
    have F19 : Ex G19 G21 := f20.trans F20
    have F18 : Ex G18 G21 := f19.trans F19
    have F17 : Ex G17 G21 := f18.trans F18
    have F16 : Ex G16 G21 := f17.trans F17
    have F15 : Ex G15 G21 := f16.trans F16
    have F14 : Ex G14 G21 := f15.trans F15
    have F13 : Ex G13 G21 := f14.trans F14
    have F12 : Ex G12 G21 := f13.trans F13
    have F11 : Ex G11 G21 := f12.trans F12
    have F10 : Ex G10 G21 := f11.trans F11
    have F9 : Ex G9 G21 := f10.trans F10
    have F8 : Ex G8 G21 := f9.trans F9
    have F7 : Ex G7 G21 := f8.trans F8
    have F6 : Ex G6 G21 := f7.trans F7
    have F5 : Ex G5 G21 := f6.trans F6
    have F4 : Ex G4 G21 := f5.trans F5
    have F3 : Ex G3 G21 := f4.trans F4
    have F2 : Ex G2 G21 := f3.trans F3
    have F1 : Ex G1 G21 := f2.trans F2
    have E21 : Ex Hl G21 := f1.trans F1
    have r1 : SqT K G21 q1 (cutV xs none (some (-1))) := ex_t F1 s1
    have r3 : SqT K G21 q3 (xs ++ cutV xs (some (-1)) none) := ex_t F3 s3
    have r4 : SqL K G21 q4 xs := ex_l F4 s4
    have r7 : SqT K G21 q7 ([wv] ++ cutV xs (some 1) none) := ex_t F7 s7
    have r8 : SqT K G21 q8 [] := st_of (F8 _ _ s8)
    have r10 : SqT K G21 q10 (cutV xs (some 1) none) := ex_t F10 s10
    have r13 : SqT K G21 q13 ([x0] ++ xs) := ex_t F13 s13
    have r14 : SqT K G21 q14 [x0] := st_of (F14 _ _ s14)
    have r16 : SqL K G21 q16 ([V.ref q1, V.ref q3, V.ref q4, V.ref q7, V.ref q8, V.non] ++ [x0, V.ref q10, V.ref q13, V.ref q14]) := sq_of (F16 _ _ s16)
    clear F1 F2 F3 F4 F5 F6 F7 F8 F9 F10 F11 F12 F13 F14 F15 F16 F17 F18 F19 F20
    clear f1 f2 f3 f4 f5 f6 f7 f8 f9 f10 f11 f12 f13 f14 f15 f16 f17 f18 f19 f20 f21 s1 s2 s3 s4 s5 s6 s7 s8 s9 s10 s11 s12 s13 s14 s15 s16 s17 s18 s19 s20 hq5 hq8 hq9 hq11 hq14 hq15 hq16 hq18 nw1 nw2 nw3 nw4 nw5
    have D := hxs'.ex E21
    have W := hwa.ex E21
    have B := hbv'.ex E21
    have EE := EH.trans E21
    obtain ⟨d0, hd0, D0⟩ := D.at (i := 0) (v := x0) (by rw [hx0]; rfl)
    have hw0 := hw d0 (List.mem_of_getElem? hd0)
    have mk : ∀ (p : Addr) (ys : List V) (es : List PyData), SqT K G21 p ys → AqAll P w K G21 ys es → ys.length ≤ k + 1 → (∀ e ∈ es, Wd e) → ∃ d, Aq P w K G21 (V.ref p) d ∧ Bent (k + 1) d :=
      fun p ys es h1 h2 h3 h4 => ⟨.tuple es, .tup h1 h2, .inl ⟨es, .inl rfl, by rw [← h2.len]; exact h3, h4⟩⟩
    have mc : ∀ lo hi, ∀ e ∈ cutD ds lo hi, Wd e := fun lo hi e he => hw e (cutD_mem he)
    refine w_cut (fun σ' H' => ∃ v d, σ' = [some (V.ref a), some (V.ref t), some (V.int way), some (V.ref t2), some (V.int (k1 : Int)), some bv, some (V.ref p8), some wv, some (V.ref q16), some v] ∧ H' = G21 ∧ Aq P w K G21 v d ∧ Bent (k + 1) d) ?_ ?_
    · walk_at "rd"
      refine ite2 (fun h => ?_) (fun h => ?_)
      · have hw10 := of_decide_eq_true h
        walk_at "rd"
        refine w_ixLP r16 w0 (by show way < ((10 : Nat) : Int); omega) fun v hv => ?_
        walk_at "rd"
        have hg : ∃ d, Aq P w K G21 v d ∧ Bent (k + 1) d := by
          simp only [List.mem_append, List.mem_cons, List.not_mem_nil, or_false] at hv
          rcases hv with (rfl | rfl | rfl | rfl | rfl | rfl) | (rfl | rfl | rfl | rfl)
          · exact mk _ _ _ r1 (D.cut _ _) (by omega) (mc _ _)
          · exact mk _ _ _ r3 (D.app (D.cut _ _)) (by rw [List.length_append]; omega) (fun e he => (List.mem_append.mp he).elim (hw e) (mc _ _ e))
          · exact ⟨.list ds, .lst r4 m4 D, .inl ⟨ds, .inr rfl, by omega, hw⟩⟩
          · exact mk _ _ ([wd] ++ _) r7 (AqAll.app (.cons W .nil) (D.cut _ _)) (by rw [List.length_append, List.length_singleton]; omega) (fun e he => (List.mem_append.mp he).elim (fun h => by rw [List.mem_singleton.mp h]; exact hwd) (mc _ _ e))
          · exact mk _ _ [] r8 .nil (Nat.zero_le _) (fun e he => nomatch he)
          · exact ⟨.none, .non, .inr ⟨⟨by decide, by decide, rfl, rfl⟩, rfl⟩⟩
          · exact ⟨d0, D0, .inr hw0⟩
          · exact mk _ _ _ r10 (D.cut _ _) (by omega) (mc _ _)
          · exact mk _ _ ([d0] ++ ds) r13 (AqAll.app (.cons D0 .nil) D) (by rw [List.length_append, List.length_singleton]; omega) (fun e he => (List.mem_append.mp he).elim (fun h => by rw [List.mem_singleton.mp h]; exact hw0) (hw e))
          · exact mk _ _ [d0] r14 (.cons D0 .nil) (by rw [List.length_singleton]; omega) (fun e h => by rw [List.mem_singleton.mp h]; exact hw0)
        obtain ⟨d', h1, h2⟩ := hg
        exact ⟨v, d', rfl, rfl, h1, h2⟩
      · walk_at "rd"
        obtain ⟨d', h1, h2⟩ := mk _ _ (cutD ds none (some (k1 : Int)) ++ [bd] ++ cutD ds (some ((k1 : Int) + 1)) none) s21 (((D.cut _ _).app (.cons B .nil)).app (D.cut _ _)) (by rw [List.length_append, List.length_append, List.length_singleton]; omega) (fun e he => by
          rcases List.mem_append.mp he with he | he
          · rcases List.mem_append.mp he with he | he
            · exact mc _ _ e he
            · rw [List.mem_singleton.mp he]
              exact hbd
          · exact mc _ _ e he)
        exact ⟨_, d', rfl, rfl, h1, h2⟩
    · rintro σ' H' ⟨v, d', rfl, rfl, h1, h2⟩
      have hx' := hx.ex EE
      walk_at "rd"
      have fin : Q v H' := q v d' H' EE h1 h2
      have lst : isA "tuple" d' = true → rListA K [v] H' Q := fun hb => by
        cases h1 with
        | @tup p ys es g1 g2 =>
          refine w_listA g1 fun p2 H2 e2 hm g3 => q _ (.list es) H2 (EE.trans e2) (.lst g3 hm (g2.ex e2)) ?_
          rcases h2 with ⟨es', h3 | h3, h4, h5⟩ | ⟨h3, h4⟩
          · cases h3
            exact .inl ⟨es, .inr rfl, h4, h5⟩
          · exact nomatch h3
          · refine .inr ⟨⟨?_, ?_, ?_, ?_⟩, h4⟩
            · have := h3.wt; simp only [PyData.weight] at this ⊢; exact this
            · have := h3.dp; simp only [PyData.depth] at this ⊢; exact this
            · have := h3.ls; simp only [PyData.leavesShort] at this ⊢; exact this
            · have := h3.sh; simp only [PyData.showable] at this ⊢; exact this
        | _ => exact absurd (show false = true from hb) Bool.false_ne_true
      generalize isA "list" d = b1
      cases b1 with
      | false =>
        rw [if_neg Bool.false_ne_true, if_neg Bool.false_ne_true]
        walk_at "rd"
        exact fin
      | true =>
        rw [if_pos rfl]
        walk_at "rd"
        refine ite2 (fun hb => ?_) (fun hb => ?_)
        · walk_at "rd"
          exact lst hb
        · walk_at "rd"
          exact fin
end

section
/-! ### isinstance(x, (tuple, list)) of data -/
def seqB : PyData → Bool
  | .tuple _ => true
  | .list _ => true
  | _ => false
def rIsTL (P : Program) (w : World) (K : PySem.W.Frag) : List V → Hp → VK → Prop := fun xs H Q => ∃ (x : V) (d : PyData) (tp : Addr), xs = [x, .ref tp] ∧ H tp = some (.tup [.ty "tuple", .ty "list"]) ∧ Aq P w K H x d ∧ Q (.bl (seqB d)) H
theorem kitTL {K : PySem.W.Frag} {T : String} {b c : Bool} (h1 : kitB T "tuple" = some b) (h2 : kitB T "list" = some c) : PySem.W.kitAny K (.type T) [.type "tuple", .type "list"] = some (b || c) := by
  refine kitAny_cons (kit_ty h1) (fun hb => ?_) (fun hb => by rw [hb]; rfl)
  refine kitAny_cons (kit_ty h2) (fun hc => ?_) (fun hc => by rw [hc, Bool.or_true])
  rw [hb, hc]
  rfl
theorem call_isTL {X : Cx} : CallR X (.builtin "isinstance") (rIsTL X.prog X.w X.K) := by
  intro pins s σ H xs us Q I r h
  obtain ⟨x, d, tp, rfl, hT, ha, q⟩ := h
  obtain ⟨u1, u2, rfl, r1, r2⟩ := vals2 r
  cases (show u2 = Value.ref tp from r2)
  obtain ⟨as, _, rd⟩ := ha.reads I d x u1 r1
  obtain ⟨_, its, rv, o, h1, h2, n, h3⟩ := (show ObjOk X.prog X.w H s.heap tp (.tup [.ty "tuple", .ty "list"]) from I.hok tp _ hT)
  have e3 : its = [.type "tuple", .type "list"] := ClsV.all (.cons (.ty _) (.cons (.ty _) .nil)) rv
  subst e3
  obtain ⟨oc, od, dt, sl⟩ := o
  simp only at h2 h3
  subst h2 h3
  cases rd with
  | none => exact PySem.W.kia_tup PySem.W.kitx_none I.kIn True.intro h1 (kitTL (T := "NoneType") (b := false) (c := false) (by decide +kernel) (by decide +kernel)) (fun z => nomatch z) fun tk => ⟨.bl _, H, I.tok tk, rfl, q⟩
  | bool b => exact PySem.W.kia_tup PySem.W.kitx_bool I.kIn True.intro h1 (kitTL (T := "bool") (b := false) (c := false) (by decide +kernel) (by decide +kernel)) (fun z => nomatch z) fun tk => ⟨.bl _, H, I.tok tk, rfl, q⟩
  | int i t => exact PySem.W.kia_tup PySem.W.kitx_int I.kIn True.intro h1 (kitTL (T := "int") (b := false) (c := false) (by decide +kernel) (by decide +kernel)) (fun z => nomatch z) fun tk => ⟨.bl _, H, I.tok tk, rfl, q⟩
  | str z t => exact PySem.W.kia_tup PySem.W.kitx_str I.kIn True.intro h1 (kitTL (T := "str") (b := false) (c := false) (by decide +kernel) (by decide +kernel)) (fun z => nomatch z) fun tk => ⟨.bl _, H, I.tok tk, rfl, q⟩
  | list g1 g2 g3 g4 => exact PySem.W.kia_tup PySem.W.kitx_list I.kIn ⟨_, g1, g2⟩ h1 (kitTL (T := "list") (b := false) (c := true) (by decide +kernel) (by decide +kernel)) (fun z => nomatch z) fun tk => ⟨.bl _, H, I.tok tk, rfl, q⟩
  | tuple g1 g2 g3 g4 => exact PySem.W.kia_tup PySem.W.kitx_tuple I.kIn ⟨_, g1, g2⟩ h1 (kitTL (T := "tuple") (b := true) (c := false) (by decide +kernel) (by decide +kernel)) (fun z => nomatch z) fun tk => ⟨.bl _, H, I.tok tk, rfl, q⟩
  | dict g1 g2 g3 g4 g5 => exact PySem.W.kia_tup PySem.W.kitx_dict I.kIn ⟨_, g1, g2⟩ h1 (kitTL (T := "dict") (b := false) (c := false) (by decide +kernel) (by decide +kernel)) (fun z => nomatch z) fun tk => ⟨.bl _, H, I.tok tk, rfl, q⟩
/-! ### data without dicts, for == -/
section
variable {P : Program} {w : World} {K : PySem.W.Frag} {H : Hp}
mutual
theorem Aq.dp : ∀ {v : V} {d : PyData}, Aq P w K H v d → d.hasDict = false → Dp K H v d
  | _, _, .non, _ => .non
  | _, _, .bl b, _ => .bl b
  | _, _, .int i, _ => .int i
  | _, _, .str x, _ => .str x
  | _, _, .lst h _ a, g => .lst h (AqAll.dp a (by simpa only [PyData.hasDict] using g))
  | _, _, .tup h a, g => .tup h (AqAll.dp a (by simpa only [PyData.hasDict] using g))
  | _, _, .dic _ _ _, g => by simp [PyData.hasDict] at g
theorem AqAll.dp : ∀ {vs : List V} {ds : List PyData}, AqAll P w K H vs ds → PyData.hasDictAll ds = false → DpAll K H vs ds
  | _, _, .nil, _ => .nil
  | _, _, .cons a b, g => by
    simp only [PyData.hasDictAll, Bool.or_eq_false_iff] at g
    exact .cons (Aq.dp a g.1) (AqAll.dp b g.2)
end
end
theorem wtAll_le {n : Nat} : ∀ {ds : List PyData}, (∀ e ∈ ds, e.weight ≤ n) → PyData.weightAll ds ≤ ds.length * (n + 1)
  | [], _ => by simp [PyData.weightAll]
  | d :: ds, h => by
    have h1 := h d (List.mem_cons_self ..)
    have h2 := wtAll_le fun e he => h e (List.mem_cons_of_mem _ he)
    simp only [PyData.weightAll, List.length_cons, Nat.add_mul, Nat.one_mul] at *
    omega
theorem dpAll_le {m : Nat} : ∀ {ds : List PyData}, (∀ e ∈ ds, e.depth ≤ m) → PyData.depthAll ds ≤ m
  | [], _ => by simp [PyData.depthAll]
  | d :: ds, h => by
    have h1 := h d (List.mem_cons_self ..)
    have h2 := dpAll_le fun e he => h e (List.mem_cons_of_mem _ he)
    simp only [PyData.depthAll]
    omega
theorem lsAll_ok : ∀ {ds : List PyData}, (∀ e ∈ ds, e.leavesShort 60 = true) → PyData.leavesShortAll 60 ds = true
  | [], _ => by simp [PyData.leavesShortAll]
  | d :: ds, h => by
    simp only [PyData.leavesShortAll, Bool.and_eq_true]
    exact ⟨h d (List.mem_cons_self ..), lsAll_ok fun e he => h e (List.mem_cons_of_mem _ he)⟩
theorem shAll_ok : ∀ {ds : List PyData}, (∀ e ∈ ds, e.showable = true) → PyData.showableAll ds = true
  | [], _ => by simp [PyData.showableAll]
  | d :: ds, h => by
    simp only [PyData.showableAll, Bool.and_eq_true]
    exact ⟨h d (List.mem_cons_self ..), shAll_ok fun e he => h e (List.mem_cons_of_mem _ he)⟩
/-- a sequence of good items; its weight is handed in -/
theorem gd_tuple {n m : Nat} {ds : List PyData} (hw : PyData.weightAll ds ≤ n) (h : ∀ e ∈ ds, ∃ k, Gd k m e) : Gd n (m + 1) (.tuple ds) := by
  refine ⟨?_, ?_, ?_, ?_⟩
  · simp only [PyData.weight]; exact hw
  · simp only [PyData.depth]; exact Nat.succ_le_succ (dpAll_le fun e he => let ⟨_, g⟩ := h e he; g.dp)
  · simp only [PyData.leavesShort]; exact lsAll_ok fun e he => let ⟨_, g⟩ := h e he; g.ls
  · simp only [PyData.showable]; exact shAll_ok fun e he => let ⟨_, g⟩ := h e he; g.sh
theorem gd_list {n m : Nat} {ds : List PyData} (hw : PyData.weightAll ds ≤ n) (h : ∀ e ∈ ds, ∃ k, Gd k m e) : Gd n (m + 1) (.list ds) := by
  refine ⟨?_, ?_, ?_, ?_⟩
  · simp only [PyData.weight]; exact hw
  · simp only [PyData.depth]; exact Nat.succ_le_succ (dpAll_le fun e he => let ⟨_, g⟩ := h e he; g.dp)
  · simp only [PyData.leavesShort]; exact lsAll_ok fun e he => let ⟨_, g⟩ := h e he; g.ls
  · simp only [PyData.showable]; exact shAll_ok fun e he => let ⟨_, g⟩ := h e he; g.sh
theorem wtAll_app : ∀ (as bs : List PyData), PyData.weightAll (as ++ bs) = PyData.weightAll as + PyData.weightAll bs
  | [], bs => by simp [PyData.weightAll]
  | a :: as, bs => by
    have := wtAll_app as bs
    simp only [List.cons_append, PyData.weightAll]
    omega
/-- it is shown in a line -/
theorem gd_shown {n m : Nat} {d : PyData} (g : Gd n m d) (hn : n ≤ 200000) : d.shown.length ≤ sizeLine := by
  have h := PyData.shown_le 60 (by decide) d g.ls
  have h2 : (60 + 2) * d.weight ≤ 62 * 200000 := Nat.mul_le_mul (by decide) (Nat.le_trans g.wt hn)
  rw [sizeLine_eq]
  omega
theorem gd_bent {k : Nat} {d : PyData} (h : Bent k d) : Gd (k * 2001 + 2000) 2 d := by
  rcases h with ⟨ds, h, hl, hw⟩ | h
  · have w1 := wtAll_le (n := 2000) fun e he => (hw e he).1.wt
    have w2 : ds.length * (2000 + 1) ≤ k * 2001 := Nat.mul_le_mul_right _ hl
    rcases h with rfl | rfl
    · exact gd_tuple (by omega) fun e he => ⟨_, (hw e he).1⟩
    · exact gd_list (by omega) fun e he => ⟨_, (hw e he).1⟩
  · exact h.1.more (by omega) (by decide)
/-- a row of the drawn program as data -/
def RowG (d : PyData) : Prop := ∃ (k : Str) (r : List PyData), d = .tuple (.str k :: r) ∧ TxtOk 5 k ∧ 2 ≤ r.length ∧ r.length ≤ 3 ∧ ∀ e ∈ r, ∃ z, e = .str z ∧ TxtOk 160 z
theorem rowG_items {d : PyData} (h : RowG d) : ∃ es, d = .tuple es ∧ 3 ≤ es.length ∧ es.length ≤ 4 ∧ PyData.weightAll es ≤ 489 ∧ ∀ e ∈ es, Wd e := by
  obtain ⟨k, r, rfl, hk, h2, h3, hr⟩ := h
  have w1 := wtAll_le (n := 160) (ds := r) fun e he => by
    obtain ⟨z, rfl, hz⟩ := hr e he
    exact hz.1
  have hk1 : (PyData.str k).weight ≤ 5 := hk.1
  refine ⟨_, rfl, by rw [List.length_cons]; omega, by rw [List.length_cons]; omega, ?_, fun e he => ?_⟩
  · simp only [PyData.weightAll]
    have : r.length * (160 + 1) ≤ 3 * 161 := Nat.mul_le_mul_right _ h3
    omega
  · rcases List.mem_cons.mp he with rfl | he
    · exact ⟨(gd_str hk).more (by decide) (by decide), rfl⟩
    · obtain ⟨z, rfl, hz⟩ := hr e he
      exact ⟨(gd_str hz).more (by decide) (by decide), rfl⟩
theorem gd_row {d : PyData} (h : RowG d) : Gd 489 1 d := by
  obtain ⟨es, rfl, _, _, hw, hi⟩ := rowG_items h
  refine ⟨by simp only [PyData.weight]; exact hw, ?_, ?_, ?_⟩
  · obtain ⟨k, r, e, hk, _, _, hr⟩ := h
    cases e
    simp only [PyData.depth]
    exact Nat.succ_le_succ (dpAll_le fun e he => by
      rcases List.mem_cons.mp he with rfl | he
      · exact Nat.le_refl _
      · obtain ⟨z, rfl, _⟩ := hr e he
        exact Nat.le_refl _)
  · simp only [PyData.leavesShort]; exact lsAll_ok fun e he => (hi e he).1.ls
  · simp only [PyData.showable]; exact shAll_ok fun e he => (hi e he).1.sh
variable {P : Program} {w : World} {K : PySem.W.Frag}
theorem rowG_plain {d : PyData} (h : RowG d) : d.hasDict = false ∧ d.canLay0 = true ∧ d.depth ≤ 1 := by
  have gd := (gd_row h).dp
  obtain ⟨k, r, rfl, hk, _, _, hr⟩ := h
  have h1 : ∀ r : List PyData, (∀ e ∈ r, ∃ z, e = PyData.str z ∧ TxtOk 160 z) → PyData.hasDictAll r = false ∧ PyData.canLayAll0 r = true := by
    intro r
    induction r with
    | nil => exact fun _ => ⟨by simp [PyData.hasDictAll], by simp [PyData.canLayAll0]⟩
    | cons e r ih =>
      intro h
      obtain ⟨z, rfl, hz⟩ := h e (List.mem_cons_self ..)
      obtain ⟨a, b⟩ := ih fun e he => h e (List.mem_cons_of_mem _ he)
      exact ⟨by simp [PyData.hasDictAll, PyData.hasDict, a], by simp [PyData.canLayAll0, PyData.canLay0, hz.2, b]⟩
  obtain ⟨a, b⟩ := h1 r hr
  exact ⟨by simp [PyData.hasDict, PyData.hasDictAll, a], by simp [PyData.canLay0, PyData.canLayAll0, hk.2, b], gd⟩
theorem told_plain : ∀ {ds : List PyData}, (∀ d ∈ ds, RowG d) → PyData.hasDictAll ds = false ∧ PyData.canLayAll0 ds = true
  | [], _ => ⟨by simp [PyData.hasDictAll], by simp [PyData.canLayAll0]⟩
  | d :: ds, h => by
    obtain ⟨a, b, _⟩ := rowG_plain (h d (List.mem_cons_self ..))
    obtain ⟨a2, b2⟩ := told_plain fun e he => h e (List.mem_cons_of_mem _ he)
    exact ⟨by simp [PyData.hasDictAll, a, a2], by simp [PyData.canLayAll0, b, b2]⟩
theorem told_shaped {ds : List PyData} (h : ∀ d ∈ ds, RowG d) : PySem.SeqAt.shaped (.tuple ds) = true := by
  have h3 : PyData.canLay0 (.tuple ds) = true := by simp only [PyData.canLay0]; exact (told_plain h).2
  have h4 : PyData.depth (.tuple ds) ≤ 64 := by
    have := dpAll_le (m := 1) fun e he => (rowG_plain (h e he)).2.2
    simp only [PyData.depth]
    omega
  unfold PySem.SeqAt.shaped
  rw [h3, decide_eq_true h4]
  rfl
/-- the drawn program as data -/
def ToldAt (P : Program) (w : World) (K : PySem.W.Frag) (H : Hp) (p : Addr) (ds : List PyData) : Prop := ∃ vs, SqT K H p vs ∧ AqAll P w K H vs ds ∧ (∀ d ∈ ds, RowG d) ∧ ds.length ≤ 62
theorem ToldAt.ex {H H' : Hp} {p : Addr} {ds : List PyData} (h : ToldAt P w K H p ds) (e : Ex H H') : ToldAt P w K H' p ds :=
  let ⟨vs, a, b, c, d⟩ := h
  ⟨vs, ex_t e a, b.ex e, c, d⟩
theorem told_gd {ds : List PyData} (h : ∀ d ∈ ds, RowG d) (hl : ds.length ≤ 63) : PyData.weightAll ds ≤ 63 * 490 := by
  have := wtAll_le (n := 489) fun e he => (gd_row (h e he)).wt
  exact Nat.le_trans this (Nat.mul_le_mul_right _ hl)
def rowD : Row → PyData
  | .new x b => .tuple [.str (Str.ofString "new"), .str x, .str b]
  | .move x y => .tuple [.str (Str.ofString "move"), .str x, .str y]
  | .put x s y => .tuple [.str (Str.ofString "put"), .str x, .str s, .str y]
  | .take x s y => .tuple [.str (Str.ofString "take"), .str x, .str s, .str y]
theorem rowD_aq {H : Hp} {r : Row} {v : V} (h : RowAt r v H) : Aq P w K H v (rowD r) := by
  obtain ⟨p, rfl, hp⟩ := h
  cases r with
  | new x b => exact .tup (st_of hp) (.cons (.str _) (.cons (.str _) (.cons (.str _) .nil)))
  | move x b => exact .tup (st_of hp) (.cons (.str _) (.cons (.str _) (.cons (.str _) .nil)))
  | put x s y => exact .tup (st_of hp) (.cons (.str _) (.cons (.str _) (.cons (.str _) (.cons (.str _) .nil))))
  | take x s y => exact .tup (st_of hp) (.cons (.str _) (.cons (.str _) (.cons (.str _) (.cons (.str _) .nil))))
theorem rowD_g {xs bs ss : List Str} {r : Row} (h : RowIn xs bs ss r) (h1 : ∀ z ∈ xs, TxtOk 160 z) (h2 : ∀ z ∈ bs, TxtOk 160 z) (h3 : ∀ z ∈ ss, TxtOk 160 z) : RowG (rowD r) := by
  cases r with
  | new x b => exact ⟨_, _, rfl, by decide +kernel, by simp, by simp, fun e he => by
      simp only [List.mem_cons, List.not_mem_nil, or_false] at he
      rcases he with rfl | rfl
      · exact ⟨_, rfl, h1 _ h.1⟩
      · exact ⟨_, rfl, h2 _ h.2⟩⟩
  | move x y => exact ⟨_, _, rfl, by decide +kernel, by simp, by simp, fun e he => by
      simp only [List.mem_cons, List.not_mem_nil, or_false] at he
      rcases he with rfl | rfl
      · exact ⟨_, rfl, h1 _ h.1⟩
      · exact ⟨_, rfl, h1 _ h.2⟩⟩
  | put x s y => exact ⟨_, _, rfl, by decide +kernel, by simp, by simp, fun e he => by
      simp only [List.mem_cons, List.not_mem_nil, or_false] at he
      rcases he with rfl | rfl | rfl
      · exact ⟨_, rfl, h1 _ h.1⟩
      · exact ⟨_, rfl, h3 _ h.2.1⟩
      · exact ⟨_, rfl, h1 _ h.2.2⟩⟩
  | take x s y => exact ⟨_, _, rfl, by decide +kernel, by simp, by simp, fun e he => by
      simp only [List.mem_cons, List.not_mem_nil, or_false] at he
      rcases he with rfl | rfl | rfl
      · exact ⟨_, rfl, h1 _ h.1⟩
      · exact ⟨_, rfl, h3 _ h.2.1⟩
      · exact ⟨_, rfl, h1 _ h.2.2⟩⟩
theorem rows_aq {H : Hp} : ∀ {vs : List V} {rows : List Row}, vs.length = rows.length → (∀ (i : Nat) r, rows[i]? = some r → ∃ v, vs[i]? = some v ∧ RowAt r v H) → AqAll P w K H vs (rows.map rowD)
  | [], [], _, _ => .nil
  | [], _ :: _, h, _ => nomatch h
  | _ :: _, [], h, _ => nomatch h
  | v :: vs, r :: rows, h, q => by
    obtain ⟨v', e, hr⟩ := q 0 r rfl
    cases e
    exact .cons (rowD_aq hr) (rows_aq (Nat.succ.inj h) fun i r' e => q (i + 1) r' e)
theorem told_of {H : Hp} {p : Addr} {rows : List Row} {xs bs ss : List Str} (h : ProgAt H p rows) (hl : rows.length ≤ 62) (hi : AllIn xs bs ss rows) (h1 : ∀ z ∈ xs, TxtOk 160 z) (h2 : ∀ z ∈ bs, TxtOk 160 z) (h3 : ∀ z ∈ ss, TxtOk 160 z) : ToldAt P w K H p (rows.map rowD) := by
  obtain ⟨vs, e, l, q⟩ := h
  refine ⟨vs, st_of e, rows_aq l q, fun d hd => ?_, by rw [List.length_map]; exact hl⟩
  obtain ⟨r, hr, rfl⟩ := List.mem_map.mp hd
  exact rowD_g (hi r hr) h1 h2 h3
end

section
variable {P : Program} {w : World} {K : PySem.W.Frag} {mg : Str → Option Value} {base : Heap}
theorem u_program {a sc : Addr} {ns : List Int} {m : Int} {H : Hp} {Q : VK} {E : XK} (h : H a = some (PenO a sc)) (hs : SqL K H sc (ns.map V.int)) (hm : 0 ≤ m ∧ m ≤ 60)
    (q : ∀ (p : Addr) (ds : List PyData) H', Ex H H' → ToldAt P w K H' p ds → (ds.length : Int) ≤ m → Q (.ref p) H') : spProgram K [.ref a, .int m] H Q E :=
  ⟨a, sc, ns, m, rfl, h, hs, hm.1, hm.2, fun p rows xs bs ss H' hp e hr hl hi _ _ _ h1 h2 h3 => q p (rows.map rowD) H' e (told_of hr (by omega) hi h1 h2 h3) (by rw [List.length_map]; exact hl)⟩
local macro_rules | `(tactic| walk_at "rd1") => `(tactic| ((with_reducible show spProgram _ _ _ _ _); refine u_program (P := P) (w := w) (by walk_at "ho") (by walk_at "sl") (by walk_at "ln") ?_; intro p ds H2 e2 htold hdl))
theorem w_catA {a b : Addr} {xs ys : List V} {H : Hp} {Q : VK} (h : SqT K H a xs) (h2 : SqT K H b ys) (z : xs.length + ys.length ≤ 100000)
    (q : ∀ p H', Ex H H' → SqT K H' p (xs ++ ys) → Q (.ref p) H') : rCatA K (.ref a) (.ref b) H Q :=
  ⟨a, b, xs, ys, rfl, rfl, h, h2, sz_of z, fun e => q b H (Ex.refl H) (by rw [e]; exact h2), fun _ e => q a H (Ex.refl H) (by rw [e, List.append_nil]; exact h), fun _ _ p hp => q p _ (Ex.new hp) (st_of upd_same)⟩
theorem w_slA {a : Addr} {xs : List V} {lo hi : Option Int} {H : Hp} {Q : VK} (h : SqT K H a xs) (q : ∀ p H', Ex H H' → SqT K H' p (cutV xs lo hi) → Q (.ref p) H') : rSlA K (.ref a) lo hi H Q :=
  ⟨a, xs, rfl, h, fun z => q a H (Ex.refl H) (by
    have e : cutV xs lo hi = xs := by unfold cutV; rw [z.1, z.2, List.drop_zero, Nat.sub_zero, List.take_length]
    rw [e]; exact h), fun _ p hp => q p _ (Ex.new hp) (st_of upd_same)⟩
theorem cut_le {xs : List V} {k : Nat} : (cutV xs none (some (k : Int))).length ≤ k := by
  unfold cutV
  rw [List.length_take, List.length_drop, HT.sIx_none, HT.sIx_nat]
  omega
theorem cutD_le {xs : List PyData} {k : Nat} : (cutD xs none (some (k : Int))).length ≤ k := by
  unfold cutD
  rw [List.length_take, List.length_drop, HT.sIx_none, HT.sIx_nat]
  omega
theorem w_repT {l : Addr} {xs : List V} {k : Int} {H : Hp} {Q : VK} (h : SqT K H l xs) (ne : xs ≠ []) (hk : 2 ≤ k ∧ k ≤ 1000) (hl : xs.length ≤ 1000) (q : ∀ p H', Ex H H' → SqT K H' p (List.replicate k.toNat xs).flatten → Q (.ref p) H') : rRepT K (.ref l) (.int k) H Q :=
  ⟨l, k, xs, rfl, rfl, h, ne, hk.1, hk.2, hl, fun p hp => q p _ (Ex.new hp) (st_of upd_same)⟩
theorem AqAll.rep {H : Hp} {xs : List V} {ds : List PyData} (h : AqAll P w K H xs ds) : ∀ n : Nat, AqAll P w K H (List.replicate n xs).flatten (List.replicate n ds).flatten
  | 0 => .nil
  | n + 1 => by
    rw [List.replicate_succ, List.replicate_succ, List.flatten_cons, List.flatten_cons]
    exact h.app (h.rep n)
theorem ex_twice {H H2 : Hp} {p : Addr} {o : HO} (hp : H p = none) (h : Ex H H2) : Ex H (upd H2 p o) := fun a u e => by
  rw [upd_ne (fun z => by rw [z, hp] at e; cases e)]
  exact h _ _ e
theorem w_dispS {k : Str} {v : V} {σ : L2.St} {H : Hp} {Q : VK} (q : ∀ p H', Ex H H' → H' p = some (.dK [(.inr k, v)]) → Q (.ref p) H') : tDisp [(tC (V.str k), tC v)] σ H Q := fun p hp =>
  ⟨upd_same, [(.inr k, v)], rfl, (show 1 ≤ 15 by decide), q p _ (ex_twice hp (Ex.new hp)) upd_same⟩
theorem w_dispI {k : Int} {v : V} {σ : L2.St} {H : Hp} {Q : VK} (q : ∀ p H', Ex H H' → H' p = some (.dK [(.inl k, v)]) → Q (.ref p) H') : tDisp [(tC (V.int k), tC v)] σ H Q := fun p hp =>
  ⟨upd_same, [(.inl k, v)], rfl, (show 1 ≤ 15 by decide), q p _ (ex_twice hp (Ex.new hp)) upd_same⟩
theorem w_dispT {a b c : Str} {σ : L2.St} {H : Hp} {Q : VK} (q : ∀ p t H', Ex H H' → H' t = some (.tup [.str a, .str b, .str c]) → H' p = some (DnO P w p [(.tup [.text a, .text b, .text c], t, .non)]) → Q (.ref p) H') :
    tDisp1N P w K (tTup (tCons (tC (V.str a)) (tCons (tC (V.str b)) (tCons (tC (V.str c)) tNil)))) (tC V.non) σ H Q := fun p hp => by
  refine w_tup (w_cons (w_c (w_cons (w_c (w_cons (w_c (w_nil ⟨by show 3 ≤ sizeLine; decide, fun t ht => ?_⟩)))))))
  have ne : t ≠ p := fun z => by rw [z, upd_same] at ht; cases ht
  have hp2 : upd (upd H p (DnO P w p [])) t (HO.tup [V.str a, V.str b, V.str c]) p = some (DnO P w p []) := by rw [upd_ne (fun z => ne z.symm)]; exact upd_same
  refine ⟨hp2, t, .tup [.text a, .text b, .text c], rfl, .tup (st_of upd_same) (.cons (.str _) (.cons (.str _) (.cons (.str _) .nil))), by simp [NestedKey.depth, NestedKey.depthAll], q p t _ (ex_twice hp ((Ex.new hp).trans (Ex.new ht))) ?_ upd_same⟩
  rw [upd_ne ne]
  exact upd_same
local macro_rules | `(tactic| walk_at "rd1") => `(tactic| first
  | ((with_reducible show rListA _ _ _ _); refine w_listA (by walk_at "st") ?_; intro p H2 e2 hpm h2)
  | ((with_reducible show rCatA _ _ _ _ _); refine w_catA (by walk_at "st") (by walk_at "st") (by first | omega | (simp only [List.length_append, List.length_cons, List.length_nil]; omega)) ?_; intro p H2 e2 h2)
  | ((with_reducible show tDisp [(tC (V.str _), _)] _ _ _); refine w_dispS ?_; intro p H2 e2 h2)
  | ((with_reducible show tDisp [(tC (V.int _), _)] _ _ _); refine w_dispI ?_; intro p H2 e2 h2)
  | ((with_reducible show tDisp1N _ _ _ _ _ _ _ _); refine w_dispT ?_; intro p t H2 e2 h2 h3))
theorem ex_wo_new {H H' : Hp} {L : Addr} (e : Ex H H') (h : H L = none) : Ex H (Wo [L] H') := fun a u q => by
  unfold Wo
  rw [if_neg (fun z => by rw [List.mem_singleton.mp z, h] at q; cases q)]
  exact e a u q
/-- the list of things so far -/
def ThAt (P : Program) (w : World) (K : PySem.W.Frag) (N : Nat) (H : Hp) (L : Addr) : Prop := ∃ (vs : List V) (ds : List PyData), H L = some (.lst vs) ∧ AqAll P w K (Wo [L] H) vs ds ∧ (∀ d ∈ ds, Gd 50000 40 d) ∧ vs.length ≤ N
theorem wo_get {H : Hp} {L t : Addr} {o : HO} (h : H t = some o) (ne : t ≠ L) : Wo [L] H t = some o := by
  unfold Wo
  rw [if_neg (fun z => ne (List.mem_singleton.mp z))]
  exact h
theorem ne_new {H : Hp} {L t : Addr} {o : HO} (h : H L = some o) (ht : H t = none) : t ≠ L := fun z => by rw [z, h] at ht; cases ht
theorem ThAt.ex {N : Nat} {H H' : Hp} {L : Addr} (e : Ex H H') (h : ThAt P w K N H L) : ThAt P w K N H' L :=
  let ⟨vs, ds, a, b, c, d⟩ := h
  ⟨vs, ds, e _ _ a, b.ex (wo_mono e), c, d⟩
theorem w_catTh {N M : Nat} {L b : Addr} {zs : List V} {es : List PyData} {H : Hp} {Q : VK} (th : ThAt P w K N H L) (hb : H b = some (.lst zs)) (az : AqAll P w K H zs es) (gz : ∀ e ∈ es, Gd 50000 40 e) (hz : zs.length ≤ M) (hn : N + M ≤ 1000)
    (q : ∀ p H', H p = none → Ex H H' → Ex H (Wo [p] H') → ThAt P w K (N + M) H' p → Q (.ref p) H') : rCat (.ref L) (.ref b) H Q := by
  obtain ⟨vs, ds, h1, h2, h3, h4⟩ := th
  refine w_cat h1 hb (by omega) fun p hp => ?_
  have e := ex_wo_new (Ex.new (o := HO.lst (vs ++ zs)) hp) hp
  exact q p _ hp (Ex.new hp) e ⟨vs ++ zs, ds ++ es, upd_same, (h2.ex (wo_ex.trans e)).app (az.ex e), fun d hd => (List.mem_append.mp hd).elim (h3 d) (gz d), by rw [List.length_append]; omega⟩
theorem w_appTh {N : Nat} {L : Addr} {y : V} {e : PyData} {H : Hp} {Q : VK} (th : ThAt P w K N H L) (ay : Aq P w K (Wo [L] H) y e) (gy : Gd 50000 40 e) (hn : N ≤ 1000)
    (q : ∀ H', Mu L H H' → Wo [L] H' = Wo [L] H → ThAt P w K (N + 1) H' L → Q .non H') : rAppend (.ref L) [y] H Q := by
  obtain ⟨vs, ds, h1, h2, h3, h4⟩ := th
  refine w_append h1 (by omega) ?_
  have e1 : Wo [L] (upd H L (.lst (vs ++ [y]))) = Wo [L] H := wo_upd (List.mem_singleton.mpr rfl)
  exact q _ (gen2 rfl).1 e1 ⟨vs ++ [y], ds ++ [e], upd_same, by rw [e1]; exact h2.app (.cons ay .nil), fun d hd => (List.mem_append.mp hd).elim (h3 d) fun h => by rw [List.mem_singleton.mp h]; exact gy, by rw [List.length_append, List.length_singleton]; omega⟩
theorem u_ask {f : PyData → Bool} {x : V} {d : PyData} {H : Hp} {Q : VK} {E : XK} (ha : Aq P w K H x d) (g : Gd 50000 40 d) (q : ∀ H', Ex H H' → Q (.bl (f d)) H') : spAsk P w K f [x] H Q E := ⟨x, d, rfl, ha, g.wt, q⟩
theorem w_reprV {x : V} {d : PyData} {H : Hp} {Q : VK} (ha : Aq P w K H x d) (g : Gd 50000 40 d) (q : Q (.str d.shown) H) : rReprV P w K [x] H Q := ⟨x, d, rfl, ha, g.sh, Nat.le_trans g.dp (by decide), gd_shown g (by decide), q⟩
theorem w_reprB {p : Addr} {a b c : Bool} {H : Hp} {Q : VK} (h : SqL K H p [.bl a, .bl b, .bl c]) (hp : p ≠ sysModules) (q : Q (.str (PyData.list [.bool a, .bool b, .bool c]).shown) H) : rReprV P w K [.ref p] H Q :=
  ⟨_, _, rfl, .lst h hp (.cons (.bl a) (.cons (.bl b) (.cons (.bl c) .nil))), by cases a <;> cases b <;> cases c <;> decide, by cases a <;> cases b <;> cases c <;> decide, by cases a <;> cases b <;> cases c <;> decide +kernel, q⟩
theorem w_frame {t : TE} {σ : L2.St} {H : Hp} {Q : VK} {L : Addr} {vs : List V} (hL : H L = some (.lst vs)) (h : t σ (Wo [L] H) fun v H' => (∀ a ∈ [L], H' a = none) → Q v (Bk [L] H H')) : tFrame t σ H Q :=
  ⟨[L], (fun a ha => by rw [List.mem_singleton.mp ha]; exact ⟨_, hL, trivial⟩), h⟩
theorem w_back {H H' : Hp} {Q : Hp → Prop} {L : Addr} {vs : List V} (hL : H L = some (.lst vs)) (q : ∀ H2, H' = Wo [L] H2 → H2 L = some (.lst vs) → Q H2) : (∀ a ∈ [L], H' a = none) → Q (Bk [L] H H') := fun hn => by
  refine q _ ?_ ((bk_in (List.mem_singleton.mpr rfl)).trans hL)
  funext b
  by_cases hb : b ∈ [L]
  · rw [wo_in hb]; exact hn b hb
  · rw [wo_out hb, bk_out hb]
theorem w_bk {H H' : Hp} {L : Addr} {vs : List V} (hL : H L = some (.lst vs)) (hn : ∀ a ∈ [L], H' a = none) : ∃ H2, Bk [L] H H' = H2 ∧ H' = Wo [L] H2 ∧ H2 L = some (.lst vs) := by
  refine ⟨_, rfl, ?_, (bk_in (List.mem_singleton.mpr rfl)).trans hL⟩
  funext b
  by_cases hb : b ∈ [L]
  · rw [wo_in hb]; exact hn b hb
  · rw [wo_out hb, bk_out hb]
theorem wo_up {H H2 : Hp} {L : Addr} (e : Ex (Wo [L] H) (Wo [L] H2)) (h : H2 L = H L) : Ex H H2 := fun b u q => by
  by_cases hb : b = L
  · rw [hb, h]; rw [hb] at q; exact q
  · have hn : b ∉ [L] := fun z => hb (List.mem_singleton.mp z)
    have := e b u (by rw [wo_out hn]; exact q)
    rw [wo_out hn] at this
    exact this
theorem st_wo {H : Hp} {L p : Addr} {xs tv : List V} (h : SqT K H p xs) (hL : H L = some (.lst tv)) : SqT K (Wo [L] H) p xs := by
  rcases h with (h | ⟨o, h⟩) | h
  · exact .inl (.inl (wo_get h fun z => by rw [z, hL] at h; cases h))
  · exact .inl (.inr ⟨o, wo_get h fun z => by rw [z, hL] at h; cases h⟩)
  · exact .inr h
theorem ThAt.le {N M : Nat} {H : Hp} {L : Addr} (h : ThAt P w K N H L) (hm : N ≤ M) : ThAt P w K M H L := let ⟨vs, ds, a, b, c, d⟩ := h; ⟨vs, ds, a, b, c, Nat.le_trans d hm⟩
theorem u_bent {a sc : Addr} {ns : List Int} {x : V} {d : PyData} {ds : List PyData} {k : Nat} {H : Hp} {Q : VK} {E : XK} (h : H a = some (PenO a sc)) (hs : SqL K H sc (ns.map V.int)) (hx : Aq P w K H x d) (hd : d = .tuple ds ∨ d = .list ds) (l2 : 2 ≤ ds.length) (lk : ds.length ≤ k) (k10 : k ≤ 10) (hw : ∀ e ∈ ds, Wd e)
    (q : ∀ (v : V) (d : PyData) H', Ex H H' → Aq P w K H' v d → Bent (k + 1) d → Q v H') : spBent P w K [.ref a, x] H Q E := ⟨a, sc, ns, x, d, ds, k, rfl, h, hs, hx, hd, l2, lk, k10, hw, q⟩
theorem cutD_len (ds : List PyData) (k : Nat) : (cutD ds none (some (k : Int))).length ≤ k := cutD_le
theorem cutD_from (ds : List PyData) (k : Nat) : (cutD ds (some (k : Int)) none).length ≤ ds.length - k := by
  unfold cutD
  rw [List.length_take, List.length_drop, HT.sIx_nat]
  omega
theorem gd_mid {ds : List PyData} {d : PyData} {n : Nat} (h : ∀ e ∈ ds, RowG e) (hl : ds.length ≤ 62) (hn : n < ds.length) (hd : Gd 16007 2 d) : Gd 50000 40 (.tuple (cutD ds none (some (n : Int)) ++ [d] ++ cutD ds (some ((n : Int) + 1)) none)) := by
  have a1 := wtAll_le (ds := cutD ds none (some (n : Int))) fun e he => (gd_row (h e (cutD_mem he))).wt
  have a2 := wtAll_le (ds := cutD ds (some ((n + 1 : Nat) : Int)) none) fun e he => (gd_row (h e (cutD_mem he))).wt
  have b1 := cutD_len ds n
  have b2 := cutD_from ds (n + 1)
  have c1 := Nat.mul_le_mul_right (489 + 1) b1
  have c2 := Nat.mul_le_mul_right (489 + 1) b2
  have hw := hd.wt
  refine (gd_tuple (n := 50000) (m := 2) ?_ ?_).more (by decide) (by decide)
  · rw [wtAll_app, wtAll_app]
    simp only [PyData.weightAll]
    have e : ((n : Int) + 1) = ((n + 1 : Nat) : Int) := by omega
    rw [e]
    omega
  · intro e he
    rcases List.mem_append.mp he with he | he
    · rcases List.mem_append.mp he with he | he
      · exact ⟨_, (gd_row (h e (cutD_mem he))).more (Nat.le_refl _) (by decide)⟩
      · rw [List.mem_singleton.mp he]; exact ⟨_, hd⟩
    · exact ⟨_, (gd_row (h e (cutD_mem he))).more (Nat.le_refl _) (by decide)⟩
theorem aq_seq {H : Hp} {v : V} {d : PyData} (h : Aq P w K H v d) (hb : seqB d = true) : ∃ t xs ds, v = .ref t ∧ (SqL K H t xs ∨ SqT K H t xs) ∧ AqAll P w K H xs ds ∧ (d = .tuple ds ∨ d = .list ds) := by
  cases h with
  | lst h1 h2 h3 => exact ⟨_, _, _, rfl, .inl h1, h3, .inr rfl⟩
  | tup h1 h2 => exact ⟨_, _, _, rfl, .inr h1, h2, .inl rfl⟩
  | _ => exact nomatch hb
theorem bent_row {k : Nat} {d : PyData} {ds : List PyData} (h : Bent k d) (hd : d = .tuple ds ∨ d = .list ds) (hl : 1 < ds.length) : ds.length ≤ k ∧ ∀ e ∈ ds, Wd e := by
  rcases h with ⟨es, h, h2, h3⟩ | ⟨_, h⟩
  · rcases hd with rfl | rfl <;> rcases h with h | h <;> cases h <;> exact ⟨h2, h3⟩
  · rcases hd with rfl | rfl <;> exact absurd (of_decide_eq_true h) (by omega)
def spLaw (K : PySem.W.Frag) : Sp := fun vs H Q _ => ∃ (a : Addr) (ns : List Int), vs = [.ref a] ∧ SqL K H a (ns.map V.int) ∧ ns.length ≤ 63 ∧ ∀ H', Q (.bl true) H'
set_option maxHeartbeats 4000000 in
theorem ok_law (T : Top K mg) (PT : Parts K w mg) : FnG P w K mg base CX0 6 T.f_law T.d_law ["script"] (spLaw K) := by
  refine okG T.F_law sc_law (fun vs H Q E h => ?_) (fun cdv A outer s H vs Q E gd hr h => ?_)
  · obtain ⟨a, ns, rfl, _⟩ := h
    rfl
  · obtain ⟨sc, ns, rfl, hsc, _, q⟩ := h
    refine ⟨_, (pss_cons (ps_set (i := 1) sc_law.nd rfl (Or.inl rfl) (pe_lstA (pa_cons (pv 0) (pa_cons pe_int (pa_cons pe_int pa_nil)))))
          (pss_shut (pss_cons (ps_for PassesOwn.never rfl (pi_range1 rfl T.z_range (pa_cons pe_int pa_nil)) (pg_name (i := 2) sc_law.nd rfl (Or.inl rfl))
            (pss_cons (ps_set (i := 3) sc_law.nd rfl (Or.inl rfl) (pe_call (ok_Lprogram T) (hr.mono (by decide)) (by rfl) T.g_Lprogram T.F_Lprogram.kp T.b_Lprogram .nil pass0 (pa_cons (pv 1) (pa_cons pe_int pa_nil))))
          (pss_cons (ps_set (i := 4) sc_law.nd rfl (Or.inl rfl) (pe_call (ok_Lnext T) (hr.mono (by decide)) (by rfl) T.g_Lnext T.F_Lnext.kp T.b_Lnext .nil pass0 (pa_cons (pv 1) (pa_cons pe_int pa_nil))))
          (pss_cut (ps_if (pt_cmpR op_eq (pv 4) pe_int (nomark _))
            (pss_cons (ps_set (i := 3) sc_law.nd rfl (Or.inl rfl) (pe_op op_repT (pe_op op_catA (pv 3) (pe_tup (pa_cons (pe_tup (pa_cons pe_str (pa_cons pe_str (pa_cons pe_str pa_nil)))) pa_nil))) pe_int))
          (pss_one (ps_set (i := 3) sc_law.nd rfl (Or.inl rfl) (pe_slice sl_tupA (pv 3) po_none (po_some (pe_op op_add pe_int (pe_call (ok_Lnext T) (hr.mono (by decide)) (by rfl) T.g_Lnext T.F_Lnext.kp T.b_Lnext .nil pass0 (pa_cons (pv 1) (pa_cons pe_int pa_nil)))))))))
            pss_nil)
          (pss_cons (ps_set (i := 5) sc_law.nd rfl (Or.inl rfl) (pe_lstA (pa_cons (pv 3) (pa_cons (pe_callTy call_listA (by rfl) T.z_list (by decide +kernel) (pa_cons (pv 3) pa_nil)) (pa_cons (pe_op op_catA (pv 3) (pe_tup (pa_cons pe_non pa_nil))) (pa_cons pe_non (pa_cons pe_str (pa_cons pe_int (pa_cons (pe_tup pa_nil) (pa_cons (pe_lstA pa_nil) (pa_cons pe_dnewK (pa_cons (pe_tup (pa_cons (pe_tup pa_nil) pa_nil)) pa_nil))))))))))))
          (pss_cons (ps_set (i := 5) sc_law.nd rfl (Or.inl rfl) (pe_op op_cat (pv 5) (pe_lstA (pa_cons (pe_disp (pps_cons pe_str pe_int pps_nil) (by rfl) (by rfl) (by simp) (by decide)) (pa_cons (pe_disp (pps_cons pe_int pe_str pps_nil) (by rfl) (by rfl) (by simp) (by decide)) (pa_cons (pe_disp1N (hu9_of hr) (pe_tup (pa_cons pe_str (pa_cons pe_str (pa_cons pe_str pa_nil)))) pe_non) (pa_cons (pe_lstA (pa_cons (pe_lstA pa_nil) pa_nil)) (pa_cons (pe_tup (pa_cons (pv 3) pa_nil)) (pa_cons pe_bl (pa_cons pe_int (pa_cons (pe_un un_neg pe_int) pa_nil)))))))))))
          (pss_cons (ps_set (i := 6) sc_law.nd rfl (Or.inl rfl) (pv 3))
          (pss_cut (ps_for PassesOwn.never rfl (pi_range1 rfl T.z_range (pa_cons (pe_call (ok_Lnext T) (hr.mono (by decide)) (by rfl) T.g_Lnext T.F_Lnext.kp T.b_Lnext .nil pass0 (pa_cons (pv 1) (pa_cons pe_int pa_nil))) pa_nil)) (pg_name (i := 7) sc_law.nd rfl (Or.inl rfl))
            (pss_one (ps_set (i := 6) sc_law.nd rfl (Or.inl rfl) (pe_ix ix_list (pe_lstA (pa_cons (pe_tup (pa_cons (pv 6) pa_nil)) (pa_cons (pe_lstA (pa_cons (pv 6) pa_nil)) pa_nil))) (pe_op op_mod (pv 7) pe_int) (fun _ _ => rfl)))))
          (pss_cons (ps_set (i := 5) sc_law.nd rfl (Or.inl rfl) (pe_op op_cat (pv 5) (pe_lstA (pa_cons (pe_op op_pow pe_int pe_int) (pa_cons (pv 6) pa_nil)))))
          (pss_cut (ps_for PassesOwn.never rfl (pi_range1 rfl T.z_range (pa_cons pe_int pa_nil)) (pg_name (i := 7) sc_law.nd rfl (Or.inl rfl))
            (pss_cut (ps_if (pt_cmpR (op_neD hr.units) (pv 3) (pe_tup pa_nil) (nomark _))
            (pss_cons (ps_set (i := 8) sc_law.nd rfl (Or.inl rfl) (pe_call (ok_Lnext T) (hr.mono (by decide)) (by rfl) T.g_Lnext T.F_Lnext.kp T.b_Lnext .nil pass0 (pa_cons (pv 1) (pa_cons (pe_callB call_len_seq (by rfl) T.z_len PySem.boot_len (pa_cons (pv 3) pa_nil)) pa_nil))))
          (pss_cons (ps_set (i := 9) sc_law.nd rfl (Or.inl rfl) (pe_frame (pe_call (ok_Lbent_row (P := P) (w := w) (base := base) T) (hr.mono (by decide)) (by rfl) T.g_Lbent_row T.F_Lbent_row.kp T.b_Lbent_row .nil pass0 (pa_cons (pv 1) (pa_cons (pe_ix ix_tup (pv 3) (pv 8) (fun _ _ => rfl)) pa_nil)))))
          (pss_cut (ps_for PassesOwn.never rfl (pi_range1 rfl T.z_range (pa_cons (pe_call (ok_Lnext T) (hr.mono (by decide)) (by rfl) T.g_Lnext T.F_Lnext.kp T.b_Lnext .nil pass0 (pa_cons (pv 1) (pa_cons pe_int pa_nil))) pa_nil)) (pg_name (i := 10) sc_law.nd rfl (Or.inl rfl))
            (pss_one (ps_if (PW.pt (pw_and (pt_val (pe_callB call_isTL (by rfl) T.z_isinstance (by decide +kernel) (pa_cons (pv 9) (pa_cons (pe_tup (pa_cons (pe_bltn (v := .ty "tuple") (by rfl) T.z_tuple (by decide +kernel) rfl) (pa_cons (pe_bltn (v := .ty "list") (by rfl) T.z_list (by decide +kernel) rfl) pa_nil))) pa_nil)))) (pw_and1 (pt_cmpR op_gt (pe_callB call_len_seq (by rfl) T.z_len PySem.boot_len (pa_cons (pv 9) pa_nil)) pe_int (nomark _)))))
            (pss_one (ps_set (i := 9) sc_law.nd rfl (Or.inl rfl) (pe_frame (pe_call (ok_Lbent_row (P := P) (w := w) (base := base) T) (hr.mono (by decide)) (by rfl) T.g_Lbent_row T.F_Lbent_row.kp T.b_Lbent_row .nil pass0 (pa_cons (pv 1) (pa_cons (pv 9) pa_nil))))))
            pss_nil)))
          (pss_cons (ps_expr (pe_bm PySem.F.plainAttrs_list PySem.F.slot_list_append PySem.F.type_list_append mt_append (pv 5) (pa_cons (pe_op op_catT (pe_op op_catA (pe_slice sl_tup (pv 3) po_none (po_some (pv 8))) (pe_tup (pa_cons (pv 9) pa_nil))) (pe_slice sl_tup (pv 3) (po_some (pe_op op_add (pv 8) pe_int)) po_none)) pa_nil)))
          (pss_one (ps_set (i := 5) sc_law.nd rfl (Or.inl rfl) (pe_op op_cat (pe_op op_cat (pv 5) (pe_lstA (pa_cons (pv 9) (pa_cons (pe_ix ix_tup (pv 3) (pv 8) (fun _ _ => rfl)) pa_nil)))) (pe_callTy call_listA (by rfl) T.z_list (by decide +kernel) (pa_cons (pe_ix ix_tup (pv 3) (pv 8) (fun _ _ => rfl)) pa_nil)))))))))
            pss_nil)
          (pss_one (ps_expr (pe_bm PySem.F.plainAttrs_list PySem.F.slot_list_append PySem.F.type_list_append mt_append (pv 5) (pa_cons (pe_frame (pe_call (ok_Lbad_word (P := P) (w := w) (base := base) T) (hr.mono (by decide)) (by rfl) T.g_Lbad_word T.F_Lbad_word.kp T.b_Lbad_word .nil pass0 (pa_cons (pv 1) pa_nil))) pa_nil))))))
          (pss_cut (ps_for PassesOwn.never rfl (pi_list (pv 5)) (pg_name (i := 11) sc_law.nd rfl (Or.inl rfl))
            (pss_cons (ps_set (i := 12) sc_law.nd rfl (Or.inl rfl) (pe_callB (call_reprV gd (hu200_of hr)) (by rfl) T.z_repr (by decide +kernel) (pa_cons (pv 11) pa_nil)))
          (pss_cons (ps_set (i := 13) sc_law.nd rfl (Or.inl rfl) (pe_lstA (pa_cons (pe_call (ok_Lword_is (P := P) (w := w) (base := base) T) (hr.mono (by decide)) (by rfl) T.g_Lword_is T.F_Lword_is.kp T.b_Lword_is .nil pass0 (pa_cons (pv 11) pa_nil)) (pa_cons (pe_call (ok_Lrow_is (P := P) (w := w) (base := base) T) (hr.mono (by decide)) (by rfl) T.g_Lrow_is T.F_Lrow_is.kp T.b_Lrow_is .nil pass0 (pa_cons (pv 11) pa_nil)) (pa_cons (pe_call (ok_Lprogram_is (P := P) (w := w) (base := base) T) (hr.mono (by decide)) (by rfl) T.g_Lprogram_is T.F_Lprogram_is.kp T.b_Lprogram_is .nil pass0 (pa_cons (pv 11) pa_nil)) pa_nil)))))
          (pss_cons (ps_set (i := 14) sc_law.nd rfl (Or.inl rfl) (pe_lstA (pa_cons (pe_call (ok_is_word (P := P) (w := w) (base := base) T) (hr.mono (by decide)) (by rfl) T.g_is_word T.F_is_word.kp T.b_is_word .nil pass0 (pa_cons (pv 11) pa_nil)) (pa_cons (pe_call (ok_is_row (P := P) (w := w) (base := base) T PT) (hr.mono (by decide)) (by rfl) T.g_is_row T.F_is_row.kp T.b_is_row .nil pass0 (pa_cons (pv 11) pa_nil)) (pa_cons (pe_call (ok_is_program (P := P) (w := w) (base := base) T PT) (hr.mono (by decide)) (by rfl) T.g_is_program T.F_is_program.kp T.b_is_program .nil pass0 (pa_cons (pv 11) pa_nil)) pa_nil)))))
          (pss_one (ps_if (PW.pt (pw_or (pt_cmpR op_ne (pe_callB (call_reprV gd (hu200_of hr)) (by rfl) T.z_repr (by decide +kernel) (pa_cons (pv 14) pa_nil)) (pe_callB (call_reprV gd (hu200_of hr)) (by rfl) T.z_repr (by decide +kernel) (pa_cons (pv 13) pa_nil)) (nomark _)) (pw_or1 (pt_cmpR op_ne (pe_callB (call_reprV gd (hu200_of hr)) (by rfl) T.z_repr (by decide +kernel) (pa_cons (pv 11) pa_nil)) (pv 12) (nomark _)))))
            (pss_one (ps_ret pe_bl))
            pss_nil)))))) pss_nil)))))))))))
          (pss_one (ps_ret pe_bl))))), ?_⟩
    rw [show start ["script", "_law_pen", "_law_k", "_law_told", "_law_way", "_law_things", "_law_deep", "_law_turn", "_law_at", "_law_row_here", "_law_again", "_law_thing", "_law_text", "_law_due", "_law_found"] [V.ref sc] = [some (V.ref sc), none, none, none, none, none, none, none, none, none, none, none, none, none, none] from rfl]
    try dsimp only [cxOf]
    walk_at "rd"
    rename_i pen hpen hpm H1 e1 h1
    refine w_shut (i := 0) (c := 0) h1 (Int.le_refl 0) ?_
    generalize hX : upd H1 pen (PenO pen sc) = H2
    obtain ⟨m2, h2⟩ := gen2 hX
    clear hX
    have eH : Ex H H2 := m2.ex e1 hpen
    have sc2 : SqL K H2 sc _ := ex_l eH hsc
    clear e1 h1 m2 hpen hsc eH
    walk_at "rd"
    refine l_range (fun i σ' H' => ∃ a b c d e f g h i j k l m : Option V, σ' = [some (V.ref sc), some (V.ref pen), a, b, c, d, e, f, g, h, i, j, k, l, m] ∧ Ex H2 H') ⟨_, _, _, _, _, _, _, _, _, _, _, _, _, rfl, Ex.refl _⟩ ?_ ?_
    · rintro kk σ' H3 hk ⟨a, b, c, d, e, f, g, h, i, j, k, l, m, rfl, e3⟩
      walk_at "rd"
      rename_i p0 ds0 H4 e4 htold hdl way H5 way0 way1 e5
      refine w_cut (fun σ' H' => ∃ (p : Addr) (ds : List PyData), σ' = [some (V.ref sc), some (V.ref pen), some (V.int (kk : Int)), some (V.ref p), some (V.int way), d, e, f, g, h, i, j, k, l, m] ∧ Ex H2 H' ∧ ToldAt P w K H' p ds) ?_ ?_
      · walk_at "rd"
        refine ite2 (fun hw => ?_) (fun hw => ?_)
        · obtain ⟨vs, ht1, ht2, ht3, ht4⟩ := htold.ex e5
          walk_at "rd"
          rename_i q1 hq1 H6 e6 h6 q2 hq2 H7 e7 h7
          have hl := ht2.len
          refine w_catA (ex_t e7 (ex_t e6 ht1)) (st_of h7) (by rw [List.length_singleton]; omega) fun q3 H8 e8 h8 => ?_
          walk_at "rd"
          refine w_repT h8 (fun z => nomatch (List.append_eq_nil_iff.mp z).2) (by decide) (by rw [List.length_append, List.length_singleton]; omega) fun q4 H9 e9 h9 => ?_
          walk_at "rd"
          rename_i r9 H10 r90 r91 e10
          obtain ⟨n9, hn9⟩ := Int.eq_ofNat_of_zero_le (a := 59 + r9) (by omega)
          rw [hn9]
          refine w_slA (ex_t e10 h9) fun q5 H11 e11 h11 => ?_
          walk_at "rd"
          have E8 : Ex H5 H11 := ((((e6.trans e7).trans e8).trans e9).trans e10).trans e11
          have hrow : Aq P w K H11 (V.ref q1) (.tuple [.str (Str.ofString "new"), .str (Str.ofString "a"), .str (Str.ofString "b")]) := .tup (st_of (((((e7.trans e8).trans e9).trans e10).trans e11) _ _ h6)) (.cons (.str _) (.cons (.str _) (.cons (.str _) .nil)))
          refine ⟨q5, cutD (List.replicate 61 (ds0 ++ [_])).flatten none (some (n9 : Int)), rfl, ((e3.trans e4).trans e5).trans E8, _, h11, (((ht2.ex E8).app (.cons hrow .nil)).rep 61).cut _ _, fun d hd => ?_, Nat.le_trans cutD_le (by omega)⟩
          obtain ⟨l, hl1, hl2⟩ := List.mem_flatten.mp (cutD_mem hd)
          rw [(List.mem_replicate.mp hl1).2] at hl2
          rcases List.mem_append.mp hl2 with hl2 | hl2
          · exact ht3 d hl2
          · rw [List.mem_singleton.mp hl2]
            exact ⟨_, _, rfl, by decide +kernel, by simp, by simp, fun e he => by
              simp only [List.mem_cons, List.not_mem_nil, or_false] at he
              rcases he with rfl | rfl <;> exact ⟨_, rfl, by decide +kernel⟩⟩
        · walk_at "rd"
          exact ⟨p0, ds0, rfl, (e3.trans e4).trans e5, htold.ex e5⟩
      · rintro σ' H' ⟨p, ds, rfl, eP, ht⟩
        clear htold e3 e4 e5
        obtain ⟨vs, ht1, ht2, ht3, ht4⟩ := ht
        have hl := ht2.len
        walk_at "rd"
        rename_i n1 G1 f1 m1 s1 n2 hn2 G2 f2 s2 n3 G3 f3 s3 n4 hn4 G4 f4 s4 n5 hn5 m5 G5 f5 s5 n6 hn6 G6 f6 s6 n7 hn7 G7 f7 s7 n8 hn8 G8 f8 s8 n9 hn9 m9 G9 f9 s9 n10 G10 f10 s10 n11 G11 f11 s11 n12 t12 G12 f12 s12 r12 n13 hn13 m13 G13 f13 s13 n14 hn14 m14 G14 f14 s14 n15 hn15 G15 f15 s15 n16 hn16 m16 G16 f16 s16 n17 hn17 G17 f17 s17
        have F16 : Ex G16 (Wo [n17] G17) := ex_wo_new f17 hn17
        have F15 : Ex G15 (Wo [n17] G17) := f16.trans F16
        have F14 : Ex G14 (Wo [n17] G17) := f15.trans F15
        have F13 : Ex G13 (Wo [n17] G17) := f14.trans F14
        have F12 : Ex G12 (Wo [n17] G17) := f13.trans F13
        have F11 : Ex G11 (Wo [n17] G17) := f12.trans F12
        have F10 : Ex G10 (Wo [n17] G17) := f11.trans F11
        have F9 : Ex G9 (Wo [n17] G17) := f10.trans F10
        have F8 : Ex G8 (Wo [n17] G17) := f9.trans F9
        have F7 : Ex G7 (Wo [n17] G17) := f8.trans F8
        have F6 : Ex G6 (Wo [n17] G17) := f7.trans F7
        have F5 : Ex G5 (Wo [n17] G17) := f6.trans F6
        have F4 : Ex G4 (Wo [n17] G17) := f5.trans F5
        have F3 : Ex G3 (Wo [n17] G17) := f4.trans F4
        have F2 : Ex G2 (Wo [n17] G17) := f3.trans F3
        have F1 : Ex G1 (Wo [n17] G17) := f2.trans F2
        have F0 : Ex H' (Wo [n17] G17) := f1.trans F1
        have D0 := ht2.ex F0
        have wt0 := told_gd ht3 (Nat.le_trans ht4 (by decide))
        have gi : ∀ e ∈ ds, ∃ k, Gd k 1 e := fun e he => ⟨_, gd_row (ht3 e he)⟩
        have gt : Gd 50000 2 (.tuple ds) := (gd_tuple wt0 gi).more (by decide) (by decide)
        have at_ : Aq P w K (Wo [n17] G17) (.ref p) (.tuple ds) := .tup (ex_t F0 ht1) D0
        have th : ThAt P w K 18 G17 n17 := by
          refine ⟨_, [.tuple ds, .list ds, .tuple (ds ++ [.none]), .none, .str (Str.ofString "new"), .int 7, .tuple [], .list [], .dict [], .tuple [.tuple []]] ++ [.dict [(.str (Str.ofString "a"), .int 1)], .dict [(.int 0, .str (Str.ofString "a"))], .dict [(.tuple [.str (Str.ofString "new"), .str (Str.ofString "a"), .str (Str.ofString "b")], .none)], .list [.list []], .tuple [.tuple ds], .bool false, .int 0, .int (-7)], s17, ?_, ?_, by simp⟩
          · refine AqAll.app ?_ ?_
            · refine .cons at_ (.cons (.lst (ex_l F1 s1) m1 D0) (.cons (.tup (ex_t F3 s3) (D0.app (.cons .non .nil))) (.cons .non (.cons (.str _) (.cons (.int _) (.cons (.tup (st_of (F4 _ _ s4)) .nil) (.cons (.lst (sq_of (F5 _ _ s5)) m5 .nil) (.cons (.dic (ps := []) (.inl ⟨[], F6 _ _ s6, rfl⟩) .nil .nil) (.cons (.tup (st_of (F8 _ _ s8)) (.cons (.tup (st_of (F7 _ _ s7)) .nil) .nil)) .nil)))))))))
            · refine .cons (.dic (ps := [(.str _, .int 1)]) (.inl ⟨_, F10 _ _ s10, rfl⟩) (.cons (.str _) .nil) (.cons (.int _) .nil)) (.cons (.dic (ps := [(.int 0, .str _)]) (.inl ⟨_, F11 _ _ s11, rfl⟩) (.cons (.int _) .nil) (.cons (.str _) .nil)) (.cons (.dic (ps := [(.ref t12, .non)]) (.inr ⟨_, F12 _ _ r12, rfl⟩) (.cons (.tup (st_of (F12 _ _ s12)) (.cons (.str _) (.cons (.str _) (.cons (.str _) .nil)))) .nil) (.cons .non .nil)) (.cons (.lst (sq_of (F14 _ _ s14)) m14 (.cons (.lst (sq_of (F13 _ _ s13)) m13 .nil) .nil)) (.cons (.tup (st_of (F15 _ _ s15)) (.cons at_ .nil)) (.cons (.bl _) (.cons (.int _) (.cons (.int _) .nil)))))))
          · intro d hd
            have g3 : Gd 50000 40 (.tuple (ds ++ [.none])) := (gd_tuple (n := 63 * 490 + 1) (by rw [wtAll_app]; exact Nat.add_le_add wt0 (by decide)) (m := 1) fun e he => (List.mem_append.mp he).elim (gi e) fun h => by rw [List.mem_singleton.mp h]; exact ⟨1, ⟨by decide, by decide, rfl, rfl⟩⟩).more (by decide) (by decide)
            have g15 : Gd 50000 40 (.tuple [.tuple ds]) := (gd_tuple (n := 63 * 490 + 1) (by have := wt0; simp only [PyData.weightAll, PyData.weight]; omega) (m := 2) fun e he => by rw [List.mem_singleton.mp he]; exact ⟨_, gt⟩).more (by decide) (by decide)
            simp only [List.mem_append, List.mem_cons, List.not_mem_nil, or_false] at hd
            rcases hd with (rfl | rfl | rfl | rfl | rfl | rfl | rfl | rfl | rfl | rfl) | (rfl | rfl | rfl | rfl | rfl | rfl | rfl | rfl)
            · exact gt.more (by decide) (by decide)
            · exact (gd_list wt0 gi).more (by decide) (by decide)
            · exact g3
            all_goals first | exact g15 | exact ⟨by decide +kernel, by decide +kernel, by decide +kernel, by decide +kernel⟩
        have hLn : G17 n17 ≠ none := by rw [s17]; exact Option.some_ne_none _
        have eG : Ex H2 G17 := eP.trans ((((((((((((((((f1.trans f2).trans f3).trans f4).trans f5).trans f6).trans f7).trans f8).trans f9).trans f10).trans f11).trans f12).trans f13).trans f14).trans f15).trans f16).trans f17)
        have ht' : ToldAt P w K G17 p ds := ⟨vs, ex_t wo_ex (ex_t F0 ht1), D0.ex wo_ex, ht3, ht4⟩
        clear f1 f2 f3 f4 f5 f6 f7 f8 f9 f10 f11 f12 f13 f14 f15 f16 f17 F0 F1 F2 F3 F4 F5 F6 F7 F8 F9 F10 F11 F12 F13 F14 F15 F16 s1 s2 s3 s4 s5 s6 s7 s8 s9 s10 s11 s12 s13 s14 s15 s16 s17 r12 hn2 hn4 hn5 hn6 hn7 hn8 hn9 hn13 hn14 hn15 hn16 hn17 ht1 ht2 D0 eP
        refine w_cut (fun σ' H'' => ∃ (v : V) (dd : PyData) (x : Option V), σ' = [some (V.ref sc), some (V.ref pen), some (V.int (kk : Int)), some (V.ref p), some (V.int way), some (V.ref n17), some v, x, g, h, i, j, k, l, m] ∧ Ex G17 H'' ∧ Aq P w K (Wo [n17] H'') v dd ∧ Gd 50000 20 dd) ?_ ?_
        · walk_at "rd"
          rename_i rd K1 rd0 rd1 ek
          refine l_range (fun ii σ' H'' => ∃ (v : V) (dd : PyData) (x : Option V), σ' = [some (V.ref sc), some (V.ref pen), some (V.int (kk : Int)), some (V.ref p), some (V.int way), some (V.ref n17), some v, x, g, h, i, j, k, l, m] ∧ Ex G17 H'' ∧ Aq P w K (Wo [n17] H'') v dd ∧ Gd (63 * 490 + ii) (2 + ii) dd) ⟨_, .tuple ds, _, rfl, ek, at_.ex (wo_mono ek), gd_tuple wt0 gi⟩ ?_ ?_
          · rintro ii σ' H'' hii ⟨v, dd, x, rfl, e9, a9, g9⟩
            have hL2 : ∃ o, H'' n17 = some o := by
              obtain ⟨_, _, z, _⟩ := th
              exact ⟨_, e9 _ _ z⟩
            obtain ⟨oL, hL2⟩ := hL2
            walk_at "rd"
            rename_i t1 ht1 J1 j1 k1 t2 ht2 mt2 J2 j2 k2 t3 ht3 mt3 J3 j3 k3
            refine w_ixLP (sq_of k3) (Int.emod_nonneg _ (by decide)) (by show _ < ((2 : Nat) : Int); exact Int.emod_lt_of_pos _ (by decide)) fun vv hv => ?_
            walk_at "rd"
            have A3 := a9.ex (wo_mono (A := [n17]) ((j1.trans j2).trans j3))
            have nt1 : t1 ≠ n17 := ne_new hL2 ht1
            have nt2 : t2 ≠ n17 := ne_new (j1 _ _ hL2) ht2
            simp only [List.mem_cons, List.not_mem_nil, or_false] at hv
            rcases hv with rfl | rfl
            · exact ⟨_, .tuple [dd], _, rfl, ((e9.trans j1).trans j2).trans j3, .tup (st_of (wo_get (j3 _ _ (j2 _ _ k1)) nt1)) (.cons A3 .nil), gd_tuple (by have := g9.wt; simp only [PyData.weightAll]; omega) fun e he => by rw [List.mem_singleton.mp he]; exact ⟨_, g9⟩⟩
            · exact ⟨_, .list [dd], _, rfl, ((e9.trans j1).trans j2).trans j3, .lst (sq_of (wo_get (j3 _ _ k2) nt2)) mt2 (.cons A3 .nil), gd_list (by have := g9.wt; simp only [PyData.weightAll]; omega) fun e he => by rw [List.mem_singleton.mp he]; exact ⟨_, g9⟩⟩
          · rintro σ' H'' ⟨v, dd, x, rfl, e9, a9, g9⟩
            walk_at "rd"
            exact ⟨v, dd, x, rfl, e9, a9, g9.more (by omega) (by omega)⟩
        · rintro σ' H'' ⟨v, dd, x, rfl, e9, a9, g9⟩
          have th2 := th.ex e9
          have ht2 := ht'.ex e9
          have eH2 := eG.trans e9
          clear th at_ ht' eG
          walk_at "rd"
          rename_i b1 hb1 mb1 B1 eb1 sb1
          have thb := th2.ex eb1
          have gv : Gd 50000 40 dd := g9.more (by decide) (by decide)
          refine w_catTh (M := 2) (es := [.int (10 ^ (59 : Int).toNat), dd]) thb sb1 (.cons (.int _) (.cons (a9.ex (wo_ex.trans eb1)) .nil)) (fun e he => ?_) (by simp) (by decide) fun L0 B2 hL0 eb2 eb3 th3 => ?_
          · simp only [List.mem_cons, List.not_mem_nil, or_false] at he
            rcases he with rfl | rfl
            · exact ⟨by decide, by decide, by decide +kernel, by decide +kernel⟩
            · exact gv
          walk_at "rd"
          refine w_cut (fun σ' H4 => ∃ (L : Addr) (a b c d e : Option V), σ' = [some (V.ref sc), some (V.ref pen), some (V.int (kk : Int)), some (V.ref p), some (V.int way), some (V.ref L), a, b, c, d, e, j, k, l, m] ∧ Ex H'' (Wo [L] H4) ∧ ThAt P w K 52 H4 L) ?_ ?_
          · walk_at "rd"
            refine l_range (fun ii σ' H4 => ∃ (L : Addr) (a b c d e : Option V), σ' = [some (V.ref sc), some (V.ref pen), some (V.int (kk : Int)), some (V.ref p), some (V.int way), some (V.ref L), a, b, c, d, e, j, k, l, m] ∧ Ex H'' (Wo [L] H4) ∧ ThAt P w K (20 + 8 * ii) H4 L) ⟨L0, _, _, _, _, _, rfl, eb1.trans eb3, th3⟩ ?_ ?_
            · rintro ii σ' H4 hii ⟨L, a, b, c, d, e, rfl, eL, thL⟩
              walk_at "rd"
              refine w_cut (fun σ' H5 => ∃ (L : Addr) (c d e : Option V), σ' = [some (V.ref sc), some (V.ref pen), some (V.int (kk : Int)), some (V.ref p), some (V.int way), some (V.ref L), a, some (V.int (ii : Int)), c, d, e, j, k, l, m] ∧ Ex H'' (Wo [L] H5) ∧ ThAt P w K (27 + 8 * ii) H5 L) ?_ ?_
              · walk_at "rd"
                rename_i pe hpe J1 j1 k1
                have eJ : Ex H'' (Wo [L] J1) := eL.trans (wo_mono j1)
                obtain ⟨vs, t1, t2, t3, t4⟩ := ht2.ex eJ
                have thJ := thL.ex j1
                have hlv := t2.len
                refine ⟨.tuple ds, .tuple [], .tup (ex_t wo_ex t1) (AqAll.dp (t2.ex wo_ex) (told_plain t3).1), .tup (st_of k1) .nil, told_shaped t3, by decide, ?_⟩
                have pen0 : Wo [L] J1 pen = some (PenO pen sc) := (eH2.trans eJ) _ _ h2
                have scr0 : SqL K (Wo [L] J1) sc (ns.map V.int) := ex_l (eH2.trans eJ) sc2
                have penJ : J1 pen = some (PenO pen sc) := wo_ex _ _ pen0
                have scrJ : SqL K J1 sc (ns.map V.int) := ex_l wo_ex scr0
                refine w_bl ?_
                have hnil : PyData.eqv (.tuple ds) (.tuple []) = ds.isEmpty := by cases ds <;> simp [PyData.eqv, PyData.eqvAll]
                rw [hnil]
                have hL0 := thJ
                generalize hemp : ds.isEmpty = emp
                cases emp with
                | true =>
                  rw [if_neg (show ¬ (!true) = true from Bool.false_ne_true)]
                  walk_at "rd"
                  exact ⟨L, _, _, _, rfl, eJ, thJ.le (by omega)⟩
                | false =>
                  rw [if_pos (show (!false) = true from rfl)]
                  have hne : 1 ≤ vs.length := by
                    rw [hlv]
                    cases ds with
                    | nil => exact nomatch hemp
                    | cons _ _ => rw [List.length_cons]; omega
                  have hle : vs.length ≤ 62 := by rw [hlv]; exact t4
                  obtain ⟨tv, td, g1, g2, g3, g4⟩ := thJ
                  have told1 : SqT K J1 p vs := ex_t wo_ex t1
                  walk_at "rd"
                  rename_i ra J2 ra0 ra1 j2
                  obtain ⟨na, rfl⟩ := Int.eq_ofNat_of_zero_le ra0
                  have hna : na < vs.length := by omega
                  have hvi : vs[na]? = some vs[na] := List.getElem?_eq_getElem hna
                  obtain ⟨rd, hrd, ard⟩ := t2.at hvi
                  have rg := t3 rd (List.mem_of_getElem? hrd)
                  have W12 : Ex (Wo [L] J1) (Wo [L] J2) := wo_mono j2
                  have gL2 := j2 _ _ g1
                  refine w_frame gL2 ?_
                  have penW : Wo [L] J2 pen = some (PenO pen sc) := W12 _ _ pen0
                  have scrW : SqL K (Wo [L] J2) sc (ns.map V.int) := ex_l W12 scr0
                  have toldW : SqT K (Wo [L] J2) p vs := ex_t W12 t1
                  walk_at "rd"
                  obtain ⟨es, hes, hes3, hes4, hes5, hes6⟩ := rowG_items rg
                  refine u_bent (k := 4) penW scrW (ard.ex W12) (.inl hes) (by omega) hes4 (by decide) hes6 fun bv bd J3' eb ab bb => w_back gL2 fun J3 eq3 gL3 => ?_
                  subst eq3
                  have j3 : Ex J2 J3 := wo_up eb (gL3.trans gL2.symm)
                  have W13 : Ex (Wo [L] J1) (Wo [L] J3) := W12.trans eb
                  walk_at "rd"
                  refine w_cut (fun σ' J => ∃ (v : V) (d : PyData) (e : Option V), σ' = [some (V.ref sc), some (V.ref pen), some (V.int (kk : Int)), some (V.ref p), some (V.int way), some (V.ref L), a, some (V.int (ii : Int)), some (V.int (na : Int)), some v, e, j, k, l, m] ∧ Ex (Wo [L] J3) (Wo [L] J) ∧ J L = some (.lst tv) ∧ Aq P w K (Wo [L] J) v d ∧ Bent 7 d) ?_ ?_
                  · have pen3 : J3 pen = some (PenO pen sc) := wo_ex _ _ (eb _ _ penW)
                    have scr3 : SqL K J3 sc (ns.map V.int) := ex_l wo_ex (ex_l eb scrW)
                    walk_at "rd"
                    rename_i rt J4 rt0 rt1 j4
                    refine l_range (fun ti σ' J => ∃ (v : V) (d : PyData) (e : Option V), σ' = [some (V.ref sc), some (V.ref pen), some (V.int (kk : Int)), some (V.ref p), some (V.int way), some (V.ref L), a, some (V.int (ii : Int)), some (V.int (na : Int)), some v, e, j, k, l, m] ∧ Ex (Wo [L] J3) (Wo [L] J) ∧ J L = some (.lst tv) ∧ Aq P w K (Wo [L] J) v d ∧ Bent (5 + ti) d) ⟨bv, bd, _, rfl, wo_mono j4, j4 _ _ gL3, ab.ex (wo_mono j4), bb⟩ ?_ ?_
                    · rintro ti σ' J hti ⟨v, d, e, rfl, eJ3, gLJ, av, bn⟩
                      walk_at "rd"
                      rename_i tq htq J6 j6 k6
                      have W6 : Ex (Wo [L] J) (Wo [L] J6) := wo_mono j6
                      have av6 := av.ex W6
                      refine ⟨v, d, tq, rfl, k6, av6.ex wo_ex, ?_⟩
                      refine w_bl ?_
                      have bn6 : Bent (5 + (ti + 1)) d := by
                        rcases bn with ⟨es, h1, h2, h3⟩ | h
                        · exact .inl ⟨es, h1, by omega, h3⟩
                        · exact .inr h
                      generalize hsb : seqB d = sb
                      cases sb with
                      | false =>
                        rw [if_neg Bool.false_ne_true, if_neg Bool.false_ne_true]
                        walk_at "rd"
                        exact ⟨v, d, _, rfl, eJ3.trans W6, j6 _ _ gLJ, av6, bn6⟩
                      | true =>
                        rw [if_pos rfl]
                        obtain ⟨t, xs, es2, rfl, hsq, hal, hd⟩ := aq_seq av6 hsb
                        have hll := hal.len
                        have hsq6 : SqL K J6 t xs ∨ SqT K J6 t xs := hsq.imp (ex_l wo_ex) (ex_t wo_ex)
                        walk_at "rd"
                        refine ⟨t, xs, rfl, hsq6, ?_⟩
                        walk_at "rd"
                        refine ite2 (fun hgt => ?_) (fun hgt => ?_)
                        · have hgt2 := of_decide_eq_true hgt
                          walk_at "rd"
                          have gL6 := j6 _ _ gLJ
                          refine w_frame gL6 ?_
                          have pen6 : Wo [L] J6 pen = some (PenO pen sc) := W6 _ _ (eJ3 _ _ (eb _ _ penW))
                          have scr6 : SqL K (Wo [L] J6) sc (ns.map V.int) := ex_l W6 (ex_l eJ3 (ex_l eb scrW))
                          walk_at "rd"
                          obtain ⟨bl, bw⟩ := bent_row bn hd (by omega)
                          refine u_bent (k := 5 + ti) pen6 scr6 av6 hd (by omega) bl (by omega) bw fun bv bd J7' eb7 ab7 bb7 hn => ?_
                          obtain ⟨J7, hB, rfl, gL7⟩ := w_bk gL6 hn
                          rw [hB]
                          walk_at "rd"
                          exact ⟨bv, bd, _, rfl, (eJ3.trans W6).trans eb7, gL7, ab7, bb7⟩
                        · walk_at "rd"
                          exact ⟨_, d, _, rfl, eJ3.trans W6, j6 _ _ gLJ, av6, bn6⟩
                    · rintro σ' J ⟨v, d, e, rfl, eJ3, gLJ, av, bn⟩
                      walk_at "rd"
                      refine ⟨v, d, _, rfl, eJ3, gLJ, av, ?_⟩
                      rcases bn with ⟨es, h1, h2, h3⟩ | h
                      · exact .inl ⟨es, h1, by omega, h3⟩
                      · exact .inr h
                  · rintro σ' J ⟨v, d, e, rfl, eJ3, gLJ, av, bn⟩
                    have W1J : Ex (Wo [L] J1) (Wo [L] J) := W13.trans eJ3
                    have told2 : SqT K J p vs := ex_t wo_ex (ex_t W1J t1)
                    have nw1 : ¬ (HT.sIx vs.length 0 none = 0 ∧ HT.sIx vs.length vs.length (some (na : Int)) = vs.length) := nw_to hna
                    have nw2 : ¬ (HT.sIx vs.length 0 (some ((na : Int) + 1)) = 0 ∧ HT.sIx vs.length vs.length none = vs.length) := nw_from (k := na + 1) (by omega) (by omega)
                    walk_at "rd"
                    refine w_slT told2 nw1 fun q1 I1 i1 s1 => ?_
                    walk_at "rd"
                    rename_i q2 hq2 I2 i2 k2
                    have c1 := cut_to (xs := vs) (k := na) (by omega)
                    have c2 : (cutV vs (some ((na : Int) + 1)) none).length = vs.length - (na + 1) := cut_from (k := na + 1) (by omega)
                    refine w_catA (ex_t i2 s1) (st_of k2) (by rw [c1, List.length_singleton]; omega) fun q3 I3 i3 s3 => ?_
                    walk_at "rd"
                    refine w_slT (ex_t ((i1.trans i2).trans i3) told2) nw2 fun q4 I4 i4 s4 => ?_
                    walk_at "rd"
                    refine w_catT (ex_t i4 s3) s4 (fun z => nomatch (List.append_eq_nil_iff.mp z).2) (by rw [List.length_append, c1, c2, List.length_singleton]; omega) fun q5 I5 i5 s5 => ?_
                    have eI : Ex J I5 := (((i1.trans i2).trans i3).trans i4).trans i5
                    have WI : Ex (Wo [L] J) (Wo [L] I5) := wo_mono eI
                    have gLI := eI _ _ gLJ
                    have W1I := W1J.trans WI
                    have avI := av.ex WI
                    have gdv := gd_bent bn
                    have gdr := gd_row rg
                    have hlen2 : na < ds.length := by omega
                    refine w_nil ?_
                    refine w_appTh (e := .tuple (cutD ds none (some (na : Int)) ++ [d] ++ cutD ds (some ((na : Int) + 1)) none)) (N := 20 + 8 * ii) ⟨tv, td, gLI, g2.ex W1I, g3, g4⟩ (.tup (st_wo s5 gLI) ((((t2.ex W1I).cut _ _).app (.cons avI .nil)).app ((t2.ex W1I).cut _ _))) (gd_mid t3 t4 hlen2 gdv) (by omega) fun I6 mu e6 th6 => ?_
                    have told6 : SqT K I6 p vs := ex_t wo_ex (by rw [e6]; exact ex_t W1I t1)
                    have E6 : Ex (Wo [L] J1) I6 := Ex.trans (by rw [e6]; exact W1I) wo_ex
                    have av6 : Aq P w K I6 v d := Aq.ex wo_ex (by rw [e6]; exact avI)
                    obtain ⟨tr, xr, hvr, hsr, hal⟩ : ∃ tr xr, vs[na] = .ref tr ∧ SqT K (Wo [L] J1) tr xr ∧ AqAll P w K (Wo [L] J1) xr es := by
                      rw [hes] at ard
                      generalize vs[na] = vv at ard
                      cases ard with
                      | tup h1 h2 => exact ⟨_, _, rfl, h1, h2⟩
                    have hlr := hal.len
                    walk_at "rd"
                    rename_i q7 hq7 mq7 I7 i7 k7
                    refine w_catTh (M := 2) (es := [d, rd]) (th6.ex i7) k7 (.cons (av6.ex i7) (.cons (ard.ex (E6.trans i7)) .nil)) (fun e he => ?_) (by simp) (by omega) fun L2 I8 hL2 i8 W8 th8 => ?_
                    · simp only [List.mem_cons, List.not_mem_nil, or_false] at he
                      rcases he with rfl | rfl
                      · exact gdv.more (by decide) (by decide)
                      · exact gdr.more (by decide) (by decide)
                    walk_at "rd"
                    rw [hvr]
                    have E8 : Ex (Wo [L] J1) I8 := (E6.trans i7).trans i8
                    refine ⟨tr, xr, rfl, .inr (ex_t E8 hsr), fun q9 hq9 mq9 => ?_⟩
                    generalize hX : upd I8 q9 (HO.lst xr) = I9
                    obtain ⟨i9, k9⟩ := gen1 hq9 hX
                    clear hX
                    refine w_catTh (M := 4) (es := es) (th8.ex i9) k9 (hal.ex (E8.trans i9)) (fun e he => (hes6 e he).1.more (by decide) (by decide)) (by omega) (by omega) fun L3 I10 hL3 i10 W10 th10 => ?_
                    walk_at "rd"
                    exact ⟨L3, _, _, _, rfl, ((eJ.trans E8).trans i9).trans W10, th10.le (by omega)⟩
              · rintro σ' H5 ⟨L, c, d, e, rfl, eL, thL⟩
                obtain ⟨tv, td, g1, g2, g3, g4⟩ := thL
                walk_at "rd"
                refine w_frame g1 ?_
                have penW : Wo [L] H5 pen = some (PenO pen sc) := (eH2.trans eL) _ _ h2
                have scrW : SqL K (Wo [L] H5) sc (ns.map V.int) := ex_l (eH2.trans eL) sc2
                walk_at "rd"
                refine u_bad penW scrW fun bv bd J3' eb ab bb hn => ?_
                obtain ⟨J3, hB, rfl, gL3⟩ := w_bk g1 hn
                rw [hB]
                refine w_nil ?_
                refine w_appTh (P := P) (w := w) ⟨tv, td, gL3, g2.ex eb, g3, g4⟩ ab (bb.1.more (by decide) (by decide)) (by omega) fun J5 mu e5 th5 => ?_
                walk_at "rd"
                exact ⟨L, _, _, _, _, _, rfl, by rw [e5]; exact eL.trans eb, th5.le (by omega)⟩
            · rintro σ' H4 ⟨L, a, b, c, d, e, rfl, eL, thL⟩
              walk_at "rd"
              exact ⟨L, a, b, c, d, e, rfl, eL, thL⟩
          · rintro σ' H4 ⟨L, a, b, c, d, e, rfl, eL, thL⟩
            obtain ⟨vs5, ds5, g51, g52, g53, g54⟩ := thL
            have E24 : Ex H2 H4 := (eH2.trans eL).trans wo_ex
            walk_at "rd"
            refine w_cut (fun σ' H5 => ∃ x y z u : Option V, σ' = [some (V.ref sc), some (V.ref pen), some (V.int (kk : Int)), some (V.ref p), some (V.int way), some (V.ref L), a, b, c, d, e, x, y, z, u] ∧ Ex H4 H5) ?_ ?_
            · walk_at "rd"
              refine l_list (xs := vs5) (fun ii σ' H5 => ∃ x y z u : Option V, σ' = [some (V.ref sc), some (V.ref pen), some (V.int (kk : Int)), some (V.ref p), some (V.int way), some (V.ref L), a, b, c, d, e, x, y, z, u] ∧ Ex H4 H5) ⟨_, _, _, _, rfl, Ex.refl _⟩ (fun ii σ' H5 _ ⟨_, _, _, _, _, e5⟩ => sq_of (e5 _ _ g51)) ?_ ?_
              · rintro ii xx σ' H5 hxx ⟨x, y, z, u, rfl, e5⟩
                obtain ⟨d5, hd5, a5⟩ := g52.at hxx
                have g5 := g53 d5 (List.mem_of_getElem? hd5)
                have a6 : Aq P w K H5 xx d5 := a5.ex (wo_ex.trans e5)
                walk_at "rd"
                refine w_reprV a6 g5 ?_
                walk_at "rd"
                refine u_ask a6 g5 fun H6 e6 => ?_
                walk_at "rd"
                refine u_ask (a6.ex e6) g5 fun H7 e7 => ?_
                walk_at "rd"
                refine u_ask (a6.ex (e6.trans e7)) g5 fun H8 e8 => ?_
                walk_at "rd"
                rename_i q9 hq9 mq9 H9 e9 s9
                have a9 := a6.ex (((e6.trans e7).trans e8).trans e9)
                refine u_ask a9 g5 fun H10 e10 => ?_
                walk_at "rd"
                refine u_ask (a9.ex e10) g5 fun H11 e11 => ?_
                walk_at "rd"
                refine u_ask (a9.ex (e10.trans e11)) g5 fun H12 e12 => ?_
                walk_at "rd"
                rename_i q13 hq13 mq13 H13 e13 s13
                refine w_reprB (sq_of s13) mq13 ?_
                walk_at "rd"
                refine w_reprB (sq_of ((((e10.trans e11).trans e12).trans e13) _ _ s9)) mq9 ?_
                walk_at "rd"
                rw [if_neg (by rw [decide_eq_true rfl]; exact Bool.false_ne_true)]
                walk_at "rd"
                refine w_reprV (a9.ex (((e10.trans e11).trans e12).trans e13)) g5 ?_
                walk_at "rd"
                rw [if_neg (by rw [decide_eq_true rfl]; exact Bool.false_ne_true)]
                walk_at "rd"
                exact ⟨_, _, _, _, rfl, e5.trans ((((((((e6.trans e7).trans e8).trans e9).trans e10).trans e11).trans e12).trans e13))⟩
              · rintro σ' H5 ⟨x, y, z, u, rfl, e5⟩
                walk_at "rd"
                exact ⟨_, _, _, _, rfl, e5⟩
            · rintro σ' H5 ⟨x, y, z, u, rfl, e5⟩
              walk_at "rd"
              exact ⟨_, _, _, _, _, _, _, _, _, _, _, _, _, rfl, E24.trans e5⟩
    · rintro σ' H' ⟨a, b, c, d, e, f, g, h, i, j, k, l, m, rfl, e3⟩
      walk_at "rd"
      exact q _
end

section
theorem str_beq (a b : Str) : (a == b) = decide (a = b) := by
  by_cases h : a = b
  · subst h
    rw [decide_eq_true rfl]
    exact beq_self_eq_true a
  · rw [decide_eq_false h]
    exact beq_eq_false_iff_ne.mpr h
def PT_mk {K : PySem.W.Frag} {w : World} {mg : Str → Option Value} {p : Addr} {n : Nat} {k1 k2 k3 k4 u1 u2 u3 u4 : Tok}
    (d : K.lookup p = some ⟨.type "dict", none, .dict #[⟨PyData.keyHash w.params (Str.ofString "new"), .str (Str.ofString "new") k1, .int 3 u1⟩, ⟨PyData.keyHash w.params (Str.ofString "move"), .str (Str.ofString "move") k2, .int 3 u2⟩, ⟨PyData.keyHash w.params (Str.ofString "put"), .str (Str.ofString "put") k3, .int 4 u3⟩, ⟨PyData.keyHash w.params (Str.ofString "take"), .str (Str.ofString "take") k4, .int 4 u4⟩] n, #[]⟩)
    (b : (p == sysModules) = false) (g : mg (Str.ofString "PARTS") = some (.ref p)) : Parts K w mg where
  p := p
  es := _
  n := _
  kd := ⟨d, ⟨⟨_, _, rfl, rfl⟩, ⟨_, _, rfl, rfl⟩, ⟨_, _, rfl, rfl⟩, ⟨_, _, rfl, rfl⟩, trivial⟩, b⟩
  g := g
  get := fun z => by
    have e : PySem.W.nsIn K p z = some (if Str.ofString "new" = z then some (.int 3 u1) else if Str.ofString "move" = z then some (.int 3 u2) else if Str.ofString "put" = z then some (.int 4 u3) else if Str.ofString "take" = z then some (.int 4 u4) else none) := by
      unfold PySem.W.nsIn
      rw [d]
      simp only [List.find?, Value.isStr, str_beq]
      by_cases h1 : Str.ofString "new" = z
      · simp only [h1, decide_true, if_true]
      by_cases h2 : Str.ofString "move" = z
      · simp only [h1, h2, decide_true, decide_false, if_true, if_false]
      by_cases h3 : Str.ofString "put" = z
      · simp only [h1, h2, h3, decide_true, decide_false, if_true, if_false]
      by_cases h4 : Str.ofString "take" = z
      · simp only [h1, h2, h3, h4, decide_true, decide_false, if_true, if_false]
      simp only [h1, h2, h3, h4, decide_false, if_false]
      rfl
    refine ⟨_, e, ?_, ?_⟩
    · unfold partsN
      by_cases h1 : Str.ofString "new" = z
      · rw [if_pos h1]; intro q; cases q
      by_cases h2 : Str.ofString "move" = z
      · rw [if_neg h1, if_pos h2]; intro q; cases q
      by_cases h3 : Str.ofString "put" = z
      · rw [if_neg h1, if_neg h2, if_pos h3]; intro q; cases q
      by_cases h4 : Str.ofString "take" = z
      · rw [if_neg h1, if_neg h2, if_neg h3, if_pos h4]; intro q; cases q
      intro _
      rw [if_neg (by rintro (h | h); exact h1 h.symm; exact h2 h.symm), if_neg (by rintro (h | h); exact h3 h.symm; exact h4 h.symm)]
    · unfold partsN
      intro u
      by_cases h1 : Str.ofString "new" = z
      · rw [if_pos h1, if_pos (.inl h1.symm)]; intro q; cases q; exact ⟨_, rfl⟩
      by_cases h2 : Str.ofString "move" = z
      · rw [if_neg h1, if_pos h2, if_pos (.inr h2.symm)]; intro q; cases q; exact ⟨_, rfl⟩
      rw [if_neg h1, if_neg h2, if_neg (show ¬ (z = Str.ofString "new" ∨ z = Str.ofString "move") from fun h => h.elim (fun h => h1 h.symm) fun h => h2 h.symm)]
      by_cases h3 : Str.ofString "put" = z
      · rw [if_pos h3, if_pos (.inl h3.symm)]; intro q; cases q; exact ⟨_, rfl⟩
      by_cases h4 : Str.ofString "take" = z
      · rw [if_neg h3, if_pos h4, if_pos (.inr h4.symm)]; intro q; cases q; exact ⟨_, rfl⟩
      rw [if_neg h3, if_neg h4]
      intro q; cases q
end

theorem all_mk {l : PySem.W.OpenLaw} {w : World} {K : PySem.W.Frag} {h : Heap} {mg : Str → Option Value} {fa : Addr} (X : K.In h) (G : h.Ns mainGlobals mg) (hfa : mg "law" = some (.ref fa))
    {f0 : Addr} {od0 an0 : Option Addr} {sl0 : Array (Option Value)} {oc0 kV0 dc0 pm0 cd0 ct0 : Value} {f1 : Addr} {od1 an1 : Option Addr} {sl1 : Array (Option Value)} {oc1 kV1 dc1 pm1 cd1 ct1 : Value} {f2 : Addr} {od2 an2 : Option Addr} {sl2 : Array (Option Value)} {oc2 kV2 dc2 pm2 cd2 ct2 : Value} {f3 : Addr} {od3 an3 : Option Addr} {sl3 : Array (Option Value)} {oc3 kV3 dc3 pm3 cd3 ct3 : Value} {f4 : Addr} {od4 an4 : Option Addr} {sl4 : Array (Option Value)} {oc4 kV4 dc4 pm4 cd4 ct4 : Value} {f5 : Addr} {od5 an5 : Option Addr} {sl5 : Array (Option Value)} {oc5 kV5 dc5 pm5 cd5 ct5 : Value} {f6 : Addr} {od6 an6 : Option Addr} {sl6 : Array (Option Value)} {oc6 kV6 dc6 pm6 cd6 ct6 : Value} {f7 : Addr} {od7 an7 : Option Addr} {sl7 : Array (Option Value)} {oc7 kV7 dc7 pm7 cd7 ct7 : Value} {f8 : Addr} {od8 an8 : Option Addr} {sl8 : Array (Option Value)} {oc8 kV8 dc8 pm8 cd8 ct8 : Value} {f9 : Addr} {od9 an9 : Option Addr} {sl9 : Array (Option Value)} {oc9 kV9 dc9 pm9 cd9 ct9 : Value} {f10 : Addr} {od10 an10 : Option Addr} {sl10 : Array (Option Value)} {oc10 kV10 dc10 pm10 cd10 ct10 : Value} {f11 : Addr} {od11 an11 : Option Addr} {sl11 : Array (Option Value)} {oc11 kV11 dc11 pm11 cd11 ct11 : Value} {f12 : Addr} {od12 an12 : Option Addr} {sl12 : Array (Option Value)} {oc12 kV12 dc12 pm12 cd12 ct12 : Value} {f13 : Addr} {od13 an13 : Option Addr} {sl13 : Array (Option Value)} {oc13 kV13 dc13 pm13 cd13 ct13 : Value}
    (a0 : PySem.W.nsIn K mainGlobals "is_word" = some (some (.ref f0))) (l0 : K.lookup f0 = some ⟨oc0, od0, .func (PySem.W.fnOf "is_word" "is_word" (defArgs s_is_word) (defBody s_is_word) (defScope s_is_word) .none kV0 dc0 pm0 an0 cd0 ct0), sl0⟩) (c0 : PySem.W.codeIn K cd0 "is_word" = true) (k0 : PySem.W.keepIn K (.ref f0) = true)
    (a1 : PySem.W.nsIn K mainGlobals "is_row" = some (some (.ref f1))) (l1 : K.lookup f1 = some ⟨oc1, od1, .func (PySem.W.fnOf "is_row" "is_row" (defArgs s_is_row) (defBody s_is_row) (defScope s_is_row) .none kV1 dc1 pm1 an1 cd1 ct1), sl1⟩) (c1 : PySem.W.codeIn K cd1 "is_row" = true) (k1 : PySem.W.keepIn K (.ref f1) = true)
    (a2 : PySem.W.nsIn K mainGlobals "is_program" = some (some (.ref f2))) (l2 : K.lookup f2 = some ⟨oc2, od2, .func (PySem.W.fnOf "is_program" "is_program" (defArgs s_is_program) (defBody s_is_program) (defScope s_is_program) .none kV2 dc2 pm2 an2 cd2 ct2), sl2⟩) (c2 : PySem.W.codeIn K cd2 "is_program" = true) (k2 : PySem.W.keepIn K (.ref f2) = true)
    (a3 : PySem.W.nsIn K mainGlobals "_law_fill" = some (some (.ref f3))) (l3 : K.lookup f3 = some ⟨oc3, od3, .func (PySem.W.fnOf "_law_fill" "_law_fill" (defArgs s_Lfill) (defBody s_Lfill) (defScope s_Lfill) .none kV3 dc3 pm3 an3 cd3 ct3), sl3⟩) (c3 : PySem.W.codeIn K cd3 "_law_fill" = true) (k3 : PySem.W.keepIn K (.ref f3) = true)
    (a4 : PySem.W.nsIn K mainGlobals "_law_next" = some (some (.ref f4))) (l4 : K.lookup f4 = some ⟨oc4, od4, .func (PySem.W.fnOf "_law_next" "_law_next" (defArgs s_Lnext) (defBody s_Lnext) (defScope s_Lnext) .none kV4 dc4 pm4 an4 cd4 ct4), sl4⟩) (c4 : PySem.W.codeIn K cd4 "_law_next" = true) (k4 : PySem.W.keepIn K (.ref f4) = true)
    (a5 : PySem.W.nsIn K mainGlobals "_law_words" = some (some (.ref f5))) (l5 : K.lookup f5 = some ⟨oc5, od5, .func (PySem.W.fnOf "_law_words" "_law_words" (defArgs s_Lwords) (defBody s_Lwords) (defScope s_Lwords) .none kV5 dc5 pm5 an5 cd5 ct5), sl5⟩) (c5 : PySem.W.codeIn K cd5 "_law_words" = true) (k5 : PySem.W.keepIn K (.ref f5) = true)
    (a6 : PySem.W.nsIn K mainGlobals "_law_row" = some (some (.ref f6))) (l6 : K.lookup f6 = some ⟨oc6, od6, .func (PySem.W.fnOf "_law_row" "_law_row" (defArgs s_Lrow) (defBody s_Lrow) (defScope s_Lrow) .none kV6 dc6 pm6 an6 cd6 ct6), sl6⟩) (c6 : PySem.W.codeIn K cd6 "_law_row" = true) (k6 : PySem.W.keepIn K (.ref f6) = true)
    (a7 : PySem.W.nsIn K mainGlobals "_law_program" = some (some (.ref f7))) (l7 : K.lookup f7 = some ⟨oc7, od7, .func (PySem.W.fnOf "_law_program" "_law_program" (defArgs s_Lprogram) (defBody s_Lprogram) (defScope s_Lprogram) .none kV7 dc7 pm7 an7 cd7 ct7), sl7⟩) (c7 : PySem.W.codeIn K cd7 "_law_program" = true) (k7 : PySem.W.keepIn K (.ref f7) = true)
    (a8 : PySem.W.nsIn K mainGlobals "_law_word_is" = some (some (.ref f8))) (l8 : K.lookup f8 = some ⟨oc8, od8, .func (PySem.W.fnOf "_law_word_is" "_law_word_is" (defArgs s_Lword_is) (defBody s_Lword_is) (defScope s_Lword_is) .none kV8 dc8 pm8 an8 cd8 ct8), sl8⟩) (c8 : PySem.W.codeIn K cd8 "_law_word_is" = true) (k8 : PySem.W.keepIn K (.ref f8) = true)
    (a9 : PySem.W.nsIn K mainGlobals "_law_row_is" = some (some (.ref f9))) (l9 : K.lookup f9 = some ⟨oc9, od9, .func (PySem.W.fnOf "_law_row_is" "_law_row_is" (defArgs s_Lrow_is) (defBody s_Lrow_is) (defScope s_Lrow_is) .none kV9 dc9 pm9 an9 cd9 ct9), sl9⟩) (c9 : PySem.W.codeIn K cd9 "_law_row_is" = true) (k9 : PySem.W.keepIn K (.ref f9) = true)
    (a10 : PySem.W.nsIn K mainGlobals "_law_program_is" = some (some (.ref f10))) (l10 : K.lookup f10 = some ⟨oc10, od10, .func (PySem.W.fnOf "_law_program_is" "_law_program_is" (defArgs s_Lprogram_is) (defBody s_Lprogram_is) (defScope s_Lprogram_is) .none kV10 dc10 pm10 an10 cd10 ct10), sl10⟩) (c10 : PySem.W.codeIn K cd10 "_law_program_is" = true) (k10 : PySem.W.keepIn K (.ref f10) = true)
    (a11 : PySem.W.nsIn K mainGlobals "_law_bad_word" = some (some (.ref f11))) (l11 : K.lookup f11 = some ⟨oc11, od11, .func (PySem.W.fnOf "_law_bad_word" "_law_bad_word" (defArgs s_Lbad_word) (defBody s_Lbad_word) (defScope s_Lbad_word) .none kV11 dc11 pm11 an11 cd11 ct11), sl11⟩) (c11 : PySem.W.codeIn K cd11 "_law_bad_word" = true) (k11 : PySem.W.keepIn K (.ref f11) = true)
    (a12 : PySem.W.nsIn K mainGlobals "_law_bent_row" = some (some (.ref f12))) (l12 : K.lookup f12 = some ⟨oc12, od12, .func (PySem.W.fnOf "_law_bent_row" "_law_bent_row" (defArgs s_Lbent_row) (defBody s_Lbent_row) (defScope s_Lbent_row) .none kV12 dc12 pm12 an12 cd12 ct12), sl12⟩) (c12 : PySem.W.codeIn K cd12 "_law_bent_row" = true) (k12 : PySem.W.keepIn K (.ref f12) = true)
    (a13 : PySem.W.nsIn K mainGlobals "law" = some (some (.ref f13))) (l13 : K.lookup f13 = some ⟨oc13, od13, .func (PySem.W.fnOf "law" "law" (defArgs s_law) (defBody s_law) (defScope s_law) .none kV13 dc13 pm13 an13 cd13 ct13), sl13⟩) (c13 : PySem.W.codeIn K cd13 "law" = true) (k13 : PySem.W.keepIn K (.ref f13) = true)
    {t_LONGEST_WORD : Tok} (m_LONGEST_WORD : PySem.W.nsIn K mainGlobals "LONGEST_WORD" = some (some (.int 40 t_LONGEST_WORD)))
    {t_MOST_ROWS : Tok} (m_MOST_ROWS : PySem.W.nsIn K mainGlobals "MOST_ROWS" = some (some (.int 60 t_MOST_ROWS)))
    {t_LETTERS : Tok} (m_LETTERS : PySem.W.nsIn K mainGlobals "LETTERS" = some (some (.str "abcdefghijklmnopqrstuvwxyz" t_LETTERS)))
    {t_SIGNS : Tok} (m_SIGNS : PySem.W.nsIn K mainGlobals "SIGNS" = some (some (.str "abcdefghijklmnopqrstuvwxyz0123456789." t_SIGNS)))
    (z_all : PySem.W.nsIn K mainGlobals "all" = some none)
    (z_isinstance : PySem.W.nsIn K mainGlobals "isinstance" = some none)
    (z_len : PySem.W.nsIn K mainGlobals "len" = some none)
    (z_list : PySem.W.nsIn K mainGlobals "list" = some none)
    (z_ord : PySem.W.nsIn K mainGlobals "ord" = some none)
    (z_range : PySem.W.nsIn K mainGlobals "range" = some none)
    (z_repr : PySem.W.nsIn K mainGlobals "repr" = some none)
    (z_str : PySem.W.nsIn K mainGlobals "str" = some none)
    (z_tuple : PySem.W.nsIn K mainGlobals "tuple" = some none)
    {p_PT : Addr} {n_PT : Nat} {ktPT0 kuPT0 ktPT1 kuPT1 ktPT2 kuPT2 ktPT3 kuPT3 : Tok} (m_PT : PySem.W.nsIn K mainGlobals "PARTS" = some (some (.ref p_PT))) (d_PT : K.lookup p_PT = some ⟨.type "dict", none, .dict #[⟨PyData.keyHash w.params (Str.ofString "new"), .str (Str.ofString "new") ktPT0, .int 3 kuPT0⟩, ⟨PyData.keyHash w.params (Str.ofString "move"), .str (Str.ofString "move") ktPT1, .int 3 kuPT1⟩, ⟨PyData.keyHash w.params (Str.ofString "put"), .str (Str.ofString "put") ktPT2, .int 4 kuPT2⟩, ⟨PyData.keyHash w.params (Str.ofString "take"), .str (Str.ofString "take") ktPT3, .int 4 kuPT3⟩] n_PT, #[]⟩) (b_PT : (p_PT == sysModules) = false)
    : ∃ fd : FuncData, (∀ (s : Shared) (v : Value), BindsTo s fd ⟨[v], []⟩ [("script", v)]) ∧ ∀ base : Heap, K.In base → base.Ns mainGlobals mg → FnG l.prog w K mg base CX0 6 fa fd ["script"] (spLaw K) := by
  have e := hfa.symm.trans (PySem.W.mg_of X G a13)
  cases e
  have F0 := fun_mk (st := s_is_word) l0 c0 k0
  have b0 := F0.binds (ps := ["thing"]) fun _ _ _ _ _ _ us hl => match us, hl with | [_], _ => rfl
  have F1 := fun_mk (st := s_is_row) l1 c1 k1
  have b1 := F1.binds (ps := ["thing"]) fun _ _ _ _ _ _ us hl => match us, hl with | [_], _ => rfl
  have F2 := fun_mk (st := s_is_program) l2 c2 k2
  have b2 := F2.binds (ps := ["thing"]) fun _ _ _ _ _ _ us hl => match us, hl with | [_], _ => rfl
  have F3 := fun_mk (st := s_Lfill) l3 c3 k3
  have b3 := F3.binds (ps := ["_law_cell", "_law_at"]) fun _ _ _ _ _ _ us hl => match us, hl with | [_, _], _ => rfl
  have F4 := fun_mk (st := s_Lnext) l4 c4 k4
  have b4 := F4.binds (ps := ["_law_pen", "_law_many"]) fun _ _ _ _ _ _ us hl => match us, hl with | [_, _], _ => rfl
  have F5 := fun_mk (st := s_Lwords) l5 c5 k5
  have b5 := F5.binds (ps := ["_law_pen", "_law_many"]) fun _ _ _ _ _ _ us hl => match us, hl with | [_, _], _ => rfl
  have F6 := fun_mk (st := s_Lrow) l6 c6 k6
  have b6 := F6.binds (ps := ["_law_pen", "_law_names", "_law_boxes", "_law_slots"]) fun _ _ _ _ _ _ us hl => match us, hl with | [_, _, _, _], _ => rfl
  have F7 := fun_mk (st := s_Lprogram) l7 c7 k7
  have b7 := F7.binds (ps := ["_law_pen", "_law_most"]) fun _ _ _ _ _ _ us hl => match us, hl with | [_, _], _ => rfl
  have F8 := fun_mk (st := s_Lword_is) l8 c8 k8
  have b8 := F8.binds (ps := ["_law_thing"]) fun _ _ _ _ _ _ us hl => match us, hl with | [_], _ => rfl
  have F9 := fun_mk (st := s_Lrow_is) l9 c9 k9
  have b9 := F9.binds (ps := ["_law_thing"]) fun _ _ _ _ _ _ us hl => match us, hl with | [_], _ => rfl
  have F10 := fun_mk (st := s_Lprogram_is) l10 c10 k10
  have b10 := F10.binds (ps := ["_law_thing"]) fun _ _ _ _ _ _ us hl => match us, hl with | [_], _ => rfl
  have F11 := fun_mk (st := s_Lbad_word) l11 c11 k11
  have b11 := F11.binds (ps := ["_law_pen"]) fun _ _ _ _ _ _ us hl => match us, hl with | [_], _ => rfl
  have F12 := fun_mk (st := s_Lbent_row) l12 c12 k12
  have b12 := F12.binds (ps := ["_law_pen", "_law_handed"]) fun _ _ _ _ _ _ us hl => match us, hl with | [_, _], _ => rfl
  have F13 := fun_mk (st := s_law) l13 c13 k13
  have b13 := F13.binds (ps := ["script"]) fun _ _ _ _ _ _ us hl => match us, hl with | [_], _ => rfl
  exact ⟨_, fun s v => .of_eq rfl, fun base _ _ => ok_law (T := { f_is_word := _, d_is_word := _, F_is_word := F0, b_is_word := b0, g_is_word := PySem.W.mg_of X G a0, f_is_row := _, d_is_row := _, F_is_row := F1, b_is_row := b1, g_is_row := PySem.W.mg_of X G a1, f_is_program := _, d_is_program := _, F_is_program := F2, b_is_program := b2, g_is_program := PySem.W.mg_of X G a2, f_Lfill := _, d_Lfill := _, F_Lfill := F3, b_Lfill := b3, g_Lfill := PySem.W.mg_of X G a3, f_Lnext := _, d_Lnext := _, F_Lnext := F4, b_Lnext := b4, g_Lnext := PySem.W.mg_of X G a4, f_Lwords := _, d_Lwords := _, F_Lwords := F5, b_Lwords := b5, g_Lwords := PySem.W.mg_of X G a5, f_Lrow := _, d_Lrow := _, F_Lrow := F6, b_Lrow := b6, g_Lrow := PySem.W.mg_of X G a6, f_Lprogram := _, d_Lprogram := _, F_Lprogram := F7, b_Lprogram := b7, g_Lprogram := PySem.W.mg_of X G a7, f_Lword_is := _, d_Lword_is := _, F_Lword_is := F8, b_Lword_is := b8, g_Lword_is := PySem.W.mg_of X G a8, f_Lrow_is := _, d_Lrow_is := _, F_Lrow_is := F9, b_Lrow_is := b9, g_Lrow_is := PySem.W.mg_of X G a9, f_Lprogram_is := _, d_Lprogram_is := _, F_Lprogram_is := F10, b_Lprogram_is := b10, g_Lprogram_is := PySem.W.mg_of X G a10, f_Lbad_word := _, d_Lbad_word := _, F_Lbad_word := F11, b_Lbad_word := b11, g_Lbad_word := PySem.W.mg_of X G a11, f_Lbent_row := _, d_Lbent_row := _, F_Lbent_row := F12, b_Lbent_row := b12, g_Lbent_row := PySem.W.mg_of X G a12, f_law := _, d_law := _, F_law := F13, b_law := b13, g_law := PySem.W.mg_of X G a13, t_LONGEST_WORD := t_LONGEST_WORD, g_LONGEST_WORD := PySem.W.mg_of X G m_LONGEST_WORD, t_MOST_ROWS := t_MOST_ROWS, g_MOST_ROWS := PySem.W.mg_of X G m_MOST_ROWS, t_LETTERS := t_LETTERS, g_LETTERS := PySem.W.mg_of X G m_LETTERS, t_SIGNS := t_SIGNS, g_SIGNS := PySem.W.mg_of X G m_SIGNS, z_all := PySem.W.mg_none_of X G z_all, z_isinstance := PySem.W.mg_none_of X G z_isinstance, z_len := PySem.W.mg_none_of X G z_len, z_list := PySem.W.mg_none_of X G z_list, z_ord := PySem.W.mg_none_of X G z_ord, z_range := PySem.W.mg_none_of X G z_range, z_repr := PySem.W.mg_none_of X G z_repr, z_str := PySem.W.mg_none_of X G z_str, z_tuple := PySem.W.mg_none_of X G z_tuple }) (PT := PT_mk d_PT b_PT (PySem.W.mg_of X G m_PT))⟩
end My

open PySem PySem.W PyProof.Rows in
set_option maxRecDepth 100000 in
set_option maxHeartbeats 0 in
theorem PySem.Challenge.cw_whoholds_k01_words_rows_programs_holds : PySem.Challenge.rw_whoholds_k01_words_rows_programs.Holds := by
  w_on; o_law; k_head; (case hw => w_witness2)
  k_fill
  refine My.walk_ofG (l := PySem.Challenge.rw_whoholds_k01_words_rows_programs) (n := 63) (k := 6) (x := "script") (CX := fun _ => L2.CX0) (sp := fun w => My.spLaw _) rfl (by decide) rfl ⟨rfl, by decide, by decide⟩ (fun w h Y => PySem.W.kIn_of Y) ?F (fun _ _ a ns hl _ hS => ⟨a, ns, rfl, hS, hl, fun _ => rfl⟩) (fun _ _ _ _ _ h => h)
  case F =>
    intro w mg fa h KX G hmg
    refine' My.all_mk KX G hmg ?a0 ?l0 ?c0 ?k0 ?a1 ?l1 ?c1 ?k1 ?a2 ?l2 ?c2 ?k2 ?a3 ?l3 ?c3 ?k3 ?a4 ?l4 ?c4 ?k4 ?a5 ?l5 ?c5 ?k5 ?a6 ?l6 ?c6 ?k6 ?a7 ?l7 ?c7 ?k7 ?a8 ?l8 ?c8 ?k8 ?a9 ?l9 ?c9 ?k9 ?a10 ?l10 ?c10 ?k10 ?a11 ?l11 ?c11 ?k11 ?a12 ?l12 ?c12 ?k12 ?a13 ?l13 ?c13 ?k13 ?m_LONGEST_WORD ?m_MOST_ROWS ?m_LETTERS ?m_SIGNS ?z_all ?z_isinstance ?z_len ?z_list ?z_ord ?z_range ?z_repr ?z_str ?z_tuple ?m_PT ?d_PT ?b_PT
    (case a0 => k_is)
    (case l0 => k_is)
    (case c0 => k_is)
    (case k0 => k_is)
    (case a1 => k_is)
    (case l1 => k_is)
    (case c1 => k_is)
    (case k1 => k_is)
    (case a2 => k_is)
    (case l2 => k_is)
    (case c2 => k_is)
    (case k2 => k_is)
    (case a3 => k_is)
    (case l3 => k_is)
    (case c3 => k_is)
    (case k3 => k_is)
    (case a4 => k_is)
    (case l4 => k_is)
    (case c4 => k_is)
    (case k4 => k_is)
    (case a5 => k_is)
    (case l5 => k_is)
    (case c5 => k_is)
    (case k5 => k_is)
    (case a6 => k_is)
    (case l6 => k_is)
    (case c6 => k_is)
    (case k6 => k_is)
    (case a7 => k_is)
    (case l7 => k_is)
    (case c7 => k_is)
    (case k7 => k_is)
    (case a8 => k_is)
    (case l8 => k_is)
    (case c8 => k_is)
    (case k8 => k_is)
    (case a9 => k_is)
    (case l9 => k_is)
    (case c9 => k_is)
    (case k9 => k_is)
    (case a10 => k_is)
    (case l10 => k_is)
    (case c10 => k_is)
    (case k10 => k_is)
    (case a11 => k_is)
    (case l11 => k_is)
    (case c11 => k_is)
    (case k11 => k_is)
    (case a12 => k_is)
    (case l12 => k_is)
    (case c12 => k_is)
    (case k12 => k_is)
    (case a13 => k_is)
    (case l13 => k_is)
    (case c13 => k_is)
    (case k13 => k_is)
    (case m_LONGEST_WORD => k_is)
    (case m_MOST_ROWS => k_is)
    (case m_LETTERS => k_is)
    (case m_SIGNS => k_is)
    (case z_all => k_is)
    (case z_isinstance => k_is)
    (case z_len => k_is)
    (case z_list => k_is)
    (case z_ord => k_is)
    (case z_range => k_is)
    (case z_repr => k_is)
    (case z_str => k_is)
    (case z_tuple => k_is)
    (case m_PT => k_is)
    (case d_PT => k_is)
    (case b_PT => decide)

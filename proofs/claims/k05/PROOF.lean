import PyProof.Rows.All
import Wide.All
import OpenK.AllK
import Wide.FinOn
import HandS.ForMost
import HandS.Evl
import HandS.Flow
import HandS.Style
import HandS.IsInst
import PyProof.StrBlock2
import PyProof.ReprRoads
import PyProof.Rows.RegFStrParts
import KE.KDictKeyed
import HandS.DictTup
import KE.DataIsa
import KE.KDictDisplayH
import PyProof.ReprLen
import HandS.Base
import HandS.TupAny
import HandS.More
import PyProof.StrLawsIn
import HandS.Deep
import KE.KDictItemsList
import KE.SortData
import KE.KDictCopyH
import HandS.DictComp
import HandS.Finally
import HandS.Sort
import PyProof.ListRange
import PySem.Challenge.RW_whoholds_k05_runs_row_by_row
set_option Elab.async false
set_option linter.all false
set_option maxRecDepth 100000
set_option maxHeartbeats 4000000
namespace My
open PySem L2 Evl
section
open PySem L2 Evl

/-! ### heads -/
section
variable {σ : L2.St} {H : Hp} {Q : VK} {nx : L2.St → Hp → Prop} {rt : VK} {bk ct : L2.St → Hp → Prop} {K : PySem.W.Frag}
theorem w_var {i : Nat} {v : V} (h : σ[i]? = some (some v)) (q : Q v H) : tVar i σ H Q := ⟨v, h, q⟩
theorem w_c {v : V} (q : Q v H) : tC v σ H Q := q
theorem w_op {r : R2} {ta tb : TE} (h : ta σ H fun x H1 => tb σ H1 fun y H2 => r x y H2 Q) : tOp r ta tb σ H Q := h
theorem w_un {r : V → Hp → VK → Prop} {ta : TE} (h : ta σ H fun x H1 => r x H1 Q) : tUn r ta σ H Q := h
theorem w_rI0 {g : Int → Int → V} {i j : Int} (q : Q (g i j) H) : rI0 g (.int i) (.int j) H Q := ⟨i, j, rfl, rfl, q⟩
theorem w_rI {C : Int → Int → Prop} {g : Int → Int → V} {i j : Int} (c : C i j) (q : Q (g i j) H) : rI C g (.int i) (.int j) H Q := ⟨i, j, rfl, rfl, c, q⟩
theorem w_rU {g : Int → V} {i : Int} (q : Q (g i) H) : rU g (.int i) H Q := ⟨i, rfl, q⟩
theorem w_eqS {x y : Str} (q : Q (.bl (decide (V.str x = V.str y))) H) : rEq (.str x) (.str y) H Q := ⟨rfl, q⟩
theorem w_neS {x y : Str} (q : Q (.bl (!decide (V.str x = V.str y))) H) : rNe (.str x) (.str y) H Q := ⟨rfl, q⟩
theorem w_eqI {x y : Int} (q : Q (.bl (decide (V.int x = V.int y))) H) : rEq (.int x) (.int y) H Q := ⟨rfl, q⟩
theorem w_neI {x y : Int} (q : Q (.bl (!decide (V.int x = V.int y))) H) : rNe (.int x) (.int y) H Q := ⟨rfl, q⟩
theorem w_nil {Q : List V → Hp → Prop} (q : Q [] H) : tNil σ H Q := q
theorem w_cons {ta : TE} {tr : TA} {Q : List V → Hp → Prop} (h : ta σ H fun x H1 => tr σ H1 fun xs H2 => Q (x :: xs) H2) : tCons ta tr σ H Q := h
theorem w_tup {t : TA} (h : t σ H fun xs H1 => xs.length ≤ sizeLine ∧ ∀ p, H1 p = none → Q (.ref p) (upd H1 p (.tup xs))) : tTup t σ H Q := h
theorem w_lst {t : TA} (h : t σ H fun xs H1 => xs.length ≤ sizeLine ∧ ∀ p, H1 p = none → Q (.ref p) (upd H1 p (.lst xs))) : tLst t σ H Q := h
theorem w_size {n : Nat} {R : Prop} (h : n ≤ 100000) (q : R) : n ≤ sizeLine ∧ R := ⟨sz_of h, q⟩
theorem w_cb {r : List V → Hp → VK → Prop} {t : TA} (h : t σ H fun vs H1 => r vs H1 Q) : tCB r t σ H Q := h
theorem w_call {sp : Sp} {E : XK} {t : TA} (h : t σ H fun vs H1 => sp vs H1 Q E) : tCall sp [] E t σ H Q := by
  unfold tCall
  have e : (fun (vs : List V) (H1 : Hp) => sp (vs ++ []) H1 Q E) = fun vs H1 => sp vs H1 Q E := by
    funext vs H1
    rw [List.append_nil]
  rw [e]
  exact h
theorem w_bm {T : String} {r : V → List V → Hp → VK → Prop} {to : TE} {t : TA} (h : to σ H fun x H1 => tyV K T x H1 ∧ t σ H1 fun xs H2 => r x xs H2 Q) : tBM K T r to t σ H Q := h
theorem w_bm0 {T : String} {r : V → List V → Hp → VK → Prop} {to : TE} (h : to σ H fun x H1 => tyV K T x H1 ∧ r x [] H1 Q) : tBM0 K T r to σ H Q := h
theorem w_tyL {p : Addr} {xs : List V} {R : Prop} (h : SqL K H p xs) (q : R) : tyV K "list" (.ref p) H ∧ R := ⟨.inl ⟨rfl, _, h⟩, q⟩
theorem w_tyS {z : Str} {R : Prop} (q : R) : tyV K "str" (.str z) H ∧ R := ⟨rfl, q⟩
theorem w_ixL {p : Addr} {xs : List V} {i : Int} {v : V} (h : SqL K H p xs) (e : atI xs i = some v) (q : Q v H) : rIxL K (.ref p) (.int i) H Q := ⟨p, xs, i, v, rfl, rfl, h, e, q⟩
theorem w_ixT {p : Addr} {xs : List V} {i : Int} {v : V} (h : SqT K H p xs) (e : atI xs i = some v) (q : Q v H) : rIxT K (.ref p) (.int i) H Q := ⟨p, xs, i, v, rfl, rfl, h, e, q⟩
theorem w_ixS {z : Str} {i : Int} {c : Nat} (h : z.length ≤ 100000) (e : atI z.cps.toList i = some c) (q : Q (.str ⟨#[c]⟩) H) : rIxS (.str z) (.int i) H Q := ⟨z, i, c, rfl, rfl, sz_of h, e, q⟩
theorem w_lenL {p : Addr} {ys : List V} {G : Addr → List V → Prop} (h : SqL K H p ys) (q : G p ys) : ∃ a zs, [V.ref p] = [V.ref a] ∧ (SqL K H a zs ∨ SqT K H a zs) ∧ G a zs := ⟨p, ys, rfl, .inl h, q⟩
theorem w_lenT {p : Addr} {ys : List V} {G : Addr → List V → Prop} (h : SqT K H p ys) (q : G p ys) : ∃ a zs, [V.ref p] = [V.ref a] ∧ (SqL K H a zs ∨ SqT K H a zs) ∧ G a zs := ⟨p, ys, rfl, .inr h, q⟩
theorem w_bl {b : Bool} {G : Bool → Prop} (q : G b) : ∃ k, V.bl b = V.bl k ∧ G k := ⟨b, rfl, q⟩
theorem w_int {b : Int} {G : Int → Prop} (q : G b) : ∃ k, V.int b = V.int k ∧ G k := ⟨b, rfl, q⟩
theorem w_ints {b : Int} {G : Int → Prop} (q : G b) : ∃ k, [V.int b] = [V.int k] ∧ G k := ⟨b, rfl, q⟩
theorem w_strs {b : Str} {G : Str → Prop} (q : G b) : ∃ k, [V.str b] = [V.str k] ∧ G k := ⟨b, rfl, q⟩
theorem w_str2 {a b : Str} {G : Str → Str → Prop} (q : G a b) : ∃ i j, V.str a = V.str i ∧ V.str b = V.str j ∧ G i j := ⟨a, b, rfl, rfl, q⟩
theorem w_isN {x : V} {R : Prop} (q : R) : V.non = V.non ∧ R := ⟨rfl, q⟩
theorem w_test {t : TE} {Q : Bool → Hp → Prop} (h : t σ H fun x H' => ∃ k, x = .bl k ∧ Q k H') : tTest t σ H Q := h
theorem w_tB {t : TE} {Q : Bool → Hp → Prop} (h : t σ H fun x H' => ∃ k, x = .bl k ∧ Q k H') : tB t σ H Q := h
theorem w_tand {t u : TT} {Q : Bool → Hp → Prop} (h : t σ H fun c H1 => if c = true then u σ H1 Q else Q false H1) : tAnd t u σ H Q := h
theorem w_tor {t u : TT} {Q : Bool → Hp → Prop} (h : t σ H fun c H1 => if c = true then Q true H1 else u σ H1 Q) : tOr t u σ H Q := h
theorem w_tnot {t : TT} {Q : Bool → Hp → Prop} (h : t σ H fun c H1 => Q (!c) H1) : tNot t σ H Q := h
theorem w_tyes {Q : Bool → Hp → Prop} (h : Q true H) : tYes σ H Q := h
theorem w_tif {t : TT} {ta tb : TE} (h : t σ H fun c H1 => if c = true then ta σ H1 Q else tb σ H1 Q) : tIf t ta tb σ H Q := h
theorem w_tSl {r : V → Option Int → Option Int → Hp → VK → Prop} {te : TE} {tl th : TO} (h : te σ H fun x H1 => tl σ H1 fun l H2 => th σ H2 fun u H3 => r x l u H3 Q) : tSl r te tl th σ H Q := h
theorem w_noPart {Q : Option Int → Hp → Prop} (h : Q none H) : tNoPart σ H Q := h
theorem w_part {t : TE} {Q : Option Int → Hp → Prop} (h : t σ H fun x H1 => ∃ i, x = .int i ∧ Q (some i) H1) : tPart t σ H Q := h
/-- statements -/
theorem w_seq {t u : TS} (h : t ⟨u ⟨nx, rt, bk, ct⟩, rt, bk, ct⟩ σ H) : tSeq t u ⟨nx, rt, bk, ct⟩ σ H := h
theorem w_asg {te : TE} {g : TG} (h : te σ H fun x H1 => g x σ H1 nx) : tAsg te g ⟨nx, rt, bk, ct⟩ σ H := h
theorem w_gName {i : Nat} {v : V} {Q : L2.St → Hp → Prop} (q : Q (σ.set i (some v)) H) : gName i v σ H Q := q
theorem w_gSub {to ti : TE} {t : TSet} {v : V} {Q : L2.St → Hp → Prop} (h : to σ H fun o H1 => ti σ H1 fun i H2 => t o i v H2 fun H3 => Q σ H3) : gSub to ti t v σ H Q := h
theorem w_drop {te : TE} (h : te σ H fun _ H1 => nx σ H1) : tDrop te ⟨nx, rt, bk, ct⟩ σ H := h
theorem w_ret {te : TE} (h : te σ H rt) : tRet te ⟨nx, rt, bk, ct⟩ σ H := h
theorem w_if {c : TT} {t u : TS} (h : c σ H fun b H1 => if b = true then t ⟨nx, rt, bk, ct⟩ σ H1 else u ⟨nx, rt, bk, ct⟩ σ H1) : tIfS c t u ⟨nx, rt, bk, ct⟩ σ H := h
theorem w_next (h : nx σ H) : tNext ⟨nx, rt, bk, ct⟩ σ H := h
theorem w_cont (h : ct σ H) : tCont ⟨nx, rt, bk, ct⟩ σ H := h
theorem w_brk (h : bk σ H) : tBreak ⟨nx, rt, bk, ct⟩ σ H := h
theorem w_par {i j : Nat} {ta : TA} (h : ta σ H fun vs H1 => ∃ v w, vs = [v, w] ∧ nx ((σ.set i (some v)).set j (some w)) H1) : tPar i j ta ⟨nx, rt, bk, ct⟩ σ H := h
theorem w_par3 {i j l : Nat} {ta : TA} (h : ta σ H fun vs H1 => ∃ u v w, vs = [u, v, w] ∧ nx (((σ.set i (some u)).set j (some v)).set l (some w)) H1) : tPar3 i j l ta ⟨nx, rt, bk, ct⟩ σ H := h
theorem w_two {a b : V} {G : V → V → Prop} (q : G a b) : ∃ v w, [a, b] = [v, w] ∧ G v w := ⟨a, b, rfl, q⟩
theorem w_three {a b c : V} {G : V → V → V → Prop} (q : G a b c) : ∃ u v w, [a, b, c] = [u, v, w] ∧ G u v w := ⟨a, b, c, rfl, q⟩
theorem w_append {l : Addr} {xs : List V} {y : V} (h : H l = some (.lst xs)) (z : xs.length < 100000) (q : Q .non (upd H l (.lst (xs ++ [y])))) : rAppend (.ref l) [y] H Q := ⟨l, xs, y, rfl, rfl, h, sz_lt z, q⟩
theorem w_setL {p : Addr} {xs : List V} {k : Int} {j : Nat} {v : V} {Q : Hp → Prop} (h : H p = some (.lst xs)) (e : ixN xs.length k = some j) (q : Q (upd H p (.lst (xs.set j v)))) : rSetL (.ref p) (.int k) v H Q := ⟨p, xs, k, j, rfl, rfl, h, e, q⟩

/-- what a for, a comprehension says of its iterator -/
def LoopJ (J : It) (g : TG) (tb : TS) (D : Ends) (σ : L2.St) (H : Hp) : Prop := ∃ W : Nat → Nat → L2.St → Hp → Prop, (∃ m, W 0 m σ H) ∧ ∀ i m σ H, W i m σ H →
  (J.stop i H ∧ D.nx σ H) ∨ (J.go i H ∧ ∃ N : L2.St → Hp → Prop, (∀ σ' H', N σ' H' → ∃ m', m' < m ∧ W (i + 1) m' σ' H') ∧ ∀ x H', J.yld i H x H' → g x σ H' fun σ2 H2 => tb { D with nx := N, ct := N, bk := D.nx } σ2 H2)
theorem w_for {wi : TI} {g : TG} {tb : TS} {D : Ends} (h : wi σ H fun J H1 => LoopJ J g tb D σ H1) : tFor wi g tb D σ H := h
theorem w_iR1 {ta : TA} {R : It → Hp → Prop} (h : ta σ H fun vs H1 => ∃ j : Int, vs = [.int j] ∧ -(2 ^ 62) ≤ j ∧ j < 2 ^ 62 ∧ R (Itr 0 j.toNat) H1) : iRng1 ta σ H R := h
theorem w_r1 {n : Int} {G : Int → Prop} (h1 : -100000 ≤ n ∧ n ≤ 100000) (q : G n) : ∃ j : Int, [V.int n] = [.int j] ∧ -(2 ^ 62) ≤ j ∧ j < 2 ^ 62 ∧ G j := ⟨n, rfl, by omega, by omega, q⟩
theorem w_iR2 {ta : TA} {R : It → Hp → Prop} (h : ta σ H fun vs H1 => ∃ i j : Int, vs = [.int i, .int j] ∧ (-(2 ^ 62) ≤ i ∧ i < 2 ^ 62 ∧ -(2 ^ 62) ≤ j ∧ j < 2 ^ 62) ∧ R (Itr i (j - i).toNat) H1) : iRng2 ta σ H R := h
theorem w_r2 {m n : Int} {G : Int → Int → Prop} (h1 : -100000 ≤ m ∧ m ≤ 100000 ∧ -100000 ≤ n ∧ n ≤ 100000) (q : G m n) : ∃ i j : Int, [V.int m, V.int n] = [.int i, .int j] ∧ (-(2 ^ 62) ≤ i ∧ i < 2 ^ 62 ∧ -(2 ^ 62) ≤ j ∧ j < 2 ^ 62) ∧ G i j := ⟨m, n, rfl, by omega, q⟩
theorem w_iL {tl : TE} {R : It → Hp → Prop} (h : tl σ H fun x H1 => ∃ a, x = .ref a ∧ (∃ xs, SqL K H1 a xs) ∧ R (Itl K a) H1) : iList K tl σ H R := h
theorem w_iT {tl : TE} {R : It → Hp → Prop} (h : tl σ H fun x H1 => ∃ a, x = .ref a ∧ (∃ xs, SqT K H1 a xs) ∧ R (Itt K a) H1) : iTup K tl σ H R := h
theorem w_itL {a : Addr} {xs : List V} {G : Addr → Prop} (h : SqL K H a xs) (q : G a) : ∃ b, V.ref a = .ref b ∧ (∃ xs, SqL K H b xs) ∧ G b := ⟨a, rfl, ⟨xs, h⟩, q⟩
theorem w_itT {a : Addr} {xs : List V} {G : Addr → Prop} (h : SqT K H a xs) (q : G a) : ∃ b, V.ref a = .ref b ∧ (∃ xs, SqT K H b xs) ∧ G b := ⟨a, rfl, ⟨xs, h⟩, q⟩
theorem l_list {a : Addr} {xs : List V} {g : TG} {tb : TS} (Pv : Nat → L2.St → Hp → Prop) (h0 : Pv 0 σ H) (hl : ∀ i σ H, i ≤ xs.length → Pv i σ H → SqL K H a xs)
    (hs : ∀ i x σ H, xs[i]? = some x → Pv i σ H → g x σ H fun σ2 H2 => tb ⟨Pv (i + 1), rt, nx, Pv (i + 1)⟩ σ2 H2) (hd : ∀ σ H, Pv xs.length σ H → nx σ H) : LoopJ (Itl K a) g tb ⟨nx, rt, bk, ct⟩ σ H := for_list Pv h0 hl hs hd
theorem l_tup {a : Addr} {xs : List V} {g : TG} {tb : TS} (Pv : Nat → L2.St → Hp → Prop) (h0 : Pv 0 σ H) (hl : ∀ i σ H, i ≤ xs.length → Pv i σ H → SqT K H a xs)
    (hs : ∀ i x σ H, xs[i]? = some x → Pv i σ H → g x σ H fun σ2 H2 => tb ⟨Pv (i + 1), rt, nx, Pv (i + 1)⟩ σ2 H2) (hd : ∀ σ H, Pv xs.length σ H → nx σ H) : LoopJ (Itt K a) g tb ⟨nx, rt, bk, ct⟩ σ H := for_tup Pv h0 hl hs hd
theorem l_range {n : Nat} {g : TG} {tb : TS} (Pv : Nat → L2.St → Hp → Prop) (h0 : Pv 0 σ H)
    (hs : ∀ (i : Nat) σ H, i < n → Pv i σ H → g (.int (i : Int)) σ H fun σ2 H2 => tb ⟨Pv (i + 1), rt, nx, Pv (i + 1)⟩ σ2 H2) (hd : ∀ σ H, Pv n σ H → nx σ H) : LoopJ (Itr 0 n) g tb ⟨nx, rt, bk, ct⟩ σ H :=
  for_range (lo := 0) Pv h0 (fun i σ' H' hi p => by
    have e0 : (0 : Int) + (i : Int) = (i : Int) := Int.zero_add _
    rw [e0]
    exact hs i σ' H' hi p) hd
def CompJ (J : It) (g : TG) (tt : TT) (te : TE) (vs : List Nat) (σ : L2.St) (H1 : Hp) (Q : VK) : Prop := ∀ D, H1 D = none → ∃ W : Nat → Nat → Hp → Prop, (∃ m, W 0 m (upd H1 D (.lst []))) ∧ ∀ i m H, W i m H →
  (J.stop i H ∧ Q (.ref D) H) ∨ (J.go i H ∧ ∃ Nx : Hp → Prop, (∀ H', Nx H' → ∃ m', m' < m ∧ W (i + 1) m' H') ∧ ∀ x H', J.yld i H x H' → g x (wipe σ vs) H' fun σ2 H2 => wipe σ2 vs = wipe σ vs ∧ tt σ2 H2 fun b H3 =>
    if b = true then te σ2 H3 fun y H4 => ∃ acc, H4 D = some (.lst acc) ∧ acc.length < sizeLine ∧ Nx (upd H4 D (.lst (acc ++ [y]))) else Nx H3)
theorem w_lc {wi : TI} {g : TG} {tt : TT} {te : TE} {vs : List Nat} (h : wi σ H fun J H1 => CompJ J g tt te vs σ H1 Q) : tLc wi g tt te vs σ H Q := h
end

/-! ### what a comprehension gives: each item is E, which the new list does not touch -/
def Keeps (E : V → Hp → Prop) : Prop := (∀ y H H', Ex H H' → E y H → E y H') ∧ ∀ y H D xs ys, H D = some (.lst xs) → E y H → E y (upd H D (.lst ys))
section
variable {σ : L2.St} {H : Hp} {Q : VK} {K : PySem.W.Frag} {te : TE} {j : Nat} {vs : List Nat}
theorem c_range {n : Nat} (E : Nat → V → Hp → Prop) (hE : ∀ i, Keeps (E i)) (hn : n ≤ 50000) (hw : ∀ x, wipe ((wipe σ vs).set j (some x)) vs = wipe σ vs)
    (hb : ∀ (i : Nat) H' Q', i < n → Ex H H' → (∀ y H4, Ex H' H4 → E i y H4 → Q' y H4) → te ((wipe σ vs).set j (some (.int (i : Int)))) H' Q')
    (q : ∀ p ys H2, H p = none → Ex H H2 → H2 p = some (.lst ys) → ys.length = n → (∀ i y, ys[i]? = some y → E i y H2) → Q (.ref p) H2) : CompJ (Itr 0 n) (gName j) tYes te vs σ H Q := by
  intro D hD
  refine lc_range (lo := 0) (fun i H' => Ex H H' ∧ ∃ acc : List V, H' D = some (.lst acc) ∧ acc.length = i ∧ ∀ k y, acc[k]? = some y → E k y H') ⟨Ex.new hD, [], upd_same, rfl, fun k y h => by simp at h⟩ (fun i H' hi ⟨e, acc, ha, hl, hy⟩ => ?_) fun H' ⟨e, acc, ha, hl, hy⟩ => q D acc H' hD e ha hl hy
  have e0 : (0 : Int) + (i : Int) = (i : Int) := Int.zero_add _
  rw [e0]
  refine ⟨hw _, ?_⟩
  show te _ H' _
  refine hb i H' _ hi e fun y H4 e4 hE4 => ⟨acc, e4 _ _ ha, sz_lt (by omega), Ex.mut (e.trans e4) hD, acc ++ [y], upd_same, by rw [List.length_append, hl]; rfl, fun k z hk => ?_⟩
  by_cases hlt : k < acc.length
  · rw [List.getElem?_append_left hlt] at hk
    exact (hE k).2 _ _ _ _ _ (e4 _ _ ha) ((hE k).1 _ _ _ e4 (hy k z hk))
  · have hk2 : k = acc.length := by
      have := (List.getElem?_eq_some_iff.mp hk).1
      simp at this
      omega
    subst hk2
    rw [List.getElem?_append_right (Nat.le_refl _), Nat.sub_self] at hk
    have hz : y = z := Option.some.inj hk
    subst hz
    rw [hl]
    exact (hE i).2 _ _ _ _ _ (e4 _ _ ha) hE4
theorem c_list {a : Addr} {xs : List V} (E : Nat → V → Hp → Prop) (hE : ∀ i, Keeps (E i)) (hn : xs.length ≤ 50000) (hx : SqL K H a xs) (hw : ∀ x, wipe ((wipe σ vs).set j (some x)) vs = wipe σ vs)
    (hb : ∀ (i : Nat) x H' Q', xs[i]? = some x → Ex H H' → (∀ y H4, Ex H' H4 → E i y H4 → Q' y H4) → te ((wipe σ vs).set j (some x)) H' Q')
    (q : ∀ p ys H2, H p = none → Ex H H2 → H2 p = some (.lst ys) → ys.length = xs.length → (∀ i y, ys[i]? = some y → E i y H2) → Q (.ref p) H2) : CompJ (Itl K a) (gName j) tYes te vs σ H Q := by
  intro D hD
  refine lc_list (K := K) (a := a) (xs := xs) (fun i H' => Ex H H' ∧ ∃ acc : List V, H' D = some (.lst acc) ∧ acc.length = i ∧ ∀ k y, acc[k]? = some y → E k y H') ⟨Ex.new hD, [], upd_same, rfl, fun k y h => by simp at h⟩ (fun i H' _ p => ex_l p.1 hx) (fun i x H' hi ⟨e, acc, ha, hl, hy⟩ => ?_) fun H' ⟨e, acc, ha, hl, hy⟩ => q D acc H' hD e ha hl hy
  have hi' : i < xs.length := (List.getElem?_eq_some_iff.mp hi).1
  refine ⟨hw _, ?_⟩
  show te _ H' _
  refine hb i x H' _ hi e fun y H4 e4 hE4 => ⟨acc, e4 _ _ ha, sz_lt (by omega), Ex.mut (e.trans e4) hD, acc ++ [y], upd_same, by rw [List.length_append, hl]; rfl, fun k z hk => ?_⟩
  by_cases hlt : k < acc.length
  · rw [List.getElem?_append_left hlt] at hk
    exact (hE k).2 _ _ _ _ _ (e4 _ _ ha) ((hE k).1 _ _ _ e4 (hy k z hk))
  · have hk2 : k = acc.length := by
      have := (List.getElem?_eq_some_iff.mp hk).1
      simp at this
      omega
    subst hk2
    rw [List.getElem?_append_right (Nat.le_refl _), Nat.sub_self] at hk
    have hz : y = z := Option.some.inj hk
    subst hz
    rw [hl]
    exact (hE i).2 _ _ _ _ _ (e4 _ _ ha) hE4
end

/-! ### a text, so many times -/
def rMulS : R2 := fun x y H Q => ∃ (z : Str) (n : Int), x = .str z ∧ y = .int n ∧ z.length ≤ 1000 ∧ -1000 ≤ n ∧ n ≤ 1000 ∧ ∀ r : Str, r.length = z.length * n.toNat → r = Txt.mul z n → Q (.str r) H
theorem cps_fold (x : Array Nat) : ∀ (n : Nat) (a : Array Nat), ((List.replicate n x).foldl (· ++ ·) a).size = a.size + x.size * n
  | 0, a => by simp
  | n + 1, a => by
    rw [List.replicate_succ, List.foldl_cons, cps_fold x n, Array.size_append, Nat.mul_succ]
    omega
theorem mul_len (z : Str) (n : Int) : (Txt.mul z n).length = z.length * n.toNat := by
  unfold Txt.mul
  by_cases h : n < 1
  · rw [if_pos h]
    have : n.toNat = 0 := by omega
    rw [this]
    rfl
  · rw [if_neg h]
    by_cases h2 : (n == 1 || z.length == 0) = true
    · rw [if_pos h2]
      rcases Bool.or_eq_true_iff.mp h2 with h3 | h3
      · have : n = 1 := by simpa using h3
        subst this
        show z.length = z.length * 1
        omega
      · have : z.length = 0 := by simpa using h3
        rw [this]
        omega
    · rw [if_neg h2]
      show ((List.replicate n.toNat z.cps).foldl (· ++ ·) #[]).size = z.cps.size * n.toNat
      rw [cps_fold]
      simp
section
variable {X : Cx}
theorem op_mul_str : OpR X (binaryOp .Mult) rMulS := by
  intro pins s σ H x y v u Q I rx ry h
  obtain ⟨z, n, rfl, rfl, hz, h1, h2, q⟩ := h
  obtain ⟨t, rfl⟩ := rx
  obtain ⟨t', rfl⟩ := ry
  refine SB.mul ⟨?_, fun h3 _ => ?_, fun h3 _ => ?_⟩ fun t' k => ⟨.str _, H, ?_, ⟨_, rfl⟩, q _ (mul_len z n) rfl⟩
  · have a1 : ¬ n < -(2 ^ 63 : Int) := by omega
    have a2 : ¬ n ≥ 2 ^ 63 := by omega
    rw [decide_eq_false a1, decide_eq_false a2]
    rfl
  · have : (1000 : Int) ≤ (2 ^ 63 - 1) / n := by
      rw [Int.le_ediv_iff_mul_le (by omega)]
      omega
    omega
  · have hm : z.length * n.toNat ≤ 1000000 := by
      have a : z.length * n.toNat ≤ 1000 * 1000 := Nat.mul_le_mul hz (by omega)
      omega
    exact decide_eq_false (by have : sizeLine ≥ 1000000 := by decide
                              omega)
  · exact I.tok _
end

/-! ### the pen: a list of the script, its place, its cell: one object that a draw does not change -/
def PenAt (a sc : Addr) (h : Heap) : Prop := ∃ (i c : Int) (its : List Value) (n : Nat), 0 ≤ i ∧ Vals [.ref sc, .int i, .int c] its ∧ h.get? a = some { cls := .type "list", data := .seq its.toArray n }
def PenO (a sc : Addr) : HO := .ext (PenAt a sc)
/-- a place where a fixed pen becomes its list -/
def tPenOpen (t : TS) : TS := fun D σ H => ∃ a sc, H a = some (PenO a sc) ∧ ∀ i c : Int, 0 ≤ i → t D σ (upd H a (.lst [.ref sc, .int i, .int c]))
def tPenShut (t : TS) : TS := fun D σ H => ∃ a sc i c, H a = some (.lst [.ref sc, .int i, .int c]) ∧ 0 ≤ i ∧ t D σ (upd H a (PenO a sc))
section
variable {X : Cx} {ss : List Stmt} {t : TS}
theorem pss_open (h : PSs X ss t) : PSs X ss (tPenOpen t) := by
  refine ⟨fun pins s σ H D I hh => ?_⟩
  obtain ⟨a, sc, ha, k⟩ := hh
  obtain ⟨⟨i, c, its, n, i0, vs, ho⟩, _⟩ := I.hok a _ ha
  have J : Inv X pins σ (upd H a (.lst [.ref sc, .int i, .int c])) { s with heap := s.heap, toks := s.toks } :=
    I.write (e := a) (by rw [ha]; exact True.intro) (.inl rfl) (fun b u _ q => q) ⟨_, ho⟩ ⟨by show 3 ≤ sizeLine; decide, its, n, vs, ho⟩
  exact h.run pins s σ _ D J (k i c i0)
theorem pss_shut (h : PSs X ss t) : PSs X ss (tPenShut t) := by
  refine ⟨fun pins s σ H D I hh => ?_⟩
  obtain ⟨a, sc, i, c, ha, i0, k⟩ := hh
  obtain ⟨_, its, n, vs, ho⟩ := I.hok a _ ha
  have J : Inv X pins σ (upd H a (PenO a sc)) { s with heap := s.heap, toks := s.toks } :=
    I.write (e := a) (by rw [ha]; exact True.intro) (.inl rfl) (fun b u _ q => q) ⟨_, ho⟩
      ⟨⟨i, c, its, n, i0, vs, ho⟩, ⟨_, ho⟩, fun h1 h2 ⟨i, c, its, n, i0, vs, ho⟩ st => ⟨i, c, its, n, i0, vs, st _ ho⟩⟩
  exact h.run pins s σ _ D J k
end

/-! ### words for the reading -/
theorem gen1 {H H2 : Hp} {p : Addr} {o : HO} (hp : H p = none) (e : upd H p o = H2) : Ex H H2 ∧ H2 p = some o := by
  subst e
  exact ⟨Ex.new hp, upd_same⟩
def Mu (l : Addr) (H H' : Hp) : Prop := ∀ a o, a ≠ l → H a = some o → H' a = some o
theorem gen2 {H H2 : Hp} {p : Addr} {o : HO} (e : upd H p o = H2) : Mu p H H2 ∧ H2 p = some o := by
  subst e
  exact ⟨fun a u ne h => by rw [upd_ne ne]; exact h, upd_same⟩
theorem Ex.app {H H' : Hp} {a : Addr} {o : HO} (e : Ex H H') (h : H a = some o) : H' a = some o := e a o h
theorem Mu.ex {H0 H H' : Hp} {l : Addr} (m : Mu l H H') (e : Ex H0 H) (h : H0 l = none) : Ex H0 H' := fun a o q => m a o (ne_of_none q h) (e a o q)

section
variable {σ : L2.St} {H H' : Hp} {Q : VK} {nx : L2.St → Hp → Prop} {rt : VK} {bk ct : L2.St → Hp → Prop} {K : PySem.W.Frag} {a sc : Addr}
theorem w_cut {t u : TS} (Mid : L2.St → Hp → Prop) (h : t ⟨Mid, rt, bk, ct⟩ σ H) (k : ∀ σ' H', Mid σ' H' → u ⟨nx, rt, bk, ct⟩ σ' H') : tCut t u ⟨nx, rt, bk, ct⟩ σ H := ⟨Mid, h, k⟩
theorem w_open {t : TS} (h : H a = some (PenO a sc)) (k : ∀ i c : Int, 0 ≤ i → t ⟨nx, rt, bk, ct⟩ σ (upd H a (.lst [.ref sc, .int i, .int c]))) : tPenOpen t ⟨nx, rt, bk, ct⟩ σ H := ⟨a, sc, h, k⟩
theorem w_shut {t : TS} {i c : Int} (h : H a = some (.lst [.ref sc, .int i, .int c])) (h0 : 0 ≤ i) (k : t ⟨nx, rt, bk, ct⟩ σ (upd H a (PenO a sc))) : tPenShut t ⟨nx, rt, bk, ct⟩ σ H := ⟨a, sc, i, c, h, h0, k⟩
theorem Mu.trans {l : Addr} {H1 H2 H3 : Hp} (a : Mu l H1 H2) (b : Mu l H2 H3) : Mu l H1 H3 := fun x o n h => b x o n (a x o n h)
theorem Mu.of {l : Addr} {H1 H2 : Hp} (e : Ex H1 H2) : Mu l H1 H2 := fun x o _ h => e x o h
/-- a list that is no fixed pen stays while the pen moves -/
theorem Mu.seq {f : Heap → Prop} {b : Addr} {xs : List V} (m : Mu a H H') (h : H a = some (.ext f)) (q : SqL K H b xs) : SqL K H' b xs := by
  rcases q with (q | ⟨o, q⟩) | q
  · exact .inl (.inl (m _ _ (ne_of q h (by intro z; cases z)) q))
  · exact .inl (.inr ⟨o, m _ _ (ne_of q h (by intro z; cases z)) q⟩)
  · exact .inr q
end

theorem at_pos {xs : List V} {i : Int} (h0 : 0 ≤ i) (h1 : i < (xs.length : Int)) : ∃ v, atI xs i = some v ∧ xs[i.toNat]? = some v := by
  obtain ⟨n, rfl⟩ := Int.eq_ofNat_of_zero_le h0
  have h : n < xs.length := by omega
  exact ⟨xs[n], atI_nat (List.getElem?_eq_getElem h), List.getElem?_eq_getElem h⟩
theorem at_ints {ns : List Int} {i : Int} (h0 : 0 ≤ i) (h1 : i < (ns.length : Int)) : ∃ n, atI (ns.map V.int) i = some (.int n) := by
  obtain ⟨v, h, e⟩ := at_pos (xs := ns.map V.int) h0 (by rw [List.length_map]; exact h1)
  rw [List.getElem?_map] at e
  cases q : ns[i.toNat]? with
  | none =>
    rw [q] at e
    cases e
  | some n =>
    rw [q] at e
    exact ⟨n, by rw [h, ← e]; rfl⟩
theorem at_strs {ws : List Str} {i : Int} (h0 : 0 ≤ i) (h1 : i < (ws.length : Int)) : ∃ w, w ∈ ws ∧ atI (ws.map V.str) i = some (.str w) := by
  obtain ⟨v, h, e⟩ := at_pos (xs := ws.map V.str) h0 (by rw [List.length_map]; exact h1)
  rw [List.getElem?_map] at e
  cases q : ws[i.toNat]? with
  | none =>
    rw [q] at e
    cases e
  | some n =>
    rw [q] at e
    exact ⟨n, List.mem_of_getElem? q, by rw [h, ← e]; rfl⟩
theorem at_0 {α : Type} {a : α} {r : List α} : atI (a :: r) 0 = some a := atI_nat (j := 0) rfl
theorem at_1 {α : Type} {a b : α} {r : List α} : atI (a :: b :: r) 1 = some b := atI_nat (j := 1) rfl
theorem at_2 {α : Type} {a b c : α} {r : List α} : atI (a :: b :: c :: r) 2 = some c := atI_nat (j := 2) rfl
theorem at_3 {α : Type} {a b c d : α} {r : List α} : atI (a :: b :: c :: d :: r) 3 = some d := atI_nat (j := 3) rfl
theorem at_4 {α : Type} {a b c d e : α} {r : List α} : atI (a :: b :: c :: d :: e :: r) 4 = some e := atI_nat (j := 4) rfl
theorem at_5 {α : Type} {a b c d e f : α} {r : List α} : atI (a :: b :: c :: d :: e :: f :: r) 5 = some f := atI_nat (j := 5) rfl
theorem at_6 {α : Type} {a b c d e f g : α} {r : List α} : atI (a :: b :: c :: d :: e :: f :: g :: r) 6 = some g := atI_nat (j := 6) rfl
theorem at_7 {α : Type} {a b c d e f g h : α} {r : List α} : atI (a :: b :: c :: d :: e :: f :: g :: h :: r) 7 = some h := atI_nat (j := 7) rfl
theorem at_8 {α : Type} {a b c d e f g h i : α} {r : List α} : atI (a :: b :: c :: d :: e :: f :: g :: h :: i :: r) 8 = some i := atI_nat (j := 8) rfl
theorem at_9 {α : Type} {a b c d e f g h i j : α} {r : List α} : atI (a :: b :: c :: d :: e :: f :: g :: h :: i :: j :: r) 9 = some j := atI_nat (j := 9) rfl
theorem atm_1 {α : Type} {a : α} : atI [a] (-1) = some a := atI_last [] a
theorem atm_2 {α : Type} {a b : α} : atI [a, b] (-1) = some b := atI_last [a] b
theorem atm_3 {α : Type} {a b c : α} : atI [a, b, c] (-1) = some c := atI_last [a, b] c
theorem atm_4 {α : Type} {a b c d : α} : atI [a, b, c, d] (-1) = some d := atI_last [a, b, c] d
theorem atm_5 {α : Type} {a b c d e : α} : atI [a, b, c, d, e] (-1) = some e := atI_last [a, b, c, d] e
theorem atm_6 {α : Type} {a b c d e f : α} : atI [a, b, c, d, e, f] (-1) = some f := atI_last [a, b, c, d, e] f
theorem pen_ex {a sc : Addr} {H H2 : Hp} (m : Mu a H H2) (h : H a = some (PenO a sc)) : Ex H (upd H2 a (PenO a sc)) := fun b o hb => by
  by_cases e : b = a
  · subst e
    rw [upd_same, ← hb, h]
  · rw [upd_ne e]
    exact m b o e hb

/-! ### texts of which the length alone is told, and that their signs are signs -/
abbrev TxtOk (n : Nat) (z : Str) : Prop := z.length ≤ n ∧ PySem.PyData.strOk z = true
theorem app_len (a b : Str) : (a ++ b).length = a.length + b.length := by
  show (a.cps ++ b.cps).size = _
  rw [Array.size_append]
  rfl
theorem app_ok {a b : Str} (ha : PySem.PyData.strOk a = true) (hb : PySem.PyData.strOk b = true) : PySem.PyData.strOk (a ++ b) = true := by
  show ((a.cps ++ b.cps).all _) = true
  rw [Array.all_append]
  exact Bool.and_eq_true_iff.mpr ⟨ha, hb⟩
theorem reps_ok {x : Array Nat} {f : Nat → Bool} (hx : x.all f = true) : ∀ (n : Nat) (a : Array Nat), a.all f = true → ((List.replicate n x).foldl (· ++ ·) a).all f = true
  | 0, a, h => h
  | n + 1, a, h => by
    rw [List.replicate_succ, List.foldl_cons]
    refine reps_ok hx n _ ?_
    rw [Array.all_append]
    exact Bool.and_eq_true_iff.mpr ⟨h, hx⟩
theorem mul_ok {z : Str} {n : Int} (hz : PySem.PyData.strOk z = true) : PySem.PyData.strOk (Txt.mul z n) = true := by
  unfold Txt.mul
  split
  · decide +kernel
  · split
    · exact hz
    · exact reps_ok hz _ _ (by simp)
def rAddA : R2 := fun x y H Q => ∃ (i j : Str), x = .str i ∧ y = .str j ∧ i.length + j.length ≤ 100000 ∧ ∀ r : Str, r = i ++ j → Q (.str r) H
def rStrA : List V → Hp → VK → Prop := fun xs H Q => ∃ i : Int, xs = [.int i] ∧ (0 ≤ i ∧ i < 1000) ∧ ∀ r : Str, TxtOk 3 r → Q (.str r) H
theorem str_small : ∀ n : Nat, n < 1000 → TxtOk 3 (Str.ofString (toString (n : Int))) := by decide +kernel
section
variable {X : Cx} {H : Hp} {Q : VK}
theorem op_addA : OpR X (binaryOp .Add) rAddA := fun pins s σ H x y v u Q I rx ry ⟨i, j, e1, e2, hl, q⟩ => op_add_str pins s σ H x y v u Q I rx ry ⟨i, j, e1, e2, sz_of hl, q _ rfl⟩
theorem cr_strA : CallR X (.type "str") rStrA := fun pins s σ H xs us Q I r ⟨i, e, hi, q⟩ => by
  refine call_str_int pins s σ H xs us Q I r ⟨i, e, ?_, q _ ?_⟩
  · have h : i.natAbs < 2 ^ 1920 := Nat.lt_of_lt_of_le (show i.natAbs < 1000 by omega) (by decide +kernel)
    by_cases z : i.natAbs = 0
    · rw [z]
      decide +kernel
    · exact (Nat.log2_lt z).mpr h
  · obtain ⟨n, rfl⟩ := Int.eq_ofNat_of_zero_le hi.1
    exact str_small n (by omega)
theorem w_addA {i j : Str} {bi bj : Nat} (hi : TxtOk bi i) (hj : TxtOk bj j) (h : bi + bj ≤ 100000) (q : ∀ r : Str, TxtOk (bi + bj) r → Q (.str r) H) : rAddA (.str i) (.str j) H Q :=
  ⟨i, j, rfl, rfl, Nat.le_trans (Nat.add_le_add hi.1 hj.1) h, fun r hr => q r ⟨by rw [hr, app_len]; exact Nat.add_le_add hi.1 hj.1, by rw [hr]; exact app_ok hi.2 hj.2⟩⟩
theorem w_mulS {z : Str} {n : Int} (hz : TxtOk 10 z) (h : -1000 ≤ n ∧ n ≤ 50) (q : ∀ r : Str, TxtOk 500 r → Q (.str r) H) : rMulS (.str z) (.int n) H Q := ⟨z, n, rfl, rfl, Nat.le_trans hz.1 (by decide), h.1, by omega, fun r hr er => q r ⟨by
  have a : z.length * n.toNat ≤ 10 * 50 := Nat.mul_le_mul hz.1 (by omega)
  omega, by rw [er]; exact mul_ok hz.2⟩⟩
theorem sign_ok {z : Str} {c : Nat} {i : Nat} (hz : PySem.PyData.strOk z = true) (h : z.cps.toList[i]? = some c) : TxtOk 1 ⟨#[c]⟩ := by
  refine ⟨Nat.le_refl 1, ?_⟩
  have m : c ∈ z.cps := Array.mem_def.mpr (List.mem_of_getElem? h)
  have q : decide (c < 0x110000) = true := Array.all_eq_true'.mp hz c m
  show (#[c] : Array Nat).all (fun x => decide (x < 0x110000)) = true
  simpa using q
theorem w_ixSA {z : Str} {i : Int} {n : Nat} (h : TxtOk n z) (hn : n ≤ 100000) (h0 : 0 ≤ i) (h1 : i < (z.length : Int)) (q : ∀ r : Str, TxtOk 1 r → Q (.str r) H) : rIxS (.str z) (.int i) H Q := by
  obtain ⟨k, rfl⟩ := Int.eq_ofNat_of_zero_le h0
  have lt : k < z.cps.toList.length := by
    have : z.length = z.cps.toList.length := by simp [Str.length]
    omega
  exact ⟨z, k, _, rfl, rfl, sz_of (Nat.le_trans h.1 hn), atI_nat (List.getElem?_eq_getElem lt), q _ (sign_ok h.2 (List.getElem?_eq_getElem lt))⟩
theorem w_strA {i : Int} (h : 0 ≤ i ∧ i < 1000) (q : ∀ r : Str, TxtOk 3 r → Q (.str r) H) : rStrA [.int i] H Q := ⟨i, rfl, h, q⟩
theorem w_cat {l b : Addr} {xs zs : List V} (hl : H l = some (.lst xs)) (hb : H b = some (.lst zs)) (h : xs.length + zs.length ≤ 100000) (q : ∀ p, H p = none → Q (.ref p) (upd H p (.lst (xs ++ zs)))) : rCat (.ref l) (.ref b) H Q := ⟨l, b, xs, zs, rfl, rfl, hl, hb, sz_of h, q⟩
theorem w_rep {l : Addr} {xs : List V} {k : Int} (hl : H l = some (.lst xs)) (h : -1000 ≤ k ∧ k ≤ 1000) (h2 : xs.length ≤ 100) (q : ∀ p, H p = none → Q (.ref p) (upd H p (.lst (List.flatten (List.replicate k.toNat xs))))) : rRep (.ref l) (.int k) H Q := by
  refine ⟨l, k, xs, rfl, rfl, hl, by omega, by omega, ?_, ?_⟩
  · have a : xs.length * k.toNat ≤ 100 * 1000 := Nat.mul_le_mul h2 (by omega)
    exact sz_of (by omega)
  · exact q
end
/-- a place of a sign -/
theorem at_sign {z : Str} {i : Int} (h0 : 0 ≤ i) (h1 : i < (z.length : Int)) : ∃ c, atI z.cps.toList i = some c := by
  obtain ⟨n, rfl⟩ := Int.eq_ofNat_of_zero_le h0
  have h : n < z.cps.toList.length := by
    have : z.length = z.cps.toList.length := by simp [Str.length]
    omega
  exact ⟨_, atI_nat (List.getElem?_eq_getElem h)⟩

section
variable {K : PySem.W.Frag} {H : Hp} {Q : VK}
/-- some item -/
theorem w_ixLP {p : Addr} {xs : List V} {i : Int} (h : SqL K H p xs) (h0 : 0 ≤ i) (h1 : i < (xs.length : Int)) (q : ∀ v, v ∈ xs → Q v H) : rIxL K (.ref p) (.int i) H Q := by
  obtain ⟨v, e, e2⟩ := at_pos h0 h1
  exact w_ixL h e (q v (List.mem_of_getElem? e2))
/-- all are texts, none too long -/
def Short (n : Nat) (v : V) : Prop := ∃ z : Str, v = .str z ∧ TxtOk n z
theorem short_of {n m : Nat} {z : Str} (h : TxtOk n z) (hm : n ≤ m) : Short m (.str z) := ⟨z, rfl, Nat.le_trans h.1 hm, h.2⟩
theorem short_lit {s : String} {n : Nat} (h : TxtOk 60 (Str.ofString s)) (hm : 60 ≤ n) : Short n (.str (Str.ofString s)) := ⟨_, rfl, Nat.le_trans h.1 hm, h.2⟩
end
theorem ex_tr {H H1 H2 : Hp} (b : Ex H1 H2) (a : Ex H H1) : Ex H H2 := a.trans b
theorem w_tupL {K : PySem.W.Frag} {H : Hp} {p : Addr} {ys : List V} {G : Addr → List V → Addr → Prop} {R : Addr → List V → Prop} (h : SqL K H p ys) (q : ∀ l, H l = none → G p ys l) :
    ∃ a zs, [V.ref p] = [V.ref a] ∧ ((SqL K H a zs ∧ ∀ l, H l = none → G a zs l) ∨ R a zs) := ⟨p, ys, rfl, .inl ⟨h, q⟩⟩
theorem w_lstL {K : PySem.W.Frag} {H : Hp} {p : Addr} {ys : List V} {G : Addr → List V → Addr → Prop} (h : SqL K H p ys) (q : ∀ l, H l = none → G p ys l) :
    ∃ a zs, [V.ref p] = [V.ref a] ∧ (SqL K H a zs ∨ SqT K H a zs) ∧ ∀ l, H l = none → G a zs l := ⟨p, ys, rfl, .inl h, q⟩
theorem w_lstT {K : PySem.W.Frag} {H : Hp} {p : Addr} {ys : List V} {G : Addr → List V → Addr → Prop} (h : SqT K H p ys) (q : ∀ l, H l = none → G p ys l) :
    ∃ a zs, [V.ref p] = [V.ref a] ∧ (SqL K H a zs ∨ SqT K H a zs) ∧ ∀ l, H l = none → G a zs l := ⟨p, ys, rfl, .inr h, q⟩
theorem Mu.app {l a : Addr} {H H' : Hp} {o : HO} (m : Mu l H H') (ne : a ≠ l) (h : H a = some o) : H' a = some o := m a o ne h

/-! ### a comprehension whose items are new lists -/
def NewLists (E : Nat → List V → Prop) (H : Hp) (p : Addr) (qs : List Addr) (H2 : Hp) : Prop := qs.Nodup ∧ ∀ i q, qs[i]? = some q → q ≠ p ∧ H q = none ∧ ∃ ys, H2 q = some (.lst ys) ∧ E i ys
theorem newLists_step {E : Nat → List V → Prop} {H H' H4 : Hp} {D q : Addr} {qs : List Addr} {ys acc : List V} (h : NewLists E H D qs H') (eH : Ex H H') (hD : H' D = some (.lst acc)) (hq : H' q = none) (e : Ex H' H4) (hy : H4 q = some (.lst ys)) (hE : E qs.length ys) (o : HO) :
    NewLists E H D (qs ++ [q]) (upd H4 D o) := by
  have nD : q ≠ D := fun z => by
    rw [z, hD] at hq
    cases hq
  have old : ∀ i r, qs[i]? = some r → r ≠ q := fun i r hr z => by
    obtain ⟨_, _, zs, h3, _⟩ := h.2 i r hr
    rw [z, hq] at h3
    cases h3
  refine ⟨?_, fun i r hr => ?_⟩
  · refine List.nodup_append.mpr ⟨h.1, List.pairwise_singleton _ _, fun x hx y hy2 => ?_⟩
    rw [List.mem_singleton] at hy2
    subst hy2
    obtain ⟨i, lt, ei⟩ := List.getElem_of_mem hx
    exact old i x (by rw [List.getElem?_eq_getElem lt, ei])
  · by_cases lt : i < qs.length
    · rw [List.getElem?_append_left lt] at hr
      obtain ⟨h1, h2, zs, h3, h4⟩ := h.2 i r hr
      exact ⟨h1, h2, zs, by rw [upd_ne h1]; exact e _ _ h3, h4⟩
    · have hi : i = qs.length := by
        have := (List.getElem?_eq_some_iff.mp hr).1
        simp at this
        omega
      subst hi
      rw [List.getElem?_append_right (Nat.le_refl _), Nat.sub_self] at hr
      have : q = r := Option.some.inj hr
      subst this
      exact ⟨nD, fresh_back eH hq, ys, by rw [upd_ne nD]; exact hy, hE⟩
section
variable {σ : L2.St} {H : Hp} {Q : VK} {K : PySem.W.Frag} {te : TE} {j : Nat} {vs : List Nat}
theorem c_listN {a : Addr} {xs : List V} (E : Nat → List V → Prop) (hn : xs.length ≤ 50000) (hx : SqL K H a xs) (hw : ∀ x, wipe ((wipe σ vs).set j (some x)) vs = wipe σ vs)
    (hb : ∀ (i : Nat) x H' Q', xs[i]? = some x → Ex H H' → (∀ q ys H4, H' q = none → Ex H' H4 → H4 q = some (.lst ys) → E i ys → Q' (.ref q) H4) → te ((wipe σ vs).set j (some x)) H' Q')
    (q : ∀ p (qs : List Addr) H2, H p = none → Ex H H2 → H2 p = some (.lst (qs.map V.ref)) → qs.length = xs.length → NewLists E H p qs H2 → Q (.ref p) H2) : CompJ (Itl K a) (gName j) tYes te vs σ H Q := by
  intro D hD
  refine lc_list (K := K) (a := a) (xs := xs) (fun i H' => Ex H H' ∧ ∃ qs : List Addr, H' D = some (.lst (qs.map V.ref)) ∧ qs.length = i ∧ NewLists E H D qs H') ⟨Ex.new hD, [], upd_same, rfl, List.nodup_nil, fun i r h => by simp at h⟩ (fun i H' _ p => ex_l p.1 hx) (fun i x H' hi ⟨e, qs, ha, hl, hN⟩ => ?_) fun H' ⟨e, qs, ha, hl, hN⟩ => q D qs H' hD e ha hl hN
  have lt : i < xs.length := (List.getElem?_eq_some_iff.mp hi).1
  refine ⟨hw _, ?_⟩
  show te _ H' _
  refine hb i x H' _ hi e fun r ys H4 hr e4 h4 hE => ⟨qs.map V.ref, e4 _ _ ha, sz_lt (by rw [List.length_map]; omega), Ex.mut (e.trans e4) hD, qs ++ [r], by rw [List.map_append]; exact upd_same, by rw [List.length_append, hl]; rfl, newLists_step hN e ha hr e4 h4 (by rw [hl]; exact hE) _⟩
end

end

section
open PySem PySem.Spec PyProof.Rows L2 Evl
/-- as FnOk, but only where no guard stands -/
structure FnG (P : Program) (w : World) (K : PySem.W.Frag) (mg : Str → Option Value) (base : Heap) (CX : CXT) (k : Nat) (f : Addr) (fd : FuncData) (ps : List Str) (sp : Sp) : Prop where
  len : ∀ vs H Q E, sp vs H Q E → vs.length = ps.length
  run : ∀ (A : Around) (outer : List Env) (s : Shared) (H : Hp) (args : Args) (us : List Value) (vs : List V) (Q : VK) (E : XK), A.guards = some [] → Room k A → Env0 P w K mg base A outer s H → BindsTo s fd args (ps.zip us) → Vals vs us → sp vs H Q E →
    codeAny (model P w) A (.call (.ref f) args) (CR CX outer P w H s Q E) s
theorem FnG.of {P : Program} {w : World} {K : PySem.W.Frag} {mg : Str → Option Value} {base : Heap} {CX : CXT} {k : Nat} {f : Addr} {fd : FuncData} {ps : List Str} {sp : Sp} (F : FnOk P w K mg base CX k f fd ps sp) : FnG P w K mg base CX k f fd ps sp :=
  ⟨F.len, fun A outer s H args us vs Q E _ => F.run A outer s H args us vs Q E⟩
section
variable {P : Program} {w : World} {K : PySem.W.Frag} {mg : Str → Option Value} {base : Heap}
/-- a def's body, where no guard stands -/
theorem okG {x qual : Str} {st : Stmt} {f : Addr} {fd : FuncData} {N ps : List Str} {k : Nat} {sp : Sp} (F : Fun K x qual st f fd) (S : FnScope N ps (defScope st)) (len : ∀ vs H Q E, sp vs H Q E → vs.length = ps.length)
    (body : ∀ (cdv : Value) (A : Around) (outer : List Env) (s : Shared) (H : Hp) (vs : List V) (Q : VK) (E : XK), (A.deeper (envOfC qual (defScope st) s.heap.objs.size f cdv)).guards = some [] → Room k (A.deeper (envOfC qual (defScope st) s.heap.objs.size f cdv)) → sp vs H Q E →
      ∃ t, PSs (cxOf CX0 P w K mg base N qual (defScope st) f cdv A outer s H E).nox (defBody st) t ∧ t { nx := fun _ H' => Q .non H', rt := Q } (start N vs) H) : FnG P w K mg base CX0 (k + 1) f fd ps sp := by
  obtain ⟨oc, od, kV, doc, pm, an, cdv, ct, osl, rfl, lk, code⟩ := F.ex
  refine ⟨len, fun A outer s H args us vs Q E gd hr e0 bind rv want => ?_⟩
  have inK : K.In s.heap := e0.mod.kin.keeps fun b o e => (e0.bs b o e).1
  have noLim : s.heap.NoLimit := e0.mod.nolimit.keeps fun b o e => (e0.bs b o e).1
  refine codeAny_call_function hr.depth (inK _ _ lk) rfl S.co S.gen rfl (PySem.W.codeRec_of inK code) (bind _ _ _ _ ?_)
  refine wpAny_newFunctionEnv_cells S.kind (fun ⟨n, v⟩ hy => ?_) fun env he s1 x => ?_
  · rcases S.par n (List.of_mem_zip hy).1 with q | q
    · exact .inl q
    · exact .inr ⟨q, PySem.W.cellsFrom_some _ _ _ (.inl q)⟩
  · subst he
    refine ⟨noLim.keeps x.toInCall.keep, codeAny_func ?_⟩
    obtain ⟨t, ht, q⟩ := body cdv A outer s H vs Q E gd (hr.deeper _) want
    have I := inv_start (CX := CX0) (E := E) S hr.hd e0 (len _ _ _ _ want) rv x
    refine wpAny_mono (ht.nox.run [] s1 (start N vs) H _ I q) (fun fl s' z => ?_) fun e s' z => z
    match fl, z with
    | .ret u, ⟨v, σ', H', J, r2, q2⟩ => exact ⟨v, H', J.os, J.bare, J.base, J.hok, r2, q2⟩
    | .next, ⟨σ', H', J, q2⟩ => exact ⟨V.non, H', J.os, J.bare, J.base, J.hok, (show RelV V.non Value.none from rfl), q2⟩
    | .brk, ⟨_, _, _, q2⟩ => exact q2.elim
    | .cont, ⟨_, _, _, q2⟩ => exact q2.elim
end
section
variable {X : Cx} {CX : CXT} {k : Nat} {f : Addr} {fd : FuncData} {ps : List Str} {sp : Sp} {dvs : List V} {ds : List Value} {E : XK} {x : Str} {p pos : Pos} {e : Expr} {es : List Expr} {t : TA}
/-- f(..), f such a def -/
theorem pe_callG (F : FnG X.prog X.w X.K X.mg X.base CX k f fd ps sp) (gd : X.A.guards = some []) (hr : Room k X.A) (hg : Gl X x) (hm : X.mg x = some (.ref f)) (hk : PySem.W.keepIn X.K (.ref f) = true) (hb : Binds X.K fd ps ds) (hd : Vals dvs ds) (hx : Passes CX X E)
    (ha : PA X (e :: es) t) (hdb : (x == ("__debug__" : Str)) = false := by decide) (he : starEach (e :: es) X.env = (false, eval e X.env) :: starEach es X.env := by rfl) (hpl : (backTo pos (starEach es X.env)).any (·.1) = false := by rfl) :
    PE X (.Call (.Name x p) (e :: es) [] pos) (tCall sp dvs E t) := by
  refine ⟨fun pins s σ H Q I h => wpAny_Call_Name_kw (ld_glob I hg hm ?_ hdb)⟩
  refine PySem.W.callWith_K (h₀ := X.base) I.ok.mod.kin hk (thn (ha.run pos pins s σ H _ I h) fun us s1 ⟨vs, H1, I1, r, q⟩ => ⟨I1.kIn, ?_⟩) he hpl
  have r2 : Vals (vs ++ dvs) (us ++ ds) := r.append hd
  refine wpAny_call (codeAny_mono (F.run X.A X.stack s1 H1 ⟨us, []⟩ (us ++ ds) (vs ++ dvs) Q E gd hr I1.env0 (hb s1 us I1.kIn (by rw [← r2.length]; exact F.len _ _ _ _ q)) r2 q) fun r s' z => ?_)
  match r, z with
  | .error e, z => exact hx pins σ H1 s1 e s' I1 z
  | .ok (.ret u), z => exact I1.after z
  | .ok .next, z => exact z.elim
  | .ok .brk, z => exact z.elim
  | .ok .cont, z => exact z.elim
end

/-! ### repr of data -/
def rRepr (K : PySem.W.Frag) : List V → Hp → VK → Prop := fun xs H Q => ∃ (a : Addr) (d : PyData), xs = [.ref a] ∧ Dp K H (.ref a) d ∧ d.showable = true ∧ d.hasDict = false ∧ d.depth ≤ 64 ∧ d.shown.length ≤ sizeLine ∧ Q (.str d.shown) H
section
variable {X : Cx}
theorem call_repr (gd : X.A.guards = some []) (hu : X.A.units + 200 < cLine) : CallR X (.builtin "repr") (rRepr X.K) := by
  intro pins s σ H xs us Q I r h
  obtain ⟨a, d, rfl, hd, sh, nd, dep, len, q⟩ := h
  rw [Vals.ref1 r]
  obtain ⟨as, rd⟩ := Dp.reads I d (.ref a) (.ref a) hd rfl
  refine repr_of_reads' rd sh (PyData.noDict_hsm nd) gd (by omega) (fun _ _ e => e) (fun h' u tk k => ?_) len
  exact ⟨.str d.shown, H, I.kept (t' := tk) k, ⟨u, rfl⟩, q⟩
end

/-! ### the law's end for such a promise -/
section
variable {P : Program} {w : World} {K : PySem.W.Frag}
/-- from the heap in which the script alone may be tracked -/
theorem law_runG {mg mb : Str → Option Value} {CX : CXT} {k : Nat} {fa a : Addr} {fd : FuncData} {x : Str} {sp : Sp} {s₁ : Shared} {vs : List Value} {H : Hp}
    (inK : K.In s₁.heap) (gl : s₁.heap.Ns mainGlobals mg) (bl : s₁.heap.Ns builtinsNs mb) (bb : ∀ x : Str, x ≠ "__name__" → mb x = bootBuiltins x) (lim : s₁.heap.NoLimit) (gens : s₁.gens = #[])
    (ob : s₁.heap.get? a = some { cls := .type "list", data := .seq vs.toArray }) (room : Room k callerA)
    (F : ∀ base : Heap, K.In base → base.Ns mainGlobals mg → FnG P w K mg base CX k fa fd [x] sp) (bind : ∀ (s : Shared) (u : Value), BindsTo s fd ⟨[u], []⟩ [(x, u)])
    (only : Only H) (ok : HOk P w H s₁.heap) (one : ∀ b, H b ≠ none → b = a) (out : H a ≠ none → K.lookup a = none)
    (want : sp [.ref a] H (fun v _ => v = .bl true) fun _ _ _ => False) (noErr : ∀ H e s', CX [] H s₁ (fun _ _ _ => False) e s' → False) :
    codeAny (model P w) callerA (.call (.ref fa) ⟨[.ref a], []⟩) (fun r s' => r = .ok (.ret (.bool true)) ∧ OldK s₁.heap s'.heap ∧ s'.os = s₁.os ∧ AllBare s'.gens) s₁ := by
  have free : ∀ {b : Addr}, b ≠ a → H b = none := fun {b} nb => by
    cases q : H b with
    | none => rfl
    | some u => exact absurd (one b (by rw [q]; exact Option.some_ne_none u)) nb
  have hidden : ∀ {b : Addr} {m : Str → Option Value}, s₁.heap.Ns b m → (hidT s₁.heap H).Ns b m := fun {b m} ⟨o, es, ep, e, d, r⟩ =>
    ⟨o, es, ep, hidT_get e (free fun z => by
      subst z
      rw [ob] at e
      cases e
      exact nomatch (show Data.seq vs.toArray _ = Data.dict es ep from d)), d, r⟩
  have inB : K.In (hidT s₁.heap H) := fun b o e => by
    refine hidT_get (inK b o e) ?_
    cases q : H b with
    | none => rfl
    | some u =>
      have z := one b (by rw [q]; exact Option.some_ne_none u)
      subst z
      rw [out (by rw [q]; exact Option.some_ne_none u)] at e
      cases e
  have m : Mod K mg (hidT s₁.heap H) := ⟨inB, hidden gl, ⟨mb, hidden bl, bb⟩, let ⟨mc, h1, h2⟩ := lim; ⟨mc, hidden h1, h2⟩⟩
  have e0 : Env0 P w K mg (hidT s₁.heap H) callerA [] s₁ H := ⟨rfl, m, fun b o e => of_hidT e, Nat.le_of_eq (hidT_size _ _), True.intro, fun b hb => by simp [frs] at hb, ok, .of_eq gens⟩
  refine codeAny_mono ((F _ inB (hidden gl)).run callerA [] s₁ H ⟨[.ref a], []⟩ [.ref a] [.ref a] _ _ rfl room e0 (bind s₁ (.ref a)) (.cons rfl .nil) want) fun r s' z => ?_
  match r, z with
  | .error e, z => exact (noErr H e s' z).elim
  | .ok .next, z => exact z.elim
  | .ok .brk, z => exact z.elim
  | .ok .cont, z => exact z.elim
  | .ok (.ret u), ⟨v, H', os, bare, un, ok', ru, q⟩ =>
    obtain rfl : v = .bl true := q
    obtain rfl : u = Value.bool true := ru
    refine ⟨rfl, OldK.of_keep fun b o e => ?_, os, bare⟩
    rcases only b with z | ⟨o2, xs, z⟩
    · exact un.keep b o e z (by simp [frs]) (by simp)
    · obtain ⟨e1, _⟩ := ok b _ z
      obtain ⟨e2, _⟩ := ok' b _ (un.frzs b o2 _ z)
      rw [e] at e1
      cases e1
      exact e2
theorem walk_ofG {l : PySem.W.OpenLaw} {n k : Nat} {q : Program} {loose : List Str} {XP : (Str → Option Value) → Heap → Prop} {YP : World → Heap → Prop} {d : DefRec} {K : Params → PySem.W.Frag} {CX : World → CXT} {sp : World → Sp} {x : Str}
    (hn : l.most = some n) (hn2 : n ≤ sizeLine) (hdf : d.params.defaults = []) (room : Room k callerA) (hY : ∀ (w : World) (h : Heap), YP w h → (K w.params).In h)
    (F : ∀ (w : World) (mg : Str → Option Value) (fa : Addr) (h : Heap), (K w.params).In h → h.Ns mainGlobals mg → mg d.name = some (.ref fa) → ∃ fd : FuncData, (∀ (s : Shared) (u : Value), BindsTo s fd ⟨[u], []⟩ [(x, u)]) ∧
      ∀ base : Heap, (K w.params).In base → base.Ns mainGlobals mg → FnG l.prog w (K w.params) mg base (CX w) k fa fd [x] (sp w))
    (want : ∀ (w : World) (H : Hp) (a : Addr) (ns : List Int), ns.length ≤ n → Only H → SqL (K w.params) H a (ns.map V.int) → sp w [.ref a] H (fun v _ => v = .bl true) fun _ _ _ => False)
    (noErr : ∀ (w : World) (H : Hp) (s : Shared) (e : Value) (s' : Shared), CX w [] H s (fun _ _ _ => False) e s' → False) : PySem.W.WalkO q loose XP YP l.row.toRowW d [] (fun f vs => PySem.call f vs) := by
  refine Att.attach_call hn hdf fun w s₀ s₁ mg mb fa o pm cd doc a vs ns G Y ho hd hcd hmg ob allInt len gens => ?_
  have inK := hY w _ Y
  obtain ⟨fd, bind, hF⟩ := F w mg fa _ inK G.T.g hmg
  have rv := vals_ints allInt
  have ll : (ns.map V.int).length ≤ sizeLine := by rw [List.length_map]; exact Nat.le_trans len hn2
  cases look : (K w.params).lookup a with
  | some oK =>
    have e := inK a oK look
    rw [ob] at e
    cases e
    have sq : SqL (K w.params) (fun _ => none) a (ns.map V.int) := .inr ⟨_, vs.toArray, _, look, rfl, rfl, rfl, by rw [List.size_toArray, allInt.length]; exact Nat.le_trans len hn2, by simpa using rv⟩
    exact law_runG inK G.T.g G.T.b G.T.builtins G.T.nolimit gens ob room hF bind (fun _ => .inl rfl) (fun b u z => nomatch (show (none : Option HO) = some u from z)) (fun b z => absurd rfl z) (fun z => absurd rfl z) (want w _ a ns len (fun _ => .inl rfl) sq) fun H e s' => noErr w H s₁ e s'
  | none =>
    have only : Only (upd (fun _ => none) a (.frz { cls := .type "list", data := .seq vs.toArray } (.lst (ns.map V.int)))) := fun b => by
      by_cases z : b = a
      · exact .inr ⟨_, _, by rw [z]; exact upd_same⟩
      · exact .inl (upd_ne z)
    refine law_runG inK G.T.g G.T.b G.T.builtins G.T.nolimit gens ob room hF bind only (fun b u z => ?_) (fun b z => ?_) (fun _ => look) (want w _ a ns len only (.inl (.inr ⟨_, upd_same⟩))) fun H e s' => noErr w H s₁ e s'
    · by_cases e : b = a
      · subst e
        rw [upd_same] at z
        cases z
        exact ⟨ob, ll, vs, _, rv, ob⟩
      · rw [upd_ne e] at z
        cases z
    · by_cases e : b = a
      · exact e
      · exact absurd (upd_ne e) z
end

end

section
open PySem PySem.Spec PyProof.Rows L2 Evl
mutual
/-- the value v is the key k -/
inductive KyD (K : PySem.W.Frag) (H : Hp) : V → NestedKey → Prop
  | non : KyD K H .non .none
  | int (i : Int) : KyD K H (.int i) (.num i)
  | str (x : Str) : KyD K H (.str x) (.text x)
  | tup {a : Addr} {xs : List V} {ks : List NestedKey} : SqT K H a xs → KyAll K H xs ks → KyD K H (.ref a) (.tup ks)
inductive KyAll (K : PySem.W.Frag) (H : Hp) : List V → List NestedKey → Prop
  | nil : KyAll K H [] []
  | cons {v : V} {vs : List V} {k : NestedKey} {ks : List NestedKey} : KyD K H v k → KyAll K H vs ks → KyAll K H (v :: vs) (k :: ks)
end
section
variable {X : Cx} {pins : List (Addr × Obj)} {σ : L2.St} {H H' : Hp} {s : Shared} {K : PySem.W.Frag}
mutual
theorem KyD.is (I : Inv X pins σ H s) : ∀ (k : NestedKey) (v : V) (u : Value), KyD X.K H v k → RelV v u → NestedIs s.heap k u
  | .none, _, _, h, r => by cases h; cases r; exact .none
  | .num _, _, _, h, r => by cases h; obtain ⟨t, rfl⟩ := r; exact .int _ t
  | .text _, _, _, h, r => by cases h; obtain ⟨t, rfl⟩ := r; exact .text _ t
  | .tup ks, _, _, h, r => by
    cases h with
    | tup hs ha =>
      cases r
      obtain ⟨its, rv, ⟨o, ho, hc, n, hd⟩, _⟩ := I.tuple hs
      exact .tup ho hc hd (KyAll.is I ks _ _ ha rv)
theorem KyAll.is (I : Inv X pins σ H s) : ∀ (ks : List NestedKey) (vs : List V) (us : List Value), KyAll X.K H vs ks → Vals vs us → NestedAll s.heap ks us
  | [], _, _, h, r => by cases h; cases r; exact .nil
  | k :: ks, _, _, h, r => by
    cases h with
    | cons h1 h2 =>
      cases r with
      | cons r1 r2 => exact .cons (KyD.is I k _ _ h1 r1) (KyAll.is I ks _ _ h2 r2)
end
mutual
theorem KyD.at (e : ∀ a xs, SqT K H a xs → SqT K H' a xs) : ∀ (k : NestedKey) (v : V), KyD K H v k → KyD K H' v k
  | .none, _, h => by cases h; exact .non
  | .num _, _, h => by cases h; exact .int _
  | .text _, _, h => by cases h; exact .str _
  | .tup ks, _, h => by
    cases h with
    | tup hs ha => exact .tup (e _ _ hs) (KyAll.at e ks _ ha)
theorem KyAll.at (e : ∀ a xs, SqT K H a xs → SqT K H' a xs) : ∀ (ks : List NestedKey) (vs : List V), KyAll K H vs ks → KyAll K H' vs ks
  | [], _, h => by cases h; exact .nil
  | k :: ks, _, h => by
    cases h with
    | cons h1 h2 => exact .cons (KyD.at e k _ h1) (KyAll.at e ks _ h2)
end
/-- tuples stay where no tracked one is changed -/
theorem sqT_upd {a : Addr} {o : HO} (h : ∀ xs, H a ≠ some (.tup xs)) (h2 : ∀ ob xs, H a ≠ some (.frz ob (.tup xs))) : ∀ b xs, SqT K H b xs → SqT K (upd H a o) b xs := fun b xs q => by
  rcases q with (q | ⟨ob, q⟩) | q
  · exact .inl (.inl (by rw [upd_ne (fun z => h xs (by rw [← z]; exact q))]; exact q))
  · exact .inl (.inr ⟨ob, by rw [upd_ne (fun z => h2 ob xs (by rw [← z]; exact q))]; exact q⟩)
  · exact .inr q
end

/-! ### what the dict holds -/
abbrev Nkv := NestedKey × Addr × V
def valN (kvs : List Nkv) (k : NestedKey) : Option V := (kvs.find? fun x => decide (x.1 = k)).map (·.2.2)
def putN (kvs : List Nkv) (k : NestedKey) (b : Addr) (v : V) : List Nkv :=
  if (valN kvs k).isSome then kvs.map (fun x => if x.1 = k then (x.1, x.2.1, v) else x) else kvs ++ [(k, b, v)]
def dropN (kvs : List Nkv) (k : NestedKey) : List Nkv := kvs.filter fun x => decide (x.1 ≠ k)
abbrev NR : Nkv → NestedKey × Addr × Value → Prop := fun p q => p.1 = q.1 ∧ p.2.1 = q.2.1 ∧ RelV p.2.2 q.2.2
theorem valN_nil (k : NestedKey) : valN [] k = none := rfl
theorem valN_cons (x : Nkv) (kvs : List Nkv) (k : NestedKey) : valN (x :: kvs) k = if x.1 = k then some x.2.2 else valN kvs k := by
  by_cases e : x.1 = k <;> simp [valN, List.find?_cons, e]
theorem nr_val {kvs : List Nkv} {xs : List (NestedKey × Addr × Value)} (r : Paired NR kvs xs) (k : NestedKey) : RelO (valN kvs k) ((atKey xs k).map (·.2)) := by
  induction r with
  | nil => exact True.intro
  | @cons p q ps qs h t ih =>
    obtain ⟨h1, _, h2⟩ := h
    rw [valN_cons]
    by_cases e : p.1 = k
    · have e' : q.1 = k := h1.symm.trans e
      have b : atKey (q :: qs) k = some q.2 := by simp [atKey, List.find?_cons, e']
      rw [if_pos e, b]; exact h2
    · have e' : ¬ q.1 = k := fun z => e (h1.trans z)
      have b : atKey (q :: qs) k = atKey qs k := by simp [atKey, List.find?_cons, e']
      rw [if_neg e, b]; exact ih
theorem nr_some {kvs : List Nkv} {xs : List (NestedKey × Addr × Value)} (r : Paired NR kvs xs) (k : NestedKey) : (valN kvs k).isSome = (atKey xs k).isSome := by
  rw [(nr_val r k).isSome_eq, Option.isSome_map]
theorem nr_put {kvs : List Nkv} {xs : List (NestedKey × Addr × Value)} (r : Paired NR kvs xs) (k : NestedKey) {b : Addr} {y : V} {u : Value} (ry : RelV y u) : Paired NR (putN kvs k b y) (storedH xs k b u) := by
  unfold putN storedH
  rw [nr_some r k]
  by_cases q : (atKey xs k).isSome = true
  · rw [if_pos q, if_pos q]
    clear q
    induction r with
    | nil => exact .nil
    | @cons p q ps qs h t ih =>
      rw [List.map_cons, List.map_cons]
      refine .cons ?_ ih
      obtain ⟨h1, h2, h3⟩ := h
      unfold putAt
      by_cases e : p.1 = k
      · rw [if_pos e, if_pos (h1.symm.trans e)]; exact ⟨h1, h2, ry⟩
      · rw [if_neg e, if_neg (fun z => e (h1.trans z))]; exact ⟨h1, h2, h3⟩
  · rw [if_neg q, if_neg q]; exact Paired.snoc r ⟨rfl, rfl, ry⟩
theorem nr_drop {kvs : List Nkv} {xs : List (NestedKey × Addr × Value)} (r : Paired NR kvs xs) (k : NestedKey) : Paired NR (dropN kvs k) (withoutH xs k) := by
  induction r with
  | nil => exact .nil
  | @cons p q ps qs h t ih =>
    unfold dropN withoutH at ih ⊢
    by_cases e : p.1 = k
    · have e2 : q.1 = k := h.1.symm.trans e
      rw [List.filter_cons_of_neg (by simp [e]), List.filter_cons_of_neg (by simp [e2])]
      exact ih
    · have e2 : ¬ q.1 = k := fun z => e (h.1.trans z)
      rw [List.filter_cons_of_pos (by simp [e]), List.filter_cons_of_pos (by simp [e2])]
      exact .cons h ih
theorem putN_len (kvs : List Nkv) (k : NestedKey) (b : Addr) (v : V) : (putN kvs k b v).length ≤ kvs.length + 1 := by
  unfold putN
  split <;> simp
theorem dropN_len (kvs : List Nkv) (k : NestedKey) : (dropN kvs k).length ≤ kvs.length := List.length_filter_le _ _
theorem valN_put_same (kvs : List Nkv) (k : NestedKey) (b : Addr) (v : V) : valN (putN kvs k b v) k = some v := by
  unfold putN
  split
  · rename_i h
    induction kvs with
    | nil => simp [valN] at h
    | cons x kvs ih =>
      rw [List.map_cons, valN_cons]
      rw [valN_cons] at h
      by_cases e : x.1 = k
      · simp [e]
      · rw [if_neg e] at h
        simp only [e, if_false]
        exact ih h
  · rename_i h
    induction kvs with
    | nil => rw [List.nil_append, valN_cons, if_pos rfl]
    | cons x kvs ih =>
      rw [valN_cons] at h
      rw [List.cons_append, valN_cons]
      by_cases e : x.1 = k
      · rw [if_pos e] at h; exact absurd rfl h
      · rw [if_neg e] at h ⊢; exact ih h
theorem valN_put_other (kvs : List Nkv) (k j : NestedKey) (b : Addr) (v : V) (ne : j ≠ k) : valN (putN kvs k b v) j = valN kvs j := by
  unfold putN
  split
  · rename_i h
    clear h
    induction kvs with
    | nil => rfl
    | cons x kvs ih =>
      rw [List.map_cons, valN_cons, valN_cons]
      by_cases e : x.1 = k
      · have : ¬ x.1 = j := fun z => ne (z.symm.trans e)
        simp only [e, if_true]
        rw [if_neg (fun z => ne z.symm), if_neg (fun z => ne z.symm)]
        exact ih
      · simp only [e, if_false]
        rw [ih]
  · rename_i h
    clear h
    induction kvs with
    | nil => rw [List.nil_append, valN_cons, if_neg (fun z => ne z.symm)]
    | cons x kvs ih => rw [List.cons_append, valN_cons, valN_cons, ih]
theorem valN_drop_same (kvs : List Nkv) (k : NestedKey) : valN (dropN kvs k) k = none := by
  unfold valN dropN
  rw [List.find?_eq_none.mpr]
  · rfl
  · intro x hx
    have := (List.mem_filter.mp hx).2
    simpa using this
theorem valN_drop_other (kvs : List Nkv) (k j : NestedKey) (ne : j ≠ k) : valN (dropN kvs k) j = valN kvs j := by
  induction kvs with
  | nil => rfl
  | cons x kvs ih =>
    unfold dropN at ih ⊢
    by_cases e : x.1 = k
    · rw [List.filter_cons_of_neg (by simp [e]), valN_cons, if_neg (fun z => ne (z.symm.trans e))]
      exact ih
    · rw [List.filter_cons_of_pos (by simp [e]), valN_cons, valN_cons, ih]
theorem put_mem {kvs : List Nkv} {k : NestedKey} {b : Addr} {v : V} {e : Nkv} (h : e ∈ putN kvs k b v) : (e.1 = k ∧ e.2.1 = b) ∨ ∃ e' ∈ kvs, e'.1 = e.1 ∧ e'.2.1 = e.2.1 := by
  unfold putN at h
  split at h
  · obtain ⟨x, hx, rfl⟩ := List.mem_map.mp h
    refine .inr ⟨x, hx, ?_⟩
    split <;> exact ⟨rfl, rfl⟩
  · rcases List.mem_append.mp h with q | q
    · exact .inr ⟨e, q, rfl, rfl⟩
    · obtain rfl := List.mem_singleton.mp q
      exact .inl ⟨rfl, rfl⟩

/-! ### the object -/
def DnAt (P : Program) (w : World) (d : Addr) (kvs : List Nkv) (h : Heap) : Prop := kvs.length ≤ sizeLine ∧ (d == sysModules) = false ∧ ∃ xs, Paired NR kvs xs ∧
  ∃ o es ep, h.get? d = some o ∧ o.ExactDict ∧ o.data = .dict es ep ∧ es.toList = xs.map (entryOfKey (nestedKind P w)) ∧ (xs.map (·.1)).Nodup
def DnO (P : Program) (w : World) (d : Addr) (kvs : List Nkv) : HO := .ext (DnAt P w d kvs)
/-- the keys' tuples stand -/
def KsAt (K : PySem.W.Frag) (H : Hp) (kvs : List Nkv) : Prop := ∀ e ∈ kvs, KyD K H (.ref e.2.1) e.1 ∧ e.1.depth ≤ 8
theorem dnO_ok {P : Program} {w : World} {H : Hp} {h : Heap} {d : Addr} {kvs : List Nkv} (x : DnAt P w d kvs h) : ObjOk P w H h d (DnO P w d kvs) := by
  refine ⟨x, ?_, fun h1 h2 y st => ?_⟩
  · obtain ⟨_, _, _, _, o, _, _, e, _⟩ := x
    exact ⟨o, e⟩
  · obtain ⟨z, m, xs, r, o, es, ep, e, c⟩ := y
    exact ⟨z, m, xs, r, o, es, ep, st _ e, c⟩
section
variable {X : Cx} {pins : List (Addr × Obj)} {σ : L2.St} {H H' : Hp} {s : Shared} {a b : Addr} {kvs : List Nkv} {k : NestedKey} {v d : V} {u r : Value} {A : Around} {E : Value → Shared → Prop}
theorem keys_is (I : Inv X pins σ H s) {xs : List (NestedKey × Addr × Value)} (rel : Paired NR kvs xs) (ks : KsAt X.K H kvs) : ∀ x ∈ xs, (nestedKind X.prog X.w).is s.heap x.1 x.2.1 := by
  induction rel with
  | nil => exact fun x hx => nomatch hx
  | @cons p q ps qs hq t ih =>
    intro x hx
    rcases List.mem_cons.mp hx with e | hx
    · subst e
      obtain ⟨ky, dp⟩ := ks p (List.mem_cons_self ..)
      obtain ⟨e1, e2, _⟩ := hq
      rw [← e1, ← e2]
      exact ⟨KyD.is I _ _ _ ky rfl, dp⟩
    · exact ih (fun e he => ks e (List.mem_cons_of_mem _ he)) x hx
theorem dn_rd (I : Inv X pins σ H s) (e : Rd H a (DnO X.prog X.w a kvs)) (ks : KsAt X.K H kvs) : kvs.length ≤ sizeLine ∧ (a == sysModules) = false ∧ ∃ xs, Paired NR kvs xs ∧ s.heap.DictOfH (nestedKind X.prog X.w) a xs := by
  obtain ⟨⟨z, m, xs, rel, o, es, ep, h1, h2, h3, h4, h5⟩, _⟩ := (show ObjOk X.prog X.w H s.heap a (DnO X.prog X.w a kvs) from Rd.ok e I.hok)
  exact ⟨z, m, xs, rel, o, es, ep, h1, h2, h3, h4, keys_is I rel ks, h5⟩
theorem dn_type (I : Inv X pins σ H s) (e : Rd H a (DnO X.prog X.w a kvs)) : s.TypeIs (.ref a) "dict" ∧ ∀ b, Value.ref a = .ref b → ∃ ob, s.heap.get? b = some ob ∧ ob.dict = none := by
  obtain ⟨⟨z, m, xs, rel, o, es, ep, h1, h2, _⟩, _⟩ := (show ObjOk X.prog X.w H s.heap a (DnO X.prog X.w a kvs) from Rd.ok e I.hok)
  refine ⟨⟨o, h1, h2.1⟩, fun b q => ?_⟩
  cases q
  exact ⟨o, h1, h2.2.1⟩
theorem nroom (hu : A.units + 9 < cLine) : (nestedKind X.prog X.w).room A.in1 := by show A.units + 1 + 8 < cLine; omega
theorem nkey (I : Inv X pins σ H s) (ky : KyD X.K H (.ref b) k) (dp : k.depth ≤ 8) : (nestedKind X.prog X.w).is s.heap k b := ⟨KyD.is I _ _ _ ky rfl, dp⟩
/-- d[k], there -/
theorem n_getItem {Q : Value → Shared → Prop} (hu : A.units + 9 < cLine) (I : Inv X pins σ H s) (e : Rd H a (DnO X.prog X.w a kvs)) (ks : KsAt X.K H kvs) (ky : KyD X.K H (.ref b) k) (dp : k.depth ≤ 8) (l : valN kvs k = some v)
    (h : ∀ w' s', Inv X pins σ H s' → RelV v w' → Q w' s') : wpAny (model X.prog X.w) A (getItem (.ref a) (.ref b)) Q E s := by
  obtain ⟨_, m, xs, rel, dd⟩ := dn_rd I e ks
  obtain ⟨w', hw, rw'⟩ := RelO.some_of (v := v) (o := (atKey xs k).map (·.2)) (by rw [← l]; exact nr_val rel k)
  obtain ⟨p, hp, hp2⟩ := Option.map_eq_some_iff.mp hw
  refine wpAny_getItem_heap (knd := nestedKind X.prog X.w) (nroom (X := X) hu) (nkey I ky dp) dd hp ?_
  rw [hp2]
  exact h w' _ (I.tok _) rw'
/-- k in d, k not in d -/
theorem n_in {Q : Value → Shared → Prop} (hu : A.units + 9 < cLine) (I : Inv X pins σ H s) (e : Rd H a (DnO X.prog X.w a kvs)) (ks : KsAt X.K H kvs) (ky : KyD X.K H (.ref b) k) (dp : k.depth ≤ 8)
    (h : ∀ s', Inv X pins σ H s' → Q (.bool (valN kvs k).isSome) s') : wpAny (model X.prog X.w) A (compareOp .In (.ref b) (.ref a)) Q E s := by
  obtain ⟨_, m, xs, rel, dd⟩ := dn_rd I e ks
  refine wpAny_in_heap (knd := nestedKind X.prog X.w) (nroom (X := X) hu) (nkey I ky dp) m dd ?_
  rw [← nr_some rel k]
  exact h _ (I.tok _)
theorem n_notIn {Q : Value → Shared → Prop} (hu : A.units + 9 < cLine) (I : Inv X pins σ H s) (e : Rd H a (DnO X.prog X.w a kvs)) (ks : KsAt X.K H kvs) (ky : KyD X.K H (.ref b) k) (dp : k.depth ≤ 8)
    (h : ∀ s', Inv X pins σ H s' → Q (.bool (!(valN kvs k).isSome)) s') : wpAny (model X.prog X.w) A (compareOp .NotIn (.ref b) (.ref a)) Q E s := by
  obtain ⟨_, m, xs, rel, dd⟩ := dn_rd I e ks
  refine notIn_keyed (knd := nestedKind X.prog X.w) (k := k) (kvs := pairsH xs) (nroom (X := X) hu) (nkey I ky dp) m ⟨xs, dd, rfl⟩ ?_
  rw [valueAt_pairsH, Option.isSome_map, ← nr_some rel k]
  exact h _ (I.tok _)
/-- d.get(k), d.get(k, x) -/
theorem n_get1 {Q : Value → Shared → Prop} (hu : A.units + 9 < cLine) (I : Inv X pins σ H s) (e : Rd H a (DnO X.prog X.w a kvs)) (ks : KsAt X.K H kvs) (ky : KyD X.K H (.ref b) k) (dp : k.depth ≤ 8)
    (h : ∀ w' s', Inv X pins σ H s' → RelV ((valN kvs k).getD .non) w' → Q w' s') : wpAny (model X.prog X.w) A (call (.builtin "dict.get") [.ref a, .ref b]) Q E s := by
  obtain ⟨_, m, xs, rel, dd⟩ := dn_rd I e ks
  refine call_meetsIn PySem.F.slot_dict_get dd.typeIs PySem.F.entry_dict_get (PySem.F.args_dict_get_2 _ _) (meetsH_dict_get (nestedKind X.prog X.w) a b m) ⟨nroom (X := X) hu, k, xs, nkey I ky dp, dd, h _ _ (I.tok _) ?_⟩
  exact (nr_val rel k).getD rfl
theorem n_get2 {Q : Value → Shared → Prop} (hu : A.units + 9 < cLine) (I : Inv X pins σ H s) (e : Rd H a (DnO X.prog X.w a kvs)) (ks : KsAt X.K H kvs) (ky : KyD X.K H (.ref b) k) (dp : k.depth ≤ 8) (rd : RelV d r)
    (h : ∀ w' s', Inv X pins σ H s' → RelV ((valN kvs k).getD d) w' → Q w' s') : wpAny (model X.prog X.w) A (call (.builtin "dict.get") [.ref a, .ref b, r]) Q E s := by
  obtain ⟨_, m, xs, rel, dd⟩ := dn_rd I e ks
  refine call_meetsIn PySem.F.slot_dict_get dd.typeIs PySem.F.entry_dict_get (PySem.F.args_dict_get_3 _ _ _) (meetsH_dict_get_default (nestedKind X.prog X.w) a b m r) ⟨nroom (X := X) hu, k, xs, nkey I ky dp, dd, h _ _ (I.tok _) ?_⟩
  exact (nr_val rel k).getD rd
theorem dn_write {h' : Heap} {t' : Nat} {kvs' : List Nkv} {xs : List (NestedKey × Addr × Value)} (I : Inv X pins σ H s) (e : H a = some (DnO X.prog X.w a kvs)) (m : (a == sysModules) = false) (hs : Heap.SameBut a s.heap h') (z : kvs'.length ≤ sizeLine) (rel : Paired NR kvs' xs)
    (dd : h'.DictOfH (nestedKind X.prog X.w) a xs) : Inv X pins σ (upd H a (DnO X.prog X.w a kvs')) { s with heap := h', toks := t' } := by
  obtain ⟨o, es, ep, h1, h2, h3, h4, _, h5⟩ := dd
  exact d_write I (by rw [e]; exact True.intro) hs ⟨o, h1⟩ (dnO_ok ⟨z, m, xs, rel, o, es, ep, h1, h2, h3, h4, h5⟩)
/-- d[k] = v -/
theorem n_setItem {Q : Unit → Shared → Prop} (hu : A.units + 9 < cLine) (I : Inv X pins σ H s) (e : H a = some (DnO X.prog X.w a kvs)) (ks : KsAt X.K H kvs) (ky : KyD X.K H (.ref b) k) (dp : k.depth ≤ 8) (z : kvs.length < sizeLine) (rv : RelV v r)
    (h : ∀ s', Inv X pins σ (upd H a (DnO X.prog X.w a (putN kvs k b v))) s' → Q () s') : wpAny (model X.prog X.w) A (setItem (.ref a) (.ref b) r) Q E s := by
  obtain ⟨_, m, xs, rel, dd⟩ := dn_rd I (.inl e) ks
  refine wpAny_setItem_heap (knd := nestedKind X.prog X.w) (hsz := by rw [← Paired.length rel]; omega) (nroom (X := X) hu) (nkey I ky dp) dd fun h' dd' hs => h _ ?_
  exact dn_write I e m hs (by have := putN_len kvs k b v; omega) (nr_put rel k rv) dd'
/-- d.pop(k, x) -/
theorem n_pop2 {Q : Value → Shared → Prop} (hu : A.units + 9 < cLine) (I : Inv X pins σ H s) (e : H a = some (DnO X.prog X.w a kvs)) (ks : KsAt X.K H kvs) (ky : KyD X.K H (.ref b) k) (dp : k.depth ≤ 8) (rd : RelV d r)
    (h1 : ∀ v w' s', valN kvs k = some v → Inv X pins σ (upd H a (DnO X.prog X.w a (dropN kvs k))) s' → RelV v w' → Q w' s') (h2 : ∀ s', valN kvs k = none → Inv X pins σ H s' → Q r s') :
    wpAny (model X.prog X.w) A (call (.builtin "dict.pop") [.ref a, .ref b, r]) Q E s := by
  obtain ⟨z, m, xs, rel, dd⟩ := dn_rd I (.inl e) ks
  have hz : xs.length ≤ sizeLine := by rw [← Paired.length rel]; exact z
  have hv := nr_val rel k
  cases ha : atKey xs k with
  | none =>
    rw [ha] at hv
    exact call_pop_default_heap (knd := nestedKind X.prog X.w) (hsz := hz) (nroom (X := X) hu) (nkey I ky dp) m dd ha fun tk => h2 _ (by
      cases q : valN kvs k with
      | none => rfl
      | some v => rw [q] at hv; exact (show False from hv).elim) (I.tok tk)
  | some p =>
    rw [ha] at hv
    obtain ⟨v, ev, rv⟩ : ∃ v, valN kvs k = some v ∧ RelV v p.2 := by
      cases q : valN kvs k with
      | none => rw [q] at hv; exact (show False from hv).elim
      | some v => rw [q] at hv; exact ⟨v, rfl, hv⟩
    exact call_pop_heap (knd := nestedKind X.prog X.w) (more := [r]) (hsz := hz) (.inr ⟨r, rfl⟩) (PySem.F.args_dict_pop_3 _ _ _) (nroom (X := X) hu) (nkey I ky dp) m dd ha fun h' dd' hs =>
      h1 v _ _ ev (dn_write I e m hs (Nat.le_trans (dropN_len kvs k) z) (nr_drop rel k) dd') rv
end

end

section
open PySem PySem.Spec PyProof.Rows L2 Evl
/-! ### new lists that are not the modules' dict -/
def tLstA (t : TA) : TE := fun σ H Q => t σ H fun xs H1 => xs.length ≤ sizeLine ∧ ∀ p, H1 p = none → p ≠ sysModules → Q (.ref p) (upd H1 p (.lst xs))
def rListA (K : PySem.W.Frag) : List V → Hp → VK → Prop := fun xs H Q => ∃ p ys, xs = [.ref p] ∧ (SqL K H p ys ∨ SqT K H p ys) ∧ ∀ l, H l = none → l ≠ sysModules → Q (.ref l) (upd H l (.lst ys))
section
variable {X : Cx} {es : List Expr} {pos : Pos} {t : TA}
theorem pe_lstA (h : PA X es t) : PE X (.List es pos) (tLstA t) := by
  refine ⟨fun pins s σ H Q I hq => ?_⟩
  refine wpAny_List_spliced (thn (h.run pos pins s σ H _ I hq) fun us s1 ⟨xs, H1, I1, r, z, q⟩ => ⟨by rw [← r.length]; exact z, ?_⟩)
  have hf : H1 s1.heap.objs.size = none := I1.hok.fresh (Nat.le_refl _)
  exact ⟨.ref s1.heap.objs.size, upd H1 s1.heap.objs.size (.lst xs), I1.laid (t' := s1.toks) (fun b u e => Heap.get?_push_of_some _ e) (Nat.le_refl _) ⟨z, us, 0, r, Heap.get?_push_size _ rfl⟩, rfl, q _ hf (Nat.ne_of_gt I1.big)⟩
theorem call_listA : CallR X (.type "list") (rListA X.K) := by
  intro pins s σ H xs us Q I r h
  obtain ⟨p, ys, rfl, hq, q⟩ := h
  obtain ⟨u, rfl, rx⟩ := vals1 r
  cases rx
  have fin : ∀ (its : List Value), Vals ys its → ys.length ≤ sizeLine → ∀ (h' : Heap) (c' : Nat), (∀ b o', s.heap.get? b = some o' → h'.get? b = some o') →
      h'.get? s.heap.objs.size = some { cls := .type "list", dict := none, data := .seq its.toArray c', slots := #[] } → EP X pins σ Q (.ref s.heap.objs.size) { s with heap := h' } := fun its r' hz h' c' kp e =>
    ⟨.ref s.heap.objs.size, _, I.laid (t' := s.toks) kp (Nat.le_refl _) (show ObjOk X.prog X.w _ h' _ (.lst ys) from ⟨hz, its, c', r', e⟩), rfl, q _ (I.hok.fresh (Nat.le_refl _)) (Nat.ne_of_gt I.big)⟩
  rcases hq with hq | hq
  · obtain ⟨its, r', pl, hz⟩ := I.list hq
    have hlen := r'.length
    obtain ⟨o, ho, hc, n, hd⟩ := pl.isList
    exact call_list_seq p (.inl rfl) ho hc hd (fun h' c' kp e => fin its r' hz h' c' kp e) (by simp only [List.size_toArray] <;> omega)
  · obtain ⟨its, r', pl, hz⟩ := I.tuple hq
    have hlen := r'.length
    obtain ⟨o, ho, hc, n, hd⟩ := pl
    exact call_list_seq p (.inr rfl) ho hc hd (fun h' c' kp e => fin its r' hz h' c' kp e) (by simp only [List.size_toArray] <;> omega)
end

/-! ### dicts: {}, {k: v} with k a tuple -/
def tNewN (P : Program) (w : World) : TE := fun _ H Q => ∀ p, H p = none → Q (.ref p) (upd H p (DnO P w p []))
def tDisp1N (P : Program) (w : World) (K : PySem.W.Frag) (tk tv : TE) : TE := fun σ H Q => ∀ p, H p = none → tk σ (upd H p (DnO P w p [])) fun x H1 => tv σ H1 fun y H2 =>
  H2 p = some (DnO P w p []) ∧ ∃ b k, x = .ref b ∧ KyD K H2 (.ref b) k ∧ k.depth ≤ 8 ∧ Q (.ref p) (upd H2 p (DnO P w p [(k, b, y)]))
theorem dn_empty {P : Program} {w : World} {H : Hp} (h : Heap) (hb : sysModules < h.objs.size) : ObjOk P w H (h.push { cls := .type "dict", data := .dict #[] }) h.objs.size (DnO P w h.objs.size []) :=
  dnO_ok ⟨Nat.zero_le _, beq_eq_false_iff_ne.mpr (Ne.symm (Nat.ne_of_lt hb)), [], .nil, _, #[], 0, Heap.get?_push_size _ rfl, ⟨rfl, rfl, rfl⟩, rfl, rfl, List.nodup_nil⟩
section
variable {X : Cx} {pos : Pos} {k v : Expr} {tk tv : TE}
theorem pe_newN : PE X (.Dict [] [] pos) (tNewN X.prog X.w) := ⟨fun pins s σ H Q I h =>
  wpAny_Dict_empty ⟨.ref s.heap.objs.size, _, I.laid (a := s.heap.objs.size) (o := DnO X.prog X.w s.heap.objs.size []) (t' := s.toks) (fun _ _ q => Heap.get?_push_of_some _ q) (Nat.le_refl _) (dn_empty s.heap I.big), rfl, h _ (I.hok.fresh (Nat.le_refl _))⟩⟩
theorem pe_disp1N (hu : X.A.units + 9 < cLine) (hk : PE X k tk) (hv : PE X v tv) : PE X (.Dict [some k] [v] pos) (tDisp1N X.prog X.w X.K tk tv) := by
  refine ⟨fun pins s σ H Q I q => ?_⟩
  have hn := I.hok.fresh (Nat.le_refl s.heap.objs.size)
  have I1 := I.laid (a := s.heap.objs.size) (o := DnO X.prog X.w s.heap.objs.size []) (h' := s.heap.push { cls := .type "dict", data := .dict #[] }) (t' := s.toks) (fun _ _ q => Heap.get?_push_of_some _ q) (Nat.le_refl _) (dn_empty s.heap I.big)
  have sh := zip_pairTrees [some k] [v] X.env pos rfl rfl
  have hlen := pairTrees_length [some k] [v] X.env pos rfl rfl
  rw [arm_eval_Dict, sh, dictDisplay_pairs (pairTrees [some k] [v] X.env pos) (fun e => by rw [e] at hlen; exact nomatch hlen) (by rw [hlen]; show 1 < 17; decide)]
  refine wpAny_bind (wpAny_standAt (wpAny_bind (wpAny_subDictH (knd := nestedKind X.prog X.w) (Q := fun d s' => wpAny (model X.prog X.w) X.A (pure (Value.ref d)) (EP X pins σ Q) X.xe s') (show X.A.units + 8 < cLine by omega) (by rw [hlen]; show 1 ≤ 15; decide) ?_)))
  refine pairTrees_cons_walk (thn (hk.run pins _ σ _ _ I1 (q _ hn)) fun u s1 ⟨x, H1, J1, rx, q1⟩ => thn (hv.run pins s1 σ H1 _ J1 q1) fun w2 s2 ⟨y, H2, J2, ry, e, b, kk, ex, ky, dp, q2⟩ => pairTrees_nil_walk ?_)
  subst ex
  cases rx
  obtain ⟨_, m, xs, rel, dd⟩ := dn_rd J2 (.inl e) (fun e he => nomatch he)
  cases rel
  exact ⟨[(kk, b, w2)], ⟨rfl, rfl, nkey J2 ky dp, trivial⟩, dd, fun h' tk dd' hs => wpAny_pure ⟨.ref s.heap.objs.size, _, dn_write (kvs' := [(kk, b, y)]) J2 e m hs (show 1 ≤ sizeLine by decide) (.cons ⟨rfl, rfl, ry⟩ .nil) dd', rfl, q2⟩⟩
end

/-! ### data of any kind -/
/-- at a stands a dict with these keys and values, in order -/
def DicAt (P : Program) (w : World) (H : Hp) (a : Addr) (ps : List (V × V)) : Prop :=
  (∃ kvs, H a = some (.dK kvs) ∧ ps = kvs.map fun x => (kV x.1, x.2)) ∨ ∃ kvs : List Nkv, H a = some (DnO P w a kvs) ∧ ps = kvs.map fun x => (V.ref x.2.1, x.2.2)
mutual
inductive Aq (P : Program) (w : World) (K : PySem.W.Frag) (H : Hp) : V → PyData → Prop
  | non : Aq P w K H .non .none
  | bl (b : Bool) : Aq P w K H (.bl b) (.bool b)
  | int (i : Int) : Aq P w K H (.int i) (.int i)
  | str (x : Str) : Aq P w K H (.str x) (.str x)
  | lst {a : Addr} {xs : List V} {ds : List PyData} : SqL K H a xs → a ≠ sysModules → AqAll P w K H xs ds → Aq P w K H (.ref a) (.list ds)
  | tup {a : Addr} {xs : List V} {ds : List PyData} : SqT K H a xs → AqAll P w K H xs ds → Aq P w K H (.ref a) (.tuple ds)
  | dic {a : Addr} {ps : List (V × V)} {ds : List (PyData × PyData)} : DicAt P w H a ps → AqAll P w K H (ps.map (·.1)) (ds.map (·.1)) → AqAll P w K H (ps.map (·.2)) (ds.map (·.2)) → Aq P w K H (.ref a) (.dict ds)
inductive AqAll (P : Program) (w : World) (K : PySem.W.Frag) (H : Hp) : List V → List PyData → Prop
  | nil : AqAll P w K H [] []
  | cons {v : V} {vs : List V} {d : PyData} {ds : List PyData} : Aq P w K H v d → AqAll P w K H vs ds → AqAll P w K H (v :: vs) (d :: ds)
end
theorem kv_keys {kvs : List (L2.Key × V)} {vs : List (L2.Key × Value)} (r : KV kvs vs) {P : Program} {w : World} : ∀ {es : List DictEntry}, PySem.Pairs (mixKind P w) es vs → Vals (kvs.map fun x => kV x.1) (es.map (·.key)) ∧ Vals (kvs.map (·.2)) (es.map (·.val)) := by
  induction r with
  | nil => intro es h; cases h; exact ⟨.nil, .nil⟩
  | @cons p q ps qs h t ih =>
    intro es hp
    cases hp with
    | @cons e _ es _ h1 h2 h3 =>
      obtain ⟨a, b⟩ := ih h3
      obtain ⟨e1, r1⟩ := h
      refine ⟨.cons ?_ a, .cons (show RelV p.2 e.val by rw [h2]; exact r1) b⟩
      have h1 : keyIs q.1 e.key = true := h1
      show RelV (kV p.1) e.key
      rcases keyIs_shape h1 with ⟨i, t, z, e2⟩ | ⟨x, t, z, e2⟩
      · rw [e1, z, e2]; exact ⟨t, rfl⟩
      · rw [e1, z, e2]; exact ⟨t, rfl⟩
theorem nr_keys {P : Program} {w : World} {kvs : List Nkv} {xs : List (NestedKey × Addr × Value)} (r : Paired NR kvs xs) : Vals (kvs.map fun x => V.ref x.2.1) ((xs.map (entryOfKey (nestedKind P w))).map (·.key)) ∧ Vals (kvs.map (·.2.2)) ((xs.map (entryOfKey (nestedKind P w))).map (·.val)) := by
  induction r with
  | nil => exact ⟨.nil, .nil⟩
  | @cons p q ps qs h t ih => exact ⟨.cons (show RelV (V.ref p.2.1) (Value.ref q.2.1) by rw [h.2.1]; rfl) ih.1, .cons h.2.2 ih.2⟩
section
variable {X : Cx} {pins : List (Addr × Obj)} {σ : L2.St} {H : Hp} {s : Shared}
theorem DicAt.raw (I : Inv X pins σ H s) {a : Addr} {ps : List (V × V)} (h : DicAt X.prog X.w H a ps) : a ≠ sysModules ∧ ∃ o es ep, s.heap.get? a = some o ∧ o.cls = .type "dict" ∧ o.data = .dict es ep ∧ Vals (ps.map (·.1)) (es.toList.map (·.key)) ∧ Vals (ps.map (·.2)) (es.toList.map (·.val)) := by
  rcases h with ⟨kvs, e, rfl⟩ | ⟨kvs, e, rfl⟩
  · obtain ⟨_, m, vs, rel, o, es, ep, h1, h2, h3, _, h5, _⟩ := dk_of I.hok e
    obtain ⟨a1, a2⟩ := kv_keys rel h5
    exact ⟨by simpa using m, o, es, ep, h1, h2.1, h3, by simpa [Function.comp_def] using a1, by simpa [Function.comp_def] using a2⟩
  · obtain ⟨⟨_, m, xs, rel, o, es, ep, h1, h2, h3, h4, _⟩, _⟩ := (show ObjOk X.prog X.w H s.heap a (DnO X.prog X.w a kvs) from I.hok a _ e)
    obtain ⟨a1, a2⟩ := nr_keys (P := X.prog) (w := X.w) rel
    exact ⟨by simpa using m, o, es, ep, h1, h2.1, h3, by rw [h4]; simpa [Function.comp_def] using a1, by rw [h4]; simpa [Function.comp_def] using a2⟩
mutual
theorem Aq.reads (I : Inv X pins σ H s) : ∀ (d : PyData) (v : V) (u : Value), Aq X.prog X.w X.K H v d → RelV v u → ∃ as, sysModules ∉ as ∧ Reads s.heap u d as
  | .none, _, _, h, r => by cases h; cases r; exact ⟨_, by simp, Reads.none⟩
  | .bool b, _, _, h, r => by cases h; cases r; exact ⟨_, by simp, Reads.bool b⟩
  | .int i, _, _, h, r => by cases h; obtain ⟨t, rfl⟩ := r; exact ⟨_, by simp, Reads.int i t⟩
  | .str x, _, _, h, r => by cases h; obtain ⟨t, rfl⟩ := r; exact ⟨_, by simp, Reads.str x t⟩
  | .list ds, _, _, h, r => by
    cases h with
    | lst hs hm ha =>
      cases r
      obtain ⟨its, rv, ⟨o, n, ho, hc, _, hd⟩, _⟩ := I.list hs
      obtain ⟨as, hn, hr⟩ := Aq.readsAll I ds _ its ha rv
      exact ⟨_, by simp only [List.mem_cons, not_or]; exact ⟨fun e => hm e.symm, hn⟩, Reads.list ho hc hd hr⟩
  | .tuple ds, _, _, h, r => by
    cases h with
    | tup hs ha =>
      cases r
      obtain ⟨its, rv, ⟨o, ho, hc, n, hd⟩, _⟩ := I.tuple hs
      obtain ⟨as, hn, hr⟩ := Aq.readsAll I ds _ its ha rv
      exact ⟨_, hn, Reads.tuple ho hc hd hr⟩
  | .dict ds, _, _, h, r => by
    cases h with
    | dic hd hk hv =>
      cases r
      obtain ⟨m, o, es, ep, h1, h2, h3, r1, r2⟩ := hd.raw I
      obtain ⟨as, n1, q1⟩ := Aq.readsFst I ds _ _ hk r1
      obtain ⟨bs, n2, q2⟩ := Aq.readsSnd I ds _ _ hv r2
      exact ⟨_, by simp only [List.cons_append, List.mem_cons, List.mem_append, not_or]; exact ⟨fun e => m e.symm, n1, n2⟩, Reads.dict h1 h2 h3 q1 q2⟩
theorem Aq.readsAll (I : Inv X pins σ H s) : ∀ (ds : List PyData) (vs : List V) (us : List Value), AqAll X.prog X.w X.K H vs ds → Vals vs us → ∃ as, sysModules ∉ as ∧ ReadsAll s.heap us ds as
  | [], _, _, h, r => by cases h; cases r; exact ⟨_, by simp, ReadsAll.nil⟩
  | d :: ds, _, _, h, r => by
    cases h with
    | cons h1 h2 =>
      cases r with
      | cons r1 r2 =>
        obtain ⟨as, n1, q1⟩ := Aq.reads I d _ _ h1 r1
        obtain ⟨bs, n2, q2⟩ := Aq.readsAll I ds _ _ h2 r2
        exact ⟨_, by simp only [List.mem_append, not_or]; exact ⟨n1, n2⟩, ReadsAll.cons q1 q2⟩
theorem Aq.readsFst (I : Inv X pins σ H s) : ∀ (ds : List (PyData × PyData)) (vs : List V) (us : List Value), AqAll X.prog X.w X.K H vs (ds.map (·.1)) → Vals vs us → ∃ as, sysModules ∉ as ∧ ReadsAll s.heap us (ds.map (·.1)) as
  | [], _, _, h, r => by cases h; cases r; exact ⟨_, by simp, ReadsAll.nil⟩
  | (d, e) :: ds, _, _, h, r => by
    cases h with
    | cons h1 h2 =>
      cases r with
      | cons r1 r2 =>
        obtain ⟨as, n1, q1⟩ := Aq.reads I d _ _ h1 r1
        obtain ⟨bs, n2, q2⟩ := Aq.readsFst I ds _ _ h2 r2
        exact ⟨_, by simp only [List.mem_append, not_or]; exact ⟨n1, n2⟩, ReadsAll.cons q1 q2⟩
theorem Aq.readsSnd (I : Inv X pins σ H s) : ∀ (ds : List (PyData × PyData)) (vs : List V) (us : List Value), AqAll X.prog X.w X.K H vs (ds.map (·.2)) → Vals vs us → ∃ as, sysModules ∉ as ∧ ReadsAll s.heap us (ds.map (·.2)) as
  | [], _, _, h, r => by cases h; cases r; exact ⟨_, by simp, ReadsAll.nil⟩
  | (d, e) :: ds, _, _, h, r => by
    cases h with
    | cons h1 h2 =>
      cases r with
      | cons r1 r2 =>
        obtain ⟨as, n1, q1⟩ := Aq.reads I e _ _ h1 r1
        obtain ⟨bs, n2, q2⟩ := Aq.readsSnd I ds _ _ h2 r2
        exact ⟨_, by simp only [List.mem_append, not_or]; exact ⟨n1, n2⟩, ReadsAll.cons q1 q2⟩
end
end

end

section
open PySem L2
/-- a heap without some addresses: what lies in them may change -/
def Wo (A : List Addr) (H : Hp) : Hp := fun b => if b ∈ A then none else H b
/-- .. set back -/
def Bk (A : List Addr) (H H' : Hp) : Hp := fun b => if b ∈ A then H b else H' b
def Pl (a : Addr) : HO → Prop
  | .lst _ => True
  | .dK _ => True
  | .set _ _ => True
  | .ext φ => ∀ h o, φ h → h.get? a = some o → ∀ v, o.data ≠ .cell v
  | _ => False
section
variable {P : Program} {w : World} {H H' : Hp} {h h' : Heap} {a : Addr} {o : HO} {A : List Addr}
theorem wo_in (m : a ∈ A) : Wo A H a = none := if_pos m
theorem wo_out (m : a ∉ A) : Wo A H a = H a := if_neg m
theorem bk_in (m : a ∈ A) : Bk A H H' a = H a := if_pos m
theorem bk_out (m : a ∉ A) : Bk A H H' a = H' a := if_neg m
theorem ObjOk.move (x : ObjOk P w H h a o) (p : Pl a o) (k : ∀ u, h.get? a = some u → h'.get? a = some u) : ObjOk P w H' h' a o := by
  cases o with
  | lst xs => obtain ⟨z, its, n, r, e⟩ := x; exact ⟨z, its, n, r, k _ e⟩
  | dK kvs => obtain ⟨z, y, vs, r, ob, es, ep, e, c⟩ := x; exact ⟨z, y, vs, r, ob, es, ep, k _ e, c⟩
  | set S n => obtain ⟨ob, es, ep, t, e, c⟩ := x; exact ⟨ob, es, ep, t, k _ e, c⟩
  | ext φ => obtain ⟨q, ⟨o, e⟩, st⟩ := x; exact ⟨st _ _ q fun o q => k _ q, ⟨o, k _ e⟩, st⟩
  | tup _ => exact p.elim
  | dT _ => exact p.elim
  | ins _ _ _ => exact p.elim
  | own _ => exact p.elim
  | xd _ => exact p.elim
  | met _ _ => exact p.elim
  | rng _ _ => exact p.elim
  | frz _ _ => exact p.elim
  | tbl _ => exact p.elim
theorem ObjOk.objP (x : ObjOk P w H h a o) (p : Pl a o) : ∃ u, h.get? a = some u ∧ ∀ v, u.data ≠ .cell v := by
  cases o with
  | lst xs => obtain ⟨z, its, n, r, e⟩ := x; exact ⟨_, e, fun v z => nomatch z⟩
  | dK kvs => obtain ⟨z, y, vs, r, ob, es, ep, e, c, d, _⟩ := x; exact ⟨_, e, fun v z => by rw [d] at z; cases z⟩
  | set S n => obtain ⟨ob, es, ep, t, e, c, d, _⟩ := x; exact ⟨_, e, fun v z => by rw [d] at z; cases z⟩
  | ext φ => obtain ⟨q, ⟨o, e⟩, st⟩ := x; exact ⟨o, e, p h o q e⟩
  | tup _ => exact p.elim
  | dT _ => exact p.elim
  | ins _ _ _ => exact p.elim
  | own _ => exact p.elim
  | xd _ => exact p.elim
  | met _ _ => exact p.elim
  | rng _ _ => exact p.elim
  | frz _ _ => exact p.elim
  | tbl _ => exact p.elim
end
/-- all of these are tracked, and stand for themselves -/
def Asi (A : List Addr) (H : Hp) : Prop := ∀ a ∈ A, ∃ o, H a = some o ∧ Pl a o
def tFrame (t : TE) : TE := fun σ H Q => ∃ A : List Addr, Asi A H ∧ t σ (Wo A H) fun v H' => (∀ a ∈ A, H' a = none) → Q v (Bk A H H')
section
variable {X : Cx} {pins : List (Addr × Obj)} {σ : L2.St} {H H' : Hp} {s s' : Shared} {A : List Addr}
theorem Inv.noFs (I : Inv X pins σ H s) {b : Addr} (hb : b ∈ X.fs) : H b = none := by
  obtain ⟨_, o, ho, _⟩ := I.ok.funs.mem hb
  exact I.base.free b o ho (I.ok.frf b hb) fun z => I.ok.exfs b z hb
/-- set aside -/
theorem Inv.aside (I : Inv X pins σ H s) (hA : Asi A H) : ∃ ps : List (Addr × Obj), (∀ a ∈ A, ∃ o u, H a = some o ∧ Pl a o ∧ s.heap.get? a = some u ∧ (a, u) ∈ ps) ∧ Inv X (pins ++ ps) σ (Wo A H) s := by
  have hn : ∀ b, H b = none → Wo A H b = none := fun b e => by
    unfold Wo
    split
    · rfl
    · exact e
  have hs : ∀ b u, (∀ v, Pl b v → u ≠ v) → H b = some u → Wo A H b = some u := fun b u d e => by
    by_cases m : b ∈ A
    · obtain ⟨o, ho, po⟩ := hA b m
      rw [e] at ho; cases ho
      exact absurd rfl (d _ po)
    · rw [wo_out m]; exact e
  refine ⟨A.filterMap fun a => (s.heap.get? a).map fun u => (a, u), fun a ha => ?_, ⟨I.ok, I.os, I.bare, ⟨I.base.keep, I.base.slot, fun b o e n hx => hn b (I.base.free b o e n hx), I.base.there, fun b xs e => hs b _ (fun v p z => by subst z; exact p) (I.base.tups b xs e), fun b o u e => hs b _ (fun v p z => by subst z; exact p) (I.base.frzs b o u e), fun b ps e => ?_⟩, I.loc, I.cell, hn _ I.free, fun x c e => hn _ (I.freeC x c e), fun p hp => ?_, ?_, I.len⟩⟩
  · obtain ⟨o, ho, po⟩ := hA a ha
    obtain ⟨u, hu, _⟩ := ObjOk.objP (I.hok a o ho) po
    exact ⟨o, u, ho, po, hu, List.mem_filterMap.mpr ⟨a, ha, by rw [hu]; rfl⟩⟩
  · obtain ⟨m, e2⟩ := I.base.tbls b ps e
    exact ⟨m, hs b _ (fun v p z => by subst z; exact p) e2⟩
  · rw [← List.append_assoc] at hp
    rcases List.mem_append.mp hp with hp | hp
    · obtain ⟨a, b, c⟩ := I.pin p hp
      exact ⟨a, hn _ b, c⟩
    · obtain ⟨a, ha, e⟩ := List.mem_filterMap.mp hp
      obtain ⟨o, ho, po⟩ := hA a ha
      obtain ⟨u, hu, hc⟩ := ObjOk.objP (I.hok a o ho) po
      rw [hu] at e
      cases e
      have e1 : a ≠ X.env.locals := fun z => by have h := I.free; rw [← z, ho] at h; cases h
      have e2 : a ∉ X.fs := fun z => by have h := Inv.noFs I z; rw [ho] at h; cases h
      exact ⟨hu, wo_in ha, e1, e2, hc⟩
  · intro a o e
    have m : a ∉ A := fun m => by rw [wo_in m] at e; cases e
    rw [wo_out m] at e
    exact (I.hok a o e).stay (fun b u _ q => q) (fun b e => hs b _ (fun v p z => by subst z; exact p) e) fun b xs e => hs b _ (fun v p z => by subst z; exact p) e
/-- set back -/
theorem Inv.back {ps : List (Addr × Obj)} (I : Inv X pins σ H s) (hA : ∀ a ∈ A, ∃ o u, H a = some o ∧ Pl a o ∧ s.heap.get? a = some u ∧ (a, u) ∈ ps) (J : Inv X (pins ++ ps) σ H' s') : (∀ a ∈ A, H' a = none) ∧ Inv X pins σ (Bk A H H') s' := by
  have hp : ∀ a ∈ A, ∃ o u, H a = some o ∧ Pl a o ∧ s.heap.get? a = some u ∧ s'.heap.get? a = some u ∧ H' a = none := fun a ha => by
    obtain ⟨o, u, h1, h2, h3, h4⟩ := hA a ha
    obtain ⟨p1, p2, _⟩ := J.pin (a, u) (List.mem_append_right _ (List.mem_append_right _ h4))
    exact ⟨o, u, h1, h2, h3, p1, p2⟩
  have hn : ∀ b, H b = none → H' b = none → Bk A H H' b = none := fun b e e' => by
    unfold Bk
    split
    · exact e
    · exact e'
  have hs : ∀ b u, H' b = some u → Bk A H H' b = some u := fun b u e => by
    by_cases m : b ∈ A
    · obtain ⟨_, _, _, _, _, _, z⟩ := hp b m
      rw [e] at z; cases z
    · rw [bk_out m]; exact e
  refine ⟨fun a ha => let ⟨_, _, _, _, _, _, z⟩ := hp a ha; z, ⟨J.ok, J.os, J.bare, ⟨J.base.keep, J.base.slot, fun b o e n hx => hn b (I.base.free b o e n hx) (J.base.free b o e n hx), J.base.there, fun b xs e => hs b _ (J.base.tups b xs e), fun b o u e => hs b _ (J.base.frzs b o u e), fun b ps e => ?_⟩, J.loc, J.cell, hn _ I.free J.free, fun x c e => hn _ (I.freeC x c e) (J.freeC x c e), fun p hp => ?_, ?_, J.len⟩⟩
  · obtain ⟨m, e2⟩ := J.base.tbls b ps e
    exact ⟨m, hs b _ e2⟩
  · obtain ⟨_, n1, _⟩ := I.pin p hp
    obtain ⟨a, b, c⟩ := J.pin p (by rw [← List.append_assoc]; exact List.mem_append_left _ hp)
    exact ⟨a, hn _ n1 b, c⟩
  · intro a o e
    by_cases m : a ∈ A
    · obtain ⟨o', u, h1, h2, h3, h4, _⟩ := hp a m
      rw [bk_in m, h1] at e
      cases e
      exact ObjOk.move (I.hok a _ h1) h2 fun v q => by rw [h3] at q; cases q; exact h4
    · rw [bk_out m] at e
      exact (J.hok a o e).stay (fun b u _ q => q) (fun b e => hs b _ e) fun b xs e => hs b _ e
end
theorem pe_frame {X : Cx} {e : Expr} {t : TE} (h : PE X e t) : PE X e (tFrame t) := ⟨fun pins s σ H Q I ⟨A, hA, ht⟩ => by
  obtain ⟨ps, hp, J⟩ := Inv.aside I hA
  exact thn (h.run (pins ++ ps) s σ _ _ J ht) fun u s' ⟨v, H', J', r, q⟩ => by
    obtain ⟨n, K⟩ := Inv.back I hp J'
    exact ⟨v, _, K, r, q n⟩⟩

end

section
open PySem PySem.Spec PyProof.Rows L2 Evl
/-! ### isinstance(x, T) of data -/
def isA (T : String) (d : PyData) : Bool := if T = "str" then d.isStr else if T = "tuple" then d.isTuple else if T = "list" then d.isList else d.isDict
def rIsA (P : Program) (w : World) (K : PySem.W.Frag) : List V → Hp → VK → Prop := fun xs H Q => ∃ (x : V) (d : PyData) (T : String), xs = [x, .ty T] ∧ Aq P w K H x d ∧ (T = "str" ∨ T = "tuple" ∨ T = "list" ∨ T = "dict") ∧ Q (.bl (isA T d)) H
section
variable {X : Cx}
theorem call_isA : CallR X (.builtin "isinstance") (rIsA X.prog X.w X.K) := by
  intro pins s σ H xs us Q I r h
  obtain ⟨x, d, T, rfl, ha, hT, q⟩ := h
  obtain ⟨u1, u2, rfl, r1, r2⟩ := vals2 r
  obtain rfl : u2 = Value.type T := r2
  obtain ⟨as, _, rd⟩ := ha.reads I d x u1 r1
  rcases hT with rfl | rfl | rfl | rfl
  · exact PySem.W.isinstance_str_data rd fun tk _ => ⟨.bl _, H, I.tok tk, rfl, q⟩
  · exact PySem.W.isinstance_tuple_data rd fun tk _ => ⟨.bl _, H, I.tok tk, rfl, q⟩
  · exact PySem.W.isinstance_list_data rd fun tk _ => ⟨.bl _, H, I.tok tk, rfl, q⟩
  · exact PySem.W.isinstance_dict_data rd fun tk _ => ⟨.bl _, H, I.tok tk, rfl, q⟩
end
/-! ### repr of data -/
def rReprA (P : Program) (w : World) (K : PySem.W.Frag) : List V → Hp → VK → Prop := fun xs H Q => ∃ (a : Addr) (d : PyData), xs = [.ref a] ∧ Aq P w K H (.ref a) d ∧ d.showable = true ∧ d.depth ≤ 64 ∧ d.shown.length ≤ sizeLine ∧ Q (.str d.shown) H
section
variable {X : Cx}
theorem call_reprA (gd : X.A.guards = some []) (hu : X.A.units + 200 < cLine) : CallR X (.builtin "repr") (rReprA X.prog X.w X.K) := by
  intro pins s σ H xs us Q I r h
  obtain ⟨a, d, rfl, hd, sh, dp, len, q⟩ := h
  rw [Vals.ref1 r]
  obtain ⟨as, hm, rd⟩ := hd.reads I d (.ref a) (.ref a) rfl
  refine repr_of_reads' rd sh (fun _ => hm) gd (by omega) (fun _ _ e => e) (fun h' u tk k => ?_) len
  exact ⟨.str d.shown, H, I.kept (t' := tk) k, ⟨u, rfl⟩, q⟩
end
theorem hu9_of {A : Around} {k : Nat} (hr : Room k A) : A.units + 9 < cLine := by have := hr.un; omega
theorem hu200_of {A : Around} {k : Nat} (hr : Room (k + 1) A) : A.units + 200 < cLine := by have := hr.un; omega
/-- of anything: texts, numbers, truths, None, too -/
def rReprV (P : Program) (w : World) (K : PySem.W.Frag) : List V → Hp → VK → Prop := fun xs H Q => ∃ (x : V) (d : PyData), xs = [x] ∧ Aq P w K H x d ∧ d.showable = true ∧ d.depth ≤ 64 ∧ d.shown.length ≤ sizeLine ∧ Q (.str d.shown) H
section
variable {X : Cx}
theorem call_reprV (gd : X.A.guards = some []) (hu : X.A.units + 200 < cLine) : CallR X (.builtin "repr") (rReprV X.prog X.w X.K) := by
  intro pins s σ H xs us Q I r h
  obtain ⟨x, d, rfl, hd, sh, dp, len, q⟩ := h
  obtain ⟨u, rfl, ru⟩ := vals1 r
  obtain ⟨as, hm, rd⟩ := hd.reads I d x u ru
  cases rd with
  | none => exact PySem.P.repr_of_none ⟨.str _, H, I.tok _, ⟨_, rfl⟩, q⟩
  | bool b => exact PySem.P.repr_of_bool ⟨.str _, H, I.tok _, ⟨_, rfl⟩, q⟩
  | int i t => exact PySem.P.repr_of_int (by simpa [PyData.showable] using sh) ⟨.str _, H, I.tok _, ⟨_, rfl⟩, q⟩
  | str z t => exact PySem.P.repr_of_str (hsz := len) ⟨.str _, H, I.tok _, ⟨_, rfl⟩, q⟩
  | list h1 h2 h3 h4 => exact repr_of_reads' (.list h1 h2 h3 h4) sh (fun _ => hm) gd (by omega) (fun _ _ e => e) (fun h' u tk k => ⟨.str _, H, I.kept (t' := tk) k, ⟨u, rfl⟩, q⟩) len
  | tuple h1 h2 h3 h4 => exact repr_of_reads' (.tuple h1 h2 h3 h4) sh (fun _ => hm) gd (by omega) (fun _ _ e => e) (fun h' u tk k => ⟨.str _, H, I.kept (t' := tk) k, ⟨u, rfl⟩, q⟩) len
  | dict h1 h2 h3 h4 h5 => exact repr_of_reads' (.dict h1 h2 h3 h4 h5) sh (fun _ => hm) gd (by omega) (fun _ _ e => e) (fun h' u tk k => ⟨.str _, H, I.kept (t' := tk) k, ⟨u, rfl⟩, q⟩) len
end
/-! ### growth -/
section
variable {P : Program} {w : World} {K : PySem.W.Frag} {H H' : Hp}
theorem sqL_ex {a : Addr} {xs : List V} (e : Ex H H') (h : SqL K H a xs) : SqL K H' a xs := ex_l e h
theorem DicAt.ex {a : Addr} {ps : List (V × V)} (e : Ex H H') (h : DicAt P w H a ps) : DicAt P w H' a ps := by
  rcases h with ⟨kvs, h, z⟩ | ⟨kvs, h, z⟩
  · exact .inl ⟨kvs, e _ _ h, z⟩
  · exact .inr ⟨kvs, e _ _ h, z⟩
mutual
theorem Aq.ex (e : Ex H H') : ∀ {v : V} {d : PyData}, Aq P w K H v d → Aq P w K H' v d
  | _, _, .non => .non
  | _, _, .bl b => .bl b
  | _, _, .int i => .int i
  | _, _, .str x => .str x
  | _, _, .lst h m a => .lst (ex_l e h) m (AqAll.ex e a)
  | _, _, .tup h a => .tup (ex_t e h) (AqAll.ex e a)
  | _, _, .dic h a b => .dic (h.ex e) (AqAll.ex e a) (AqAll.ex e b)
theorem AqAll.ex (e : Ex H H') : ∀ {vs : List V} {ds : List PyData}, AqAll P w K H vs ds → AqAll P w K H' vs ds
  | _, _, .nil => .nil
  | _, _, .cons a b => .cons (Aq.ex e a) (AqAll.ex e b)
end
theorem AqAll.len : ∀ {vs : List V} {ds : List PyData}, AqAll P w K H vs ds → vs.length = ds.length
  | _, _, .nil => rfl
  | _, _, .cons a b => by rw [List.length_cons, List.length_cons, AqAll.len b]
theorem AqAll.at : ∀ {vs : List V} {ds : List PyData}, AqAll P w K H vs ds → ∀ {i : Nat} {v : V}, vs[i]? = some v → ∃ d, ds[i]? = some d ∧ Aq P w K H v d
  | _, _, .nil, i, v, h => by simp at h
  | _, _, .cons a b, 0, v, h => by
    rw [List.getElem?_cons_zero] at h
    cases h
    exact ⟨_, rfl, a⟩
  | _, _, .cons a b, i + 1, v, h => by
    rw [List.getElem?_cons_succ] at h
    exact AqAll.at b h
theorem AqAll.app : ∀ {vs : List V} {ds : List PyData} {us : List V} {es : List PyData}, AqAll P w K H vs ds → AqAll P w K H us es → AqAll P w K H (vs ++ us) (ds ++ es)
  | _, _, _, _, .nil, h => h
  | _, _, _, _, .cons a b, h => .cons a (AqAll.app b h)
theorem AqAll.take : ∀ {vs : List V} {ds : List PyData} (n : Nat), AqAll P w K H vs ds → AqAll P w K H (vs.take n) (ds.take n)
  | _, _, 0, _ => by rw [List.take_zero, List.take_zero]; exact .nil
  | _, _, n + 1, .nil => by rw [List.take_nil, List.take_nil]; exact .nil
  | _, _, n + 1, .cons a b => by rw [List.take_succ_cons, List.take_succ_cons]; exact .cons a (AqAll.take n b)
theorem AqAll.drop : ∀ {vs : List V} {ds : List PyData} (n : Nat), AqAll P w K H vs ds → AqAll P w K H (vs.drop n) (ds.drop n)
  | _, _, 0, h => h
  | _, _, n + 1, .nil => by rw [List.drop_nil, List.drop_nil]; exact .nil
  | _, _, n + 1, .cons a b => by rw [List.drop_succ_cons, List.drop_succ_cons]; exact AqAll.drop n b
end
section
variable {H H' : Hp} {A : List Addr} {a : Addr} {o : HO}
theorem wo_ex : Ex (Wo A H) H := fun b u h => by
  unfold Wo at h
  split at h
  · cases h
  · exact h
theorem wo_mono (e : Ex H H') : Ex (Wo A H) (Wo A H') := fun b u h => by
  unfold Wo at h ⊢
  split at h
  · cases h
  · rename_i hn
    rw [if_neg hn]
    exact e b u h
theorem wo_upd (h : a ∈ A) : Wo A (upd H a o) = Wo A H := by
  funext b
  unfold Wo
  split
  · rfl
  · rename_i hn
    exact upd_ne (fun z => hn (by rw [z]; exact h))
theorem wo_mu (m : Mu a H H') (h : a ∈ A) : Ex (Wo A H) (Wo A H') := fun b u hb => by
  unfold Wo at hb ⊢
  split at hb
  · cases hb
  · rename_i hn
    rw [if_neg hn]
    exact m b u (fun z => hn (by rw [z]; exact h)) hb
end
/-! ### signs -/
def letterB (c : Nat) : Bool := decide (97 ≤ c ∧ c ≤ 122)
def signB (c : Nat) : Bool := letterB c || decide (48 ≤ c ∧ c ≤ 57) || decide (c = 46)
def wordS (z : Str) : Bool := decide (1 ≤ z.length ∧ z.length ≤ 40) && letterB (z.cps.toList.headD 0) && z.cps.toList.all signB
def wordB : PyData → Bool
  | .str z => wordS z
  | _ => false
theorem range_letters : (Str.ofString "abcdefghijklmnopqrstuvwxyz").cps.toList = List.range' 97 26 := by decide +kernel
theorem range_signs : (Str.ofString "abcdefghijklmnopqrstuvwxyz0123456789.").cps.toList = List.range' 97 26 ++ List.range' 48 10 ++ [46] := by decide +kernel
theorem in_letters (c : Nat) : (!(Builtin.Str.occurrences (Str.ofString "abcdefghijklmnopqrstuvwxyz") ⟨#[c]⟩ 0 (Str.ofString "abcdefghijklmnopqrstuvwxyz").length 1).isEmpty) = letterB c := by
  rw [StrLaws.found_one, range_letters, letterB]
  refine decide_eq_decide.mpr ?_
  rw [List.mem_range'_1]
  omega
theorem in_signs (c : Nat) : (!(Builtin.Str.occurrences (Str.ofString "abcdefghijklmnopqrstuvwxyz0123456789.") ⟨#[c]⟩ 0 (Str.ofString "abcdefghijklmnopqrstuvwxyz0123456789.").length 1).isEmpty) = signB c := by
  rw [StrLaws.found_one, range_signs, signB, letterB, ← Bool.decide_or, ← Bool.decide_or]
  refine decide_eq_decide.mpr ?_
  rw [List.mem_append, List.mem_append, List.mem_range'_1, List.mem_range'_1, List.mem_singleton]
  omega
/-! ### comprehensions whose items are known -/
section
variable {σ : L2.St} {H : Hp} {Q : VK} {K : PySem.W.Frag} {te : TE} {j : Nat} {vs : List Nat}
theorem c_strV {x : Str} (f : Nat → V) (hn : x.length ≤ 50000) (hw : ∀ y, wipe ((wipe σ vs).set j (some y)) vs = wipe σ vs)
    (hb : ∀ (c : Nat) H' (Q' : VK), Ex H H' → (∀ H4, Ex H' H4 → Q' (f c) H4) → te ((wipe σ vs).set j (some (.str ⟨#[c]⟩))) H' Q')
    (q : ∀ p H2, H p = none → Ex H H2 → H2 p = some (.lst (x.cps.toList.map f)) → Q (.ref p) H2) : CompJ (Its x) (gName j) tYes te vs σ H Q := by
  intro D hD
  have hs : x.cps.size = x.length := rfl
  refine ⟨fun i m H' => m + i = x.cps.size ∧ Ex H H' ∧ H' D = some (.lst ((x.cps.toList.take i).map f)), ⟨x.cps.size, rfl, Ex.new hD, upd_same⟩, fun i m H' ⟨hm, e, hd⟩ => ?_⟩
  by_cases hi : i < x.cps.size
  · refine .inr ⟨hi, fun H2 => i + 1 ≤ x.cps.size ∧ Ex H H2 ∧ H2 D = some (.lst ((x.cps.toList.take (i + 1)).map f)), fun H2 ⟨_, e2, h2⟩ => ⟨m - 1, by omega, by omega, e2, h2⟩, fun y H2 hy => ?_⟩
    obtain ⟨rfl, c, hc, rfl⟩ := hy
    refine ⟨hw _, ?_⟩
    show te _ H2 _
    refine hb c H2 _ e fun H4 e4 => ⟨_, e4 _ _ hd, sz_lt (by rw [List.length_map, List.length_take]; omega), hi, Ex.mut (e.trans e4) hD, ?_⟩
    rw [upd_same, ← Array.getElem?_toList] at *
    rw [List.take_add_one, hc, List.map_append]
    rfl
  · refine .inl ⟨Nat.le_of_not_lt hi, q D H' hD e ?_⟩
    rw [hd, List.take_of_length_le (by rw [Array.length_toList]; omega)]
theorem c_tupV {a : Addr} {xs : List V} (ys : List V) (hl : ys.length = xs.length) (hn : xs.length ≤ 50000) (hx : SqT K H a xs) (hw : ∀ y, wipe ((wipe σ vs).set j (some y)) vs = wipe σ vs)
    (hb : ∀ (i : Nat) x y H' (Q' : VK), xs[i]? = some x → ys[i]? = some y → Ex H H' → (∀ H4, Ex H' H4 → Q' y H4) → te ((wipe σ vs).set j (some x)) H' Q')
    (q : ∀ p H2, H p = none → Ex H H2 → H2 p = some (.lst ys) → Q (.ref p) H2) : CompJ (Itt K a) (gName j) tYes te vs σ H Q := by
  intro D hD
  refine ⟨fun i m H' => m + i = xs.length ∧ Ex H H' ∧ H' D = some (.lst (ys.take i)), ⟨xs.length, rfl, Ex.new hD, upd_same⟩, fun i m H' ⟨hm, e, hd⟩ => ?_⟩
  by_cases hi : i < xs.length
  · refine .inr ⟨⟨xs, xs[i], ex_t e hx, List.getElem?_eq_getElem hi⟩, fun H2 => i + 1 ≤ xs.length ∧ Ex H H2 ∧ H2 D = some (.lst (ys.take (i + 1))), fun H2 ⟨_, e2, h2⟩ => ⟨m - 1, by omega, by omega, e2, h2⟩, fun x H2 hy => ?_⟩
    obtain ⟨rfl, hy⟩ := hy
    have hxi := hy xs (ex_t e hx)
    have hyi : ys[i]? = some ys[i] := List.getElem?_eq_getElem (by omega)
    refine ⟨hw _, ?_⟩
    show te _ H2 _
    refine hb i x _ H2 _ hxi hyi e fun H4 e4 => ⟨_, e4 _ _ hd, sz_lt (by rw [List.length_take]; omega), hi, Ex.mut (e.trans e4) hD, ?_⟩
    rw [upd_same, List.take_add_one, hyi]
    rfl
  · refine .inl ⟨⟨xs, ex_t e hx, Nat.le_of_not_lt hi⟩, q D H' hD e ?_⟩
    rw [hd, List.take_of_length_le (by omega)]
end
/-! ### D.get(x, y), D a written dict of the module, x a text -/
def tKGet2 (K : PySem.W.Frag) (d : Addr) (td ty tx : TE) : TE := fun σ H Q => td σ H fun x H1 => x = .ref d ∧ ty σ H1 fun y H2 => tx σ H2 fun z H3 => ∃ (t : Str) (r : Option Value) (v0 : V), y = .str t ∧ PySem.W.nsIn K d t = some r ∧
  (r = none → v0 = z) ∧ (∀ u0, r = some u0 → RelV v0 u0) ∧ Q v0 H3
section
variable {X : Cx} {o e f : Expr} {apos cpos : Pos} {td ty tx : TE} {d : Addr} {es : Array DictEntry} {n : Nat}
theorem pe_kget2 (D : KDict X.K X.w d es n) (ho : PE X o td) (he : PE X e ty) (hf : PE X f tx) (m : M2 X o "get" apos e f cpos) : PE X (.Call (.Attribute o "get" apos) [e, f] [] cpos) (tKGet2 X.K d td ty tx) := by
  refine ⟨fun pins s σ H Q I h => ?_⟩
  refine wpAny_Call_method m.base m.few m.line PySem.F.plainAttrs_dict PySem.F.slot_dict_get PySem.F.type_dict_get (thn (ho.run pins s σ H _ I h) fun u s1 ⟨x, H1, I1, rx, ex, q1⟩ => ?_)
  subst ex
  obtain rfl : u = Value.ref d := rx
  refine ⟨kd_type D I1, fun b q => ?_, ?_⟩
  · cases q
    exact ⟨_, I1.kIn _ _ D.at_, rfl⟩
  rw [m.trees]
  refine Calls.callWith_builtin rfl (Calls.evalArgs_plain (Calls.spliced_cons (thn (he.run pins s1 σ H1 _ I1 q1) fun iv s2 ⟨y, H2, I2, ry, q2⟩ =>
    Calls.spliced_cons (thn (hf.run pins s2 σ H2 _ I2 q2) fun fv s3 ⟨z, H3, I3, rz, t, r, v0, ey, en, q3, q4, qq⟩ => Calls.spliced_nil ?_))))
  subst ey
  obtain ⟨tk, rfl⟩ := ry
  have mp := PySem.W.mapOf_K (prog := X.prog) I3.kIn D.at_ D.lit
  refine call_meetsIn PySem.F.slot_dict_get (kd_type D I3) PySem.F.entry_dict_get (PySem.F.args_dict_get_3 _ _ _) (meets_dict_get_default (strKind X.prog X.w) d (PySem.strKind_is X.prog X.w t tk) D.low fv) ⟨_, mp, ?_⟩
  rw [PySem.W.find_K D.at_ en]
  cases r with
  | none =>
    rw [q3 rfl] at qq
    exact ⟨z, H3, I3.tok _, rz, qq⟩
  | some u0 => exact ⟨v0, H3, I3.tok _, q4 u0 rfl, qq⟩
end

end

section
open PySem PySem.Spec PyProof.Rows L2 Evl
inductive Sl where
  | v (d : PyData)
  | r (a : Addr)
inductive Ob where
  | lst (xs : List Sl)
  | dic (kvs : List (L2.Key × Sl))
  | dicN (kvs : List (NestedKey × Sl))
  | pen (ns : List Int)
abbrev Facts := List (V × PyData)
abbrev Objs := List (Addr × Ob)
def En (K : PySem.W.Frag) (F : Hp) (v : V) : Sl → Prop
  | .v d => Dp K F v d
  | .r a => v = .ref a
def ObAt (P : Program) (w : World) (K : PySem.W.Frag) (F H : Hp) (a : Addr) : Ob → Prop
  | .lst ss => ∃ vs, H a = some (.lst vs) ∧ Paired (En K F) vs ss
  | .dic kvs => ∃ ws, H a = some (.dK ws) ∧ Paired (fun (p : L2.Key × V) (q : L2.Key × Sl) => p.1 = q.1 ∧ En K F p.2 q.2) ws kvs
  | .dicN kvs => ∃ ws, H a = some (DnO P w a ws) ∧ KsAt K F ws ∧ Paired (fun (p : Nkv) (q : NestedKey × Sl) => p.1 = q.1 ∧ En K F p.2.2 q.2) ws kvs
  | .pen ns => ∃ sc, H a = some (PenO a sc) ∧ SqL K F sc (ns.map V.int)
structure RepF (P : Program) (w : World) (K : PySem.W.Frag) (B F H : Hp) (M : Objs) (L : Facts) : Prop where
  nd : (M.map (·.1)).Nodup
  bf : Ex B F
  fh : Ex F H
  ob : ∀ a o, (a, o) ∈ M → F a = none ∧ ObAt P w K F H a o
  dt : ∀ v d, (v, d) ∈ L → Dp K F v d
def Rep (P : Program) (w : World) (K : PySem.W.Frag) (B H : Hp) (M : Objs) (L : Facts) : Prop := ∃ F, RepF P w K B F H M L
/-- it is known that v is d -/
inductive Has (L : Facts) : V → PyData → Prop
  | mem {v : V} {d : PyData} : (v, d) ∈ L → Has L v d
  | non : Has L .non .none
  | bl (b : Bool) : Has L (.bl b) (.bool b)
  | int (i : Int) : Has L (.int i) (.int i)
  | str (x : Str) : Has L (.str x) (.str x)
inductive HasS (L : Facts) : V → Sl → Prop
  | v {v : V} {d : PyData} : Has L v d → HasS L v (.v d)
  | r (a : Addr) : HasS L (.ref a) (.r a)
def valOf (d : PyData) (a : Addr) : V := match d with
  | .none => .non
  | .bool b => .bl b
  | .int i => .int i
  | .str x => .str x
  | _ => .ref a
def valS (s : Sl) (a : Addr) : V := match s with
  | .v d => valOf d a
  | .r b => .ref b
section
variable {P : Program} {w : World} {K : PySem.W.Frag} {B F F' H H' : Hp} {M : Objs} {L : Facts} {v : V} {d : PyData} {s : Sl} {a p : Addr} {o : Ob}
mutual
theorem dp_ex (e : Ex F F') : ∀ {v : V} {d : PyData}, Dp K F v d → Dp K F' v d
  | _, _, .non => .non
  | _, _, .bl b => .bl b
  | _, _, .int i => .int i
  | _, _, .str x => .str x
  | _, _, .lst h a => .lst (ex_l e h) (dpAll_ex e a)
  | _, _, .tup h a => .tup (ex_t e h) (dpAll_ex e a)
theorem dpAll_ex (e : Ex F F') : ∀ {vs : List V} {ds : List PyData}, DpAll K F vs ds → DpAll K F' vs ds
  | _, _, .nil => .nil
  | _, _, .cons a b => .cons (dp_ex e a) (dpAll_ex e b)
end
theorem en_ex (e : Ex F F') (h : En K F v s) : En K F' v s := by
  cases s with
  | v d => exact dp_ex e h
  | r a => exact h
theorem dp_val (h : Dp K F v d) : ∃ a, v = valOf d a := by
  cases h with
  | non => exact ⟨0, rfl⟩
  | bl b => exact ⟨0, rfl⟩
  | int i => exact ⟨0, rfl⟩
  | str x => exact ⟨0, rfl⟩
  | lst _ _ => exact ⟨_, rfl⟩
  | tup _ _ => exact ⟨_, rfl⟩
theorem en_val (h : En K F v s) : ∃ a, v = valS s a := by
  cases s with
  | v d => exact dp_val h
  | r a => exact ⟨a, h⟩
theorem dpAll_of : ∀ {vs : List V} {ds : List PyData}, Paired (Dp K F) vs ds → DpAll K F vs ds
  | _, _, .nil => .nil
  | _, _, .cons a b => .cons a (dpAll_of b)
theorem dpAll_to : ∀ {vs : List V} {ds : List PyData}, DpAll K F vs ds → Paired (Dp K F) vs ds
  | _, _, .nil => .nil
  | _, _, .cons a b => .cons a (dpAll_to b)
theorem pr_at {α β : Type} {G : α → β → Prop} : ∀ {xs : List α} {ys : List β}, Paired G xs ys → ∀ {i : Nat} {y : β}, ys[i]? = some y → ∃ x, xs[i]? = some x ∧ G x y
  | _, _, .nil, i, y, h => by simp at h
  | _, _, .cons a b, 0, y, h => by rw [List.getElem?_cons_zero] at h; cases h; exact ⟨_, rfl, a⟩
  | _, _, .cons a b, i + 1, y, h => by rw [List.getElem?_cons_succ] at h; exact pr_at b h
theorem pr_at2 {α β : Type} {G : α → β → Prop} : ∀ {xs : List α} {ys : List β}, Paired G xs ys → ∀ {i : Nat} {x : α}, xs[i]? = some x → ∃ y, ys[i]? = some y ∧ G x y
  | _, _, .nil, i, y, h => by simp at h
  | _, _, .cons a b, 0, y, h => by rw [List.getElem?_cons_zero] at h; cases h; exact ⟨_, rfl, a⟩
  | _, _, .cons a b, i + 1, y, h => by rw [List.getElem?_cons_succ] at h; exact pr_at2 b h
theorem pr_app {α β : Type} {G : α → β → Prop} : ∀ {xs us : List α} {ys ws : List β}, Paired G xs ys → Paired G us ws → Paired G (xs ++ us) (ys ++ ws)
  | _, _, _, _, .nil, h => h
  | _, _, _, _, .cons a b, h => .cons a (pr_app b h)
theorem pr_take {α β : Type} {G : α → β → Prop} : ∀ {xs : List α} {ys : List β} (n : Nat), Paired G xs ys → Paired G (xs.take n) (ys.take n)
  | _, _, 0, _ => by rw [List.take_zero, List.take_zero]; exact .nil
  | _, _, n + 1, .nil => by rw [List.take_nil, List.take_nil]; exact .nil
  | _, _, n + 1, .cons a b => by rw [List.take_succ_cons, List.take_succ_cons]; exact .cons a (pr_take n b)
theorem pr_drop {α β : Type} {G : α → β → Prop} : ∀ {xs : List α} {ys : List β} (n : Nat), Paired G xs ys → Paired G (xs.drop n) (ys.drop n)
  | _, _, 0, h => h
  | _, _, n + 1, .nil => by rw [List.drop_nil, List.drop_nil]; exact .nil
  | _, _, n + 1, .cons a b => by rw [List.drop_succ_cons, List.drop_succ_cons]; exact pr_drop n b
theorem pr_set {α β : Type} {G : α → β → Prop} {x : α} {y : β} (g : G x y) : ∀ {xs : List α} {ys : List β} (n : Nat), Paired G xs ys → Paired G (xs.set n x) (ys.set n y)
  | _, _, _, .nil => by rw [List.set_nil, List.set_nil]; exact .nil
  | _, _, 0, .cons a b => .cons g b
  | _, _, n + 1, .cons a b => .cons a (pr_set g n b)
theorem pr_map {α β γ : Type} {G : α → γ → Prop} {f : β → γ} : ∀ {xs : List α} {ys : List β}, Paired (fun x y => G x (f y)) xs ys → Paired G xs (ys.map f)
  | _, _, .nil => .nil
  | _, _, .cons a b => .cons a (pr_map b)
theorem pr_unmap {α β γ : Type} {G : α → γ → Prop} {f : β → γ} : ∀ {xs : List α} {ys : List β}, Paired G xs (ys.map f) → Paired (fun x y => G x (f y)) xs ys
  | _, [], h => by cases h; exact .nil
  | _, y :: ys, h => by cases h with | cons a b => exact .cons a (pr_unmap b)
theorem obAt_ex (e : Ex F F') (hh : ∀ u, H a = some u → H' a = some u) (h : ObAt P w K F H a o) : ObAt P w K F' H' a o := by
  cases o with
  | lst ss => obtain ⟨vs, h1, h2⟩ := h; exact ⟨vs, hh _ h1, Paired.mono (fun _ _ => en_ex e) h2⟩
  | dic kvs => obtain ⟨ws, h1, h2⟩ := h; exact ⟨ws, hh _ h1, Paired.mono (fun _ _ z => ⟨z.1, en_ex e z.2⟩) h2⟩
  | dicN kvs => obtain ⟨ws, h1, h2, h3⟩ := h; exact ⟨ws, hh _ h1, fun x hx => ⟨KyD.at (fun _ _ => ex_t e) _ _ (h2 x hx).1, (h2 x hx).2⟩, Paired.mono (fun _ _ z => ⟨z.1, en_ex e z.2⟩) h3⟩
  | pen ns => obtain ⟨sc, h1, h2⟩ := h; exact ⟨sc, hh _ h1, ex_l e h2⟩
theorem obAt_some (h : ObAt P w K F H a o) : ∃ u, H a = some u := by
  cases o with
  | lst ss => obtain ⟨vs, h1, _⟩ := h; exact ⟨_, h1⟩
  | dic kvs => obtain ⟨ws, h1, _⟩ := h; exact ⟨_, h1⟩
  | dicN kvs => obtain ⟨ws, h1, _⟩ := h; exact ⟨_, h1⟩
  | pen ns => obtain ⟨sc, h1, _⟩ := h; exact ⟨_, h1⟩
theorem has_dp (r : RepF P w K B F H M L) (h : Has L v d) : Dp K F v d := by
  cases h with
  | mem h => exact r.dt _ _ h
  | non => exact .non
  | bl b => exact .bl b
  | int i => exact .int i
  | str x => exact .str x
theorem hasS_en (r : RepF P w K B F H M L) (h : HasS L v s) : En K F v s := by
  cases h with
  | v h => exact has_dp r h
  | r a => rfl
theorem has_all (r : RepF P w K B F H M L) {vs : List V} {ds : List PyData} (h : Paired (Has L) vs ds) : DpAll K F vs ds := dpAll_of (Paired.mono (fun _ _ => has_dp r) h)
/-- what may be read off the heap -/
theorem Rep.dp (R : Rep P w K B H M L) (h : Has L v d) : Dp K H v d := let ⟨_, r⟩ := R; dp_ex r.fh (has_dp r h)
theorem Rep.at (R : Rep P w K B H M L) (h : (a, o) ∈ M) : ObAt P w K H H a o := let ⟨_, r⟩ := R; obAt_ex r.fh (fun _ z => z) (r.ob _ _ h).2
/-- fewer facts, fewer objects -/
theorem Rep.sub {M' : Objs} {L' : Facts} (R : Rep P w K B H M L) (hn : (M'.map (·.1)).Nodup) (hm : ∀ x, x ∈ M' → x ∈ M) (hl : ∀ x, x ∈ L' → x ∈ L) : Rep P w K B H M' L' :=
  let ⟨F, r⟩ := R; ⟨F, hn, r.bf, r.fh, fun a o h => r.ob a o (hm _ h), fun v d h => r.dt v d (hl _ h)⟩
theorem Rep.less {L' : Facts} (R : Rep P w K B H M L) (hl : ∀ x, x ∈ L' → x ∈ L) : Rep P w K B H M L' := let ⟨F, r⟩ := R; ⟨F, r.nd, r.bf, r.fh, r.ob, fun v d h => r.dt v d (hl _ h)⟩
theorem Rep.nodup (R : Rep P w K B H M L) : (M.map (·.1)).Nodup := let ⟨_, r⟩ := R; r.nd
theorem Rep.some_ (R : Rep P w K B H M L) (h : (a, o) ∈ M) : ∃ u, H a = some u := let ⟨_, r⟩ := R; obAt_some (r.ob _ _ h).2
theorem Rep.base {B' : Hp} (R : Rep P w K B H M L) (h : Ex B' B) : Rep P w K B' H M L := let ⟨F, r⟩ := R; ⟨F, r.nd, h.trans r.bf, r.fh, r.ob, r.dt⟩
/-- a fact more: something known already -/
theorem Rep.more {vd : V × PyData} (R : Rep P w K B H M L) (h : ∀ F, RepF P w K B F H M L → Dp K F vd.1 vd.2) : Rep P w K B H M (vd :: L) :=
  let ⟨F, r⟩ := R; ⟨F, r.nd, r.bf, r.fh, r.ob, fun v d hd => (List.mem_cons.mp hd).elim (fun e => by cases e; exact h F r) (r.dt v d)⟩
theorem Rep.mores (R : Rep P w K B H M L) (ls : Facts) (h : ∀ F, RepF P w K B F H M L → ∀ x ∈ ls, Dp K F x.1 x.2) : Rep P w K B H M (ls ++ L) :=
  let ⟨F, r⟩ := R; ⟨F, r.nd, r.bf, r.fh, r.ob, fun v d hd => (List.mem_append.mp hd).elim (h F r (v, d)) (r.dt v d)⟩
/-- a new frozen object -/
theorem Rep.froz {u : HO} (R : Rep P w K B H M L) (hp : H p = none) (h : ∀ F, RepF P w K B F H M L → Dp K (upd F p u) (.ref p) d) : Rep P w K B (upd H p u) M ((.ref p, d) :: L) := by
  obtain ⟨F, r⟩ := R
  have fp : F p = none := by
    cases q : F p with
    | none => rfl
    | some z => rw [r.fh _ _ q] at hp; cases hp
  have e := Ex.new (o := u) fp
  refine ⟨upd F p u, r.nd, r.bf.trans e, fun b z q => ?_, fun b ob hb => ?_, fun v d' hd => ?_⟩
  · by_cases hb : b = p
    · subst hb; rw [upd_same] at q ⊢; exact q
    · rw [upd_ne hb] at q ⊢; exact r.fh _ _ q
  · obtain ⟨h1, h2⟩ := r.ob b ob hb
    obtain ⟨z, hz⟩ := obAt_some h2
    have ne : b ≠ p := fun e => by rw [e, hp] at hz; cases hz
    exact ⟨by rw [upd_ne ne]; exact h1, obAt_ex e (fun u q => by rw [upd_ne ne]; exact q) h2⟩
  · rcases List.mem_cons.mp hd with e1 | hd
    · cases e1; exact h F r
    · exact dp_ex e (r.dt _ _ hd)
/-- a new object that may change, put last -/
theorem Rep.fresh {u : HO} (R : Rep P w K B H M L) (hp : H p = none) (h : ∀ F, RepF P w K B F H M L → ObAt P w K F (upd H p u) p o) : Rep P w K B (upd H p u) (M ++ [(p, o)]) L := by
  obtain ⟨F, r⟩ := R
  have fp : F p = none := by
    cases q : F p with
    | none => rfl
    | some z => rw [r.fh _ _ q] at hp; cases hp
  have ne : ∀ b ob, (b, ob) ∈ M → b ≠ p := fun b ob hb e => by
    obtain ⟨z, hz⟩ := obAt_some (r.ob b ob hb).2
    rw [e, hp] at hz; cases hz
  refine ⟨F, ?_, r.bf, r.fh.trans (Ex.new hp), fun b ob hb => ?_, r.dt⟩
  · rw [List.map_append, List.nodup_append]
    refine ⟨r.nd, by simp, fun x hx y hy => ?_⟩
    obtain ⟨⟨b, ob⟩, hb, rfl⟩ := List.mem_map.mp hx
    simp only [List.map_cons, List.map_nil, List.mem_singleton] at hy
    rw [hy]
    exact ne b ob hb
  · rcases List.mem_append.mp hb with hb | hb
    · obtain ⟨h1, h2⟩ := r.ob b ob hb
      exact ⟨h1, obAt_ex (Ex.refl _) (fun u q => by rw [upd_ne (ne b ob hb)]; exact q) h2⟩
    · cases List.mem_singleton.mp hb
      exact ⟨fp, h F r⟩
/-- an object is changed -/
theorem RepF.put {u : HO} {o' : Ob} {i : Nat} (r : RepF P w K B F H M L) (hi : M[i]? = some (a, o)) (h : ObAt P w K F (upd H a u) a o') : RepF P w K B F (upd H a u) (M.set i (a, o')) L := by
  have fa := (r.ob _ _ (List.mem_of_getElem? hi)).1
  refine ⟨?_, r.bf, fun b z q => ?_, fun b ob hb => ?_, r.dt⟩
  · rw [List.map_set]
    have e : (M.map (·.1)).set i a = M.map (·.1) := by
      refine List.ext_getElem? fun j => ?_
      rw [List.getElem?_set]
      split
      · rename_i e
        subst e
        split
        · rw [List.getElem?_map, hi]; rfl
        · rename_i hn
          rw [List.length_map] at hn
          exact absurd (List.getElem?_eq_some_iff.mp hi).1 hn
      · rfl
    show ((M.map (·.1)).set i a).Nodup
    rw [e]
    exact r.nd
  · rw [upd_ne (fun e => by rw [e, fa] at q; cases q)]
    exact r.fh _ _ q
  · obtain ⟨j, hj⟩ := List.mem_iff_getElem?.mp hb
    rw [List.getElem?_set] at hj
    split at hj
    · split at hj
      · cases hj
        exact ⟨fa, h⟩
      · cases hj
    · rename_i ne
      have hbM := List.mem_of_getElem? hj
      obtain ⟨h1, h2⟩ := r.ob b ob hbM
      have hba : b ≠ a := fun e => by
        subst e
        have l1 : (M.map (·.1))[i]? = some b := by rw [List.getElem?_map, hi]; rfl
        have l2 : (M.map (·.1))[j]? = some b := by rw [List.getElem?_map, hj]; rfl
        obtain ⟨q1, q2⟩ := List.getElem?_eq_some_iff.mp l1
        obtain ⟨q3, q4⟩ := List.getElem?_eq_some_iff.mp l2
        exact ne ((List.getElem_inj r.nd).mp (q2.trans q4.symm))
      exact ⟨h1, obAt_ex (Ex.refl _) (fun u q => by rw [upd_ne hba]; exact q) h2⟩
theorem Rep.put {u : HO} {o' : Ob} {i : Nat} (R : Rep P w K B H M L) (hi : M[i]? = some (a, o)) (h : ∀ F, RepF P w K B F H M L → ObAt P w K F (upd H a u) a o') : Rep P w K B (upd H a u) (M.set i (a, o')) L := let ⟨F, r⟩ := R; ⟨F, r.put hi (h F r)⟩
theorem eraseIdx_mem {α : Type} : ∀ {l : List α} {i : Nat} {x : α}, x ∈ l.eraseIdx i → x ∈ l
  | [], _, _, h => by simp at h
  | _ :: _, 0, _, h => by rw [List.eraseIdx_cons_zero] at h; exact .tail _ h
  | _ :: _, i + 1, _, h => by
    rw [List.eraseIdx_cons_succ] at h
    rcases List.mem_cons.mp h with rfl | h
    · exact .head _
    · exact .tail _ (eraseIdx_mem h)
theorem erase_other {α β : Type} {f : α → β} : ∀ {l : List α} {i : Nat} {x y : α}, (l.map f).Nodup → l[i]? = some x → y ∈ l.eraseIdx i → f y ≠ f x
  | [], _, _, _, _, h, _ => by simp at h
  | z :: l, 0, x, y, nd, h, hy => by
    rw [List.getElem?_cons_zero] at h
    cases h
    rw [List.eraseIdx_cons_zero] at hy
    rw [List.map_cons, List.nodup_cons] at nd
    exact fun e => nd.1 (e ▸ List.mem_map_of_mem hy)
  | z :: l, i + 1, x, y, nd, h, hy => by
    rw [List.getElem?_cons_succ] at h
    rw [List.eraseIdx_cons_succ] at hy
    rw [List.map_cons, List.nodup_cons] at nd
    rcases List.mem_cons.mp hy with rfl | hy
    · exact fun e => nd.1 (e ▸ List.mem_map_of_mem (List.mem_of_getElem? h))
    · exact erase_other nd.2 h hy
/-- a list changes no more: it is data -/
theorem Rep.freeze {ds : List PyData} {i : Nat} (R : Rep P w K B H M L) (hi : M[i]? = some (a, .lst (ds.map .v))) : Rep P w K B H (M.eraseIdx i) ((.ref a, .list ds) :: L) := by
  obtain ⟨F, r⟩ := R
  obtain ⟨fa, vs, h1, h2⟩ := r.ob _ _ (List.mem_of_getElem? hi)
  have e := Ex.new (o := HO.lst vs) fa
  refine ⟨upd F a (.lst vs), ?_, r.bf.trans e, fun b z q => ?_, fun b ob hb => ?_, fun v d hd => ?_⟩
  · exact List.Nodup.sublist ((List.eraseIdx_sublist _ _).map _) r.nd
  · by_cases hb : b = a
    · subst hb; rw [upd_same] at q; rw [← q]; exact h1
    · rw [upd_ne hb] at q; exact r.fh _ _ q
  · obtain ⟨g1, g2⟩ := r.ob b ob (eraseIdx_mem hb)
    have ne : b ≠ a := erase_other (f := (·.1)) r.nd hi hb
    exact ⟨by rw [upd_ne ne]; exact g1, obAt_ex e (fun _ q => q) g2⟩
  · rcases List.mem_cons.mp hd with e1 | hd
    · cases e1
      exact .lst (sq_of upd_same) (dpAll_of (Paired.mono (fun _ _ z => dp_ex e z) (pr_unmap (G := En K F) (f := Sl.v) h2)))
    · exact dp_ex e (r.dt _ _ hd)
end

end

section
open PySem PySem.Spec PyProof.Rows L2 Evl
/-- the value at a key, or none -/
def UGet (P : Program) (w : World) (K : PySem.W.Frag) (H : Hp) (a : Addr) (y : V) (r : Option V) : Prop :=
  (∃ kvs k, Rd H a (.dK kvs) ∧ y = kV k ∧ r = valV kvs k) ∨ ∃ kvs k, Rd H a (DnO P w a kvs) ∧ KsAt K H kvs ∧ KyD K H y k ∧ (∃ b, y = .ref b) ∧ k.depth ≤ 8 ∧ r = valN kvs k
/-- the heap behind a store -/
def UPut (P : Program) (w : World) (K : PySem.W.Frag) (H : Hp) (a : Addr) (y v : V) (H' : Hp) : Prop :=
  (∃ kvs k, H a = some (.dK kvs) ∧ y = kV k ∧ kvs.length < sizeLine ∧ H' = upd H a (.dK (putK kvs k v))) ∨
  ∃ kvs k b, H a = some (DnO P w a kvs) ∧ KsAt K H kvs ∧ KyD K H y k ∧ y = .ref b ∧ k.depth ≤ 8 ∧ kvs.length < sizeLine ∧ H' = upd H a (DnO P w a (putN kvs k b v))
def UDict (P : Program) (w : World) (H : Hp) (a : Addr) : Prop := (∃ kvs, Rd H a (.dK kvs)) ∨ ∃ kvs, Rd H a (DnO P w a kvs)
section
variable {X : Cx} {pins : List (Addr × Obj)} {σ : L2.St} {H H' : Hp} {s : Shared} {a : Addr} {y v : V} {u r : Value} {o : Option V} {A : Around} {E : Value → Shared → Prop}
theorem UGet.d (g : UGet X.prog X.w X.K H a y o) : UDict X.prog X.w H a := by
  rcases g with ⟨kvs, k, e, _⟩ | ⟨kvs, k, e, _⟩
  · exact .inl ⟨_, e⟩
  · exact .inr ⟨_, e⟩
theorem u_type (I : Inv X pins σ H s) (d : UDict X.prog X.w H a) : s.TypeIs (.ref a) "dict" ∧ (∀ b, Value.ref a = .ref b → ∃ ob, s.heap.get? b = some ob ∧ ob.dict = none) := by
  rcases d with ⟨kvs, e⟩ | ⟨kvs, e⟩
  · exact let ⟨t1, t2, _⟩ := isD_at I (.inl ⟨kvs, e⟩); ⟨t1, t2⟩
  · exact dn_type I e
theorem u_item {Q : Value → Shared → Prop} (hu : A.units + 9 < cLine) (I : Inv X pins σ H s) (g : UGet X.prog X.w X.K H a y (some v)) (ry : RelV y u) (h : ∀ w' s', Inv X pins σ H s' → RelV v w' → Q w' s') : wpAny (model X.prog X.w) A (getItem (.ref a) u) Q E s := by
  rcases g with ⟨kvs, k, e, ey, l⟩ | ⟨kvs, k, e, ks, ky, ⟨b, rfl⟩, dp, l⟩
  · exact d_getItem (by omega) I (.inl ⟨kvs, k, e, ey, l⟩) ry h
  · cases ry; exact n_getItem hu I e ks ky dp l.symm h
theorem u_in {Q : Value → Shared → Prop} (hu : A.units + 9 < cLine) (I : Inv X pins σ H s) (g : UGet X.prog X.w X.K H a y o) (ry : RelV y u) (h : ∀ s', Inv X pins σ H s' → Q (.bool o.isSome) s') : wpAny (model X.prog X.w) A (compareOp .In u (.ref a)) Q E s := by
  rcases g with ⟨kvs, k, e, ey, l⟩ | ⟨kvs, k, e, ks, ky, ⟨b, rfl⟩, dp, l⟩
  · exact d_in (by omega) I (.inl ⟨kvs, k, e, ey, l⟩) ry h
  · cases ry; rw [l] at h; exact n_in hu I e ks ky dp h
theorem u_notIn {Q : Value → Shared → Prop} (hu : A.units + 9 < cLine) (I : Inv X pins σ H s) (g : UGet X.prog X.w X.K H a y o) (ry : RelV y u) (h : ∀ s', Inv X pins σ H s' → Q (.bool (!o.isSome)) s') : wpAny (model X.prog X.w) A (compareOp .NotIn u (.ref a)) Q E s := by
  rcases g with ⟨kvs, k, e, ey, l⟩ | ⟨kvs, k, e, ks, ky, ⟨b, rfl⟩, dp, l⟩
  · exact d_notIn (by omega) I (.inl ⟨kvs, k, e, ey, l⟩) ry h
  · cases ry; rw [l] at h; exact n_notIn hu I e ks ky dp h
theorem u_get1 {Q : Value → Shared → Prop} (hu : A.units + 9 < cLine) (I : Inv X pins σ H s) (g : UGet X.prog X.w X.K H a y o) (ry : RelV y u) (h : ∀ w' s', Inv X pins σ H s' → RelV (o.getD .non) w' → Q w' s') : wpAny (model X.prog X.w) A (call (.builtin "dict.get") [.ref a, u]) Q E s := by
  rcases g with ⟨kvs, k, e, ey, l⟩ | ⟨kvs, k, e, ks, ky, ⟨b, rfl⟩, dp, l⟩
  · exact d_get1 (by omega) I (.inl ⟨kvs, k, e, ey, l⟩) ry h
  · cases ry; rw [l] at h; exact n_get1 hu I e ks ky dp h
theorem u_get2 {Q : Value → Shared → Prop} (hu : A.units + 9 < cLine) (I : Inv X pins σ H s) (g : UGet X.prog X.w X.K H a y o) (ry : RelV y u) {d : V} (rd : RelV d r) (h : ∀ w' s', Inv X pins σ H s' → RelV (o.getD d) w' → Q w' s') : wpAny (model X.prog X.w) A (call (.builtin "dict.get") [.ref a, u, r]) Q E s := by
  rcases g with ⟨kvs, k, e, ey, l⟩ | ⟨kvs, k, e, ks, ky, ⟨b, rfl⟩, dp, l⟩
  · exact d_get2 (by omega) I (.inl ⟨kvs, k, e, ey, l⟩) ry rd h
  · cases ry; rw [l] at h; exact n_get2 hu I e ks ky dp rd h
theorem u_put {Q : Unit → Shared → Prop} (hu : A.units + 9 < cLine) (I : Inv X pins σ H s) (g : UPut X.prog X.w X.K H a y v H') (ry : RelV y u) (rv : RelV v r) (h : ∀ s', Inv X pins σ H' s' → Q () s') : wpAny (model X.prog X.w) A (setItem (.ref a) u r) Q E s := by
  rcases g with ⟨kvs, k, e, ey, l, eH⟩ | ⟨kvs, k, b, e, ks, ky, rfl, dp, l, eH⟩
  · exact d_setItem (by omega) I (.inl ⟨kvs, k, e, ey, l, eH⟩) ry rv h
  · cases ry; subst eH; exact n_setItem hu I e ks ky dp l rv h
end
/-! ### readings -/
section
variable (P : Program) (w : World) (K : PySem.W.Frag)
def tUGet (td ty : TE) : TE := fun σ H Q => td σ H fun x H1 => ty σ H1 fun y H2 => ∃ a v, x = .ref a ∧ UGet P w K H2 a y (some v) ∧ Q v H2
def tUIn (ty td : TE) : TE := fun σ H Q => ty σ H fun y H1 => td σ H1 fun x H2 => ∃ a o, x = .ref a ∧ UGet P w K H2 a y o ∧ Q (.bl o.isSome) H2
def tUNotIn (ty td : TE) : TE := fun σ H Q => ty σ H fun y H1 => td σ H1 fun x H2 => ∃ a o, x = .ref a ∧ UGet P w K H2 a y o ∧ Q (.bl (!o.isSome)) H2
def sUPut (td ty tv : TE) : TS := fun D σ H => tv σ H fun v H1 => td σ H1 fun x H2 => ty σ H2 fun y H3 => ∃ a H4, x = .ref a ∧ UPut P w K H3 a y v H4 ∧ D.nx σ H4
def tUGet1 (td ty : TE) : TE := fun σ H Q => td σ H fun x H1 => ∃ a, x = .ref a ∧ UDict P w H1 a ∧ ty σ H1 fun y H2 => ∃ o, UGet P w K H2 a y o ∧ Q (o.getD .non) H2
def tUGet2 (td ty tx : TE) : TE := fun σ H Q => td σ H fun x H1 => ∃ a, x = .ref a ∧ UDict P w H1 a ∧ ty σ H1 fun y H2 => tx σ H2 fun z H3 => ∃ o, UGet P w K H3 a y o ∧ Q (o.getD z) H3
def tUPop2 (td ty tx : TE) : TE := fun σ H Q => td σ H fun x H1 => ∃ a, x = .ref a ∧ UDict P w H1 a ∧ ty σ H1 fun y H2 => tx σ H2 fun z H3 =>
  (∃ kvs k, H3 a = some (.dK kvs) ∧ y = kV k ∧ (∀ v, valV kvs k = some v → Q v (upd H3 a (.dK (dropK kvs k)))) ∧ (valV kvs k = none → Q z H3)) ∨
  ∃ kvs k b, H3 a = some (DnO P w a kvs) ∧ KsAt K H3 kvs ∧ KyD K H3 y k ∧ y = .ref b ∧ k.depth ≤ 8 ∧ (∀ v, valN kvs k = some v → Q v (upd H3 a (DnO P w a (dropN kvs k)))) ∧ (valN kvs k = none → Q z H3)
end
section
variable {X : Cx} {o i e f value : Expr} {pos pos' tpos apos cpos : Pos} {td ty tv tx : TE}
theorem pe_uget (hu : X.A.units + 9 < cLine) (ho : PE X o td) (hi : PE X i ty) (hs : NoSl i) : PE X (.Subscript o i pos) (tUGet X.prog X.w X.K td ty) := ⟨fun pins s σ H Q I h => by
  refine subD_of PySem.F.slot_dict_getitem.lookup hs (thn (ho.run pins s σ H _ I h) fun uo sa ⟨x, Ha, Ia, rx, qa⟩ => thn (hi.run pins sa σ Ha _ Ia qa) fun ui sb ⟨y, Hb, Ib, ry, a, v, ex, g, qb⟩ => ?_)
  subst ex
  cases rx
  exact ⟨(u_type Ib g.d).1, u_item hu Ib g ry fun w' sc Ic rw' => ⟨v, Hb, Ic, rw', qb⟩⟩⟩
theorem pc_uin (hu : X.A.units + 9 < cLine) (hi : PE X i ty) (ho : PE X o td) : PC X .In i o (tUIn X.prog X.w X.K ty td) := ⟨fun pins s σ H Q I h => by
  refine thn (hi.run pins s σ H _ I h) fun ui sa ⟨y, Ha, Ia, ry, qa⟩ => thn (ho.run pins sa σ Ha _ Ia qa) fun uo sb ⟨x, Hb, Ib, rx, a, ov, ex, g, qb⟩ => ?_
  subst ex
  cases rx
  exact u_in hu Ib g ry fun sc Ic => ⟨.bl ov.isSome, Hb, Ic, rfl, qb⟩⟩
theorem pc_unotin (hu : X.A.units + 9 < cLine) (hi : PE X i ty) (ho : PE X o td) : PC X .NotIn i o (tUNotIn X.prog X.w X.K ty td) := ⟨fun pins s σ H Q I h => by
  refine thn (hi.run pins s σ H _ I h) fun ui sa ⟨y, Ha, Ia, ry, qa⟩ => thn (ho.run pins sa σ Ha _ Ia qa) fun uo sb ⟨x, Hb, Ib, rx, a, ov, ex, g, qb⟩ => ?_
  subst ex
  cases rx
  exact u_notIn hu Ib g ry fun sc Ic => ⟨.bl (!ov.isSome), Hb, Ic, rfl, qb⟩⟩
theorem ps_uput (hu : X.A.units + 9 < cLine) (ho : PE X o td) (hi : PE X i ty) (hv : PE X value tv) (hs : swapsWith value (some (.Subscript o i pos')) pos.line X.env = pure false) : PS X (.Assign [.Subscript o i pos'] value pos) (sUPut X.prog X.w X.K td ty tv) := ⟨fun pins s σ H D I h => by
  refine wpAny_Assign_Subscript (thn (hv.run pins s σ H _ I h) fun uv sa ⟨v, Ha, Ia, rv, qa⟩ => thn (ho.run pins sa σ Ha _ Ia qa) fun uo sb ⟨x, Hb, Ib, rx, qb⟩ => thn (hi.run pins sb σ Hb _ Ib qb) fun ui sc ⟨y, Hc, Ic, ry, a, Hd, ex, g, qc⟩ => ?_) hs
  subst ex
  cases rx
  exact u_put hu Ic g ry rv fun sd Id => ⟨σ, Hd, Id, qc⟩⟩
theorem pe_uget1 (hu : X.A.units + 9 < cLine) (ho : PE X o td) (he : PE X e ty) (m : M1 X o "get" apos e cpos) : PE X (.Call (.Attribute o "get" apos) [e] [] cpos) (tUGet1 X.prog X.w X.K td ty) := ⟨fun pins s σ H Q I h => by
  refine wpAny_Call_method m.base m.few m.line PySem.F.plainAttrs_dict PySem.F.slot_dict_get PySem.F.type_dict_get (thn (ho.run pins s σ H _ I h) fun uo sa ⟨x, Ha, Ia, rx, a, ex, d, qa⟩ => ?_)
  subst ex
  cases rx
  obtain ⟨t1, t2⟩ := u_type Ia d
  refine ⟨t1, t2, ?_⟩
  rw [m.trees]
  refine Calls.callWith_builtin rfl (Calls.evalArgs_plain (Calls.spliced_cons (thn (he.run pins sa σ Ha _ Ia qa) fun ui sb ⟨y, Hb, Ib, ry, ov, g, qb⟩ => Calls.spliced_nil ?_)))
  exact u_get1 hu Ib g ry fun w' sc Ic rw' => ⟨_, Hb, Ic, rw', qb⟩⟩
theorem pe_uget2 (hu : X.A.units + 9 < cLine) (ho : PE X o td) (he : PE X e ty) (hf : PE X f tx) (m : M2 X o "get" apos e f cpos) : PE X (.Call (.Attribute o "get" apos) [e, f] [] cpos) (tUGet2 X.prog X.w X.K td ty tx) := ⟨fun pins s σ H Q I h => by
  refine wpAny_Call_method m.base m.few m.line PySem.F.plainAttrs_dict PySem.F.slot_dict_get PySem.F.type_dict_get (thn (ho.run pins s σ H _ I h) fun uo sa ⟨x, Ha, Ia, rx, a, ex, d, qa⟩ => ?_)
  subst ex
  cases rx
  obtain ⟨t1, t2⟩ := u_type Ia d
  refine ⟨t1, t2, ?_⟩
  rw [m.trees]
  refine Calls.callWith_builtin rfl (Calls.evalArgs_plain (Calls.spliced_cons (thn (he.run pins sa σ Ha _ Ia qa) fun ui sb ⟨y, Hb, Ib, ry, qb⟩ => Calls.spliced_cons (thn (hf.run pins sb σ Hb _ Ib qb) fun uf sc ⟨z, Hc, Ic, rz, ov, g, qc⟩ => Calls.spliced_nil ?_))))
  exact u_get2 hu Ic g ry rz fun w' sd Id rw' => ⟨_, Hc, Id, rw', qc⟩⟩
theorem pe_upop2 (hu : X.A.units + 9 < cLine) (ho : PE X o td) (he : PE X e ty) (hf : PE X f tx) (m : M2 X o "pop" apos e f cpos) : PE X (.Call (.Attribute o "pop" apos) [e, f] [] cpos) (tUPop2 X.prog X.w X.K td ty tx) := ⟨fun pins s σ H Q I h => by
  refine wpAny_Call_method m.base m.few m.line PySem.F.plainAttrs_dict PySem.F.slot_dict_pop PySem.F.type_dict_pop (thn (ho.run pins s σ H _ I h) fun uo sa ⟨x, Ha, Ia, rx, a, ex, d, qa⟩ => ?_)
  subst ex
  cases rx
  obtain ⟨t1, t2⟩ := u_type Ia d
  refine ⟨t1, t2, ?_⟩
  rw [m.trees]
  refine Calls.callWith_builtin rfl (Calls.evalArgs_plain (Calls.spliced_cons (thn (he.run pins sa σ Ha _ Ia qa) fun ui sb ⟨y, Hb, Ib, ry, qb⟩ => Calls.spliced_cons (thn (hf.run pins sb σ Hb _ Ib qb) fun uf sc ⟨z, Hc, Ic, rz, qc⟩ => Calls.spliced_nil ?_))))
  rcases qc with ⟨kvs, k, ea, ey, q1, q2⟩ | ⟨kvs, k, b, ea, ks, ky, ey, dp, q1, q2⟩
  · subst ey
    cases l : valV kvs k with
    | some v => exact d_pop Ic ea ry l (.inr ⟨uf, rfl⟩) fun w' sd Id rw' => ⟨v, _, Id, rw', q1 v l⟩
    | none => exact d_popD Ic ea ry l fun sd Id => ⟨z, Hc, Id, rz, q2 l⟩
  · subst ey
    cases ry
    exact n_pop2 hu Ic ea ks ky dp rz (fun v w' sd l Id rw' => ⟨v, _, Id, rw', q1 v l⟩) fun sd l Id => ⟨z, Hc, Id, rz, q2 l⟩⟩
end

end

section
open PySem PySem.Spec PyProof.Rows L2 Evl
/-- the pairs of a dict, in order -/
def PsOf (P : Program) (w : World) (d : Addr) (u : HO) (ps : List (V × V)) : Prop :=
  (∃ kvs, u = .dK kvs ∧ ps = kvs.map fun x => (kV x.1, x.2)) ∨ ∃ kvs : List Nkv, u = DnO P w d kvs ∧ ps = kvs.map fun x => (V.ref x.2.1, x.2.2)
section
variable {X : Cx} {pins : List (Addr × Obj)} {σ : L2.St} {H : Hp} {s : Shared} {d : Addr} {o : Obj} {u : HO} {ps : List (V × V)}
theorem raw_at (x : ObjOk X.prog X.w H s.heap d u) (k : PsOf X.prog X.w d u ps) : (d == sysModules) = false ∧ ∃ ob es ep, s.heap.get? d = some ob ∧ ob.ExactDict ∧ ob.data = .dict es ep ∧ Vals (ps.map (·.1)) (es.toList.map (·.key)) ∧ Vals (ps.map (·.2)) (es.toList.map (·.val)) := by
  rcases k with ⟨kvs, rfl, rfl⟩ | ⟨kvs, rfl, rfl⟩
  · obtain ⟨_, m, vs, rel, ob, es, ep, h1, h2, h3, _, h5, _⟩ := x
    obtain ⟨a1, a2⟩ := kv_keys rel h5
    exact ⟨m, ob, es, ep, h1, h2, h3, by simpa [Function.comp_def] using a1, by simpa [Function.comp_def] using a2⟩
  · obtain ⟨⟨_, m, xs, rel, ob, es, ep, h1, h2, h3, h4, _⟩, _⟩ := x
    obtain ⟨a1, a2⟩ := nr_keys (P := X.prog) (w := X.w) rel
    exact ⟨m, ob, es, ep, h1, h2, h3, by rw [h4]; simpa [Function.comp_def] using a1, by rw [h4]; simpa [Function.comp_def] using a2⟩
/-- a locked one -/
theorem raw_lk (I : Inv X pins σ H s) (h : H d = some (.frz o u)) (k : PsOf X.prog X.w d u ps) : (d == sysModules) = false ∧ s.heap.get? d = some o ∧ o.ExactDict ∧ ∃ es ep, o.data = .dict es ep ∧ es.size = ps.length ∧ Vals (ps.map (·.1)) (es.toList.map (·.key)) ∧ Vals (ps.map (·.2)) (es.toList.map (·.val)) := by
  obtain ⟨g, x⟩ := I.hok d _ h
  obtain ⟨m, ob, es, ep, h1, h2, h3, h4, h5⟩ := raw_at x k
  rw [g] at h1
  cases h1
  refine ⟨m, g, h2, es, ep, h3, ?_, h4, h5⟩
  have := h4.length
  simpa using this.symm
end
def ItkR (P : Program) (w : World) (d : Addr) (o : Obj) (u : HO) (ps : List (V × V)) : It :=
  ⟨fun i H => H d = some (.frz o u) ∧ PsOf P w d u ps ∧ i < ps.length, fun i H x H' => H' = H ∧ ∃ v, ps[i]? = some (x, v), fun i H => H d = some (.frz o u) ∧ PsOf P w d u ps ∧ ps.length ≤ i⟩
def ItiR (P : Program) (w : World) (d : Addr) (o : Obj) (u : HO) (ps : List (V × V)) : It :=
  ⟨fun i H => H d = some (.frz o u) ∧ PsOf P w d u ps ∧ i < ps.length, fun i H x H' => ∃ T k v, ps[i]? = some (k, v) ∧ x = .ref T ∧ H T = none ∧ H' = upd H T (.tup [k, v]), fun i H => H d = some (.frz o u) ∧ PsOf P w d u ps ∧ ps.length ≤ i⟩
theorem vals_at {xs : List V} {us : List Value} (r : Vals xs us) {i : Nat} {x : V} (h : xs[i]? = some x) : ∃ u, us[i]? = some u ∧ RelV x u := r.get h
section
variable {P : Program} {w : World} {K : PySem.W.Frag} {tg : Expr} {d : Addr} {o : Obj} {u : HO} {ps : List (V × V)} {n ep : Nat}
theorem turn_keysR (it : Addr) : Turn P w K tg (ItkR P w d o u ps) [it] it (fun i h => ∃ es ep, o.data = .dict es ep ∧ h.IsKeyIter it d i ps.length ep) where
  mem := by simp
  obj := fun i h st b hb => by
    obtain rfl : b = it := by simpa using hb
    obtain ⟨_, _, _, oi, e, c, dd⟩ := st
    exact ⟨oi, e, fun v z => by rw [dd] at z; cases z⟩
  keep := fun i h h' ⟨es, ep, z, st⟩ k => ⟨es, ep, z, st.at fun oi e => k it (by simp) oi e⟩
  item := by
    intro X hP hw hK hc i pins s σ H E I hf st hg
    subst hP hw hK
    obtain ⟨hd, hk, hi⟩ := hg
    obtain ⟨es, ep, hdt, st⟩ := st
    obtain ⟨f0, f1, f2, f3, f4, f5⟩ := hf it (by simp)
    obtain ⟨hs, hgd, hx, es', ep', hdt', hsz, hv, _⟩ := raw_lk I hd hk
    obtain ⟨rfl, rfl⟩ := dict_ep hdt' hdt
    obtain ⟨⟨k, v⟩, hkv⟩ : ∃ p, ps[i]? = some p := ⟨ps[i], List.getElem?_eq_getElem hi⟩
    obtain ⟨key, hkey, rk⟩ := vals_at hv (i := i) (x := k) (by rw [List.getElem?_map, hkv]; rfl)
    rw [List.getElem?_map, Array.getElem?_toList] at hkey
    obtain ⟨en, hen, rfl⟩ := Option.map_eq_some_iff.mp hkey
    refine next_key_item st hgd hdt hsz hen fun h' st' sb => ?_
    have J : Inv X pins σ H { s with heap := h' } := I.turned (t' := s.toks) (fun b ob hb e => (sb.2 b hb).trans e) f0 f1 f3 f4 f5
    obtain ⟨oi, e, c, dd⟩ := id st'
    exact ⟨_, rfl, go_of (s := { s with heap := h' }) e c dd (by decide) ⟨k, H, J, rk, ⟨rfl, v, hkv⟩, ⟨es, ep, hdt, st'⟩, fun b hb => (hf b hb).1⟩⟩
  done := by
    intro X hP hw hK hc i pins s σ H E I hf st hg
    subst hP hw hK
    obtain ⟨hd, hk, hi⟩ := hg
    obtain ⟨es, ep, hdt, st⟩ := st
    obtain ⟨f0, f1, f2, f3, f4, f5⟩ := hf it (by simp)
    obtain ⟨hs, hgd, hx, es', ep', hdt', hsz, _⟩ := raw_lk I hd hk
    obtain ⟨rfl, rfl⟩ := dict_ep hdt' hdt
    exact next_key_end (I.ok.hd hc) st hgd hdt hsz hi fun h' eb => ⟨rfl, I.turned (t' := s.toks) (fun b ob hb e => eb b ob hb e) f0 f1 f3 f4 f5⟩
  self := fun A i s Q E ⟨_, _, _, st⟩ h => wpAny_pyIter_keyiter st h
theorem turn_itemsR {elts : List Expr} {kk : Nat} {tpos : Pos} (it : Addr) : Turn P w K (.Tuple elts kk tpos) (ItiR P w d o u ps) [it] it (fun i h => ∃ es ep, o.data = .dict es ep ∧ ∃ ok ov, IsItemIter h it d i ps.length ep ok ov) where
  mem := by simp
  obj := fun i h st b hb => by
    obtain rfl : b = it := by simpa using hb
    obtain ⟨_, _, _, _, _, e⟩ := st
    exact ⟨_, e, fun v z => nomatch z⟩
  keep := fun i h h' ⟨es, ep, z, ok, ov, e⟩ k => ⟨es, ep, z, ok, ov, k it (by simp) _ e⟩
  item := by
    intro X hP hw hK hc i pins s σ H E I hf st hg
    subst hP hw hK
    obtain ⟨hd, hk, hi⟩ := hg
    obtain ⟨es, ep, hdt, ok, ov, he⟩ := st
    obtain ⟨hs, hgd, hx, es', ep', hdt', hsz, hv, hv2⟩ := raw_lk I hd hk
    obtain ⟨rfl, rfl⟩ := dict_ep hdt' hdt
    obtain ⟨⟨k, v⟩, hkv⟩ : ∃ p, ps[i]? = some p := ⟨ps[i], List.getElem?_eq_getElem hi⟩
    have hies : i < es.size := by omega
    obtain ⟨key, hkey, rk⟩ := vals_at hv (i := i) (x := k) (by rw [List.getElem?_map, hkv]; rfl)
    obtain ⟨val, hval, rv⟩ := vals_at hv2 (i := i) (x := v) (by rw [List.getElem?_map, hkv]; rfl)
    rw [List.getElem?_map, Array.getElem?_toList, Array.getElem?_eq_getElem hies] at hkey hval
    cases hkey
    cases hval
    rw [← hsz] at he
    have hlt : it < s.heap.objs.size := Heap.lt_size he
    refine wpAny_pyNext_items_item_raw he ⟨o, hgd, hx, hdt⟩ hies fun h' ho hT hz hk' => ?_
    refine ⟨_, rfl, wpAny_letOwnedTupleGo_items (s := { s with heap := h' }) ho fun h'' he' sb => ?_⟩
    have hT2 : h''.get? s.heap.objs.size = some { cls := .type "tuple", data := .seq #[es[i].key, es[i].val] } := (sb.2 _ (Nat.ne_of_gt hlt)).trans hT
    have new : ObjOk X.prog X.w (upd H s.heap.objs.size (.tup [k, v])) h'' s.heap.objs.size (.tup [k, v]) := ⟨by show 2 ≤ sizeLine; decide, [es[i].key, es[i].val], .cons rk (.cons rv .nil), ⟨_, hT2, rfl, _, rfl⟩⟩
    have J : Inv X pins σ (upd H s.heap.objs.size (.tup [k, v])) { s with heap := h'' } := I.turnedNew (t' := s.toks) (ch := [it]) (fun b ob hb e => (sb.2 b (by simpa using hb)).trans (hk' b ob (by simpa using hb) e)) hf (Nat.le_refl _) new
    refine ⟨.ref s.heap.objs.size, _, J, rfl, ⟨_, k, v, hkv, rfl, I.hok.fresh (Nat.le_refl _), rfl⟩, ⟨es, ep, hdt, es[i].key, es[i].val, by rw [← hsz]; exact he'⟩, fun b hb => ?_⟩
    obtain rfl : b = it := by simpa using hb
    rw [upd_ne (Nat.ne_of_lt hlt)]
    exact (hf _ (by simp)).1
  done := by
    intro X hP hw hK hc i pins s σ H E I hf st hg
    subst hP hw hK
    obtain ⟨hd, hk, hi⟩ := hg
    obtain ⟨es, ep, hdt, ok, ov, he⟩ := st
    obtain ⟨f0, f1, f2, f3, f4, f5⟩ := hf it (by simp)
    obtain ⟨hs, hgd, hx, es', ep', hdt', hsz, _⟩ := raw_lk I hd hk
    obtain ⟨rfl, rfl⟩ := dict_ep hdt' hdt
    rw [← hsz] at he
    have hge : ps.length ≤ i := hi
    exact wpAny_pyNext_items_end_raw (I.ok.hd hc) he ⟨o, hgd, hx, hdt⟩ (by omega) fun h' eb => ⟨rfl, I.turned (t' := s.toks) (fun b ob hb e => eb b ob hb e) f0 f1 f3 f4 f5⟩
  self := fun A i s Q E ⟨_, _, _, ok, ov, e⟩ h => PySem.W.kcp_self e h
end
/-! ### for k in d; for k, v in d.items() -/
section
variable (P : Program) (w : World)
def iKeysR (td : TE) : TI := fun σ H R => td σ H fun x H1 => ∃ d o u ps, x = .ref d ∧ H1 d = some (.frz o u) ∧ PsOf P w d u ps ∧ R (ItkR P w d o u ps) H1
def iItemsR (td : TE) : TI := fun σ H R => td σ H fun x H1 => ∃ d o u ps, x = .ref d ∧ H1 d = some (.frz o u) ∧ PsOf P w d u ps ∧ R (ItiR P w d o u ps) H1
end
section
variable {X : Cx} {tg e : Expr} {td : TE} {apos cpos : Pos}
theorem pi_keysR (he : PE X e td) : PI X tg e (iKeysR X.prog X.w td) := ⟨fun pins s σ H R I h => by
  refine thn (he.run pins s σ H _ I h) fun ux sa ⟨x, Ha, Ia, rx, d, o, u, ps, ex, hd, hk, q⟩ => ?_
  subst ex
  cases rx
  obtain ⟨hs, hgd, hx, es, ep, hdt, hsz, _⟩ := raw_lk Ia hd hk
  refine iter_keys hs hgd hx hdt (pi_one (tk := sa.toks) Ia _ (turn_keysR _) ⟨es, ep, hdt, _, Heap.get?_push_size _ rfl, rfl, ?_⟩ q)
  rw [hsz] <;> rfl⟩
end

end

section
open PySem PySem.Spec PyProof.Rows L2 Evl
abbrev Vd := V × PyData
def keyB (b : Vd) : PyData := b.2
/-- sorted by what is read -/
def srt (bs : List Vd) : List Vd := bs.mergeSort (PySem.W.dataLe false keyB)
theorem srt_len (bs : List Vd) : (srt bs).length = bs.length := List.length_mergeSort _
theorem each_of {R : Value → Vd → Prop} : ∀ {us : List Value} {bs : List Vd}, Vals (bs.map (·.1)) us → (∀ b ∈ bs, ∀ u, RelV b.1 u → R u b) → PySem.W.EachIs R us bs
  | _, [], h, _ => by cases h; exact .nil
  | _, b :: bs, h, q => by
    cases h with
    | cons a t => exact .cons (q b (List.mem_cons_self ..) _ a) (each_of t fun c hc => q c (List.mem_cons_of_mem _ hc))
theorem each_to : ∀ {us : List Value} {bs : List Vd}, PySem.W.EachIs (fun u (b : Vd) => RelV b.1 u) us bs → Vals (bs.map (·.1)) us
  | _, _, .nil => .nil
  | _, _, .cons a t => .cons a (each_to t)
def rSortD (K : PySem.W.Frag) : List V → Hp → VK → Prop := fun xs H Q => ∃ p bs, xs = [.ref p] ∧ SqL K H p (bs.map (·.1)) ∧ (∀ b ∈ bs, Dp K H b.1 b.2) ∧ PySem.W.AllAlike (bs.map keyB) ∧ PySem.W.Sortable (bs.map keyB) ∧ (∀ b ∈ bs, b.2.depth ≤ 64) ∧
  ∀ l, H l = none → Q (.ref l) (upd H l (.lst ((srt bs).map (·.1))))
theorem cr_sortD {X : Cx} (hu : X.A.units + 70 < cLine) : CallR X (.builtin "sorted") (rSortD X.K) := by
  intro pins s σ H xs us Q I r h
  obtain ⟨p, bs, rfl, hp, hd, hal, hso, hdep, q⟩ := h
  obtain rfl := Vals.ref1 r
  obtain ⟨its, rv, pl, hz⟩ := I.list hp
  have hlen : its.length = bs.length := by have := rv.length; rw [List.length_map] at this; exact this.symm
  have hz2 : bs.length ≤ sizeLine := by rw [List.length_map] at hz; exact hz
  obtain ⟨o, ho, hc, n, hdt⟩ := pl.isList
  refine PySem.W.sorted_data (R := fun u b => RelV b.1 u) (enc := keyB) (vs := its) (bs := bs) ⟨o, ho, hc, n, hdt⟩ (each_of rv fun _ _ _ z => z) (each_of rv fun b hb u ru => Dp.reads I b.2 b.1 u (hd b hb) ru) hal hso (by omega) (fun b hb => by have := hdep b hb; show X.A.units + 2 + b.2.depth < cLine; omega) fun out hl he => ?_
  have rout : Vals ((srt bs).map (·.1)) out := each_to he
  have hold : ∀ b ob, s.heap.get? b = some ob → (sortedAll s.heap its out.toArray).get? b = some ob := fun b ob e => by
    have e1 : (PySem.W.copyHeap s.heap its).get? b = some ob := PySem.W.copyHeap_old e
    exact (sortedHeap_old (Nat.ne_of_lt (Nat.lt_succ_of_lt (Heap.lt_size e))) (Heap.lt_size e1)).trans e1
  obtain ⟨e2, hat⟩ := sortedHeap_at (out := out.toArray) (PySem.W.copyHeap_at s.heap its)
  exact ⟨.ref (s.heap.objs.size + 1), _, I.laid (t' := s.toks) (a := s.heap.objs.size + 1) (o := .lst ((srt bs).map (·.1))) hold (Nat.le_succ _) ⟨by rw [List.length_map, srt_len]; omega, out, e2, rout, hat⟩, rfl, q _ (I.hok.fresh (Nat.le_succ _))⟩
/-! ### what is new in a heap -/
def Nw (F H H2 : Hp) : Hp := fun a => match F a with
  | some o => some o
  | none => match H a with
    | none => H2 a
    | some _ => none
section
variable {P : Program} {w : World} {K : PySem.W.Frag} {B F H H2 : Hp} {M : Objs} {L : Facts} {v : V} {d : PyData} {a : Addr} {o : HO}
theorem nw_ex : Ex F (Nw F H H2) := fun a u e => by unfold Nw; rw [e]
theorem nw_new (hf : F a = none) (hh : H a = none) (h : H2 a = some o) : Nw F H H2 a = some o := by unfold Nw; rw [hf, hh]; exact h
theorem Rep.grow (R : Rep P w K B H M L) (e : Ex H H2) (h : ∀ F, RepF P w K B F H M L → Dp K (Nw F H H2) v d) : Rep P w K B H2 M ((v, d) :: L) := by
  obtain ⟨F, r⟩ := R
  refine ⟨Nw F H H2, r.nd, r.bf.trans nw_ex, fun b u q => ?_, fun b ob hb => ?_, fun x y hx => ?_⟩
  · unfold Nw at q
    cases f : F b with
    | some z => rw [f] at q; cases q; exact e _ _ (r.fh _ _ f)
    | none =>
      rw [f] at q
      cases hh : H b with
      | none => rw [hh] at q; exact q
      | some z => rw [hh] at q; cases q
  · obtain ⟨h1, h2⟩ := r.ob b ob hb
    obtain ⟨z, hz⟩ := obAt_some h2
    exact ⟨by unfold Nw; rw [h1, hz], obAt_ex nw_ex (fun u q => e _ _ q) h2⟩
  · rcases List.mem_cons.mp hx with e1 | hx
    · cases e1; exact h F r
    · exact dp_ex nw_ex (r.dt _ _ hx)
end
/-! ### sorted(d.items()) -/
section
variable {X : Cx} {pins : List (Addr × Obj)} {σ : L2.St} {H F : Hp} {s : Shared}
mutual
theorem dp_readsLt (I : Inv X pins σ H s) : ∀ (d : PyData) (v : V) (u : Value), Dp X.K H v d → RelV v u → ∃ as, Reads s.heap u d as ∧ ∀ a ∈ as, a < s.heap.objs.size
  | .none, _, _, h, r => by cases h; cases r; exact ⟨_, Reads.none, by simp⟩
  | .bool b, _, _, h, r => by cases h; cases r; exact ⟨_, Reads.bool b, by simp⟩
  | .int i, _, _, h, r => by cases h; obtain ⟨t, rfl⟩ := r; exact ⟨_, Reads.int i t, by simp⟩
  | .str x, _, _, h, r => by cases h; obtain ⟨t, rfl⟩ := r; exact ⟨_, Reads.str x t, by simp⟩
  | .list ds, _, _, h, r => by
    cases h with
    | lst hs ha =>
      cases r
      obtain ⟨its, rv, ⟨o, n, ho, hc, _, hd⟩, _⟩ := I.list hs
      obtain ⟨as, hr, hn⟩ := dp_readsLtAll I ds _ its ha rv
      exact ⟨_, Reads.list ho hc hd hr, by
        intro a ha
        rcases List.mem_cons.mp ha with rfl | ha
        · exact Heap.lt_size ho
        · exact hn a ha⟩
  | .tuple ds, _, _, h, r => by
    cases h with
    | tup hs ha =>
      cases r
      obtain ⟨its, rv, ⟨o, ho, hc, n, hd⟩, _⟩ := I.tuple hs
      obtain ⟨as, hr, hn⟩ := dp_readsLtAll I ds _ its ha rv
      exact ⟨_, Reads.tuple ho hc hd hr, hn⟩
  | .dict ds, _, _, h, _ => by cases h
theorem dp_readsLtAll (I : Inv X pins σ H s) : ∀ (ds : List PyData) (vs : List V) (us : List Value), DpAll X.K H vs ds → Vals vs us → ∃ as, ReadsAll s.heap us ds as ∧ ∀ a ∈ as, a < s.heap.objs.size
  | [], _, _, h, r => by cases h; cases r; exact ⟨_, ReadsAll.nil, by simp⟩
  | d :: ds, _, _, h, r => by
    cases h with
    | cons h1 h2 =>
      cases r with
      | cons r1 r2 =>
        obtain ⟨as, q1, n1⟩ := dp_readsLt I d _ _ h1 r1
        obtain ⟨bs, q2, n2⟩ := dp_readsLtAll I ds _ _ h2 r2
        exact ⟨_, ReadsAll.cons q1 q2, by
          intro a ha
          rcases List.mem_append.mp ha with ha | ha
          · exact n1 a ha
          · exact n2 a ha⟩
end
end
/-- the view of any dict -/
def rItemsU (P : Program) (w : World) : V → List V → Hp → VK → Prop := fun x xs H Q => ∃ a, x = .ref a ∧ xs = [] ∧ UDict P w H a ∧ ∀ p, H p = none → Q (.ref p) (upd H p (DX.itemsO p a))
theorem udict_raw {X : Cx} {pins : List (Addr × Obj)} {σ : L2.St} {H : Hp} {s : Shared} {a : Addr} (I : Inv X pins σ H s) (d : UDict X.prog X.w H a) : ∃ ps u, Rd H a u ∧ PsOf X.prog X.w a u ps := by
  rcases d with ⟨kvs, e⟩ | ⟨kvs, e⟩
  · exact ⟨_, _, e, .inl ⟨kvs, rfl, rfl⟩⟩
  · exact ⟨_, _, e, .inr ⟨kvs, rfl, rfl⟩⟩
theorem mt_itemsU {X : Cx} : MtR X "dict.items" (rItemsU X.prog X.w) := by
  intro pins s σ H x xs v us Q I rx rxs h
  obtain ⟨a, rfl, rfl, ha, q⟩ := h
  cases rx
  cases rxs
  obtain ⟨ps, u, hu, hk⟩ := udict_raw I ha
  obtain ⟨m, ob, es, ep, h1, h2, h3, _⟩ := raw_at (Rd.ok hu I.hok) hk
  refine DT.callItems (es := es) (ep := ep) m ⟨ob, h1, h2, h3⟩ ?_
  have hf : H s.heap.objs.size = none := I.hok.fresh (Nat.le_refl _)
  exact ⟨.ref s.heap.objs.size, _, I.laid (t' := s.toks) (fun b u e => Heap.get?_push_of_some _ e) (Nat.le_refl _) (DX.itemsO_ok (Heap.get?_push_size _ rfl)), rfl, q _ hf⟩
/-- a pair as data -/
def prD2 (b : Vd × Vd) : PyData := .tuple [b.1.2, b.2.2]
def srtP (bs : List (Vd × Vd)) : List (Vd × Vd) := bs.mergeSort (PySem.W.dataLe false prD2)
def rSortItD (P : Program) (w : World) (K : PySem.W.Frag) : List V → Hp → VK → Prop := fun xs H Q => ∃ (p a : Addr) (u : HO) (ps : List (Vd × Vd)) (F : Hp), xs = [.ref p] ∧ H p = some (DX.itemsO p a) ∧ H a = some u ∧ PsOf P w a u (ps.map fun b => (b.1.1, b.2.1)) ∧
  Ex F H ∧ (∀ b ∈ ps, Dp K F b.1.1 b.1.2 ∧ Dp K F b.2.1 b.2.2 ∧ (prD2 b).depth ≤ 64) ∧ PySem.W.AllAlike (ps.map prD2) ∧ ps.length ≤ 100000 ∧
  ∀ l H2, Ex H H2 → H l = none → Dp K (Nw F H H2) (.ref l) (.list ((srtP ps).map prD2)) → Q (.ref l) H2
theorem each_zip {as : List Addr} {ps : List (Vd × Vd)} (h : as.length = ps.length) : PySem.W.EachIs (fun (u : Value) (b : Addr × Vd × Vd) => u = .ref b.1) (as.map Value.ref) (as.zip ps) := by
  induction as generalizing ps with
  | nil => cases ps with
    | nil => exact .nil
    | cons _ _ => exact nomatch h
  | cons a as ih => cases ps with
    | nil => exact nomatch h
    | cons p ps => exact .cons rfl (ih (Nat.succ.inj h))
theorem each_mem2 {R : Value → Addr × Vd × Vd → Prop} : ∀ {us : List Value} {bs : List (Addr × Vd × Vd)}, PySem.W.EachIs (fun (u : Value) (b : Addr × Vd × Vd) => u = .ref b.1) us bs → (∀ b ∈ bs, R (.ref b.1) b) → PySem.W.EachIs R us bs
  | _, _, .nil, _ => .nil
  | _, _, .cons a t, q => .cons (by rw [a]; exact q _ (List.mem_cons_self ..)) (each_mem2 t fun c hc => q c (List.mem_cons_of_mem _ hc))
theorem each_vals {us : List Value} {bs : List (Addr × Vd × Vd)} (h : PySem.W.EachIs (fun (u : Value) (b : Addr × Vd × Vd) => u = .ref b.1) us bs) : Vals (bs.map fun b => V.ref b.1) us := by
  induction h with
  | nil => exact .nil
  | cons a _ ih => exact .cons (show RelV (V.ref _) _ by rw [a]; rfl) ih
theorem cr_sortItD {X : Cx} (hc : X.calm = true) (hu : X.A.units + 70 < cLine) : CallR X (.builtin "sorted") (rSortItD X.prog X.w X.K) := by
  intro pins s σ H xs us Q I r h
  obtain ⟨p, a, u, ps, F, rfl, hp, ha, hk, eF, hd, hal, hz, q⟩ := h
  obtain rfl := Vals.ref1 r
  have view : s.heap.IsItemsView p a := (show ObjOk X.prog X.w H s.heap p (DX.itemsO p a) from I.hok p _ hp).1
  obtain ⟨m, ob, es, ep, h1, h2, h3, hv1, hv2⟩ := raw_at (I.hok _ _ ha) hk
  have hes : es.size = ps.length := by have := hv1.length; simpa using this.symm
  refine DT.sortedI (es := es) (ep := ep) (I.ok.hd hc) view ⟨ob, h1, h2, h3⟩ (by rw [sizeLine_eq]; omega) fun h' tk as hk' hlt hl hG => ?_
  have lak : as.length = ps.length := by omega
  have nd : as.Nodup := List.Pairwise.imp (fun h => Nat.ne_of_lt h) hG.rise
  generalize hh2 : h'.push { cls := .type "list", data := .seq (as.map Value.ref).toArray } = h2
  have kb : ∀ b o, h'.get? b = some o → h2.get? b = some o := fun b o e => by rw [← hh2]; exact Heap.get?_push_of_some _ e
  have hob : h2.get? h'.objs.size = some (seqObj "list" (as.map Value.ref).toArray 0) := by rw [← hh2]; exact Heap.get?_push_size _ rfl
  -- each pair
  have pr : ∀ (j : Nat) (b : Addr), as[j]? = some b → ∃ (e : Vd × Vd) (k v : Value), ps[j]? = some e ∧ RelV e.1.1 k ∧ RelV e.2.1 v ∧ h'.get? b = some { cls := .type "tuple", data := .seq #[k, v] } := by
    intro j b hj
    obtain ⟨en, hen, hg⟩ := hG.pairs j b hj
    have hjl : j < ps.length := by have := (List.getElem?_eq_some_iff.mp hj).1; omega
    have hpj : ps[j]? = some ps[j] := List.getElem?_eq_getElem hjl
    obtain ⟨k, hk1, rk⟩ := vals_at hv1 (i := j) (x := ps[j].1.1) (by rw [List.getElem?_map, List.getElem?_map, hpj]; rfl)
    obtain ⟨v, hv3, rv⟩ := vals_at hv2 (i := j) (x := ps[j].2.1) (by rw [List.getElem?_map, List.getElem?_map, hpj]; rfl)
    rw [List.getElem?_map, Array.getElem?_toList, hen] at hk1 hv3
    cases hk1
    cases hv3
    exact ⟨_, _, _, hpj, rk, rv, hg⟩
  have zat : ∀ b ∈ as.zip ps, ∃ j : Nat, as[j]? = some b.1 ∧ ps[j]? = some b.2 := fun b hb => by
    obtain ⟨j, hj⟩ := List.mem_iff_getElem?.mp hb
    exact ⟨j, List.getElem?_zip_eq_some.mp hj⟩
  have hsz0 : s.heap.objs.size < h'.objs.size := hlt
  have mz : (as.zip ps).map (·.2) = ps := List.map_snd_zip (by omega)
  have mz2 : (as.zip ps).map (fun b => prD2 b.2) = ps.map prD2 := by
    show (as.zip ps).map (prD2 ∘ fun b => b.2) = _
    rw [← List.map_map, mz]
  refine PySem.W.list_sort_data (a := h'.objs.size) (n := 0) (vs := as.map Value.ref) (bs := as.zip ps) (enc := fun b => prD2 b.2) (R := fun (u : Value) (b : Addr × Vd × Vd) => u = .ref b.1) hob (each_zip lak) (each_mem2 (each_zip lak) fun b hb => ?_) (by rw [mz2]; exact hal) (by
    rw [mz2]
    refine .inl fun d hd => ?_
    obtain ⟨e, _, rfl⟩ := List.mem_map.mp hd
    exact ⟨_, _, rfl⟩) (by rw [List.length_zip, sizeLine_eq]; omega) (fun b hb => ?_) fun out hlo he => ?_
  · obtain ⟨j, hj, hpj⟩ := zat b hb
    obtain ⟨e, k, v, he, rk, rv, hg⟩ := pr j b.1 hj
    obtain rfl : e = b.2 := Option.some.inj (he.symm.trans hpj)
    obtain ⟨d1, d2, _⟩ := hd b.2 (List.mem_of_getElem? hpj)
    obtain ⟨a1, r1, n1⟩ := dp_readsLt I b.2.1.2 b.2.1.1 k (dp_ex eF d1) rk
    obtain ⟨a2, r2, n2⟩ := dp_readsLt I b.2.2.2 b.2.2.1 v (dp_ex eF d2) rv
    have kp : ∀ c o, s.heap.get? c = some o → h2.get? c = some o := fun c o e => kb c o (hk' c o e)
    refine ⟨_, Reads.tuple (kb _ _ hg) rfl rfl (ReadsAll.cons (PyProof.Rows.Reads.keeps kp r1) (ReadsAll.cons (PyProof.Rows.Reads.keeps kp r2) ReadsAll.nil)), fun hm => ?_⟩
    simp only [List.append_nil, List.mem_append] at hm
    rcases hm with hm | hm
    · exact Nat.lt_irrefl _ (Nat.lt_trans hsz0 (n1 _ hm))
    · exact Nat.lt_irrefl _ (Nat.lt_trans hsz0 (n2 _ hm))
  · obtain ⟨j, _, hpj⟩ := zat b hb
    have h3 := (hd b.2 (List.mem_of_getElem? hpj)).2.2
    have h4 : X.A.units + 1 + 1 + (prD2 b.2).depth < cLine := by omega
    exact h4
  · show EP X pins σ Q (.ref h'.objs.size) { s with heap := sortedHeap h2 h'.objs.size (as.map Value.ref) out.toArray, toks := tk }
    generalize hzs : (as.zip ps).mergeSort (PySem.W.dataLe false fun b => prD2 b.2) = zs at he
    have hperm : zs.Perm (as.zip ps) := by rw [← hzs]; exact List.mergeSort_perm _ _
    have hsnd : zs.map (·.2) = srtP ps := by
      rw [← hzs]
      unfold srtP
      have e := List.map_mergeSort (r := PySem.W.dataLe false fun b : Addr × Vd × Vd => prD2 b.2) (s := PySem.W.dataLe false prD2) (f := fun b : Addr × Vd × Vd => b.2) (l := as.zip ps) (fun _ _ _ _ => rfl)
      rw [mz] at e
      exact e
    have idx : ∀ z ∈ zs, ∃ j : Nat, as[j]? = some z.1 ∧ ps[j]? = some z.2 := fun z hz => zat z (hperm.mem_iff.mp hz)
    have kF : ∀ b o, b ≠ h'.objs.size → h2.get? b = some o → (sortedHeap h2 h'.objs.size (as.map Value.ref) out.toArray).get? b = some o := fun b o hb e => (PyProof.Rows.sortedHeap_old hb (Heap.lt_size e)).trans e
    have ne1 : ∀ b o, h'.get? b = some o → b ≠ h'.objs.size := fun b o e => Nat.ne_of_lt (Heap.lt_size e)
    have kS : ∀ b o, s.heap.get? b = some o → (sortedHeap h2 h'.objs.size (as.map Value.ref) out.toArray).get? b = some o := fun b o e => kF b o (ne1 _ _ (hk' b o e)) (kb b o (hk' b o e))
    obtain ⟨eS, hat⟩ := PyProof.Rows.sortedHeap_at (vs := as.map Value.ref) (out := out.toArray) hob
    have I1 : Inv X pins σ H { s with heap := sortedHeap h2 h'.objs.size (as.map Value.ref) out.toArray, toks := tk } := I.kept (t' := tk) kS
    have hn0 : H h'.objs.size = none := I.hok.fresh (Nat.le_of_lt hlt)
    have hzl : zs.length = ps.length := by rw [hperm.length_eq, List.length_zip]; omega
    have I2 : Inv X pins σ (upd H h'.objs.size (.lst (zs.map fun z => V.ref z.1))) { s with heap := sortedHeap h2 h'.objs.size (as.map Value.ref) out.toArray, toks := tk } :=
      I1.take (h' := sortedHeap h2 h'.objs.size (as.map Value.ref) out.toArray) (t' := tk) (fun b ob _ e => e) (I.fpOk (Nat.le_of_lt hlt) hn0) ⟨by rw [List.length_map, sizeLine_eq]; omega, out, eS, each_vals he, hat⟩
    obtain ⟨H2, I3, g, qt⟩ := DX.takeT (P := fun b vs => ∃ (j : Nat) (e : Vd × Vd), as[j]? = some b ∧ ps[j]? = some e ∧ vs = [e.1.1, e.2.1]) I as _ I2 nd fun b hb => by
      obtain ⟨j, hj⟩ := List.mem_iff_getElem?.mp hb
      obtain ⟨e, k, v, he, rk, rv, hg⟩ := pr j b hj
      have hbl : s.heap.objs.size ≤ b := Nat.le_of_lt (hG.above b hb)
      refine ⟨hbl, ?_, [e.1.1, e.2.1], ⟨j, e, hj, he, rfl⟩, fun H3 => ⟨by show 2 ≤ sizeLine; decide, [k, v], .cons rk (.cons rv .nil), ⟨_, kF _ _ (ne1 _ _ hg) (kb _ _ hg), rfl, 0, rfl⟩⟩⟩
      rw [upd_ne (ne1 _ _ hg)]
      exact I.hok.fresh hbl
    have gr : Ex H H2 := fun b o e => g b o (by rw [upd_ne (ne_of_none e hn0)]; exact e)
    have fn : ∀ b, H b = none → F b = none := fun b e => by
      cases f : F b with
      | none => rfl
      | some z => rw [eF _ _ f] at e; cases e
    refine ⟨.ref h'.objs.size, H2, I3, rfl, q _ H2 gr hn0 ?_⟩
    rw [← hsnd, List.map_map]
    refine .lst (sq_of (nw_new (fn _ hn0) hn0 (g _ _ upd_same))) (dpAll_of ?_)
    have all : ∀ z ∈ zs, Dp X.K (Nw F H H2) (.ref z.1) (prD2 z.2) := fun z hz => by
      obtain ⟨i, i1, i2⟩ := idx z hz
      obtain ⟨vs, ⟨j, e, j1, j2, rfl⟩, hH⟩ := qt z.1 (List.mem_of_getElem? i1)
      have eij : i = j := (List.getElem?_inj (List.getElem?_eq_some_iff.mp i1).1 nd).mp (i1.trans j1.symm)
      subst eij
      obtain rfl : e = z.2 := Option.some.inj (j2.symm.trans i2)
      have hbn : H z.1 = none := I.hok.fresh (Nat.le_of_lt (hG.above _ (List.mem_of_getElem? i1)))
      obtain ⟨d1, d2, _⟩ := hd z.2 (List.mem_of_getElem? i2)
      exact .tup (st_of (nw_new (fn _ hbn) hbn hH)) (.cons (dp_ex nw_ex d1) (.cons (dp_ex nw_ex d2) .nil))
    clear he hperm hsnd idx hzl I2 qt hat g q hzs
    induction zs with
    | nil => exact .nil
    | cons z zs ih => exact .cons (all z (List.mem_cons_self ..)) (ih fun y hy => all y (List.mem_cons_of_mem _ hy))

end

section
open PySem PySem.Spec PyProof.Rows L2 Evl
/-- all keys are tuples -/
def TupKeys (h : Heap) (es : Array DictEntry) : Prop := ∀ e ∈ es.toList, ∃ b ks, e.key = .ref b ∧ NestedIs h (.tup ks) (.ref b) ∧ (NestedKey.tup ks).depth ≤ 8
section
variable {prog : Program} {w : World} {A : Around} {E : Value → Shared → Prop} {s : Shared} {d : Addr} {o : Obj} {es : Array DictEntry} {ep : Nat} {x : Str} {t : Tok} {hh : Int}
theorem tells_not {stored : List Value} {Q : Bool → Shared → Prop} (hst : ∀ v ∈ stored, ∃ b ks, v = .ref b ∧ NestedIs s.heap (.tup ks) (.ref b) ∧ (NestedKey.tup ks).depth ≤ 8) (h : Q false s) : wpAny (model prog w) A (tableMayTell (.str x t) stored) Q E s := by
  unfold tableMayTell
  split
  · exact wpAny_pure h
  · refine wpAny_bind ((quiet_key (prog := prog) (w := w) (.text x) (.str x t) 8 s (.text x t) (Nat.zero_le _)) A E _ ?_)
    simp only [Bool.not_true, Bool.false_eq_true, if_false]
    refine wpAny_bind ?_
    refine wpAny_forIn_list _ (fun rest r s' => s' = s ∧ r = (none, ()) ∧ ∀ v ∈ rest, ∃ b ks, v = .ref b ∧ NestedIs s.heap (.tup ks) (.ref b) ∧ (NestedKey.tup ks).depth ≤ 8) _ ?_ ?_ _ _ ⟨rfl, rfl, hst⟩
    · rintro y rest r s' ⟨rfl, rfl, hr⟩
      obtain ⟨b, ks, rfl, hb, hd⟩ := hr y List.mem_cons_self
      refine wpAny_bind ((quiet_key (prog := prog) (w := w) _ _ 8 _ hb hd) A E _ ?_)
      simp only [Bool.not_true, Bool.false_eq_true, if_false]
      exact wpAny_pure ⟨rfl, rfl, fun v hv => hr v (List.mem_cons_of_mem _ hv)⟩
    · rintro r s' ⟨rfl, rfl, _⟩
      exact wpAny_pure h
theorem find_not {Q : Option Nat → Shared → Prop} (hu : A.units + 9 < cLine) (ho : s.heap.get? d = some o) (hd : o.data = .dict es ep) (hk : TupKeys s.heap es) (h : Q none s) : wpAny (model prog w) A (dictFind d (.str x t) hh) Q E s := by
  have hst : ∀ v ∈ (placesWithHash es.size (fun i => es[i]?.map (·.hash)) hh).filterMap (fun i => es[i]?.map (·.key)), ∃ b ks, v = .ref b ∧ NestedIs s.heap (.tup ks) (.ref b) ∧ (NestedKey.tup ks).depth ≤ 8 := by
    intro v hv
    obtain ⟨i, _, hi⟩ := List.mem_filterMap.mp hv
    cases hei : es[i]? with
    | none => rw [hei] at hi; cases hi
    | some e =>
      rw [hei] at hi
      obtain rfl : e.key = v := by simpa using hi
      exact hk e (Array.mem_toList_iff.mpr (Array.mem_of_getElem? hei))
  unfold dictFind
  try with_reducible refine wpAny_holding ?_
  refine wpAny_bind (wpAny_dictEntries ho hd ?_)
  dsimp only
  by_cases hall : (es.all fun e => isExactStrKey e.key) = true
  · rw [if_pos hall]
    have he : es.findIdx? (fun e => e.key.isStr x) = none := by
      rw [Array.findIdx?_eq_none_iff]
      intro e he
      obtain ⟨b, ks, hb, _⟩ := hk e (Array.mem_toList_iff.mpr he)
      rw [hb]
      rfl
    unfold foundByValue
    rw [he]
    exact wpAny_bind (wpAny_pure (wpAny_pure h))
  · rw [if_neg hall]
    generalize hpl : placesWithHash es.size (fun i => es[i]?.map (·.hash)) hh = places at hst ⊢
    have step : ∀ i ∈ places, ∃ e b ks, es[i]? = some e ∧ e.key = .ref b ∧ NestedIs s.heap (.tup ks) (.ref b) := by
      intro i hi
      rw [← hpl] at hi
      unfold placesWithHash at hi
      have h2 : ((es[i]?.map (·.hash)) == some hh) = true := (List.mem_filter.mp hi).2
      cases hei : es[i]? with
      | none => rw [hei] at h2; simp at h2
      | some e =>
        obtain ⟨b, ks, h3, h4, _⟩ := hk e (Array.mem_toList_iff.mpr (Array.mem_of_getElem? hei))
        exact ⟨e, b, ks, rfl, h3, h4⟩
    have eqf : ∀ (b : Addr) (ks : List NestedKey) (R : Bool → Shared → Prop), NestedIs s.heap (.tup ks) (.ref b) → R false s → wpAny (model prog w) A (PySem.eqBool (.ref b) (.str x t)) R E s := fun b ks R hb hR => by
      have q := eqAt_key (.tup ks) (.text x) A s (.ref b) (.str x t) hb (.text x t) (by show A.units + min _ 0 < cLine; rw [Nat.min_zero]; omega)
      exact q prog w E R hR
    cases places with
    | nil =>
      rw [if_pos (by simp [carriedByValue])]
      unfold dictWalkPlain
      refine wpAny_bind (wpAny_forIn_list _ (fun rest r s' => rest = [] ∧ r = (none, ()) ∧ s' = s) _ ?_ ?_ _ _ ⟨rfl, rfl, rfl⟩)
      · rintro y rest r s' ⟨z, _⟩
        cases z
      · rintro r s' ⟨_, rfl, rfl⟩
        exact wpAny_pure h
    | cons i0 rest0 =>
      obtain ⟨e0, b0, ks0, h1, h2, h3⟩ := step i0 (List.mem_cons_self ..)
      rw [if_neg (by simp [h1, h2, carriedByValue])]
      by_cases hone : ((i0 :: rest0).filterMap (fun i => es[i]?.map (·.key)) == [Value.str x t]) = true <;>
      (first | rw [if_pos hone] | rw [if_neg hone]) <;> (first | refine wpAny_bind (wpAny_pure ?_) | refine wpAny_bind (tells_not hst ?_)) <;> (
        rw [if_neg (by simp)]
        refine wpAny_bind ?_
        refine wpAny_forIn_list _ (fun rest r s' => s' = s ∧ r = (none, none) ∧ ∀ i ∈ rest, ∃ e b ks, es[i]? = some e ∧ e.key = .ref b ∧ NestedIs s.heap (.tup ks) (.ref b)) _ ?_ ?_ _ _ ⟨rfl, rfl, step⟩
        · rintro y rest r s' ⟨rfl, rfl, hr⟩
          obtain ⟨e, b, ks, g1, g2, g3⟩ := hr y List.mem_cons_self
          rw [g1]
          dsimp only
          by_cases hh2 : (e.hash == hh) = true
          · rw [if_pos hh2]
            rw [g2]
            refine wpAny_bind (wpAny_dictEpoch ho hd (wpAny_bind (eqf b ks _ g3 (wpAny_bind (wpAny_dictEpoch ho hd ?_)))))
            show wpAny _ _ (if (ep != ep) = true then _ else _) _ E _
            rw [if_neg (by simp)]
            simp only [Bool.false_eq_true, if_false]
            refine wpAny_bind (wpAny_rule ?_)
            first | rw [if_neg (by simp)] | skip
            first
              | exact wpAny_pure ⟨rfl, rfl, fun i hi => hr i (List.mem_cons_of_mem _ hi)⟩
              | exact wpAny_bind (wpAny_pure (wpAny_pure ⟨rfl, rfl, fun i hi => hr i (List.mem_cons_of_mem _ hi)⟩))
          · rw [if_neg hh2]
            exact wpAny_pure ⟨rfl, rfl, fun i hi => hr i (List.mem_cons_of_mem _ hi)⟩
        · rintro r s' ⟨rfl, rfl, _⟩
          exact wpAny_pure h)
end
/-- a dict of which nothing more is known -/
def ZzO (a : Addr) : HO := .ext fun h => ∃ o es ep, h.get? a = some o ∧ o.ExactDict ∧ o.data = .dict es ep
theorem tup_keys {X : Cx} {pins : List (Addr × Obj)} {σ : L2.St} {H : Hp} {s : Shared} {a : Addr} {kvs : List Nkv} (I : Inv X pins σ H s) (e : H a = some (DnO X.prog X.w a kvs)) (ks : KsAt X.K H kvs) :
    kvs.length ≤ sizeLine ∧ (a == sysModules) = false ∧ ∃ o es ep, s.heap.get? a = some o ∧ o.ExactDict ∧ o.data = .dict es ep ∧ es.size = kvs.length ∧ TupKeys s.heap es := by
  obtain ⟨z, m, xs, rel, o, es, ep, h1, h2, h3, h4, h5, h6⟩ := dn_rd I (.inl e) ks
  refine ⟨z, m, o, es, ep, h1, h2, h3, ?_, fun en hen => ?_⟩
  · rw [size_of_entries h4, Paired.length rel]
  · rw [h4] at hen
    obtain ⟨x, hx, rfl⟩ := List.mem_map.mp hen
    obtain ⟨h7, h8⟩ := h5 x hx
    generalize hk : x.1 = k at h7 h8
    cases h7 with
    | tup g1 g2 g3 g4 => exact ⟨x.2.1, _, rfl, .tup g1 g2 g3 g4, h8⟩
theorem z_setItem {X : Cx} {pins : List (Addr × Obj)} {σ : L2.St} {H : Hp} {s : Shared} {a : Addr} {kvs : List Nkv} {x : Str} {t : Tok} {u : Value} {E : Value → Shared → Prop} {Q : Unit → Shared → Prop} (hu : X.A.units + 10 < cLine) (I : Inv X pins σ H s) (e : H a = some (DnO X.prog X.w a kvs)) (ks : KsAt X.K H kvs) (hl : kvs.length < sizeLine)
    (h : ∀ s', Inv X pins σ (upd H a (ZzO a)) s' → Q () s') : wpAny (model X.prog X.w) X.A (setItem (.ref a) (.str x t) u) Q E s := by
  obtain ⟨z, m, o, es, ep, h1, h2, h3, h4, h5⟩ := tup_keys I e ks
  have hT : s.TypeIs (.ref a) "dict" := ⟨o, h1, h2.1⟩
  unfold setItem
  try with_reducible refine wpAny_holding ?_
  refine wpAny_bind (wpAny_sequenceKey hT (by decide) ?_)
  refine wpAny_bind (wpAny_callSpecial?_slot (name := Str.ofString "__setitem__") hT PySem.slot_dict_setitem (wpAny_call_entry PySem.slot_dict_setitem hT PySem.entry_dict_setitem ?_ (PySem.args_dict_setitem _ _ _)))
  show wpAny _ _ (Builtin.Dict.notOrdered "__setitem__" ⟨[.ref a, .str x t, u], []⟩ >>= _) _ _ s
  refine wpAny_bind (wpAny_notOrdered_dict hT ?_)
  show wpAny _ _ (dictSet a (.str x t) u >>= _) _ _ s
  refine wpAny_bind ?_
  unfold dictSet
  try with_reducible refine wpAny_holding ?_
  refine wpAny_bind (wpAny_pyHash_str ?_)
  unfold dictSetHashed
  try with_reducible refine wpAny_holding ?_
  refine wpAny_bind (find_not (s := { s with toks := s.toks + 1 }) (by show X.A.units + 1 + 9 < cLine; omega) h1 h3 h5 ?_)
  refine wpAny_bind (wpAny_rule (wpAny_updateDictKeys (hz := by omega) (s := { s with toks := s.toks + 1 }) h1 h3 ?_))
  refine wpAny_pure ⟨.none, rfl, wpAny_pure (h _ ?_)⟩
  have hg := Heap.get?_update_self (h := s.heap) (Obj.mapDictKeys fun es => es.push ⟨hashStr X.w x, .str x t, u⟩) h1 (Obj.isFreed_of_dict (Obj.data_mapDictKeys h3 _))
  refine d_write (t' := s.toks + 1) (I.tok (s.toks + 1)) (by rw [e]; exact True.intro) (Heap.SameBut.update ..) ⟨_, hg⟩ ⟨⟨_, _, _, hg, h2.mapDictKeys _, Obj.data_mapDictKeys h3 _⟩, ⟨_, hg⟩, fun g1 g2 ⟨o, es, ep, q1, q2, q3⟩ k => ⟨o, es, ep, k o q1, q2, q3⟩⟩
/-- d["zz"] = v -/
def sZPut (P : Program) (w : World) (K : PySem.W.Frag) (td ty tv : TE) : TS := fun D σ H => tv σ H fun v H1 => td σ H1 fun x H2 => ty σ H2 fun y H3 => ∃ a z kvs, x = .ref a ∧ y = .str z ∧ H3 a = some (DnO P w a kvs) ∧ KsAt K H3 kvs ∧ kvs.length < sizeLine ∧ D.nx σ (upd H3 a (ZzO a))
theorem ps_zput {X : Cx} {o i value : Expr} {pos pos' : Pos} {td ty tv : TE} (hu : X.A.units + 10 < cLine) (ho : PE X o td) (hi : PE X i ty) (hv : PE X value tv) (hs : swapsWith value (some (.Subscript o i pos')) pos.line X.env = pure false) : PS X (.Assign [.Subscript o i pos'] value pos) (sZPut X.prog X.w X.K td ty tv) := ⟨fun pins s σ H D I h => by
  refine wpAny_Assign_Subscript (thn (hv.run pins s σ H _ I h) fun uv sa ⟨v, Ha, Ia, rv, qa⟩ => thn (ho.run pins sa σ Ha _ Ia qa) fun uo sb ⟨x, Hb, Ib, rx, qb⟩ => thn (hi.run pins sb σ Hb _ Ib qb) fun ui sc ⟨y, Hc, Ic, ry, a, z, kvs, ex, ey, ha, ks, hl, qc⟩ => ?_) hs
  subst ex ey
  cases rx
  obtain ⟨t, rfl⟩ := ry
  exact z_setItem hu Ic ha ks hl fun sd Id => ⟨σ, _, Id, qc⟩⟩

end

section
open PySem PySem.Spec PyProof.Rows L2 Evl
section
variable {κ α : Type} [DecidableEq κ]
def aget (l : List (κ × α)) (k : κ) : Option α := (l.find? fun x => decide (x.1 = k)).map (·.2)
def aput (l : List (κ × α)) (k : κ) (v : α) : List (κ × α) := if (aget l k).isSome then l.map (fun x => if x.1 = k then (x.1, v) else x) else l ++ [(k, v)]
def adel (l : List (κ × α)) (k : κ) : List (κ × α) := l.filter fun x => decide (x.1 ≠ k)
theorem aget_nil (k : κ) : aget ([] : List (κ × α)) k = none := rfl
theorem aget_cons (x : κ × α) (l : List (κ × α)) (k : κ) : aget (x :: l) k = if x.1 = k then some x.2 else aget l k := by
  unfold aget
  by_cases h : x.1 = k <;> simp [List.find?_cons, h]
theorem aget_map_same (l : List (κ × α)) (k : κ) (v : α) (h : (aget l k).isSome = true) : aget (l.map fun x => if x.1 = k then (x.1, v) else x) k = some v := by
  induction l with
  | nil => simp [aget] at h
  | cons x l ih =>
    rw [List.map_cons, aget_cons]
    rw [aget_cons] at h
    by_cases e : x.1 = k
    · simp [e]
    · rw [if_neg e] at h
      simp only [e, if_false]
      exact ih h
theorem aget_map_other (l : List (κ × α)) (k j : κ) (v : α) (ne : j ≠ k) : aget (l.map fun x => if x.1 = k then (x.1, v) else x) j = aget l j := by
  induction l with
  | nil => rfl
  | cons x l ih =>
    rw [List.map_cons, aget_cons, aget_cons, ih]
    by_cases e : x.1 = k
    · simp only [e, if_true]
      rw [if_neg (fun z => ne z.symm), if_neg (fun z => ne z.symm)]
    · simp only [e, if_false]
theorem aget_app (l : List (κ × α)) (x : κ × α) (j : κ) : aget (l ++ [x]) j = match aget l j with | some v => some v | none => if x.1 = j then some x.2 else none := by
  induction l with
  | nil => rw [List.nil_append, aget_cons]; rfl
  | cons y l ih =>
    rw [List.cons_append, aget_cons, aget_cons, ih]
    by_cases e : y.1 = j
    · simp [e]
    · simp [e]
theorem aget_put (l : List (κ × α)) (k j : κ) (v : α) : aget (aput l k v) j = if j = k then some v else aget l j := by
  unfold aput
  split
  · rename_i h
    by_cases e : j = k
    · subst e; rw [if_pos rfl]; exact aget_map_same l j v h
    · rw [if_neg e]; exact aget_map_other l k j v e
  · rename_i h
    rw [aget_app]
    by_cases e : j = k
    · subst e
      cases q : aget l j with
      | none => simp
      | some z => rw [q] at h; simp at h
    · rw [if_neg e]
      cases q : aget l j with
      | none =>
        show (if k = j then some v else none) = none
        rw [if_neg (fun z => e z.symm)]
      | some z => rfl
theorem aget_del (l : List (κ × α)) (k j : κ) : aget (adel l k) j = if j = k then none else aget l j := by
  induction l with
  | nil => simp [adel, aget]
  | cons x l ih =>
    unfold adel at ih ⊢
    by_cases e : x.1 = k
    · rw [List.filter_cons_of_neg (by simp [e]), ih, aget_cons]
      by_cases ej : j = k
      · rw [if_pos ej, if_pos ej]
      · rw [if_neg ej, if_neg ej, if_neg (fun z => ej (z.symm.trans e))]
    · rw [List.filter_cons_of_pos (by simp [e]), aget_cons, ih, aget_cons]
      by_cases ej : j = k
      · subst ej; rw [if_pos rfl, if_neg e, if_pos rfl]
      · rw [if_neg ej, if_neg ej]
theorem aput_keys (l : List (κ × α)) (k : κ) (v : α) : (aput l k v).map (·.1) = if (aget l k).isSome then l.map (·.1) else l.map (·.1) ++ [k] := by
  unfold aput
  split
  · rw [List.map_map]
    refine List.map_congr_left fun x _ => ?_
    simp only [Function.comp]
    split <;> rfl
  · rw [List.map_append]; rfl
theorem aget_mem {l : List (κ × α)} {k : κ} {v : α} (h : aget l k = some v) : (k, v) ∈ l := by
  unfold aget at h
  obtain ⟨x, hx, rfl⟩ := Option.map_eq_some_iff.mp h
  have := List.find?_some hx
  have e : x.1 = k := by simpa using this
  rw [← e]
  exact List.mem_of_find?_eq_some hx
theorem aget_none {l : List (κ × α)} {k : κ} (h : aget l k = none) : k ∉ l.map (·.1) := by
  unfold aget at h
  rw [Option.map_eq_none_iff, List.find?_eq_none] at h
  intro hm
  obtain ⟨x, hx, e⟩ := List.mem_map.mp hm
  exact h x hx (by simpa using e)
theorem aget_of_mem {l : List (κ × α)} (nd : (l.map (·.1)).Nodup) {k : κ} {v : α} (h : (k, v) ∈ l) : aget l k = some v := by
  induction l with
  | nil => simp at h
  | cons x l ih =>
    rw [List.map_cons, List.nodup_cons] at nd
    rw [aget_cons]
    rcases List.mem_cons.mp h with rfl | h
    · rw [if_pos rfl]
    · rw [if_neg (fun e => nd.1 (by rw [e]; exact List.mem_map_of_mem (f := (·.1)) h)), ih nd.2 h]
theorem aput_nodup {l : List (κ × α)} {k : κ} {v : α} (nd : (l.map (·.1)).Nodup) : ((aput l k v).map (·.1)).Nodup := by
  rw [aput_keys]
  split
  · exact nd
  · rename_i h
    rw [List.nodup_append]
    refine ⟨nd, by simp, fun x hx y hy => ?_⟩
    rw [List.mem_singleton.mp hy]
    intro e
    subst e
    refine aget_none ?_ hx
    cases q : aget l x with
    | none => rfl
    | some z => rw [q] at h; exact absurd rfl h
theorem adel_nodup {l : List (κ × α)} {k : κ} (nd : (l.map (·.1)).Nodup) : ((adel l k).map (·.1)).Nodup := List.Nodup.sublist (List.Sublist.map _ (List.filter_sublist)) nd
theorem aput_len (l : List (κ × α)) (k : κ) (v : α) : (aput l k v).length ≤ l.length + 1 := by
  unfold aput
  split <;> simp
theorem adel_len (l : List (κ × α)) (k : κ) : (adel l k).length ≤ l.length := List.length_filter_le _ _
end
/-! ### what stands in the dict and what is told of it -/
section
variable {K : PySem.W.Frag} {F : Hp}
abbrev PrK (K : PySem.W.Frag) (F : Hp) : L2.Key × V → L2.Key × Sl → Prop := fun p q => p.1 = q.1 ∧ En K F p.2 q.2
abbrev PrN (K : PySem.W.Frag) (F : Hp) : Nkv → NestedKey × Sl → Prop := fun p q => p.1 = q.1 ∧ En K F p.2.2 q.2
theorem prK_get {ws : List (L2.Key × V)} {kvs : List (L2.Key × Sl)} (h : Paired (PrK K F) ws kvs) (k : L2.Key) : (aget kvs k = none ∧ valV ws k = none) ∨ ∃ s v, aget kvs k = some s ∧ valV ws k = some v ∧ En K F v s := by
  induction h with
  | nil => exact .inl ⟨rfl, rfl⟩
  | @cons p q ps qs r _ ih =>
    rw [aget_cons]
    by_cases e : p.1 = k
    · exact .inr ⟨q.2, p.2, by rw [if_pos (r.1.symm.trans e)], valV_pos e, r.2⟩
    · rw [if_neg (fun z => e (r.1.trans z)), valV_neg e]
      exact ih
theorem prN_get {ws : List Nkv} {kvs : List (NestedKey × Sl)} (h : Paired (PrN K F) ws kvs) (k : NestedKey) : (aget kvs k = none ∧ valN ws k = none) ∨ ∃ s v, aget kvs k = some s ∧ valN ws k = some v ∧ En K F v s := by
  induction h with
  | nil => exact .inl ⟨rfl, rfl⟩
  | @cons p q ps qs r _ ih =>
    rw [aget_cons, valN_cons]
    by_cases e : p.1 = k
    · exact .inr ⟨q.2, p.2.2, by rw [if_pos (r.1.symm.trans e)], by rw [if_pos e], r.2⟩
    · rw [if_neg (fun z => e (r.1.trans z)), if_neg e]
      exact ih
theorem prK_put {ws : List (L2.Key × V)} {kvs : List (L2.Key × Sl)} (h : Paired (PrK K F) ws kvs) (k : L2.Key) {v : V} {s : Sl} (e : En K F v s) : Paired (PrK K F) (putK ws k v) (aput kvs k s) := by
  have hany : (ws.any fun kv => decide (kv.1 = k)) = (aget kvs k).isSome := by
    clear e
    induction h with
    | nil => rfl
    | @cons p q ps qs r _ ih =>
      rw [List.any_cons, ih, aget_cons]
      by_cases e : p.1 = k
      · rw [decide_eq_true e, if_pos (r.1.symm.trans e)]; rfl
      · rw [decide_eq_false e, if_neg (fun z => e (r.1.trans z))]; rfl
  unfold putK aput
  rw [hany]
  split
  · rename_i hq
    clear hany hq
    induction h with
    | nil => exact .nil
    | @cons p q ps qs r _ ih =>
      rw [List.map_cons, List.map_cons]
      refine .cons ?_ ih
      by_cases e2 : p.1 = k
      · rw [if_pos e2, if_pos (r.1.symm.trans e2)]; exact ⟨r.1, e⟩
      · rw [if_neg e2, if_neg (fun z => e2 (r.1.trans z))]; exact r
  · exact Paired.snoc h ⟨rfl, e⟩
theorem prN_put {ws : List Nkv} {kvs : List (NestedKey × Sl)} (h : Paired (PrN K F) ws kvs) (k : NestedKey) (b : Addr) {v : V} {s : Sl} (e : En K F v s) : Paired (PrN K F) (putN ws k b v) (aput kvs k s) := by
  have hany : (valN ws k).isSome = (aget kvs k).isSome := by
    rcases prN_get h k with ⟨h1, h2⟩ | ⟨s, v, h1, h2, _⟩ <;> rw [h1, h2] <;> rfl
  unfold putN aput
  rw [hany]
  split
  · rename_i hq
    clear hany hq
    induction h with
    | nil => exact .nil
    | @cons p q ps qs r _ ih =>
      rw [List.map_cons, List.map_cons]
      refine .cons ?_ ih
      by_cases e2 : p.1 = k
      · rw [if_pos e2, if_pos (r.1.symm.trans e2)]; exact ⟨r.1, e⟩
      · rw [if_neg e2, if_neg (fun z => e2 (r.1.trans z))]; exact r
  · exact Paired.snoc h ⟨rfl, e⟩
theorem prK_del {ws : List (L2.Key × V)} {kvs : List (L2.Key × Sl)} (h : Paired (PrK K F) ws kvs) (k : L2.Key) : Paired (PrK K F) (dropK ws k) (adel kvs k) := by
  unfold dropK adel
  induction h with
  | nil => exact .nil
  | @cons p q ps qs r _ ih =>
    by_cases e : p.1 = k
    · rw [List.filter_cons_of_neg (by simp [e]), List.filter_cons_of_neg (by simp [r.1.symm.trans e])]; exact ih
    · rw [List.filter_cons_of_pos (by simp [e]), List.filter_cons_of_pos (by simpa using fun z => e (r.1.trans z))]; exact .cons r ih
theorem prN_del {ws : List Nkv} {kvs : List (NestedKey × Sl)} (h : Paired (PrN K F) ws kvs) (k : NestedKey) : Paired (PrN K F) (dropN ws k) (adel kvs k) := by
  unfold dropN adel
  induction h with
  | nil => exact .nil
  | @cons p q ps qs r _ ih =>
    by_cases e : p.1 = k
    · rw [List.filter_cons_of_neg (by simp [e]), List.filter_cons_of_neg (by simp [r.1.symm.trans e])]; exact ih
    · rw [List.filter_cons_of_pos (by simp [e]), List.filter_cons_of_pos (by simpa using fun z => e (r.1.trans z))]; exact .cons r ih
/-- a key as data -/
def nkD : NestedKey → PyData
  | .none => .none
  | .num i => .int i
  | .text x => .str x
  | .tup ks => .tuple (nkDs ks)
where nkDs : List NestedKey → List PyData
  | [] => []
  | k :: ks => nkD k :: nkDs ks
mutual
theorem kyD_of : ∀ (k : NestedKey) (v : V), Dp K F v (nkD k) → KyD K F v k
  | .none, _, h => by rw [nkD] at h; cases h; exact .non
  | .num i, _, h => by rw [nkD] at h; cases h; exact .int i
  | .text x, _, h => by rw [nkD] at h; cases h; exact .str x
  | .tup ks, _, h => by
    rw [nkD] at h
    cases h with
    | tup hs ha => exact .tup hs (kyAll_of ks _ ha)
theorem kyAll_of : ∀ (ks : List NestedKey) (vs : List V), DpAll K F vs (nkD.nkDs ks) → KyAll K F vs ks
  | [], _, h => by rw [nkD.nkDs] at h; cases h; exact .nil
  | k :: ks, _, h => by
    rw [nkD.nkDs] at h
    cases h with
    | cons a b => exact .cons (kyD_of k _ a) (kyAll_of ks _ b)
end
end
section
variable {P : Program} {w : World} {K : PySem.W.Frag} {B H : Hp} {M : Objs} {L : Facts} {v y : V} {d : PyData} {s : Sl} {a : Addr} {i : Nat}
theorem ksAt_ex {H' : Hp} {ws : List Nkv} (e : Ex H H') (h : KsAt K H ws) : KsAt K H' ws := fun x hx => ⟨KyD.at (fun _ _ => ex_t e) _ _ (h x hx).1, (h x hx).2⟩
theorem Rep.get {kvs : List (L2.Key × Sl)} (R : Rep P w K B H M L) (hi : M[i]? = some (a, .dic kvs)) (k : L2.Key) : ∃ o, UGet P w K H a (kV k) o ∧ (aget kvs k = none → o = none) ∧ ∀ d, aget kvs k = some (.v d) → ∃ v, o = some v ∧ Rep P w K B H M ((v, d) :: L) := by
  obtain ⟨F, r⟩ := id R
  obtain ⟨_, ws, h1, h2⟩ := r.ob _ _ (List.mem_of_getElem? hi)
  refine ⟨valV ws k, .inl ⟨ws, k, .inl h1, rfl, rfl⟩, fun h => ?_, fun d h => ?_⟩
  · rcases prK_get h2 k with ⟨_, e⟩ | ⟨s, v, e, _⟩
    · exact e
    · rw [h] at e; cases e
  · rcases prK_get h2 k with ⟨e, _⟩ | ⟨s, v, e, e2, en⟩
    · rw [h] at e; cases e
    · rw [h] at e
      cases e
      exact ⟨v, e2, F, r.nd, r.bf, r.fh, r.ob, fun x z hx => (List.mem_cons.mp hx).elim (fun e => by cases e; exact en) (r.dt x z)⟩
theorem Rep.getN {kvs : List (NestedKey × Sl)} {k : NestedKey} {b : Addr} (R : Rep P w K B H M L) (hi : M[i]? = some (a, .dicN kvs)) (hk : Has L (.ref b) (nkD k)) (hd : k.depth ≤ 8) : ∃ o, UGet P w K H a (.ref b) o ∧ (aget kvs k = none → o = none) ∧ ∀ d, aget kvs k = some (.v d) → ∃ v, o = some v ∧ Rep P w K B H M ((v, d) :: L) := by
  obtain ⟨F, r⟩ := id R
  obtain ⟨_, ws, h1, h3, h2⟩ := r.ob _ _ (List.mem_of_getElem? hi)
  refine ⟨valN ws k, .inr ⟨ws, k, .inl h1, ksAt_ex r.fh h3, KyD.at (fun _ _ => ex_t r.fh) _ _ (kyD_of k _ (has_dp r hk)), ⟨b, rfl⟩, hd, rfl⟩, fun h => ?_, fun d h => ?_⟩
  · rcases prN_get h2 k with ⟨_, e⟩ | ⟨s, v, e, _⟩
    · exact e
    · rw [h] at e; cases e
  · rcases prN_get h2 k with ⟨e, _⟩ | ⟨s, v, e, e2, en⟩
    · rw [h] at e; cases e
    · rw [h] at e
      cases e
      exact ⟨v, e2, F, r.nd, r.bf, r.fh, r.ob, fun x z hx => (List.mem_cons.mp hx).elim (fun e => by cases e; exact en) (r.dt x z)⟩
theorem Rep.putK {kvs : List (L2.Key × Sl)} (R : Rep P w K B H M L) (hi : M[i]? = some (a, .dic kvs)) (k : L2.Key) (hv : HasS L v s) (hl : kvs.length < 100000) : ∃ H', UPut P w K H a (kV k) v H' ∧ Rep P w K B H' (M.set i (a, .dic (aput kvs k s))) L := by
  obtain ⟨F, r⟩ := id R
  obtain ⟨_, ws, h1, h2⟩ := r.ob _ _ (List.mem_of_getElem? hi)
  exact ⟨_, .inl ⟨ws, k, h1, rfl, by rw [Paired.length h2]; exact sz_lt hl, rfl⟩, F, r.put hi ⟨_, upd_same, prK_put h2 k (hasS_en r hv)⟩⟩
theorem Rep.putN {kvs : List (NestedKey × Sl)} {k : NestedKey} {b : Addr} (R : Rep P w K B H M L) (hi : M[i]? = some (a, .dicN kvs)) (hk : Has L (.ref b) (nkD k)) (hd : k.depth ≤ 8) (hv : HasS L v s) (hl : kvs.length < 100000) : ∃ H', UPut P w K H a (.ref b) v H' ∧ Rep P w K B H' (M.set i (a, .dicN (aput kvs k s))) L := by
  obtain ⟨F, r⟩ := id R
  obtain ⟨_, ws, h1, h3, h2⟩ := r.ob _ _ (List.mem_of_getElem? hi)
  have ky := kyD_of k _ (has_dp r hk)
  refine ⟨_, .inr ⟨ws, k, b, h1, ksAt_ex r.fh h3, KyD.at (fun _ _ => ex_t r.fh) _ _ ky, rfl, hd, by rw [Paired.length h2]; exact sz_lt hl, rfl⟩, F, r.put hi ⟨_, upd_same, fun x hx => ?_, prN_put h2 k b (hasS_en r hv)⟩⟩
  rcases put_mem hx with ⟨e1, e2⟩ | ⟨x', hx', e1, e2⟩
  · rw [e1, e2]; exact ⟨ky, hd⟩
  · rw [← e1, ← e2]; exact h3 x' hx'
/-- taken out -/
theorem Rep.delK {kvs : List (L2.Key × Sl)} (R : Rep P w K B H M L) (hi : M[i]? = some (a, .dic kvs)) (k : L2.Key) : ∃ ws, H a = some (.dK ws) ∧ (aget kvs k = none → valV ws k = none) ∧ ((aget kvs k).isSome = true → ∃ v, valV ws k = some v) ∧ Rep P w K B (upd H a (.dK (dropK ws k))) (M.set i (a, .dic (adel kvs k))) L := by
  obtain ⟨F, r⟩ := id R
  obtain ⟨_, ws, h1, h2⟩ := r.ob _ _ (List.mem_of_getElem? hi)
  refine ⟨ws, h1, fun h => ?_, fun h => ?_, F, r.put hi ⟨_, upd_same, prK_del h2 k⟩⟩
  · rcases prK_get h2 k with ⟨_, e⟩ | ⟨s, v, e, _⟩
    · exact e
    · rw [h] at e; cases e
  · rcases prK_get h2 k with ⟨e, _⟩ | ⟨s, v, e, e2, _⟩
    · rw [e] at h; cases h
    · exact ⟨v, e2⟩
theorem Rep.delN {kvs : List (NestedKey × Sl)} {k : NestedKey} {b : Addr} (R : Rep P w K B H M L) (hi : M[i]? = some (a, .dicN kvs)) (hk : Has L (.ref b) (nkD k)) : ∃ ws, H a = some (DnO P w a ws) ∧ KsAt K H ws ∧ KyD K H (.ref b) k ∧ (aget kvs k = none → valN ws k = none) ∧ ((aget kvs k).isSome = true → ∃ v, valN ws k = some v) ∧ Rep P w K B (upd H a (DnO P w a (dropN ws k))) (M.set i (a, .dicN (adel kvs k))) L := by
  obtain ⟨F, r⟩ := id R
  obtain ⟨_, ws, h1, h3, h2⟩ := r.ob _ _ (List.mem_of_getElem? hi)
  refine ⟨ws, h1, ksAt_ex r.fh h3, KyD.at (fun _ _ => ex_t r.fh) _ _ (kyD_of k _ (has_dp r hk)), fun h => ?_, fun h => ?_, F, r.put hi ⟨_, upd_same, fun x hx => h3 x (List.mem_filter.mp hx).1, prN_del h2 k⟩⟩
  · rcases prN_get h2 k with ⟨_, e⟩ | ⟨s, v, e, _⟩
    · exact e
    · rw [h] at e; cases e
  · rcases prN_get h2 k with ⟨e, _⟩ | ⟨s, v, e, e2, _⟩
    · rw [e] at h; cases h
    · exact ⟨v, e2⟩
end

end

section
open PySem PySem.Spec PyProof.Rows L2 Evl
def tUItems (P : Program) (w : World) (td : TE) : TE := fun σ H Q => td σ H fun x H1 => ∃ a, x = .ref a ∧ UDict P w H1 a ∧ ∀ p, H1 p = none → Q (.ref p) (upd H1 p (DX.itemsO p a))
theorem pe_uitems {X : Cx} {o : Expr} {apos cpos : Pos} {td : TE} (ho : PE X o td) (hbase : attributeBase o "items" X.env (eval o X.env) = eval o X.env := by rfl) (hline : (apos.endLine == cpos.line) = true := by rfl) : PE X (.Call (.Attribute o "items" apos) [] [] cpos) (tUItems X.prog X.w td) := ⟨fun pins s σ H Q I h => by
  refine wpAny_Call_method (T := "dict") (id := "dict.items") hbase rfl hline PySem.F.plainAttrs_dict PySem.F.slot_dict_items PySem.F.type_dict_items (thn (ho.run pins s σ H _ I h) fun uo sa ⟨x, Ha, Ia, rx, a, ex, hd, q⟩ => ?_)
  subst ex
  cases rx
  obtain ⟨t1, t2⟩ := u_type Ia hd
  refine ⟨t1, t2, ?_⟩
  obtain ⟨ps, u, hu, hk⟩ := udict_raw Ia hd
  obtain ⟨m, ob, es, ep, h1, h2, h3, _⟩ := raw_at (Rd.ok hu Ia.hok) hk
  have hf : Ha sa.heap.objs.size = none := Ia.hok.fresh (Nat.le_refl _)
  have fin : EP X pins σ Q (.ref sa.heap.objs.size) { sa with heap := sa.heap.push { cls := .type "dict_items", data := .fields #[.ref a] } } := ⟨.ref sa.heap.objs.size, _, Ia.laid (t' := sa.toks) (fun b u e => Heap.get?_push_of_some _ e) (Nat.le_refl _) (DX.itemsO_ok (Heap.get?_push_size _ rfl)), rfl, q _ hf⟩
  show wpAny _ _ (callWith cpos (.builtin "dict.items") [.ref a] [] []) _ X.xe sa
  exact method_meetsIn PySem.F.slot_dict_items PySem.F.entry_dict_items rfl (PySem.evalArgs_none ⟨rfl, t1, PySem.F.args_dict_items_1 _, _, meets_dict_items_raw a m, ⟨es, ep, ob, h1, h2, h3⟩, fin⟩)⟩
/-! ### list(range(n)) -/
theorem cr_range1 {X : Cx} : CallR X (.type "range") (fun vs H Q => ∃ j, vs = [V.int j] ∧ ∀ p, H p = none → Q (.ref p) (upd H p (.rng 0 j))) := by
  intro pins s σ H vs us Q I r h
  obtain ⟨j, rfl, q⟩ := h
  obtain ⟨u, rfl, rj⟩ := vals1 r
  obtain ⟨t, rfl⟩ := rj
  refine call_range_1 ⟨.ref s.heap.objs.size, upd H s.heap.objs.size (.rng 0 j), I.laid (t' := s.toks + 1 + 1) (fun b o e => Heap.get?_push_of_some _ e) (Nat.le_refl _) ?_, rfl, q _ (I.hok.fresh (Nat.le_refl _))⟩
  exact ⟨s.toks, t, s.toks + 1, Heap.get?_push_size _ rfl⟩
theorem paired_get {α β : Type} {G : α → β → Prop} : ∀ {xs : List α} {ys : List β}, xs.length = ys.length → (∀ (i : Nat) a b, xs[i]? = some a → ys[i]? = some b → G a b) → Paired G xs ys
  | [], [], _, _ => .nil
  | [], _ :: _, h, _ => nomatch h
  | _ :: _, [], h, _ => nomatch h
  | x :: xs, y :: ys, h, q => .cons (q 0 x y rfl rfl) (paired_get (Nat.succ.inj h) fun i a b h1 h2 => q (i + 1) a b h1 h2)
def rListR : List V → Hp → VK → Prop := fun xs H Q => ∃ p n, xs = [.ref p] ∧ H p = some (.rng 0 (n : Nat)) ∧ n ≤ 100000 ∧ ∀ l, H l = none → Q (.ref l) (upd H l (.lst ((List.range n).map fun k => V.int (k : Nat))))
theorem cr_listR {X : Cx} (hc : X.calm = true) : CallR X (.type "list") rListR := by
  intro pins s σ H xs us Q I r h
  obtain ⟨p, n, rfl, hp, hn, q⟩ := h
  obtain rfl := Vals.ref1 r
  obtain ⟨t, u, v, hr⟩ := (show ObjOk X.prog X.w H s.heap p (.rng 0 (n : Nat)) from I.hok p _ hp)
  have hsz : Builtin.Range.rangeSize 0 (n : Nat) 1 = (n : Nat) := by
    unfold Builtin.Range.rangeSize
    rw [if_pos (by decide)]
    by_cases h : (0 : Int) < (n : Nat)
    · rw [if_pos h]; omega
    · rw [if_neg h]; omega
  refine call_list_range (n := n) (I.ok.hd hc) hr (by
    unfold Builtin.Range.small
    simp only [hsz]
    have f : ∀ k : Int, 0 ≤ k → k ≤ 200000 → Builtin.Range.rangeFitsLong k = true := fun k h1 h2 => by
      unfold Builtin.Range.rangeFitsLong
      simp
      omega
    rw [f 0 (by decide) (by decide), f n (by omega) (by omega), f 1 (by decide) (by decide), if_pos (by decide), f _ (by omega) (by omega)]
    simp) hsz (by omega) fun h' tk acc c' hk hat hit => ?_
  have rv : Vals ((List.range n).map fun k => V.int (k : Nat)) acc.toList := by
    refine paired_get (by rw [List.length_map, List.length_range, Array.length_toList, hit.1]) fun i a b ha hb => ?_
    rw [List.getElem?_map] at ha
    rw [Array.getElem?_toList] at hb
    obtain ⟨t, rfl⟩ := hit.2 i b hb
    obtain ⟨k, hk1, rfl⟩ := Option.map_eq_some_iff.mp ha
    have hki : i = k := by
      rw [List.getElem?_range (by have := (Array.getElem?_eq_some_iff.mp hb).1; rw [hit.1] at this; exact this)] at hk1
      exact Option.some.inj hk1
    subst hki
    exact ⟨t, by congr 1; omega⟩
  exact ⟨.ref s.heap.objs.size, _, I.laid (t' := tk) (o := .lst ((List.range n).map fun k => V.int (k : Nat))) hk (Nat.le_refl _) ⟨by rw [List.length_map, List.length_range, sizeLine_eq]; omega, acc.toList, c', rv, hat⟩, rfl, q _ (I.hok.fresh (Nat.le_refl _))⟩
/-! ### isinstance(d, dict) -/
def rIsD (P : Program) (w : World) : List V → Hp → VK → Prop := fun xs H Q => ∃ a, xs = [.ref a, .ty "dict"] ∧ UDict P w H a ∧ Q (.bl true) H
theorem cr_isD {X : Cx} : CallR X (.builtin "isinstance") (rIsD X.prog X.w) := by
  intro pins s σ H xs us Q I r h
  obtain ⟨a, rfl, hd, q⟩ := h
  obtain ⟨u1, u2, rfl, r1, r2⟩ := vals2 r
  cases r1
  obtain rfl : u2 = Value.type "dict" := r2
  obtain ⟨o, ho, hc⟩ := (u_type I hd).1
  exact PySem.W.kia_one (b := true) PySem.W.kitx_dict I.kIn ⟨o, ho, hc⟩ (kit_ty (by decide +kernel)) (fun z => nomatch z) fun tk => ⟨.bl true, H, I.tok tk, rfl, q⟩
theorem hu80_of {A : Around} {k : Nat} (hr : Room k A) : A.units + 70 < cLine := by have := hr.un; omega
theorem hu80b_of {A : Around} {k : Nat} (hr : Room k A) : A.units + 10 < cLine := by have := hr.un; omega
theorem hu1_of {A : Around} {k : Nat} (hr : Room k A) : A.units < cLine := by have := hr.un; omega
theorem adel_none {κ α : Type} [DecidableEq κ] {l : List (κ × α)} {k : κ} (h : aget l k = none) : adel l k = l := by
  unfold adel
  refine List.filter_eq_self.mpr fun x hx => ?_
  have := aget_none h
  simp only [decide_eq_true_eq]
  exact fun e => this (e ▸ List.mem_map_of_mem hx)
theorem set_same {α : Type} {l : List α} {i : Nat} {x : α} (h : l[i]? = some x) : l.set i x = l := by
  refine List.ext_getElem? fun j => ?_
  rw [List.getElem?_set]
  split
  · rename_i e
    subst e
    split
    · exact h.symm
    · rename_i hn
      exact absurd (List.getElem?_eq_some_iff.mp h).1 hn
  · rfl

end

local macro_rules | `(tactic| walk_at "ho") => `(tactic| first | assumption | exact upd_same | exact Ex.app (by assumption) (by walk_at "ho") | exact Mu.app (by assumption) (by assumption) (by walk_at "ho"))
local macro_rules | `(tactic| walk_at "ex") => `(tactic| first | assumption | exact Ex.refl _ | exact ex_tr (by assumption) (by walk_at "ex"))
local macro_rules | `(tactic| walk_at "sl") => `(tactic| first | assumption | exact sq_of (by walk_at "ho") | exact ex_l (by assumption) (by walk_at "sl"))
local macro_rules | `(tactic| walk_at "st") => `(tactic| first | assumption | exact st_of (by walk_at "ho") | exact ex_t (by assumption) (by walk_at "st"))
local macro_rules | `(tactic| walk_at "at") => `(tactic| first | assumption | with_reducible exact at_0 | with_reducible exact at_1 | with_reducible exact at_2 | with_reducible exact at_3 | with_reducible exact at_4 | with_reducible exact at_5 | with_reducible exact at_6 | with_reducible exact at_7 | with_reducible exact at_8 | with_reducible exact at_9 | with_reducible exact atm_1 | with_reducible exact atm_2 | with_reducible exact atm_3 | with_reducible exact atm_4 | with_reducible exact atm_5 | with_reducible exact atm_6 | exact atI_nat (by assumption))
local macro_rules | `(tactic| walk_at "side") => `(tactic| first
  | decide | omega | exact Or.inr ⟨by decide, by decide⟩ | exact Or.inl ⟨by decide, by decide⟩ | exact Or.inl ⟨by omega, by omega⟩ | exact Or.inr ⟨by omega, by omega⟩ | exact ⟨by decide, by decide, by decide⟩ | exact ⟨by decide, by decide⟩ | exact ⟨by omega, by omega⟩)
local macro_rules | `(tactic| walk_at "sz") => `(tactic| first | assumption | omega | (simp only [List.length_cons, List.length_nil, List.length_append, List.length_map] at *; omega))
local macro_rules | `(tactic| walk_at "ln") => `(tactic| first | decide | omega | (constructor <;> first | decide | omega) | (simp only [List.length_cons, List.length_nil, List.length_append, List.length_map, List.length_flatten, List.length_replicate]; omega))
local macro_rules | `(tactic| walk_at "lz") => `(tactic| first | assumption | (show TxtOk 60 (Str.ofString _); decide +kernel))
local macro_rules | `(tactic| walk_at "l10") => `(tactic| first | assumption | exact ⟨Nat.le_trans (And.left (by assumption : TxtOk _ _)) (by decide), And.right (by assumption : TxtOk _ _)⟩ | (show TxtOk 10 (Str.ofString _); decide +kernel))
local macro_rules | `(tactic| walk_at "sh") => `(tactic| first | exact short_lit (by decide +kernel) (by decide) | exact short_of (by assumption) (by decide))
local macro_rules | `(tactic| walk_at "new") => `(tactic| ((with_reducible show ∀ p : Addr, _ = none → _); intro p hp; generalize hX : upd _ p _ = H2; have hX2 := gen1 hp hX; clear hX; obtain ⟨e2, h2⟩ := hX2))
local macro_rules | `(tactic| walk_at "mut") => `(tactic| (generalize hX : upd _ _ _ = H2; have hX2 := gen2 hX; clear hX; obtain ⟨e2, h2⟩ := hX2))
local macro_rules | `(tactic| walk_at "rd1") => `(tactic| first
  | with_reducible refine w_seq ?_
  | with_reducible refine w_op ?_
  | ((with_reducible show tVar _ _ _ _); refine w_var (by exact rfl) ?_)
  | with_reducible refine w_c ?_
  | with_reducible refine w_cons ?_
  | with_reducible refine w_nil ?_
  | with_reducible refine w_asg ?_
  | ((with_reducible refine w_gName ?_); try dsimp only [List.set_cons_succ, List.set_cons_zero])
  | with_reducible refine w_rI0 ?_
  | ((with_reducible refine w_rI ?_ ?_); (first | walk_at "side" | (dsimp only; walk_at "side")))
  | with_reducible refine w_rU ?_
  | with_reducible refine w_un ?_
  | with_reducible refine w_eqS ?_ | with_reducible refine w_neS ?_ | with_reducible refine w_eqI ?_ | with_reducible refine w_neI ?_
  | with_reducible refine w_tup ?_ | with_reducible refine w_lst ?_
  | ((with_reducible refine w_size ?_ ?_); first | decide | decide +kernel | (simp only [List.length_cons, List.length_nil]; omega))
  | with_reducible refine w_cb ?_ | with_reducible refine w_call ?_ | with_reducible refine w_bm ?_ | with_reducible refine w_bm0 ?_
  | ((with_reducible show tyV _ _ (V.ref _) _ ∧ _); refine w_tyL (by walk_at "sl") ?_) | with_reducible refine w_tyS ?_
  | ((with_reducible show rIxL _ _ _ _ _); refine w_ixL (by walk_at "sl") (by walk_at "at") ?_)
  | ((with_reducible show rIxT _ _ _ _ _); refine w_ixT (by walk_at "st") (by walk_at "at") ?_)
  | ((with_reducible show ∃ a, ∃ _, [V.ref _] = [V.ref a] ∧ _); first | refine w_lenL (by walk_at "sl") ?_ | refine w_lenT (by walk_at "st") ?_)
  | with_reducible refine w_test ?_ | with_reducible refine w_tB ?_ | with_reducible refine w_tand ?_ | with_reducible refine w_tor ?_ | with_reducible refine w_tnot ?_ | with_reducible refine w_tyes ?_ | with_reducible refine w_tif ?_
  | with_reducible refine w_if ?_ | with_reducible refine w_next ?_ | with_reducible refine w_cont ?_ | with_reducible refine w_brk ?_ | with_reducible refine w_drop ?_ | with_reducible refine w_ret ?_
  | with_reducible refine w_par ?_ | with_reducible refine w_par3 ?_ | with_reducible refine w_two ?_ | with_reducible refine w_three ?_
  | with_reducible refine w_gSub ?_
  | ((with_reducible show rAppend _ _ _ _); refine w_append (by walk_at "ho") (by walk_at "sz") ?_; walk_at "mut")
  | ((with_reducible show rSetL _ _ _ _ _); refine w_setL (by walk_at "ho") (by exact rfl) ?_; walk_at "mut")
  | with_reducible refine w_tSl ?_ | with_reducible refine w_noPart ?_ | with_reducible refine w_part ?_
  | with_reducible refine w_for ?_ | with_reducible refine w_lc ?_ | with_reducible refine w_iR1 ?_ | with_reducible refine w_iR2 ?_ | with_reducible refine w_iL ?_ | with_reducible refine w_iT ?_
  | ((with_reducible show ∃ b, V.ref _ = V.ref b ∧ (∃ xs, SqL _ _ b xs) ∧ _); refine w_itL (by walk_at "sl") ?_) | ((with_reducible show ∃ b, V.ref _ = V.ref b ∧ (∃ xs, SqT _ _ b xs) ∧ _); refine w_itT (by walk_at "st") ?_)
  | ((with_reducible refine w_r1 ?_ ?_); walk_at "side") | ((with_reducible refine w_r2 ?_ ?_); walk_at "side")
  | with_reducible refine w_bl ?_ | with_reducible refine w_int ?_ | with_reducible refine w_ints ?_ | with_reducible refine w_strs ?_ | with_reducible refine w_str2 ?_ | with_reducible refine w_isN ?_
  | ((with_reducible show rAddA _ _ _ _); refine w_addA (by walk_at "lz") (by walk_at "lz") (by walk_at "ln") ?_; intro r hr)
  | ((with_reducible show rMulS _ _ _ _); refine w_mulS (by walk_at "l10") (by walk_at "ln") ?_; intro r hr)
  | ((with_reducible show rStrA _ _ _); refine w_strA (by walk_at "ln") ?_; intro r hr)
  | ((with_reducible show rCat _ _ _ _); refine w_cat (by walk_at "ho") (by walk_at "ho") (by walk_at "ln") ?_)
  | ((with_reducible show rRep _ _ _ _); refine w_rep (by walk_at "ho") (by walk_at "ln") (by walk_at "ln") ?_)
  | ((with_reducible show rIxS _ _ _ _); refine w_ixSA (by first | assumption | (show TxtOk 60 (Str.ofString _); decide +kernel) | (show TxtOk 60 (Str.ofString _ ++ Str.ofString _); decide +kernel)) (by decide) (by omega) (by first | exact Int.lt_of_lt_of_le (by assumption) (by decide +kernel) | (have h := (by decide +kernel : (Str.ofString "abcdefghijklmnopqrstuvwxyz").length = 26); omega)) ?_; intro r hr)
  | ((with_reducible show ∃ a, ∃ zs, [V.ref _] = [V.ref a] ∧ ((SqL _ _ a zs ∧ ∀ l, _ → _) ∨ _)); refine w_tupL (by walk_at "sl") ?_)
  | ((with_reducible show ∃ a, ∃ zs, [V.ref _] = [V.ref a] ∧ (SqL _ _ a zs ∨ SqT _ _ a zs) ∧ ∀ l, _ → _); first | refine w_lstL (by walk_at "sl") ?_ | refine w_lstT (by walk_at "st") ?_)
  | walk_at "new")
local macro_rules | `(tactic| walk_at "rd") => `(tactic| repeat walk_at "rd1")

def topS (i : Nat) : Stmt := PySem.Challenge.pw_whoholds_k05_runs_row_by_row.main.body.getD i (.Pass ⟨0, 0, 0, 0⟩)
abbrev s_run : Stmt := topS 1
theorem sc_run : FnScope ["program", "numbers", "names", "slots", "made", "number"] ["program", "numbers"] (defScope s_run) := ⟨rfl, rfl, rfl, by decide +kernel, rfl, by decide +kernel, by decide +kernel⟩
abbrev s_Pdo : Stmt := topS 2
theorem sc_Pdo : FnScope ["row", "names", "slots", "made", "kind", "_", "x", "box", "count", "y", "slot"] ["row", "names", "slots", "made"] (defScope s_Pdo) := ⟨rfl, rfl, rfl, by decide +kernel, rfl, by decide +kernel, by decide +kernel⟩
abbrev s_Pgive : Stmt := topS 3
theorem sc_Pgive : FnScope ["holders", "holder", "thing"] ["holders", "holder", "thing"] (defScope s_Pgive) := ⟨rfl, rfl, rfl, by decide +kernel, rfl, by decide +kernel, by decide +kernel⟩
abbrev s_Lfill : Stmt := topS 5
theorem sc_Lfill : FnScope ["_law_cell", "_law_at", "_law_x"] ["_law_cell", "_law_at"] (defScope s_Lfill) := ⟨rfl, rfl, rfl, by decide +kernel, rfl, by decide +kernel, by decide +kernel⟩
abbrev s_Lnext : Stmt := topS 6
theorem sc_Lnext : FnScope ["_law_pen", "_law_many", "_law_at", "_law_cell", "_law_found"] ["_law_pen", "_law_many"] (defScope s_Lnext) := ⟨rfl, rfl, rfl, by decide +kernel, rfl, by decide +kernel, by decide +kernel⟩
abbrev s_Lwords : Stmt := topS 7
theorem sc_Lwords : FnScope ["_law_pen", "_law_many", "_law_way", "_law_own", "_law_letters", "_law_signs", "_law_one", "_law_two", "_law_found", "_law_k", "_law_some"] ["_law_pen", "_law_many"] (defScope s_Lwords) := ⟨rfl, rfl, rfl, by decide +kernel, rfl, by decide +kernel, by decide +kernel⟩
abbrev s_Lrow : Stmt := topS 8
theorem sc_Lrow : FnScope ["_law_pen", "_law_names", "_law_boxes", "_law_slots", "_law_way", "_law_x", "_law_y", "_law_box", "_law_slot"] ["_law_pen", "_law_names", "_law_boxes", "_law_slots"] (defScope s_Lrow) := ⟨rfl, rfl, rfl, by decide +kernel, rfl, by decide +kernel, by decide +kernel⟩
abbrev s_Lprogram : Stmt := topS 9
theorem sc_Lprogram : FnScope ["_law_pen", "_law_most", "_law_many", "_law_sizes", "_law_names", "_law_boxes", "_law_slots", "_law_k"] ["_law_pen", "_law_most"] (defScope s_Lprogram) := ⟨rfl, rfl, rfl, by decide +kernel, rfl, by decide +kernel, by decide +kernel⟩
abbrev s_Lran : Stmt := topS 10
theorem sc_Lran : FnScope ["_law_told", "_law_numbers", "_law_names", "_law_slots", "_law_made", "_law_number", "_law_row_here", "_law_word", "_law_x", "_law_last", "_law_thing", "_law_some", "_law_others", "_law_one"] ["_law_told", "_law_numbers"] (defScope s_Lran) := ⟨rfl, rfl, rfl, by decide +kernel, rfl, by decide +kernel, by decide +kernel⟩
abbrev s_Lnumbers_drawn : Stmt := topS 11
theorem sc_Lnumbers_drawn : FnScope ["_law_pen", "_law_told", "_law_way", "_law_k"] ["_law_pen", "_law_told"] (defScope s_Lnumbers_drawn) := ⟨rfl, rfl, rfl, by decide +kernel, rfl, by decide +kernel, by decide +kernel⟩
abbrev s_law : Stmt := topS 12
theorem sc_law : FnScope ["script", "_law_pen", "_law_k", "_law_told", "_law_turn", "_law_numbers", "_law_done", "_law_rows", "_law_some", "_law_due", "_law_handed", "_law_found", "_law_number", "_law_one"] ["script"] (defScope s_law) := ⟨rfl, rfl, rfl, by decide +kernel, rfl, by decide +kernel, by decide +kernel⟩
/-- what the top has bound -/
structure Top (K : PySem.W.Frag) (mg : Str → Option Value) where
  f_run : Addr
  d_run : FuncData
  F_run : Fun K "run" "run" s_run f_run d_run
  b_run : Binds K d_run ["program", "numbers"] []
  g_run : mg "run" = some (.ref f_run)
  f_Pdo : Addr
  d_Pdo : FuncData
  F_Pdo : Fun K "_do" "_do" s_Pdo f_Pdo d_Pdo
  b_Pdo : Binds K d_Pdo ["row", "names", "slots", "made"] []
  g_Pdo : mg "_do" = some (.ref f_Pdo)
  f_Pgive : Addr
  d_Pgive : FuncData
  F_Pgive : Fun K "_give" "_give" s_Pgive f_Pgive d_Pgive
  b_Pgive : Binds K d_Pgive ["holders", "holder", "thing"] []
  g_Pgive : mg "_give" = some (.ref f_Pgive)
  f_Lfill : Addr
  d_Lfill : FuncData
  F_Lfill : Fun K "_law_fill" "_law_fill" s_Lfill f_Lfill d_Lfill
  b_Lfill : Binds K d_Lfill ["_law_cell", "_law_at"] []
  g_Lfill : mg "_law_fill" = some (.ref f_Lfill)
  f_Lnext : Addr
  d_Lnext : FuncData
  F_Lnext : Fun K "_law_next" "_law_next" s_Lnext f_Lnext d_Lnext
  b_Lnext : Binds K d_Lnext ["_law_pen", "_law_many"] []
  g_Lnext : mg "_law_next" = some (.ref f_Lnext)
  f_Lwords : Addr
  d_Lwords : FuncData
  F_Lwords : Fun K "_law_words" "_law_words" s_Lwords f_Lwords d_Lwords
  b_Lwords : Binds K d_Lwords ["_law_pen", "_law_many"] []
  g_Lwords : mg "_law_words" = some (.ref f_Lwords)
  f_Lrow : Addr
  d_Lrow : FuncData
  F_Lrow : Fun K "_law_row" "_law_row" s_Lrow f_Lrow d_Lrow
  b_Lrow : Binds K d_Lrow ["_law_pen", "_law_names", "_law_boxes", "_law_slots"] []
  g_Lrow : mg "_law_row" = some (.ref f_Lrow)
  f_Lprogram : Addr
  d_Lprogram : FuncData
  F_Lprogram : Fun K "_law_program" "_law_program" s_Lprogram f_Lprogram d_Lprogram
  b_Lprogram : Binds K d_Lprogram ["_law_pen", "_law_most"] []
  g_Lprogram : mg "_law_program" = some (.ref f_Lprogram)
  f_Lran : Addr
  d_Lran : FuncData
  F_Lran : Fun K "_law_ran" "_law_ran" s_Lran f_Lran d_Lran
  b_Lran : Binds K d_Lran ["_law_told", "_law_numbers"] []
  g_Lran : mg "_law_ran" = some (.ref f_Lran)
  f_Lnumbers_drawn : Addr
  d_Lnumbers_drawn : FuncData
  F_Lnumbers_drawn : Fun K "_law_numbers_drawn" "_law_numbers_drawn" s_Lnumbers_drawn f_Lnumbers_drawn d_Lnumbers_drawn
  b_Lnumbers_drawn : Binds K d_Lnumbers_drawn ["_law_pen", "_law_told"] []
  g_Lnumbers_drawn : mg "_law_numbers_drawn" = some (.ref f_Lnumbers_drawn)
  f_law : Addr
  d_law : FuncData
  F_law : Fun K "law" "law" s_law f_law d_law
  b_law : Binds K d_law ["script"] []
  g_law : mg "law" = some (.ref f_law)
  z_dict : mg "dict" = none
  z_isinstance : mg "isinstance" = none
  z_len : mg "len" = none
  z_list : mg "list" = none
  z_range : mg "range" = none
  z_repr : mg "repr" = none
  z_sorted : mg "sorted" = none
  z_str : mg "str" = none
  z_tuple : mg "tuple" = none

/-! ### rows as data -/
inductive Row where
  | new (x b : Str) | move (x y : Str) | put (x s y : Str) | take (x s y : Str)
  deriving DecidableEq
def sNew : Str := Str.ofString "new"
def sMove : Str := Str.ofString "move"
def sPut : Str := Str.ofString "put"
def sTake : Str := Str.ofString "take"
def rowV : Row → List V
  | .new x b => [.str (Str.ofString "new"), .str x, .str b]
  | .move x y => [.str (Str.ofString "move"), .str x, .str y]
  | .put x s y => [.str (Str.ofString "put"), .str x, .str s, .str y]
  | .take x s y => [.str (Str.ofString "take"), .str x, .str s, .str y]
def RowAt (r : Row) (v : V) (H : Hp) : Prop := ∃ p, v = .ref p ∧ H p = some (.tup (rowV r))
theorem rowAt_keeps (r : Row) : Keeps (RowAt r) := by
  refine ⟨fun y H H' e ⟨p, h1, h2⟩ => ⟨p, h1, e _ _ h2⟩, fun y H D xs ys hD ⟨p, h1, h2⟩ => ⟨p, h1, ?_⟩⟩
  rw [upd_ne (ne_of h2 hD (by intro z; cases z))]
  exact h2
/-- the words of a row come from these -/
def RowIn (xs bs ss : List Str) : Row → Prop
  | .new x b => x ∈ xs ∧ b ∈ bs
  | .move x y => x ∈ xs ∧ y ∈ xs
  | .put x s y => x ∈ xs ∧ s ∈ ss ∧ y ∈ xs
  | .take x s y => x ∈ xs ∧ s ∈ ss ∧ y ∈ xs
/-- some row of these words -/
def RowOf (xs bs ss : List Str) (v : V) (H : Hp) : Prop := ∃ r, RowIn xs bs ss r ∧ RowAt r v H
theorem rowOf_keeps (xs bs ss : List Str) : Keeps (RowOf xs bs ss) :=
  ⟨fun y H H' e ⟨r, h1, h2⟩ => ⟨r, h1, (rowAt_keeps r).1 _ _ _ e h2⟩, fun y H D xs ys hD ⟨r, h1, h2⟩ => ⟨r, h1, (rowAt_keeps r).2 _ _ _ _ _ hD h2⟩⟩

def spFill : Sp := fun vs H Q _ => ∃ n m : Int, vs = [.int n, .int m] ∧ ∀ r : Int, Q (.int r) H
section
variable {P : Program} {w : World} {K : PySem.W.Frag} {mg : Str → Option Value} {base : Heap}
theorem ok_Lfill (T : Top K mg) : FnOk P w K mg base CX0 1 T.f_Lfill T.d_Lfill ["_law_cell", "_law_at"] spFill := by
  refine T.F_Lfill.ok sc_Lfill (fun vs H Q E h => ?_) (fun cdv A outer s H vs Q E hr h => ?_)
  · obtain ⟨n, m, rfl, _⟩ := h
    rfl
  · obtain ⟨n, m, rfl, q⟩ := h
    refine ⟨_, (pss_cons (ps_if (pt_cmpR op_ge (pv 0) (pe_op op_pow pe_int pe_int) (nomark _))
            (pss_one (ps_ret (pv 0)))
            pss_nil)
          (pss_cons (ps_set (i := 2) sc_Lfill.nd rfl (Or.inl rfl) (pe_op op_mod (pe_op op_add (pe_op op_add (pe_op op_mul (pe_op op_mod (pv 0) pe_int) pe_int) (pe_op op_mul (pv 1) pe_int)) pe_int) pe_int))
          (pss_cons (ps_set (i := 2) sc_Lfill.nd rfl (Or.inl rfl) (pe_op op_mod (pe_op op_add (pe_op op_add (pe_op op_mul (pv 2) (pv 2)) (pe_op op_mul pe_int (pv 2))) (pv 1)) pe_int))
          (pss_one (ps_ret (pe_op op_add (pe_op op_mul (pv 2) pe_int) (pe_op op_mod (pe_op op_add (pe_op op_mul (pv 2) (pv 2)) (pe_op op_mul pe_int (pv 1))) pe_int))))))), ?_⟩
    rw [show start ["_law_cell", "_law_at", "_law_x"] [V.int n, V.int m] = [some (V.int n), some (V.int m), none] from rfl]
    try dsimp only [cxOf]
    walk_at "rd"
    refine ite2 (fun _ => ?_) (fun _ => ?_)
    · walk_at "rd"
      exact q _
    · walk_at "rd"
      exact q _
end

def spNext (K : PySem.W.Frag) : Sp := fun vs H Q _ => ∃ (a sc : Addr) (ns : List Int) (m : Int), vs = [.ref a, .int m] ∧ H a = some (PenO a sc) ∧ SqL K H sc (ns.map V.int) ∧ 0 < m ∧ m < 1000000 ∧
  ∀ (r : Int) H', 0 ≤ r → r < m → Ex H H' → Q (.int r) H'
section
variable {P : Program} {w : World} {K : PySem.W.Frag} {mg : Str → Option Value} {base : Heap}
theorem ok_Lnext (T : Top K mg) : FnOk P w K mg base CX0 2 T.f_Lnext T.d_Lnext ["_law_pen", "_law_many"] (spNext K) := by
  refine T.F_Lnext.ok sc_Lnext (fun vs H Q E h => ?_) (fun cdv A outer s H vs Q E hr h => ?_)
  · obtain ⟨a, sc, ns, m, rfl, _⟩ := h
    rfl
  · obtain ⟨a, sc, ns, m, rfl, hp, hsc, m0, m1, q⟩ := h
    refine ⟨_, (pss_open (pss_cut (ps_if (pt_cmpR op_lt (pe_ix ix_list (pv 0) pe_int (fun _ _ => rfl)) (pv 1) (nomark _))
            (pss_cons (ps_set (i := 2) sc_Lnext.nd rfl (Or.inl rfl) (pe_ix ix_list (pv 0) pe_int (fun _ _ => rfl)))
          (pss_cons (ps_set (i := 3) sc_Lnext.nd rfl (Or.inl rfl) pe_int)
          (pss_cut (ps_if (pt_cmpR op_lt (pv 2) (pe_callB call_len_seq (by rfl) T.z_len PySem.boot_len (pa_cons (pe_ix ix_list (pv 0) pe_int (fun _ _ => rfl)) pa_nil)) (nomark _))
            (pss_one (ps_set (i := 3) sc_Lnext.nd rfl (Or.inl rfl) (pe_ix ix_list (pe_ix ix_list (pv 0) pe_int (fun _ _ => rfl)) (pv 2) (fun _ _ => rfl))))
            (pss_one (ps_if (pt_cmpR op_gt (pe_callB call_len_seq (by rfl) T.z_len PySem.boot_len (pa_cons (pe_ix ix_list (pv 0) pe_int (fun _ _ => rfl)) pa_nil)) pe_int (nomark _))
            (pss_one (ps_set (i := 3) sc_Lnext.nd rfl (Or.inl rfl) (pe_op op_add (pe_op op_mod (pe_ix ix_list (pe_ix ix_list (pv 0) pe_int (fun _ _ => rfl)) (pe_op op_mod (pe_op op_mul (pv 2) pe_int) (pe_callB call_len_seq (by rfl) T.z_len PySem.boot_len (pa_cons (pe_ix ix_list (pv 0) pe_int (fun _ _ => rfl)) pa_nil))) (fun _ _ => rfl)) pe_int) (pe_op op_mul (pv 2) pe_int))))
            pss_nil)))
          (pss_cons (ps_asg (pe_op op_add (pv 2) pe_int) (pg_sub (pv 0) pe_int set_list))
          (pss_one (ps_asg (pe_call (ok_Lfill T) (hr.mono (by decide)) (by rfl) T.g_Lfill T.F_Lfill.kp T.b_Lfill .nil pass0 (pa_cons (pv 3) (pa_cons (pv 2) pa_nil))) (pg_sub (pv 0) pe_int set_list)))))))
            pss_nil)
          (pss_cons (ps_set (i := 4) sc_Lnext.nd rfl (Or.inl rfl) (pe_op op_mod (pe_ix ix_list (pv 0) pe_int (fun _ _ => rfl)) (pv 1)))
          (pss_cons (ps_asg (pe_op op_fdiv (pe_ix ix_list (pv 0) pe_int (fun _ _ => rfl)) (pv 1)) (pg_sub (pv 0) pe_int set_list))
          (pss_shut (pss_one (ps_ret (pv 4)))))))), ?_⟩
    rw [show start ["_law_pen", "_law_many", "_law_at", "_law_cell", "_law_found"] [V.ref a, V.int m] = [some (V.ref a), some (V.int m), none, none, none] from rfl]
    try dsimp only [cxOf]
    refine w_open hp fun i c i0 => ?_
    generalize hX : upd H a _ = H1
    obtain ⟨u1, h1⟩ := gen2 hX
    clear hX
    have s1 : SqL K H1 sc _ := u1.seq hp hsc
    refine w_cut (fun σ' H' => ∃ (i c : Int) (x y : Option V), 0 ≤ i ∧ σ' = [some (.ref a), some (.int m), x, y, none] ∧ Mu a H H' ∧ H' a = some (.lst [.ref sc, .int i, .int c])) ?_ ?_
    · walk_at "rd"
      refine ite2 (fun _ => ?_) (fun _ => ?_)
      · walk_at "rd"
        refine w_cut (fun σ' H' => ∃ c : Int, σ' = [some (.ref a), some (.int m), some (.int i), some (.int c), none] ∧ H' = H1) ?_ ?_
        · walk_at "rd"
          refine ite2 (fun h => ?_) (fun h => ?_)
          · have h' := of_decide_eq_true h
            rw [List.length_map] at h'
            obtain ⟨v, hv⟩ := at_ints i0 h'
            walk_at "rd"
            exact ⟨v, rfl, rfl⟩
          · walk_at "rd"
            refine ite2 (fun h2 => ?_) (fun h2 => ?_)
            · have h2' := of_decide_eq_true h2
              have b0 : 0 ≤ i * 7 % ((ns.map V.int).length : Int) := Int.emod_nonneg _ (by omega)
              have b1 : i * 7 % ((ns.map V.int).length : Int) < (ns.length : Int) := by
                have := Int.emod_lt_of_pos (i * 7) h2'
                rw [List.length_map] at this ⊢
                exact this
              obtain ⟨v, hv⟩ := at_ints b0 b1
              walk_at "rd"
              exact ⟨_, rfl, rfl⟩
            · walk_at "rd"
              exact ⟨_, rfl, rfl⟩
        · rintro _ _ ⟨c2, rfl, rfl⟩
          walk_at "rd"
          refine ⟨c2, i, rfl, fun r => ?_⟩
          walk_at "rd"
          rename_i Ha ua ha Hb ub hb
          exact ⟨i + 1, r, _, _, by omega, rfl, (u1.trans ua).trans ub, hb⟩
      · walk_at "rd"
        exact ⟨i, c, _, _, i0, rfl, u1, h1⟩
    · rintro _ H2 ⟨i, c, x, y, i0, rfl, u2, h2⟩
      walk_at "rd"
      rename_i Ha ua ha
      refine w_shut (i := i) (c := c / m) ha i0 ?_
      walk_at "rd"
      exact q _ _ (Int.emod_nonneg _ (by omega)) (Int.emod_lt_of_pos _ m0) (pen_ex (u2.trans ua) hp)
theorem u_next {a sc : Addr} {ns : List Int} {m : Int} {H : Hp} {Q : VK} {E : XK} (h : H a = some (PenO a sc)) (hs : SqL K H sc (ns.map V.int)) (hm : 0 < m ∧ m < 1000000) (q : ∀ (r : Int) H', 0 ≤ r → r < m → Ex H H' → Q (.int r) H') :
    spNext K [.ref a, .int m] H Q E := ⟨a, sc, ns, m, rfl, h, hs, hm.1, hm.2, q⟩
end

theorem w_mulS2 {z : Str} {n : Int} {H : Hp} {Q : VK} (hz : TxtOk 2 z) (h : -1000 ≤ n ∧ n ≤ 45) (q : ∀ r : Str, TxtOk 90 r → Q (.str r) H) : rMulS (.str z) (.int n) H Q := ⟨z, n, rfl, rfl, Nat.le_trans hz.1 (by decide), h.1, by omega, fun r hr er => q r ⟨by
  have a : z.length * n.toNat ≤ 2 * 45 := Nat.mul_le_mul hz.1 (by omega)
  omega, by rw [er]; exact mul_ok hz.2⟩⟩

local macro_rules | `(tactic| walk_at "rd1") => `(tactic| first
  | ((with_reducible show rMulS _ _ _ _); refine w_mulS2 (by first | exact ⟨Nat.le_trans (And.left (by assumption : TxtOk 1 _)) (by decide), And.right (by assumption : TxtOk 1 _)⟩ | (show TxtOk 2 (Str.ofString _); decide +kernel)) (by walk_at "ln") ?_; intro r hr))

local macro_rules | `(tactic| walk_at "rd1") => `(tactic| ((with_reducible show spNext _ _ _ _ _); refine u_next (by walk_at "ho") (by walk_at "sl") (by walk_at "ln") ?_; intro r H2 hr0 hr1 e2))

section
variable {P : Program} {w : World} {K : PySem.W.Frag} {mg : Str → Option Value} {base : Heap}
def spWords (K : PySem.W.Frag) : Sp := fun vs H Q _ => ∃ (a sc : Addr) (ns : List Int) (m : Int), vs = [.ref a, .int m] ∧ H a = some (PenO a sc) ∧ SqL K H sc (ns.map V.int) ∧ 0 ≤ m ∧ m ≤ 20 ∧
  ∀ (p : Addr) (ws : List Str) H', H p = none → Ex H H' → H' p = some (.lst (ws.map V.str)) → (ws.length : Int) = m → (∀ z ∈ ws, TxtOk 160 z) → Q (.ref p) H'
theorem ok_Lwords (T : Top K mg) : FnOk P w K mg base CX0 3 T.f_Lwords T.d_Lwords ["_law_pen", "_law_many"] (spWords K) := by
  refine T.F_Lwords.ok sc_Lwords (fun vs H Q E h => ?_) (fun cdv A outer s H vs Q E hr h => ?_)
  · obtain ⟨a, sc, ns, m, rfl, _⟩ := h
    rfl
  · obtain ⟨a, sc, ns, m, rfl, hp, hsc, m0, m1, q⟩ := h
    refine ⟨_, (pss_cons (ps_set (i := 2) sc_Lwords.nd rfl (Or.inl rfl) (pe_call (ok_Lnext T) (hr.mono (by decide)) (by rfl) T.g_Lnext T.F_Lnext.kp T.b_Lnext .nil pass0 (pa_cons (pv 0) (pa_cons pe_int pa_nil))))
          (pss_cons (ps_set (i := 3) sc_Lwords.nd rfl (Or.inl rfl) (pe_lst (pa_cons pe_str (pa_cons pe_str (pa_cons pe_str (pa_cons pe_str (pa_cons pe_str (pa_cons pe_str (pa_cons pe_str (pa_cons pe_str (pa_cons pe_str (pa_cons pe_str (pa_cons pe_str (pa_cons pe_str pa_nil))))))))))))))
          (pss_cons (ps_set (i := 4) sc_Lwords.nd rfl (Or.inl rfl) pe_str)
          (pss_cons (ps_set (i := 5) sc_Lwords.nd rfl (Or.inl rfl) (pe_op op_add_str (pv 4) pe_str))
          (pss_cons (ps_set (i := 6) sc_Lwords.nd rfl (Or.inl rfl) (pe_ix ix_str (pv 4) (pe_call (ok_Lnext T) (hr.mono (by decide)) (by rfl) T.g_Lnext T.F_Lnext.kp T.b_Lnext .nil pass0 (pa_cons (pv 0) (pa_cons pe_int pa_nil))) (fun _ _ => rfl)))
          (pss_cons (ps_set (i := 7) sc_Lwords.nd rfl (Or.inl rfl) (pe_ix ix_str (pv 5) (pe_call (ok_Lnext T) (hr.mono (by decide)) (by rfl) T.g_Lnext T.F_Lnext.kp T.b_Lnext .nil pass0 (pa_cons (pv 0) (pa_cons pe_int pa_nil))) (fun _ _ => rfl)))
          (pss_cons (ps_set (i := 8) sc_Lwords.nd rfl (Or.inl rfl) (pe_lst pa_nil))
          (pss_cons (ps_for PassesOwn.never rfl (pi_range1 rfl T.z_range (pa_cons (pv 1) pa_nil)) (pg_name (i := 9) sc_Lwords.nd rfl (Or.inl rfl))
            (pss_cons (ps_set (i := 10) sc_Lwords.nd rfl (Or.inl rfl) (pe_lst (pa_cons (pe_ix ix_str (pv 4) (pv 9) (fun _ _ => rfl)) (pa_cons (pe_op op_addA pe_str (pe_callTy cr_strA (by rfl) T.z_str (by decide +kernel) (pa_cons (pv 9) pa_nil))) (pa_cons (pe_op op_mul_str pe_str (pe_op op_add (pv 9) pe_int)) (pa_cons (pe_op op_addA (pe_op op_addA (pv 6) (pv 7)) (pe_callTy cr_strA (by rfl) T.z_str (by decide +kernel) (pa_cons (pv 9) pa_nil))) pa_nil))))))
          (pss_cons (ps_set (i := 10) sc_Lwords.nd rfl (Or.inl rfl) (pe_op op_cat (pv 10) (pe_lst (pa_cons (pe_op op_addA pe_str (pe_ix ix_str (pv 4) (pe_op op_sub pe_int (pv 9)) (fun _ _ => rfl))) (pa_cons (pe_op op_addA (pe_op op_addA (pe_op op_addA (pe_op op_mul_str (pv 6) pe_int) (pv 7)) (pe_callTy cr_strA (by rfl) T.z_str (by decide +kernel) (pa_cons (pv 9) pa_nil))) pe_str) pa_nil)))))
          (pss_cons (ps_set (i := 10) sc_Lwords.nd rfl (Or.inl rfl) (pe_op op_cat (pv 10) (pe_lst (pa_cons (pe_ix ix_list (pe_op op_cat (pv 3) (pe_op op_rep (pe_lst (pa_cons (pe_op op_addA pe_str (pe_callTy cr_strA (by rfl) T.z_str (by decide +kernel) (pa_cons (pv 9) pa_nil))) pa_nil)) pe_int)) (pv 9) (fun _ _ => rfl)) (pa_cons (pe_op op_addA pe_str (pe_op op_mul_str pe_str (pv 9))) pa_nil)))))
          (pss_one (ps_expr (pe_bm PySem.F.plainAttrs_list PySem.F.slot_list_append PySem.F.type_list_append mt_append (pv 8) (pa_cons (pe_ix ix_list (pv 10) (pv 2) (fun _ _ => rfl)) pa_nil))))))))
          (pss_one (ps_ret (pv 8))))))))))), ?_⟩
    rw [show start ["_law_pen", "_law_many", "_law_way", "_law_own", "_law_letters", "_law_signs", "_law_one", "_law_two", "_law_found", "_law_k", "_law_some"] [V.ref a, V.int m] = [some (V.ref a), some (V.int m), none, none, none, none, none, none, none, none, none] from rfl]
    try dsimp only [cxOf]
    walk_at "rd"
    rename_i way Hb w0 w1 eb po hpo Hc ec hown one Hd o0 o1 ed ro hro two He t0 t1 ee rt hrt pf hpf Hf ef hf
    have E0 : Ex H Hf := (((eb.trans ec).trans ed).trans ee).trans ef
    have hpf0 : H pf = none := fresh_back (((eb.trans ec).trans ed).trans ee) hpf
    have hL := (by decide +kernel : (Str.ofString "abcdefghijklmnopqrstuvwxyz").length = 26)
    refine l_range (fun i σ' H' => ∃ (ws : List Str) (x y : Option V), σ' = [some (V.ref a), some (V.int m), some (V.int way), some (V.ref po), some (V.str (Str.ofString "abcdefghijklmnopqrstuvwxyz")), some (V.str (Str.ofString "abcdefghijklmnopqrstuvwxyz" ++ Str.ofString "0123456789.")), some (V.str ro), some (V.str rt), some (V.ref pf), x, y] ∧ Ex H H' ∧ Mu pf Hf H' ∧ H' pf = some (.lst (ws.map V.str)) ∧ ws.length = i ∧ ∀ z ∈ ws, TxtOk 160 z)
      ⟨[], none, none, rfl, E0, fun _ _ _ h => h, hf, rfl, fun z h => nomatch h⟩ ?_ ?_
    · rintro k σ' H' hk ⟨ws, x, y, rfl, e1, mu, hw, hl, hsh⟩
      have hk2 : (k : Int) < 20 := by omega
      have hown' : H' po = some _ := mu po _ (fun z => by rw [z] at hown; exact absurd hpf (by rw [(ed.trans ee) _ _ hown]; intro q; cases q)) (((ed.trans ee).trans ef) _ _ hown)
      walk_at "rd"
      refine w_cat (by walk_at "ho") (by walk_at "ho") (by show (12 + 20 : Nat) ≤ 100000; decide) ?_
      walk_at "rd"
      refine w_ixLP (by walk_at "sl") (by omega) (Int.lt_of_lt_of_le hk2 (by show (20 : Int) ≤ ((32 : Nat) : Int); decide)) fun v hv => ?_
      obtain ⟨ov, rfl, hov⟩ : Short 160 v := by
        rcases List.mem_append.mp hv with hv | hv
        · simp only [List.mem_cons, List.not_mem_nil, or_false] at hv
          rcases hv with rfl | rfl | rfl | rfl | rfl | rfl | rfl | rfl | rfl | rfl | rfl | rfl <;> exact short_lit (by decide +kernel) (by decide)
        · obtain ⟨l, hl1, hl2⟩ := List.mem_flatten.mp hv
          rw [(List.mem_replicate.mp hl1).2, List.mem_singleton] at hl2
          subst hl2
          exact short_of (by assumption) (by decide)
      walk_at "rd"
      refine w_ixLP (by walk_at "sl") w0 (by show way < ((8 : Nat) : Int); omega) fun v hv => ?_
      obtain ⟨nw, rfl, hnw⟩ : Short 160 v := by
        simp only [List.mem_append, List.mem_cons, List.not_mem_nil, or_false] at hv
        rcases hv with ((rfl | rfl | rfl | rfl) | (rfl | rfl)) | (rfl | rfl) <;> exact short_of (by assumption) (by decide)
      walk_at "rd"
      rename_i Hl ml hm
      refine ⟨ws ++ [nw], _, _, rfl, ml.ex (e1.trans (by walk_at "ex")) hpf0, mu.trans ((Mu.of (by walk_at "ex")).trans ml), by rw [List.map_append]; exact hm, by rw [List.length_append, hl]; rfl, fun z hz => ?_⟩
      rcases List.mem_append.mp hz with hz | hz
      · exact hsh z hz
      · rw [List.mem_singleton] at hz
        rw [hz]
        exact hnw
    · rintro σ' H' ⟨ws, x, y, rfl, e1, mu, hw, hl, hsh⟩
      walk_at "rd"
      exact q _ ws _ hpf0 e1 hw (by omega) hsh
end

section
variable {P : Program} {w : World} {K : PySem.W.Frag} {mg : Str → Option Value} {base : Heap}
def WordsAt (H : Hp) (p : Addr) (xs : List Str) : Prop := H p = some (.lst (xs.map V.str)) ∧ 0 < xs.length ∧ xs.length ≤ 20
def spRow (K : PySem.W.Frag) : Sp := fun vs H Q _ => ∃ (a sc pn pb ps : Addr) (ns : List Int) (xs bs ss : List Str), vs = [.ref a, .ref pn, .ref pb, .ref ps] ∧ H a = some (PenO a sc) ∧ SqL K H sc (ns.map V.int) ∧
  WordsAt H pn xs ∧ WordsAt H pb bs ∧ WordsAt H ps ss ∧ ∀ (p : Addr) (r : Row) H', H p = none → Ex H H' → H' p = some (.tup (rowV r)) → RowIn xs bs ss r → Q (.ref p) H'
theorem ok_Lrow (T : Top K mg) : FnOk P w K mg base CX0 3 T.f_Lrow T.d_Lrow ["_law_pen", "_law_names", "_law_boxes", "_law_slots"] (spRow K) := by
  refine T.F_Lrow.ok sc_Lrow (fun vs H Q E h => ?_) (fun cdv A outer s H vs Q E hr h => ?_)
  · obtain ⟨a, sc, pn, pb, ps, ns, xs, bs, ss, rfl, _⟩ := h
    rfl
  · obtain ⟨a, sc, pn, pb, ps, ns, xs, bs, ss, rfl, hp, hsc, ⟨hn, n0, n1⟩, ⟨hb, b0, b1⟩, ⟨hs, s0, s1⟩, q⟩ := h
    refine ⟨_, (pss_cons (ps_set (i := 4) sc_Lrow.nd rfl (Or.inl rfl) (pe_call (ok_Lnext T) (hr.mono (by decide)) (by rfl) T.g_Lnext T.F_Lnext.kp T.b_Lnext .nil pass0 (pa_cons (pv 0) (pa_cons pe_int pa_nil))))
          (pss_cons (ps_set (i := 5) sc_Lrow.nd rfl (Or.inl rfl) (pe_ix ix_list (pv 1) (pe_call (ok_Lnext T) (hr.mono (by decide)) (by rfl) T.g_Lnext T.F_Lnext.kp T.b_Lnext .nil pass0 (pa_cons (pv 0) (pa_cons (pe_callB call_len_seq (by rfl) T.z_len PySem.boot_len (pa_cons (pv 1) pa_nil)) pa_nil))) (fun _ _ => rfl)))
          (pss_cons (ps_set (i := 6) sc_Lrow.nd rfl (Or.inl rfl) (pe_ix ix_list (pv 1) (pe_call (ok_Lnext T) (hr.mono (by decide)) (by rfl) T.g_Lnext T.F_Lnext.kp T.b_Lnext .nil pass0 (pa_cons (pv 0) (pa_cons (pe_callB call_len_seq (by rfl) T.z_len PySem.boot_len (pa_cons (pv 1) pa_nil)) pa_nil))) (fun _ _ => rfl)))
          (pss_cons (ps_set (i := 7) sc_Lrow.nd rfl (Or.inl rfl) (pe_ix ix_list (pv 2) (pe_call (ok_Lnext T) (hr.mono (by decide)) (by rfl) T.g_Lnext T.F_Lnext.kp T.b_Lnext .nil pass0 (pa_cons (pv 0) (pa_cons (pe_callB call_len_seq (by rfl) T.z_len PySem.boot_len (pa_cons (pv 2) pa_nil)) pa_nil))) (fun _ _ => rfl)))
          (pss_cons (ps_set (i := 8) sc_Lrow.nd rfl (Or.inl rfl) (pe_ix ix_list (pv 3) (pe_call (ok_Lnext T) (hr.mono (by decide)) (by rfl) T.g_Lnext T.F_Lnext.kp T.b_Lnext .nil pass0 (pa_cons (pv 0) (pa_cons (pe_callB call_len_seq (by rfl) T.z_len PySem.boot_len (pa_cons (pv 3) pa_nil)) pa_nil))) (fun _ _ => rfl)))
          (pss_cons (ps_if (pt_cmpR op_lt (pv 4) pe_int (nomark _))
            (pss_one (ps_ret (pe_tup (pa_cons pe_str (pa_cons (pv 5) (pa_cons (pv 7) pa_nil))))))
            pss_nil)
          (pss_cons (ps_if (pt_cmpR op_lt (pv 4) pe_int (nomark _))
            (pss_one (ps_ret (pe_tup (pa_cons pe_str (pa_cons (pv 5) (pa_cons (pv 6) pa_nil))))))
            pss_nil)
          (pss_one (ps_ret (pe_ix ix_list (pe_lst (pa_cons (pe_tup (pa_cons pe_str (pa_cons (pv 5) (pa_cons (pv 8) (pa_cons (pv 6) pa_nil))))) (pa_cons (pe_tup (pa_cons pe_str (pa_cons (pv 5) (pa_cons (pv 8) (pa_cons (pv 6) pa_nil))))) pa_nil))) (pe_op op_mod (pv 4) pe_int) (fun _ _ => rfl))))))))))), ?_⟩
    rw [show start ["_law_pen", "_law_names", "_law_boxes", "_law_slots", "_law_way", "_law_x", "_law_y", "_law_box", "_law_slot"] [V.ref a, V.ref pn, V.ref pb, V.ref ps] = [some (V.ref a), some (V.ref pn), some (V.ref pb), some (V.ref ps), none, none, none, none, none] from rfl]
    try dsimp only [cxOf]
    walk_at "rd"
    rename_i i1 H1 i0 i2 e1
    rw [List.length_map] at i2
    obtain ⟨x, hx, ax⟩ := at_strs i0 i2
    walk_at "rd"
    rename_i j1 H2 j0 j2 e2
    rw [List.length_map] at j2
    obtain ⟨y, hy, ay⟩ := at_strs j0 j2
    walk_at "rd"
    rename_i k1 H3 k0 k2 e3
    rw [List.length_map] at k2
    obtain ⟨b, hbb, ab⟩ := at_strs k0 k2
    walk_at "rd"
    rename_i l1 H4 l0 l2 e4
    rw [List.length_map] at l2
    obtain ⟨sl, hsl, asl⟩ := at_strs l0 l2
    walk_at "rd"
    refine ite2 (fun _ => ?_) (fun _ => ?_)
    · walk_at "rd"
      rename_i p hp0 H5 e5 h5
      exact q p (.new x b) _ (fresh_back (by walk_at "ex") hp0) (by walk_at "ex") h5 ⟨hx, hbb⟩
    · walk_at "rd"
      refine ite2 (fun _ => ?_) (fun _ => ?_)
      · walk_at "rd"
        rename_i p hp0 H5 e5 h5
        exact q p (.move x y) _ (fresh_back (by walk_at "ex") hp0) (by walk_at "ex") h5 ⟨hx, hy⟩
      · walk_at "rd"
        rename_i p1 hp1 H5 e5 h5 p2 hp2 H6 e6 h6 p3 hp3 H7 e7 h7
        refine w_ixLP (by walk_at "sl") (Int.emod_nonneg _ (by decide)) (by show _ < ((2 : Nat) : Int); exact Int.emod_lt_of_pos _ (by decide)) fun v hv => ?_
        simp only [List.mem_cons, List.not_mem_nil, or_false] at hv
        rcases hv with rfl | rfl
        · exact q p1 (.put x sl y) _ (fresh_back (by walk_at "ex") hp1) (by walk_at "ex") (by walk_at "ho") ⟨hx, hsl, hy⟩
        · exact q p2 (.take x sl y) _ (fresh_back (by walk_at "ex") hp2) (by walk_at "ex") (by walk_at "ho") ⟨hx, hsl, hy⟩
theorem u_words {a sc : Addr} {ns : List Int} {m : Int} {H : Hp} {Q : VK} {E : XK} (h : H a = some (PenO a sc)) (hs : SqL K H sc (ns.map V.int)) (hm : 1 ≤ m ∧ m ≤ 20)
    (q : ∀ (p : Addr) (ws : List Str) H', H p = none → Ex H H' → WordsAt H' p ws → (∀ z ∈ ws, TxtOk 160 z) → Q (.ref p) H') : spWords K [.ref a, .int m] H Q E :=
  ⟨a, sc, ns, m, rfl, h, hs, by omega, by omega, fun p ws H' h1 h2 h3 h4 h5 => q p ws H' h1 h2 ⟨h3, by omega, by omega⟩ h5⟩
theorem u_row {a sc pn pb ps : Addr} {ns : List Int} {xs bs ss : List Str} {H : Hp} {Q : VK} {E : XK} (h : H a = some (PenO a sc)) (hs : SqL K H sc (ns.map V.int)) (h1 : WordsAt H pn xs) (h2 : WordsAt H pb bs) (h3 : WordsAt H ps ss)
    (q : ∀ (p : Addr) (r : Row) H', H p = none → Ex H H' → H' p = some (.tup (rowV r)) → RowIn xs bs ss r → Q (.ref p) H') : spRow K [.ref a, .ref pn, .ref pb, .ref ps] H Q E :=
  ⟨a, sc, pn, pb, ps, ns, xs, bs, ss, rfl, h, hs, h1, h2, h3, q⟩
theorem WordsAt.ex {H H' : Hp} {p : Addr} {xs : List Str} (h : WordsAt H p xs) (e : Ex H H') : WordsAt H' p xs := ⟨e _ _ h.1, h.2⟩
end

local macro_rules | `(tactic| walk_at "wo") => `(tactic| first | assumption | exact WordsAt.ex (by walk_at "wo1") (by walk_at "ex"))
local macro_rules | `(tactic| walk_at "wo1") => `(tactic| assumption)
local macro_rules | `(tactic| walk_at "rd1") => `(tactic| ((with_reducible show spWords _ _ _ _ _); refine u_words (by walk_at "ho") (by walk_at "sl") (by walk_at "ln") ?_; intro p ws H2 hp e2 h2 hws))
local macro_rules | `(tactic| walk_at "rd1") => `(tactic| ((with_reducible show spRow _ _ _ _ _); refine u_row (by walk_at "ho") (by walk_at "sl") (by walk_at "wo") (by walk_at "wo") (by walk_at "wo") ?_; intro p r H2 hp e2 h2 hri))

section
variable {P : Program} {w : World} {K : PySem.W.Frag} {mg : Str → Option Value} {base : Heap}
/-- a program at p -/
def ProgAt (H : Hp) (p : Addr) (rows : List Row) : Prop := ∃ vs : List V, H p = some (.tup vs) ∧ vs.length = rows.length ∧ ∀ (i : Nat) r, rows[i]? = some r → ∃ v, vs[i]? = some v ∧ RowAt r v H
theorem ProgAt.ex {H H' : Hp} {p : Addr} {rows : List Row} (h : ProgAt H p rows) (e : Ex H H') : ProgAt H' p rows := by
  obtain ⟨vs, h1, h2, h3⟩ := h
  exact ⟨vs, e _ _ h1, h2, fun i r hr => let ⟨v, a, b⟩ := h3 i r hr; ⟨v, a, (rowAt_keeps r).1 _ _ _ e b⟩⟩
def AllIn (xs bs ss : List Str) (rows : List Row) : Prop := ∀ r ∈ rows, RowIn xs bs ss r
/-- items told one by one are a list's -/
theorem rows_of {H : Hp} {xs bs ss : List Str} : ∀ (vs : List V), (∀ (i : Nat) y, vs[i]? = some y → RowOf xs bs ss y H) → ∃ rows : List Row, vs.length = rows.length ∧ (∀ (i : Nat) r, rows[i]? = some r → ∃ v, vs[i]? = some v ∧ RowAt r v H) ∧ AllIn xs bs ss rows
  | [], _ => ⟨[], rfl, fun i r h => by simp at h, fun r h => nomatch h⟩
  | v :: vs, h => by
    obtain ⟨rows, h1, h2, h3⟩ := rows_of vs fun i y (e : vs[i]? = some y) => h (i + 1) y e
    obtain ⟨r, r1, r2⟩ := h 0 v rfl
    refine ⟨r :: rows, by rw [List.length_cons, List.length_cons, h1], fun i r' e => ?_, fun r' e => ?_⟩
    · cases i with
      | zero =>
        have : r = r' := Option.some.inj e
        subst this
        exact ⟨v, rfl, r2⟩
      | succ i => exact h2 i r' e
    · rcases List.mem_cons.mp e with rfl | e
      · exact r1
      · exact h3 _ e
def spProgram (K : PySem.W.Frag) : Sp := fun vs H Q _ => ∃ (a sc : Addr) (ns : List Int) (m : Int), vs = [.ref a, .int m] ∧ H a = some (PenO a sc) ∧ SqL K H sc (ns.map V.int) ∧ 0 ≤ m ∧ m ≤ 60 ∧
  ∀ (p : Addr) (rows : List Row) (xs bs ss : List Str) H', H p = none → Ex H H' → ProgAt H' p rows → (rows.length : Int) ≤ m → AllIn xs bs ss rows → xs.length ≤ 20 → bs.length ≤ 20 → ss.length ≤ 20 →
    (∀ z ∈ xs, TxtOk 160 z) → (∀ z ∈ bs, TxtOk 160 z) → (∀ z ∈ ss, TxtOk 160 z) → Q (.ref p) H'
theorem ok_Lprogram (T : Top K mg) : FnOk P w K mg base CX0 4 T.f_Lprogram T.d_Lprogram ["_law_pen", "_law_most"] (spProgram K) := by
  refine T.F_Lprogram.ok sc_Lprogram (fun vs H Q E h => ?_) (fun cdv A outer s H vs Q E hr h => ?_)
  · obtain ⟨a, sc, ns, m, rfl, _⟩ := h
    rfl
  · obtain ⟨a, sc, ns, m, rfl, hp, hsc, m0, m1, q⟩ := h
    refine ⟨_, (pss_cons (ps_set (i := 2) sc_Lprogram.nd rfl (Or.inl rfl) (pe_call (ok_Lnext T) (hr.mono (by decide)) (by rfl) T.g_Lnext T.F_Lnext.kp T.b_Lnext .nil pass0 (pa_cons (pv 0) (pa_cons (pe_op op_add (pv 1) pe_int) pa_nil))))
          (pss_cons (ps_set (i := 3) sc_Lprogram.nd rfl (Or.inl rfl) (pe_ix ix_list (pe_lst (pa_cons (pe_lst (pa_cons pe_int (pa_cons pe_int (pa_cons pe_int pa_nil)))) (pa_cons (pe_lst (pa_cons pe_int (pa_cons pe_int (pa_cons pe_int pa_nil)))) (pa_cons (pe_lst (pa_cons pe_int (pa_cons pe_int (pa_cons pe_int pa_nil)))) (pa_cons (pe_lst (pa_cons pe_int (pa_cons pe_int (pa_cons pe_int pa_nil)))) (pa_cons (pe_lst (pa_cons pe_int (pa_cons pe_int (pa_cons pe_int pa_nil)))) (pa_cons (pe_lst (pa_cons pe_int (pa_cons pe_int (pa_cons pe_int pa_nil)))) pa_nil))))))) (pe_call (ok_Lnext T) (hr.mono (by decide)) (by rfl) T.g_Lnext T.F_Lnext.kp T.b_Lnext .nil pass0 (pa_cons (pv 0) (pa_cons pe_int pa_nil))) (fun _ _ => rfl)))
          (pss_cons (ps_set (i := 4) sc_Lprogram.nd rfl (Or.inr rfl) (pe_call (ok_Lwords T) (hr.mono (by decide)) (by rfl) T.g_Lwords T.F_Lwords.kp T.b_Lwords .nil pass0 (pa_cons (pv 0) (pa_cons (pe_op op_add pe_int (pe_call (ok_Lnext T) (hr.mono (by decide)) (by rfl) T.g_Lnext T.F_Lnext.kp T.b_Lnext .nil pass0 (pa_cons (pv 0) (pa_cons (pe_ix ix_list (pv 3) pe_int (fun _ _ => rfl)) pa_nil)))) pa_nil))))
          (pss_cons (ps_set (i := 5) sc_Lprogram.nd rfl (Or.inr rfl) (pe_call (ok_Lwords T) (hr.mono (by decide)) (by rfl) T.g_Lwords T.F_Lwords.kp T.b_Lwords .nil pass0 (pa_cons (pv 0) (pa_cons (pe_op op_add pe_int (pe_call (ok_Lnext T) (hr.mono (by decide)) (by rfl) T.g_Lnext T.F_Lnext.kp T.b_Lnext .nil pass0 (pa_cons (pv 0) (pa_cons (pe_ix ix_list (pv 3) pe_int (fun _ _ => rfl)) pa_nil)))) pa_nil))))
          (pss_cons (ps_set (i := 6) sc_Lprogram.nd rfl (Or.inr rfl) (pe_call (ok_Lwords T) (hr.mono (by decide)) (by rfl) T.g_Lwords T.F_Lwords.kp T.b_Lwords .nil pass0 (pa_cons (pv 0) (pa_cons (pe_op op_add pe_int (pe_call (ok_Lnext T) (hr.mono (by decide)) (by rfl) T.g_Lnext T.F_Lnext.kp T.b_Lnext .nil pass0 (pa_cons (pv 0) (pa_cons (pe_ix ix_list (pv 3) pe_int (fun _ _ => rfl)) pa_nil)))) pa_nil))))
          (pss_one (ps_ret (pe_callTy call_tuple_of (by rfl) T.z_tuple (by decide +kernel) (pa_cons (pe_lc (own := [("_law_k", 7)]) (g := gName 7) (tt := tYes) (by rfl) sc_Lprogram.nd (pi_range1 rfl T.z_range (pa_cons (pv 2) pa_nil)) (blkOk_by (own := [("_law_k", 7)]) (N := ["_law_pen", "_law_most", "_law_many", "_law_sizes", "_law_names", "_law_boxes", "_law_slots", "_law_k"]) (sc := defScope s_Lprogram) (by decide +kernel)) (fun _ _ _ _ _ => pg_name (i := 7) sc_Lprogram.nd rfl (Or.inl rfl)) (fun _ _ _ _ _ => pts_nil) (fun _ _ _ _ _ => (pe_call (ok_Lrow T) (hr.mono (by decide)) (by rfl) T.g_Lrow T.F_Lrow.kp T.b_Lrow .nil pass0 (pa_cons (pv 0) (pa_cons (pv 4) (pa_cons (pv 5) (pa_cons (pv 6) pa_nil))))))) pa_nil))))))))), ?_⟩
    rw [show start ["_law_pen", "_law_most", "_law_many", "_law_sizes", "_law_names", "_law_boxes", "_law_slots", "_law_k"] [V.ref a, V.int m] = [some (V.ref a), some (V.int m), none, none, none, none, none, none] from rfl]
    try dsimp only [cxOf]
    walk_at "rd"
    rename_i many Hm many0 many1 em q1 hq1 H1 e1 h1 q2 hq2 H2 e2 h2 q3 hq3 H3 e3 h3 q4 hq4 H4 e4 h4 q5 hq5 H5 e5 h5 q6 hq6 H6 e6 h6 q7 hq7 H7 e7 h7 way H8 way0 way1 e8
    refine w_ixLP (by walk_at "sl") way0 (by show way < ((6 : Nat) : Int); omega) fun v hv => ?_
    obtain ⟨pz, c0, c1, c2, rfl, hz, hc⟩ : ∃ (pz : Addr) (c0 c1 c2 : Int), v = .ref pz ∧ H8 pz = some (.lst [.int c0, .int c1, .int c2]) ∧ 1 ≤ c0 ∧ c0 ≤ 20 ∧ 1 ≤ c1 ∧ c1 ≤ 20 ∧ 1 ≤ c2 ∧ c2 ≤ 20 := by
      simp only [List.mem_cons, List.not_mem_nil, or_false] at hv
      rcases hv with rfl | rfl | rfl | rfl | rfl | rfl
      · exact ⟨_, _, _, _, rfl, by walk_at "ho", by decide⟩
      · exact ⟨_, _, _, _, rfl, by walk_at "ho", by decide⟩
      · exact ⟨_, _, _, _, rfl, by walk_at "ho", by decide⟩
      · exact ⟨_, _, _, _, rfl, by walk_at "ho", by decide⟩
      · exact ⟨_, _, _, _, rfl, by walk_at "ho", by decide⟩
      · exact ⟨_, _, _, _, rfl, by walk_at "ho", by decide⟩
    clear hq1 h1 hq2 h2 hq3 h3 hq4 h4 hq5 h5 hq6 h6 h7 hq7 hv
    walk_at "rd"
    rename_i r1 H9 r10 r11 e9 px xs H10 hpx e10 hxs kxs r2 H11 r20 r21 e11 pb bs H12 hpb e12 hbs kbs r3 H13 r30 r31 e13 ps ss H14 hps e14 hss kss
    refine c_range (fun _ => RowOf xs bs ss) (fun _ => rowOf_keeps xs bs ss) (by omega) (fun _ => rfl) (fun i H' Q' hi e Hq => ?_) (fun p ys H2 hp e2 h2 hl hy => ?_)
    · walk_at "rd"
      rename_i pr r Hr hpr er hr' hri
      exact Hq _ _ (by walk_at "ex") ⟨r, hri, pr, rfl, hr'⟩
    · obtain ⟨rows, l1, l2, l3⟩ := rows_of ys hy
      walk_at "rd"
      rename_i pt hpt Ht et ht
      exact q pt rows xs bs ss Ht (fresh_back (by walk_at "ex") hpt) (by walk_at "ex") (ProgAt.ex ⟨ys, by walk_at "ho", l1, fun i r hr => let ⟨v, a, b⟩ := l2 i r hr; ⟨v, a, (rowAt_keeps r).1 _ _ _ et b⟩⟩ (Ex.refl _)) (by omega) l3 hxs.2.2 hbs.2.2 hss.2.2 kxs kbs kss
end

section
variable {P : Program} {w : World} {K : PySem.W.Frag} {H : Hp} {Q : VK} {σ : L2.St}
theorem w_uget {td ty : TE} (h : td σ H fun x H1 => ty σ H1 fun y H2 => ∃ a v, x = .ref a ∧ UGet P w K H2 a y (some v) ∧ Q v H2) : tUGet P w K td ty σ H Q := h
theorem w_uget1 {td ty : TE} (h : td σ H fun x H1 => ∃ a, x = .ref a ∧ UDict P w H1 a ∧ ty σ H1 fun y H2 => ∃ o, UGet P w K H2 a y o ∧ Q (o.getD .non) H2) : tUGet1 P w K td ty σ H Q := h
theorem w_uget2 {td ty tx : TE} (h : td σ H fun x H1 => ∃ a, x = .ref a ∧ UDict P w H1 a ∧ ty σ H1 fun y H2 => tx σ H2 fun z H3 => ∃ o, UGet P w K H3 a y o ∧ Q (o.getD z) H3) : tUGet2 P w K td ty tx σ H Q := h
theorem w_upop2 {td ty tx : TE} (h : td σ H fun x H1 => ∃ a, x = .ref a ∧ UDict P w H1 a ∧ ty σ H1 fun y H2 => tx σ H2 fun z H3 =>
  (∃ kvs k, H3 a = some (.dK kvs) ∧ y = kV k ∧ (∀ v, valV kvs k = some v → Q v (upd H3 a (.dK (dropK kvs k)))) ∧ (valV kvs k = none → Q z H3)) ∨
  ∃ kvs k b, H3 a = some (DnO P w a kvs) ∧ KsAt K H3 kvs ∧ KyD K H3 y k ∧ y = .ref b ∧ k.depth ≤ 8 ∧ (∀ v, valN kvs k = some v → Q v (upd H3 a (DnO P w a (dropN kvs k)))) ∧ (valN kvs k = none → Q z H3)) : tUPop2 P w K td ty tx σ H Q := h
theorem w_uput {td ty tv : TE} {D : Ends} (h : tv σ H fun v H1 => td σ H1 fun x H2 => ty σ H2 fun y H3 => ∃ a H4, x = .ref a ∧ UPut P w K H3 a y v H4 ∧ D.nx σ H4) : sUPut P w K td ty tv D σ H := h
theorem w_uin {td ty : TE} (h : ty σ H fun y H1 => td σ H1 fun x H2 => ∃ a o, x = .ref a ∧ UGet P w K H2 a y o ∧ Q (.bl o.isSome) H2) : tUIn P w K ty td σ H Q := h
theorem w_gTup {n : Nat} {t : TGs} {v : V} {R : L2.St → Hp → Prop} (h : ∃ a xs, v = .ref a ∧ SqT K H a xs ∧ xs.length = n ∧ t xs σ H R) : gTup K n t v σ H R := h
theorem w_gCons {t : TG} {u : TGs} {x : V} {xs : List V} {R : L2.St → Hp → Prop} (h : t x σ H fun σ1 H1 => u xs σ1 H1 R) : gCons t u (x :: xs) σ H R := ⟨x, xs, rfl, h⟩
theorem w_gNil {R : L2.St → Hp → Prop} (h : R σ H) : gNil [] σ H R := ⟨rfl, h⟩
theorem udK {H : Hp} {a : Addr} {ws : List (L2.Key × V)} (h : H a = some (.dK ws)) : UDict P w H a := .inl ⟨ws, .inl h⟩
theorem udG {a : Addr} {y : V} {o : Option V} (g : UGet P w K H a y o) : UDict P w H a := by
  rcases g with ⟨kvs, k, e, _⟩ | ⟨kvs, k, e, _⟩
  · exact .inl ⟨_, e⟩
  · exact .inr ⟨_, e⟩
theorem udN {H : Hp} {a : Addr} {ws : List Nkv} (h : H a = some (DnO P w a ws)) : UDict P w H a := .inr ⟨ws, .inl h⟩
end
section
variable {P : Program} {w : World} {K : PySem.W.Frag} {B F H H2 : Hp} {M : Objs} {L : Facts} {p : Addr}
theorem RepF.none_ (r : RepF P w K B F H M L) (h : H p = none) : F p = none := by
  cases f : F p with
  | none => rfl
  | some z => rw [r.fh _ _ f] at h; cases h
theorem Rep.tupG {vs : List V} {ds : List PyData} (R : Rep P w K B H M L) (hp : H p = none) (e : Ex H H2) (h : H2 p = some (.tup vs)) (hv : Paired (Has L) vs ds) : Rep P w K B H2 M ((.ref p, .tuple ds) :: L) :=
  R.grow e fun F r => .tup (st_of (nw_new (r.none_ hp) hp h)) (dpAll_ex nw_ex (has_all r hv))
theorem Rep.listG {vs : List V} {ds : List PyData} (R : Rep P w K B H M L) (hp : H p = none) (e : Ex H H2) (h : H2 p = some (.lst vs)) (hv : Paired (Has L) vs ds) : Rep P w K B H2 M ((.ref p, .list ds) :: L) :=
  R.grow e fun F r => .lst (sq_of (nw_new (r.none_ hp) hp h)) (dpAll_ex nw_ex (has_all r hv))
/-- the heap has grown -/
theorem Rep.mono (R : Rep P w K B H M L) (e : Ex H H2) : Rep P w K B H2 M L := let ⟨F, r⟩ := R; ⟨F, r.nd, r.bf, r.fh.trans e, fun a o h => ⟨(r.ob a o h).1, obAt_ex (Ex.refl _) (fun u q => e _ _ q) (r.ob a o h).2⟩, r.dt⟩
theorem Rep.drop1 {x : V × PyData} (R : Rep P w K B H M (x :: L)) : Rep P w K B H M L := R.less fun _ h => .tail _ h
theorem has_hd {v : V} {d : PyData} : Has ((v, d) :: L) v d := .mem (List.mem_cons_self ..)
theorem has_tl {v : V} {d : PyData} {x : V × PyData} (h : Has L v d) : Has (x :: L) v d := by
  cases h with
  | mem h => exact .mem (.tail _ h)
  | non => exact .non
  | bl b => exact .bl b
  | int i => exact .int i
  | str x => exact .str x
theorem thD_ref {v : V} {t : PyData} {ds : List PyData} (h : Dp K H v t) (e : t = .tuple ds) : ∃ p, v = .ref p := by
  subst e
  cases h with
  | tup h _ => exact ⟨_, rfl⟩
end

local macro_rules | `(tactic| walk_at "rd1") => `(tactic| first
  | with_reducible refine w_uget ?_ | with_reducible refine w_uget1 ?_ | with_reducible refine w_uget2 ?_ | with_reducible refine w_upop2 ?_ | with_reducible refine w_uput ?_ | with_reducible refine w_uin ?_
  | with_reducible refine w_gCons ?_ | with_reducible refine w_gNil ?_)

section
variable {P : Program} {w : World} {K : PySem.W.Frag} {mg : Str → Option Value} {base : Heap}
def spGive (P : Program) (w : World) (K : PySem.W.Frag) : Sp := fun vs H Q _ => ∃ B M L, Rep P w K B H M L ∧
  ((∃ a i kvs k v s, vs = [.ref a, kV k, v] ∧ M[i]? = some (a, .dic kvs) ∧ kvs.length < 100000 ∧ ((v = .non ∧ ∀ H', Rep P w K B H' (M.set i (a, .dic (adel kvs k))) L → Q .non H') ∨ (v ≠ .non ∧ HasS L v s ∧ ∀ H', Rep P w K B H' (M.set i (a, .dic (aput kvs k s))) L → Q .non H'))) ∨
   (∃ a i kvs k b v s, vs = [.ref a, .ref b, v] ∧ M[i]? = some (a, .dicN kvs) ∧ Has L (.ref b) (nkD k) ∧ k.depth ≤ 8 ∧ kvs.length < 100000 ∧ ((v = .non ∧ ∀ H', Rep P w K B H' (M.set i (a, .dicN (adel kvs k))) L → Q .non H') ∨ (v ≠ .non ∧ HasS L v s ∧ ∀ H', Rep P w K B H' (M.set i (a, .dicN (aput kvs k s))) L → Q .non H'))))
theorem ok_Pgive (T : Top K mg) : FnOk P w K mg base CX0 1 T.f_Pgive T.d_Pgive ["holders", "holder", "thing"] (spGive P w K) := by
  refine T.F_Pgive.ok sc_Pgive (fun vs H Q E h => ?_) (fun cdv A outer s H vs Q E hr h => ?_)
  · obtain ⟨B, M, L, _, ⟨a, i, kvs, k, v, s, rfl, _⟩ | ⟨a, i, kvs, k, b, v, s, rfl, _⟩⟩ := h <;> rfl
  · obtain ⟨B, M, L, R, h⟩ := h
    refine ⟨_, (pss_one (ps_if (pt_cmpR op_isN (pv 2) pe_non (nomark _))
            (pss_one (ps_expr (pe_upop2 (hu9_of hr) (pv 0) (pv 1) pe_non ⟨by rfl, by rfl, by rfl, by rfl⟩)))
            (pss_one (ps_uput (hu9_of hr) (pv 0) (pv 1) (pv 2) rfl)))), ?_⟩
    rcases h with ⟨a, i, kvs, k, v, s, rfl, hi, hl, h⟩ | ⟨a, i, kvs, k, b, v, s, rfl, hi, hk, hd, hl, h⟩
    · rw [show start ["holders", "holder", "thing"] [V.ref a, kV k, v] = [some (V.ref a), some (kV k), some v] from rfl]
      try dsimp only [cxOf]
      walk_at "rd"
      refine ⟨rfl, ?_⟩
      refine w_bl ?_
      rcases h with ⟨rfl, q⟩ | ⟨hv, hs, q⟩
      · rw [if_pos (decide_eq_true rfl)]
        walk_at "rd"
        obtain ⟨ws, h1, h2, h3, R'⟩ := R.delK hi k
        refine ⟨a, rfl, udK h1, ?_⟩
        walk_at "rd"
        refine .inl ⟨ws, k, h1, rfl, fun v _ => q _ R', fun hn => q _ ?_⟩
        cases hg : aget kvs k with
        | none => rw [adel_none hg, set_same hi]; exact R
        | some s => obtain ⟨v, hv⟩ := h3 (by rw [hg]; rfl); rw [hv] at hn; cases hn
      · rw [if_neg (fun z => hv (of_decide_eq_true z))]
        walk_at "rd"
        obtain ⟨H', hp, R'⟩ := R.putK hi k hs hl
        exact ⟨a, H', rfl, hp, q H' R'⟩
    · rw [show start ["holders", "holder", "thing"] [V.ref a, V.ref b, v] = [some (V.ref a), some (V.ref b), some v] from rfl]
      try dsimp only [cxOf]
      walk_at "rd"
      refine ⟨rfl, ?_⟩
      refine w_bl ?_
      rcases h with ⟨rfl, q⟩ | ⟨hv, hs, q⟩
      · rw [if_pos (decide_eq_true rfl)]
        walk_at "rd"
        obtain ⟨ws, h1, h2, h3, h4, h5, R'⟩ := R.delN hi hk
        refine ⟨a, rfl, udN h1, ?_⟩
        walk_at "rd"
        refine .inr ⟨ws, k, b, h1, h2, h3, rfl, hd, fun v _ => q _ R', fun hn => q _ ?_⟩
        cases hg : aget kvs k with
        | none => rw [adel_none hg, set_same hi]; exact R
        | some s => obtain ⟨v, hv⟩ := h5 (by rw [hg]; rfl); rw [hv] at hn; cases hn
      · rw [if_neg (fun z => hv (of_decide_eq_true z))]
        walk_at "rd"
        obtain ⟨H', hp, R'⟩ := R.putN hi hk hd hs hl
        exact ⟨a, H', rfl, hp, q H' R'⟩
end

/-! ### runs, as data -/
abbrev Th := Str × Int
def thD (t : Th) : PyData := .tuple [.str t.1, .int t.2]
def ndK (k : Th × Str) : NestedKey := .tup [.tup [.text k.1.1, .num k.1.2], .text k.2]
def nmK (l : List (Str × Th)) : List (L2.Key × Sl) := l.map fun x => (Sum.inr x.1, .v (thD x.2))
def slN (l : List ((Th × Str) × Th)) : List (NestedKey × Sl) := l.map fun x => (ndK x.1, .v (thD x.2))
def mdK (l : List (Str × Int)) : List (L2.Key × Sl) := l.map fun x => (Sum.inr x.1, .v (.int x.2))
section
variable {κ α κ' α' : Type} [DecidableEq κ] [DecidableEq κ'] {f : κ → κ'} {g : α → α'}
theorem am_get (hf : ∀ a b, f a = f b → a = b) (l : List (κ × α)) (k : κ) : aget (l.map fun x => (f x.1, g x.2)) (f k) = (aget l k).map g := by
  induction l with
  | nil => rfl
  | cons x l ih =>
    rw [List.map_cons, aget_cons, aget_cons, ih]
    by_cases e : x.1 = k
    · rw [if_pos e, if_pos (by rw [e])]; rfl
    · rw [if_neg e, if_neg (fun z => e (hf _ _ z))]
theorem am_put (hf : ∀ a b, f a = f b → a = b) (l : List (κ × α)) (k : κ) (v : α) : aput (l.map fun x => (f x.1, g x.2)) (f k) (g v) = (aput l k v).map fun x => (f x.1, g x.2) := by
  unfold aput
  rw [am_get hf, Option.isSome_map]
  split
  · rw [List.map_map, List.map_map]
    refine List.map_congr_left fun x _ => ?_
    simp only [Function.comp]
    by_cases e : x.1 = k
    · rw [if_pos e, if_pos (by rw [e])]
    · rw [if_neg e, if_neg (fun z => e (hf _ _ z))]
  · rw [List.map_append]; rfl
theorem am_del (hf : ∀ a b, f a = f b → a = b) (l : List (κ × α)) (k : κ) : adel (l.map fun x => (f x.1, g x.2)) (f k) = (adel l k).map fun x => (f x.1, g x.2) := by
  unfold adel
  rw [List.filter_map]
  congr 1
  refine List.filter_congr fun x _ => ?_
  simp only [Function.comp]
  exact decide_eq_decide.mpr ⟨fun h e => h (by rw [e]), fun h e => h (hf _ _ e)⟩
end
theorem inr_inj : ∀ a b : Str, (Sum.inr a : L2.Key) = Sum.inr b → a = b := fun _ _ h => Sum.inr.inj h
theorem ndK_inj : ∀ a b : Th × Str, ndK a = ndK b → a = b := by
  rintro ⟨⟨b, i⟩, s⟩ ⟨⟨c, j⟩, t⟩ h
  simp only [ndK, NestedKey.tup.injEq, List.cons.injEq, NestedKey.text.injEq, NestedKey.num.injEq, and_true] at h
  obtain ⟨⟨rfl, rfl⟩, rfl⟩ := h
  rfl
theorem nm_get (l : List (Str × Th)) (k : Str) : aget (nmK l) (.inr k) = (aget l k).map fun t => Sl.v (thD t) := am_get (f := fun x : Str => (Sum.inr x : L2.Key)) (g := fun t => Sl.v (thD t)) inr_inj l k
theorem nm_put (l : List (Str × Th)) (k : Str) (v : Th) : aput (nmK l) (.inr k) (.v (thD v)) = nmK (aput l k v) := am_put (f := fun x : Str => (Sum.inr x : L2.Key)) (g := fun t => Sl.v (thD t)) inr_inj l k v
theorem nm_del (l : List (Str × Th)) (k : Str) : adel (nmK l) (.inr k) = nmK (adel l k) := am_del (f := fun x : Str => (Sum.inr x : L2.Key)) (g := fun t => Sl.v (thD t)) inr_inj l k
theorem md_get (l : List (Str × Int)) (k : Str) : aget (mdK l) (.inr k) = (aget l k).map fun t => Sl.v (.int t) := am_get (f := fun x : Str => (Sum.inr x : L2.Key)) (g := fun t => Sl.v (.int t)) inr_inj l k
theorem md_put (l : List (Str × Int)) (k : Str) (v : Int) : aput (mdK l) (.inr k) (.v (.int v)) = mdK (aput l k v) := am_put (f := fun x : Str => (Sum.inr x : L2.Key)) (g := fun t => Sl.v (.int t)) inr_inj l k v
theorem sl_get (l : List ((Th × Str) × Th)) (k : Th × Str) : aget (slN l) (ndK k) = (aget l k).map fun t => Sl.v (thD t) := am_get (f := ndK) (g := fun t => Sl.v (thD t)) ndK_inj l k
theorem sl_put (l : List ((Th × Str) × Th)) (k : Th × Str) (v : Th) : aput (slN l) (ndK k) (.v (thD v)) = slN (aput l k v) := am_put (f := ndK) (g := fun t => Sl.v (thD t)) ndK_inj l k v
theorem sl_del (l : List ((Th × Str) × Th)) (k : Th × Str) : adel (slN l) (ndK k) = slN (adel l k) := am_del (f := ndK) (g := fun t => Sl.v (thD t)) ndK_inj l k
theorem sl_odd (l : List ((Th × Str) × Th)) (s : Str) : aget (slN l) (.tup [.none, .text s]) = none := by
  induction l with
  | nil => rfl
  | cons x l ih =>
    show aget ((ndK x.1, Sl.v (thD x.2)) :: slN l) _ = none
    rw [aget_cons, if_neg (fun z => by simp [ndK] at z), ih]
theorem nk_th (k : Th × Str) : nkD (ndK k) = .tuple [thD k.1, .str k.2] := by simp [ndK, nkD, nkD.nkDs, thD]
theorem nk_odd (s : Str) : nkD (.tup [.none, .text s]) = .tuple [.none, .str s] := by simp [nkD, nkD.nkDs]
structure RS where
  nm : List (Str × Th)
  sl : List ((Th × Str) × Th)
  md : List (Str × Int)
def give {κ : Type} [DecidableEq κ] (l : List (κ × Th)) (k : κ) : Option Th → List (κ × Th)
  | none => adel l k
  | some t => aput l k t
def stepP (r : Row) (s : RS) : RS := match r with
  | .new x b => ⟨aput s.nm x (b, (aget s.md b).getD 0), s.sl, aput s.md b ((aget s.md b).getD 0 + 1)⟩
  | .move x y => ⟨give s.nm x (aget s.nm y), s.sl, s.md⟩
  | .put x z y => match aget s.nm x with
    | none => s
    | some t => ⟨s.nm, give s.sl (t, z) (aget s.nm y), s.md⟩
  | .take x z y => ⟨give s.nm x ((aget s.nm y).bind fun t => aget s.sl (t, z)), s.sl, s.md⟩
def rowT : Row → List Str
  | .new x b => [Str.ofString "new", x, b]
  | .move x y => [Str.ofString "move", x, y]
  | .put x s y => [Str.ofString "put", x, s, y]
  | .take x s y => [Str.ofString "take", x, s, y]
def rowDt (r : Row) : PyData := .tuple ((rowT r).map .str)
theorem dp_strs {K : PySem.W.Frag} {F : Hp} : ∀ {xs : List V} {zs : List Str}, DpAll K F xs (zs.map .str) → xs = zs.map V.str
  | _, [], h => by cases h; rfl
  | _, z :: zs, h => by
    cases h with
    | cons a b =>
      cases a
      rw [List.map_cons, ← dp_strs b]
theorem dp_row {K : PySem.W.Frag} {F : Hp} {v : V} {r : Row} (h : Dp K F v (rowDt r)) : ∃ p, v = .ref p ∧ SqT K F p ((rowT r).map V.str) := by
  unfold rowDt at h
  cases h with
  | tup h1 h2 => exact ⟨_, rfl, by rw [← dp_strs h2]; exact h1⟩

section
variable {P : Program} {w : World} {K : PySem.W.Frag} {B H : Hp} {M : Objs} {L : Facts} {a : Addr} {i : Nat} {Q : VK} {E : XK}
/-- a thing, or none, as a value -/
def ThV (P : Program) (w : World) (K : PySem.W.Frag) (B H : Hp) (M : Objs) (L : Facts) (v : V) (t : Option Th) : Prop := (t = none ∧ v = .non ∧ Rep P w K B H M L) ∨ ∃ t' p, t = some t' ∧ v = .ref p ∧ Rep P w K B H M ((.ref p, thD t') :: L)
theorem Rep.nmGet {l : List (Str × Th)} (R : Rep P w K B H M L) (hi : M[i]? = some (a, .dic (nmK l))) (y : Str) : ∃ o, UGet P w K H a (.str y) o ∧ (o.isSome = (aget l y).isSome) ∧ ThV P w K B H M L (o.getD .non) (aget l y) := by
  obtain ⟨o, g1, g2, g3⟩ := R.get hi (.inr y)
  refine ⟨o, g1, ?_⟩
  rw [nm_get] at g2 g3
  cases hm : aget l y with
  | none => rw [g2 (by rw [hm]; rfl)]; exact ⟨rfl, .inl ⟨rfl, rfl, R⟩⟩
  | some t =>
    obtain ⟨v, rfl, R2⟩ := g3 (thD t) (by rw [hm]; rfl)
    obtain ⟨p, rfl⟩ := thD_ref (R2.dp has_hd) rfl
    exact ⟨rfl, .inr ⟨t, p, rfl, rfl, R2⟩⟩
theorem Rep.slGet {l : List ((Th × Str) × Th)} {b : Addr} {t : Th} {z : Str} (R : Rep P w K B H M L) (hi : M[i]? = some (a, .dicN (slN l))) (hk : Has L (.ref b) (.tuple [thD t, .str z])) : ∃ o, UGet P w K H a (.ref b) o ∧ (o.isSome = (aget l (t, z)).isSome) ∧ ThV P w K B H M L (o.getD .non) (aget l (t, z)) := by
  obtain ⟨o, g1, g2, g3⟩ := R.getN (k := ndK (t, z)) hi (by rw [nk_th]; exact hk) (by simp [ndK, NestedKey.depth, NestedKey.depthAll])
  refine ⟨o, g1, ?_⟩
  rw [sl_get] at g2 g3
  cases hm : aget l (t, z) with
  | none => rw [g2 (by rw [hm]; rfl)]; exact ⟨rfl, .inl ⟨rfl, rfl, R⟩⟩
  | some t =>
    obtain ⟨v, rfl, R2⟩ := g3 (thD t) (by rw [hm]; rfl)
    obtain ⟨p, rfl⟩ := thD_ref (R2.dp has_hd) rfl
    exact ⟨rfl, .inr ⟨t, p, rfl, rfl, R2⟩⟩
theorem Rep.slGetOdd {l : List ((Th × Str) × Th)} {b : Addr} {z : Str} (R : Rep P w K B H M L) (hi : M[i]? = some (a, .dicN (slN l))) (hk : Has L (.ref b) (.tuple [.none, .str z])) : UGet P w K H a (.ref b) none := by
  obtain ⟨o, g1, g2, g3⟩ := R.getN (k := .tup [.none, .text z]) hi (by rw [nk_odd]; exact hk) (by simp [NestedKey.depth, NestedKey.depthAll])
  rw [g2 (sl_odd l z)] at g1
  exact g1
theorem give_nm {l : List (Str × Th)} {x : Str} {v : V} {t : Option Th} (T : ThV P w K B H M L v t) (hi : M[i]? = some (a, .dic (nmK l))) (hl : l.length < 100000) (q : ∀ H', Rep P w K B H' (M.set i (a, .dic (nmK (give l x t)))) L → Q .non H') : spGive P w K [.ref a, .str x, v] H Q E := by
  have hl2 : (nmK l).length < 100000 := by unfold nmK; rw [List.length_map]; exact hl
  rcases T with ⟨rfl, rfl, R⟩ | ⟨t', p, rfl, rfl, R⟩
  · exact ⟨B, M, L, R, .inl ⟨a, i, nmK l, .inr x, .non, .v .none, rfl, hi, hl2, .inl ⟨rfl, fun H' R' => q H' (by rw [nm_del] at R'; exact R')⟩⟩⟩
  · exact ⟨B, M, _, R, .inl ⟨a, i, nmK l, .inr x, .ref p, .v (thD t'), rfl, hi, hl2, .inr ⟨(fun z => by cases z), .v has_hd, fun H' R' => q H' (by rw [nm_put] at R'; exact R'.drop1)⟩⟩⟩
theorem give_sl {l : List ((Th × Str) × Th)} {b : Addr} {t0 : Th} {z : Str} {v : V} {t : Option Th} (T : ThV P w K B H M L v t) (hi : M[i]? = some (a, .dicN (slN l))) (hk : Has L (.ref b) (.tuple [thD t0, .str z])) (hl : l.length < 100000) (q : ∀ H', Rep P w K B H' (M.set i (a, .dicN (slN (give l (t0, z) t)))) L → Q .non H') : spGive P w K [.ref a, .ref b, v] H Q E := by
  have hl2 : (slN l).length < 100000 := by unfold slN; rw [List.length_map]; exact hl
  have dp : (ndK (t0, z)).depth ≤ 8 := by simp [ndK, NestedKey.depth, NestedKey.depthAll]
  rcases T with ⟨rfl, rfl, R⟩ | ⟨t', p, rfl, rfl, R⟩
  · exact ⟨B, M, L, R, .inr ⟨a, i, slN l, ndK (t0, z), b, .non, .v .none, rfl, hi, by rw [nk_th]; exact hk, dp, hl2, .inl ⟨rfl, fun H' R' => q H' (by rw [sl_del] at R'; exact R')⟩⟩⟩
  · exact ⟨B, M, _, R, .inr ⟨a, i, slN l, ndK (t0, z), b, .ref p, .v (thD t'), rfl, hi, by rw [nk_th]; exact has_tl hk, dp, hl2, .inr ⟨(fun z => by cases z), .v has_hd, fun H' R' => q H' (by rw [sl_put] at R'; exact R'.drop1)⟩⟩⟩
/-- the value and the one fact, whichever -/
theorem ThV.rep {v : V} {t : Option Th} (T : ThV P w K B H M L v t) : Rep P w K B H M L := by
  rcases T with ⟨_, _, R⟩ | ⟨_, _, _, _, R⟩
  · exact R
  · exact R.drop1
end

section
variable {P : Program} {w : World} {K : PySem.W.Frag} {mg : Str → Option Value} {base : Heap}
def Small (s : RS) (n : Nat) : Prop := s.nm.length ≤ n ∧ s.sl.length ≤ n ∧ s.md.length ≤ n
def ObsR (a1 a2 a3 : Addr) (s : RS) : Objs := [(a1, .dic (nmK s.nm)), (a2, .dicN (slN s.sl)), (a3, .dic (mdK s.md))]
def spDo (P : Program) (w : World) (K : PySem.W.Frag) : Sp := fun vs H Q _ => ∃ B a1 a2 a3 L r row s, vs = [r, .ref a1, .ref a2, .ref a3] ∧ Has L r (rowDt row) ∧ Rep P w K B H (ObsR a1 a2 a3 s) L ∧ Small s 90000 ∧ ∀ H', Rep P w K B H' (ObsR a1 a2 a3 (stepP row s)) L → Q .non H'
theorem ok_Pdo (T : Top K mg) : FnOk P w K mg base CX0 2 T.f_Pdo T.d_Pdo ["row", "names", "slots", "made"] (spDo P w K) := by
  refine T.F_Pdo.ok sc_Pdo (fun vs H Q E h => ?_) (fun cdv A outer s H vs Q E hr h => ?_)
  · obtain ⟨B, a1, a2, a3, L, r, row, s, rfl, _⟩ := h
    rfl
  · obtain ⟨B, a1, a2, a3, L, r, row, s, rfl, hr1, R, sm, q⟩ := h
    obtain ⟨p, rfl, hp⟩ := dp_row (R.dp hr1)
    refine ⟨_, (pss_cons (ps_set (i := 4) sc_Pdo.nd rfl (Or.inl rfl) (pe_ix ix_tup (pv 0) pe_int (fun _ _ => rfl)))
          (pss_one (ps_if (pt_cmpR op_eq (pv 4) pe_str (nomark _))
            (pss_cons (ps_asg (pv 0) (pg_tup (n := 3) (by rfl) (pgs_cons (pg_name (i := 5) sc_Pdo.nd rfl (Or.inl rfl)) (pgs_cons (pg_name (i := 6) sc_Pdo.nd rfl (Or.inl rfl)) (pgs_cons (pg_name (i := 7) sc_Pdo.nd rfl (Or.inl rfl)) pgs_nil)))))
          (pss_cons (ps_set (i := 8) sc_Pdo.nd rfl (Or.inl rfl) (pe_uget2 (hu9_of hr) (pv 3) (pv 7) pe_int ⟨by rfl, by rfl, by rfl, by rfl⟩))
          (pss_cons (ps_uput (hu9_of hr) (pv 1) (pv 6) (pe_tup (pa_cons (pv 7) (pa_cons (pv 8) pa_nil))) rfl)
          (pss_one (ps_uput (hu9_of hr) (pv 3) (pv 7) (pe_op op_add (pv 8) pe_int) rfl)))))
            (pss_one (ps_if (pt_cmpR op_eq (pv 4) pe_str (nomark _))
            (pss_cons (ps_asg (pv 0) (pg_tup (n := 3) (by rfl) (pgs_cons (pg_name (i := 5) sc_Pdo.nd rfl (Or.inl rfl)) (pgs_cons (pg_name (i := 6) sc_Pdo.nd rfl (Or.inl rfl)) (pgs_cons (pg_name (i := 9) sc_Pdo.nd rfl (Or.inl rfl)) pgs_nil)))))
          (pss_one (ps_expr (pe_call (ok_Pgive (P := P) (w := w) (base := base) T) (hr.mono (by decide)) (by rfl) T.g_Pgive T.F_Pgive.kp T.b_Pgive .nil pass0 (pa_cons (pv 1) (pa_cons (pv 6) (pa_cons (pe_uget1 (hu9_of hr) (pv 1) (pv 9) ⟨by rfl, by rfl, by rfl, by rfl⟩) pa_nil)))))))
            (pss_one (ps_if (pt_cmpR op_eq (pv 4) pe_str (nomark _))
            (pss_cons (ps_asg (pv 0) (pg_tup (n := 4) (by rfl) (pgs_cons (pg_name (i := 5) sc_Pdo.nd rfl (Or.inl rfl)) (pgs_cons (pg_name (i := 6) sc_Pdo.nd rfl (Or.inl rfl)) (pgs_cons (pg_name (i := 10) sc_Pdo.nd rfl (Or.inl rfl)) (pgs_cons (pg_name (i := 9) sc_Pdo.nd rfl (Or.inl rfl)) pgs_nil))))))
          (pss_one (ps_if (pt_cmp (pc_uin (hu9_of hr) (pv 6) (pv 1)))
            (pss_one (ps_expr (pe_call (ok_Pgive (P := P) (w := w) (base := base) T) (hr.mono (by decide)) (by rfl) T.g_Pgive T.F_Pgive.kp T.b_Pgive .nil pass0 (pa_cons (pv 2) (pa_cons (pe_tup (pa_cons (pe_uget (hu9_of hr) (pv 1) (pv 6) (fun _ _ => rfl)) (pa_cons (pv 10) pa_nil))) (pa_cons (pe_uget1 (hu9_of hr) (pv 1) (pv 9) ⟨by rfl, by rfl, by rfl, by rfl⟩) pa_nil))))))
            pss_nil)))
            (pss_cons (ps_asg (pv 0) (pg_tup (n := 4) (by rfl) (pgs_cons (pg_name (i := 5) sc_Pdo.nd rfl (Or.inl rfl)) (pgs_cons (pg_name (i := 6) sc_Pdo.nd rfl (Or.inl rfl)) (pgs_cons (pg_name (i := 10) sc_Pdo.nd rfl (Or.inl rfl)) (pgs_cons (pg_name (i := 9) sc_Pdo.nd rfl (Or.inl rfl)) pgs_nil))))))
          (pss_one (ps_expr (pe_call (ok_Pgive (P := P) (w := w) (base := base) T) (hr.mono (by decide)) (by rfl) T.g_Pgive T.F_Pgive.kp T.b_Pgive .nil pass0 (pa_cons (pv 1) (pa_cons (pv 6) (pa_cons (pe_uget1 (hu9_of hr) (pv 2) (pe_tup (pa_cons (pe_uget1 (hu9_of hr) (pv 1) (pv 9) ⟨by rfl, by rfl, by rfl, by rfl⟩) (pa_cons (pv 10) pa_nil))) ⟨by rfl, by rfl, by rfl, by rfl⟩) pa_nil)))))))))))))), ?_⟩
    rw [show start ["row", "names", "slots", "made", "kind", "_", "x", "box", "count", "y", "slot"] [V.ref p, V.ref a1, V.ref a2, V.ref a3] = [some (V.ref p), some (V.ref a1), some (V.ref a2), some (V.ref a3), none, none, none, none, none, none, none] from rfl]
    try dsimp only [cxOf]
    obtain ⟨m1, m2, m3⟩ := sm
    have h1 : (ObsR a1 a2 a3 s)[0]? = some (a1, .dic (nmK s.nm)) := rfl
    have h2 : (ObsR a1 a2 a3 s)[1]? = some (a2, .dicN (slN s.sl)) := rfl
    have h3 : (ObsR a1 a2 a3 s)[2]? = some (a3, .dic (mdK s.md)) := rfl
    have l1 : (nmK s.nm).length < 100000 := by unfold nmK; rw [List.length_map]; omega
    have l2 : (slN s.sl).length < 100000 := by unfold slN; rw [List.length_map]; omega
    have l3 : (mdK s.md).length < 100000 := by unfold mdK; rw [List.length_map]; omega
    cases row with
    | new x b =>
      have hp : SqT K H p [.str (Str.ofString "new"), .str x, .str b] := hp
      walk_at "rd"
      rw [if_pos (decide_eq_true rfl)]
      walk_at "rd"
      refine ⟨p, _, rfl, hp, rfl, ?_⟩
      walk_at "rd"
      obtain ⟨o, g1, g2, g3⟩ := R.get h3 (.inr b)
      refine ⟨a3, rfl, udG g1, ?_⟩
      walk_at "rd"
      refine ⟨o, g1, ?_⟩
      have hc : o.getD (V.int 0) = V.int ((aget s.md b).getD 0) := by
        rw [md_get] at g2 g3
        cases hm : aget s.md b with
        | none => rw [g2 (by rw [hm]; rfl)]; rfl
        | some c =>
          obtain ⟨v, rfl, R2⟩ := g3 (.int c) (by rw [hm]; rfl)
          cases R2.dp (.mem (List.mem_cons_self ..))
          rfl
      rw [hc]
      walk_at "rd"
      rename_i t ht H2 e2 k2
      have R2 := (R.tupG ht e2 k2 (ds := [.str b, .int ((aget s.md b).getD 0)]) (.cons (.str _) (.cons (.int _) .nil)))
      obtain ⟨H3, u3, R3⟩ := R2.putK h1 (.inr x) (.v has_hd) l1
      refine ⟨a1, H3, rfl, u3, ?_⟩
      dsimp only
      walk_at "rd"
      obtain ⟨H4, u4, R4⟩ := R3.putK (i := 2) (a := a3) rfl (.inr b) (s := .v (.int ((aget s.md b).getD 0 + 1))) (.v (.int _)) l3
      refine ⟨a3, H4, rfl, u4, q H4 ?_⟩
      have R5 := R4.drop1
      rw [show (PyData.tuple [.str b, .int ((aget s.md b).getD 0)]) = thD (b, (aget s.md b).getD 0) from rfl, nm_put, md_put] at R5
      exact R5
    | move x y =>
      have hp : SqT K H p [.str (Str.ofString "move"), .str x, .str y] := hp
      walk_at "rd"
      rw [if_neg (by decide +kernel)]
      walk_at "rd"
      rw [if_pos (decide_eq_true rfl)]
      walk_at "rd"
      refine ⟨p, _, rfl, hp, rfl, ?_⟩
      walk_at "rd"
      obtain ⟨o, g1, _, T1⟩ := R.nmGet h1 y
      refine ⟨a1, rfl, udG g1, ?_⟩
      walk_at "rd"
      refine ⟨o, g1, ?_⟩
      walk_at "rd"
      exact give_nm T1 h1 (by omega) fun H' R' => q H' R'
    | put x z y =>
      have hp : SqT K H p [.str (Str.ofString "put"), .str x, .str z, .str y] := hp
      walk_at "rd"
      rw [if_neg (by decide +kernel)]
      walk_at "rd"
      rw [if_neg (by decide +kernel)]
      walk_at "rd"
      rw [if_pos (decide_eq_true rfl)]
      walk_at "rd"
      refine ⟨p, _, rfl, hp, rfl, ?_⟩
      walk_at "rd"
      obtain ⟨o, g1, hs, T1⟩ := R.nmGet h1 x
      refine ⟨a1, o, rfl, g1, ?_⟩
      refine w_bl ?_
      rcases T1 with ⟨hn, hv, R1⟩ | ⟨t, pt, ht, hv, R1⟩
      · rw [hs, hn, if_neg (by decide)]
        walk_at "rd"
        have e : stepP (.put x z y) s = s := by simp only [stepP, hn]
        exact q H (by rw [e]; exact R1)
      · obtain rfl : o = some (.ref pt) := by
          cases o with
          | none => rw [ht] at hs; cases hs
          | some v => exact congrArg some hv
        rw [if_pos (by rfl)]
        walk_at "rd"
        refine ⟨a1, .ref pt, rfl, g1, ?_⟩
        walk_at "rd"
        rename_i p2 hp2 H2 e2 k2
        have R2 := R1.tupG hp2 e2 k2 (ds := [thD t, .str z]) (.cons has_hd (.cons (.str _) .nil))
        obtain ⟨o2, g2, _, T2⟩ := R2.nmGet h1 y
        refine ⟨a1, rfl, udG g2, ?_⟩
        walk_at "rd"
        refine ⟨o2, g2, ?_⟩
        walk_at "rd"
        refine give_sl T2 h2 has_hd (by omega) fun H' R' => q H' ?_
        have e : stepP (.put x z y) s = ⟨s.nm, give s.sl (t, z) (aget s.nm y), s.md⟩ := by simp only [stepP, ht]
        rw [e]
        exact R'.drop1.drop1
    | take x z y =>
      have hp : SqT K H p [.str (Str.ofString "take"), .str x, .str z, .str y] := hp
      walk_at "rd"
      rw [if_neg (by decide +kernel)]
      walk_at "rd"
      rw [if_neg (by decide +kernel)]
      walk_at "rd"
      rw [if_neg (by decide +kernel)]
      walk_at "rd"
      refine ⟨p, _, rfl, hp, rfl, ?_⟩
      walk_at "rd"
      obtain ⟨o, g1, hs, T1⟩ := R.nmGet h1 y
      obtain ⟨ws2, k2⟩ : ∃ ws, H a2 = some (DnO P w a2 ws) := let ⟨ws, g, _⟩ := R.at (List.mem_of_getElem? h2); ⟨ws, g⟩
      refine ⟨a2, rfl, udN k2, ?_⟩
      walk_at "rd"
      refine ⟨a1, rfl, udG g1, ?_⟩
      walk_at "rd"
      refine ⟨o, g1, ?_⟩
      walk_at "rd"
      rename_i p2 hp2 H2 e2 k3
      rcases T1 with ⟨hn, hv, R1⟩ | ⟨t, pt, ht, hv, R1⟩
      · rw [hv] at k3
        have R2 := R1.tupG hp2 e2 k3 (ds := [.none, .str z]) (.cons .non (.cons (.str _) .nil))
        refine ⟨none, R2.slGetOdd h2 has_hd, ?_⟩
        walk_at "rd"
        refine give_nm (t := none) (.inl ⟨rfl, rfl, R2⟩) h1 (by omega) fun H' R' => q H' ?_
        have e : stepP (.take x z y) s = ⟨give s.nm x none, s.sl, s.md⟩ := by simp only [stepP, hn, Option.bind]
        rw [e]
        exact R'.drop1
      · rw [hv] at k3
        have R2 := R1.tupG hp2 e2 k3 (ds := [thD t, .str z]) (.cons has_hd (.cons (.str _) .nil))
        obtain ⟨o2, g2, _, T2⟩ := R2.slGet h2 has_hd
        refine ⟨o2, g2, ?_⟩
        walk_at "rd"
        refine give_nm T2 h1 (by omega) fun H' R' => q H' ?_
        have e : stepP (.take x z y) s = ⟨give s.nm x (aget s.sl (t, z)), s.sl, s.md⟩ := by simp only [stepP, ht, Option.bind]
        rw [e]
        exact R'.drop1.drop1
end

def progD (rows : List Row) : PyData := .tuple (rows.map rowDt)
def numD (ns : List Nat) : PyData := .list (ns.map fun n => .int (n : Nat))
theorem dp_nats {K : PySem.W.Frag} {F : Hp} : ∀ {xs : List V} {ns : List Nat}, DpAll K F xs (ns.map fun n => PyData.int (n : Nat)) → xs = ns.map fun n => V.int (n : Nat)
  | _, [], h => by cases h; rfl
  | _, n :: ns, h => by
    cases h with
    | cons a b =>
      cases a
      rw [List.map_cons, ← dp_nats b]
section
variable {P : Program} {w : World} {K : PySem.W.Frag} {B H : Hp} {M : Objs} {L : Facts} {p : Addr}
theorem Rep.itemT {ds : List PyData} {d : PyData} {n : Nat} (R : Rep P w K B H M L) (h : Has L (.ref p) (.tuple ds)) (hn : ds[n]? = some d) : ∃ vs v, SqT K H p vs ∧ vs[n]? = some v ∧ vs.length = ds.length ∧ Rep P w K B H M ((v, d) :: L) := by
  obtain ⟨F, r⟩ := id R
  cases has_dp r h with
  | tup h1 h2 =>
    obtain ⟨v, hv, dv⟩ := pr_at (dpAll_to h2) hn
    exact ⟨_, v, ex_t r.fh h1, hv, Paired.length (dpAll_to h2), F, r.nd, r.bf, r.fh, r.ob, fun x z hx => (List.mem_cons.mp hx).elim (fun e => by cases e; exact dv) (r.dt x z)⟩
theorem Rep.nums {ns : List Nat} (R : Rep P w K B H M L) (h : Has L (.ref p) (numD ns)) : SqL K H p (ns.map fun n => V.int (n : Nat)) := by
  have := R.dp h
  unfold numD at this
  cases this with
  | lst h1 h2 => rw [← dp_nats h2]; exact h1
end
def runP (rows : List Row) (ns : List Nat) : RS := ns.foldl (fun s n => match rows[n]? with | some r => stepP r s | none => s) ⟨[], [], []⟩
theorem give_len {κ : Type} [DecidableEq κ] (l : List (κ × Th)) (k : κ) (t : Option Th) : (give l k t).length ≤ l.length + 1 := by
  cases t with
  | none => exact Nat.le_succ_of_le (adel_len l k)
  | some t => exact aput_len l k t
theorem small_step {r : Row} {s : RS} {n : Nat} (h : Small s n) : Small (stepP r s) (n + 1) := by
  obtain ⟨h1, h2, h3⟩ := h
  cases r with
  | new x b => exact ⟨Nat.le_trans (aput_len _ _ _) (by omega), Nat.le_succ_of_le h2, Nat.le_trans (aput_len _ _ _) (by omega)⟩
  | move x y => exact ⟨Nat.le_trans (give_len _ _ _) (by omega), Nat.le_succ_of_le h2, Nat.le_succ_of_le h3⟩
  | put x z y =>
    cases hx : aget s.nm x with
    | none =>
      have e : stepP (.put x z y) s = s := by simp only [stepP, hx]
      rw [e]
      exact ⟨Nat.le_succ_of_le h1, Nat.le_succ_of_le h2, Nat.le_succ_of_le h3⟩
    | some t =>
      have e : stepP (.put x z y) s = ⟨s.nm, give s.sl (t, z) (aget s.nm y), s.md⟩ := by simp only [stepP, hx]
      rw [e]
      exact ⟨Nat.le_succ_of_le h1, Nat.le_trans (give_len _ _ _) (by omega), Nat.le_succ_of_le h3⟩
  | take x z y => exact ⟨Nat.le_trans (give_len _ _ _) (by omega), Nat.le_succ_of_le h2, Nat.le_succ_of_le h3⟩
theorem runP_snoc (rows : List Row) (ns : List Nat) (n : Nat) {r : Row} (h : rows[n]? = some r) : runP rows (ns ++ [n]) = stepP r (runP rows ns) := by
  unfold runP
  rw [List.foldl_append, List.foldl_cons, List.foldl_nil, h]
theorem runP_take (rows : List Row) (ns : List Nat) {i n : Nat} (hi : ns[i]? = some n) {r : Row} (h : rows[n]? = some r) : runP rows (ns.take (i + 1)) = stepP r (runP rows (ns.take i)) := by
  rw [List.take_add_one, hi]
  exact runP_snoc rows _ n h

section
variable {P : Program} {w : World} {K : PySem.W.Frag} {mg : Str → Option Value} {base : Heap}
def spRun (P : Program) (w : World) (K : PySem.W.Frag) : Sp := fun vs H Q _ => ∃ B L p nb rows ns, vs = [.ref p, .ref nb] ∧ Rep P w K B H [] L ∧ Has L (.ref p) (progD rows) ∧ Has L (.ref nb) (numD ns) ∧ (∀ n ∈ ns, n < rows.length) ∧ ns.length ≤ 1000 ∧
  ∀ t a1 a2 a3 H', H' t = some (.tup [.ref a1, .ref a2]) → Rep P w K B H' (ObsR a1 a2 a3 (runP rows ns)) L → Q (.ref t) H'
theorem ok_run (T : Top K mg) : FnOk P w K mg base CX0 3 T.f_run T.d_run ["program", "numbers"] (spRun P w K) := by
  refine T.F_run.ok sc_run (fun vs H Q E h => ?_) (fun cdv A outer s H vs Q E hr h => ?_)
  · obtain ⟨B, L, p, nb, rows, ns, rfl, _⟩ := h
    rfl
  · obtain ⟨B, L, p, nb, rows, ns, rfl, R, hp, hb, hn, hl, q⟩ := h
    refine ⟨_, (pss_cons (ps_set (i := 2) sc_run.nd rfl (Or.inl rfl) pe_dnewK)
          (pss_cons (ps_set (i := 3) sc_run.nd rfl (Or.inl rfl) pe_newN)
          (pss_cons (ps_set (i := 4) sc_run.nd rfl (Or.inl rfl) pe_dnewK)
          (pss_cons (ps_for PassesOwn.never rfl (pi_list (pv 1)) (pg_name (i := 5) sc_run.nd rfl (Or.inl rfl))
            (pss_one (ps_expr (pe_call (ok_Pdo (P := P) (w := w) (base := base) T) (hr.mono (by decide)) (by rfl) T.g_Pdo T.F_Pdo.kp T.b_Pdo .nil pass0 (pa_cons (pe_ix ix_tup (pv 0) (pv 5) (fun _ _ => rfl)) (pa_cons (pv 2) (pa_cons (pv 3) (pa_cons (pv 4) pa_nil))))))))
          (pss_one (ps_ret (pe_tup (pa_cons (pv 2) (pa_cons (pv 3) pa_nil))))))))), ?_⟩
    rw [show start ["program", "numbers", "names", "slots", "made", "number"] [V.ref p, V.ref nb] = [some (V.ref p), some (V.ref nb), none, none, none, none] from rfl]
    try dsimp only [cxOf]
    walk_at "rd"
    intro a1 ha1
    have R1 := R.fresh (o := .dic []) (u := .dK []) ha1 fun F r => ⟨[], upd_same, .nil⟩
    generalize upd H a1 (.dK []) = H1 at R1 ⊢
    walk_at "rd"
    intro a2 ha2
    have R2 := R1.fresh (o := .dicN []) (u := DnO P w a2 []) ha2 fun F r => ⟨[], upd_same, (fun e he => nomatch he), .nil⟩
    generalize upd H1 a2 (DnO P w a2 []) = H2 at R2 ⊢
    walk_at "rd"
    intro a3 ha3
    have R3 := R2.fresh (o := .dic []) (u := .dK []) ha3 fun F r => ⟨[], upd_same, .nil⟩
    generalize upd H2 a3 (.dK []) = H3 at R3 ⊢
    walk_at "rd"
    have R0 : Rep P w K B H3 (ObsR a1 a2 a3 (runP rows (ns.take 0))) L := R3
    clear R1 R2 R3
    refine ⟨nb, rfl, ⟨_, R0.nums hb⟩, ?_⟩
    refine l_list (xs := ns.map fun n => V.int (n : Nat)) (fun i σ' H' => ∃ x, σ' = [some (V.ref p), some (V.ref nb), some (V.ref a1), some (V.ref a2), some (V.ref a3), x] ∧ Rep P w K B H' (ObsR a1 a2 a3 (runP rows (ns.take i))) L) ⟨_, rfl, R0⟩ (fun i σ' H' _ ⟨_, _, R'⟩ => R'.nums hb) ?_ ?_
    · rintro i x σ' H' hx ⟨y, rfl, R'⟩
      rw [List.getElem?_map] at hx
      obtain ⟨n, hni, rfl⟩ := Option.map_eq_some_iff.mp hx
      have hnr := hn n (List.mem_of_getElem? hni)
      have hr1 : rows[n]? = some rows[n] := List.getElem?_eq_getElem hnr
      obtain ⟨vs, v, hsq, hv, _, R2⟩ := R'.itemT hp (n := n) (d := rowDt rows[n]) (by rw [List.getElem?_map, hr1]; rfl)
      walk_at "rd"
      have sm : ∀ k, k ≤ ns.length → Small (runP rows (ns.take k)) k := fun k => by
        induction k with
        | zero => intro _; exact ⟨Nat.le_refl _, Nat.le_refl _, Nat.le_refl _⟩
        | succ k ih =>
          intro hk
          have hk1 : ns[k]? = some ns[k] := List.getElem?_eq_getElem hk
          obtain ⟨rk, hk2⟩ : ∃ r, rows[ns[k]]? = some r := ⟨_, List.getElem?_eq_getElem (hn _ (List.getElem_mem hk))⟩
          rw [runP_take rows ns hk1 hk2]
          exact small_step (ih (by omega))
      have hil : i < ns.length := (List.getElem?_eq_some_iff.mp hni).1
      obtain ⟨s1, s2, s3⟩ := sm i (by omega)
      refine ⟨B, a1, a2, a3, _, v, rows[n], _, rfl, has_hd, R2, ⟨by omega, by omega, by omega⟩, fun H4 R4 => ?_⟩
      exact ⟨_, rfl, by rw [runP_take rows ns hni hr1]; exact R4.drop1⟩
    · rintro σ' H' ⟨y, rfl, R'⟩
      walk_at "rd"
      rename_i t ht H4 e4 k4
      refine q t a1 a2 a3 H4 k4 ?_
      rw [List.length_map, List.take_length] at R'
      exact R'.mono e4
end

/-! ### the law's own run -/
structure LS where
  nm : List (Str × Option Th)
  sl : List ((Th × Str) × Option Th)
  md : List (Str × Int)
def oD : Option Th → PyData
  | none => .none
  | some t => thD t
def nmL (l : List (Str × Option Th)) : List (L2.Key × Sl) := l.map fun x => (Sum.inr x.1, .v (oD x.2))
def slL (l : List ((Th × Str) × Option Th)) : List (NestedKey × Sl) := l.map fun x => (ndK x.1, .v (oD x.2))
theorem nl_get (l : List (Str × Option Th)) (k : Str) : aget (nmL l) (.inr k) = (aget l k).map fun t => Sl.v (oD t) := am_get (f := fun x : Str => (Sum.inr x : L2.Key)) (g := fun t => Sl.v (oD t)) inr_inj l k
theorem nl_put (l : List (Str × Option Th)) (k : Str) (v : Option Th) : aput (nmL l) (.inr k) (.v (oD v)) = nmL (aput l k v) := am_put (f := fun x : Str => (Sum.inr x : L2.Key)) (g := fun t => Sl.v (oD t)) inr_inj l k v
theorem ll_get (l : List ((Th × Str) × Option Th)) (k : Th × Str) : aget (slL l) (ndK k) = (aget l k).map fun t => Sl.v (oD t) := am_get (f := ndK) (g := fun t => Sl.v (oD t)) ndK_inj l k
theorem ll_put (l : List ((Th × Str) × Option Th)) (k : Th × Str) (v : Option Th) : aput (slL l) (ndK k) (.v (oD v)) = slL (aput l k v) := am_put (f := ndK) (g := fun t => Sl.v (oD t)) ndK_inj l k v
def stepL (r : Row) (s : LS) : LS := match r with
  | .new x b => ⟨aput s.nm x (some (b, (aget s.md b).getD (-1) + 1)), s.sl, aput s.md b ((aget s.md b).getD (-1) + 1)⟩
  | .move x y => ⟨aput s.nm x (aget s.nm y).join, s.sl, s.md⟩
  | .put x z y => match (aget s.nm x).join with
    | none => s
    | some t => ⟨s.nm, aput s.sl (t, z) (aget s.nm y).join, s.md⟩
  | .take x z y => ⟨aput s.nm x ((aget s.nm y).join.bind fun t => (aget s.sl (t, z)).join), s.sl, s.md⟩
def runL (rows : List Row) (ns : List Nat) : LS := ns.foldl (fun s n => match rows[n]? with | some r => stepL r s | none => s) ⟨[], [], []⟩
theorem runL_take (rows : List Row) (ns : List Nat) {i n : Nat} (hi : ns[i]? = some n) {r : Row} (h : rows[n]? = some r) : runL rows (ns.take (i + 1)) = stepL r (runL rows (ns.take i)) := by
  unfold runL
  rw [List.take_add_one, hi, Option.toList_some, List.foldl_append, List.foldl_cons, List.foldl_nil, h]
def ObsL (a1 a2 a3 : Addr) (s : LS) : Objs := [(a1, .dic (nmL s.nm)), (a2, .dicN (slL s.sl)), (a3, .dic (mdK s.md))]
def SmallL (s : LS) (n : Nat) : Prop := s.nm.length ≤ n ∧ s.sl.length ≤ n ∧ s.md.length ≤ n
theorem smallL_step {r : Row} {s : LS} {n : Nat} (h : SmallL s n) : SmallL (stepL r s) (n + 1) := by
  obtain ⟨h1, h2, h3⟩ := h
  cases r with
  | new x b => exact ⟨Nat.le_trans (aput_len _ _ _) (by omega), Nat.le_succ_of_le h2, Nat.le_trans (aput_len _ _ _) (by omega)⟩
  | move x y => exact ⟨Nat.le_trans (aput_len _ _ _) (by omega), Nat.le_succ_of_le h2, Nat.le_succ_of_le h3⟩
  | put x z y =>
    cases hx : (aget s.nm x).join with
    | none =>
      have e : stepL (.put x z y) s = s := by simp only [stepL, hx]
      rw [e]
      exact ⟨Nat.le_succ_of_le h1, Nat.le_succ_of_le h2, Nat.le_succ_of_le h3⟩
    | some t =>
      have e : stepL (.put x z y) s = ⟨s.nm, aput s.sl (t, z) (aget s.nm y).join, s.md⟩ := by simp only [stepL, hx]
      rw [e]
      exact ⟨Nat.le_succ_of_le h1, Nat.le_trans (aput_len _ _ _) (by omega), Nat.le_succ_of_le h3⟩
  | take x z y => exact ⟨Nat.le_trans (aput_len _ _ _) (by omega), Nat.le_succ_of_le h2, Nat.le_succ_of_le h3⟩
theorem smallL_run (rows : List Row) (ns : List Nat) (hn : ∀ n ∈ ns, n < rows.length) : ∀ k, k ≤ ns.length → SmallL (runL rows (ns.take k)) k := fun k => by
  induction k with
  | zero => intro _; exact ⟨Nat.le_refl _, Nat.le_refl _, Nat.le_refl _⟩
  | succ k ih =>
    intro hk
    have hk1 : ns[k]? = some ns[k] := List.getElem?_eq_getElem hk
    obtain ⟨rk, hk2⟩ : ∃ r, rows[ns[k]]? = some r := ⟨_, List.getElem?_eq_getElem (hn _ (List.getElem_mem hk))⟩
    rw [runL_take rows ns hk1 hk2]
    exact smallL_step (ih (by omega))
section
variable {P : Program} {w : World} {K : PySem.W.Frag} {B H : Hp} {M : Objs} {L : Facts} {a : Addr} {i : Nat} {Q : VK} {E : XK}
theorem Rep.nlGet {l : List (Str × Option Th)} (R : Rep P w K B H M L) (hi : M[i]? = some (a, .dic (nmL l))) (y : Str) : ∃ o, UGet P w K H a (.str y) o ∧ ThV P w K B H M L (o.getD .non) (aget l y).join ∧ ((aget l y).isSome = true → o.isSome = true) := by
  obtain ⟨o, g1, g2, g3⟩ := R.get hi (.inr y)
  refine ⟨o, g1, ?_⟩
  rw [nl_get] at g2 g3
  cases hm : aget l y with
  | none => rw [g2 (by rw [hm]; rfl)]; exact ⟨.inl ⟨rfl, rfl, R⟩, fun z => nomatch z⟩
  | some t =>
    obtain ⟨v, rfl, R2⟩ := g3 (oD t) (by rw [hm]; rfl)
    refine ⟨?_, fun _ => rfl⟩
    cases t with
    | none => cases R2.dp has_hd; exact .inl ⟨rfl, rfl, R⟩
    | some t =>
      obtain ⟨p, rfl⟩ := thD_ref (R2.dp has_hd) rfl
      exact .inr ⟨t, p, rfl, rfl, R2⟩
theorem Rep.llGet {l : List ((Th × Str) × Option Th)} {b : Addr} {t : Th} {z : Str} (R : Rep P w K B H M L) (hi : M[i]? = some (a, .dicN (slL l))) (hk : Has L (.ref b) (.tuple [thD t, .str z])) : ∃ o, UGet P w K H a (.ref b) o ∧ ThV P w K B H M L (o.getD .non) (aget l (t, z)).join := by
  obtain ⟨o, g1, g2, g3⟩ := R.getN (k := ndK (t, z)) hi (by rw [nk_th]; exact hk) (by simp [ndK, NestedKey.depth, NestedKey.depthAll])
  refine ⟨o, g1, ?_⟩
  rw [ll_get] at g2 g3
  cases hm : aget l (t, z) with
  | none => rw [g2 (by rw [hm]; rfl)]; exact .inl ⟨rfl, rfl, R⟩
  | some t =>
    obtain ⟨v, rfl, R2⟩ := g3 (oD t) (by rw [hm]; rfl)
    cases t with
    | none => cases R2.dp has_hd; exact .inl ⟨rfl, rfl, R⟩
    | some t =>
      obtain ⟨p, rfl⟩ := thD_ref (R2.dp has_hd) rfl
      exact .inr ⟨t, p, rfl, rfl, R2⟩
theorem ThV.has {v : V} {t : Option Th} (T : ThV P w K B H M L v t) : ∃ L', Rep P w K B H M L' ∧ (∀ x d, Has L x d → Has L' x d) ∧ Has L' v (oD t) ∧ (∀ x, x ∈ L → x ∈ L') := by
  rcases T with ⟨rfl, rfl, R⟩ | ⟨t', p, rfl, rfl, R⟩
  · exact ⟨L, R, fun _ _ h => h, .non, fun _ h => h⟩
  · exact ⟨_, R, fun _ _ h => has_tl h, has_hd, fun _ h => .tail _ h⟩
end
section
variable {P : Program} {w : World} {K : PySem.W.Frag} {B H : Hp} {M : Objs} {L : Facts} {a : Addr} {i : Nat}
theorem Rep.mdGet {l : List (Str × Int)} (R : Rep P w K B H M L) (hi : M[i]? = some (a, .dic (mdK l))) (b : Str) : ∃ o, UGet P w K H a (.str b) o ∧ (∀ d : Int, o.getD (V.int d) = V.int ((aget l b).getD d)) ∧ ∀ c, aget l b = some c → o = some (.int c) := by
  obtain ⟨o, g1, g2, g3⟩ := R.get hi (.inr b)
  refine ⟨o, g1, ?_⟩
  rw [md_get] at g2 g3
  cases hm : aget l b with
  | none => rw [g2 (by rw [hm]; rfl)]; exact ⟨fun _ => rfl, fun c h => nomatch h⟩
  | some c =>
    obtain ⟨v, rfl, R2⟩ := g3 (.int c) (by rw [hm]; rfl)
    cases R2.dp has_hd
    exact ⟨fun _ => rfl, fun c h => by cases h; rfl⟩
end

section
variable {P : Program} {w : World} {K : PySem.W.Frag} {B F H H2 : Hp} {M : Objs} {L : Facts} {v : V} {d : PyData}
theorem RepF.grow (r : RepF P w K B F H M L) (e : Ex H H2) (h : Dp K (Nw F H H2) v d) : Rep P w K B H2 M ((v, d) :: L) := by
  refine ⟨Nw F H H2, r.nd, r.bf.trans nw_ex, fun b u q => ?_, fun b ob hb => ?_, fun x y hx => ?_⟩
  · unfold Nw at q
    cases f : F b with
    | some z => rw [f] at q; cases q; exact e _ _ (r.fh _ _ f)
    | none =>
      rw [f] at q
      cases hh : H b with
      | none => rw [hh] at q; exact q
      | some z => rw [hh] at q; cases q
  · obtain ⟨h1, h2⟩ := r.ob b ob hb
    obtain ⟨z, hz⟩ := obAt_some h2
    exact ⟨by unfold Nw; rw [h1, hz], obAt_ex nw_ex (fun u q => e _ _ q) h2⟩
  · rcases List.mem_cons.mp hx with e1 | hx
    · cases e1; exact h
    · exact dp_ex nw_ex (r.dt _ _ hx)
end
def pairsD (kts : List (PyData × Option Th)) : List PyData := kts.filterMap fun q => q.2.map fun t => .tuple [q.1, thD t]
theorem pairsD_take {kts : List (PyData × Option Th)} {i : Nat} {q : PyData × Option Th} (h : kts[i]? = some q) : pairsD (kts.take (i + 1)) = pairsD (kts.take i) ++ (q.2.map fun t => PyData.tuple [q.1, thD t]).toList := by
  unfold pairsD
  rw [List.take_add_one, h, Option.toList_some, List.filterMap_append]
  congr 1
section
variable {P : Program} {w : World} {K : PySem.W.Frag} {B F H : Hp} {M : Objs} {L : Facts}
theorem l_pairs {D : Ends} {σ : L2.St} {j c r : Nat} {a : Addr} {u : HO} {ps : List (V × V)} {kts : List (PyData × Option Th)} (R : RepF P w K B F H M L) (hu : H a = some u) (hmut : Mut (some u)) (hps : PsOf P w a u ps)
    (hget : ∀ Hx, (∃ od, Hx a = some (.frz od u)) → Ex F Hx → ∀ (n : Nat) k v, ps[n]? = some (k, v) → UGet P w K Hx a k (some v)) (fa : F a = none)
    (hpd : Paired (fun (p : V × V) (q : PyData × Option Th) => Dp K F p.1 q.1 ∧ Dp K F p.2 (oD q.2)) ps kts) (hl : ps.length ≤ 50000)
    (hj : σ[j]? = some (some (.ref a))) (hjc : j ≠ c) (hc : σ[c]? = some none)
    (q : ∀ l H', Rep P w K B H' M ((.ref l, .list (pairsD kts)) :: L) → D.nx (σ.set r (some (.ref l))) H') :
    tLock (tAsg (tLc (iKeysR P w (tVar j)) (gName c) (tTest (tOp (fun x y H Q => y = V.non ∧ Q (V.bl !decide (x = V.non)) H) (tUGet P w K (tVar j) (tVar c)) (tC V.non))) (tTup (tCons (tVar c) (tCons (tUGet P w K (tVar j) (tVar c)) tNil))) [c]) (gName r)) D σ H := by
  refine ⟨a, u, hu, hmut, fun od => ⟨.ref a, hj, a, od, u, ps, rfl, upd_same, hps, fun Dd hDd => ?_⟩⟩
  generalize hH1 : upd (upd H a (.frz od u)) Dd (.lst []) = H1
  have ad : a ≠ Dd := fun e => by rw [← e, upd_same] at hDd; cases hDd
  have hD0 : H Dd = none := by rw [upd_ne (fun e => ad e.symm)] at hDd; exact hDd
  have h1a : H1 a = some (.frz od u) := by rw [← hH1, upd_ne ad]; exact upd_same
  have h1o : ∀ b o, b ≠ a → H b = some o → H1 b = some o := fun b o ne e => by
    rw [← hH1, upd_ne (fun z => by rw [z, hD0] at e; cases e), upd_ne ne]; exact e
  have h1n : ∀ b, H1 b = none → H b = none := fun b e => by
    cases hb : H b with
    | none => rfl
    | some o =>
      by_cases ne : b = a
      · rw [ne, h1a] at e; cases e
      · rw [h1o b o ne hb] at e; cases e
  have fn : ∀ b, H b = none → F b = none := fun b e => R.none_ e
  have c1 : c < σ.length := (List.getElem?_eq_some_iff.mp hc).1
  refine ⟨fun i m H' => m + i = ps.length ∧ Mu Dd H1 H' ∧ ∃ acc, H' Dd = some (.lst acc) ∧ acc.length ≤ i ∧ Paired (Dp K (Nw F H1 H')) acc (pairsD (kts.take i)), ⟨ps.length, rfl, fun _ _ _ e => e, [], by rw [← hH1]; exact upd_same, Nat.le_refl _, .nil⟩, fun i m H' ⟨hm, mu, acc, hacc, hal, hp⟩ => ?_⟩
  have ha' : H' a = some (.frz od u) := mu a _ ad h1a
  have exF : Ex F H' := fun b o e => mu b o (fun z => by rw [z, fn Dd hD0] at e; cases e) (h1o b o (fun z => by rw [z, fa] at e; cases e) (R.fh _ _ e))
  by_cases hi : i < ps.length
  · obtain ⟨⟨k, v⟩, hkv⟩ : ∃ p, ps[i]? = some p := ⟨_, List.getElem?_eq_getElem hi⟩
    obtain ⟨⟨kd, t⟩, hq, d1, d2⟩ := pr_at2 hpd hkv
    refine .inr ⟨⟨ha', hps, hi⟩, fun H2 => Mu Dd H1 H2 ∧ ∃ acc, H2 Dd = some (.lst acc) ∧ acc.length ≤ i + 1 ∧ Paired (Dp K (Nw F H1 H2)) acc (pairsD (kts.take (i + 1))), fun H2 ⟨h1, h2⟩ => ⟨m - 1, by omega, by omega, h1, h2⟩, fun x H2 hy => ?_⟩
    obtain ⟨rfl, v', hx⟩ := hy
    rw [hkv] at hx
    cases hx
    have s1 : (((wipe σ [c]).set c (some k)))[j]? = some (some (V.ref a)) := by
      show ((σ.set c none).set c (some k))[j]? = _
      rw [List.getElem?_set_ne (fun e => hjc e.symm), List.getElem?_set_ne (fun e => hjc e.symm)]
      exact hj
    have s2 : (((wipe σ [c]).set c (some k)))[c]? = some (some k) := by
      show ((σ.set c none).set c (some k))[c]? = _
      rw [List.getElem?_set_self (by rw [List.length_set]; exact c1)]
    have g := hget H2 ⟨od, ha'⟩ exF i k v hkv
    refine ⟨?_, .ref a, s1, k, s2, a, v, rfl, g, rfl, _, rfl, ?_⟩
    · show ((σ.set c none).set c (some k)).set c none = σ.set c none
      rw [List.set_set, List.set_set]
    · cases t with
      | none =>
        cases (show Dp K F v .none from d2)
        rw [if_neg (by decide)]
        refine ⟨mu, acc, hacc, by omega, ?_⟩
        rw [pairsD_take hq]
        simpa using hp
      | some t =>
        obtain ⟨pt, rfl⟩ := thD_ref (show Dp K F v (thD t) from d2) rfl
        rw [if_pos (by rfl)]
        refine ⟨k, s2, .ref a, s1, k, s2, a, .ref pt, rfl, g, by show 2 ≤ sizeLine; decide, fun p hpn => ?_⟩
        have pd : p ≠ Dd := fun e => by rw [e, hacc] at hpn; cases hpn
        have p1 : H1 p = none := by
          cases hb : H1 p with
          | none => rfl
          | some o => rw [mu p o pd hb] at hpn; cases hpn
        refine ⟨acc, by rw [upd_ne (fun e => pd e.symm)]; exact hacc, sz_lt (by omega), fun b o ne hb => ?_, acc ++ [.ref p], upd_same, by rw [List.length_append, List.length_singleton]; omega, ?_⟩
        · rw [upd_ne ne, upd_ne (fun e => by rw [e, p1] at hb; cases hb)]
          exact mu b o ne hb
        · rw [pairsD_take hq]
          have en : Ex (Nw F H1 H2) (Nw F H1 (upd (upd H2 p (.tup [k, .ref pt])) Dd (.lst (acc ++ [.ref p])))) := fun b o e => by
            unfold Nw at e ⊢
            cases f : F b with
            | some z => rw [f] at e; exact e
            | none =>
              rw [f] at e
              cases h : H1 b with
              | some z => rw [h] at e; cases e
              | none =>
                rw [h] at e
                show upd _ Dd _ b = some o
                rw [upd_ne (fun z => by rw [z, ← hH1, upd_same] at h; cases h), upd_ne (fun z => by rw [z, hpn] at e; cases e)]
                exact e
          refine pr_app (Paired.mono (fun _ _ z => dp_ex en z) hp) (.cons ?_ .nil)
          refine .tup (st_of (nw_new (fn _ (h1n _ p1)) p1 (by rw [upd_ne pd]; exact upd_same))) (.cons (dp_ex nw_ex d1) (.cons (dp_ex nw_ex (show Dp K F (.ref pt) (thD t) from d2)) .nil))
  · refine .inl ⟨⟨ha', hps, Nat.le_of_not_lt hi⟩, ha', q Dd _ ?_⟩
    have ex : Ex H (upd H' a u) := fun b o e => by
      by_cases ne : b = a
      · rw [ne, hu] at e; rw [ne, upd_same]; exact e
      · rw [upd_ne ne]; exact mu b o (fun z => by rw [z, hD0] at e; cases e) (h1o b o ne e)
    refine R.grow ex (.lst (sq_of (nw_new (fn _ hD0) hD0 (by rw [upd_ne (fun e => ad e.symm)]; exact hacc))) (dpAll_of ?_))
    have hkl : kts.length = ps.length := (Paired.length hpd).symm
    rw [List.take_of_length_le (by omega)] at hp
    refine Paired.mono (fun _ _ z => dp_ex (fun b o e => ?_) z) hp
    unfold Nw at e ⊢
    cases f : F b with
    | some z => rw [f] at e; exact e
    | none =>
      rw [f] at e
      cases h : H1 b with
      | some z => rw [h] at e; cases e
      | none =>
        rw [h] at e
        rw [h1n b h]
        show upd H' a u b = some o
        rw [upd_ne (fun z => by rw [z, h1a] at h; cases h)]
        exact e
end
/-! ### sorted data -/
def sortD (ds : List PyData) : List PyData := ds.mergeSort (PySem.W.dataLe false id)
theorem srt_snd (bs : List Vd) : (srt bs).map (·.2) = sortD (bs.map (·.2)) := by
  unfold srt sortD
  exact List.map_mergeSort (r := PySem.W.dataLe false keyB) (s := PySem.W.dataLe false id) (f := fun b : Vd => b.2) (l := bs) (fun _ _ _ _ => rfl)
theorem srtP_snd (bs : List (Vd × Vd)) : (srtP bs).map prD2 = sortD (bs.map prD2) := by
  unfold srtP sortD
  exact List.map_mergeSort (r := PySem.W.dataLe false prD2) (s := PySem.W.dataLe false id) (f := prD2) (l := bs) (fun _ _ _ _ => rfl)
theorem zip_fst {vs : List V} {ds : List PyData} (h : vs.length = ds.length) : (vs.zip ds).map (·.1) = vs := List.map_fst_zip (by omega)
theorem zip_snd {vs : List V} {ds : List PyData} (h : vs.length = ds.length) : (vs.zip ds).map (·.2) = ds := List.map_snd_zip (by omega)
theorem zip_mem {G : V → PyData → Prop} : ∀ {vs : List V} {ds : List PyData}, Paired G vs ds → ∀ b ∈ vs.zip ds, G b.1 b.2
  | _, _, .nil, b, hb => by simp at hb
  | _, _, .cons a t, b, hb => by
    rw [List.zip_cons_cons] at hb
    rcases List.mem_cons.mp hb with rfl | hb
    · exact a
    · exact zip_mem t b hb
theorem pr_split {G : V → PyData → Prop} : ∀ (bs : List Vd), (∀ b ∈ bs, G b.1 b.2) → Paired G (bs.map (·.1)) (bs.map (·.2))
  | [], _ => .nil
  | b :: bs, h => .cons (h b (List.mem_cons_self ..)) (pr_split bs fun c hc => h c (List.mem_cons_of_mem _ hc))
section
variable {P : Program} {w : World} {K : PySem.W.Frag} {B F H : Hp} {M : Objs} {L : Facts} {Q : VK} {p : Addr}
theorem Rep.sortd {ds : List PyData} (R : Rep P w K B H M L) (h : Has L (.ref p) (.list ds)) (hal : PySem.W.AllAlike ds) (hs : PySem.W.Sortable ds) (hdep : ∀ d ∈ ds, d.depth ≤ 64)
    (q : ∀ l H', Rep P w K B H' M ((.ref l, .list (sortD ds)) :: L) → Q (.ref l) H') : rSortD K [.ref p] H Q := by
  obtain ⟨F, r⟩ := R
  generalize hd : PyData.list ds = dd at h
  have d0 := has_dp r h
  subst hd
  cases d0 with
  | @lst _ vs _ h1 h2 =>
    have hp := dpAll_to h2
    have hlen := Paired.length hp
    have hz := zip_mem hp
    have e2 : (vs.zip ds).map keyB = ds := zip_snd hlen
    refine ⟨p, vs.zip ds, rfl, by rw [zip_fst hlen]; exact ex_l r.fh h1, fun b hb => dp_ex r.fh (hz b hb), by rw [e2]; exact hal, by rw [e2]; exact hs, fun b hb => hdep b.2 ?_, fun l hl => q l _ (r.grow (Ex.new hl) ?_)⟩
    · have := List.mem_map_of_mem (f := keyB) hb
      rw [e2] at this
      exact this
    · have e3 : sortD ds = (srt (vs.zip ds)).map (·.2) := by rw [srt_snd, zip_snd hlen]
      rw [e3]
      refine .lst (sq_of (nw_new (r.none_ hl) hl upd_same)) (dpAll_of (pr_split _ fun b hb => dp_ex nw_ex (hz b ?_)))
      exact (List.mergeSort_perm _ _).mem_iff.mp hb
end
mutual
theorem dp_of_ky {K : PySem.W.Frag} {F : Hp} : ∀ (k : NestedKey) (v : V), KyD K F v k → Dp K F v (nkD k)
  | .none, _, h => by cases h; rw [nkD]; exact .non
  | .num i, _, h => by cases h; rw [nkD]; exact .int i
  | .text x, _, h => by cases h; rw [nkD]; exact .str x
  | .tup ks, _, h => by
    cases h with
    | tup hs ha => rw [nkD]; exact .tup hs (dpAll_of_ky ks _ ha)
theorem dpAll_of_ky {K : PySem.W.Frag} {F : Hp} : ∀ (ks : List NestedKey) (vs : List V), KyAll K F vs ks → DpAll K F vs (nkD.nkDs ks)
  | [], _, h => by cases h; rw [nkD.nkDs]; exact .nil
  | k :: ks, _, h => by
    cases h with
    | cons a b => rw [nkD.nkDs]; exact .cons (dp_of_ky k _ a) (dpAll_of_ky ks _ b)
end
theorem valV_at {ws : List (L2.Key × V)} (nd : (ws.map (·.1)).Nodup) : ∀ {n : Nat} {k : L2.Key} {v : V}, ws[n]? = some (k, v) → valV ws k = some v := by
  induction ws with
  | nil => intro n k v h; simp at h
  | cons x ws ih =>
    intro n k v h
    rw [List.map_cons, List.nodup_cons] at nd
    cases n with
    | zero => rw [List.getElem?_cons_zero] at h; cases h; exact valV_pos rfl
    | succ n =>
      rw [List.getElem?_cons_succ] at h
      rw [valV_neg (fun e => nd.1 (by rw [e]; exact List.mem_map_of_mem (f := (·.1)) (List.mem_of_getElem? h)))]
      exact ih nd.2 h
theorem valN_at {ws : List Nkv} (nd : (ws.map (·.1)).Nodup) : ∀ {n : Nat} {x : Nkv}, ws[n]? = some x → valN ws x.1 = some x.2.2 := by
  induction ws with
  | nil => intro n x h; simp at h
  | cons y ws ih =>
    intro n x h
    rw [List.map_cons, List.nodup_cons] at nd
    rw [valN_cons]
    cases n with
    | zero => rw [List.getElem?_cons_zero] at h; cases h; rw [if_pos rfl]
    | succ n =>
      rw [List.getElem?_cons_succ] at h
      rw [if_neg (fun e => nd.1 (by rw [e]; exact List.mem_map_of_mem (f := (·.1)) (List.mem_of_getElem? h)))]
      exact ih nd.2 h
theorem pr_keys {α β κ : Type} {f : α → κ} {g : β → κ} {G : α → β → Prop} (hk : ∀ a b, G a b → f a = g b) : ∀ {xs : List α} {ys : List β}, Paired G xs ys → xs.map f = ys.map g
  | _, _, .nil => rfl
  | _, _, .cons a t => by rw [List.map_cons, List.map_cons, hk _ _ a, pr_keys hk t]
theorem pr_mem {α β : Type} {G : α → β → Prop} : ∀ {xs : List α} {ys : List β}, Paired G xs ys → Paired (fun a b => G a b ∧ a ∈ xs) xs ys
  | _, _, .nil => .nil
  | _, _, .cons a t => .cons ⟨a, List.mem_cons_self ..⟩ (Paired.mono (fun _ _ z => ⟨z.1, List.mem_cons_of_mem _ z.2⟩) (pr_mem t))
theorem pr_maps {α β γ δ : Type} {G : α → β → Prop} {G2 : γ → δ → Prop} {f : α → γ} {g : β → δ} (h : ∀ a b, G a b → G2 (f a) (g b)) : ∀ {xs : List α} {ys : List β}, Paired G xs ys → Paired G2 (xs.map f) (ys.map g)
  | _, _, .nil => .nil
  | _, _, .cons a t => .cons (h _ _ a) (pr_maps h t)
def ktN (l : List (Str × Option Th)) : List (PyData × Option Th) := l.map fun x => (.str x.1, x.2)
def ktS (l : List ((Th × Str) × Option Th)) : List (PyData × Option Th) := l.map fun x => (.tuple [thD x.1.1, .str x.1.2], x.2)
def ranD (s : LS) : PyData := .tuple [.list (sortD (pairsD (ktN s.nm))), .list (sortD (pairsD (ktS s.sl)))]
theorem pairsN_shape {l : List (Str × Option Th)} : ∀ d ∈ pairsD (ktN l), ∃ (x : Str) (t : Th), d = .tuple [.str x, thD t] := by
  intro d hd
  unfold pairsD ktN at hd
  obtain ⟨q, hq, e⟩ := List.mem_filterMap.mp hd
  obtain ⟨x, _, rfl⟩ := List.mem_map.mp hq
  obtain ⟨t, _, rfl⟩ := Option.map_eq_some_iff.mp e
  exact ⟨_, t, rfl⟩
theorem pairsS_shape {l : List ((Th × Str) × Option Th)} : ∀ d ∈ pairsD (ktS l), ∃ (k : Th × Str) (t : Th), d = .tuple [.tuple [thD k.1, .str k.2], thD t] := by
  intro d hd
  unfold pairsD ktS at hd
  obtain ⟨q, hq, e⟩ := List.mem_filterMap.mp hd
  obtain ⟨x, _, rfl⟩ := List.mem_map.mp hq
  obtain ⟨t, _, rfl⟩ := Option.map_eq_some_iff.mp e
  exact ⟨x.1, t, rfl⟩
theorem alikeN {ds : List PyData} (h : ∀ d ∈ ds, ∃ (x : Str) (t : Th), d = .tuple [.str x, thD t]) : PySem.W.AllAlike ds ∧ PySem.W.Sortable ds ∧ ∀ d ∈ ds, d.depth ≤ 64 := by
  refine ⟨fun d hd d' hd' => ?_, .inl fun d hd => ?_, fun d hd => ?_⟩
  · obtain ⟨x, t, rfl⟩ := h d hd
    obtain ⟨x', t', rfl⟩ := h d' hd'
    simp [PySem.W.alike, PySem.W.alikeAll, thD]
  · obtain ⟨x, t, rfl⟩ := h d hd
    exact ⟨_, _, rfl⟩
  · obtain ⟨x, t, rfl⟩ := h d hd
    simp [PyData.depth, PyData.depthAll, thD]
theorem alikeS {ds : List PyData} (h : ∀ d ∈ ds, ∃ (k : Th × Str) (t : Th), d = .tuple [.tuple [thD k.1, .str k.2], thD t]) : PySem.W.AllAlike ds ∧ PySem.W.Sortable ds ∧ ∀ d ∈ ds, d.depth ≤ 64 := by
  refine ⟨fun d hd d' hd' => ?_, .inl fun d hd => ?_, fun d hd => ?_⟩
  · obtain ⟨x, t, rfl⟩ := h d hd
    obtain ⟨x', t', rfl⟩ := h d' hd'
    simp [PySem.W.alike, PySem.W.alikeAll, thD]
  · obtain ⟨x, t, rfl⟩ := h d hd
    exact ⟨_, _, rfl⟩
  · obtain ⟨x, t, rfl⟩ := h d hd
    simp [PyData.depth, PyData.depthAll, thD]
def NdL (s : LS) : Prop := (s.nm.map (·.1)).Nodup ∧ (s.sl.map (·.1)).Nodup ∧ (s.md.map (·.1)).Nodup
theorem ndL_step {r : Row} {s : LS} (h : NdL s) : NdL (stepL r s) := by
  obtain ⟨h1, h2, h3⟩ := h
  cases r with
  | new x b => exact ⟨aput_nodup h1, h2, aput_nodup h3⟩
  | move x y => exact ⟨aput_nodup h1, h2, h3⟩
  | put x z y =>
    cases hx : (aget s.nm x).join with
    | none =>
      have e : stepL (.put x z y) s = s := by simp only [stepL, hx]
      rw [e]
      exact ⟨h1, h2, h3⟩
    | some t =>
      have e : stepL (.put x z y) s = ⟨s.nm, aput s.sl (t, z) (aget s.nm y).join, s.md⟩ := by simp only [stepL, hx]
      rw [e]
      exact ⟨h1, aput_nodup h2, h3⟩
  | take x z y => exact ⟨aput_nodup h1, h2, h3⟩
theorem ndL_run (rows : List Row) (ns : List Nat) : NdL (runL rows ns) := by
  unfold runL
  suffices h : ∀ s, NdL s → NdL (ns.foldl (fun s n => match rows[n]? with | some r => stepL r s | none => s) s) from h _ ⟨List.nodup_nil, List.nodup_nil, List.nodup_nil⟩
  induction ns with
  | nil => exact fun s h => h
  | cons n ns ih =>
    intro s h
    rw [List.foldl_cons]
    refine ih _ ?_
    cases rows[n]? with
    | none => exact h
    | some r => exact ndL_step h

section
variable {P : Program} {w : World} {K : PySem.W.Frag} {mg : Str → Option Value} {base : Heap}
def spRan (P : Program) (w : World) (K : PySem.W.Frag) : Sp := fun vs H Q _ => ∃ B L p nb rows ns, vs = [.ref p, .ref nb] ∧ Rep P w K B H [] L ∧ Has L (.ref p) (progD rows) ∧ Has L (.ref nb) (numD ns) ∧ (∀ n ∈ ns, n < rows.length) ∧ ns.length ≤ 1000 ∧
  ∀ t H', Rep P w K B H' [] ((.ref t, ranD (runL rows ns)) :: L) → Q (.ref t) H'
theorem ok_Lran (T : Top K mg) : FnOk P w K mg base CX0 1 T.f_Lran T.d_Lran ["_law_told", "_law_numbers"] (spRan P w K) := by
  refine T.F_Lran.ok sc_Lran (fun vs H Q E h => ?_) (fun cdv A outer s H vs Q E hr h => ?_)
  · obtain ⟨B, L, p, nb, rows, ns, rfl, _⟩ := h
    rfl
  · obtain ⟨B, L, p, nb, rows, ns, rfl, R, hp, hb, hn, hl, q⟩ := h
    refine ⟨_, (pss_cons (ps_asg (pe_tup (pa_cons pe_dnewK (pa_cons pe_newN (pa_cons pe_dnewK pa_nil)))) (pg_tup (n := 3) (by rfl) (pgs_cons (pg_name (i := 2) sc_Lran.nd rfl (Or.inr rfl)) (pgs_cons (pg_name (i := 3) sc_Lran.nd rfl (Or.inr rfl)) (pgs_cons (pg_name (i := 4) sc_Lran.nd rfl (Or.inl rfl)) pgs_nil)))))
          (pss_cons (ps_for PassesOwn.never rfl (pi_list (pv 1)) (pg_name (i := 5) sc_Lran.nd rfl (Or.inl rfl))
            (pss_cons (ps_set (i := 6) sc_Lran.nd rfl (Or.inl rfl) (pe_ix ix_tup (pv 0) (pv 5) (fun _ _ => rfl)))
          (pss_cons (ps_par3 (i := 7) (j := 8) (l := 9) (by rfl) sc_Lran.nd rfl rfl rfl (by decide) (by decide) (by decide) rfl rfl rfl (pa_cons (pe_ix ix_tup (pv 6) pe_int (fun _ _ => rfl)) (pa_cons (pe_ix ix_tup (pv 6) pe_int (fun _ _ => rfl)) (pa_cons (pe_ix ix_tup (pv 6) (pe_un un_neg pe_int) (fun _ _ => rfl)) pa_nil))) (by rfl))
          (pss_cons (ps_if (pt_cmpR op_eq (pv 7) pe_str (nomark _))
            (pss_cons (ps_uput (hu9_of hr) (pv 4) (pv 9) (pe_op op_add (pe_uget2 (hu9_of hr) (pv 4) (pv 9) (pe_un un_neg pe_int) ⟨by rfl, by rfl, by rfl, by rfl⟩) pe_int) rfl)
          (pss_cons (ps_uput (hu9_of hr) (pv 2) (pv 8) (pe_tup (pa_cons (pv 9) (pa_cons (pe_uget (hu9_of hr) (pv 4) (pv 9) (fun _ _ => rfl)) pa_nil))) rfl)
          (pss_one ps_continue)))
            pss_nil)
          (pss_cons (ps_set (i := 10) sc_Lran.nd rfl (Or.inl rfl) (pe_uget1 (hu9_of hr) (pv 2) (pv 9) ⟨by rfl, by rfl, by rfl, by rfl⟩))
          (pss_cons (ps_if (pt_cmpR op_eq (pv 7) pe_str (nomark _))
            (pss_cons (ps_if (pt_cmpR op_notN (pe_uget1 (hu9_of hr) (pv 2) (pv 8) ⟨by rfl, by rfl, by rfl, by rfl⟩) pe_non (nomark _))
            (pss_one (ps_uput (hu9_of hr) (pv 3) (pe_tup (pa_cons (pe_uget (hu9_of hr) (pv 2) (pv 8) (fun _ _ => rfl)) (pa_cons (pe_ix ix_tup (pv 6) pe_int (fun _ _ => rfl)) pa_nil))) (pv 10) rfl))
            pss_nil)
          (pss_one ps_continue))
            pss_nil)
          (pss_cons (ps_if (PW.pt (pw_and (pt_cmpR op_eq (pv 7) pe_str (nomark _)) (pw_and1 (pt_cmpR op_notN (pv 10) pe_non (nomark _)))))
            (pss_one (ps_set (i := 10) sc_Lran.nd rfl (Or.inl rfl) (pe_uget1 (hu9_of hr) (pv 3) (pe_tup (pa_cons (pv 10) (pa_cons (pe_ix ix_tup (pv 6) pe_int (fun _ _ => rfl)) pa_nil))) ⟨by rfl, by rfl, by rfl, by rfl⟩)))
            pss_nil)
          (pss_one (ps_uput (hu9_of hr) (pv 2) (pv 8) (pv 10) rfl)))))))))
          (pss_cons (ps_lock (ps_setLc (i := 11) (own := [("_law_one", 13)]) (g := gName 13) (by rfl) sc_Lran.nd rfl rfl (sw_true rfl rfl rfl (by decide +kernel)) (pi_keysR (pv 2)) (blkOk_by (own := [("_law_one", 13)]) (N := ["_law_told", "_law_numbers", "_law_names", "_law_slots", "_law_made", "_law_number", "_law_row_here", "_law_word", "_law_x", "_law_last", "_law_thing", "_law_some", "_law_others", "_law_one"]) (sc := defScope s_Lran) (by decide +kernel)) (fun _ _ _ _ _ => pg_name (i := 13) sc_Lran.nd rfl (Or.inl rfl)) (fun _ _ _ _ _ => (pts_one (pt_cmpR op_notN (show PE _ _ (tUGet P w K _ _) from pe_uget (hu9_of hr) (pv 2) (pv 13) (fun _ _ => rfl)) pe_non (nomark _)))) (fun _ _ _ _ _ => (pe_tup (pa_cons (pv 13) (pa_cons (show PE _ _ (tUGet P w K _ _) from pe_uget (hu9_of hr) (pv 2) (pv 13) (fun _ _ => rfl)) pa_nil))))))
          (pss_cons (ps_lock (ps_setLc (i := 12) (own := [("_law_one", 13)]) (g := gName 13) (by rfl) sc_Lran.nd rfl rfl (sw_true rfl rfl rfl (by decide +kernel)) (pi_keysR (pv 3)) (blkOk_by (own := [("_law_one", 13)]) (N := ["_law_told", "_law_numbers", "_law_names", "_law_slots", "_law_made", "_law_number", "_law_row_here", "_law_word", "_law_x", "_law_last", "_law_thing", "_law_some", "_law_others", "_law_one"]) (sc := defScope s_Lran) (by decide +kernel)) (fun _ _ _ _ _ => pg_name (i := 13) sc_Lran.nd rfl (Or.inl rfl)) (fun _ _ _ _ _ => (pts_one (pt_cmpR op_notN (show PE _ _ (tUGet P w K _ _) from pe_uget (hu9_of hr) (pv 3) (pv 13) (fun _ _ => rfl)) pe_non (nomark _)))) (fun _ _ _ _ _ => (pe_tup (pa_cons (pv 13) (pa_cons (show PE _ _ (tUGet P w K _ _) from pe_uget (hu9_of hr) (pv 3) (pv 13) (fun _ _ => rfl)) pa_nil))))))
          (pss_one (ps_ret (pe_tup (pa_cons (pe_callB (cr_sortD (hu80_of hr)) (by rfl) T.z_sorted (by decide +kernel) (pa_cons (pv 11) pa_nil)) (pa_cons (pe_callB (cr_sortD (hu80_of hr)) (by rfl) T.z_sorted (by decide +kernel) (pa_cons (pv 12) pa_nil)) pa_nil))))))))), ?_⟩
    rw [show start ["_law_told", "_law_numbers", "_law_names", "_law_slots", "_law_made", "_law_number", "_law_row_here", "_law_word", "_law_x", "_law_last", "_law_thing", "_law_some", "_law_others", "_law_one"] [V.ref p, V.ref nb] = [some (V.ref p), some (V.ref nb), none, none, none, none, none, none, none, none, none, none, none, none] from rfl]
    try dsimp only [cxOf]
    walk_at "rd"
    intro a1 ha1
    have R1 := R.fresh (o := .dic []) (u := .dK []) ha1 fun F r => ⟨[], upd_same, .nil⟩
    generalize upd H a1 (.dK []) = H1 at R1 ⊢
    walk_at "rd"
    intro a2 ha2
    have R2 := R1.fresh (o := .dicN []) (u := DnO P w a2 []) ha2 fun F r => ⟨[], upd_same, (fun e he => nomatch he), .nil⟩
    generalize upd H1 a2 (DnO P w a2 []) = H2 at R2 ⊢
    walk_at "rd"
    intro a3 ha3
    have R3 := R2.fresh (o := .dic []) (u := .dK []) ha3 fun F r => ⟨[], upd_same, .nil⟩
    generalize upd H2 a3 (.dK []) = H3 at R3 ⊢
    walk_at "rd"
    rename_i p4 hp4 H4 e4 k4
    have R0 : Rep P w K B H4 (ObsL a1 a2 a3 (runL rows (ns.take 0))) L := R3.mono e4
    clear R1 R2 R3
    refine ⟨p4, _, rfl, st_of k4, rfl, ?_⟩
    clear k4 e4 hp4 ha1 ha2 ha3
    walk_at "rd"
    refine ⟨nb, rfl, ⟨_, R0.nums hb⟩, ?_⟩
    refine l_list (xs := ns.map fun n => V.int (n : Nat)) (fun i σ' H' => ∃ c d e f g h : Option V, σ' = [some (V.ref p), some (V.ref nb), some (V.ref a1), some (V.ref a2), some (V.ref a3), c, d, e, f, g, h, none, none, none] ∧ Rep P w K B H' (ObsL a1 a2 a3 (runL rows (ns.take i))) L) ⟨_, _, _, _, _, _, rfl, R0⟩ (fun i σ' H' _ ⟨_, _, _, _, _, _, _, R'⟩ => R'.nums hb) ?_ ?_
    · rintro i x σ' H' hx ⟨c, d, e, f, g, h, rfl, R'⟩
      rw [List.getElem?_map] at hx
      obtain ⟨n, hni, rfl⟩ := Option.map_eq_some_iff.mp hx
      have hnr := hn n (List.mem_of_getElem? hni)
      obtain ⟨row, hr1⟩ : ∃ r, rows[n]? = some r := ⟨_, List.getElem?_eq_getElem hnr⟩
      obtain ⟨vs, v, hsq, hv, _, R2⟩ := R'.itemT hp (n := n) (d := rowDt row) (by rw [List.getElem?_map, hr1]; rfl)
      obtain ⟨pr, rfl, hpr⟩ := dp_row (R2.dp has_hd)
      have hil : i < ns.length := (List.getElem?_eq_some_iff.mp hni).1
      obtain ⟨s1, s2, s3⟩ := smallL_run rows ns hn i (by omega)
      rw [runL_take rows ns hni hr1]
      generalize runL rows (ns.take i) = s at R2 s1 s2 s3 ⊢
      clear R'
      have h1 : (ObsL a1 a2 a3 s)[0]? = some (a1, .dic (nmL s.nm)) := rfl
      have h2 : (ObsL a1 a2 a3 s)[1]? = some (a2, .dicN (slL s.sl)) := rfl
      have h3 : (ObsL a1 a2 a3 s)[2]? = some (a3, .dic (mdK s.md)) := rfl
      have l1 : (nmL s.nm).length < 100000 := by unfold nmL; rw [List.length_map]; omega
      have l2 : (slL s.sl).length < 100000 := by unfold slL; rw [List.length_map]; omega
      have l3 : (mdK s.md).length < 100000 := by unfold mdK; rw [List.length_map]; omega
      cases row with
      | new x b =>
        have hpr : SqT K H' pr [.str (Str.ofString "new"), .str x, .str b] := hpr
        walk_at "rd"
        rw [if_pos (decide_eq_true rfl)]
        walk_at "rd"
        obtain ⟨o, g1, g2, g3⟩ := R2.mdGet h3 b
        refine ⟨a3, rfl, udG g1, ?_⟩
        walk_at "rd"
        refine ⟨o, g1, ?_⟩
        rw [g2]
        walk_at "rd"
        obtain ⟨H5, u5, R5⟩ := R2.putK h3 (.inr b) (s := .v (.int ((aget s.md b).getD (-1) + 1))) (.v (.int _)) l3
        rw [md_put] at R5
        refine ⟨a3, H5, rfl, u5, ?_⟩
        dsimp only
        walk_at "rd"
        obtain ⟨o2, g4, _, g6⟩ := R5.mdGet (i := 2) rfl b
        rw [g6 _ (by rw [aget_put, if_pos rfl])] at g4
        refine ⟨a3, _, rfl, g4, ?_⟩
        walk_at "rd"
        rename_i p6 hp6 H6 e6 k6
        have R6 := R5.tupG hp6 e6 k6 (ds := [.str b, .int ((aget s.md b).getD (-1) + 1)]) (.cons (.str _) (.cons (.int _) .nil))
        obtain ⟨H7, u7, R7⟩ := R6.putK (i := 0) (a := a1) rfl (.inr x) (s := .v (oD (some (b, (aget s.md b).getD (-1) + 1)))) (.v has_hd) l1
        rw [nl_put] at R7
        refine ⟨a1, H7, rfl, u7, ?_⟩
        dsimp only
        walk_at "rd"
        exact ⟨_, _, _, _, _, _, rfl, R7.drop1.drop1⟩
      | move x y =>
        have hpr : SqT K H' pr [.str (Str.ofString "move"), .str x, .str y] := hpr
        walk_at "rd"
        rw [if_neg (by decide +kernel)]
        walk_at "rd"
        obtain ⟨o, g1, T1, _⟩ := R2.nlGet h1 y
        refine ⟨a1, rfl, udG g1, ?_⟩
        walk_at "rd"
        refine ⟨o, g1, ?_⟩
        walk_at "rd"
        rw [if_neg (by decide +kernel)]
        walk_at "rd"
        rw [if_neg (by decide +kernel)]
        obtain ⟨L', R3, _, hh, hL⟩ := T1.has
        walk_at "rd"
        rw [if_neg Bool.false_ne_true]
        walk_at "rd"
        obtain ⟨H5, u5, R5⟩ := R3.putK h1 (.inr x) (.v hh) l1
        rw [nl_put] at R5
        refine ⟨a1, H5, rfl, u5, ?_⟩
        exact ⟨_, _, _, _, _, _, rfl, R5.less fun x h => hL x (.tail _ h)⟩
      | put x z y =>
        have hpr : SqT K H' pr [.str (Str.ofString "put"), .str x, .str z, .str y] := hpr
        walk_at "rd"
        rw [if_neg (by decide +kernel)]
        walk_at "rd"
        obtain ⟨o, g1, T1, _⟩ := R2.nlGet h1 y
        refine ⟨a1, rfl, udG g1, ?_⟩
        walk_at "rd"
        refine ⟨o, g1, ?_⟩
        walk_at "rd"
        rw [if_pos (decide_eq_true rfl)]
        obtain ⟨L', R3, _, hh, hL⟩ := T1.has
        generalize o.getD V.non = ov at hh ⊢
        walk_at "rd"
        obtain ⟨o2, g2, T2, _⟩ := R3.nlGet h1 x
        refine ⟨a1, rfl, udG g2, ?_⟩
        walk_at "rd"
        refine ⟨o2, g2, ?_⟩
        walk_at "rd"
        refine ⟨rfl, ?_⟩
        refine w_bl ?_
        rcases T2 with ⟨hn, hv, R4⟩ | ⟨t, pt, ht, hv, R4⟩
        · rw [hv, if_neg (by decide)]
          walk_at "rd"
          have e : stepL (.put x z y) s = s := by simp only [stepL, hn]
          exact ⟨_, _, _, _, _, _, rfl, by rw [e]; exact R4.less fun x h => hL x (.tail _ h)⟩
        · obtain rfl : o2 = some (.ref pt) := by
            cases o2 with
            | none => cases hv
            | some v => exact congrArg some hv
          rw [if_pos (by rfl)]
          walk_at "rd"
          refine ⟨a1, .ref pt, rfl, g2, ?_⟩
          walk_at "rd"
          rename_i p2 hp2 H2 e2 k2
          have R5 := R4.tupG hp2 e2 k2 (ds := [thD t, .str z]) (.cons has_hd (.cons (.str _) .nil))
          obtain ⟨H6, u6, R6⟩ := R5.putN (k := ndK (t, z)) h2 (by rw [nk_th]; exact has_hd) (by simp [ndK, NestedKey.depth, NestedKey.depthAll]) (.v (has_tl (has_tl hh))) l2
          rw [ll_put] at R6
          refine ⟨a2, H6, rfl, u6, ?_⟩
          walk_at "rd"
          have e : stepL (.put x z y) s = ⟨s.nm, aput s.sl (t, z) (aget s.nm y).join, s.md⟩ := by simp only [stepL, ht]
          exact ⟨_, _, _, _, _, _, rfl, by rw [e]; exact R6.less fun x h => .tail _ (.tail _ (hL x (.tail _ h)))⟩
      | take x z y =>
        have hpr : SqT K H' pr [.str (Str.ofString "take"), .str x, .str z, .str y] := hpr
        walk_at "rd"
        rw [if_neg (by decide +kernel)]
        walk_at "rd"
        obtain ⟨o, g1, T1, _⟩ := R2.nlGet h1 y
        refine ⟨a1, rfl, udG g1, ?_⟩
        walk_at "rd"
        refine ⟨o, g1, ?_⟩
        walk_at "rd"
        rw [if_neg (by decide +kernel)]
        walk_at "rd"
        rw [if_pos (decide_eq_true rfl)]
        walk_at "rd"
        refine ⟨rfl, ?_⟩
        refine w_bl ?_
        rcases T1 with ⟨hn, hv, R3⟩ | ⟨t, pt, ht, hv, R3⟩
        · rw [hv, if_neg (by decide)]
          walk_at "rd"
          obtain ⟨H5, u5, R5⟩ := R3.putK h1 (.inr x) (s := .v (oD none)) (.v .non) l1
          rw [nl_put] at R5
          refine ⟨a1, H5, rfl, u5, ?_⟩
          have e : stepL (.take x z y) s = ⟨aput s.nm x none, s.sl, s.md⟩ := by simp only [stepL, hn, Option.bind]
          exact ⟨_, _, _, _, _, _, rfl, by rw [e]; exact R5.drop1⟩
        · rw [hv, if_pos (by rfl)]
          walk_at "rd"
          obtain ⟨ws2, k2⟩ : ∃ ws, H' a2 = some (DnO P w a2 ws) := let ⟨ws, g, _⟩ := R3.at (List.mem_of_getElem? h2); ⟨ws, g⟩
          refine ⟨a2, rfl, udN k2, ?_⟩
          walk_at "rd"
          rename_i p2 hp2 H2 e2 k3
          have R4 := R3.tupG hp2 e2 k3 (ds := [thD t, .str z]) (.cons has_hd (.cons (.str _) .nil))
          obtain ⟨o2, g2, T2⟩ := R4.llGet h2 has_hd
          refine ⟨o2, g2, ?_⟩
          obtain ⟨L', R5, _, hh, hL⟩ := T2.has
          walk_at "rd"
          obtain ⟨H6, u6, R6⟩ := R5.putK h1 (.inr x) (.v hh) l1
          rw [nl_put] at R6
          refine ⟨a1, H6, rfl, u6, ?_⟩
          have e : stepL (.take x z y) s = ⟨aput s.nm x (aget s.sl (t, z)).join, s.sl, s.md⟩ := by simp only [stepL, ht, Option.bind]
          exact ⟨_, _, _, _, _, _, rfl, by rw [e]; exact R6.less fun x h => hL x (.tail _ (.tail _ (.tail _ h)))⟩
    · rintro σ' H' ⟨c, d, e, f, g, h, rfl, R'⟩
      rw [List.length_map, List.take_length] at R'
      obtain ⟨z1, z2, _⟩ := smallL_run rows ns hn ns.length (Nat.le_refl _)
      rw [List.take_length] at z1 z2
      obtain ⟨n1, n2, _⟩ := ndL_run rows ns
      generalize runL rows ns = s at R' z1 z2 n1 n2 q
      walk_at "rd"
      obtain ⟨F, r⟩ := R'
      obtain ⟨fa, ws, g1, g2⟩ := r.ob a1 (.dic (nmL s.nm)) (List.mem_cons_self ..)
      have k1 : ws.map (·.1) = (nmL s.nm).map (·.1) := pr_keys (fun _ _ z => z.1) g2
      have nd1 : (ws.map (·.1)).Nodup := by
        rw [k1]
        unfold nmL
        rw [List.map_map]
        exact (List.pairwise_map.mpr (List.Pairwise.imp (fun h e => h (Sum.inr.inj e)) (List.pairwise_map.mp n1)) : ((s.nm.map fun x => (Sum.inr x.1 : L2.Key)).Nodup))
      have w1 : ws.length ≤ 50000 := by have := Paired.length g2; unfold nmL at this; rw [List.length_map] at this; omega
      refine l_pairs (j := 2) (c := 13) (r := 11) (kts := ktN s.nm) (ps := ws.map fun x => (kV x.1, x.2)) r g1 True.intro (.inl ⟨ws, rfl, rfl⟩) (fun Hx ⟨od, hx⟩ _ n k v hkv => ?_) fa ?_ (by rw [List.length_map]; exact w1) rfl (by decide) rfl fun l1 H5 R5 => ?_
      · rw [List.getElem?_map] at hkv
        obtain ⟨x, hx2, e⟩ := Option.map_eq_some_iff.mp hkv
        cases e
        exact .inl ⟨ws, x.1, .inr ⟨od, hx⟩, rfl, (valV_at nd1 hx2).symm⟩
      · unfold nmL at g2
        unfold ktN
        exact pr_maps (G := fun (p : L2.Key × V) (x : Str × Option Th) => p.1 = Sum.inr x.1 ∧ Dp K F p.2 (oD x.2)) (fun p x z => ⟨by rw [z.1]; exact .str _, z.2⟩) (pr_unmap (G := PrK K F) g2)
      · clear r g1 g2 fa nd1 k1 w1
        dsimp only [List.set_cons_succ, List.set_cons_zero]
        walk_at "rd"
        obtain ⟨F, r⟩ := R5
        obtain ⟨fa, ws, g1, g3, g2⟩ := r.ob a2 (.dicN (slL s.sl)) (.tail _ (List.mem_cons_self ..))
        have k1 : ws.map (·.1) = (slL s.sl).map (·.1) := pr_keys (fun _ _ z => z.1) g2
        have nd1 : (ws.map (·.1)).Nodup := by
          rw [k1]
          unfold slL
          rw [List.map_map]
          exact (List.pairwise_map.mpr (List.Pairwise.imp (fun h e => h (ndK_inj _ _ e)) (List.pairwise_map.mp n2)) : ((s.sl.map fun x => ndK x.1).Nodup))
        have w1 : ws.length ≤ 50000 := by have := Paired.length g2; unfold slL at this; rw [List.length_map] at this; omega
        refine l_pairs (j := 3) (c := 13) (r := 12) (kts := ktS s.sl) (ps := ws.map fun x => (V.ref x.2.1, x.2.2)) r g1 True.intro (.inr ⟨ws, rfl, rfl⟩) (fun Hx ⟨od, hx⟩ eF n k v hkv => ?_) fa ?_ (by rw [List.length_map]; exact w1) rfl (by decide) rfl fun l2 H6 R6 => ?_
        · rw [List.getElem?_map] at hkv
          obtain ⟨x, hx2, e⟩ := Option.map_eq_some_iff.mp hkv
          cases e
          obtain ⟨ky, dp⟩ := g3 x (List.mem_of_getElem? hx2)
          exact .inr ⟨ws, x.1, .inr ⟨od, hx⟩, ksAt_ex eF g3, KyD.at (fun _ _ => ex_t eF) _ _ ky, ⟨_, rfl⟩, dp, (valN_at nd1 hx2).symm⟩
        · have g4 := pr_mem g2
          unfold slL at g4
          unfold ktS
          refine pr_maps (fun p x z => ?_) (pr_unmap (G := fun (p : Nkv) q => PrN K F p q ∧ p ∈ ws) g4)
          obtain ⟨⟨z1, z2⟩, z3⟩ := z
          refine ⟨?_, z2⟩
          obtain ⟨ky, dp⟩ := g3 p z3
          have := dp_of_ky _ _ ky
          rw [show p.1 = ndK x.1 from z1, show ndK x.1 = ndK (x.1.1, x.1.2) from rfl, nk_th] at this
          exact this
        · clear r g1 g2 g3 fa nd1 k1 w1
          dsimp only [List.set_cons_succ, List.set_cons_zero]
          walk_at "rd"
          obtain ⟨m1, m2, m3⟩ := alikeN (pairsN_shape (l := s.nm))
          refine R6.sortd (has_tl has_hd) m1 m2 m3 fun b1 H7 R7 => ?_
          walk_at "rd"
          obtain ⟨m1, m2, m3⟩ := alikeS (pairsS_shape (l := s.sl))
          refine R7.sortd (has_tl has_hd) m1 m2 m3 fun b2 H8 R8 => ?_
          walk_at "rd"
          rename_i p2 hp2 H2 e2 k2
          have R9 := R8.tupG hp2 e2 k2 (ds := [.list (sortD (pairsD (ktN s.nm))), .list (sortD (pairsD (ktS s.sl)))]) (.cons (has_tl has_hd) (.cons has_hd .nil))
          refine q _ _ (Rep.sub R9 List.nodup_nil (fun _ h => nomatch h) (fun x h => ?_))
          rcases List.mem_cons.mp h with rfl | h
          · exact List.mem_cons_self ..
          · exact .tail _ (.tail _ (.tail _ (.tail _ (.tail _ h))))
end

section
variable {P : Program} {w : World} {K : PySem.W.Frag} {mg : Str → Option Value} {base : Heap}
theorem rowV_map (r : Row) : rowV r = (rowT r).map V.str := by cases r <;> rfl
theorem dpAll_strs {H : Hp} : ∀ zs : List Str, DpAll K H (zs.map V.str) (zs.map .str)
  | [] => .nil
  | z :: zs => .cons (.str z) (dpAll_strs zs)
theorem prog_dp {H : Hp} {p : Addr} {rows : List Row} (h : ProgAt H p rows) : Dp K H (.ref p) (progD rows) := by
  obtain ⟨vs, h1, h2, h3⟩ := h
  refine .tup (st_of h1) (dpAll_of (paired_get (by rw [List.length_map]; exact h2) fun i a d ha hd => ?_))
  rw [List.getElem?_map] at hd
  obtain ⟨r, hr, rfl⟩ := Option.map_eq_some_iff.mp hd
  obtain ⟨v, hv, q, rfl, hq⟩ := h3 i r hr
  rw [hv] at ha
  cases ha
  exact .tup (st_of hq) (by rw [rowV_map]; exact dpAll_strs _)
theorem prog_nil (rows : List Row) : PyData.eqv (progD rows) (.tuple []) = decide (rows = []) := by
  cases rows with
  | nil => rfl
  | cons r rows => rfl
theorem prog_nil2 (rows : List Row) : PyData.eqv (.tuple []) (progD rows) = decide (rows = []) := by
  cases rows with
  | nil => rfl
  | cons r rows => rfl
def WOk (rows : List Row) : Prop := ∀ r ∈ rows, ∀ z ∈ rowT r, TxtOk 160 z
theorem canLayAll_of : ∀ {ds : List PyData}, (∀ d ∈ ds, d.canLay0 = true) → PyData.canLayAll0 ds = true
  | [], _ => by simp [PyData.canLayAll0]
  | d :: ds, h => by
    simp only [PyData.canLayAll0, Bool.and_eq_true]
    exact ⟨h d (List.mem_cons_self ..), canLayAll_of fun e he => h e (List.mem_cons_of_mem _ he)⟩
theorem depthAll_le {m : Nat} : ∀ {ds : List PyData}, (∀ e ∈ ds, e.depth ≤ m) → PyData.depthAll ds ≤ m
  | [], _ => by simp [PyData.depthAll]
  | d :: ds, h => by
    have h1 := h d (List.mem_cons_self ..)
    have h2 := depthAll_le fun e he => h e (List.mem_cons_of_mem _ he)
    simp only [PyData.depthAll]
    omega
theorem rowDt_shape {r : Row} (h : ∀ z ∈ rowT r, TxtOk 160 z) : (rowDt r).canLay0 = true ∧ (rowDt r).depth ≤ 1 := by
  unfold rowDt
  refine ⟨?_, ?_⟩
  · simp only [PyData.canLay0]
    refine canLayAll_of fun d hd => ?_
    obtain ⟨z, hz, rfl⟩ := List.mem_map.mp hd
    exact (h z hz).2
  · simp only [PyData.depth]
    refine Nat.succ_le_succ (depthAll_le fun d hd => ?_)
    obtain ⟨z, hz, rfl⟩ := List.mem_map.mp hd
    exact Nat.le_refl _
theorem prog_shaped {rows : List Row} (h : WOk rows) : SeqAt.shaped (progD rows) = true := by
  unfold SeqAt.shaped progD
  simp only [PyData.canLay0, PyData.depth, Bool.and_eq_true, decide_eq_true_eq]
  refine ⟨canLayAll_of fun d hd => ?_, decide_eq_true (Nat.le_trans (Nat.succ_le_succ (depthAll_le (m := 1) fun d hd => ?_)) (show Nat.succ 1 ≤ 64 by decide))⟩
  · obtain ⟨r, hr, rfl⟩ := List.mem_map.mp hd
    exact (rowDt_shape (h r hr)).1
  · obtain ⟨r, hr, rfl⟩ := List.mem_map.mp hd
    exact (rowDt_shape (h r hr)).2
def NatBelow (n : Nat) (v : V) (_ : Hp) : Prop := ∃ k : Nat, k < n ∧ v = .int (k : Nat)
theorem natBelow_keeps (n : Nat) : Keeps (NatBelow n) := ⟨fun _ _ _ _ h => h, fun _ _ _ _ _ _ h => h⟩
theorem nats_of {H : Hp} {n : Nat} : ∀ (vs : List V), (∀ (i : Nat) y, vs[i]? = some y → NatBelow n y H) → ∃ ns : List Nat, vs = ns.map (fun k => V.int (k : Nat)) ∧ ∀ k ∈ ns, k < n
  | [], _ => ⟨[], rfl, fun k h => nomatch h⟩
  | v :: vs, h => by
    obtain ⟨ns, h1, h2⟩ := nats_of vs fun i y (e : vs[i]? = some y) => h (i + 1) y e
    obtain ⟨k, r1, r2⟩ := h 0 v rfl
    refine ⟨k :: ns, by rw [List.map_cons, h1, r2], fun k' e => ?_⟩
    rcases List.mem_cons.mp e with rfl | e
    · exact r1
    · exact h2 _ e
theorem rep_nats (m : Nat) (ns : List Nat) : (List.replicate m (ns.map fun k => V.int (k : Nat))).flatten = ((List.replicate m ns).flatten).map fun k => V.int (k : Nat) := by
  rw [List.map_flatten, List.map_replicate]
theorem rep_mem {m : Nat} {ns : List Nat} {k : Nat} (h : k ∈ (List.replicate m ns).flatten) : k ∈ ns := by
  obtain ⟨l, hl, hk⟩ := List.mem_flatten.mp h
  rw [(List.mem_replicate.mp hl).2] at hk
  exact hk
theorem rep_len (m : Nat) (ns : List Nat) : (List.replicate m ns).flatten.length = m * ns.length := by
  rw [List.length_flatten, List.map_replicate, List.sum_replicate_nat]
def spNums (K : PySem.W.Frag) : Sp := fun vs H Q _ => ∃ (a sc p : Addr) (is : List Int) (rows : List Row), vs = [.ref a, .ref p] ∧ H a = some (PenO a sc) ∧ SqL K H sc (is.map V.int) ∧ ProgAt H p rows ∧ WOk rows ∧ rows.length ≤ 20 ∧
  ∀ (l : Addr) (ns : List Nat) H', H l = none → Ex H H' → H' l = some (.lst (ns.map fun n => V.int (n : Nat))) → (∀ n ∈ ns, n < rows.length) → ns.length ≤ 80 → Q (.ref l) H'
theorem ok_Lnumbers_drawn (T : Top K mg) : FnOk P w K mg base CX0 3 T.f_Lnumbers_drawn T.d_Lnumbers_drawn ["_law_pen", "_law_told"] (spNums K) := by
  refine T.F_Lnumbers_drawn.ok sc_Lnumbers_drawn (fun vs H Q E h => ?_) (fun cdv A outer s H vs Q E hr h => ?_)
  · obtain ⟨a, sc, p, is, rows, rfl, _⟩ := h
    rfl
  · obtain ⟨a, sc, p, is, rows, rfl, hp, hsc, hpr, hwo, hl, q⟩ := h
    refine ⟨_, (pss_cons (ps_if (pt_cmpR (op_eqD hr.units) (pv 1) (pe_tup pa_nil) (nomark _))
            (pss_one (ps_ret (pe_lst pa_nil)))
            pss_nil)
          (pss_cons (ps_set (i := 2) sc_Lnumbers_drawn.nd rfl (Or.inl rfl) (pe_call (ok_Lnext T) (hr.mono (by decide)) (by rfl) T.g_Lnext T.F_Lnext.kp T.b_Lnext .nil pass0 (pa_cons (pv 0) (pa_cons pe_int pa_nil))))
          (pss_cons (ps_if (pt_cmpR op_eq (pv 2) pe_int (nomark _))
            (pss_one (ps_ret (pe_op op_rep (pe_callTy (cr_listR rfl) (by rfl) T.z_list (by decide +kernel) (pa_cons (pe_callTy cr_range1 (by rfl) T.z_range (by decide +kernel) (pa_cons (pe_callB call_len_seq (by rfl) T.z_len PySem.boot_len (pa_cons (pv 1) pa_nil)) pa_nil)) pa_nil)) (pe_op op_add pe_int (pe_call (ok_Lnext T) (hr.mono (by decide)) (by rfl) T.g_Lnext T.F_Lnext.kp T.b_Lnext .nil pass0 (pa_cons (pv 0) (pa_cons pe_int pa_nil)))))))
            pss_nil)
          (pss_one (ps_ret (pe_lc (own := [("_law_k", 3)]) (g := gName 3) (tt := tYes) (by rfl) sc_Lnumbers_drawn.nd (pi_range1 rfl T.z_range (pa_cons (pe_call (ok_Lnext T) (hr.mono (by decide)) (by rfl) T.g_Lnext T.F_Lnext.kp T.b_Lnext .nil pass0 (pa_cons (pv 0) (pa_cons pe_int pa_nil))) pa_nil)) (blkOk_by (own := [("_law_k", 3)]) (N := ["_law_pen", "_law_told", "_law_way", "_law_k"]) (sc := defScope s_Lnumbers_drawn) (by decide +kernel)) (fun _ _ _ _ _ => pg_name (i := 3) sc_Lnumbers_drawn.nd rfl (Or.inl rfl)) (fun _ _ _ _ _ => pts_nil) (fun _ _ _ _ _ => (pe_call (ok_Lnext T) (hr.mono (by decide)) (by rfl) T.g_Lnext T.F_Lnext.kp T.b_Lnext .nil pass0 (pa_cons (pv 0) (pa_cons (pe_callB (show CallR _ (.builtin "len") (fun xs H Q => ∃ p ys, xs = [V.ref p] ∧ (SqL K H p ys ∨ SqT K H p ys) ∧ Q (V.int ys.length) H) from call_len_seq) (by rfl) T.z_len PySem.boot_len (pa_cons (pv 1) pa_nil)) pa_nil)))))))))), ?_⟩
    rw [show start ["_law_pen", "_law_told", "_law_way", "_law_k"] [V.ref a, V.ref p] = [some (V.ref a), some (V.ref p), none, none] from rfl]
    try dsimp only [cxOf]
    walk_at "rd"
    rename_i pe hpe H1 e1 k1
    refine ⟨progD rows, .tuple [], dp_ex e1 (prog_dp hpr), .tup (st_of k1) .nil, prog_shaped hwo, rfl, _, rfl, ?_⟩
    rw [prog_nil]
    have hp1 := e1 _ _ hp
    have hsc1 := ex_l e1 hsc
    have hpr1 := hpr.ex e1
    by_cases hr0 : rows = []
    · rw [if_pos (decide_eq_true hr0)]
      walk_at "rd"
      rename_i pl hpl H2 e2 k2
      exact q pl [] _ (fresh_back e1 hpl) (e1.trans e2) k2 (fun n h => nomatch h) (by decide)
    · rw [if_neg (by simpa using hr0)]
      have hr1 : 1 ≤ rows.length := by cases rows with | nil => exact absurd rfl hr0 | cons _ _ => rw [List.length_cons]; omega
      have hts : ∀ {H'}, Ex H1 H' → ∃ vs : List V, SqT K H' p vs ∧ vs.length = rows.length := fun e => let ⟨vs, z1, z2, _⟩ := hpr1.ex e; ⟨vs, st_of z1, z2⟩
      walk_at "rd"
      rename_i way H2 way0 way1 e2
      by_cases hw0 : way = 0
      · subst hw0
        rw [if_pos (by rfl)]
        walk_at "rd"
        obtain ⟨vs, ht, hvl⟩ := hts e2
        refine w_lenT ht ?_
        walk_at "rd"
        rename_i pr hpr2 H3 e3 k3
        rw [hvl] at k3
        refine ⟨pr, rows.length, rfl, k3, by omega, fun pl hpl => ?_⟩
        have e4 : Ex H3 (upd H3 pl (.lst ((List.range rows.length).map fun k => V.int (k : Nat)))) := Ex.new hpl
        have k4 : upd H3 pl (.lst ((List.range rows.length).map fun k => V.int (k : Nat))) pl = some (.lst ((List.range rows.length).map fun k => V.int (k : Nat))) := upd_same
        generalize upd H3 pl (.lst ((List.range rows.length).map fun k => V.int (k : Nat))) = H4 at e4 k4 ⊢
        walk_at "rd"
        rename_i r H5 r0 r1 e5
        have k5 := e5 _ _ k4
        have hm : rows.length * (1 + r).toNat ≤ 80 := Nat.le_trans (Nat.mul_le_mul hl (show (1 + r).toNat ≤ 4 by omega)) (by decide)
        refine ⟨pl, 1 + r, _, rfl, rfl, k5, by omega, by omega, by rw [List.length_map, List.length_range]; exact Nat.le_trans hm (by rw [sizeLine_eq]; decide), fun p6 hp6 => ?_⟩
        rw [rep_nats]
        refine q p6 _ _ (fresh_back (by walk_at "ex") hp6) (Ex.trans (by walk_at "ex") (Ex.new hp6)) upd_same (fun n hn => List.mem_range.mp (rep_mem hn)) (by rw [rep_len, List.length_range, Nat.mul_comm]; exact hm)
      · rw [if_neg (by simpa using hw0)]
        walk_at "rd"
        rename_i n H3 n0 n1 e3
        refine c_range (fun _ => NatBelow rows.length) (fun _ => natBelow_keeps _) (by omega) (fun _ => rfl) (fun i H' Q' hi e Hq => ?_) (fun pl ys H4 hpl e4 h4 hyl hy => ?_)
        · walk_at "rd"
          obtain ⟨vs, ht, hvl⟩ := hts (e2.trans (e3.trans e))
          refine w_lenT ht ?_
          walk_at "rd"
          rename_i r H4 r0 r1 e4
          exact Hq _ _ e4 ⟨r.toNat, by omega, by rw [Int.toNat_of_nonneg r0]⟩
        · obtain ⟨ns, rfl, hns⟩ := nats_of ys hy
          refine q pl ns H4 (fresh_back (by walk_at "ex") hpl) (by walk_at "ex") (by walk_at "ho") hns ?_
          rw [List.length_map] at hyl
          omega
end

/-! ### the program's run and the law's own are one -/
theorem sortD_perm {xs ys : List PyData} (hp : xs.Perm ys) (inj : ∀ a ∈ xs, ∀ b ∈ xs, PySem.W.keyToks a = PySem.W.keyToks b → a = b) : sortD xs = sortD ys := by
  unfold sortD
  have T := PySem.W.sortLe_total (PyProof.Rows.listOrd PyProof.Rows.itemOrd) false fun d : PyData => PySem.W.keyToks (id d)
  refine List.Perm.eq_of_pairwise (le := fun a b => PySem.W.dataLe false id a b = true) (fun a b ha hb h1 h2 => ?_) (PySem.W.sort_pairwise T xs) (PySem.W.sort_pairwise T ys) ((List.mergeSort_perm _ _).trans (hp.trans (List.mergeSort_perm _ _).symm))
  refine inj a ((List.mergeSort_perm _ _).mem_iff.mp ha) b (hp.mem_iff.mpr ((List.mergeSort_perm _ _).mem_iff.mp hb)) ?_
  have h1' : (!(PyProof.Rows.listOrd PyProof.Rows.itemOrd).blt (PySem.W.keyToks b) (PySem.W.keyToks a)) = true := h1
  have h2' : (!(PyProof.Rows.listOrd PyProof.Rows.itemOrd).blt (PySem.W.keyToks a) (PySem.W.keyToks b)) = true := h2
  rw [Bool.not_eq_true'] at h1' h2'
  exact (PyProof.Rows.listOrd PyProof.Rows.itemOrd).total _ _ h2' h1'
theorem str_toks {a b : Str} (h : a.cps.toList = b.cps.toList) : a = b := by
  cases a; cases b
  simpa using h
theorem injN {a b : PyData} (ha : ∃ (x : Str) (t : Th), a = .tuple [.str x, thD t]) (hb : ∃ (x : Str) (t : Th), b = .tuple [.str x, thD t]) (h : PySem.W.keyToks a = PySem.W.keyToks b) : a = b := by
  obtain ⟨x, ⟨t1, t2⟩, rfl⟩ := ha
  obtain ⟨y, ⟨u1, u2⟩, rfl⟩ := hb
  simp [PySem.W.keyToks, PySem.W.keyToksAll, thD] at h
  obtain ⟨h1, h2, h3⟩ := h
  cases x; cases y; cases t1; cases u1
  simp_all [thD]
theorem injS {a b : PyData} (ha : ∃ (k : Th × Str) (t : Th), a = .tuple [.tuple [thD k.1, .str k.2], thD t]) (hb : ∃ (k : Th × Str) (t : Th), b = .tuple [.tuple [thD k.1, .str k.2], thD t]) (h : PySem.W.keyToks a = PySem.W.keyToks b) : a = b := by
  obtain ⟨⟨⟨k1, k2⟩, k3⟩, ⟨t1, t2⟩, rfl⟩ := ha
  obtain ⟨⟨⟨j1, j2⟩, j3⟩, ⟨u1, u2⟩, rfl⟩ := hb
  simp [PySem.W.keyToks, PySem.W.keyToksAll, thD] at h
  obtain ⟨h1, h2, h3, h4, h5⟩ := h
  cases k1; cases k3; cases j1; cases j3; cases t1; cases u1
  simp_all [thD]
section
variable {κ : Type} [DecidableEq κ]
/-- the pairs that hold a thing -/
def heldL (l : List (κ × Option Th)) : List (κ × Th) := l.filterMap fun x => x.2.map fun t => (x.1, t)
theorem mem_held {l : List (κ × Option Th)} {k : κ} {t : Th} : (k, t) ∈ heldL l ↔ (k, some t) ∈ l := by
  unfold heldL
  rw [List.mem_filterMap]
  constructor
  · rintro ⟨⟨a, b⟩, hx, e⟩
    obtain ⟨u, rfl, e2⟩ := Option.map_eq_some_iff.mp e
    cases e2
    exact hx
  · intro h
    exact ⟨_, h, rfl⟩
theorem held_nodup {l : List (κ × Option Th)} (nd : (l.map (·.1)).Nodup) : (heldL l).Nodup := by
  unfold heldL
  refine List.Pairwise.filterMap _ (R := fun a b : κ × Option Th => a.1 ≠ b.1) (fun a b h x hx y hy e => ?_) (List.pairwise_map.mp nd)
  obtain ⟨t, _, rfl⟩ := Option.map_eq_some_iff.mp hx
  obtain ⟨u, _, rfl⟩ := Option.map_eq_some_iff.mp hy
  exact h (congrArg (·.1) e)
theorem held_perm {p : List (κ × Th)} {l : List (κ × Option Th)} (np : (p.map (·.1)).Nodup) (nl : (l.map (·.1)).Nodup) (h : ∀ k, aget p k = (aget l k).join) : p.Perm (heldL l) := by
  have n1 : p.Nodup := List.Pairwise.imp (fun h e => h (congrArg (·.1) e)) (List.pairwise_map.mp np)
  refine (List.perm_ext_iff_of_nodup n1 (held_nodup nl)).mpr fun ⟨k, t⟩ => ?_
  rw [mem_held]
  constructor
  · intro hm
    have e := h k
    rw [aget_of_mem np hm] at e
    cases hl : aget l k with
    | none => rw [hl] at e; cases e
    | some o =>
      rw [hl] at e
      have : o = some t := e.symm
      rw [← this]
      exact aget_mem hl
  · intro hm
    have e := h k
    rw [aget_of_mem nl hm] at e
    exact aget_mem e
end
def dsN (l : List (Str × Th)) : List PyData := l.map fun x => .tuple [.str x.1, thD x.2]
def dsS (l : List ((Th × Str) × Th)) : List PyData := l.map fun x => .tuple [.tuple [thD x.1.1, .str x.1.2], thD x.2]
theorem pairs_heldN (l : List (Str × Option Th)) : pairsD (ktN l) = dsN (heldL l) := by
  unfold pairsD ktN dsN heldL
  rw [List.filterMap_map, List.map_filterMap]
  congr 1
  funext x
  obtain ⟨a, b⟩ := x
  cases b <;> rfl
theorem pairs_heldS (l : List ((Th × Str) × Option Th)) : pairsD (ktS l) = dsS (heldL l) := by
  unfold pairsD ktS dsS heldL
  rw [List.filterMap_map, List.map_filterMap]
  congr 1
  funext x
  obtain ⟨a, b⟩ := x
  cases b <;> rfl
theorem dsN_shape {l : List (Str × Th)} : ∀ d ∈ dsN l, ∃ (x : Str) (t : Th), d = .tuple [.str x, thD t] := fun d hd => by
  obtain ⟨x, _, rfl⟩ := List.mem_map.mp hd
  exact ⟨_, _, rfl⟩
theorem dsS_shape {l : List ((Th × Str) × Th)} : ∀ d ∈ dsS l, ∃ (k : Th × Str) (t : Th), d = .tuple [.tuple [thD k.1, .str k.2], thD t] := fun d hd => by
  obtain ⟨x, _, rfl⟩ := List.mem_map.mp hd
  exact ⟨_, _, rfl⟩
structure Same (s : RS) (l : LS) : Prop where
  nm : ∀ k, aget s.nm k = (aget l.nm k).join
  sl : ∀ k, aget s.sl k = (aget l.sl k).join
  md : ∀ b, (aget s.md b).getD 0 = (aget l.md b).getD (-1) + 1
  n1 : (s.nm.map (·.1)).Nodup
  n2 : (s.sl.map (·.1)).Nodup
theorem aget_give {κ : Type} [DecidableEq κ] (l : List (κ × Th)) (k j : κ) (t : Option Th) : aget (give l k t) j = if j = k then t else aget l j := by
  cases t with
  | none => exact aget_del l k j
  | some t => exact aget_put l k j t
theorem give_nodup {κ : Type} [DecidableEq κ] {l : List (κ × Th)} {k : κ} {t : Option Th} (nd : (l.map (·.1)).Nodup) : ((give l k t).map (·.1)).Nodup := by
  cases t with
  | none => exact adel_nodup nd
  | some t => exact aput_nodup nd
theorem same_step {r : Row} {s : RS} {l : LS} (h : Same s l) : Same (stepP r s) (stepL r l) := by
  cases r with
  | new x b =>
    refine ⟨fun k => ?_, h.sl, fun c => ?_, aput_nodup h.n1, h.n2⟩
    · simp only [stepP, stepL, aget_put, h.md b]
      by_cases e : k = x
      · rw [if_pos e, if_pos e]; rfl
      · rw [if_neg e, if_neg e]; exact h.nm k
    · simp only [stepP, stepL, aget_put, h.md b]
      by_cases e : c = b
      · rw [if_pos e, if_pos e]; rfl
      · rw [if_neg e, if_neg e]; exact h.md c
  | move x y =>
    refine ⟨fun k => ?_, h.sl, h.md, give_nodup h.n1, h.n2⟩
    simp only [stepP, stepL, aget_give, aget_put, h.nm y]
    by_cases e : k = x
    · rw [if_pos e, if_pos e]; rfl
    · rw [if_neg e, if_neg e]; exact h.nm k
  | put x z y =>
    have e0 := h.nm x
    cases hx : (aget l.nm x).join with
    | none =>
      rw [hx] at e0
      have e1 : stepP (.put x z y) s = s := by simp only [stepP, e0]
      have e2 : stepL (.put x z y) l = l := by simp only [stepL, hx]
      rw [e1, e2]
      exact h
    | some t =>
      rw [hx] at e0
      have e1 : stepP (.put x z y) s = ⟨s.nm, give s.sl (t, z) (aget s.nm y), s.md⟩ := by simp only [stepP, e0]
      have e2 : stepL (.put x z y) l = ⟨l.nm, aput l.sl (t, z) (aget l.nm y).join, l.md⟩ := by simp only [stepL, hx]
      rw [e1, e2]
      refine ⟨h.nm, fun k => ?_, h.md, h.n1, give_nodup h.n2⟩
      simp only [aget_give, aget_put, h.nm y]
      by_cases e : k = (t, z)
      · rw [if_pos e, if_pos e]; rfl
      · rw [if_neg e, if_neg e]; exact h.sl k
  | take x z y =>
    refine ⟨fun k => ?_, h.sl, h.md, give_nodup h.n1, h.n2⟩
    simp only [stepP, stepL, aget_give, aget_put, h.nm y, h.sl]
    by_cases e : k = x
    · rw [if_pos e, if_pos e]; rfl
    · rw [if_neg e, if_neg e]; exact h.nm k
theorem same_run (rows : List Row) (ns : List Nat) : Same (runP rows ns) (runL rows ns) := by
  unfold runP runL
  suffices h : ∀ s l, Same s l → Same (ns.foldl (fun s n => match rows[n]? with | some r => stepP r s | none => s) s) (ns.foldl (fun s n => match rows[n]? with | some r => stepL r s | none => s) l) from
    h _ _ ⟨fun _ => rfl, fun _ => rfl, fun _ => rfl, List.nodup_nil, List.nodup_nil⟩
  induction ns with
  | nil => exact fun s l h => h
  | cons n ns ih =>
    intro s l h
    rw [List.foldl_cons, List.foldl_cons]
    refine ih _ _ ?_
    cases rows[n]? with
    | none => exact h
    | some r => exact same_step h
theorem same_sorted {s : RS} {l : LS} (h : Same s l) (n : NdL l) : ranD l = .tuple [.list (sortD (dsN s.nm)), .list (sortD (dsS s.sl))] := by
  unfold ranD
  rw [pairs_heldN, pairs_heldS]
  have e1 : sortD (dsN s.nm) = sortD (dsN (heldL l.nm)) := sortD_perm (List.Perm.map _ (held_perm h.n1 n.1 h.nm)) fun a ha b hb => injN (dsN_shape a ha) (dsN_shape b hb)
  have e2 : sortD (dsS s.sl) = sortD (dsS (heldL l.sl)) := sortD_perm (List.Perm.map _ (held_perm h.n2 n.2.1 h.sl)) fun a ha b hb => injS (dsS_shape a ha) (dsS_shape b hb)
  rw [e1, e2]

/-! ### good data, shown in a line (as in k01's text) -/
/-- good data: small, shown in a line -/
structure Gd (n m : Nat) (d : PyData) : Prop where
  wt : d.weight ≤ n
  dp : d.depth ≤ m
  ls : d.leavesShort 60 = true
  sh : d.showable = true
theorem Gd.more {n m n' m' : Nat} {d : PyData} (g : Gd n m d) (h : n ≤ n') (h2 : m ≤ m') : Gd n' m' d := ⟨Nat.le_trans g.wt h, Nat.le_trans g.dp h2, g.ls, g.sh⟩
theorem gd_str {n : Nat} {z : Str} (h : TxtOk n z) : Gd n 0 (.str z) := by
  refine ⟨h.1, Nat.le_refl _, ?_, rfl⟩
  have h0 : z.cps.all (· < 0x110000) = true := h.2
  rw [← Array.all_toList, List.all_eq_true] at h0
  simp only [PyData.leavesShort, List.all_eq_true, decide_eq_true_eq]
  intro c hcm
  have h2 : c < 0x110000 := by simpa using h0 c hcm
  have e : (16 : Nat) ^ 8 = 4294967296 := by decide
  omega
theorem wtAll_le {n : Nat} : ∀ {ds : List PyData}, (∀ e ∈ ds, e.weight ≤ n) → PyData.weightAll ds ≤ ds.length * (n + 1)
  | [], _ => by simp [PyData.weightAll]
  | d :: ds, h => by
    have h1 := h d (List.mem_cons_self ..)
    have h2 := wtAll_le fun e he => h e (List.mem_cons_of_mem _ he)
    simp only [PyData.weightAll, List.length_cons, Nat.add_mul, Nat.one_mul] at *
    omega
theorem dpAll_le {m : Nat} : ∀ {ds : List PyData}, (∀ e ∈ ds, e.depth ≤ m) → PyData.depthAll ds ≤ m
  | [], _ => by simp [PyData.depthAll]
  | d :: ds, h => by
    have h1 := h d (List.mem_cons_self ..)
    have h2 := dpAll_le fun e he => h e (List.mem_cons_of_mem _ he)
    simp only [PyData.depthAll]
    omega
theorem lsAll_ok : ∀ {ds : List PyData}, (∀ e ∈ ds, e.leavesShort 60 = true) → PyData.leavesShortAll 60 ds = true
  | [], _ => by simp [PyData.leavesShortAll]
  | d :: ds, h => by
    simp only [PyData.leavesShortAll, Bool.and_eq_true]
    exact ⟨h d (List.mem_cons_self ..), lsAll_ok fun e he => h e (List.mem_cons_of_mem _ he)⟩
theorem shAll_ok : ∀ {ds : List PyData}, (∀ e ∈ ds, e.showable = true) → PyData.showableAll ds = true
  | [], _ => by simp [PyData.showableAll]
  | d :: ds, h => by
    simp only [PyData.showableAll, Bool.and_eq_true]
    exact ⟨h d (List.mem_cons_self ..), shAll_ok fun e he => h e (List.mem_cons_of_mem _ he)⟩
/-- a sequence of good items; its weight is handed in -/
theorem gd_tuple {n m : Nat} {ds : List PyData} (hw : PyData.weightAll ds ≤ n) (h : ∀ e ∈ ds, ∃ k, Gd k m e) : Gd n (m + 1) (.tuple ds) := by
  refine ⟨?_, ?_, ?_, ?_⟩
  · simp only [PyData.weight]; exact hw
  · simp only [PyData.depth]; exact Nat.succ_le_succ (dpAll_le fun e he => let ⟨_, g⟩ := h e he; g.dp)
  · simp only [PyData.leavesShort]; exact lsAll_ok fun e he => let ⟨_, g⟩ := h e he; g.ls
  · simp only [PyData.showable]; exact shAll_ok fun e he => let ⟨_, g⟩ := h e he; g.sh
theorem gd_list {n m : Nat} {ds : List PyData} (hw : PyData.weightAll ds ≤ n) (h : ∀ e ∈ ds, ∃ k, Gd k m e) : Gd n (m + 1) (.list ds) := by
  refine ⟨?_, ?_, ?_, ?_⟩
  · simp only [PyData.weight]; exact hw
  · simp only [PyData.depth]; exact Nat.succ_le_succ (dpAll_le fun e he => let ⟨_, g⟩ := h e he; g.dp)
  · simp only [PyData.leavesShort]; exact lsAll_ok fun e he => let ⟨_, g⟩ := h e he; g.ls
  · simp only [PyData.showable]; exact shAll_ok fun e he => let ⟨_, g⟩ := h e he; g.sh
theorem wtAll_app : ∀ (as bs : List PyData), PyData.weightAll (as ++ bs) = PyData.weightAll as + PyData.weightAll bs
  | [], bs => by simp [PyData.weightAll]
  | a :: as, bs => by
    have := wtAll_app as bs
    simp only [List.cons_append, PyData.weightAll]
    omega
/-- it is shown in a line -/
theorem gd_shown {n m : Nat} {d : PyData} (g : Gd n m d) (hn : n ≤ 270000) : d.shown.length ≤ sizeLine := by
  have h := PyData.shown_le 60 (by decide) d g.ls
  have h2 : (60 + 2) * d.weight ≤ 62 * 270000 := Nat.mul_le_mul (by decide) (Nat.le_trans g.wt hn)
  rw [sizeLine_eq]
  omega

theorem int_small : ∀ n : Fin 1001, (PyData.int (n.val : Nat)).leavesShort 60 = true ∧ (PyData.int (n.val : Nat)).weight ≤ 11 ∧ (PyData.int (n.val : Nat)).showable = true := by decide +kernel
def NumOk (i : Int) (n : Nat) : Prop := 0 ≤ i ∧ i ≤ n
theorem gd_int {i : Int} {n : Nat} (h : NumOk i n) (hn : n ≤ 1000) : Gd 11 0 (.int i) := by
  obtain ⟨h0, h1⟩ := h
  obtain ⟨k, rfl⟩ := Int.eq_ofNat_of_zero_le h0
  have hk : k ≤ n := by omega
  obtain ⟨q1, q2, q3⟩ := int_small ⟨k, by omega⟩
  exact ⟨q2, Nat.le_refl _, q1, q3⟩
abbrev TW (z : Str) : Prop := TxtOk 160 z
def ThW (t : Th) (n : Nat) : Prop := TW t.1 ∧ NumOk t.2 n
theorem gd_th {t : Th} {n : Nat} (h : ThW t n) (hn : n ≤ 1000) : Gd 173 1 (thD t) := by
  have g1 := gd_str h.1
  have g2 := gd_int h.2 hn
  refine gd_tuple ?_ fun e he => ?_
  · have := g1.wt; have := g2.wt
    simp only [PyData.weightAll]
    omega
  · simp only [List.mem_cons, List.not_mem_nil, or_false] at he
    rcases he with rfl | rfl
    · exact ⟨_, g1⟩
    · exact ⟨_, g2⟩
structure WdP (s : RS) (n : Nat) : Prop where
  nm : ∀ e ∈ s.nm, TW e.1 ∧ ThW e.2 n
  sl : ∀ e ∈ s.sl, ThW e.1.1 n ∧ TW e.1.2 ∧ ThW e.2 n
  md : ∀ e ∈ s.md, NumOk e.2 n
theorem NumOk.up {i : Int} {n m : Nat} (h : NumOk i n) (l : n ≤ m) : NumOk i m := ⟨h.1, by have := h.2; omega⟩
theorem ThW.up {t : Th} {n m : Nat} (h : ThW t n) (l : n ≤ m) : ThW t m := ⟨h.1, h.2.up l⟩
theorem WdP.up {s : RS} {n m : Nat} (h : WdP s n) (l : n ≤ m) : WdP s m := ⟨fun e he => ⟨(h.nm e he).1, (h.nm e he).2.up l⟩, fun e he => ⟨(h.sl e he).1.up l, (h.sl e he).2.1, (h.sl e he).2.2.up l⟩, fun e he => (h.md e he).up l⟩
theorem mem_aput {κ α : Type} [DecidableEq κ] {l : List (κ × α)} {k : κ} {v : α} {e : κ × α} (h : e ∈ aput l k v) : e ∈ l ∨ e = (k, v) := by
  unfold aput at h
  split at h
  · obtain ⟨x, hx, rfl⟩ := List.mem_map.mp h
    by_cases e : x.1 = k
    · rw [if_pos e, e]; exact .inr rfl
    · rw [if_neg e]; exact .inl hx
  · rcases List.mem_append.mp h with h | h
    · exact .inl h
    · exact .inr (List.mem_singleton.mp h)
theorem mem_give {κ : Type} [DecidableEq κ] {l : List (κ × Th)} {k : κ} {t : Option Th} {e : κ × Th} (h : e ∈ give l k t) : e ∈ l ∨ ∃ u, t = some u ∧ e = (k, u) := by
  cases t with
  | none => exact .inl (List.mem_filter.mp h).1
  | some u => exact (mem_aput h).imp id fun z => ⟨u, rfl, z⟩
theorem wd_step {r : Row} {s : RS} {n : Nat} (h : WdP s n) (hr : ∀ z ∈ rowT r, TW z) : WdP (stepP r s) (n + 1) := by
  have h' := h.up (Nat.le_succ n)
  cases r with
  | new x b =>
    have hx : TW x := hr x (by simp [rowT])
    have hb : TW b := hr b (by simp [rowT])
    have hm : NumOk ((aget s.md b).getD 0) n := by
      cases e : aget s.md b with
      | none => exact ⟨Int.le_refl _, by show (0 : Int) ≤ n; omega⟩
      | some c => exact h.md _ (aget_mem e)
    refine ⟨fun e he => ?_, h'.sl, fun e he => ?_⟩
    · rcases mem_aput he with he | rfl
      · exact h'.nm e he
      · exact ⟨hx, hb, hm.up (Nat.le_succ n)⟩
    · rcases mem_aput he with he | rfl
      · exact h'.md e he
      · exact ⟨by have := hm.1; show 0 ≤ (aget s.md b).getD 0 + 1; omega, by have := hm.2; show (aget s.md b).getD 0 + 1 ≤ ((n + 1 : Nat) : Int); omega⟩
  | move x y =>
    have hx : TW x := hr x (by simp [rowT])
    refine ⟨fun e he => ?_, h'.sl, h'.md⟩
    rcases mem_give he with he | ⟨u, hu, rfl⟩
    · exact h'.nm e he
    · exact ⟨hx, (h'.nm _ (aget_mem hu)).2⟩
  | put x z y =>
    have hz : TW z := hr z (by simp [rowT])
    cases hx : aget s.nm x with
    | none =>
      have e1 : stepP (.put x z y) s = s := by simp only [stepP, hx]
      rw [e1]
      exact h'
    | some t =>
      have e1 : stepP (.put x z y) s = ⟨s.nm, give s.sl (t, z) (aget s.nm y), s.md⟩ := by simp only [stepP, hx]
      rw [e1]
      refine ⟨h'.nm, fun e he => ?_, h'.md⟩
      rcases mem_give he with he | ⟨u, hu, rfl⟩
      · exact h'.sl e he
      · exact ⟨(h'.nm _ (aget_mem hx)).2, hz, (h'.nm _ (aget_mem hu)).2⟩
  | take x z y =>
    have hx : TW x := hr x (by simp [rowT])
    refine ⟨fun e he => ?_, h'.sl, h'.md⟩
    rcases mem_give he with he | ⟨u, hu, rfl⟩
    · exact h'.nm e he
    · obtain ⟨t, _, h2⟩ := Option.bind_eq_some_iff.mp hu
      exact ⟨hx, (h'.sl _ (aget_mem h2)).2.2⟩
theorem wd_run {rows : List Row} (hw : WOk rows) (ns : List Nat) : WdP (runP rows ns) ns.length ∧ Small (runP rows ns) ns.length := by
  unfold runP
  suffices h : ∀ s n, WdP s n → Small s n → WdP (ns.foldl (fun s n => match rows[n]? with | some r => stepP r s | none => s) s) (n + ns.length) ∧ Small (ns.foldl (fun s n => match rows[n]? with | some r => stepP r s | none => s) s) (n + ns.length) by
    have := h ⟨[], [], []⟩ 0 ⟨fun e h => (List.not_mem_nil h).elim, fun e h => (List.not_mem_nil h).elim, fun e h => (List.not_mem_nil h).elim⟩ ⟨Nat.le_refl _, Nat.le_refl _, Nat.le_refl _⟩
    rwa [Nat.zero_add] at this
  induction ns with
  | nil => exact fun s n h g => ⟨h, g⟩
  | cons m ns ih =>
    intro s n h g
    rw [List.foldl_cons, List.length_cons, show n + (ns.length + 1) = (n + 1) + ns.length by omega]
    cases e : rows[m]? with
    | none => exact ih _ _ (h.up (Nat.le_succ n)) ⟨Nat.le_succ_of_le g.1, Nat.le_succ_of_le g.2.1, Nat.le_succ_of_le g.2.2⟩
    | some r => exact ih _ _ (wd_step h (hw r (List.mem_of_getElem? e))) (small_step g)
theorem wt_sort (ds : List PyData) : PyData.weightAll (sortD ds) = PyData.weightAll ds := by
  have : ∀ {xs ys : List PyData}, xs.Perm ys → PyData.weightAll xs = PyData.weightAll ys := fun h => by
    induction h with
    | nil => rfl
    | cons x _ ih => simp only [PyData.weightAll, ih]
    | swap x y l => simp only [PyData.weightAll]; omega
    | trans _ _ h1 h2 => exact h1.trans h2
  exact this (List.mergeSort_perm _ _)
/-- what both runs tell, shown, is a line -/
theorem gd_ran {s : RS} {n : Nat} (h : WdP s n) (g : Small s n) (hn : n ≤ 300) : Gd 270000 5 (.tuple [.list (sortD (dsN s.nm)), .list (sortD (dsS s.sl))]) := by
  have a1 : ∀ e ∈ dsN s.nm, Gd 336 2 e := fun e he => by
    obtain ⟨x, hx, rfl⟩ := List.mem_map.mp he
    obtain ⟨h1, h2⟩ := h.nm x hx
    have q1 := gd_str h1
    have q2 := gd_th h2 (by omega)
    refine gd_tuple ?_ fun e he => ?_
    · have := q1.wt; have := q2.wt
      simp only [PyData.weightAll]
      omega
    · simp only [List.mem_cons, List.not_mem_nil, or_false] at he
      rcases he with rfl | rfl
      · exact ⟨_, q1.more (Nat.le_refl _) (by decide)⟩
      · exact ⟨_, q2⟩
  have a2 : ∀ e ∈ dsS s.sl, Gd 511 3 e := fun e he => by
    obtain ⟨x, hx, rfl⟩ := List.mem_map.mp he
    obtain ⟨h1, h2, h3⟩ := h.sl x hx
    have q1 := gd_th h1 (by omega)
    have q2 := gd_str h2
    have q3 := gd_th h3 (by omega)
    have q4 : Gd 336 2 (.tuple [thD x.1.1, .str x.1.2]) := by
      refine gd_tuple ?_ fun e he => ?_
      · have := q1.wt; have := q2.wt
        simp only [PyData.weightAll]
        omega
      · simp only [List.mem_cons, List.not_mem_nil, or_false] at he
        rcases he with rfl | rfl
        · exact ⟨_, q1⟩
        · exact ⟨_, q2.more (Nat.le_refl _) (by decide)⟩
    refine gd_tuple ?_ fun e he => ?_
    · have := q4.wt; have := q3.wt
      simp only [PyData.weightAll]
      omega
    · simp only [List.mem_cons, List.not_mem_nil, or_false] at he
      rcases he with rfl | rfl
      · exact ⟨_, q4⟩
      · exact ⟨_, q3.more (Nat.le_refl _) (by decide)⟩
  have w1 : PyData.weightAll (sortD (dsN s.nm)) ≤ 300 * 337 := by
    rw [wt_sort]
    have := wtAll_le (n := 336) fun e he => (a1 e he).wt
    refine Nat.le_trans this (Nat.mul_le_mul_right _ ?_)
    unfold dsN; rw [List.length_map]; exact Nat.le_trans g.1 hn
  have w2 : PyData.weightAll (sortD (dsS s.sl)) ≤ 300 * 512 := by
    rw [wt_sort]
    have := wtAll_le (n := 511) fun e he => (a2 e he).wt
    refine Nat.le_trans this (Nat.mul_le_mul_right _ ?_)
    unfold dsS; rw [List.length_map]; exact Nat.le_trans g.2.1 hn
  have b1 : Gd (300 * 337) 3 (.list (sortD (dsN s.nm))) := gd_list w1 fun e he => ⟨_, a1 e ((List.mergeSort_perm _ _).mem_iff.mp he)⟩
  have b2 : Gd (300 * 512) 4 (.list (sortD (dsS s.sl))) := gd_list w2 fun e he => ⟨_, a2 e ((List.mergeSort_perm _ _).mem_iff.mp he)⟩
  refine gd_tuple ?_ fun e he => ?_
  · have := b1.wt; have := b2.wt
    simp only [PyData.weightAll]
    omega
  · simp only [List.mem_cons, List.not_mem_nil, or_false] at he
    rcases he with rfl | rfl
    · exact ⟨_, b1.more (Nat.le_refl _) (by decide)⟩
    · exact ⟨_, b2⟩
theorem nodict_ran (s : RS) : PyData.hasDict (.tuple [.list (sortD (dsN s.nm)), .list (sortD (dsS s.sl))]) = false := by
  have h : ∀ ds : List PyData, (∀ d ∈ ds, d.hasDict = false) → PyData.hasDictAll ds = false := fun ds => by
    induction ds with
    | nil => intro _; rfl
    | cons d ds ih =>
      intro h
      simp only [PyData.hasDictAll, Bool.or_eq_false_iff]
      exact ⟨h d (List.mem_cons_self ..), ih fun e he => h e (List.mem_cons_of_mem _ he)⟩
  simp only [PyData.hasDict, PyData.hasDictAll, Bool.or_eq_false_iff, and_true]
  refine ⟨h _ fun d hd => ?_, h _ fun d hd => ?_⟩
  · obtain ⟨x, t, rfl⟩ := dsN_shape d ((List.mergeSort_perm _ _).mem_iff.mp hd)
    simp [PyData.hasDict, PyData.hasDictAll, thD]
  · obtain ⟨x, t, rfl⟩ := dsS_shape d ((List.mergeSort_perm _ _).mem_iff.mp hd)
    simp [PyData.hasDict, PyData.hasDictAll, thD]
theorem nums_shaped (ns : List Nat) : SeqAt.shaped (numD ns) = true ∧ PyData.eqv (numD ns) (numD ns) = true := by
  have h1 : (numD ns).canLay0 = true := by
    unfold numD
    simp only [PyData.canLay0]
    refine canLayAll_of fun d hd => ?_
    obtain ⟨n, _, rfl⟩ := List.mem_map.mp hd
    rfl
  refine ⟨?_, SeqAt.eqv_refl _ h1⟩
  unfold SeqAt.shaped
  rw [h1, Bool.true_and]
  unfold numD
  simp only [PyData.depth, decide_eq_true_eq]
  refine decide_eq_true (Nat.le_trans (Nat.succ_le_succ (depthAll_le (m := 0) fun d hd => ?_)) (show Nat.succ 0 ≤ 64 by decide))
  obtain ⟨n, _, rfl⟩ := List.mem_map.mp hd
  exact Nat.le_refl _
section
variable {P : Program} {w : World} {K : PySem.W.Frag} {B F H H2 : Hp} {M : Objs} {L : Facts} {t a1 a2 a3 : Addr}
theorem Rep.init (h : ∀ v d, (v, d) ∈ L → Dp K H v d) : Rep P w K H H [] L := ⟨H, List.nodup_nil, Ex.refl _, Ex.refl _, fun _ _ h => (List.not_mem_nil h).elim, h⟩
theorem Rep.ext (R : Rep P w K B H M L) : Ex B H := let ⟨_, r⟩ := R; r.bf.trans r.fh
/-- one more object is set fast -/
theorem Rep.hold {u : HO} (R : Rep P w K B H M L) (h : H t = some u) (hm : ∀ o, (t, o) ∉ M) : Rep P w K (upd B t u) H M L ∧ Ex B (upd B t u) := by
  obtain ⟨F, r⟩ := R
  have g : ∀ {X : Hp}, Ex X H → Ex X (upd X t u) := fun e b o q => by
    by_cases ne : b = t
    · subst ne
      rw [upd_same]
      have := e _ _ q
      rw [h] at this
      exact this
    · rw [upd_ne ne]; exact q
  have gF := g r.fh
  refine ⟨⟨upd F t u, r.nd, fun b o q => ?_, fun b o q => ?_, fun b o q => ?_, fun v d q => dp_ex gF (r.dt v d q)⟩, g (r.bf.trans r.fh)⟩
  · by_cases ne : b = t
    · subst ne; rw [upd_same] at q ⊢; exact q
    · rw [upd_ne ne] at q ⊢; exact r.bf _ _ q
  · by_cases ne : b = t
    · subst ne; rw [upd_same] at q; rw [h]; exact q
    · rw [upd_ne ne] at q; exact r.fh _ _ q
  · have ne : b ≠ t := fun e => hm o (e ▸ q)
    rw [upd_ne ne]
    exact ⟨(r.ob b o q).1, obAt_ex gF (fun _ z => z) (r.ob b o q).2⟩
theorem mk_ps {α β : Type} {G : α → β → Prop} {f : α → V × V} {g : β → PyData × PyData} (hG : ∀ a b, G a b → Dp K F (f a).1 (g b).1 ∧ Dp K F (f a).2 (g b).2) : ∀ {xs : List α} {ys : List β}, Paired G xs ys →
    ∃ ps : List (Vd × Vd), ps.map (fun b => (b.1.1, b.2.1)) = xs.map f ∧ ps.map prD2 = ys.map (fun y => PyData.tuple [(g y).1, (g y).2]) ∧ ∀ b ∈ ps, Dp K F b.1.1 b.1.2 ∧ Dp K F b.2.1 b.2.2
  | _, _, .nil => ⟨[], rfl, rfl, fun b h => (List.not_mem_nil h).elim⟩
  | _, _, .cons (a := x) (b := y) a t => by
    obtain ⟨ps, h1, h2, h3⟩ := mk_ps hG t
    refine ⟨(((f x).1, (g y).1), ((f x).2, (g y).2)) :: ps, ?_, ?_, fun b hb => ?_⟩
    · rw [List.map_cons, List.map_cons, h1]
    · rw [List.map_cons, List.map_cons, h2]; rfl
    · rcases List.mem_cons.mp hb with rfl | hb
      · exact hG _ _ a
      · exact h3 b hb
end

section
variable {P : Program} {w : World} {K : PySem.W.Frag} {B F H H2 : Hp} {M : Objs} {L : Facts} {t a1 a2 a3 p a : Addr} {Q : VK} {σ : L2.St} {u : HO}
/-- sorted(d.items()) of one of the objects -/
theorem RepF.items {ps : List (Vd × Vd)} (r : RepF P w K B F H M L) (hp : H p = some (DX.itemsO p a)) (hu : H a = some u) (hps : PsOf P w a u (ps.map fun b => (b.1.1, b.2.1)))
    (hd : ∀ b ∈ ps, Dp K F b.1.1 b.1.2 ∧ Dp K F b.2.1 b.2.2) (hal : PySem.W.AllAlike (ps.map prD2)) (hdep : ∀ d ∈ ps.map prD2, d.depth ≤ 64) (hl : ps.length ≤ 100000)
    (q : ∀ l H2, Ex H H2 → H l = none → Rep P w K B H2 M ((.ref l, .list (sortD (ps.map prD2))) :: L) → Q (.ref l) H2) : rSortItD P w K [.ref p] H Q :=
  ⟨p, a, u, ps, F, rfl, hp, hu, hps, r.fh, fun b hb => ⟨(hd b hb).1, (hd b hb).2, hdep _ (List.mem_map_of_mem hb)⟩, hal, hl, fun l H2 e hn d => q l H2 e hn (r.grow e (by rw [srtP_snd] at d; exact d))⟩
theorem Rep.itemsN {l : List (Str × Th)} (R : Rep P w K B H M L) (hm : (a, .dic (nmK l)) ∈ M) (hp : H p = some (DX.itemsO p a)) (hl : l.length ≤ 1000)
    (q : ∀ z H2, Ex H H2 → H z = none → Rep P w K B H2 M ((.ref z, .list (sortD (dsN l))) :: L) → Q (.ref z) H2) : rSortItD P w K [.ref p] H Q := by
  obtain ⟨F, r⟩ := R
  obtain ⟨_, ws, h1, h2⟩ := r.ob _ _ hm
  unfold nmK at h2
  obtain ⟨ps, e1, e2, e3⟩ := mk_ps (K := K) (F := F) (f := fun x : L2.Key × V => (kV x.1, x.2)) (g := fun x : Str × Th => (PyData.str x.1, thD x.2)) (fun x y z => by
    obtain ⟨z1, z2⟩ := z
    refine ⟨?_, z2⟩
    show Dp K F (kV x.1) _
    rw [show x.1 = Sum.inr y.1 from z1]
    exact .str _) (pr_unmap h2)
  have hlen : ps.length = l.length := by have := congrArg List.length e2; simpa using this
  have sh := alikeN (ds := dsN l) dsN_shape
  have e4 : ps.map prD2 = dsN l := e2
  refine r.items hp h1 (.inl ⟨ws, rfl, e1⟩) e3 (by rw [e4]; exact sh.1) (by rw [e4]; exact sh.2.2) (by omega) fun z H2 e hn R => q z H2 e hn (by rw [e4] at R; exact R)
theorem Rep.itemsS {l : List ((Th × Str) × Th)} (R : Rep P w K B H M L) (hm : (a, .dicN (slN l)) ∈ M) (hp : H p = some (DX.itemsO p a)) (hl : l.length ≤ 1000)
    (q : ∀ z H2, Ex H H2 → H z = none → Rep P w K B H2 M ((.ref z, .list (sortD (dsS l))) :: L) → Q (.ref z) H2) : rSortItD P w K [.ref p] H Q := by
  obtain ⟨F, r⟩ := R
  obtain ⟨_, ws, h1, h3, h2⟩ := r.ob _ _ hm
  unfold slN at h2
  have h4 := pr_unmap (G := fun (p : Nkv) q => PrN K F p q ∧ p ∈ ws) (pr_mem h2)
  obtain ⟨ps, e1, e2, e3⟩ := mk_ps (K := K) (F := F) (f := fun x : Nkv => (V.ref x.2.1, x.2.2)) (g := fun x : (Th × Str) × Th => (PyData.tuple [thD x.1.1, .str x.1.2], thD x.2)) (fun x y z => by
    obtain ⟨⟨z1, z2⟩, z3⟩ := z
    refine ⟨?_, z2⟩
    obtain ⟨ky, dp⟩ := h3 x z3
    have := dp_of_ky _ _ ky
    rw [show x.1 = ndK y.1 from z1, show ndK y.1 = ndK (y.1.1, y.1.2) from rfl, nk_th] at this
    exact this) h4
  have hlen : ps.length = l.length := by have := congrArg List.length e2; simpa using this
  have sh := alikeS (ds := dsS l) dsS_shape
  have e4 : ps.map prD2 = dsS l := e2
  refine r.items hp h1 (.inr ⟨ws, rfl, e1⟩) e3 (by rw [e4]; exact sh.1) (by rw [e4]; exact sh.2.2) (by omega) fun z H2 e hn R => q z H2 e hn (by rw [e4] at R; exact R)
theorem Rep.udA {o : Ob} (R : Rep P w K B H M L) (hm : (a, o) ∈ M) (ho : (∃ kvs, o = .dic kvs) ∨ ∃ kvs, o = .dicN kvs) : UDict P w H a := by
  have := R.at hm
  rcases ho with ⟨kvs, rfl⟩ | ⟨kvs, rfl⟩
  · obtain ⟨ws, h1, _⟩ := this; exact udK h1
  · obtain ⟨ws, h1, _⟩ := this; exact udN h1
theorem Rep.not_tup {xs : List V} {o : Ob} (R : Rep P w K B H M L) (h : H t = some (.tup xs)) : (t, o) ∉ M := fun hm => by
  have := R.at hm
  cases o with
  | lst ss => obtain ⟨vs, h1, _⟩ := this; rw [h] at h1; cases h1
  | dic kvs => obtain ⟨ws, h1, _⟩ := this; rw [h] at h1; cases h1
  | dicN kvs => obtain ⟨ws, h1, _⟩ := this; rw [h] at h1; cases h1
  | pen ns => obtain ⟨sc, h1, _⟩ := this; rw [h] at h1; cases h1
/-- [sorted(d.items()) for d in (names, slots)] -/
theorem c_items {s : RS} {j : Nat} {vs : List Nat} {te : TE} (R : Rep P w K B H (ObsR a1 a2 a3 s) L) (ht : B t = some (.tup [.ref a1, .ref a2])) (hw : ∀ x, wipe ((wipe σ vs).set j (some x)) vs = wipe σ vs) (sm : Small s 1000)
    (hte : ∀ x H' (Q' : VK), (∃ b, x = V.ref b ∧ UDict P w H' b ∧ ∀ p, H' p = none → rSortItD P w K [.ref p] (upd H' p (DX.itemsO p b)) Q') → te ((wipe σ vs).set j (some x)) H' Q')
    (q : ∀ D H', Rep P w K B H' (ObsR a1 a2 a3 s) ((.ref D, .list [.list (sortD (dsN s.nm)), .list (sortD (dsS s.sl))]) :: L) → Q (.ref D) H') : CompJ (Itt K t) (gName j) tYes te vs σ H Q := by
  intro D hD
  have R0 := R.fresh (o := .lst []) (u := .lst []) hD fun F r => ⟨[], upd_same, .nil⟩
  refine lc_tup (K := K) (a := t) (xs := [.ref a1, .ref a2]) (fun i H' => Rep P w K B H' (ObsR a1 a2 a3 s ++ [(D, .lst (([PyData.list (sortD (dsN s.nm)), .list (sortD (dsS s.sl))].take i).map .v))]) L) R0 (fun i H' _ R' => st_of (R'.ext _ _ ht)) (fun i x H' hi R' => ?_) fun H' R' => ?_
  · refine ⟨hw x, ?_⟩
    show te _ _ _
    have fin : ∀ (d : PyData) (ds : List PyData) (Hz : Hp) (z : Addr), Rep P w K B Hz (ObsR a1 a2 a3 s ++ [(D, .lst (ds.map .v))]) ((.ref z, d) :: L) → ds.length < 2 →
        ∃ acc, Hz D = some (.lst acc) ∧ acc.length < sizeLine ∧ Rep P w K B (upd Hz D (.lst (acc ++ [.ref z]))) (ObsR a1 a2 a3 s ++ [(D, .lst ((ds ++ [d]).map .v))]) L := fun d ds Hz z Rz hds => by
      obtain ⟨acc, h1, h2⟩ := Rz.at (List.mem_append_right _ (List.mem_singleton.mpr rfl))
      have hl : acc.length = ds.length := by have := Paired.length h2; rw [List.length_map] at this; exact this
      refine ⟨acc, h1, by rw [sizeLine_eq]; omega, ?_⟩
      refine Rep.drop1 (x := (.ref z, d)) ?_
      refine Rep.put (i := 3) (o := .lst (ds.map .v)) (o' := .lst ((ds ++ [d]).map .v)) Rz rfl fun F r => ?_
      obtain ⟨_, acc', h3, h4⟩ := r.ob D _ (List.mem_append_right _ (List.mem_singleton.mpr rfl))
      rw [h1] at h3
      cases h3
      refine ⟨_, upd_same, ?_⟩
      rw [List.map_append]
      exact pr_app h4 (.cons (r.dt _ _ (List.mem_cons_self ..)) .nil)
    match i, hi with
    | 0, hi =>
      cases hi
      refine hte _ _ _ ⟨a1, rfl, R'.udA (o := .dic (nmK s.nm)) (List.mem_cons_self ..) (.inl ⟨_, rfl⟩), fun p hp => ?_⟩
      have R2 := R'.mono (Ex.new (o := DX.itemsO p a1) hp)
      refine R2.itemsN (List.mem_cons_self ..) upd_same (Nat.le_trans sm.1 (by decide)) fun z Hz _ _ Rz => ?_
      exact fin (.list (sortD (dsN s.nm))) [] Hz z Rz (by decide)
    | 1, hi =>
      cases hi
      refine hte _ _ _ ⟨a2, rfl, R'.udA (o := .dicN (slN s.sl)) (.tail _ (List.mem_cons_self ..)) (.inr ⟨_, rfl⟩), fun p hp => ?_⟩
      have R2 := R'.mono (Ex.new (o := DX.itemsO p a2) hp)
      refine R2.itemsS (.tail _ (List.mem_cons_self ..)) upd_same (Nat.le_trans sm.2.1 (by decide)) fun z Hz _ _ Rz => ?_
      exact fin (.list (sortD (dsS s.sl))) [.list (sortD (dsN s.nm))] Hz z Rz (Nat.lt_succ_self 1)
    | n + 2, hi => exact nomatch hi
  · exact q D H' (Rep.freeze (i := 3) R' rfl)
end

section
variable {P : Program} {w : World} {K : PySem.W.Frag} {mg : Str → Option Value} {base : Heap}
theorem rowIn_words {xs bs ss : List Str} {r : Row} (h : RowIn xs bs ss r) {n : Nat} (hn : 4 ≤ n) (hx : ∀ z ∈ xs, TxtOk n z) (hb : ∀ z ∈ bs, TxtOk n z) (hs : ∀ z ∈ ss, TxtOk n z) : ∀ z ∈ rowT r, TxtOk n z := by
  have k1 : ∀ y : String, (Str.ofString y).length ≤ 4 ∧ PySem.PyData.strOk (Str.ofString y) = true → TxtOk n (Str.ofString y) := fun y h => ⟨Nat.le_trans h.1 hn, h.2⟩
  intro z hz
  cases r with
  | new x b =>
    simp only [rowT, List.mem_cons, List.not_mem_nil, or_false] at hz
    rcases hz with rfl | rfl | rfl
    · exact k1 _ (by decide +kernel)
    · exact hx _ h.1
    · exact hb _ h.2
  | move x y =>
    simp only [rowT, List.mem_cons, List.not_mem_nil, or_false] at hz
    rcases hz with rfl | rfl | rfl
    · exact k1 _ (by decide +kernel)
    · exact hx _ h.1
    · exact hx _ h.2
  | put x s y =>
    simp only [rowT, List.mem_cons, List.not_mem_nil, or_false] at hz
    rcases hz with rfl | rfl | rfl | rfl
    · exact k1 _ (by decide +kernel)
    · exact hx _ h.1
    · exact hs _ h.2.1
    · exact hx _ h.2.2
  | take x s y =>
    simp only [rowT, List.mem_cons, List.not_mem_nil, or_false] at hz
    rcases hz with rfl | rfl | rfl | rfl
    · exact k1 _ (by decide +kernel)
    · exact hx _ h.1
    · exact hs _ h.2.1
    · exact hx _ h.2.2
theorem u_program {a sc : Addr} {ns : List Int} {m : Int} {H : Hp} {Q : VK} {E : XK} (h : H a = some (PenO a sc)) (hs : SqL K H sc (ns.map V.int)) (hm : 0 ≤ m ∧ m ≤ 60)
    (q : ∀ (p : Addr) (rows : List Row) H', Ex H H' → ProgAt H' p rows → (rows.length : Int) ≤ m → WOk rows → Q (.ref p) H') : spProgram K [.ref a, .int m] H Q E :=
  ⟨a, sc, ns, m, rfl, h, hs, hm.1, hm.2, fun p rows xs bs ss H' hp e hr hl hi _ _ _ h1 h2 h3 => q p rows H' e hr hl fun r hr => rowIn_words (hi r hr) (by decide) h1 h2 h3⟩
local macro_rules | `(tactic| walk_at "rd1") => `(tactic| ((with_reducible show spProgram _ _ _ _ _); refine u_program (by walk_at "ho") (by walk_at "sl") (by walk_at "ln") ?_; intro p rows H2 e2 hpr hl hwo))
def spLaw (K : PySem.W.Frag) : Sp := fun vs H Q _ => ∃ (a : Addr) (ns : List Int), vs = [.ref a] ∧ SqL K H a (ns.map V.int) ∧ ns.length ≤ 63 ∧ ∀ H', Q (.bl true) H'
theorem cut_take {xs : List V} {k : Nat} : cutV xs none (some (k : Int)) = xs.take k := by
  unfold cutV
  rw [HT.sIx_none, HT.sIx_nat, List.drop_zero, Nat.sub_zero]
  by_cases h : k ≤ xs.length
  · rw [Nat.min_eq_left h]
  · rw [Nat.min_eq_right (by omega), List.take_length, List.take_of_length_le (by omega)]
theorem nums_dp {H : Hp} {p : Addr} {ns : List Nat} (h : H p = some (.lst (ns.map fun n => V.int (n : Nat)))) : Dp K H (.ref p) (numD ns) := by
  refine .lst (sq_of h) (dpAll_of ?_)
  clear h
  induction ns with
  | nil => exact .nil
  | cons n ns ih => exact .cons (.int _) ih
theorem has_nats {L : Facts} : ∀ ns : List Nat, Paired (Has L) (ns.map fun n => V.int (n : Nat)) (ns.map fun n => PyData.int (n : Nat))
  | [] => .nil
  | n :: ns => .cons (.int _) (has_nats ns)
theorem Rep.retup {w : World} {K : PySem.W.Frag} {B H : Hp} {M : Objs} {L : Facts} {D : Addr} {ds : List PyData} (R : Rep P w K B H M L) (h : Has L (.ref D) (.list ds)) : ∃ vs, SqL K H D vs ∧ ∀ l H2, H l = none → Ex H H2 → H2 l = some (.tup vs) → Rep P w K B H2 M ((.ref l, .tuple ds) :: L) := by
  obtain ⟨F, r⟩ := R
  generalize hd : PyData.list ds = dd at h
  have d0 := has_dp r h
  subst hd
  cases d0 with
  | @lst _ vs _ h1 h2 => exact ⟨vs, ex_l r.fh h1, fun l H2 hl e h => r.grow e (.tup (st_of (nw_new (r.none_ hl) hl h)) (dpAll_ex nw_ex h2))⟩
theorem w_zput {w : World} {K : PySem.W.Frag} {td ty tv : TE} {D : Ends} {σ : L2.St} {H : Hp} (h : tv σ H fun v H1 => td σ H1 fun x H2 => ty σ H2 fun y H3 => ∃ a z kvs, x = .ref a ∧ y = .str z ∧ H3 a = some (DnO P w a kvs) ∧ KsAt K H3 kvs ∧ kvs.length < sizeLine ∧ D.nx σ (upd H3 a (ZzO a))) : sZPut P w K td ty tv D σ H := h
theorem rows_at {rows : List Row} : ∀ ns : List Nat, (∀ n ∈ ns, n < rows.length) → ∃ ds : List Row, ds.length = ns.length ∧ (∀ (i : Nat) n, ns[i]? = some n → ds[i]? = rows[n]?) ∧ ∀ r ∈ ds, r ∈ rows
  | [], _ => ⟨[], rfl, fun i n h => by simp at h, fun r h => nomatch h⟩
  | n :: ns, h => by
    obtain ⟨ds, h1, h2, h3⟩ := rows_at ns fun m hm => h m (List.mem_cons_of_mem _ hm)
    have hn := h n (List.mem_cons_self ..)
    refine ⟨rows[n] :: ds, by rw [List.length_cons, List.length_cons, h1], fun i m e => ?_, fun r hr => ?_⟩
    · cases i with
      | zero => rw [List.getElem?_cons_zero] at e; cases e; rw [List.getElem?_cons_zero, List.getElem?_eq_getElem hn]
      | succ i => rw [List.getElem?_cons_succ] at e ⊢; exact h2 i m e
    · rcases List.mem_cons.mp hr with rfl | hr
      · exact List.getElem_mem hn
      · exact h3 r hr
set_option maxHeartbeats 4000000 in
theorem ok_law (T : Top K mg) : FnG P w K mg base CX0 5 T.f_law T.d_law ["script"] (spLaw K) := by
  refine okG T.F_law sc_law (fun vs H Q E h => ?_) (fun cdv A outer s H vs Q E gd hr h => ?_)
  · obtain ⟨a, ns, rfl, _⟩ := h
    rfl
  · obtain ⟨a, ns, rfl, hS, hl, q⟩ := h
    refine ⟨_, (pss_cons (ps_set (i := 1) sc_law.nd rfl (Or.inl rfl) (pe_lst (pa_cons (pv 0) (pa_cons pe_int (pa_cons pe_int pa_nil)))))
          (pss_shut (pss_cons (ps_for PassesOwn.never rfl (pi_range1 rfl T.z_range (pa_cons pe_int pa_nil)) (pg_name (i := 2) sc_law.nd rfl (Or.inl rfl))
            (pss_cons (ps_set (i := 3) sc_law.nd rfl (Or.inr rfl) (pe_call (ok_Lprogram T) (hr.mono (by decide)) (by rfl) T.g_Lprogram T.F_Lprogram.kp T.b_Lprogram .nil pass0 (pa_cons (pv 1) (pa_cons pe_int pa_nil))))
          (pss_one (ps_for PassesOwn.never rfl (pi_range1 rfl T.z_range (pa_cons pe_int pa_nil)) (pg_name (i := 4) sc_law.nd rfl (Or.inl rfl))
            (pss_cons (ps_set (i := 5) sc_law.nd rfl (Or.inl rfl) (pe_call (ok_Lnumbers_drawn T) (hr.mono (by decide)) (by rfl) T.g_Lnumbers_drawn T.F_Lnumbers_drawn.kp T.b_Lnumbers_drawn .nil pass0 (pa_cons (pv 1) (pa_cons (pv 3) pa_nil))))
          (pss_cut (ps_if (PW.pt (pw_and (pt_cmpR op_eq (pv 4) pe_int (nomark _)) (pw_and1 (pt_cmpR (op_neD hr.units) (pv 3) (pe_tup pa_nil) (nomark _)))))
            (pss_cons (ps_set (i := 5) sc_law.nd rfl (Or.inl rfl) (pe_op op_cat (pv 5) (pe_lst (pa_cons (pe_call (ok_Lnext T) (hr.mono (by decide)) (by rfl) T.g_Lnext T.F_Lnext.kp T.b_Lnext .nil pass0 (pa_cons (pv 1) (pa_cons (pe_callB call_len_seq (by rfl) T.z_len PySem.boot_len (pa_cons (pv 3) pa_nil)) pa_nil))) pa_nil))))
          (pss_one (ps_set (i := 5) sc_law.nd rfl (Or.inl rfl) (pe_slice sl_list (pe_op op_rep (pv 5) pe_int) po_none (po_some pe_int)))))
            pss_nil)
          (pss_cons (ps_set (i := 6) sc_law.nd rfl (Or.inl rfl) (pe_callTy call_tuple_of (by rfl) T.z_tuple (by decide +kernel) (pa_cons (pe_lc (own := [("_law_number", 12)]) (g := gName 12) (tt := tYes) (by rfl) sc_law.nd (pi_list (pe_slice sl_list (pv 5) po_none (po_some pe_int))) (blkOk_by (own := [("_law_number", 12)]) (N := ["script", "_law_pen", "_law_k", "_law_told", "_law_turn", "_law_numbers", "_law_done", "_law_rows", "_law_some", "_law_due", "_law_handed", "_law_found", "_law_number", "_law_one"]) (sc := defScope s_law) (by decide +kernel)) (fun _ _ _ _ _ => pg_name (i := 12) sc_law.nd rfl (Or.inl rfl)) (fun _ _ _ _ _ => pts_nil) (fun _ _ _ _ _ => (pe_ix (show IxR _ (rIxT K) from ix_tup) (pv 3) (pv 12) (fun _ _ => rfl)))) pa_nil)))
          (pss_one (ps_for PassesOwn.never rfl (pi_list (pe_lst (pa_cons (pe_tup (pa_cons (pv 3) (pa_cons (pv 5) pa_nil))) (pa_cons (pe_tup (pa_cons (pv 6) (pa_cons (pe_callTy (cr_listR rfl) (by rfl) T.z_list (by decide +kernel) (pa_cons (pe_callTy cr_range1 (by rfl) T.z_range (by decide +kernel) (pa_cons (pe_callB call_len_seq (by rfl) T.z_len PySem.boot_len (pa_cons (pv 6) pa_nil)) pa_nil)) pa_nil)) pa_nil))) pa_nil)))) (pg_tup (n := 2) (by rfl) (pgs_cons (pg_name (i := 7) sc_law.nd rfl (Or.inl rfl)) (pgs_cons (pg_name (i := 8) sc_law.nd rfl (Or.inl rfl)) pgs_nil)))
            (pss_cons (ps_set (i := 9) sc_law.nd rfl (Or.inl rfl) (pe_callB (call_repr gd (hu200_of hr)) (by rfl) T.z_repr (by decide +kernel) (pa_cons (pe_call (ok_Lran (P := P) (w := w) (base := base) T) (hr.mono (by decide)) (by rfl) T.g_Lran T.F_Lran.kp T.b_Lran .nil pass0 (pa_cons (pv 7) (pa_cons (pv 8) pa_nil))) pa_nil)))
          (pss_cons (ps_set (i := 10) sc_law.nd rfl (Or.inl rfl) (pe_callTy call_list_of (by rfl) T.z_list (by decide +kernel) (pa_cons (pv 8) pa_nil)))
          (pss_cons (ps_set (i := 11) sc_law.nd rfl (Or.inl rfl) (pe_call (ok_run (P := P) (w := w) (base := base) T) (hr.mono (by decide)) (by rfl) T.g_run T.F_run.kp T.b_run .nil pass0 (pa_cons (pv 7) (pa_cons (pv 10) pa_nil))))
          (pss_cons (ps_if (PW.pt (pw_or (pt_not (pt_val (pe_callB call_isi (by rfl) T.z_isinstance (by decide +kernel) (pa_cons (pv 11) (pa_cons (pe_bltn (v := .ty "tuple") (by rfl) T.z_tuple (by decide +kernel) rfl) pa_nil))))) (pw_or (pt_cmpR op_ne (pe_callB call_len_seq (by rfl) T.z_len PySem.boot_len (pa_cons (pv 11) pa_nil)) pe_int (nomark _)) (pw_or1 (pt_cmpR (op_neD hr.units) (pv 10) (pv 8) (nomark _))))))
            (pss_one (ps_ret pe_bl))
            pss_nil)
          (pss_cons (ps_if (PW.pt (pw_or (pt_not (pt_val (pe_callB cr_isD (by rfl) T.z_isinstance (by decide +kernel) (pa_cons (pe_ix ix_tup (pv 11) pe_int (fun _ _ => rfl)) (pa_cons (pe_bltn (v := .ty "dict") (by rfl) T.z_dict (by decide +kernel) rfl) pa_nil))))) (pw_or1 (pt_not (pt_val (pe_callB cr_isD (by rfl) T.z_isinstance (by decide +kernel) (pa_cons (pe_ix ix_tup (pv 11) pe_int (fun _ _ => rfl)) (pa_cons (pe_bltn (v := .ty "dict") (by rfl) T.z_dict (by decide +kernel) rfl) pa_nil))))))))
            (pss_one (ps_ret pe_bl))
            pss_nil)
          (pss_cons (ps_if (pt_cmpR op_ne (pe_callB (call_repr gd (hu200_of hr)) (by rfl) T.z_repr (by decide +kernel) (pa_cons (pe_callTy call_tuple_of (by rfl) T.z_tuple (by decide +kernel) (pa_cons (pe_lc (own := [("_law_one", 13)]) (g := gName 13) (tt := tYes) (by rfl) sc_law.nd (pi_tup (pv 11)) (blkOk_by (own := [("_law_one", 13)]) (N := ["script", "_law_pen", "_law_k", "_law_told", "_law_turn", "_law_numbers", "_law_done", "_law_rows", "_law_some", "_law_due", "_law_handed", "_law_found", "_law_number", "_law_one"]) (sc := defScope s_law) (by decide +kernel)) (fun _ _ _ _ _ => pg_name (i := 13) sc_law.nd rfl (Or.inl rfl)) (fun _ _ _ _ _ => pts_nil) (fun _ _ _ _ _ => (pe_callB ((show CallR _ (.builtin "sorted") (rSortItD P w K) from cr_sortItD rfl (hu80_of hr))) (by rfl) T.z_sorted (by decide +kernel) (pa_cons (show PE _ _ (tUItems P w _) from pe_uitems (pv 13)) pa_nil)))) pa_nil)) pa_nil)) (pv 9) (nomark _))
            (pss_one (ps_ret pe_bl))
            pss_nil)
          (pss_cons (ps_expr (pe_dclear (pe_ix ix_tup (pv 11) pe_int (fun _ _ => rfl))))
          (pss_cons (ps_zput (hu80b_of hr) (pe_ix ix_tup (pv 11) pe_int (fun _ _ => rfl)) pe_str pe_non rfl)
          (pss_one (ps_if (pt_cmpR (op_ne_dictA (hu1_of hr)) (pe_ix ix_tup (pv 11) pe_int (fun _ _ => rfl)) pe_dnewK (nomark _))
            (pss_one (ps_ret pe_bl))
            pss_nil)))))))))))))))))))
          (pss_one (ps_ret pe_bl))))), ?_⟩
    rw [show start ["script", "_law_pen", "_law_k", "_law_told", "_law_turn", "_law_numbers", "_law_done", "_law_rows", "_law_some", "_law_due", "_law_handed", "_law_found", "_law_number", "_law_one"] [V.ref a] = [some (V.ref a), none, none, none, none, none, none, none, none, none, none, none, none, none] from rfl]
    try dsimp only [cxOf]
    walk_at "rd"
    rename_i pen hpen H1 e1 h1
    refine w_shut (i := 0) (c := 0) h1 (Int.le_refl 0) ?_
    generalize hX : upd H1 pen (PenO pen a) = H2
    obtain ⟨m2, h2⟩ := gen2 hX
    clear hX
    have eH : Ex H H2 := m2.ex e1 hpen
    have sc2 : SqL K H2 a _ := ex_l eH hS
    clear e1 h1 m2 hpen hS eH
    walk_at "rd"
    refine l_range (fun i σ' H' => ∃ x2 x3 x4 x5 x6 x7 x8 x9 xa xb xc xd : Option V, σ' = [some (V.ref a), some (V.ref pen), x2, x3, x4, x5, x6, x7, x8, x9, xa, xb, xc, xd] ∧ Ex H2 H') ⟨_, _, _, _, _, _, _, _, _, _, _, _, rfl, Ex.refl _⟩ ?_ ?_
    · rintro kk σ' H3 hk ⟨x2, x3, x4, x5, x6, x7, x8, x9, xa, xb, xc, xd, rfl, e3⟩
      walk_at "rd"
      rename_i told rows H4 e4 hpr hrl hwo
      have hrl2 : rows.length ≤ 20 := by omega
      have e24 : Ex H2 H4 := e3.trans e4
      clear e3 e4
      refine l_range (fun i σ' H' => ∃ x4 x5 x6 x7 x8 x9 xa xb xc xd : Option V, σ' = [some (V.ref a), some (V.ref pen), some (V.int (kk : Int)), some (V.ref told), x4, x5, x6, x7, x8, x9, xa, xb, xc, xd] ∧ Ex H4 H') ⟨_, _, _, _, _, _, _, _, _, _, rfl, Ex.refl _⟩ ?_ ?_
      · rintro tt σ' H5 ht ⟨x4, x5, x6, x7, x8, x9, xa, xb, xc, xd, rfl, e5⟩
        have e25 : Ex H2 H5 := e24.trans e5
        have hpr5 := hpr.ex e5
        clear hpr
        have h5 := e25 _ _ h2
        have sc5 := ex_l e25 sc2
        walk_at "rd"
        refine ⟨pen, a, told, ns, rows, rfl, h5, sc5, hpr5, hwo, hrl2, fun nb is H6 _ e6 k6 hin his => ?_⟩
        walk_at "rd"
        refine w_cut (fun σ' H' => ∃ (nb : Addr) (is : List Nat), σ' = [some (V.ref a), some (V.ref pen), some (V.int (kk : Int)), some (V.ref told), some (V.int (tt : Int)), some (V.ref nb), x6, x7, x8, x9, xa, xb, xc, xd] ∧ Ex H5 H' ∧ H' nb = some (.lst (is.map fun n => V.int (n : Nat))) ∧ (∀ n ∈ is, n < rows.length) ∧ is.length ≤ 300) ?_ ?_
        · walk_at "rd"
          have fall : Ex H5 H6 ∧ H6 nb = some (.lst (is.map fun n => V.int (n : Nat))) ∧ (∀ n ∈ is, n < rows.length) ∧ is.length ≤ 300 := ⟨e6, k6, hin, by omega⟩
          by_cases htt : (tt : Int) = 2
          · rw [htt, if_pos (by rfl)]
            walk_at "rd"
            rename_i pe hpe H7 e7 k7
            refine ⟨progD rows, .tuple [], dp_ex (e6.trans e7) (prog_dp hpr5), .tup (st_of k7) .nil, prog_shaped hwo, rfl, _, rfl, ?_⟩
            rw [prog_nil]
            by_cases hr0 : rows = []
            · rw [if_neg (by rw [decide_eq_true hr0]; decide)]
              walk_at "rd"
              exact ⟨_, _, rfl, e6.trans e7, e7 _ _ k6, hin, by omega⟩
            · rw [if_pos (by rw [decide_eq_false hr0]; rfl)]
              have hr1 : 1 ≤ rows.length := by cases rows with | nil => exact absurd rfl hr0 | cons _ _ => rw [List.length_cons]; omega
              walk_at "rd"
              obtain ⟨vs, z1, z2, _⟩ := hpr5.ex (e6.trans e7)
              refine w_lenT (st_of z1) ?_
              have h7 := e7 _ _ (e6 _ _ h5)
              have sc7 := ex_l (e6.trans e7) sc5
              have k67 := e7 _ _ k6
              walk_at "rd"
              rename_i r H8 r0 r1 e8 p9 hp9 H9 e9 k9 p10 hp10 H10 e10 k10 p11 hp11 H11 e11 k11
              have e1 : (is.map (fun n => V.int (n : Nat)) ++ [V.int r]) = (is ++ [r.toNat]).map (fun n => V.int (n : Nat)) := by rw [List.map_append, List.map_cons, List.map_nil, Int.toNat_of_nonneg r0]
              rw [e1, rep_nats] at k11
              refine ⟨p11, _, rfl, sq_of k11, fun p12 hp12 => ?_⟩
              rw [show (300 : Int) = ((300 : Nat) : Int) from rfl, cut_take, ← List.map_take]
              refine ⟨p12, _, rfl, Ex.trans (by walk_at "ex") (Ex.new hp12), upd_same, fun n hn => ?_, by rw [List.length_take]; omega⟩
              rcases List.mem_append.mp (rep_mem (List.mem_of_mem_take hn)) with hn | hn
              · exact hin n hn
              · rw [List.mem_singleton.mp hn]
                omega
          · rw [if_neg (by simpa using htt)]
            walk_at "rd"
            exact ⟨_, _, rfl, fall⟩
        · rintro σ' H7 ⟨nb, is, rfl, e57, k7, hin, his⟩
          walk_at "rd"
          refine ⟨nb, _, rfl, sq_of k7, fun p8 hp8 => ?_⟩
          rw [show (60 : Int) = ((60 : Nat) : Int) from rfl, cut_take, ← List.map_take]
          have hin2 : ∀ n ∈ is.take 60, n < rows.length := fun n hn => hin n (List.mem_of_mem_take hn)
          have hl2 : (is.take 60).length ≤ 60 := by rw [List.length_take]; omega
          generalize is.take 60 = is2 at hin2 hl2 ⊢
          have e8 : Ex H7 (upd H7 p8 (.lst (is2.map fun n => V.int (n : Nat)))) := Ex.new hp8
          have k8 : upd H7 p8 (.lst (is2.map fun n => V.int (n : Nat))) p8 = some (.lst (is2.map fun n => V.int (n : Nat))) := upd_same
          generalize upd H7 p8 (.lst (is2.map fun n => V.int (n : Nat))) = H8 at e8 k8 ⊢
          obtain ⟨vs, z1, z2, z3⟩ := hpr5.ex (e57.trans e8)
          refine ⟨p8, rfl, ⟨_, sq_of k8⟩, ?_⟩
          refine c_list (xs := is2.map fun n => V.int (n : Nat)) (fun i y _ => ∃ n, is2[i]? = some n ∧ vs[n]? = some y) (fun _ => ⟨fun _ _ _ _ h => h, fun _ _ _ _ _ _ h => h⟩) (by rw [List.length_map]; omega) (sq_of k8) (fun _ => rfl) (fun i x H' Q' hi e Hq => ?_) (fun p9 ys H9 hp9 e9 k9 hl9 hy9 => ?_)
          · rw [List.getElem?_map] at hi
            obtain ⟨n, hni, rfl⟩ := Option.map_eq_some_iff.mp hi
            have hn := hin2 n (List.mem_of_getElem? hni)
            obtain ⟨v, hv⟩ : ∃ v, vs[n]? = some v := ⟨_, List.getElem?_eq_getElem (by omega)⟩
            walk_at "rd"
            exact Hq _ _ (Ex.refl _) ⟨n, hni, hv⟩
          · obtain ⟨drows, d1, d2, d3⟩ := rows_at is2 hin2
            walk_at "rd"
            rename_i pd hpd HA eA kA t1 ht1 HB eB kB pr hpr2 HC eC kC
            have hyl : ys.length = is2.length := by rw [hl9, List.length_map]
            have hyd : ys.length = drows.length := by rw [hyl, d1]
            rw [hyd] at kC
            refine ⟨pr, drows.length, rfl, kC, by omega, fun pl hpl => ?_⟩
            have eD : Ex HC (upd HC pl (.lst ((List.range drows.length).map fun k => V.int (k : Nat)))) := Ex.new hpl
            have kD : upd HC pl (.lst ((List.range drows.length).map fun k => V.int (k : Nat))) pl = some (.lst ((List.range drows.length).map fun k => V.int (k : Nat))) := upd_same
            generalize upd HC pl (.lst ((List.range drows.length).map fun k => V.int (k : Nat))) = HD at eD kD ⊢
            walk_at "rd"
            rename_i t2 ht2 HE eE kE ll hll HF eF kF
            have prog1 : ProgAt HF told rows := hpr5.ex (by walk_at "ex")
            have prog2 : ProgAt HF pd drows := by
              refine ⟨ys, by walk_at "ho", hyd, fun i r hr => ?_⟩
              have hi2 : i < is2.length := by rw [← d1]; exact (List.getElem?_eq_some_iff.mp hr).1
              obtain ⟨y, hy⟩ : ∃ y, ys[i]? = some y := ⟨_, List.getElem?_eq_getElem (by omega)⟩
              obtain ⟨n, hn1, hn2⟩ := hy9 i y hy
              rw [d2 i n hn1] at hr
              obtain ⟨v, hv, hra⟩ := z3 n r hr
              rw [hn2] at hv
              cases hv
              exact ⟨y, hy, (rowAt_keeps r).1 _ _ _ (by walk_at "ex") hra⟩
            have f1 : HF t1 = some (.tup [V.ref told, V.ref nb]) := by walk_at "ho"
            have f2 : HF t2 = some (.tup [V.ref pd, V.ref pl]) := by walk_at "ho"
            have f3 : HF nb = some (.lst (is.map fun n => V.int (n : Nat))) := (show Ex H7 HF by walk_at "ex") _ _ k7
            have f4 : HF pl = some (.lst ((List.range drows.length).map fun k => V.int (k : Nat))) := by walk_at "ho"
            have e5F : Ex H5 HF := e57.trans (show Ex H7 HF by walk_at "ex")
            have wo2 : WOk drows := fun r hr => hwo r (d3 r hr)
            have dl : drows.length ≤ 60 := by omega
            clear d3 d2 d1 hy9 hl9 hyl hyd z1 z2 z3 hin2 hl2
            clear hpr2 hpl ht1 ht2 hpd hp9 hp8 k8 k9 kA kB kC kD kE eF eE eD eC eB eA e9 e8 k7 e57
            refine l_list (xs := [V.ref t1, V.ref t2]) (fun i σ' H' => ∃ x7 x8 x9 xa xb xc xd : Option V, σ' = [some (V.ref a), some (V.ref pen), some (V.int (kk : Int)), some (V.ref told), some (V.int (tt : Int)), some (V.ref nb), some (V.ref pd), x7, x8, x9, xa, xb, xc, xd] ∧ Ex HF H') ⟨_, _, _, _, _, _, _, rfl, Ex.refl _⟩ (fun i σ' H' _ ⟨_, _, _, _, _, _, _, _, eh⟩ => sq_of (eh _ _ kF)) ?_ ?_
            · rintro i x σ' H' hi ⟨x7, x8, x9, xa, xb, xc, xd, rfl, eF⟩
              obtain ⟨tx, px, nx, prows, ins, rfl, g1, g2, g3, g4, g5, g6⟩ : ∃ (tx px nx : Addr) (prows : List Row) (ins : List Nat), x = V.ref tx ∧ HF tx = some (.tup [V.ref px, V.ref nx]) ∧ ProgAt HF px prows ∧ HF nx = some (.lst (ins.map fun n => V.int (n : Nat))) ∧ WOk prows ∧ (∀ n ∈ ins, n < prows.length) ∧ ins.length ≤ 300 := by
                match i, hi with
                | 0, hi => exact ⟨t1, told, nb, rows, is, (Option.some.inj hi).symm, f1, prog1, f3, hwo, hin, his⟩
                | 1, hi => exact ⟨t2, pd, pl, drows, List.range drows.length, (Option.some.inj hi).symm, f2, prog2, f4, wo2, fun n hn => List.mem_range.mp hn, by rw [List.length_range]; omega⟩
                | n + 2, hi => exact nomatch hi
              clear prog1 prog2 f1 f2 f3 f4 hi wo2 hin his dl
              replace g1 := eF _ _ g1
              replace g2 := g2.ex eF
              replace g3 := eF _ _ g3
              refine w_gTup ⟨tx, _, rfl, st_of g1, rfl, ?_⟩
              have R0 : Rep P w K H' H' [] [(.ref px, progD prows), (.ref nx, numD ins)] := Rep.init fun v d hm => by
                simp only [List.mem_cons, List.not_mem_nil, or_false, Prod.mk.injEq] at hm
                rcases hm with ⟨rfl, rfl⟩ | ⟨rfl, rfl⟩
                · exact prog_dp g2
                · exact nums_dp g3
              walk_at "rd"
              obtain ⟨wd, sm⟩ := wd_run g4 ins
              have gdn := gd_ran wd sm g6
              have sm2 : Small (runP prows ins) 1000 := ⟨Nat.le_trans sm.1 (by omega), Nat.le_trans sm.2.1 (by omega), Nat.le_trans sm.2.2 (by omega)⟩
              refine ⟨H', _, px, nx, prows, ins, rfl, R0, has_hd, has_tl has_hd, g5, by omega, fun due H1 R1 => ?_⟩
              rw [same_sorted (same_run prows ins) (ndL_run prows ins)] at R1
              walk_at "rd"
              refine ⟨due, _, rfl, R1.dp has_hd, gdn.sh, nodict_ran _, Nat.le_trans gdn.dp (by decide), gd_shown gdn (by decide), ?_⟩
              walk_at "rd"
              refine ⟨nx, _, rfl, .inl (sq_of (R1.ext _ _ g3)), fun hd hhd => ?_⟩
              have R2 : Rep P w K H' (upd H1 hd (.lst (ins.map fun n => V.int (n : Nat)))) [] [(.ref hd, numD ins), (.ref px, progD prows), (.ref nx, numD ins)] := R1.drop1.listG hhd (Ex.new hhd) upd_same (has_nats ins)
              generalize upd H1 hd (.lst (ins.map fun n => V.int (n : Nat))) = HA at R2 ⊢
              clear R1 R0
              walk_at "rd"
              refine ⟨H', _, px, hd, prows, ins, rfl, R2, has_tl has_hd, has_hd, g5, by omega, fun t a1 a2 a3 HB ht R3 => ?_⟩
              obtain ⟨R4, eB⟩ := R3.hold ht (fun o => R3.not_tup ht)
              have tB : upd H' t (HO.tup [V.ref a1, V.ref a2]) t = some (.tup [V.ref a1, V.ref a2]) := upd_same
              generalize upd H' t (HO.tup [V.ref a1, V.ref a2]) = HK at R4 eB tB
              clear R3 R2
              have HBt := R4.ext _ _ tB
              walk_at "rd"
              refine ⟨_, _, _, _, true, rfl, .ty "tuple", .base (.tup HBt), kit_ty (by decide +kernel), true, rfl, ?_⟩
              rw [if_neg (by decide)]
              walk_at "rd"
              rw [if_neg (by simp)]
              walk_at "rd"
              refine ⟨numD ins, numD ins, R4.dp has_hd, R4.dp (has_tl (has_tl has_hd)), (nums_shaped ins).1, (nums_shaped ins).1, _, rfl, ?_⟩
              rw [(nums_shaped ins).2, if_neg (by decide)]
              walk_at "rd"
              refine ⟨a1, rfl, R4.udA (o := .dic (nmK (runP prows ins).nm)) (List.mem_cons_self ..) (.inl ⟨_, rfl⟩), true, rfl, ?_⟩
              rw [if_neg (by decide)]
              walk_at "rd"
              refine ⟨a2, rfl, R4.udA (o := .dicN (slN (runP prows ins).sl)) (.tail _ (List.mem_cons_self ..)) (.inr ⟨_, rfl⟩), true, rfl, ?_⟩
              rw [if_neg (by decide)]
              walk_at "rd"
              refine c_items R4 tB (fun _ => rfl) sm2 (fun x HC Q' ⟨b, e, ud, kk⟩ => ?_) (fun D HC R5 => ?_)
              · subst e
                walk_at "rd"
                exact ⟨.ref b, rfl, b, rfl, ud, fun p hp => kk p hp⟩
              · obtain ⟨ws, k1, k2⟩ := R5.retup has_hd
                walk_at "rd"
                rename_i l hl HD eD kD
                replace k2 := k2 l HD hl eD kD
                refine ⟨l, _, rfl, k2.dp has_hd, gdn.sh, nodict_ran _, Nat.le_trans gdn.dp (by decide), gd_shown gdn (by decide), ?_⟩
                walk_at "rd"
                rw [decide_eq_true rfl, if_neg (by decide)]
                have HDt := k2.ext _ _ tB
                obtain ⟨w1, q1, _⟩ := k2.at (o := .dic (nmK (runP prows ins).nm)) (List.mem_cons_self ..)
                have RC := k2.put (u := .dK []) (o' := .dic []) (i := 0) rfl fun F r => ⟨[], upd_same, .nil⟩
                have qC : upd HD a1 (.dK []) a1 = some (.dK []) := upd_same
                walk_at "rd"
                refine ⟨.inr (.inr (.inl ⟨rfl, .inl ⟨_, q1⟩⟩)), a1, _, rfl, rfl, q1, ?_⟩
                generalize upd HD a1 (.dK []) = HC2 at RC qC ⊢
                have HCt := RC.ext _ _ tB
                obtain ⟨w2, q2, q3, q4⟩ := RC.at (a := a2) (o := .dicN (slN (runP prows ins).sl)) (.tail _ (List.mem_cons_self ..))
                have ql : w2.length < sizeLine := by
                  have := Paired.length q4
                  unfold slN at this
                  rw [List.length_map] at this
                  have := sm2.2.1
                  rw [sizeLine_eq]
                  omega
                have na : a1 ≠ a2 := by
                  have := RC.nodup
                  simp [ObsR] at this
                  exact this.1.1
                have nb2 : HK a2 = none := by
                  obtain ⟨F, r⟩ := RC
                  have f2 := (r.ob a2 (.dicN (slN (runP prows ins).sl)) (.tail _ (List.mem_cons_self ..))).1
                  cases hh : HK a2 with
                  | none => rfl
                  | some z => rw [r.bf _ _ hh] at f2; cases f2
                have nt : t ≠ a2 := fun e => by rw [e, nb2] at tB; cases tB
                refine w_zput ?_
                walk_at "rd"
                refine ⟨a2, _, w2, rfl, rfl, q2, q3, ql, ?_⟩
                have qZ : upd HC2 a2 (ZzO a2) a1 = some (.dK []) := by rw [upd_ne na]; exact qC
                have eZ : Ex HK (upd HC2 a2 (ZzO a2)) := fun b o e => by
                  rw [upd_ne (fun z => by rw [z, nb2] at e; cases e)]
                  exact RC.ext _ _ e
                generalize upd HC2 a2 (ZzO a2) = HZ at qZ eZ ⊢
                have HZt := eZ _ _ tB
                clear RC q2 q3 q4 q1 k2 k1 R4 HCt HDt HBt
                walk_at "rd"
                intro p6 hp6
                refine ⟨a1, p6, [], [], rfl, rfl, by rw [upd_ne (ne_of_none qZ hp6)]; exact qZ, upd_same, rfl, (fun _ h => (List.not_mem_nil h).elim), false, rfl, ?_⟩
                rw [if_neg (by decide)]
                walk_at "rd"
                exact ⟨_, _, _, _, _, _, _, rfl, ((eF.trans eB).trans eZ).trans (Ex.new hp6)⟩
            · rintro σ' H' ⟨x7, x8, x9, xa, xb, xc, xd, rfl, eF⟩
              walk_at "rd"
              exact ⟨_, _, _, _, _, _, _, _, _, _, rfl, (e5.trans e5F).trans eF⟩
      · rintro σ' H5 ⟨x4, x5, x6, x7, x8, x9, xa, xb, xc, xd, rfl, e5⟩
        walk_at "rd"
        exact ⟨_, _, _, _, _, _, _, _, _, _, _, _, rfl, e24.trans e5⟩
    · rintro σ' H3 ⟨x2, x3, x4, x5, x6, x7, x8, x9, xa, xb, xc, xd, rfl, e3⟩
      walk_at "rd"
      exact q _
end

theorem all_mk {l : PySem.W.OpenLaw} {w : World} {K : PySem.W.Frag} {h : Heap} {mg : Str → Option Value} {fa : Addr} (X : K.In h) (G : h.Ns mainGlobals mg) (hfa : mg "law" = some (.ref fa))
    {f0 : Addr} {od0 an0 : Option Addr} {sl0 : Array (Option Value)} {oc0 kV0 dc0 pm0 cd0 ct0 : Value} {f1 : Addr} {od1 an1 : Option Addr} {sl1 : Array (Option Value)} {oc1 kV1 dc1 pm1 cd1 ct1 : Value} {f2 : Addr} {od2 an2 : Option Addr} {sl2 : Array (Option Value)} {oc2 kV2 dc2 pm2 cd2 ct2 : Value} {f3 : Addr} {od3 an3 : Option Addr} {sl3 : Array (Option Value)} {oc3 kV3 dc3 pm3 cd3 ct3 : Value} {f4 : Addr} {od4 an4 : Option Addr} {sl4 : Array (Option Value)} {oc4 kV4 dc4 pm4 cd4 ct4 : Value} {f5 : Addr} {od5 an5 : Option Addr} {sl5 : Array (Option Value)} {oc5 kV5 dc5 pm5 cd5 ct5 : Value} {f6 : Addr} {od6 an6 : Option Addr} {sl6 : Array (Option Value)} {oc6 kV6 dc6 pm6 cd6 ct6 : Value} {f7 : Addr} {od7 an7 : Option Addr} {sl7 : Array (Option Value)} {oc7 kV7 dc7 pm7 cd7 ct7 : Value} {f8 : Addr} {od8 an8 : Option Addr} {sl8 : Array (Option Value)} {oc8 kV8 dc8 pm8 cd8 ct8 : Value} {f9 : Addr} {od9 an9 : Option Addr} {sl9 : Array (Option Value)} {oc9 kV9 dc9 pm9 cd9 ct9 : Value} {f10 : Addr} {od10 an10 : Option Addr} {sl10 : Array (Option Value)} {oc10 kV10 dc10 pm10 cd10 ct10 : Value}
    (a0 : PySem.W.nsIn K mainGlobals "run" = some (some (.ref f0))) (l0 : K.lookup f0 = some ⟨oc0, od0, .func (PySem.W.fnOf "run" "run" (defArgs s_run) (defBody s_run) (defScope s_run) .none kV0 dc0 pm0 an0 cd0 ct0), sl0⟩) (c0 : PySem.W.codeIn K cd0 "run" = true) (k0 : PySem.W.keepIn K (.ref f0) = true)
    (a1 : PySem.W.nsIn K mainGlobals "_do" = some (some (.ref f1))) (l1 : K.lookup f1 = some ⟨oc1, od1, .func (PySem.W.fnOf "_do" "_do" (defArgs s_Pdo) (defBody s_Pdo) (defScope s_Pdo) .none kV1 dc1 pm1 an1 cd1 ct1), sl1⟩) (c1 : PySem.W.codeIn K cd1 "_do" = true) (k1 : PySem.W.keepIn K (.ref f1) = true)
    (a2 : PySem.W.nsIn K mainGlobals "_give" = some (some (.ref f2))) (l2 : K.lookup f2 = some ⟨oc2, od2, .func (PySem.W.fnOf "_give" "_give" (defArgs s_Pgive) (defBody s_Pgive) (defScope s_Pgive) .none kV2 dc2 pm2 an2 cd2 ct2), sl2⟩) (c2 : PySem.W.codeIn K cd2 "_give" = true) (k2 : PySem.W.keepIn K (.ref f2) = true)
    (a3 : PySem.W.nsIn K mainGlobals "_law_fill" = some (some (.ref f3))) (l3 : K.lookup f3 = some ⟨oc3, od3, .func (PySem.W.fnOf "_law_fill" "_law_fill" (defArgs s_Lfill) (defBody s_Lfill) (defScope s_Lfill) .none kV3 dc3 pm3 an3 cd3 ct3), sl3⟩) (c3 : PySem.W.codeIn K cd3 "_law_fill" = true) (k3 : PySem.W.keepIn K (.ref f3) = true)
    (a4 : PySem.W.nsIn K mainGlobals "_law_next" = some (some (.ref f4))) (l4 : K.lookup f4 = some ⟨oc4, od4, .func (PySem.W.fnOf "_law_next" "_law_next" (defArgs s_Lnext) (defBody s_Lnext) (defScope s_Lnext) .none kV4 dc4 pm4 an4 cd4 ct4), sl4⟩) (c4 : PySem.W.codeIn K cd4 "_law_next" = true) (k4 : PySem.W.keepIn K (.ref f4) = true)
    (a5 : PySem.W.nsIn K mainGlobals "_law_words" = some (some (.ref f5))) (l5 : K.lookup f5 = some ⟨oc5, od5, .func (PySem.W.fnOf "_law_words" "_law_words" (defArgs s_Lwords) (defBody s_Lwords) (defScope s_Lwords) .none kV5 dc5 pm5 an5 cd5 ct5), sl5⟩) (c5 : PySem.W.codeIn K cd5 "_law_words" = true) (k5 : PySem.W.keepIn K (.ref f5) = true)
    (a6 : PySem.W.nsIn K mainGlobals "_law_row" = some (some (.ref f6))) (l6 : K.lookup f6 = some ⟨oc6, od6, .func (PySem.W.fnOf "_law_row" "_law_row" (defArgs s_Lrow) (defBody s_Lrow) (defScope s_Lrow) .none kV6 dc6 pm6 an6 cd6 ct6), sl6⟩) (c6 : PySem.W.codeIn K cd6 "_law_row" = true) (k6 : PySem.W.keepIn K (.ref f6) = true)
    (a7 : PySem.W.nsIn K mainGlobals "_law_program" = some (some (.ref f7))) (l7 : K.lookup f7 = some ⟨oc7, od7, .func (PySem.W.fnOf "_law_program" "_law_program" (defArgs s_Lprogram) (defBody s_Lprogram) (defScope s_Lprogram) .none kV7 dc7 pm7 an7 cd7 ct7), sl7⟩) (c7 : PySem.W.codeIn K cd7 "_law_program" = true) (k7 : PySem.W.keepIn K (.ref f7) = true)
    (a8 : PySem.W.nsIn K mainGlobals "_law_ran" = some (some (.ref f8))) (l8 : K.lookup f8 = some ⟨oc8, od8, .func (PySem.W.fnOf "_law_ran" "_law_ran" (defArgs s_Lran) (defBody s_Lran) (defScope s_Lran) .none kV8 dc8 pm8 an8 cd8 ct8), sl8⟩) (c8 : PySem.W.codeIn K cd8 "_law_ran" = true) (k8 : PySem.W.keepIn K (.ref f8) = true)
    (a9 : PySem.W.nsIn K mainGlobals "_law_numbers_drawn" = some (some (.ref f9))) (l9 : K.lookup f9 = some ⟨oc9, od9, .func (PySem.W.fnOf "_law_numbers_drawn" "_law_numbers_drawn" (defArgs s_Lnumbers_drawn) (defBody s_Lnumbers_drawn) (defScope s_Lnumbers_drawn) .none kV9 dc9 pm9 an9 cd9 ct9), sl9⟩) (c9 : PySem.W.codeIn K cd9 "_law_numbers_drawn" = true) (k9 : PySem.W.keepIn K (.ref f9) = true)
    (a10 : PySem.W.nsIn K mainGlobals "law" = some (some (.ref f10))) (l10 : K.lookup f10 = some ⟨oc10, od10, .func (PySem.W.fnOf "law" "law" (defArgs s_law) (defBody s_law) (defScope s_law) .none kV10 dc10 pm10 an10 cd10 ct10), sl10⟩) (c10 : PySem.W.codeIn K cd10 "law" = true) (k10 : PySem.W.keepIn K (.ref f10) = true)
    (z_dict : PySem.W.nsIn K mainGlobals "dict" = some none)
    (z_isinstance : PySem.W.nsIn K mainGlobals "isinstance" = some none)
    (z_len : PySem.W.nsIn K mainGlobals "len" = some none)
    (z_list : PySem.W.nsIn K mainGlobals "list" = some none)
    (z_range : PySem.W.nsIn K mainGlobals "range" = some none)
    (z_repr : PySem.W.nsIn K mainGlobals "repr" = some none)
    (z_sorted : PySem.W.nsIn K mainGlobals "sorted" = some none)
    (z_str : PySem.W.nsIn K mainGlobals "str" = some none)
    (z_tuple : PySem.W.nsIn K mainGlobals "tuple" = some none)
    : ∃ fd : FuncData, (∀ (s : Shared) (v : Value), BindsTo s fd ⟨[v], []⟩ [("script", v)]) ∧ ∀ base : Heap, K.In base → base.Ns mainGlobals mg → FnG l.prog w K mg base CX0 5 fa fd ["script"] (spLaw K) := by
  have e := hfa.symm.trans (PySem.W.mg_of X G a10)
  cases e
  have F0 := fun_mk (st := s_run) l0 c0 k0
  have b0 := F0.binds (ps := ["program", "numbers"]) fun _ _ _ _ _ _ us hl => match us, hl with | [_, _], _ => rfl
  have F1 := fun_mk (st := s_Pdo) l1 c1 k1
  have b1 := F1.binds (ps := ["row", "names", "slots", "made"]) fun _ _ _ _ _ _ us hl => match us, hl with | [_, _, _, _], _ => rfl
  have F2 := fun_mk (st := s_Pgive) l2 c2 k2
  have b2 := F2.binds (ps := ["holders", "holder", "thing"]) fun _ _ _ _ _ _ us hl => match us, hl with | [_, _, _], _ => rfl
  have F3 := fun_mk (st := s_Lfill) l3 c3 k3
  have b3 := F3.binds (ps := ["_law_cell", "_law_at"]) fun _ _ _ _ _ _ us hl => match us, hl with | [_, _], _ => rfl
  have F4 := fun_mk (st := s_Lnext) l4 c4 k4
  have b4 := F4.binds (ps := ["_law_pen", "_law_many"]) fun _ _ _ _ _ _ us hl => match us, hl with | [_, _], _ => rfl
  have F5 := fun_mk (st := s_Lwords) l5 c5 k5
  have b5 := F5.binds (ps := ["_law_pen", "_law_many"]) fun _ _ _ _ _ _ us hl => match us, hl with | [_, _], _ => rfl
  have F6 := fun_mk (st := s_Lrow) l6 c6 k6
  have b6 := F6.binds (ps := ["_law_pen", "_law_names", "_law_boxes", "_law_slots"]) fun _ _ _ _ _ _ us hl => match us, hl with | [_, _, _, _], _ => rfl
  have F7 := fun_mk (st := s_Lprogram) l7 c7 k7
  have b7 := F7.binds (ps := ["_law_pen", "_law_most"]) fun _ _ _ _ _ _ us hl => match us, hl with | [_, _], _ => rfl
  have F8 := fun_mk (st := s_Lran) l8 c8 k8
  have b8 := F8.binds (ps := ["_law_told", "_law_numbers"]) fun _ _ _ _ _ _ us hl => match us, hl with | [_, _], _ => rfl
  have F9 := fun_mk (st := s_Lnumbers_drawn) l9 c9 k9
  have b9 := F9.binds (ps := ["_law_pen", "_law_told"]) fun _ _ _ _ _ _ us hl => match us, hl with | [_, _], _ => rfl
  have F10 := fun_mk (st := s_law) l10 c10 k10
  have b10 := F10.binds (ps := ["script"]) fun _ _ _ _ _ _ us hl => match us, hl with | [_], _ => rfl
  exact ⟨_, fun s v => .of_eq rfl, fun base _ _ => ok_law (T := { f_run := _, d_run := _, F_run := F0, b_run := b0, g_run := PySem.W.mg_of X G a0, f_Pdo := _, d_Pdo := _, F_Pdo := F1, b_Pdo := b1, g_Pdo := PySem.W.mg_of X G a1, f_Pgive := _, d_Pgive := _, F_Pgive := F2, b_Pgive := b2, g_Pgive := PySem.W.mg_of X G a2, f_Lfill := _, d_Lfill := _, F_Lfill := F3, b_Lfill := b3, g_Lfill := PySem.W.mg_of X G a3, f_Lnext := _, d_Lnext := _, F_Lnext := F4, b_Lnext := b4, g_Lnext := PySem.W.mg_of X G a4, f_Lwords := _, d_Lwords := _, F_Lwords := F5, b_Lwords := b5, g_Lwords := PySem.W.mg_of X G a5, f_Lrow := _, d_Lrow := _, F_Lrow := F6, b_Lrow := b6, g_Lrow := PySem.W.mg_of X G a6, f_Lprogram := _, d_Lprogram := _, F_Lprogram := F7, b_Lprogram := b7, g_Lprogram := PySem.W.mg_of X G a7, f_Lran := _, d_Lran := _, F_Lran := F8, b_Lran := b8, g_Lran := PySem.W.mg_of X G a8, f_Lnumbers_drawn := _, d_Lnumbers_drawn := _, F_Lnumbers_drawn := F9, b_Lnumbers_drawn := b9, g_Lnumbers_drawn := PySem.W.mg_of X G a9, f_law := _, d_law := _, F_law := F10, b_law := b10, g_law := PySem.W.mg_of X G a10, z_dict := PySem.W.mg_none_of X G z_dict, z_isinstance := PySem.W.mg_none_of X G z_isinstance, z_len := PySem.W.mg_none_of X G z_len, z_list := PySem.W.mg_none_of X G z_list, z_range := PySem.W.mg_none_of X G z_range, z_repr := PySem.W.mg_none_of X G z_repr, z_sorted := PySem.W.mg_none_of X G z_sorted, z_str := PySem.W.mg_none_of X G z_str, z_tuple := PySem.W.mg_none_of X G z_tuple })⟩
end My

open PySem PySem.W PyProof.Rows in
set_option maxRecDepth 100000 in
set_option maxHeartbeats 0 in
theorem PySem.Challenge.cw_whoholds_k05_runs_row_by_row_holds : PySem.Challenge.rw_whoholds_k05_runs_row_by_row.Holds := by
  w_on; o_law; k_head; (case hw => w_witness2)
  k_fill
  refine My.walk_ofG (l := PySem.Challenge.rw_whoholds_k05_runs_row_by_row) (n := 63) (k := 5) (x := "script") (CX := fun _ => L2.CX0) (sp := fun w => My.spLaw _) rfl (by decide) rfl ⟨rfl, by decide, by decide⟩ (fun w h Y => PySem.W.kIn_of Y) ?F (fun _ _ a ns hl _ hS => ⟨a, ns, rfl, hS, hl, fun _ => rfl⟩) (fun _ _ _ _ _ h => h)
  case F =>
    intro w mg fa h KX G hmg
    refine' My.all_mk KX G hmg ?a0 ?l0 ?c0 ?k0 ?a1 ?l1 ?c1 ?k1 ?a2 ?l2 ?c2 ?k2 ?a3 ?l3 ?c3 ?k3 ?a4 ?l4 ?c4 ?k4 ?a5 ?l5 ?c5 ?k5 ?a6 ?l6 ?c6 ?k6 ?a7 ?l7 ?c7 ?k7 ?a8 ?l8 ?c8 ?k8 ?a9 ?l9 ?c9 ?k9 ?a10 ?l10 ?c10 ?k10 ?z_dict ?z_isinstance ?z_len ?z_list ?z_range ?z_repr ?z_sorted ?z_str ?z_tuple
    (case a0 => k_is)
    (case l0 => k_is)
    (case c0 => k_is)
    (case k0 => k_is)
    (case a1 => k_is)
    (case l1 => k_is)
    (case c1 => k_is)
    (case k1 => k_is)
    (case a2 => k_is)
    (case l2 => k_is)
    (case c2 => k_is)
    (case k2 => k_is)
    (case a3 => k_is)
    (case l3 => k_is)
    (case c3 => k_is)
    (case k3 => k_is)
    (case a4 => k_is)
    (case l4 => k_is)
    (case c4 => k_is)
    (case k4 => k_is)
    (case a5 => k_is)
    (case l5 => k_is)
    (case c5 => k_is)
    (case k5 => k_is)
    (case a6 => k_is)
    (case l6 => k_is)
    (case c6 => k_is)
    (case k6 => k_is)
    (case a7 => k_is)
    (case l7 => k_is)
    (case c7 => k_is)
    (case k7 => k_is)
    (case a8 => k_is)
    (case l8 => k_is)
    (case c8 => k_is)
    (case k8 => k_is)
    (case a9 => k_is)
    (case l9 => k_is)
    (case c9 => k_is)
    (case k9 => k_is)
    (case a10 => k_is)
    (case l10 => k_is)
    (case c10 => k_is)
    (case k10 => k_is)
    (case z_dict => k_is)
    (case z_isinstance => k_is)
    (case z_len => k_is)
    (case z_list => k_is)
    (case z_range => k_is)
    (case z_repr => k_is)
    (case z_sorted => k_is)
    (case z_str => k_is)
    (case z_tuple => k_is)

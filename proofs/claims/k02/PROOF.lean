import PyProof.Rows.All
import Wide.All
import OpenK.AllK
import Wide.FinOn
import HandS.ForMost
import HandS.Evl
import HandS.Flow
import HandS.Style
import HandS.IsInst
import PyProof.StrBlock2
import HandS.Set
import HandS.SetBool
import HandS.SetFor
import HandS.Strs
import PyProof.Rows.SetFrom
import PyProof.Rows.SortShellAny
import PySem.Challenge.RW_whoholds_k02_names_boxes_slots
set_option Elab.async false
set_option linter.all false
set_option maxRecDepth 100000
set_option maxHeartbeats 4000000
namespace My
open PySem L2 Evl
section
open PySem L2 Evl

/-! ### heads -/
section
variable {σ : L2.St} {H : Hp} {Q : VK} {nx : L2.St → Hp → Prop} {rt : VK} {bk ct : L2.St → Hp → Prop} {K : PySem.W.Frag}
theorem w_var {i : Nat} {v : V} (h : σ[i]? = some (some v)) (q : Q v H) : tVar i σ H Q := ⟨v, h, q⟩
theorem w_c {v : V} (q : Q v H) : tC v σ H Q := q
theorem w_op {r : R2} {ta tb : TE} (h : ta σ H fun x H1 => tb σ H1 fun y H2 => r x y H2 Q) : tOp r ta tb σ H Q := h
theorem w_un {r : V → Hp → VK → Prop} {ta : TE} (h : ta σ H fun x H1 => r x H1 Q) : tUn r ta σ H Q := h
theorem w_rI0 {g : Int → Int → V} {i j : Int} (q : Q (g i j) H) : rI0 g (.int i) (.int j) H Q := ⟨i, j, rfl, rfl, q⟩
theorem w_rI {C : Int → Int → Prop} {g : Int → Int → V} {i j : Int} (c : C i j) (q : Q (g i j) H) : rI C g (.int i) (.int j) H Q := ⟨i, j, rfl, rfl, c, q⟩
theorem w_rU {g : Int → V} {i : Int} (q : Q (g i) H) : rU g (.int i) H Q := ⟨i, rfl, q⟩
theorem w_eqS {x y : Str} (q : Q (.bl (decide (V.str x = V.str y))) H) : rEq (.str x) (.str y) H Q := ⟨rfl, q⟩
theorem w_neS {x y : Str} (q : Q (.bl (!decide (V.str x = V.str y))) H) : rNe (.str x) (.str y) H Q := ⟨rfl, q⟩
theorem w_eqI {x y : Int} (q : Q (.bl (decide (V.int x = V.int y))) H) : rEq (.int x) (.int y) H Q := ⟨rfl, q⟩
theorem w_neI {x y : Int} (q : Q (.bl (!decide (V.int x = V.int y))) H) : rNe (.int x) (.int y) H Q := ⟨rfl, q⟩
theorem w_nil {Q : List V → Hp → Prop} (q : Q [] H) : tNil σ H Q := q
theorem w_cons {ta : TE} {tr : TA} {Q : List V → Hp → Prop} (h : ta σ H fun x H1 => tr σ H1 fun xs H2 => Q (x :: xs) H2) : tCons ta tr σ H Q := h
theorem w_tup {t : TA} (h : t σ H fun xs H1 => xs.length ≤ sizeLine ∧ ∀ p, H1 p = none → Q (.ref p) (upd H1 p (.tup xs))) : tTup t σ H Q := h
theorem w_lst {t : TA} (h : t σ H fun xs H1 => xs.length ≤ sizeLine ∧ ∀ p, H1 p = none → Q (.ref p) (upd H1 p (.lst xs))) : tLst t σ H Q := h
theorem w_size {n : Nat} {R : Prop} (h : n ≤ 100000) (q : R) : n ≤ sizeLine ∧ R := ⟨sz_of h, q⟩
theorem w_cb {r : List V → Hp → VK → Prop} {t : TA} (h : t σ H fun vs H1 => r vs H1 Q) : tCB r t σ H Q := h
theorem w_call {sp : Sp} {E : XK} {t : TA} (h : t σ H fun vs H1 => sp vs H1 Q E) : tCall sp [] E t σ H Q := by
  unfold tCall
  have e : (fun (vs : List V) (H1 : Hp) => sp (vs ++ []) H1 Q E) = fun vs H1 => sp vs H1 Q E := by
    funext vs H1
    rw [List.append_nil]
  rw [e]
  exact h
theorem w_bm {T : String} {r : V → List V → Hp → VK → Prop} {to : TE} {t : TA} (h : to σ H fun x H1 => tyV K T x H1 ∧ t σ H1 fun xs H2 => r x xs H2 Q) : tBM K T r to t σ H Q := h
theorem w_bm0 {T : String} {r : V → List V → Hp → VK → Prop} {to : TE} (h : to σ H fun x H1 => tyV K T x H1 ∧ r x [] H1 Q) : tBM0 K T r to σ H Q := h
theorem w_tyL {p : Addr} {xs : List V} {R : Prop} (h : SqL K H p xs) (q : R) : tyV K "list" (.ref p) H ∧ R := ⟨.inl ⟨rfl, _, h⟩, q⟩
theorem w_tyS {z : Str} {R : Prop} (q : R) : tyV K "str" (.str z) H ∧ R := ⟨rfl, q⟩
theorem w_ixL {p : Addr} {xs : List V} {i : Int} {v : V} (h : SqL K H p xs) (e : atI xs i = some v) (q : Q v H) : rIxL K (.ref p) (.int i) H Q := ⟨p, xs, i, v, rfl, rfl, h, e, q⟩
theorem w_ixT {p : Addr} {xs : List V} {i : Int} {v : V} (h : SqT K H p xs) (e : atI xs i = some v) (q : Q v H) : rIxT K (.ref p) (.int i) H Q := ⟨p, xs, i, v, rfl, rfl, h, e, q⟩
theorem w_ixS {z : Str} {i : Int} {c : Nat} (h : z.length ≤ 100000) (e : atI z.cps.toList i = some c) (q : Q (.str ⟨#[c]⟩) H) : rIxS (.str z) (.int i) H Q := ⟨z, i, c, rfl, rfl, sz_of h, e, q⟩
theorem w_lenL {p : Addr} {ys : List V} {G : Addr → List V → Prop} (h : SqL K H p ys) (q : G p ys) : ∃ a zs, [V.ref p] = [V.ref a] ∧ (SqL K H a zs ∨ SqT K H a zs) ∧ G a zs := ⟨p, ys, rfl, .inl h, q⟩
theorem w_lenT {p : Addr} {ys : List V} {G : Addr → List V → Prop} (h : SqT K H p ys) (q : G p ys) : ∃ a zs, [V.ref p] = [V.ref a] ∧ (SqL K H a zs ∨ SqT K H a zs) ∧ G a zs := ⟨p, ys, rfl, .inr h, q⟩
theorem w_bl {b : Bool} {G : Bool → Prop} (q : G b) : ∃ k, V.bl b = V.bl k ∧ G k := ⟨b, rfl, q⟩
theorem w_int {b : Int} {G : Int → Prop} (q : G b) : ∃ k, V.int b = V.int k ∧ G k := ⟨b, rfl, q⟩
theorem w_ints {b : Int} {G : Int → Prop} (q : G b) : ∃ k, [V.int b] = [V.int k] ∧ G k := ⟨b, rfl, q⟩
theorem w_strs {b : Str} {G : Str → Prop} (q : G b) : ∃ k, [V.str b] = [V.str k] ∧ G k := ⟨b, rfl, q⟩
theorem w_str2 {a b : Str} {G : Str → Str → Prop} (q : G a b) : ∃ i j, V.str a = V.str i ∧ V.str b = V.str j ∧ G i j := ⟨a, b, rfl, rfl, q⟩
theorem w_isN {x : V} {R : Prop} (q : R) : V.non = V.non ∧ R := ⟨rfl, q⟩
theorem w_test {t : TE} {Q : Bool → Hp → Prop} (h : t σ H fun x H' => ∃ k, x = .bl k ∧ Q k H') : tTest t σ H Q := h
theorem w_tB {t : TE} {Q : Bool → Hp → Prop} (h : t σ H fun x H' => ∃ k, x = .bl k ∧ Q k H') : tB t σ H Q := h
theorem w_tand {t u : TT} {Q : Bool → Hp → Prop} (h : t σ H fun c H1 => if c = true then u σ H1 Q else Q false H1) : tAnd t u σ H Q := h
theorem w_tor {t u : TT} {Q : Bool → Hp → Prop} (h : t σ H fun c H1 => if c = true then Q true H1 else u σ H1 Q) : tOr t u σ H Q := h
theorem w_tnot {t : TT} {Q : Bool → Hp → Prop} (h : t σ H fun c H1 => Q (!c) H1) : tNot t σ H Q := h
theorem w_tyes {Q : Bool → Hp → Prop} (h : Q true H) : tYes σ H Q := h
theorem w_tif {t : TT} {ta tb : TE} (h : t σ H fun c H1 => if c = true then ta σ H1 Q else tb σ H1 Q) : tIf t ta tb σ H Q := h
theorem w_tSl {r : V → Option Int → Option Int → Hp → VK → Prop} {te : TE} {tl th : TO} (h : te σ H fun x H1 => tl σ H1 fun l H2 => th σ H2 fun u H3 => r x l u H3 Q) : tSl r te tl th σ H Q := h
theorem w_noPart {Q : Option Int → Hp → Prop} (h : Q none H) : tNoPart σ H Q := h
theorem w_part {t : TE} {Q : Option Int → Hp → Prop} (h : t σ H fun x H1 => ∃ i, x = .int i ∧ Q (some i) H1) : tPart t σ H Q := h
/-- statements -/
theorem w_seq {t u : TS} (h : t ⟨u ⟨nx, rt, bk, ct⟩, rt, bk, ct⟩ σ H) : tSeq t u ⟨nx, rt, bk, ct⟩ σ H := h
theorem w_asg {te : TE} {g : TG} (h : te σ H fun x H1 => g x σ H1 nx) : tAsg te g ⟨nx, rt, bk, ct⟩ σ H := h
theorem w_gName {i : Nat} {v : V} {Q : L2.St → Hp → Prop} (q : Q (σ.set i (some v)) H) : gName i v σ H Q := q
theorem w_gSub {to ti : TE} {t : TSet} {v : V} {Q : L2.St → Hp → Prop} (h : to σ H fun o H1 => ti σ H1 fun i H2 => t o i v H2 fun H3 => Q σ H3) : gSub to ti t v σ H Q := h
theorem w_drop {te : TE} (h : te σ H fun _ H1 => nx σ H1) : tDrop te ⟨nx, rt, bk, ct⟩ σ H := h
theorem w_ret {te : TE} (h : te σ H rt) : tRet te ⟨nx, rt, bk, ct⟩ σ H := h
theorem w_if {c : TT} {t u : TS} (h : c σ H fun b H1 => if b = true then t ⟨nx, rt, bk, ct⟩ σ H1 else u ⟨nx, rt, bk, ct⟩ σ H1) : tIfS c t u ⟨nx, rt, bk, ct⟩ σ H := h
theorem w_next (h : nx σ H) : tNext ⟨nx, rt, bk, ct⟩ σ H := h
theorem w_cont (h : ct σ H) : tCont ⟨nx, rt, bk, ct⟩ σ H := h
theorem w_brk (h : bk σ H) : tBreak ⟨nx, rt, bk, ct⟩ σ H := h
theorem w_par {i j : Nat} {ta : TA} (h : ta σ H fun vs H1 => ∃ v w, vs = [v, w] ∧ nx ((σ.set i (some v)).set j (some w)) H1) : tPar i j ta ⟨nx, rt, bk, ct⟩ σ H := h
theorem w_par3 {i j l : Nat} {ta : TA} (h : ta σ H fun vs H1 => ∃ u v w, vs = [u, v, w] ∧ nx (((σ.set i (some u)).set j (some v)).set l (some w)) H1) : tPar3 i j l ta ⟨nx, rt, bk, ct⟩ σ H := h
theorem w_two {a b : V} {G : V → V → Prop} (q : G a b) : ∃ v w, [a, b] = [v, w] ∧ G v w := ⟨a, b, rfl, q⟩
theorem w_three {a b c : V} {G : V → V → V → Prop} (q : G a b c) : ∃ u v w, [a, b, c] = [u, v, w] ∧ G u v w := ⟨a, b, c, rfl, q⟩
theorem w_append {l : Addr} {xs : List V} {y : V} (h : H l = some (.lst xs)) (z : xs.length < 100000) (q : Q .non (upd H l (.lst (xs ++ [y])))) : rAppend (.ref l) [y] H Q := ⟨l, xs, y, rfl, rfl, h, sz_lt z, q⟩
theorem w_setL {p : Addr} {xs : List V} {k : Int} {j : Nat} {v : V} {Q : Hp → Prop} (h : H p = some (.lst xs)) (e : ixN xs.length k = some j) (q : Q (upd H p (.lst (xs.set j v)))) : rSetL (.ref p) (.int k) v H Q := ⟨p, xs, k, j, rfl, rfl, h, e, q⟩

/-- what a for, a comprehension says of its iterator -/
def LoopJ (J : It) (g : TG) (tb : TS) (D : Ends) (σ : L2.St) (H : Hp) : Prop := ∃ W : Nat → Nat → L2.St → Hp → Prop, (∃ m, W 0 m σ H) ∧ ∀ i m σ H, W i m σ H →
  (J.stop i H ∧ D.nx σ H) ∨ (J.go i H ∧ ∃ N : L2.St → Hp → Prop, (∀ σ' H', N σ' H' → ∃ m', m' < m ∧ W (i + 1) m' σ' H') ∧ ∀ x H', J.yld i H x H' → g x σ H' fun σ2 H2 => tb { D with nx := N, ct := N, bk := D.nx } σ2 H2)
theorem w_for {wi : TI} {g : TG} {tb : TS} {D : Ends} (h : wi σ H fun J H1 => LoopJ J g tb D σ H1) : tFor wi g tb D σ H := h
theorem w_iR1 {ta : TA} {R : It → Hp → Prop} (h : ta σ H fun vs H1 => ∃ j : Int, vs = [.int j] ∧ -(2 ^ 62) ≤ j ∧ j < 2 ^ 62 ∧ R (Itr 0 j.toNat) H1) : iRng1 ta σ H R := h
theorem w_r1 {n : Int} {G : Int → Prop} (h1 : -100000 ≤ n ∧ n ≤ 100000) (q : G n) : ∃ j : Int, [V.int n] = [.int j] ∧ -(2 ^ 62) ≤ j ∧ j < 2 ^ 62 ∧ G j := ⟨n, rfl, by omega, by omega, q⟩
theorem w_iR2 {ta : TA} {R : It → Hp → Prop} (h : ta σ H fun vs H1 => ∃ i j : Int, vs = [.int i, .int j] ∧ (-(2 ^ 62) ≤ i ∧ i < 2 ^ 62 ∧ -(2 ^ 62) ≤ j ∧ j < 2 ^ 62) ∧ R (Itr i (j - i).toNat) H1) : iRng2 ta σ H R := h
theorem w_r2 {m n : Int} {G : Int → Int → Prop} (h1 : -100000 ≤ m ∧ m ≤ 100000 ∧ -100000 ≤ n ∧ n ≤ 100000) (q : G m n) : ∃ i j : Int, [V.int m, V.int n] = [.int i, .int j] ∧ (-(2 ^ 62) ≤ i ∧ i < 2 ^ 62 ∧ -(2 ^ 62) ≤ j ∧ j < 2 ^ 62) ∧ G i j := ⟨m, n, rfl, by omega, q⟩
theorem w_iL {tl : TE} {R : It → Hp → Prop} (h : tl σ H fun x H1 => ∃ a, x = .ref a ∧ (∃ xs, SqL K H1 a xs) ∧ R (Itl K a) H1) : iList K tl σ H R := h
theorem w_iT {tl : TE} {R : It → Hp → Prop} (h : tl σ H fun x H1 => ∃ a, x = .ref a ∧ (∃ xs, SqT K H1 a xs) ∧ R (Itt K a) H1) : iTup K tl σ H R := h
theorem w_itL {a : Addr} {xs : List V} {G : Addr → Prop} (h : SqL K H a xs) (q : G a) : ∃ b, V.ref a = .ref b ∧ (∃ xs, SqL K H b xs) ∧ G b := ⟨a, rfl, ⟨xs, h⟩, q⟩
theorem w_itT {a : Addr} {xs : List V} {G : Addr → Prop} (h : SqT K H a xs) (q : G a) : ∃ b, V.ref a = .ref b ∧ (∃ xs, SqT K H b xs) ∧ G b := ⟨a, rfl, ⟨xs, h⟩, q⟩
theorem l_list {a : Addr} {xs : List V} {g : TG} {tb : TS} (Pv : Nat → L2.St → Hp → Prop) (h0 : Pv 0 σ H) (hl : ∀ i σ H, i ≤ xs.length → Pv i σ H → SqL K H a xs)
    (hs : ∀ i x σ H, xs[i]? = some x → Pv i σ H → g x σ H fun σ2 H2 => tb ⟨Pv (i + 1), rt, nx, Pv (i + 1)⟩ σ2 H2) (hd : ∀ σ H, Pv xs.length σ H → nx σ H) : LoopJ (Itl K a) g tb ⟨nx, rt, bk, ct⟩ σ H := for_list Pv h0 hl hs hd
theorem l_tup {a : Addr} {xs : List V} {g : TG} {tb : TS} (Pv : Nat → L2.St → Hp → Prop) (h0 : Pv 0 σ H) (hl : ∀ i σ H, i ≤ xs.length → Pv i σ H → SqT K H a xs)
    (hs : ∀ i x σ H, xs[i]? = some x → Pv i σ H → g x σ H fun σ2 H2 => tb ⟨Pv (i + 1), rt, nx, Pv (i + 1)⟩ σ2 H2) (hd : ∀ σ H, Pv xs.length σ H → nx σ H) : LoopJ (Itt K a) g tb ⟨nx, rt, bk, ct⟩ σ H := for_tup Pv h0 hl hs hd
theorem l_range {n : Nat} {g : TG} {tb : TS} (Pv : Nat → L2.St → Hp → Prop) (h0 : Pv 0 σ H)
    (hs : ∀ (i : Nat) σ H, i < n → Pv i σ H → g (.int (i : Int)) σ H fun σ2 H2 => tb ⟨Pv (i + 1), rt, nx, Pv (i + 1)⟩ σ2 H2) (hd : ∀ σ H, Pv n σ H → nx σ H) : LoopJ (Itr 0 n) g tb ⟨nx, rt, bk, ct⟩ σ H :=
  for_range (lo := 0) Pv h0 (fun i σ' H' hi p => by
    have e0 : (0 : Int) + (i : Int) = (i : Int) := Int.zero_add _
    rw [e0]
    exact hs i σ' H' hi p) hd
def CompJ (J : It) (g : TG) (tt : TT) (te : TE) (vs : List Nat) (σ : L2.St) (H1 : Hp) (Q : VK) : Prop := ∀ D, H1 D = none → ∃ W : Nat → Nat → Hp → Prop, (∃ m, W 0 m (upd H1 D (.lst []))) ∧ ∀ i m H, W i m H →
  (J.stop i H ∧ Q (.ref D) H) ∨ (J.go i H ∧ ∃ Nx : Hp → Prop, (∀ H', Nx H' → ∃ m', m' < m ∧ W (i + 1) m' H') ∧ ∀ x H', J.yld i H x H' → g x (wipe σ vs) H' fun σ2 H2 => wipe σ2 vs = wipe σ vs ∧ tt σ2 H2 fun b H3 =>
    if b = true then te σ2 H3 fun y H4 => ∃ acc, H4 D = some (.lst acc) ∧ acc.length < sizeLine ∧ Nx (upd H4 D (.lst (acc ++ [y]))) else Nx H3)
theorem w_lc {wi : TI} {g : TG} {tt : TT} {te : TE} {vs : List Nat} (h : wi σ H fun J H1 => CompJ J g tt te vs σ H1 Q) : tLc wi g tt te vs σ H Q := h
end

/-! ### what a comprehension gives: each item is E, which the new list does not touch -/
def Keeps (E : V → Hp → Prop) : Prop := (∀ y H H', Ex H H' → E y H → E y H') ∧ ∀ y H D xs ys, H D = some (.lst xs) → E y H → E y (upd H D (.lst ys))
section
variable {σ : L2.St} {H : Hp} {Q : VK} {K : PySem.W.Frag} {te : TE} {j : Nat} {vs : List Nat}
theorem c_range {n : Nat} (E : Nat → V → Hp → Prop) (hE : ∀ i, Keeps (E i)) (hn : n ≤ 50000) (hw : ∀ x, wipe ((wipe σ vs).set j (some x)) vs = wipe σ vs)
    (hb : ∀ (i : Nat) H' Q', i < n → Ex H H' → (∀ y H4, Ex H' H4 → E i y H4 → Q' y H4) → te ((wipe σ vs).set j (some (.int (i : Int)))) H' Q')
    (q : ∀ p ys H2, H p = none → Ex H H2 → H2 p = some (.lst ys) → ys.length = n → (∀ i y, ys[i]? = some y → E i y H2) → Q (.ref p) H2) : CompJ (Itr 0 n) (gName j) tYes te vs σ H Q := by
  intro D hD
  refine lc_range (lo := 0) (fun i H' => Ex H H' ∧ ∃ acc : List V, H' D = some (.lst acc) ∧ acc.length = i ∧ ∀ k y, acc[k]? = some y → E k y H') ⟨Ex.new hD, [], upd_same, rfl, fun k y h => by simp at h⟩ (fun i H' hi ⟨e, acc, ha, hl, hy⟩ => ?_) fun H' ⟨e, acc, ha, hl, hy⟩ => q D acc H' hD e ha hl hy
  have e0 : (0 : Int) + (i : Int) = (i : Int) := Int.zero_add _
  rw [e0]
  refine ⟨hw _, ?_⟩
  show te _ H' _
  refine hb i H' _ hi e fun y H4 e4 hE4 => ⟨acc, e4 _ _ ha, sz_lt (by omega), Ex.mut (e.trans e4) hD, acc ++ [y], upd_same, by rw [List.length_append, hl]; rfl, fun k z hk => ?_⟩
  by_cases hlt : k < acc.length
  · rw [List.getElem?_append_left hlt] at hk
    exact (hE k).2 _ _ _ _ _ (e4 _ _ ha) ((hE k).1 _ _ _ e4 (hy k z hk))
  · have hk2 : k = acc.length := by
      have := (List.getElem?_eq_some_iff.mp hk).1
      simp at this
      omega
    subst hk2
    rw [List.getElem?_append_right (Nat.le_refl _), Nat.sub_self] at hk
    have hz : y = z := Option.some.inj hk
    subst hz
    rw [hl]
    exact (hE i).2 _ _ _ _ _ (e4 _ _ ha) hE4
theorem c_list {a : Addr} {xs : List V} (E : Nat → V → Hp → Prop) (hE : ∀ i, Keeps (E i)) (hn : xs.length ≤ 50000) (hx : SqL K H a xs) (hw : ∀ x, wipe ((wipe σ vs).set j (some x)) vs = wipe σ vs)
    (hb : ∀ (i : Nat) x H' Q', xs[i]? = some x → Ex H H' → (∀ y H4, Ex H' H4 → E i y H4 → Q' y H4) → te ((wipe σ vs).set j (some x)) H' Q')
    (q : ∀ p ys H2, H p = none → Ex H H2 → H2 p = some (.lst ys) → ys.length = xs.length → (∀ i y, ys[i]? = some y → E i y H2) → Q (.ref p) H2) : CompJ (Itl K a) (gName j) tYes te vs σ H Q := by
  intro D hD
  refine lc_list (K := K) (a := a) (xs := xs) (fun i H' => Ex H H' ∧ ∃ acc : List V, H' D = some (.lst acc) ∧ acc.length = i ∧ ∀ k y, acc[k]? = some y → E k y H') ⟨Ex.new hD, [], upd_same, rfl, fun k y h => by simp at h⟩ (fun i H' _ p => ex_l p.1 hx) (fun i x H' hi ⟨e, acc, ha, hl, hy⟩ => ?_) fun H' ⟨e, acc, ha, hl, hy⟩ => q D acc H' hD e ha hl hy
  have hi' : i < xs.length := (List.getElem?_eq_some_iff.mp hi).1
  refine ⟨hw _, ?_⟩
  show te _ H' _
  refine hb i x H' _ hi e fun y H4 e4 hE4 => ⟨acc, e4 _ _ ha, sz_lt (by omega), Ex.mut (e.trans e4) hD, acc ++ [y], upd_same, by rw [List.length_append, hl]; rfl, fun k z hk => ?_⟩
  by_cases hlt : k < acc.length
  · rw [List.getElem?_append_left hlt] at hk
    exact (hE k).2 _ _ _ _ _ (e4 _ _ ha) ((hE k).1 _ _ _ e4 (hy k z hk))
  · have hk2 : k = acc.length := by
      have := (List.getElem?_eq_some_iff.mp hk).1
      simp at this
      omega
    subst hk2
    rw [List.getElem?_append_right (Nat.le_refl _), Nat.sub_self] at hk
    have hz : y = z := Option.some.inj hk
    subst hz
    rw [hl]
    exact (hE i).2 _ _ _ _ _ (e4 _ _ ha) hE4
end

/-! ### a text, so many times -/
def rMulS : R2 := fun x y H Q => ∃ (z : Str) (n : Int), x = .str z ∧ y = .int n ∧ z.length ≤ 1000 ∧ -1000 ≤ n ∧ n ≤ 1000 ∧ ∀ r : Str, r.length = z.length * n.toNat → r = Txt.mul z n → Q (.str r) H
theorem cps_fold (x : Array Nat) : ∀ (n : Nat) (a : Array Nat), ((List.replicate n x).foldl (· ++ ·) a).size = a.size + x.size * n
  | 0, a => by simp
  | n + 1, a => by
    rw [List.replicate_succ, List.foldl_cons, cps_fold x n, Array.size_append, Nat.mul_succ]
    omega
theorem mul_len (z : Str) (n : Int) : (Txt.mul z n).length = z.length * n.toNat := by
  unfold Txt.mul
  by_cases h : n < 1
  · rw [if_pos h]
    have : n.toNat = 0 := by omega
    rw [this]
    rfl
  · rw [if_neg h]
    by_cases h2 : (n == 1 || z.length == 0) = true
    · rw [if_pos h2]
      rcases Bool.or_eq_true_iff.mp h2 with h3 | h3
      · have : n = 1 := by simpa using h3
        subst this
        show z.length = z.length * 1
        omega
      · have : z.length = 0 := by simpa using h3
        rw [this]
        omega
    · rw [if_neg h2]
      show ((List.replicate n.toNat z.cps).foldl (· ++ ·) #[]).size = z.cps.size * n.toNat
      rw [cps_fold]
      simp
section
variable {X : Cx}
theorem op_mul_str : OpR X (binaryOp .Mult) rMulS := by
  intro pins s σ H x y v u Q I rx ry h
  obtain ⟨z, n, rfl, rfl, hz, h1, h2, q⟩ := h
  obtain ⟨t, rfl⟩ := rx
  obtain ⟨t', rfl⟩ := ry
  refine SB.mul ⟨?_, fun h3 _ => ?_, fun h3 _ => ?_⟩ fun t' k => ⟨.str _, H, ?_, ⟨_, rfl⟩, q _ (mul_len z n) rfl⟩
  · have a1 : ¬ n < -(2 ^ 63 : Int) := by omega
    have a2 : ¬ n ≥ 2 ^ 63 := by omega
    rw [decide_eq_false a1, decide_eq_false a2]
    rfl
  · have : (1000 : Int) ≤ (2 ^ 63 - 1) / n := by
      rw [Int.le_ediv_iff_mul_le (by omega)]
      omega
    omega
  · have hm : z.length * n.toNat ≤ 1000000 := by
      have a : z.length * n.toNat ≤ 1000 * 1000 := Nat.mul_le_mul hz (by omega)
      omega
    exact decide_eq_false (by have : sizeLine ≥ 1000000 := by decide
                              omega)
  · exact I.tok _
end

/-! ### the pen: a list of the script, its place, its cell: one object that a draw does not change -/
def PenAt (a sc : Addr) (h : Heap) : Prop := ∃ (i c : Int) (its : List Value) (n : Nat), 0 ≤ i ∧ Vals [.ref sc, .int i, .int c] its ∧ h.get? a = some { cls := .type "list", data := .seq its.toArray n }
def PenO (a sc : Addr) : HO := .ext (PenAt a sc)
/-- a place where a fixed pen becomes its list -/
def tPenOpen (t : TS) : TS := fun D σ H => ∃ a sc, H a = some (PenO a sc) ∧ ∀ i c : Int, 0 ≤ i → t D σ (upd H a (.lst [.ref sc, .int i, .int c]))
def tPenShut (t : TS) : TS := fun D σ H => ∃ a sc i c, H a = some (.lst [.ref sc, .int i, .int c]) ∧ 0 ≤ i ∧ t D σ (upd H a (PenO a sc))
section
variable {X : Cx} {ss : List Stmt} {t : TS}
theorem pss_open (h : PSs X ss t) : PSs X ss (tPenOpen t) := by
  refine ⟨fun pins s σ H D I hh => ?_⟩
  obtain ⟨a, sc, ha, k⟩ := hh
  obtain ⟨⟨i, c, its, n, i0, vs, ho⟩, _⟩ := I.hok a _ ha
  have J : Inv X pins σ (upd H a (.lst [.ref sc, .int i, .int c])) { s with heap := s.heap, toks := s.toks } :=
    I.write (e := a) (by rw [ha]; exact True.intro) (.inl rfl) (fun b u _ q => q) ⟨_, ho⟩ ⟨by show 3 ≤ sizeLine; decide, its, n, vs, ho⟩
  exact h.run pins s σ _ D J (k i c i0)
theorem pss_shut (h : PSs X ss t) : PSs X ss (tPenShut t) := by
  refine ⟨fun pins s σ H D I hh => ?_⟩
  obtain ⟨a, sc, i, c, ha, i0, k⟩ := hh
  obtain ⟨_, its, n, vs, ho⟩ := I.hok a _ ha
  have J : Inv X pins σ (upd H a (PenO a sc)) { s with heap := s.heap, toks := s.toks } :=
    I.write (e := a) (by rw [ha]; exact True.intro) (.inl rfl) (fun b u _ q => q) ⟨_, ho⟩
      ⟨⟨i, c, its, n, i0, vs, ho⟩, ⟨_, ho⟩, fun h1 h2 ⟨i, c, its, n, i0, vs, ho⟩ st => ⟨i, c, its, n, i0, vs, st _ ho⟩⟩
  exact h.run pins s σ _ D J k
end

/-! ### words for the reading -/
theorem gen1 {H H2 : Hp} {p : Addr} {o : HO} (hp : H p = none) (e : upd H p o = H2) : Ex H H2 ∧ H2 p = some o := by
  subst e
  exact ⟨Ex.new hp, upd_same⟩
def Mu (l : Addr) (H H' : Hp) : Prop := ∀ a o, a ≠ l → H a = some o → H' a = some o
theorem gen2 {H H2 : Hp} {p : Addr} {o : HO} (e : upd H p o = H2) : Mu p H H2 ∧ H2 p = some o := by
  subst e
  exact ⟨fun a u ne h => by rw [upd_ne ne]; exact h, upd_same⟩
theorem Ex.app {H H' : Hp} {a : Addr} {o : HO} (e : Ex H H') (h : H a = some o) : H' a = some o := e a o h
theorem Mu.ex {H0 H H' : Hp} {l : Addr} (m : Mu l H H') (e : Ex H0 H) (h : H0 l = none) : Ex H0 H' := fun a o q => m a o (ne_of_none q h) (e a o q)

section
variable {σ : L2.St} {H H' : Hp} {Q : VK} {nx : L2.St → Hp → Prop} {rt : VK} {bk ct : L2.St → Hp → Prop} {K : PySem.W.Frag} {a sc : Addr}
theorem w_cut {t u : TS} (Mid : L2.St → Hp → Prop) (h : t ⟨Mid, rt, bk, ct⟩ σ H) (k : ∀ σ' H', Mid σ' H' → u ⟨nx, rt, bk, ct⟩ σ' H') : tCut t u ⟨nx, rt, bk, ct⟩ σ H := ⟨Mid, h, k⟩
theorem w_open {t : TS} (h : H a = some (PenO a sc)) (k : ∀ i c : Int, 0 ≤ i → t ⟨nx, rt, bk, ct⟩ σ (upd H a (.lst [.ref sc, .int i, .int c]))) : tPenOpen t ⟨nx, rt, bk, ct⟩ σ H := ⟨a, sc, h, k⟩
theorem w_shut {t : TS} {i c : Int} (h : H a = some (.lst [.ref sc, .int i, .int c])) (h0 : 0 ≤ i) (k : t ⟨nx, rt, bk, ct⟩ σ (upd H a (PenO a sc))) : tPenShut t ⟨nx, rt, bk, ct⟩ σ H := ⟨a, sc, i, c, h, h0, k⟩
theorem Mu.trans {l : Addr} {H1 H2 H3 : Hp} (a : Mu l H1 H2) (b : Mu l H2 H3) : Mu l H1 H3 := fun x o n h => b x o n (a x o n h)
theorem Mu.of {l : Addr} {H1 H2 : Hp} (e : Ex H1 H2) : Mu l H1 H2 := fun x o _ h => e x o h
/-- a list that is no fixed pen stays while the pen moves -/
theorem Mu.seq {f : Heap → Prop} {b : Addr} {xs : List V} (m : Mu a H H') (h : H a = some (.ext f)) (q : SqL K H b xs) : SqL K H' b xs := by
  rcases q with (q | ⟨o, q⟩) | q
  · exact .inl (.inl (m _ _ (ne_of q h (by intro z; cases z)) q))
  · exact .inl (.inr ⟨o, m _ _ (ne_of q h (by intro z; cases z)) q⟩)
  · exact .inr q
end

theorem at_pos {xs : List V} {i : Int} (h0 : 0 ≤ i) (h1 : i < (xs.length : Int)) : ∃ v, atI xs i = some v ∧ xs[i.toNat]? = some v := by
  obtain ⟨n, rfl⟩ := Int.eq_ofNat_of_zero_le h0
  have h : n < xs.length := by omega
  exact ⟨xs[n], atI_nat (List.getElem?_eq_getElem h), List.getElem?_eq_getElem h⟩
theorem at_ints {ns : List Int} {i : Int} (h0 : 0 ≤ i) (h1 : i < (ns.length : Int)) : ∃ n, atI (ns.map V.int) i = some (.int n) := by
  obtain ⟨v, h, e⟩ := at_pos (xs := ns.map V.int) h0 (by rw [List.length_map]; exact h1)
  rw [List.getElem?_map] at e
  cases q : ns[i.toNat]? with
  | none =>
    rw [q] at e
    cases e
  | some n =>
    rw [q] at e
    exact ⟨n, by rw [h, ← e]; rfl⟩
theorem at_strs {ws : List Str} {i : Int} (h0 : 0 ≤ i) (h1 : i < (ws.length : Int)) : ∃ w, w ∈ ws ∧ atI (ws.map V.str) i = some (.str w) := by
  obtain ⟨v, h, e⟩ := at_pos (xs := ws.map V.str) h0 (by rw [List.length_map]; exact h1)
  rw [List.getElem?_map] at e
  cases q : ws[i.toNat]? with
  | none =>
    rw [q] at e
    cases e
  | some n =>
    rw [q] at e
    exact ⟨n, List.mem_of_getElem? q, by rw [h, ← e]; rfl⟩
theorem at_0 {α : Type} {a : α} {r : List α} : atI (a :: r) 0 = some a := atI_nat (j := 0) rfl
theorem at_1 {α : Type} {a b : α} {r : List α} : atI (a :: b :: r) 1 = some b := atI_nat (j := 1) rfl
theorem at_2 {α : Type} {a b c : α} {r : List α} : atI (a :: b :: c :: r) 2 = some c := atI_nat (j := 2) rfl
theorem at_3 {α : Type} {a b c d : α} {r : List α} : atI (a :: b :: c :: d :: r) 3 = some d := atI_nat (j := 3) rfl
theorem at_4 {α : Type} {a b c d e : α} {r : List α} : atI (a :: b :: c :: d :: e :: r) 4 = some e := atI_nat (j := 4) rfl
theorem at_5 {α : Type} {a b c d e f : α} {r : List α} : atI (a :: b :: c :: d :: e :: f :: r) 5 = some f := atI_nat (j := 5) rfl
theorem at_6 {α : Type} {a b c d e f g : α} {r : List α} : atI (a :: b :: c :: d :: e :: f :: g :: r) 6 = some g := atI_nat (j := 6) rfl
theorem at_7 {α : Type} {a b c d e f g h : α} {r : List α} : atI (a :: b :: c :: d :: e :: f :: g :: h :: r) 7 = some h := atI_nat (j := 7) rfl
theorem at_8 {α : Type} {a b c d e f g h i : α} {r : List α} : atI (a :: b :: c :: d :: e :: f :: g :: h :: i :: r) 8 = some i := atI_nat (j := 8) rfl
theorem at_9 {α : Type} {a b c d e f g h i j : α} {r : List α} : atI (a :: b :: c :: d :: e :: f :: g :: h :: i :: j :: r) 9 = some j := atI_nat (j := 9) rfl
theorem atm_1 {α : Type} {a : α} : atI [a] (-1) = some a := atI_last [] a
theorem atm_2 {α : Type} {a b : α} : atI [a, b] (-1) = some b := atI_last [a] b
theorem atm_3 {α : Type} {a b c : α} : atI [a, b, c] (-1) = some c := atI_last [a, b] c
theorem atm_4 {α : Type} {a b c d : α} : atI [a, b, c, d] (-1) = some d := atI_last [a, b, c] d
theorem atm_5 {α : Type} {a b c d e : α} : atI [a, b, c, d, e] (-1) = some e := atI_last [a, b, c, d] e
theorem atm_6 {α : Type} {a b c d e f : α} : atI [a, b, c, d, e, f] (-1) = some f := atI_last [a, b, c, d, e] f
theorem pen_ex {a sc : Addr} {H H2 : Hp} (m : Mu a H H2) (h : H a = some (PenO a sc)) : Ex H (upd H2 a (PenO a sc)) := fun b o hb => by
  by_cases e : b = a
  · subst e
    rw [upd_same, ← hb, h]
  · rw [upd_ne e]
    exact m b o e hb

/-! ### texts of which the length alone is told, and that their signs are signs -/
abbrev TxtOk (n : Nat) (z : Str) : Prop := z.length ≤ n ∧ PySem.PyData.strOk z = true
theorem app_len (a b : Str) : (a ++ b).length = a.length + b.length := by
  show (a.cps ++ b.cps).size = _
  rw [Array.size_append]
  rfl
theorem app_ok {a b : Str} (ha : PySem.PyData.strOk a = true) (hb : PySem.PyData.strOk b = true) : PySem.PyData.strOk (a ++ b) = true := by
  show ((a.cps ++ b.cps).all _) = true
  rw [Array.all_append]
  exact Bool.and_eq_true_iff.mpr ⟨ha, hb⟩
theorem reps_ok {x : Array Nat} {f : Nat → Bool} (hx : x.all f = true) : ∀ (n : Nat) (a : Array Nat), a.all f = true → ((List.replicate n x).foldl (· ++ ·) a).all f = true
  | 0, a, h => h
  | n + 1, a, h => by
    rw [List.replicate_succ, List.foldl_cons]
    refine reps_ok hx n _ ?_
    rw [Array.all_append]
    exact Bool.and_eq_true_iff.mpr ⟨h, hx⟩
theorem mul_ok {z : Str} {n : Int} (hz : PySem.PyData.strOk z = true) : PySem.PyData.strOk (Txt.mul z n) = true := by
  unfold Txt.mul
  split
  · decide +kernel
  · split
    · exact hz
    · exact reps_ok hz _ _ (by simp)
def rAddA : R2 := fun x y H Q => ∃ (i j : Str), x = .str i ∧ y = .str j ∧ i.length + j.length ≤ 100000 ∧ ∀ r : Str, r = i ++ j → Q (.str r) H
def rStrA : List V → Hp → VK → Prop := fun xs H Q => ∃ i : Int, xs = [.int i] ∧ (0 ≤ i ∧ i < 1000) ∧ ∀ r : Str, TxtOk 3 r → Q (.str r) H
theorem str_small : ∀ n : Nat, n < 1000 → TxtOk 3 (Str.ofString (toString (n : Int))) := by decide +kernel
section
variable {X : Cx} {H : Hp} {Q : VK}
theorem op_addA : OpR X (binaryOp .Add) rAddA := fun pins s σ H x y v u Q I rx ry ⟨i, j, e1, e2, hl, q⟩ => op_add_str pins s σ H x y v u Q I rx ry ⟨i, j, e1, e2, sz_of hl, q _ rfl⟩
theorem cr_strA : CallR X (.type "str") rStrA := fun pins s σ H xs us Q I r ⟨i, e, hi, q⟩ => by
  refine call_str_int pins s σ H xs us Q I r ⟨i, e, ?_, q _ ?_⟩
  · have h : i.natAbs < 2 ^ 1920 := Nat.lt_of_lt_of_le (show i.natAbs < 1000 by omega) (by decide +kernel)
    by_cases z : i.natAbs = 0
    · rw [z]
      decide +kernel
    · exact (Nat.log2_lt z).mpr h
  · obtain ⟨n, rfl⟩ := Int.eq_ofNat_of_zero_le hi.1
    exact str_small n (by omega)
theorem w_addA {i j : Str} {bi bj : Nat} (hi : TxtOk bi i) (hj : TxtOk bj j) (h : bi + bj ≤ 100000) (q : ∀ r : Str, TxtOk (bi + bj) r → Q (.str r) H) : rAddA (.str i) (.str j) H Q :=
  ⟨i, j, rfl, rfl, Nat.le_trans (Nat.add_le_add hi.1 hj.1) h, fun r hr => q r ⟨by rw [hr, app_len]; exact Nat.add_le_add hi.1 hj.1, by rw [hr]; exact app_ok hi.2 hj.2⟩⟩
theorem w_mulS {z : Str} {n : Int} (hz : TxtOk 10 z) (h : -1000 ≤ n ∧ n ≤ 50) (q : ∀ r : Str, TxtOk 500 r → Q (.str r) H) : rMulS (.str z) (.int n) H Q := ⟨z, n, rfl, rfl, Nat.le_trans hz.1 (by decide), h.1, by omega, fun r hr er => q r ⟨by
  have a : z.length * n.toNat ≤ 10 * 50 := Nat.mul_le_mul hz.1 (by omega)
  omega, by rw [er]; exact mul_ok hz.2⟩⟩
theorem sign_ok {z : Str} {c : Nat} {i : Nat} (hz : PySem.PyData.strOk z = true) (h : z.cps.toList[i]? = some c) : TxtOk 1 ⟨#[c]⟩ := by
  refine ⟨Nat.le_refl 1, ?_⟩
  have m : c ∈ z.cps := Array.mem_def.mpr (List.mem_of_getElem? h)
  have q : decide (c < 0x110000) = true := Array.all_eq_true'.mp hz c m
  show (#[c] : Array Nat).all (fun x => decide (x < 0x110000)) = true
  simpa using q
theorem w_ixSA {z : Str} {i : Int} {n : Nat} (h : TxtOk n z) (hn : n ≤ 100000) (h0 : 0 ≤ i) (h1 : i < (z.length : Int)) (q : ∀ r : Str, TxtOk 1 r → Q (.str r) H) : rIxS (.str z) (.int i) H Q := by
  obtain ⟨k, rfl⟩ := Int.eq_ofNat_of_zero_le h0
  have lt : k < z.cps.toList.length := by
    have : z.length = z.cps.toList.length := by simp [Str.length]
    omega
  exact ⟨z, k, _, rfl, rfl, sz_of (Nat.le_trans h.1 hn), atI_nat (List.getElem?_eq_getElem lt), q _ (sign_ok h.2 (List.getElem?_eq_getElem lt))⟩
theorem w_strA {i : Int} (h : 0 ≤ i ∧ i < 1000) (q : ∀ r : Str, TxtOk 3 r → Q (.str r) H) : rStrA [.int i] H Q := ⟨i, rfl, h, q⟩
theorem w_cat {l b : Addr} {xs zs : List V} (hl : H l = some (.lst xs)) (hb : H b = some (.lst zs)) (h : xs.length + zs.length ≤ 100000) (q : ∀ p, H p = none → Q (.ref p) (upd H p (.lst (xs ++ zs)))) : rCat (.ref l) (.ref b) H Q := ⟨l, b, xs, zs, rfl, rfl, hl, hb, sz_of h, q⟩
theorem w_rep {l : Addr} {xs : List V} {k : Int} (hl : H l = some (.lst xs)) (h : -1000 ≤ k ∧ k ≤ 1000) (h2 : xs.length ≤ 100) (q : ∀ p, H p = none → Q (.ref p) (upd H p (.lst (List.flatten (List.replicate k.toNat xs))))) : rRep (.ref l) (.int k) H Q := by
  refine ⟨l, k, xs, rfl, rfl, hl, by omega, by omega, ?_, ?_⟩
  · have a : xs.length * k.toNat ≤ 100 * 1000 := Nat.mul_le_mul h2 (by omega)
    exact sz_of (by omega)
  · exact q
end
/-- a place of a sign -/
theorem at_sign {z : Str} {i : Int} (h0 : 0 ≤ i) (h1 : i < (z.length : Int)) : ∃ c, atI z.cps.toList i = some c := by
  obtain ⟨n, rfl⟩ := Int.eq_ofNat_of_zero_le h0
  have h : n < z.cps.toList.length := by
    have : z.length = z.cps.toList.length := by simp [Str.length]
    omega
  exact ⟨_, atI_nat (List.getElem?_eq_getElem h)⟩

section
variable {K : PySem.W.Frag} {H : Hp} {Q : VK}
/-- some item -/
theorem w_ixLP {p : Addr} {xs : List V} {i : Int} (h : SqL K H p xs) (h0 : 0 ≤ i) (h1 : i < (xs.length : Int)) (q : ∀ v, v ∈ xs → Q v H) : rIxL K (.ref p) (.int i) H Q := by
  obtain ⟨v, e, e2⟩ := at_pos h0 h1
  exact w_ixL h e (q v (List.mem_of_getElem? e2))
/-- all are texts, none too long -/
def Short (n : Nat) (v : V) : Prop := ∃ z : Str, v = .str z ∧ TxtOk n z
theorem short_of {n m : Nat} {z : Str} (h : TxtOk n z) (hm : n ≤ m) : Short m (.str z) := ⟨z, rfl, Nat.le_trans h.1 hm, h.2⟩
theorem short_lit {s : String} {n : Nat} (h : TxtOk 60 (Str.ofString s)) (hm : 60 ≤ n) : Short n (.str (Str.ofString s)) := ⟨_, rfl, Nat.le_trans h.1 hm, h.2⟩
end
theorem ex_tr {H H1 H2 : Hp} (b : Ex H1 H2) (a : Ex H H1) : Ex H H2 := a.trans b
theorem w_tupL {K : PySem.W.Frag} {H : Hp} {p : Addr} {ys : List V} {G : Addr → List V → Addr → Prop} {R : Addr → List V → Prop} (h : SqL K H p ys) (q : ∀ l, H l = none → G p ys l) :
    ∃ a zs, [V.ref p] = [V.ref a] ∧ ((SqL K H a zs ∧ ∀ l, H l = none → G a zs l) ∨ R a zs) := ⟨p, ys, rfl, .inl ⟨h, q⟩⟩
theorem w_lstL {K : PySem.W.Frag} {H : Hp} {p : Addr} {ys : List V} {G : Addr → List V → Addr → Prop} (h : SqL K H p ys) (q : ∀ l, H l = none → G p ys l) :
    ∃ a zs, [V.ref p] = [V.ref a] ∧ (SqL K H a zs ∨ SqT K H a zs) ∧ ∀ l, H l = none → G a zs l := ⟨p, ys, rfl, .inl h, q⟩
theorem w_lstT {K : PySem.W.Frag} {H : Hp} {p : Addr} {ys : List V} {G : Addr → List V → Addr → Prop} (h : SqT K H p ys) (q : ∀ l, H l = none → G p ys l) :
    ∃ a zs, [V.ref p] = [V.ref a] ∧ (SqL K H a zs ∨ SqT K H a zs) ∧ ∀ l, H l = none → G a zs l := ⟨p, ys, rfl, .inr h, q⟩
theorem Mu.app {l a : Addr} {H H' : Hp} {o : HO} (m : Mu l H H') (ne : a ≠ l) (h : H a = some o) : H' a = some o := m a o ne h

/-! ### a comprehension whose items are new lists -/
def NewLists (E : Nat → List V → Prop) (H : Hp) (p : Addr) (qs : List Addr) (H2 : Hp) : Prop := qs.Nodup ∧ ∀ i q, qs[i]? = some q → q ≠ p ∧ H q = none ∧ ∃ ys, H2 q = some (.lst ys) ∧ E i ys
theorem newLists_step {E : Nat → List V → Prop} {H H' H4 : Hp} {D q : Addr} {qs : List Addr} {ys acc : List V} (h : NewLists E H D qs H') (eH : Ex H H') (hD : H' D = some (.lst acc)) (hq : H' q = none) (e : Ex H' H4) (hy : H4 q = some (.lst ys)) (hE : E qs.length ys) (o : HO) :
    NewLists E H D (qs ++ [q]) (upd H4 D o) := by
  have nD : q ≠ D := fun z => by
    rw [z, hD] at hq
    cases hq
  have old : ∀ i r, qs[i]? = some r → r ≠ q := fun i r hr z => by
    obtain ⟨_, _, zs, h3, _⟩ := h.2 i r hr
    rw [z, hq] at h3
    cases h3
  refine ⟨?_, fun i r hr => ?_⟩
  · refine List.nodup_append.mpr ⟨h.1, List.pairwise_singleton _ _, fun x hx y hy2 => ?_⟩
    rw [List.mem_singleton] at hy2
    subst hy2
    obtain ⟨i, lt, ei⟩ := List.getElem_of_mem hx
    exact old i x (by rw [List.getElem?_eq_getElem lt, ei])
  · by_cases lt : i < qs.length
    · rw [List.getElem?_append_left lt] at hr
      obtain ⟨h1, h2, zs, h3, h4⟩ := h.2 i r hr
      exact ⟨h1, h2, zs, by rw [upd_ne h1]; exact e _ _ h3, h4⟩
    · have hi : i = qs.length := by
        have := (List.getElem?_eq_some_iff.mp hr).1
        simp at this
        omega
      subst hi
      rw [List.getElem?_append_right (Nat.le_refl _), Nat.sub_self] at hr
      have : q = r := Option.some.inj hr
      subst this
      exact ⟨nD, fresh_back eH hq, ys, by rw [upd_ne nD]; exact hy, hE⟩
section
variable {σ : L2.St} {H : Hp} {Q : VK} {K : PySem.W.Frag} {te : TE} {j : Nat} {vs : List Nat}
theorem c_listN {a : Addr} {xs : List V} (E : Nat → List V → Prop) (hn : xs.length ≤ 50000) (hx : SqL K H a xs) (hw : ∀ x, wipe ((wipe σ vs).set j (some x)) vs = wipe σ vs)
    (hb : ∀ (i : Nat) x H' Q', xs[i]? = some x → Ex H H' → (∀ q ys H4, H' q = none → Ex H' H4 → H4 q = some (.lst ys) → E i ys → Q' (.ref q) H4) → te ((wipe σ vs).set j (some x)) H' Q')
    (q : ∀ p (qs : List Addr) H2, H p = none → Ex H H2 → H2 p = some (.lst (qs.map V.ref)) → qs.length = xs.length → NewLists E H p qs H2 → Q (.ref p) H2) : CompJ (Itl K a) (gName j) tYes te vs σ H Q := by
  intro D hD
  refine lc_list (K := K) (a := a) (xs := xs) (fun i H' => Ex H H' ∧ ∃ qs : List Addr, H' D = some (.lst (qs.map V.ref)) ∧ qs.length = i ∧ NewLists E H D qs H') ⟨Ex.new hD, [], upd_same, rfl, List.nodup_nil, fun i r h => by simp at h⟩ (fun i H' _ p => ex_l p.1 hx) (fun i x H' hi ⟨e, qs, ha, hl, hN⟩ => ?_) fun H' ⟨e, qs, ha, hl, hN⟩ => q D qs H' hD e ha hl hN
  have lt : i < xs.length := (List.getElem?_eq_some_iff.mp hi).1
  refine ⟨hw _, ?_⟩
  show te _ H' _
  refine hb i x H' _ hi e fun r ys H4 hr e4 h4 hE => ⟨qs.map V.ref, e4 _ _ ha, sz_lt (by rw [List.length_map]; omega), Ex.mut (e.trans e4) hD, qs ++ [r], by rw [List.map_append]; exact upd_same, by rw [List.length_append, hl]; rfl, newLists_step hN e ha hr e4 h4 (by rw [hl]; exact hE) _⟩
end

end

section
open PySem PySem.Spec PyProof.Rows L2 Evl

/-! ### what stands in such a set -/
def txtOf (e : Int × Value) : Str := match e.2 with
  | .str z _ => z
  | _ => Str.empty
def TxtEnt (w : World) (e : Int × Value) : Prop := ∃ z t, e = (hashStr w z, Value.str z t)
/-- the entries es hold just the texts zs -/
def Ents (w : World) (es : List (Int × Value)) (zs : List Str) : Prop := (∀ e ∈ es, TxtEnt w e) ∧ (es.map txtOf).Perm zs
theorem Ents.perm {w : World} {es es' : List (Int × Value)} {zs : List Str} (h : Ents w es zs) (p : es'.Perm es) : Ents w es' zs := ⟨fun e he => h.1 e (p.mem_iff.mp he), (p.map txtOf).trans h.2⟩
theorem Ents.snoc {w : World} {es : List (Int × Value)} {zs : List Str} {z : Str} {t : Tok} (h : Ents w es zs) : Ents w (es ++ [(hashStr w z, Value.str z t)]) (z :: zs) := by
  refine ⟨fun e he => ?_, ?_⟩
  · rcases List.mem_append.mp he with he | he
    · exact h.1 e he
    · exact ⟨z, t, List.mem_singleton.mp he⟩
  · rw [List.map_append]
    exact (List.perm_append_singleton z (es.map txtOf)).trans (h.2.cons z)
theorem Ents.elems {P : Program} {w : World} {es : List (Int × Value)} {zs : List Str} (h : Ents w es zs) : ElemsOf (PySem.strKind P w) es := fun e he => by
  obtain ⟨z, t, rfl⟩ := h.1 e he
  exact ⟨⟨z, strKind_is P w z t, rfl⟩, rfl⟩
/-- the set at a, of the texts zs; its table can be walked -/
def SetT (w : World) (a : Addr) (zs : List Str) (h : Heap) : Prop := ∃ o es ep t, h.get? a = some o ∧ o.ExactSet ∧ o.data = .set es ep t ∧ Ents w es.toList zs ∧ zs.Nodup ∧
  es.size < scanBound ∧ t.fits es.size = true ∧ Ris t.place.toList ∧ (w.params.followText "set-order" = true ∨ t.led = true)
theorem SetT.len {w : World} {zs : List Str} {es : List (Int × Value)} (h : Ents w es zs) : es.length = zs.length := by
  have q := h.2.length_eq
  rw [List.length_map] at q
  exact q

section
variable {P : Program} {w : World} {A : Around} {E : Value → Shared → Prop} {s : Shared} {a : Addr}
theorem put_set {h : Heap} {o : Obj} {es es' : Array (Int × Value)} {ep : Nat} {t t' : SetTable} (ho : h.get? a = some o) (hd : o.data = .set es ep t) :
    (h.update a (Obj.putSet es' t')).get? a = some { o with data := .set es' (ep + 1) t' } := by
  have z := Heap.get?_update_self (Obj.putSet es' t') ho (by rw [putSet_of es' t' hd]; exact rfl)
  rwa [putSet_of es' t' hd] at z
/-- behind a new entry: stored, and laid anew where the table is too full -/
theorem set_tail {g : Bool → Sem Unit} (hg : ∀ (b : Bool) (s₁ : Shared) (Q' : Unit → Shared → Prop), Q' () s₁ → wpAny (model P w) A (g b) Q' E s₁)
    {o : Obj} {es en : Array (Int × Value)} {ep : Nat} {t tn : SetTable} {zs : List Str} (ho : s.heap.get? a = some o) (hx : o.ExactSet) (hd : o.data = .set es ep t) (en1 : Ents w en.toList zs) (nd : zs.Nodup)
    (small : en.size < scanBound) (fit : tn.fits en.size = true) (ri : Ris tn.place.toList) (ld : w.params.followText "set-order" = true ∨ tn.led = true) {dm : Bool} {R : Option Bool → Shared → Prop}
    (fin : ∀ h', Heap.SameBut a s.heap h' → SetT w a zs h' → R (some true) { s with heap := h' }) :
    wpAny (model P w) A (do
        storeSet a en tn
        if (!dm && tn.tooFull) = true then do
            g (relayAll tn en (SetTable.grown en.size)).2.2
            storeSet a (relayAll tn en (SetTable.grown en.size)).1 (relayAll tn en (SetTable.grown en.size)).2.1
            pure (some true)
          else pure (some true)) R E s := by
  have at1 := put_set (es' := en) (t' := tn) ho hd
  have sb := Heap.SameBut.update s.heap a (Obj.putSet en tn)
  refine wpAny_bind (wpAny_storeSet_of ho hd ?_ (fits_of_scanBound small))
  by_cases full : (!dm && tn.tooFull) = true
  · rw [if_pos full]
    have p := relayAll_perm tn en (SetTable.grown en.size)
    have f := relayAll_fits tn en (SetTable.grown en.size)
    have r := relayAll_ris tn en (SetTable.grown en.size)
    have l := relayAll_led tn en (SetTable.grown en.size)
    revert p f r l
    generalize relayAll tn en (SetTable.grown en.size) = L
    obtain ⟨e3, t3, gave⟩ := L
    intro p f r l
    dsimp only at p f r l ⊢
    have n3 : e3.size = en.size := by
      have z := p.length_eq
      rwa [Array.length_toList, Array.length_toList] at z
    refine wpAny_bind (hg _ _ _ (wpAny_bind (wpAny_storeSet_of at1 rfl (wpAny_pure (fin _ (sb.trans (Heap.SameBut.update _ a _)) ?_)) (fits_of_scanBound (by rw [n3]; exact small)))))
    exact ⟨_, e3, _, t3, put_set at1 rfl, hx, rfl, en1.perm p, nd, by rw [n3]; exact small, f, r, by rw [l]; exact ld⟩
  · rw [if_neg full]
    exact wpAny_pure (fin _ sb ⟨_, en, _, tn, at1, hx, rfl, en1, nd, small, fit, ri, ld⟩)
/-- members behind z was added -/
def addS (zs : List Str) (z : Str) : List Str := if z ∈ zs then zs else z :: zs
theorem mem_addS {zs : List Str} {z y : Str} : y ∈ addS zs z ↔ y = z ∨ y ∈ zs := by
  unfold addS
  split
  · rename_i h
    exact ⟨.inr, fun q => q.elim (fun e => e ▸ h) id⟩
  · exact List.mem_cons
theorem addS_len (zs : List Str) (z : Str) : (addS zs z).length ≤ zs.length + 1 := by
  unfold addS
  split
  · exact Nat.le_succ _
  · exact Nat.le_refl _
theorem set_add_hashed {z : Str} {t : Tok} {zs : List Str} {Q : Bool → Shared → Prop} (S : SetT w a zs s.heap) (room : zs.length + 1 < scanBound)
    (fin : ∀ b h', Heap.SameBut a s.heap h' → SetT w a (addS zs z) h' → Q b { s with heap := h' }) :
    wpAny (model P w) A (setAddHashed a (.str z t) ((PySem.strKind P w).hash z)) Q E s := by
  obtain ⟨o, es, ep, tb, ho, hx, hd, en, nd, small, fit, ri, ld⟩ := S
  have isz : (PySem.strKind P w).is z (.str z t) = true := strKind_is P w z t
  have scn : (Value.str z t).scannable = true := rfl
  have el := en.elems (P := P)
  have meet : ∀ e ∈ es.toList, (PySem.strKind P w).is z e.2 = true ↔ txtOf e = z := fun e he => by
    obtain ⟨y, u, rfl⟩ := en.1 e he
    show (Value.isStrOf z (.str y u) = true) ↔ y = z
    constructor
    · intro q
      obtain ⟨u', e'⟩ := Value.isStrOf_shape q
      injection e'
    · rintro rfl
      exact strKind_is P w y u
  unfold setAddHashed
  unfold setAddHashedIn
  refine wpAny_holding ?_
  refine wpAny_bind (wpAny_setState_of ho hd fit ?_)
  dsimp only
  rw [byScan_of scn small el]
  simp only [↓reduceIte]
  unfold setAddByScan
  refine wpAny_bind (wpAny_bind (wpAny_rule (wpAny_bind (wpAny_setScan_of isz ho hd fit el ?_))))
  cases look : List.findIdx? (fun e => (PySem.strKind P w).is z e.2) es.toList with
  | some j =>
    dsimp only
    obtain ⟨hj, pj, _⟩ := List.findIdx?_eq_some_iff_getElem.mp look
    have inz : z ∈ zs := en.2.mem_iff.mp (List.mem_map.mpr ⟨_, List.getElem_mem hj, (meet _ (List.getElem_mem hj)).mp pj⟩)
    refine wpAny_pure (wpAny_pure (fin _ s.heap (Heap.SameBut.refl a s.heap) ?_))
    unfold addS
    rw [if_pos inz]
    exact ⟨o, es, ep, tb, ho, hx, hd, en, nd, small, fit, ri, ld⟩
  | none =>
    dsimp only
    have out : z ∉ zs := fun q => by
      obtain ⟨e, he, ez⟩ := List.mem_map.mp (en.2.mem_iff.mpr q)
      have c := List.findIdx?_eq_none_iff.mp look e he
      rw [(meet e he).mpr ez] at c
      exact Bool.noConfusion c
    have silent : ∀ (b : Bool) (s₁ : Shared) (Q' : Unit → Shared → Prop), Q' () s₁ → wpAny (model P w) A (match b with | true => rule "set.scan.the-table-gave-way" | false => pure ()) Q' E s₁ := fun b s₁ Q' q => by
      cases b with
      | true => exact wpAny_rule q
      | false => exact wpAny_pure q
    have p := layNew_perm tb es ((PySem.strKind P w).hash z) (.str z t)
    have f := layNew_fits tb es ((PySem.strKind P w).hash z) (.str z t)
    have r := layNew_ris tb es ((PySem.strKind P w).hash z) (.str z t) ri
    have l := layNew_led tb es ((PySem.strKind P w).hash z) (.str z t)
    revert p f r l
    generalize layNew tb es ((PySem.strKind P w).hash z) (.str z t) = L
    obtain ⟨en', tn, dm, gave⟩ := L
    intro p f r l
    dsimp only at p f r l ⊢
    rw [Array.toList_push] at p
    have en2 : Ents w en'.toList (z :: zs) := (en.snoc (z := z) (t := t)).perm p
    have eqz : addS zs z = z :: zs := by
      unfold addS
      rw [if_neg out]
    have nd2 : (z :: zs).Nodup := List.nodup_cons.mpr ⟨out, nd⟩
    have n2 : en'.size < scanBound := by
      have q := SetT.len en2
      rw [Array.length_toList, List.length_cons] at q
      rw [q]
      exact room
    have ld2 : w.params.followText "set-order" = true ∨ tn.led = true := by rw [l]; exact ld
    have go : ∀ h', Heap.SameBut a s.heap h' → SetT w a (z :: zs) h' → Q true { s with heap := h' } := fun h' sb S' => fin _ h' sb (by rw [eqz]; exact S')
    refine wpAny_bind (silent _ _ _ ?_)
    split
    · refine wpAny_bind ?_
      rw [hashByValue_scannable 8 scn]
      refine wpAny_pure (set_tail silent ho hx hd en2 nd2 n2 ?_ ?_ ?_ fun h' sb S' => ?_)
      · first | (split <;> first | exact f | exact SetTable.fits_plain_off f) | exact f
      · first | (split <;> exact r) | exact r
      · first | (split <;> exact ld2) | exact ld2
      · dsimp only
        exact wpAny_pure (go h' sb S')
    · refine wpAny_bind (wpAny_pure ?_)
      simp only [↓reduceIte]
      refine set_tail silent ho hx hd en2 nd2 n2 f r ld2 fun h' sb S' => ?_
      dsimp only
      exact wpAny_pure (go h' sb S')
end

/-! ### made of a list -/
def addAll (zs ys : List Str) : List Str := ys.foldl addS zs
theorem mem_addAll {y : Str} : ∀ (ys zs : List Str), y ∈ addAll zs ys ↔ y ∈ ys ∨ y ∈ zs
  | [], zs => by
    show y ∈ zs ↔ _
    simp
  | x :: ys, zs => by
    show y ∈ addAll (addS zs x) ys ↔ _
    rw [mem_addAll ys (addS zs x), mem_addS, List.mem_cons]
    constructor
    · rintro (h | h | h)
      · exact .inl (.inr h)
      · exact .inl (.inl h)
      · exact .inr h
    · rintro ((h | h) | h)
      · exact .inr (.inl h)
      · exact .inl h
      · exact .inr (.inr h)
theorem addAll_len : ∀ (ys zs : List Str), (addAll zs ys).length ≤ zs.length + ys.length
  | [], zs => Nat.le_refl _
  | x :: ys, zs => by
    have q := addAll_len ys (addS zs x)
    have r := addS_len zs x
    show (addAll (addS zs x) ys).length ≤ _
    rw [List.length_cons]
    omega
theorem addAll_snoc (zs ys : List Str) (y : Str) : addAll zs (ys ++ [y]) = addS (addAll zs ys) y := by
  unfold addAll
  rw [List.foldl_append]
  rfl
/-- an empty set as the model makes it -/
abbrev noSet (w : World) : Obj := { cls := .type "set", dict := none, data := .set #[] 0 (.fresh 0 0 (!w.params.followText "set-order")) }
theorem setT_none {w : World} {h : Heap} {a : Addr} (e : h.get? a = some (noSet w)) : SetT w a [] h :=
  ⟨_, #[], 0, _, e, ⟨rfl, rfl, rfl⟩, rfl, ⟨fun e he => by simp at he, .nil⟩, List.nodup_nil, by decide, by rfl, List.Pairwise.nil, by
    show _ ∨ (!w.params.followText "set-order") = true
    cases w.params.followText "set-order" <;> simp⟩
theorem SetT.keep {w : World} {h h' : Heap} {a : Addr} {zs : List Str} (S : SetT w a zs h) (k : ∀ o, h.get? a = some o → h'.get? a = some o) : SetT w a zs h' := by
  obtain ⟨o, es, ep, t, ho, r⟩ := S
  exact ⟨o, es, ep, t, k o ho, r⟩
section
variable {P : Program} {w : World} {A : Around} {E : Value → Shared → Prop} {s : Shared}
theorem set_loop {R : Result → Shared → Prop} {I D : Addr} {fp wr : List Addr} {G : Array GenState → Array GenState → Prop} {n : Nat} {Y : Nat → Value → Prop} {St : Nat → Shared → Prop} (W : WalksS P w A.in1 I fp wr G n Y St) (apart : D ∉ fp)
    (ys : List Str) (hn : ys.length = n) (few : n + 1 < scanBound) (txt : ∀ i v, Y i v → ∃ z t, ys[i]? = some z ∧ v = .str z t) :
    ∀ (k i : Nat) (s : Shared), n - i = k → i ≤ n → St i s → SetT w D (addAll [] (ys.take i)) s.heap → (∀ s', Moved (D :: wr) G s s' → SetT w D (addAll [] ys) s'.heap → R (.ok (.ret .none)) s') →
      codeAny (model P w) A (.builtin "set.update.loop" ⟨[.ref D, .ref I], []⟩) R s := by
  have Dw : D ∉ wr := fun q => apart (W.sub _ q)
  have more : ∀ b ∈ wr, b ∈ D :: wr := fun b q => List.mem_cons_of_mem _ q
  intro k
  induction k with
  | zero =>
    intro i s hk hi st S fin
    obtain rfl : i = n := by omega
    rw [List.take_of_length_le (by omega)] at S
    refine codeAny_builtin F.entry_set_update_loop ?_
    rw [Around.under_plainId F.plain_set_update_loop _]
    show wpAny _ A.in1 (pyNext (.ref I) >>= _) _ _ s
    refine wpAny_bind (W.done s _ _ st fun s' m => ?_)
    show wpAny _ A.in1 (ret Value.none) _ _ s'
    exact wpAny_pure (fin s' (m.mono more) (S.keep fun o e => m.heap D o Dw e))
  | succ k ih =>
    intro i s hk hi st S fin
    have lt : i < n := by omega
    refine codeAny_builtin F.entry_set_update_loop ?_
    rw [Around.under_plainId F.plain_set_update_loop _]
    show wpAny _ A.in1 (pyNext (.ref I) >>= _) _ _ s
    refine wpAny_bind (W.item i s _ _ lt st fun v s' hv st' m => ?_)
    obtain ⟨z, t, hz, rfl⟩ := txt i v hv
    have S' := S.keep (h' := s'.heap) fun o e => m.heap D o Dw e
    have room : (addAll [] (ys.take i)).length + 1 < scanBound := by
      have q := addAll_len (ys.take i) []
      rw [List.length_take, List.length_nil] at q
      omega
    have next : addAll [] (ys.take (i + 1)) = addS (addAll [] (ys.take i)) z := by
      rw [List.take_add_one, hz, ← addAll_snoc]
      rfl
    show wpAny _ A.in1 (holding [Value.str z t] (setAdd D (.str z t)) >>= _) _ _ s'
    refine wpAny_bind (wpAny_holding ?_)
    unfold setAdd
    refine wpAny_holding (wpAny_bind ((PySem.strKind P w).pyHash (strKind_is P w z t) ?_))
    refine set_add_hashed (s := { s' with toks := s'.toks + 1 }) S' room fun b h' sb S2 => ?_
    rw [← next] at S2
    refine wpAny_pure ⟨plainId_quiet F.plain_set_update_loop _, ih (i + 1) _ (by omega) lt (W.frame _ s' _ _ st' (Nat.le_succ _) fun b hb o e => ?_) S2 fun s2 m2 S3 => fin s2 (Moved.trans W.gtrans ((m.mono more).then_heap (Nat.le_succ _) fun b o hb e => ?_) m2) S3⟩
    · exact (sb.2 b fun q => apart (q ▸ hb)).trans e
    · exact (sb.2 b fun q => hb (q ▸ List.mem_cons_self)).trans e

theorem call_set_txt {l : Addr} {items : Array Value} {ys : List Str} {Q : Value → Shared → Prop} (calm : A.handled = none) (hl : s.heap.IsList l items) (hi : StrsAre items.toList ys) (few : ys.length + 1 < scanBound)
    (fin : ∀ (h' : Heap) (tk : Nat), SetT w s.heap.objs.size (addAll [] ys) h' → (∀ b o, s.heap.get? b = some o → h'.get? b = some o) → Q (.ref s.heap.objs.size) { s with heap := h', toks := tk }) :
    wpAny (model P w) A (call (.type "set") [.ref l]) Q E s := by
  obtain ⟨_, _, mro⟩ := F.called_set.mro
  have z1 := F.called_set.made; have z2 := F.called_set.sub; have z3 := F.called_set.notType; have z4 := F.called_set.canCreate; have z5 := F.typeCall_set_1 (.ref l)
  refine wpAny_call (codeAny_of_tree (?_ : wpAny _ _ (callAny (.type "set") _) _ _ _))
  refine wpAny_pure ⟨Code.quiet_builtin _ (by decide +kernel), codeAny_builtin F.entry_type_call ?_⟩
  rw [Around.under_plain (weight_type_call_type "set" [.ref l] []) rfl]
  repeat (any_goals (first | assumption | wp_step))
  refine codeAny_mono (code_set_led1 (.ref l) (E := E) (Q₁ := fun v s₁ => v = .ref s.heap.objs.size ∧ s₁ = { s with heap := s.heap.push (noSet w) }) ⟨rfl, rfl⟩) fun r s₁ q => ?_
  cases r with
  | error e => exact q
  | ok fl =>
    cases fl with
    | ret v =>
      obtain ⟨rfl, rfl⟩ := q
      have new : (s.heap.push (noSet w)).get? s.heap.objs.size = some (noSet w) := Heap.get?_push_size _ rfl
      have isSet : Shared.TypeIs { s with heap := s.heap.push (noSet w) } (.ref s.heap.objs.size) "set" := ⟨_, new, rfl⟩
      have z6 := F.called_set.init.lookup; have z7 := F.called_set.init.bind (.ref s.heap.objs.size)
      repeat (any_goals (first | assumption | wp_step))
      refine codeAny_mono (codeAny_call_builtin (R := wants (fun r s₂ => r = .none ∧ ∃ h' tk, s₂ = { s with heap := h', toks := tk } ∧ SetT w s.heap.objs.size (addAll [] ys) h' ∧ ∀ b o, s.heap.get? b = some o → h'.get? b = some o) E)
        F.called_set.init.plain F.entry_set_init (check_set_init_1 isSet ?_)) fun r₂ s₂ q₂ => ?_
      · obtain ⟨ol, hol, hcl, nl, hdl⟩ := hl
        obtain ⟨_, odict, _, oslots⟩ := ol
        simp only at hcl hdl
        subst hcl hdl
        have lt := Heap.lt_size hol
        have hol' : (s.heap.push (noSet w)).get? l = some { cls := .type "list", dict := odict, data := .seq items nl, slots := oslots } := Heap.get?_push_of_some _ hol
        have isL : (s.heap.push (noSet w)).IsList l items := ⟨_, hol', rfl, nl, rfl⟩
        have z8 := F.sub_list_set; have z9 := F.sub_list_frozenset
        have zA : (Value.type "list" == Value.type "dict") = false := by decide
        unfold Builtin.«set.__init__» noKeywords Builtin.Frozenset.updateFrom
        generalize hPI : pyIter = PI
        wp_walk
        subst hPI
        refine wpAny_pyIter_list isL (wpAny_bind (wpAny_runValue ?_))
        have sz : (s.heap.push (noSet w)).objs.size = s.heap.objs.size + 1 := Heap.size_push ..
        have n1 : l ≠ (s.heap.push (noSet w)).objs.size := by rw [sz]; exact Nat.ne_of_lt (Nat.lt_succ_of_lt lt)
        have n2 : s.heap.objs.size ∉ [(s.heap.push (noSet w)).objs.size, l] := by
          rw [sz]
          intro q
          rcases List.mem_cons.mp q with q | q
          · exact absurd q (Nat.ne_of_lt (Nat.lt_succ_self _))
          · exact absurd (List.mem_singleton.mp q) (Nat.ne_of_gt lt)
        have len : ys.length = items.size := by rw [← StrsAre.len_eq hi, Array.length_toList]
        refine set_loop (D := s.heap.objs.size) ((Walks.list (by simp [calm]) _ l n1 items).toS) n2 ys len (by omega)
          (fun i v hv => ?_) (items.size - 0) 0 _ (by omega) (Nat.zero_le _) ⟨⟨_, Heap.get?_push_size _ rfl, rfl, rfl⟩, isL.push _⟩ (setT_none (Heap.get?_push_of_some _ new)) fun s' m S => ?_
        · have q : items.toList[i]? = some v := by rw [Array.getElem?_toList]; exact hv
          obtain ⟨t, e⟩ := SS.strs_at hi i v q
          have lt2 : i < ys.length := by
            have q2 := (List.getElem?_eq_some_iff.mp q).1
            rw [Array.length_toList] at q2
            omega
          exact ⟨ys[i], t, List.getElem?_eq_getElem lt2, by rw [e, List.getD_eq_getElem?_getD, List.getElem?_eq_getElem lt2]; rfl⟩
        · obtain ⟨h', g', d', tk', os'⟩ := s'
          obtain rfl : g' = s.gens := m.gens
          obtain rfl : d' = s.drawn := m.drawn
          obtain rfl : os' = s.os := m.os
          show wpAny _ _ _ _ _ _
          refine wpAny_pure (?_ : wpAny _ _ (ret Value.none) _ _ _)
          refine wpAny_pure ⟨rfl, h', tk', rfl, S, fun b o e => m.heap b o ?_ (Heap.get?_push_of_some _ (Heap.get?_push_of_some _ e))⟩
          have lt3 := Heap.lt_size e
          rw [sz]
          intro q
          rcases List.mem_cons.mp q with q | q
          · exact absurd q (Nat.ne_of_lt lt3)
          · exact absurd (List.mem_singleton.mp q) (Nat.ne_of_lt (Nat.lt_succ_of_lt lt3))
      · cases r₂ with
        | error e => exact q₂
        | ok fl₂ =>
          cases fl₂ with
          | ret r =>
            obtain ⟨rfl, h', tk, rfl, S, kk⟩ := q₂
            repeat (any_goals (first | assumption | wp_step))
            exact fin _ _ S kk
          | _ => exact q₂.elim
    | _ => exact q.elim
end

end

section
open PySem PySem.Spec PyProof.Rows L2 Evl

/-! ### texts in order -/
def StrLt (a b : Str) : Prop := a.cps.toList < b.cps.toList
theorem StrLt.trans {a b c : Str} (h1 : StrLt a b) (h2 : StrLt b c) : StrLt a c := List.lt_trans h1 h2
theorem StrLt.irrefl (a : Str) : ¬ StrLt a a := List.lt_irrefl _
theorem str_ext {a b : Str} (h : a.cps.toList = b.cps.toList) : a = b := by
  cases a
  cases b
  exact congrArg Str.mk (Array.toList_inj.mp h)
theorem StrLt.of {a b : Str} (h : ¬ StrLt b a) (ne : a ≠ b) : StrLt a b := by
  have h1 : a.cps.toList ≤ b.cps.toList := List.not_lt.mp h
  by_cases q : a.cps.toList < b.cps.toList
  · exact q
  · exact absurd (str_ext (List.le_antisymm h1 (List.not_lt.mp q))) ne
/-- rising, each once -/
def RisT (ys : List Str) : Prop := ys.Pairwise StrLt
theorem risT_of : ∀ (ys : List Str), sortedS ys = true → ys.Nodup → RisT ys
  | [], _, _ => List.Pairwise.nil
  | [x], _, _ => List.pairwise_singleton _ _
  | x :: y :: r, h, nd => by
    have h' : (!ltCps y.cps.toList x.cps.toList && risingS y r) = true := h
    rw [Bool.and_eq_true, ltCps_eq] at h'
    have ih := risT_of (y :: r) h'.2 (List.nodup_cons.mp nd).2
    have xy : StrLt x y := by
      refine StrLt.of (fun q => ?_) fun q => (List.nodup_cons.mp nd).1 (q ▸ List.mem_cons_self)
      have z := h'.1
      rw [decide_eq_true (show y.cps.toList < x.cps.toList from q)] at z
      cases z
    refine List.pairwise_cons.mpr ⟨fun z hz => ?_, ih⟩
    rcases List.mem_cons.mp hz with rfl | hz
    · exact xy
    · exact xy.trans (List.rel_of_pairwise_cons ih hz)
/-- only one rising list has these members -/
theorem risT_one : ∀ (xs ys : List Str), RisT xs → RisT ys → (∀ z, z ∈ xs ↔ z ∈ ys) → xs = ys
  | [], [], _, _, _ => rfl
  | [], y :: ys, _, _, h => absurd ((h y).mpr List.mem_cons_self) (by simp)
  | x :: xs, [], _, _, h => absurd ((h x).mp List.mem_cons_self) (by simp)
  | x :: xs, y :: ys, hx, hy, h => by
    have hx' := List.pairwise_cons.mp hx
    have hy' := List.pairwise_cons.mp hy
    have exy : x = y := by
      rcases List.mem_cons.mp ((h x).mp List.mem_cons_self) with e | e
      · exact e
      · rcases List.mem_cons.mp ((h y).mpr List.mem_cons_self) with e2 | e2
        · exact e2.symm
        · exact absurd ((hx'.1 y e2).trans (hy'.1 x e)) (StrLt.irrefl x)
    subst exy
    refine congrArg (x :: ·) (risT_one xs ys hx'.2 hy'.2 fun z => ⟨fun q => ?_, fun q => ?_⟩)
    · rcases List.mem_cons.mp ((h z).mp (List.mem_cons_of_mem _ q)) with e | e
      · exact absurd (hx'.1 z q) (e ▸ StrLt.irrefl z)
      · exact e
    · rcases List.mem_cons.mp ((h z).mpr (List.mem_cons_of_mem _ q)) with e | e
      · exact absurd (hy'.1 z q) (e ▸ StrLt.irrefl z)
      · exact e

section
variable {P : Program} {w : World} {A : Around} {E : Value → Shared → Prop} {s : Shared}
theorem txt_vals : ∀ (l : List (Int × Value)), (∀ e ∈ l, TxtEnt w e) → StrsAre (l.map (·.2)) (l.map txtOf)
  | [], _ => .nil
  | e :: l, h => by
    obtain ⟨z, t, rfl⟩ := h e List.mem_cons_self
    exact .cons z t (txt_vals l fun e he => h e (List.mem_cons_of_mem _ he))
theorem perm_map {α β : Type} {f : α → β} : ∀ (ys : List β) (xs : List α), ys.Perm (xs.map f) → ∃ l : List α, l.Perm xs ∧ l.map f = ys
  | [], xs, p => by
    have z : xs = [] := List.map_eq_nil_iff.mp (List.nil_perm.mp p)
    exact ⟨[], by rw [z], rfl⟩
  | y :: ys, xs, p => by
    obtain ⟨x, hx, ex⟩ := List.mem_map.mp (p.mem_iff.mp List.mem_cons_self)
    obtain ⟨a, b, rfl⟩ := List.append_of_mem hx
    have q : (y :: ys).Perm (y :: (a ++ b).map f) := p.trans (by
      rw [List.map_append, List.map_append, List.map_cons, ex]
      exact List.perm_middle)
    obtain ⟨l, p2, e2⟩ := perm_map ys (a ++ b) (List.perm_cons y |>.mp q)
    exact ⟨x :: l, (p2.cons x).trans List.perm_middle.symm, by rw [List.map_cons, ex, e2]⟩
/-- sorted of such a set -/
theorem sorted_txt {a : Addr} {zs : List Str} {Q : Value → Shared → Prop} (S : SetT w a zs s.heap) (calm : A.handled = none)
    (fin : ∀ s' p (out : Array Value) (c : Nat) (ys : List Str), (∀ b o, s.heap.get? b = some o → s'.heap.get? b = some o) → s'.gens = s.gens → s'.os = s.os → s.heap.objs.size ≤ p → s'.heap.get? p = some (seqObj "list" out c) →
      StrsAre out.toList ys → RisT ys → (∀ z, z ∈ ys ↔ z ∈ zs) → ys.length ≤ zs.length → Q (.ref p) s') : wpAny (model P w) A (call (.builtin "sorted") [.ref a]) Q E s := by
  obtain ⟨o, es, ep, t, ho, hx, hd, en, nd, small, fit, ri, ld⟩ := S
  refine Calls.call_function_entry kind_sorted plain_sorted entry_sorted (args_sorted1 _) ?_
  unfold Builtin.«sorted»
  refine wpAny_bind (m := checkCount "sorted" 1 1 _) (wpAny_pure ?_)
  refine wpAny_bind (collect_set (A := A.in1) calm ⟨o, ho, hx.1, hd⟩ fit small ri ld fun s1 vs k1 big g1 o1 pm => ?_)
  have lenV : vs.length = es.size := by rw [pm.length_eq, List.length_map, Array.length_toList]
  have vl : vs.length ≤ sizeLine := by rw [lenV]; exact fits_of_scanBound small
  obtain ⟨l2, p2, e2⟩ : ∃ l2 : List (Int × Value), l2.Perm es.toList ∧ l2.map (·.2) = vs := by
    obtain ⟨l2, h1, h2⟩ := perm_map _ _ pm
    exact ⟨l2, h1, h2⟩
  have sv : StrsAre vs (l2.map txtOf) := by
    rw [← e2]
    exact txt_vals l2 fun e he => en.1 e (p2.mem_iff.mp he)
  have pz : (l2.map txtOf).Perm zs := (p2.map txtOf).trans en.2
  refine wpAny_bind (wpAny_newList ?_ vl)
  have hoL : (s1.heap.push (seqObj "list" vs.toArray 0)).get? s1.heap.objs.size = some (seqObj "list" vs.toArray 0) := Heap.get?_push_size _ rfl
  refine wpAny_bind (wpAny_holding (wpAny_call_entry slot_list_sort ⟨_, hoL, rfl⟩ entry_list_sort
    (list_sort_treeKAny strKind_oneLt hoL sv.keysOf (fun v₁ v₂ r e => keyKind_strs (by rw [← e]; exact sv)) vl fun st p3 h3 => ⟨_, rfl, ?_⟩) (args_list_sort _)))
  obtain ⟨ys, a1, a2, a3⟩ := sorted_out_str sv p3 h3
  obtain ⟨c, hc⟩ := sortedHeap_at (vs := vs) (out := (arrOf st).map (·.2)) hoL
  have py : ys.Perm zs := a2.trans pz
  refine wpAny_pure ⟨_, rfl, fin _ s1.heap.objs.size _ c ys (fun b u e => ?_) g1 o1 big hc a1 (risT_of ys a3 (py.nodup_iff.mpr nd)) (fun z => py.mem_iff) (Nat.le_of_eq py.length_eq)⟩
  have q := k1 b u e
  have lt := Heap.lt_size q
  show (sortedHeap (s1.heap.push (seqObj "list" vs.toArray 0)) s1.heap.objs.size vs _).get? b = some u
  rw [sortedHeap_old (Nat.ne_of_lt lt) (by rw [size_push']; exact Nat.lt_succ_of_lt lt)]
  exact Heap.get?_push_of_some _ q
end

/-! ### the rules -/
def SetO2 (w : World) (a : Addr) (zs : List Str) : HO := .ext (SetT w a zs)
theorem setO2_ok {P : Program} {w : World} {H : Hp} {h : Heap} {a : Addr} {zs : List Str} (S : SetT w a zs h) : ObjOk P w H h a (SetO2 w a zs) := by
  have ⟨o, _, _, _, ho, _⟩ := S
  exact ⟨S, ⟨o, ho⟩, fun _ _ p k => p.keep k⟩
def rSetS (K : PySem.W.Frag) (w : World) : List V → Hp → VK → Prop := fun xs H Q => ∃ (l : Addr) (ys : List Str), xs = [.ref l] ∧ SqL K H l (ys.map V.str) ∧ ys.length ≤ 1000 ∧ ∀ p, H p = none → Q (.ref p) (upd H p (SetO2 w p (addAll [] ys)))
def rSortS (w : World) : List V → Hp → VK → Prop := fun xs H Q => ∃ (a : Addr) (zs : List Str), xs = [.ref a] ∧ H a = some (SetO2 w a zs) ∧ zs.length ≤ 1000 ∧
  ∀ (ys : List Str) p, RisT ys → (∀ z, z ∈ ys ↔ z ∈ zs) → ys.length ≤ zs.length → H p = none → Q (.ref p) (upd H p (.lst (ys.map V.str)))
theorem sc1000 : (1000 : Nat) + 1 < scanBound := by decide
section
variable {X : Cx}
theorem cr_setS (hc : X.calm = true) : CallR X (.type "set") (rSetS X.K X.w) := by
  intro pins s σ H xs us Q I r h
  obtain ⟨l, ys, rfl, hs, few, q⟩ := h
  obtain ⟨its, rv, hl, _⟩ := I.list hs
  rw [Vals.ref1 r]
  refine call_set_txt (items := its.toArray) (ys := ys) (I.ok.hd hc) hl.isList (by simpa using rv.strs) (by have := sc1000; omega) fun h' tk S k => ?_
  have hn : H s.heap.objs.size = none := I.hok.fresh (Nat.le_refl _)
  exact ⟨.ref _, _, I.laid (t' := tk) k (Nat.le_refl _) (setO2_ok S), rfl, q _ hn⟩
theorem cr_sortedSetS (hc : X.calm = true) : CallR X (.builtin "sorted") (rSortS X.w) := by
  intro pins s σ H vs us Q I r h
  obtain ⟨a, zs, rfl, ha, few, q⟩ := h
  have S : SetT X.w a zs s.heap := (I.hok a _ ha).1
  rw [Vals.ref1 r]
  refine sorted_txt S (I.ok.hd hc) fun s' p out c ys k g o big hp sa ris mem len => ?_
  have hlen : (ys.map V.str).length ≤ sizeLine := by rw [List.length_map]; exact sz_of (by omega)
  have hn : H p = none := I.hok.fresh big
  have J : Inv X pins σ (upd H p (.lst (ys.map V.str))) { s with heap := s'.heap, gens := s'.gens, drawn := s'.drawn, toks := s'.toks } :=
    I.call (ch := []) (Un.laid k big hn) (I.hok.laid k big ⟨hlen, out.toList, c, vals_of_strs sa, hp⟩) (by rw [g]; exact I.bare) (fun _ z => nomatch z)
  have e : s' = { s with heap := s'.heap, gens := s'.gens, drawn := s'.drawn, toks := s'.toks } := by
    cases s'
    cases s
    cases o
    rfl
  rw [e]
  exact ⟨.ref p, _, J, rfl, q ys p ris mem len hn⟩
end

end

section
open PySem PySem.Spec PyProof.Rows L2 Evl
/-! ### {text for .. in .. if ..} -/
def CompS (w : World) (J : It) (g : TG) (tt : TT) (te : TE) (vs : List Nat) (σ : L2.St) (H1 : Hp) (Q : VK) : Prop := ∀ D, H1 D = none → ∃ W : Nat → Nat → Hp → Prop, (∃ m, W 0 m (upd H1 D (SetO2 w D []))) ∧ ∀ i m H, W i m H →
  (J.stop i H ∧ Q (.ref D) H) ∨ (J.go i H ∧ ∃ Nx : Hp → Prop, (∀ H', Nx H' → ∃ m', m' < m ∧ W (i + 1) m' H') ∧ ∀ x H', J.yld i H x H' → g x (wipe σ vs) H' fun σ2 H2 => wipe σ2 vs = wipe σ vs ∧ tt σ2 H2 fun b H3 =>
    if b = true then te σ2 H3 fun y H4 => ∃ (z : Str) (zs : List Str), y = .str z ∧ H4 D = some (SetO2 w D zs) ∧ zs.length ≤ 1000 ∧ Nx (upd H4 D (SetO2 w D (addS zs z))) else Nx H3)
def tScS (w : World) (wi : TI) (g : TG) (tt : TT) (te : TE) (vs : List Nat) : TE := fun σ H Q => wi σ H fun J H1 => CompS w J g tt te vs σ H1 Q
section
variable {X : Cx}
/-- one more member -/
theorem add_txt {pins : List (Addr × Obj)} {σ : L2.St} {H : Hp} {s : Shared} {E : Value → Shared → Prop} {D : Addr} {zs : List Str} {z : Str} {t : Tok} {Q : Value → Shared → Prop} (I : Inv X pins σ H s) (hD : H D = some (SetO2 X.w D zs)) (few : zs.length ≤ 1000)
    (fin : ∀ s', Inv X pins σ (upd H D (SetO2 X.w D (addS zs z))) s' → Q .none s') : wpAny (model X.prog X.w) X.A (call (.builtin "set.add") [.ref D, .str z t]) Q E s := by
  have S : SetT X.w D zs s.heap := (I.hok D _ hD).1
  have ⟨o, _, _, _, ho, hx, _⟩ := S
  refine wpAny_call_entry F.slot_set_add ⟨o, ho, hx.1⟩ F.entry_set_add ?_ (F.args_set_add_2 _ _)
  unfold Builtin.«set.add» Builtin.Frozenset.oneOther Builtin.Frozenset.addrOf setAdd
  simp only [List.isEmpty_nil, bind_assoc]
  refine wpAny_bind (wpAny_pure ?_)
  try dsimp only
  refine wpAny_bind (wpAny_pure ?_)
  try dsimp only
  refine wpAny_bind (wpAny_holding (wpAny_bind ((PySem.strKind X.prog X.w).pyHash (strKind_is X.prog X.w z t) ?_)))
  refine set_add_hashed (s := { s with toks := s.toks + 1 }) S (by have := sc1000; omega) fun b h' sb S2 => ?_
  have ⟨o2, _, _, _, ho2, _⟩ := S2
  show wpAny _ _ (ret Value.none) _ _ _
  exact wpAny_pure ⟨_, rfl, fin _ (I.write (e := D) (t' := s.toks + 1) (by rw [hD]; exact True.intro) (.inl rfl) (fun b u nb e => (sb.2 b nb).trans e) ⟨o2, ho2⟩ (setO2_ok S2))⟩

theorem pe_scS {elt tg iter : Expr} {ifs : List Expr} {scope : Scope} {own : List (PySem.Str × Nat)} {pos : Pos} {wi : TI} {g : TG} {tt : TT} {te : TE} (hc : X.calm = true) (hN : X.N.Nodup) (hi : PI X tg iter wi) (ok : BlkOk X.N X.env.scope scope own)
    (hg : ∀ (s : Shared) (H : Hp) (C : Addr) (cl : List (PySem.Str × Addr)) (fp : List Addr), PG (X.blk s H scope (compEnvC scope cl C X.env) fp) tg g)
    (ht : ∀ (s : Shared) (H : Hp) (C : Addr) (cl : List (PySem.Str × Addr)) (fp : List Addr), PTs (X.blk s H scope (compEnvC scope cl C X.env) fp) ifs tt)
    (he : ∀ (s : Shared) (H : Hp) (C : Addr) (cl : List (PySem.Str × Addr)) (fp : List Addr), PE (X.blk s H scope (compEnvC scope cl C X.env) fp) elt te) (hs : ∀ x, foldedSetIterable iter X.env x = pure x := by intro _; rfl) :
    PE X (.SetComp elt [⟨tg, iter, ifs, 0⟩] scope pos) (tScS X.w wi g tt te (own.map (·.2))) := by
  refine ⟨fun pins s σ H Q I h => ?_⟩
  rw [PpSet.eval_SetComp]
  have frees : ∀ y ∈ scope.names, y.2 = .free → ∃ c, X.env.cells.lookup y.1 = some c := fun y hy e => (ok.free y hy e).elim (fun k => I.ok.has _ (.inl k)) fun k => I.ok.has _ (.inr k)
  refine wpAny_comprehension_free (use := none) rfl hs (closure_ok frees) ok.kind (fun y hy e => by rw [ok.uniq y hy]; exact congrArg some e) (thn (hi.run pins s σ H _ I h) fun _ s1 k1 => thn k1 fun _ s2 k2 => ?_)
  obtain ⟨it, fp, tn, J, H2, rfl, I2, T, st2, f2, q⟩ := k2
  refine PpSet.newSet_ok (newEnv_comp ?_)
  generalize eD : s2.heap.objs.size = D
  have freeD : H2 D = none := I2.hok.fresh (Nat.le_of_eq eD)
  obtain ⟨W, ⟨m0, w0⟩, turn⟩ := q D freeD
  generalize eS : ({ s2 with heap := s2.heap.push (noSet X.w) } : Shared) = s3
  have hp3 : s3.heap = s2.heap.push (noSet X.w) := by rw [← eS]
  have I3 : Inv X pins σ (upd H2 D (SetO2 X.w D [])) s3 := by
    rw [← eS]
    refine I2.laid (t' := s2.toks) (fun b o e => Heap.get?_push_of_some _ e) (Nat.le_of_eq eD) (setO2_ok (setT_none ?_))
    rw [← eD]
    exact Heap.get?_push_size _ rfl
  have below : ∀ b ∈ fp, b < s2.heap.objs.size := fun b hb => let ⟨o, e, _⟩ := T.obj _ _ st2 b hb; Heap.lt_size e
  have f3 : ∀ b ∈ fp, FpOk X pins (upd H2 D (SetO2 X.w D [])) b ∧ b < s3.heap.objs.size := fun b hb => by
    refine ⟨⟨(upd_ne (by rw [← eD]; exact Nat.ne_of_lt (below b hb))).trans (f2 b hb).1, (f2 b hb).2⟩, ?_⟩
    rw [hp3, Heap.size_push]
    exact Nat.lt_succ_of_lt (below b hb)
  have st3 : tn 0 s3.heap := T.keep _ _ _ st2 fun b _ o e => by rw [hp3]; exact Heap.get?_push_of_some _ e
  have I4 := block_start I3 ok hN f3
  generalize eC : s3.heap.objs.size = C at I4
  generalize eL : cellsFrom (C + 1) scope.names (cloFrom X.env.cells scope.names []) = cl at I4
  have G := hg s3 (upd H2 D (SetO2 X.w D [])) C cl fp
  have T1 := ht s3 (upd H2 D (SetO2 X.w D [])) C cl fp
  have E1 := he s3 (upd H2 D (SetO2 X.w D [])) C cl fp
  have n3 : ∀ b ∈ fp, (upd H2 D (SetO2 X.w D [])) b = none := fun b hb => (f3 b hb).1.1
  subst eC
  subst eL
  show codeAny _ _ (.compStart (.SetComp elt [⟨tg, iter, ifs, 0⟩] scope pos) 0 (.ref it) (.ref D) (compEnvC scope (cellsFrom (s3.heap.objs.size + 1) scope.names (cloFrom X.env.cells scope.names [])) s3.heap.objs.size X.env)) (compPost (model X.prog X.w) X.A X.xe _ _ (.ref D) s3.heap.objs.size) { s3 with heap := pushCells (s3.heap.push { cls := .type "dict", data := .dict #[] }) scope.names }
  generalize eE : compEnvC scope (cellsFrom (s3.heap.objs.size + 1) scope.names (cloFrom X.env.cells scope.names [])) s3.heap.objs.size X.env = ce at I4 G T1 E1 ⊢
  have locC : ce.locals = s3.heap.objs.size := by rw [← eE]; rfl
  generalize eH : upd H2 D (SetO2 X.w D []) = H3 at I3 I4 G T1 E1 w0 n3 f3
  generalize eT : ({ s3 with heap := pushCells (s3.heap.push { cls := .type "dict", data := .dict #[] }) scope.names } : Shared) = s4 at I4 ⊢
  have st4 : tn 0 s4.heap := T.keep _ _ _ st3 fun b _ o e => by rw [← eT]; exact pushCells_keeps _ _ _ _ (Heap.get?_push_of_some _ e)
  have bound : ∀ {τ : L2.St} {H' : Hp} {s' : Shared}, Inv (X.blk s3 H3 scope ce fp) [] τ H' s' → (∀ b ∈ fp, H' b = none) → ∀ b ∈ fp, FpOk (X.blk s3 H3 scope ce fp) [] H' b := fun {τ H' s'} J' hn b hb =>
    ⟨hn b hb, (J'.ok.exf b hb).1, J'.ok.exfs b hb, .inl hb, fun x c e => (J'.ok.exf b hb).2 x c e, fun p hp => by have z : p ∈ ([] : List (Addr × Obj)) ++ [] := hp; simp at z⟩
  have loop : codeAny (model X.prog X.w) X.A (.compLoop (.SetComp elt [⟨tg, iter, ifs, 0⟩] scope pos) 0 (.ref it) (.ref D) ce) (compPost (model X.prog X.w) X.A X.xe none (EP X pins σ Q) (.ref D) s3.heap.objs.size) s4 := by
    refine PpSet.compLoopS_any (fun n s' => ∃ i H', Inv (X.blk s3 H3 scope ce fp) [] (wipe σ (own.map (·.2))) H' s' ∧ tn i s'.heap ∧ (∀ b ∈ fp, H' b = none) ∧ W i n H') ?_ m0 ⟨0, H3, I4, st4, n3, w0⟩
    rintro n s5 ⟨i, H5, I5, st5, n5, w5⟩
    rcases turn i n H5 w5 with ⟨stop, qq⟩ | ⟨go, Nx, nxt, step⟩
    · refine thnF (T.done (X.blk s3 H3 scope ce fp) rfl rfl rfl hc i [] s5 _ H5 (fun _ _ => False) I5 (bound I5 n5) st5 stop) fun r s6 ⟨er, I6⟩ => ?_
      subst er
      have I7 : Inv X pins σ H5 s6 := I3.call' (ch := fp) I6.os I6.base I6.hok I6.bare fun b hb => ⟨(f3 b hb).1.2.2.2.1, (f3 b hb).1.2.1, (f3 b hb).1.2.2.2.2.1, (f3 b hb).1.2.2.2.2.2⟩
      have fC : H5 s3.heap.objs.size = none := locC ▸ (show H5 ce.locals = none from I6.free)
      obtain ⟨m, hn, _⟩ := I6.loc
      have hn2 : s6.heap.Ns s3.heap.objs.size m := locC ▸ (show s6.heap.Ns ce.locals m from hn)
      obtain ⟨g0, g1, g2, g3, g4, g5⟩ := I3.fpOk (Nat.le_refl _) fC
      refine ⟨m, hn2, fun h'' sb => ⟨.ref D, H5, I7.turned (t' := s6.toks) (fun b o hb e => (sb.2 b hb).trans e) ?_ g1 g3 g4 g5, rfl, qq⟩⟩
      exact fC
    · refine thnF (T.item (X.blk s3 H3 scope ce fp) rfl rfl rfl hc i [] s5 _ H5 (fun _ _ => False) I5 (bound I5 n5) st5 go) fun r s6 ⟨u, er, k6⟩ => ?_
      subst er
      refine thnF k6 fun _ s7 ⟨x, H7, I7, r7, y7, st7, n7⟩ => ?_
      refine thnF (G.run _ s7 _ H7 x u _ (I7.pinned (bound I7 n7) (T.obj _ _ st7)) r7 (step x H7 y7)) fun _ s8 ⟨τ, H8, I8, same, q8⟩ => ?_
      refine thnF (T1.run _ s8 τ H8 _ I8 q8) fun b s9 ⟨H9, I9, q9⟩ => ?_
      have fin : ∀ {s' : Shared} {H' : Hp}, Inv (X.blk s3 H3 scope ce fp) ([] ++ pinsAt fp s7.heap) τ H' s' → Nx H' → ∃ m, m < n ∧ ∃ i H', Inv (X.blk s3 H3 scope ce fp) [] (wipe σ (own.map (·.2))) H' s' ∧ tn i s'.heap ∧ (∀ b ∈ fp, H' b = none) ∧ W i m H' := fun {s' H'} I' nx => by
        obtain ⟨m', less, w'⟩ := nxt H' nx
        have pins' : ∀ b ∈ fp, ∀ o, s7.heap.get? b = some o → s'.heap.get? b = some o ∧ H' b = none := fun b hb o e =>
          have z := I'.pin (b, o) (List.mem_append_right _ (List.mem_append_right _ (mem_pinsAt hb e)))
          ⟨z.1, z.2.1⟩
        refine ⟨m', less, i + 1, H', (I'.unpinned (pins := [])).weak (by rw [← same, wipe_length]) (fun j v e => ?_), T.keep _ _ _ st7 fun b hb o e => (pins' b hb o e).1, fun b hb => ?_, w'⟩
        · rw [← same] at e
          exact (wipe_some e).1
        · obtain ⟨o, e, _⟩ := T.obj _ _ st7 b hb
          exact (pins' b hb o e).2
      cases b with
      | false =>
        rw [if_neg Bool.false_ne_true] at q9 ⊢
        exact fin I9 q9
      | true =>
        rw [if_pos rfl] at q9 ⊢
        refine thnF (E1.run _ s9 τ H9 _ I9 q9) fun v s10 ⟨yv, H10, I10, r10, z, zs, ey, hD10, few, nx⟩ => ?_
        subst ey
        obtain ⟨t, rfl⟩ := r10
        exact add_txt (X := X.blk s3 H3 scope ce fp) I10 hD10 few fun s11 I11 => fin I11 nx
  exact PpSet.codeAny_compStart_set loop (T.self X.A 0 _ _ _ st4 loop)
end
/-- over a tuple that stays: what the turns that give put in -/
theorem cs_tup {w : World} {K : PySem.W.Frag} {σ : L2.St} {H : Hp} {Q : VK} {tt : TT} {te : TE} {j : Nat} {vs : List Nat} {a : Addr} {xs : List V} (f : Nat → Option Str) (hn : xs.length ≤ 900) (hx : SqT K H a xs) (hw : ∀ x, wipe ((wipe σ vs).set j (some x)) vs = wipe σ vs)
    (hb : ∀ (i : Nat) x H' (Q' : Bool → Hp → Prop), xs[i]? = some x → Ex H H' → (∀ H4, Ex H' H4 → Q' (f i).isSome H4) → tt ((wipe σ vs).set j (some x)) H' Q')
    (he : ∀ (i : Nat) x H' (Q' : VK) z, xs[i]? = some x → f i = some z → Ex H H' → (∀ H4, Ex H' H4 → Q' (.str z) H4) → te ((wipe σ vs).set j (some x)) H' Q')
    (q : ∀ p (zs : List Str) H2, H p = none → Ex H H2 → H2 p = some (SetO2 w p zs) → (∀ z, z ∈ zs ↔ ∃ i, i < xs.length ∧ f i = some z) → zs.length ≤ xs.length → Q (.ref p) H2) : CompS w (Itt K a) (gName j) tt te vs σ H Q := by
  intro D hD
  refine ⟨fun i m H' => m = xs.length - i ∧ i ≤ xs.length ∧ Ex H H' ∧ ∃ zs : List Str, H' D = some (SetO2 w D zs) ∧ (∀ z, z ∈ zs ↔ ∃ k, k < i ∧ f k = some z) ∧ zs.length ≤ i, ⟨xs.length, rfl, Nat.zero_le _, Ex.new hD, [], upd_same, fun z => by simp, Nat.le_refl _⟩, ?_⟩
  rintro i m H' ⟨rfl, hi, e, zs, hz, mem, len⟩
  by_cases lt : i < xs.length
  · refine .inr ⟨⟨xs, xs[i], ex_t e hx, by simp [lt]⟩, fun H'' => Ex H H'' ∧ ∃ zs : List Str, H'' D = some (SetO2 w D zs) ∧ (∀ z, z ∈ zs ↔ ∃ k, k < i + 1 ∧ f k = some z) ∧ zs.length ≤ i + 1, fun H'' p => ⟨xs.length - (i + 1), by omega, rfl, lt, p⟩, fun x H'' y => ?_⟩
    obtain ⟨rfl, y⟩ := y
    have hxi : xs[i]? = some x := y xs (ex_t e hx)
    refine ⟨hw x, hb i x _ _ hxi e fun H4 e4 => ?_⟩
    cases hf : f i with
    | none =>
      show Ex H H4 ∧ _
      refine ⟨e.trans e4, zs, e4 _ _ hz, fun z => (mem z).trans ⟨fun ⟨k, a, b⟩ => ⟨k, by omega, b⟩, fun ⟨k, a, b⟩ => ⟨k, ?_, b⟩⟩, by omega⟩
      rcases Nat.lt_succ_iff_lt_or_eq.mp a with a | a
      · exact a
      · subst a
        rw [hf] at b
        cases b
    | some z0 =>
      show te _ H4 _
      refine he i x H4 _ z0 hxi hf (e.trans e4) fun H5 e5 => ⟨z0, zs, rfl, e5 _ _ (e4 _ _ hz), by omega, Ex.mut ((e.trans e4).trans e5) hD, addS zs z0, upd_same, fun z => ?_, ?_⟩
      · rw [mem_addS, mem z]
        constructor
        · rintro (rfl | ⟨k, a, b⟩)
          · exact ⟨i, by omega, hf⟩
          · exact ⟨k, by omega, b⟩
        · rintro ⟨k, a, b⟩
          rcases Nat.lt_succ_iff_lt_or_eq.mp a with a | a
          · exact .inr ⟨k, a, b⟩
          · subst a
            rw [hf] at b
            exact .inl (Option.some.inj b).symm
      · have := addS_len zs z0
        omega
  · have ei : i = xs.length := by omega
    subst ei
    exact .inl ⟨⟨xs, ex_t e hx, Nat.le_refl _⟩, q D zs H' hD e hz mem len⟩

end

local macro_rules | `(tactic| walk_at "ho") => `(tactic| first | assumption | exact upd_same | exact Ex.app (by assumption) (by walk_at "ho") | exact Mu.app (by assumption) (by assumption) (by walk_at "ho"))
local macro_rules | `(tactic| walk_at "ex") => `(tactic| first | assumption | exact Ex.refl _ | exact ex_tr (by assumption) (by walk_at "ex"))
local macro_rules | `(tactic| walk_at "sl") => `(tactic| first | assumption | exact sq_of (by walk_at "ho") | exact ex_l (by assumption) (by walk_at "sl"))
local macro_rules | `(tactic| walk_at "st") => `(tactic| first | assumption | exact st_of (by walk_at "ho") | exact ex_t (by assumption) (by walk_at "st"))
local macro_rules | `(tactic| walk_at "at") => `(tactic| first | assumption | with_reducible exact at_0 | with_reducible exact at_1 | with_reducible exact at_2 | with_reducible exact at_3 | with_reducible exact at_4 | with_reducible exact at_5 | with_reducible exact at_6 | with_reducible exact at_7 | with_reducible exact at_8 | with_reducible exact at_9 | with_reducible exact atm_1 | with_reducible exact atm_2 | with_reducible exact atm_3 | with_reducible exact atm_4 | with_reducible exact atm_5 | with_reducible exact atm_6 | exact atI_nat (by assumption))
local macro_rules | `(tactic| walk_at "side") => `(tactic| first
  | decide | omega | exact Or.inr ⟨by decide, by decide⟩ | exact Or.inl ⟨by decide, by decide⟩ | exact Or.inl ⟨by omega, by omega⟩ | exact Or.inr ⟨by omega, by omega⟩ | exact ⟨by decide, by decide, by decide⟩ | exact ⟨by decide, by decide⟩ | exact ⟨by omega, by omega⟩)
local macro_rules | `(tactic| walk_at "sz") => `(tactic| first | assumption | omega | (simp only [List.length_cons, List.length_nil, List.length_append, List.length_map] at *; omega))
local macro_rules | `(tactic| walk_at "ln") => `(tactic| first | decide | omega | (constructor <;> first | decide | omega) | (simp only [List.length_cons, List.length_nil, List.length_append, List.length_map, List.length_flatten, List.length_replicate]; omega))
local macro_rules | `(tactic| walk_at "lz") => `(tactic| first | assumption | (show TxtOk 60 (Str.ofString _); decide +kernel))
local macro_rules | `(tactic| walk_at "l10") => `(tactic| first | assumption | exact ⟨Nat.le_trans (And.left (by assumption : TxtOk _ _)) (by decide), And.right (by assumption : TxtOk _ _)⟩ | (show TxtOk 10 (Str.ofString _); decide +kernel))
local macro_rules | `(tactic| walk_at "sh") => `(tactic| first | exact short_lit (by decide +kernel) (by decide) | exact short_of (by assumption) (by decide))
local macro_rules | `(tactic| walk_at "new") => `(tactic| ((with_reducible show ∀ p : Addr, _ = none → _); intro p hp; generalize hX : upd _ p _ = H2; have hX2 := gen1 hp hX; clear hX; obtain ⟨e2, h2⟩ := hX2))
local macro_rules | `(tactic| walk_at "mut") => `(tactic| (generalize hX : upd _ _ _ = H2; have hX2 := gen2 hX; clear hX; obtain ⟨e2, h2⟩ := hX2))
local macro_rules | `(tactic| walk_at "rd1") => `(tactic| first
  | with_reducible refine w_seq ?_
  | with_reducible refine w_op ?_
  | ((with_reducible show tVar _ _ _ _); refine w_var (by exact rfl) ?_)
  | with_reducible refine w_c ?_
  | with_reducible refine w_cons ?_
  | with_reducible refine w_nil ?_
  | with_reducible refine w_asg ?_
  | ((with_reducible refine w_gName ?_); try dsimp only [List.set_cons_succ, List.set_cons_zero])
  | with_reducible refine w_rI0 ?_
  | ((with_reducible refine w_rI ?_ ?_); (first | walk_at "side" | (dsimp only; walk_at "side")))
  | with_reducible refine w_rU ?_
  | with_reducible refine w_un ?_
  | with_reducible refine w_eqS ?_ | with_reducible refine w_neS ?_ | with_reducible refine w_eqI ?_ | with_reducible refine w_neI ?_
  | with_reducible refine w_tup ?_ | with_reducible refine w_lst ?_
  | ((with_reducible refine w_size ?_ ?_); first | decide | decide +kernel | (simp only [List.length_cons, List.length_nil]; omega))
  | with_reducible refine w_cb ?_ | with_reducible refine w_call ?_ | with_reducible refine w_bm ?_ | with_reducible refine w_bm0 ?_
  | ((with_reducible show tyV _ _ (V.ref _) _ ∧ _); refine w_tyL (by walk_at "sl") ?_) | with_reducible refine w_tyS ?_
  | ((with_reducible show rIxL _ _ _ _ _); refine w_ixL (by walk_at "sl") (by walk_at "at") ?_)
  | ((with_reducible show rIxT _ _ _ _ _); refine w_ixT (by walk_at "st") (by walk_at "at") ?_)
  | ((with_reducible show ∃ a, ∃ _, [V.ref _] = [V.ref a] ∧ _); first | refine w_lenL (by walk_at "sl") ?_ | refine w_lenT (by walk_at "st") ?_)
  | with_reducible refine w_test ?_ | with_reducible refine w_tB ?_ | with_reducible refine w_tand ?_ | with_reducible refine w_tor ?_ | with_reducible refine w_tnot ?_ | with_reducible refine w_tyes ?_ | with_reducible refine w_tif ?_
  | with_reducible refine w_if ?_ | with_reducible refine w_next ?_ | with_reducible refine w_cont ?_ | with_reducible refine w_brk ?_ | with_reducible refine w_drop ?_ | with_reducible refine w_ret ?_
  | with_reducible refine w_par ?_ | with_reducible refine w_par3 ?_ | with_reducible refine w_two ?_ | with_reducible refine w_three ?_
  | with_reducible refine w_gSub ?_
  | ((with_reducible show rAppend _ _ _ _); refine w_append (by walk_at "ho") (by walk_at "sz") ?_; walk_at "mut")
  | ((with_reducible show rSetL _ _ _ _ _); refine w_setL (by walk_at "ho") (by exact rfl) ?_; walk_at "mut")
  | with_reducible refine w_tSl ?_ | with_reducible refine w_noPart ?_ | with_reducible refine w_part ?_
  | with_reducible refine w_for ?_ | with_reducible refine w_lc ?_ | with_reducible refine w_iR1 ?_ | with_reducible refine w_iR2 ?_ | with_reducible refine w_iL ?_ | with_reducible refine w_iT ?_
  | ((with_reducible show ∃ b, V.ref _ = V.ref b ∧ (∃ xs, SqL _ _ b xs) ∧ _); refine w_itL (by walk_at "sl") ?_) | ((with_reducible show ∃ b, V.ref _ = V.ref b ∧ (∃ xs, SqT _ _ b xs) ∧ _); refine w_itT (by walk_at "st") ?_)
  | ((with_reducible refine w_r1 ?_ ?_); walk_at "side") | ((with_reducible refine w_r2 ?_ ?_); walk_at "side")
  | with_reducible refine w_bl ?_ | with_reducible refine w_int ?_ | with_reducible refine w_ints ?_ | with_reducible refine w_strs ?_ | with_reducible refine w_str2 ?_ | with_reducible refine w_isN ?_
  | ((with_reducible show rAddA _ _ _ _); refine w_addA (by walk_at "lz") (by walk_at "lz") (by walk_at "ln") ?_; intro r hr)
  | ((with_reducible show rMulS _ _ _ _); refine w_mulS (by walk_at "l10") (by walk_at "ln") ?_; intro r hr)
  | ((with_reducible show rStrA _ _ _); refine w_strA (by walk_at "ln") ?_; intro r hr)
  | ((with_reducible show rCat _ _ _ _); refine w_cat (by walk_at "ho") (by walk_at "ho") (by walk_at "ln") ?_)
  | ((with_reducible show rRep _ _ _ _); refine w_rep (by walk_at "ho") (by walk_at "ln") (by walk_at "ln") ?_)
  | ((with_reducible show rIxS _ _ _ _); refine w_ixSA (by first | assumption | (show TxtOk 60 (Str.ofString _); decide +kernel) | (show TxtOk 60 (Str.ofString _ ++ Str.ofString _); decide +kernel)) (by decide) (by omega) (by first | exact Int.lt_of_lt_of_le (by assumption) (by decide +kernel) | (have h := (by decide +kernel : (Str.ofString "abcdefghijklmnopqrstuvwxyz").length = 26); omega)) ?_; intro r hr)
  | ((with_reducible show ∃ a, ∃ zs, [V.ref _] = [V.ref a] ∧ ((SqL _ _ a zs ∧ ∀ l, _ → _) ∨ _)); refine w_tupL (by walk_at "sl") ?_)
  | ((with_reducible show ∃ a, ∃ zs, [V.ref _] = [V.ref a] ∧ (SqL _ _ a zs ∨ SqT _ _ a zs) ∧ ∀ l, _ → _); first | refine w_lstL (by walk_at "sl") ?_ | refine w_lstT (by walk_at "st") ?_)
  | walk_at "new")
local macro_rules | `(tactic| walk_at "rd") => `(tactic| repeat walk_at "rd1")

def topS (i : Nat) : Stmt := PySem.Challenge.pw_whoholds_k02_names_boxes_slots.main.body.getD i (.Pass ⟨0, 0, 0, 0⟩)
abbrev s_names_of : Stmt := topS 1
theorem sc_names_of : FnScope ["program", "names", "row"] ["program"] (defScope s_names_of) := ⟨rfl, rfl, rfl, by decide +kernel, rfl, by decide +kernel, by decide +kernel⟩
abbrev s_boxes_of : Stmt := topS 2
theorem sc_boxes_of : FnScope ["program", "row"] ["program"] (defScope s_boxes_of) := ⟨rfl, rfl, rfl, by decide +kernel, rfl, by decide +kernel, by decide +kernel⟩
abbrev s_slots_of : Stmt := topS 3
theorem sc_slots_of : FnScope ["program", "row"] ["program"] (defScope s_slots_of) := ⟨rfl, rfl, rfl, by decide +kernel, rfl, by decide +kernel, by decide +kernel⟩
abbrev s_Lfill : Stmt := topS 5
theorem sc_Lfill : FnScope ["_law_cell", "_law_at", "_law_x"] ["_law_cell", "_law_at"] (defScope s_Lfill) := ⟨rfl, rfl, rfl, by decide +kernel, rfl, by decide +kernel, by decide +kernel⟩
abbrev s_Lnext : Stmt := topS 6
theorem sc_Lnext : FnScope ["_law_pen", "_law_many", "_law_at", "_law_cell", "_law_found"] ["_law_pen", "_law_many"] (defScope s_Lnext) := ⟨rfl, rfl, rfl, by decide +kernel, rfl, by decide +kernel, by decide +kernel⟩
abbrev s_Lwords : Stmt := topS 7
theorem sc_Lwords : FnScope ["_law_pen", "_law_many", "_law_way", "_law_own", "_law_letters", "_law_signs", "_law_one", "_law_two", "_law_found", "_law_k", "_law_some"] ["_law_pen", "_law_many"] (defScope s_Lwords) := ⟨rfl, rfl, rfl, by decide +kernel, rfl, by decide +kernel, by decide +kernel⟩
abbrev s_Lrow : Stmt := topS 8
theorem sc_Lrow : FnScope ["_law_pen", "_law_names", "_law_boxes", "_law_slots", "_law_way", "_law_x", "_law_y", "_law_box", "_law_slot"] ["_law_pen", "_law_names", "_law_boxes", "_law_slots"] (defScope s_Lrow) := ⟨rfl, rfl, rfl, by decide +kernel, rfl, by decide +kernel, by decide +kernel⟩
abbrev s_Lprogram : Stmt := topS 9
theorem sc_Lprogram : FnScope ["_law_pen", "_law_most", "_law_many", "_law_sizes", "_law_names", "_law_boxes", "_law_slots", "_law_k"] ["_law_pen", "_law_most"] (defScope s_Lprogram) := ⟨rfl, rfl, rfl, by decide +kernel, rfl, by decide +kernel, by decide +kernel⟩
abbrev s_Ldue : Stmt := topS 10
theorem sc_Ldue : FnScope ["_law_told", "_law_names", "_law_boxes", "_law_slots", "_law_row_here", "_law_one"] ["_law_told"] (defScope s_Ldue) := ⟨rfl, rfl, rfl, by decide +kernel, rfl, by decide +kernel, by decide +kernel⟩
abbrev s_law : Stmt := topS 11
theorem sc_law : FnScope ["script", "_law_pen", "_law_k", "_law_told", "_law_turn", "_law_found", "_law_one"] ["script"] (defScope s_law) := ⟨rfl, rfl, rfl, by decide +kernel, rfl, by decide +kernel, by decide +kernel⟩
/-- what the top has bound -/
structure Top (K : PySem.W.Frag) (mg : Str → Option Value) where
  f_names_of : Addr
  d_names_of : FuncData
  F_names_of : Fun K "names_of" "names_of" s_names_of f_names_of d_names_of
  b_names_of : Binds K d_names_of ["program"] []
  g_names_of : mg "names_of" = some (.ref f_names_of)
  f_boxes_of : Addr
  d_boxes_of : FuncData
  F_boxes_of : Fun K "boxes_of" "boxes_of" s_boxes_of f_boxes_of d_boxes_of
  b_boxes_of : Binds K d_boxes_of ["program"] []
  g_boxes_of : mg "boxes_of" = some (.ref f_boxes_of)
  f_slots_of : Addr
  d_slots_of : FuncData
  F_slots_of : Fun K "slots_of" "slots_of" s_slots_of f_slots_of d_slots_of
  b_slots_of : Binds K d_slots_of ["program"] []
  g_slots_of : mg "slots_of" = some (.ref f_slots_of)
  f_Lfill : Addr
  d_Lfill : FuncData
  F_Lfill : Fun K "_law_fill" "_law_fill" s_Lfill f_Lfill d_Lfill
  b_Lfill : Binds K d_Lfill ["_law_cell", "_law_at"] []
  g_Lfill : mg "_law_fill" = some (.ref f_Lfill)
  f_Lnext : Addr
  d_Lnext : FuncData
  F_Lnext : Fun K "_law_next" "_law_next" s_Lnext f_Lnext d_Lnext
  b_Lnext : Binds K d_Lnext ["_law_pen", "_law_many"] []
  g_Lnext : mg "_law_next" = some (.ref f_Lnext)
  f_Lwords : Addr
  d_Lwords : FuncData
  F_Lwords : Fun K "_law_words" "_law_words" s_Lwords f_Lwords d_Lwords
  b_Lwords : Binds K d_Lwords ["_law_pen", "_law_many"] []
  g_Lwords : mg "_law_words" = some (.ref f_Lwords)
  f_Lrow : Addr
  d_Lrow : FuncData
  F_Lrow : Fun K "_law_row" "_law_row" s_Lrow f_Lrow d_Lrow
  b_Lrow : Binds K d_Lrow ["_law_pen", "_law_names", "_law_boxes", "_law_slots"] []
  g_Lrow : mg "_law_row" = some (.ref f_Lrow)
  f_Lprogram : Addr
  d_Lprogram : FuncData
  F_Lprogram : Fun K "_law_program" "_law_program" s_Lprogram f_Lprogram d_Lprogram
  b_Lprogram : Binds K d_Lprogram ["_law_pen", "_law_most"] []
  g_Lprogram : mg "_law_program" = some (.ref f_Lprogram)
  f_Ldue : Addr
  d_Ldue : FuncData
  F_Ldue : Fun K "_law_due" "_law_due" s_Ldue f_Ldue d_Ldue
  b_Ldue : Binds K d_Ldue ["_law_told"] []
  g_Ldue : mg "_law_due" = some (.ref f_Ldue)
  f_law : Addr
  d_law : FuncData
  F_law : Fun K "law" "law" s_law f_law d_law
  b_law : Binds K d_law ["script"] []
  g_law : mg "law" = some (.ref f_law)
  z_isinstance : mg "isinstance" = none
  z_len : mg "len" = none
  z_list : mg "list" = none
  z_range : mg "range" = none
  z_set : mg "set" = none
  z_sorted : mg "sorted" = none
  z_str : mg "str" = none
  z_tuple : mg "tuple" = none

/-! ### rows as data -/
inductive Row where
  | new (x b : Str) | move (x y : Str) | put (x s y : Str) | take (x s y : Str)
  deriving DecidableEq
def sNew : Str := Str.ofString "new"
def sMove : Str := Str.ofString "move"
def sPut : Str := Str.ofString "put"
def sTake : Str := Str.ofString "take"
def rowV : Row → List V
  | .new x b => [.str (Str.ofString "new"), .str x, .str b]
  | .move x y => [.str (Str.ofString "move"), .str x, .str y]
  | .put x s y => [.str (Str.ofString "put"), .str x, .str s, .str y]
  | .take x s y => [.str (Str.ofString "take"), .str x, .str s, .str y]
def RowAt (r : Row) (v : V) (H : Hp) : Prop := ∃ p, v = .ref p ∧ H p = some (.tup (rowV r))
theorem rowAt_keeps (r : Row) : Keeps (RowAt r) := by
  refine ⟨fun y H H' e ⟨p, h1, h2⟩ => ⟨p, h1, e _ _ h2⟩, fun y H D xs ys hD ⟨p, h1, h2⟩ => ⟨p, h1, ?_⟩⟩
  rw [upd_ne (ne_of h2 hD (by intro z; cases z))]
  exact h2
/-- the words of a row come from these -/
def RowIn (xs bs ss : List Str) : Row → Prop
  | .new x b => x ∈ xs ∧ b ∈ bs
  | .move x y => x ∈ xs ∧ y ∈ xs
  | .put x s y => x ∈ xs ∧ s ∈ ss ∧ y ∈ xs
  | .take x s y => x ∈ xs ∧ s ∈ ss ∧ y ∈ xs
/-- some row of these words -/
def RowOf (xs bs ss : List Str) (v : V) (H : Hp) : Prop := ∃ r, RowIn xs bs ss r ∧ RowAt r v H
theorem rowOf_keeps (xs bs ss : List Str) : Keeps (RowOf xs bs ss) :=
  ⟨fun y H H' e ⟨r, h1, h2⟩ => ⟨r, h1, (rowAt_keeps r).1 _ _ _ e h2⟩, fun y H D xs ys hD ⟨r, h1, h2⟩ => ⟨r, h1, (rowAt_keeps r).2 _ _ _ _ _ hD h2⟩⟩

def spFill : Sp := fun vs H Q _ => ∃ n m : Int, vs = [.int n, .int m] ∧ ∀ r : Int, Q (.int r) H
section
variable {P : Program} {w : World} {K : PySem.W.Frag} {mg : Str → Option Value} {base : Heap}
theorem ok_Lfill (T : Top K mg) : FnOk P w K mg base CX0 1 T.f_Lfill T.d_Lfill ["_law_cell", "_law_at"] spFill := by
  refine T.F_Lfill.ok sc_Lfill (fun vs H Q E h => ?_) (fun cdv A outer s H vs Q E hr h => ?_)
  · obtain ⟨n, m, rfl, _⟩ := h
    rfl
  · obtain ⟨n, m, rfl, q⟩ := h
    refine ⟨_, (pss_cons (ps_if (pt_cmpR op_ge (pv 0) (pe_op op_pow pe_int pe_int) (nomark _))
            (pss_one (ps_ret (pv 0)))
            pss_nil)
          (pss_cons (ps_set (i := 2) sc_Lfill.nd rfl (Or.inl rfl) (pe_op op_mod (pe_op op_add (pe_op op_add (pe_op op_mul (pe_op op_mod (pv 0) pe_int) pe_int) (pe_op op_mul (pv 1) pe_int)) pe_int) pe_int))
          (pss_cons (ps_set (i := 2) sc_Lfill.nd rfl (Or.inl rfl) (pe_op op_mod (pe_op op_add (pe_op op_add (pe_op op_mul (pv 2) (pv 2)) (pe_op op_mul pe_int (pv 2))) (pv 1)) pe_int))
          (pss_one (ps_ret (pe_op op_add (pe_op op_mul (pv 2) pe_int) (pe_op op_mod (pe_op op_add (pe_op op_mul (pv 2) (pv 2)) (pe_op op_mul pe_int (pv 1))) pe_int))))))), ?_⟩
    rw [show start ["_law_cell", "_law_at", "_law_x"] [V.int n, V.int m] = [some (V.int n), some (V.int m), none] from rfl]
    try dsimp only [cxOf]
    walk_at "rd"
    refine ite2 (fun _ => ?_) (fun _ => ?_)
    · walk_at "rd"
      exact q _
    · walk_at "rd"
      exact q _
end

def spNext (K : PySem.W.Frag) : Sp := fun vs H Q _ => ∃ (a sc : Addr) (ns : List Int) (m : Int), vs = [.ref a, .int m] ∧ H a = some (PenO a sc) ∧ SqL K H sc (ns.map V.int) ∧ 0 < m ∧ m < 1000000 ∧
  ∀ (r : Int) H', 0 ≤ r → r < m → Ex H H' → Q (.int r) H'
section
variable {P : Program} {w : World} {K : PySem.W.Frag} {mg : Str → Option Value} {base : Heap}
theorem ok_Lnext (T : Top K mg) : FnOk P w K mg base CX0 2 T.f_Lnext T.d_Lnext ["_law_pen", "_law_many"] (spNext K) := by
  refine T.F_Lnext.ok sc_Lnext (fun vs H Q E h => ?_) (fun cdv A outer s H vs Q E hr h => ?_)
  · obtain ⟨a, sc, ns, m, rfl, _⟩ := h
    rfl
  · obtain ⟨a, sc, ns, m, rfl, hp, hsc, m0, m1, q⟩ := h
    refine ⟨_, (pss_open (pss_cut (ps_if (pt_cmpR op_lt (pe_ix ix_list (pv 0) pe_int (fun _ _ => rfl)) (pv 1) (nomark _))
            (pss_cons (ps_set (i := 2) sc_Lnext.nd rfl (Or.inl rfl) (pe_ix ix_list (pv 0) pe_int (fun _ _ => rfl)))
          (pss_cons (ps_set (i := 3) sc_Lnext.nd rfl (Or.inl rfl) pe_int)
          (pss_cut (ps_if (pt_cmpR op_lt (pv 2) (pe_callB call_len_seq (by rfl) T.z_len PySem.boot_len (pa_cons (pe_ix ix_list (pv 0) pe_int (fun _ _ => rfl)) pa_nil)) (nomark _))
            (pss_one (ps_set (i := 3) sc_Lnext.nd rfl (Or.inl rfl) (pe_ix ix_list (pe_ix ix_list (pv 0) pe_int (fun _ _ => rfl)) (pv 2) (fun _ _ => rfl))))
            (pss_one (ps_if (pt_cmpR op_gt (pe_callB call_len_seq (by rfl) T.z_len PySem.boot_len (pa_cons (pe_ix ix_list (pv 0) pe_int (fun _ _ => rfl)) pa_nil)) pe_int (nomark _))
            (pss_one (ps_set (i := 3) sc_Lnext.nd rfl (Or.inl rfl) (pe_op op_add (pe_op op_mod (pe_ix ix_list (pe_ix ix_list (pv 0) pe_int (fun _ _ => rfl)) (pe_op op_mod (pe_op op_mul (pv 2) pe_int) (pe_callB call_len_seq (by rfl) T.z_len PySem.boot_len (pa_cons (pe_ix ix_list (pv 0) pe_int (fun _ _ => rfl)) pa_nil))) (fun _ _ => rfl)) pe_int) (pe_op op_mul (pv 2) pe_int))))
            pss_nil)))
          (pss_cons (ps_asg (pe_op op_add (pv 2) pe_int) (pg_sub (pv 0) pe_int set_list))
          (pss_one (ps_asg (pe_call (ok_Lfill T) (hr.mono (by decide)) (by rfl) T.g_Lfill T.F_Lfill.kp T.b_Lfill .nil pass0 (pa_cons (pv 3) (pa_cons (pv 2) pa_nil))) (pg_sub (pv 0) pe_int set_list)))))))
            pss_nil)
          (pss_cons (ps_set (i := 4) sc_Lnext.nd rfl (Or.inl rfl) (pe_op op_mod (pe_ix ix_list (pv 0) pe_int (fun _ _ => rfl)) (pv 1)))
          (pss_cons (ps_asg (pe_op op_fdiv (pe_ix ix_list (pv 0) pe_int (fun _ _ => rfl)) (pv 1)) (pg_sub (pv 0) pe_int set_list))
          (pss_shut (pss_one (ps_ret (pv 4)))))))), ?_⟩
    rw [show start ["_law_pen", "_law_many", "_law_at", "_law_cell", "_law_found"] [V.ref a, V.int m] = [some (V.ref a), some (V.int m), none, none, none] from rfl]
    try dsimp only [cxOf]
    refine w_open hp fun i c i0 => ?_
    generalize hX : upd H a _ = H1
    obtain ⟨u1, h1⟩ := gen2 hX
    clear hX
    have s1 : SqL K H1 sc _ := u1.seq hp hsc
    refine w_cut (fun σ' H' => ∃ (i c : Int) (x y : Option V), 0 ≤ i ∧ σ' = [some (.ref a), some (.int m), x, y, none] ∧ Mu a H H' ∧ H' a = some (.lst [.ref sc, .int i, .int c])) ?_ ?_
    · walk_at "rd"
      refine ite2 (fun _ => ?_) (fun _ => ?_)
      · walk_at "rd"
        refine w_cut (fun σ' H' => ∃ c : Int, σ' = [some (.ref a), some (.int m), some (.int i), some (.int c), none] ∧ H' = H1) ?_ ?_
        · walk_at "rd"
          refine ite2 (fun h => ?_) (fun h => ?_)
          · have h' := of_decide_eq_true h
            rw [List.length_map] at h'
            obtain ⟨v, hv⟩ := at_ints i0 h'
            walk_at "rd"
            exact ⟨v, rfl, rfl⟩
          · walk_at "rd"
            refine ite2 (fun h2 => ?_) (fun h2 => ?_)
            · have h2' := of_decide_eq_true h2
              have b0 : 0 ≤ i * 7 % ((ns.map V.int).length : Int) := Int.emod_nonneg _ (by omega)
              have b1 : i * 7 % ((ns.map V.int).length : Int) < (ns.length : Int) := by
                have := Int.emod_lt_of_pos (i * 7) h2'
                rw [List.length_map] at this ⊢
                exact this
              obtain ⟨v, hv⟩ := at_ints b0 b1
              walk_at "rd"
              exact ⟨_, rfl, rfl⟩
            · walk_at "rd"
              exact ⟨_, rfl, rfl⟩
        · rintro _ _ ⟨c2, rfl, rfl⟩
          walk_at "rd"
          refine ⟨c2, i, rfl, fun r => ?_⟩
          walk_at "rd"
          rename_i Ha ua ha Hb ub hb
          exact ⟨i + 1, r, _, _, by omega, rfl, (u1.trans ua).trans ub, hb⟩
      · walk_at "rd"
        exact ⟨i, c, _, _, i0, rfl, u1, h1⟩
    · rintro _ H2 ⟨i, c, x, y, i0, rfl, u2, h2⟩
      walk_at "rd"
      rename_i Ha ua ha
      refine w_shut (i := i) (c := c / m) ha i0 ?_
      walk_at "rd"
      exact q _ _ (Int.emod_nonneg _ (by omega)) (Int.emod_lt_of_pos _ m0) (pen_ex (u2.trans ua) hp)
theorem u_next {a sc : Addr} {ns : List Int} {m : Int} {H : Hp} {Q : VK} {E : XK} (h : H a = some (PenO a sc)) (hs : SqL K H sc (ns.map V.int)) (hm : 0 < m ∧ m < 1000000) (q : ∀ (r : Int) H', 0 ≤ r → r < m → Ex H H' → Q (.int r) H') :
    spNext K [.ref a, .int m] H Q E := ⟨a, sc, ns, m, rfl, h, hs, hm.1, hm.2, q⟩
end

local macro_rules | `(tactic| walk_at "rd1") => `(tactic| ((with_reducible show spNext _ _ _ _ _); refine u_next (by walk_at "ho") (by walk_at "sl") (by walk_at "ln") ?_; intro r H2 hr0 hr1 e2))

section
variable {P : Program} {w : World} {K : PySem.W.Frag} {mg : Str → Option Value} {base : Heap}
def spWords (K : PySem.W.Frag) : Sp := fun vs H Q _ => ∃ (a sc : Addr) (ns : List Int) (m : Int), vs = [.ref a, .int m] ∧ H a = some (PenO a sc) ∧ SqL K H sc (ns.map V.int) ∧ 0 ≤ m ∧ m ≤ 20 ∧
  ∀ (p : Addr) (ws : List Str) H', H p = none → Ex H H' → H' p = some (.lst (ws.map V.str)) → (ws.length : Int) = m → (∀ z ∈ ws, TxtOk 5000 z) → Q (.ref p) H'
theorem ok_Lwords (T : Top K mg) : FnOk P w K mg base CX0 3 T.f_Lwords T.d_Lwords ["_law_pen", "_law_many"] (spWords K) := by
  refine T.F_Lwords.ok sc_Lwords (fun vs H Q E h => ?_) (fun cdv A outer s H vs Q E hr h => ?_)
  · obtain ⟨a, sc, ns, m, rfl, _⟩ := h
    rfl
  · obtain ⟨a, sc, ns, m, rfl, hp, hsc, m0, m1, q⟩ := h
    refine ⟨_, (pss_cons (ps_set (i := 2) sc_Lwords.nd rfl (Or.inl rfl) (pe_call (ok_Lnext T) (hr.mono (by decide)) (by rfl) T.g_Lnext T.F_Lnext.kp T.b_Lnext .nil pass0 (pa_cons (pv 0) (pa_cons pe_int pa_nil))))
          (pss_cons (ps_set (i := 3) sc_Lwords.nd rfl (Or.inl rfl) (pe_lst (pa_cons pe_str (pa_cons pe_str (pa_cons pe_str (pa_cons pe_str (pa_cons pe_str (pa_cons pe_str (pa_cons pe_str (pa_cons pe_str (pa_cons pe_str (pa_cons pe_str (pa_cons pe_str (pa_cons pe_str pa_nil))))))))))))))
          (pss_cons (ps_set (i := 4) sc_Lwords.nd rfl (Or.inl rfl) pe_str)
          (pss_cons (ps_set (i := 5) sc_Lwords.nd rfl (Or.inl rfl) (pe_op op_add_str (pv 4) pe_str))
          (pss_cons (ps_set (i := 6) sc_Lwords.nd rfl (Or.inl rfl) (pe_ix ix_str (pv 4) (pe_call (ok_Lnext T) (hr.mono (by decide)) (by rfl) T.g_Lnext T.F_Lnext.kp T.b_Lnext .nil pass0 (pa_cons (pv 0) (pa_cons pe_int pa_nil))) (fun _ _ => rfl)))
          (pss_cons (ps_set (i := 7) sc_Lwords.nd rfl (Or.inl rfl) (pe_ix ix_str (pv 5) (pe_call (ok_Lnext T) (hr.mono (by decide)) (by rfl) T.g_Lnext T.F_Lnext.kp T.b_Lnext .nil pass0 (pa_cons (pv 0) (pa_cons pe_int pa_nil))) (fun _ _ => rfl)))
          (pss_cons (ps_set (i := 8) sc_Lwords.nd rfl (Or.inl rfl) (pe_lst pa_nil))
          (pss_cons (ps_for PassesOwn.never rfl (pi_range1 rfl T.z_range (pa_cons (pv 1) pa_nil)) (pg_name (i := 9) sc_Lwords.nd rfl (Or.inl rfl))
            (pss_cons (ps_set (i := 10) sc_Lwords.nd rfl (Or.inl rfl) (pe_lst (pa_cons (pe_ix ix_str (pv 4) (pv 9) (fun _ _ => rfl)) (pa_cons (pe_op op_addA pe_str (pe_callTy cr_strA (by rfl) T.z_str (by decide +kernel) (pa_cons (pv 9) pa_nil))) (pa_cons (pe_op op_mul_str pe_str (pe_op op_add (pv 9) pe_int)) (pa_cons (pe_op op_addA (pe_op op_addA (pv 6) (pv 7)) (pe_callTy cr_strA (by rfl) T.z_str (by decide +kernel) (pa_cons (pv 9) pa_nil))) pa_nil))))))
          (pss_cons (ps_set (i := 10) sc_Lwords.nd rfl (Or.inl rfl) (pe_op op_cat (pv 10) (pe_lst (pa_cons (pe_op op_addA pe_str (pe_ix ix_str (pv 4) (pe_op op_sub pe_int (pv 9)) (fun _ _ => rfl))) (pa_cons (pe_op op_addA (pe_op op_addA (pe_op op_addA (pe_op op_mul_str (pv 6) pe_int) (pv 7)) (pe_callTy cr_strA (by rfl) T.z_str (by decide +kernel) (pa_cons (pv 9) pa_nil))) pe_str) pa_nil)))))
          (pss_cons (ps_set (i := 10) sc_Lwords.nd rfl (Or.inl rfl) (pe_op op_cat (pv 10) (pe_lst (pa_cons (pe_ix ix_list (pe_op op_cat (pv 3) (pe_op op_rep (pe_lst (pa_cons (pe_op op_addA pe_str (pe_callTy cr_strA (by rfl) T.z_str (by decide +kernel) (pa_cons (pv 9) pa_nil))) pa_nil)) pe_int)) (pv 9) (fun _ _ => rfl)) (pa_cons (pe_op op_addA pe_str (pe_op op_mul_str pe_str (pv 9))) pa_nil)))))
          (pss_one (ps_expr (pe_bm PySem.F.plainAttrs_list PySem.F.slot_list_append PySem.F.type_list_append mt_append (pv 8) (pa_cons (pe_ix ix_list (pv 10) (pv 2) (fun _ _ => rfl)) pa_nil))))))))
          (pss_one (ps_ret (pv 8))))))))))), ?_⟩
    rw [show start ["_law_pen", "_law_many", "_law_way", "_law_own", "_law_letters", "_law_signs", "_law_one", "_law_two", "_law_found", "_law_k", "_law_some"] [V.ref a, V.int m] = [some (V.ref a), some (V.int m), none, none, none, none, none, none, none, none, none] from rfl]
    try dsimp only [cxOf]
    walk_at "rd"
    rename_i way Hb w0 w1 eb po hpo Hc ec hown one Hd o0 o1 ed ro hro two He t0 t1 ee rt hrt pf hpf Hf ef hf
    have E0 : Ex H Hf := (((eb.trans ec).trans ed).trans ee).trans ef
    have hpf0 : H pf = none := fresh_back (((eb.trans ec).trans ed).trans ee) hpf
    have hL := (by decide +kernel : (Str.ofString "abcdefghijklmnopqrstuvwxyz").length = 26)
    refine l_range (fun i σ' H' => ∃ (ws : List Str) (x y : Option V), σ' = [some (V.ref a), some (V.int m), some (V.int way), some (V.ref po), some (V.str (Str.ofString "abcdefghijklmnopqrstuvwxyz")), some (V.str (Str.ofString "abcdefghijklmnopqrstuvwxyz" ++ Str.ofString "0123456789.")), some (V.str ro), some (V.str rt), some (V.ref pf), x, y] ∧ Ex H H' ∧ Mu pf Hf H' ∧ H' pf = some (.lst (ws.map V.str)) ∧ ws.length = i ∧ ∀ z ∈ ws, TxtOk 5000 z)
      ⟨[], none, none, rfl, E0, fun _ _ _ h => h, hf, rfl, fun z h => nomatch h⟩ ?_ ?_
    · rintro k σ' H' hk ⟨ws, x, y, rfl, e1, mu, hw, hl, hsh⟩
      have hk2 : (k : Int) < 20 := by omega
      have hown' : H' po = some _ := mu po _ (fun z => by rw [z] at hown; exact absurd hpf (by rw [(ed.trans ee) _ _ hown]; intro q; cases q)) (((ed.trans ee).trans ef) _ _ hown)
      walk_at "rd"
      refine w_cat (by walk_at "ho") (by walk_at "ho") (by show (12 + 20 : Nat) ≤ 100000; decide) ?_
      walk_at "rd"
      refine w_ixLP (by walk_at "sl") (by omega) (Int.lt_of_lt_of_le hk2 (by show (20 : Int) ≤ ((32 : Nat) : Int); decide)) fun v hv => ?_
      obtain ⟨ov, rfl, hov⟩ : Short 5000 v := by
        rcases List.mem_append.mp hv with hv | hv
        · simp only [List.mem_cons, List.not_mem_nil, or_false] at hv
          rcases hv with rfl | rfl | rfl | rfl | rfl | rfl | rfl | rfl | rfl | rfl | rfl | rfl <;> exact short_lit (by decide +kernel) (by decide)
        · obtain ⟨l, hl1, hl2⟩ := List.mem_flatten.mp hv
          rw [(List.mem_replicate.mp hl1).2, List.mem_singleton] at hl2
          subst hl2
          exact short_of (by assumption) (by decide)
      walk_at "rd"
      refine w_ixLP (by walk_at "sl") w0 (by show way < ((8 : Nat) : Int); omega) fun v hv => ?_
      obtain ⟨nw, rfl, hnw⟩ : Short 5000 v := by
        simp only [List.mem_append, List.mem_cons, List.not_mem_nil, or_false] at hv
        rcases hv with ((rfl | rfl | rfl | rfl) | (rfl | rfl)) | (rfl | rfl) <;> exact short_of (by assumption) (by decide)
      walk_at "rd"
      rename_i Hl ml hm
      refine ⟨ws ++ [nw], _, _, rfl, ml.ex (e1.trans (by walk_at "ex")) hpf0, mu.trans ((Mu.of (by walk_at "ex")).trans ml), by rw [List.map_append]; exact hm, by rw [List.length_append, hl]; rfl, fun z hz => ?_⟩
      rcases List.mem_append.mp hz with hz | hz
      · exact hsh z hz
      · rw [List.mem_singleton] at hz
        rw [hz]
        exact hnw
    · rintro σ' H' ⟨ws, x, y, rfl, e1, mu, hw, hl, hsh⟩
      walk_at "rd"
      exact q _ ws _ hpf0 e1 hw (by omega) hsh
end

section
variable {P : Program} {w : World} {K : PySem.W.Frag} {mg : Str → Option Value} {base : Heap}
def WordsAt (H : Hp) (p : Addr) (xs : List Str) : Prop := H p = some (.lst (xs.map V.str)) ∧ 0 < xs.length ∧ xs.length ≤ 20
def spRow (K : PySem.W.Frag) : Sp := fun vs H Q _ => ∃ (a sc pn pb ps : Addr) (ns : List Int) (xs bs ss : List Str), vs = [.ref a, .ref pn, .ref pb, .ref ps] ∧ H a = some (PenO a sc) ∧ SqL K H sc (ns.map V.int) ∧
  WordsAt H pn xs ∧ WordsAt H pb bs ∧ WordsAt H ps ss ∧ ∀ (p : Addr) (r : Row) H', H p = none → Ex H H' → H' p = some (.tup (rowV r)) → RowIn xs bs ss r → Q (.ref p) H'
theorem ok_Lrow (T : Top K mg) : FnOk P w K mg base CX0 3 T.f_Lrow T.d_Lrow ["_law_pen", "_law_names", "_law_boxes", "_law_slots"] (spRow K) := by
  refine T.F_Lrow.ok sc_Lrow (fun vs H Q E h => ?_) (fun cdv A outer s H vs Q E hr h => ?_)
  · obtain ⟨a, sc, pn, pb, ps, ns, xs, bs, ss, rfl, _⟩ := h
    rfl
  · obtain ⟨a, sc, pn, pb, ps, ns, xs, bs, ss, rfl, hp, hsc, ⟨hn, n0, n1⟩, ⟨hb, b0, b1⟩, ⟨hs, s0, s1⟩, q⟩ := h
    refine ⟨_, (pss_cons (ps_set (i := 4) sc_Lrow.nd rfl (Or.inl rfl) (pe_call (ok_Lnext T) (hr.mono (by decide)) (by rfl) T.g_Lnext T.F_Lnext.kp T.b_Lnext .nil pass0 (pa_cons (pv 0) (pa_cons pe_int pa_nil))))
          (pss_cons (ps_set (i := 5) sc_Lrow.nd rfl (Or.inl rfl) (pe_ix ix_list (pv 1) (pe_call (ok_Lnext T) (hr.mono (by decide)) (by rfl) T.g_Lnext T.F_Lnext.kp T.b_Lnext .nil pass0 (pa_cons (pv 0) (pa_cons (pe_callB call_len_seq (by rfl) T.z_len PySem.boot_len (pa_cons (pv 1) pa_nil)) pa_nil))) (fun _ _ => rfl)))
          (pss_cons (ps_set (i := 6) sc_Lrow.nd rfl (Or.inl rfl) (pe_ix ix_list (pv 1) (pe_call (ok_Lnext T) (hr.mono (by decide)) (by rfl) T.g_Lnext T.F_Lnext.kp T.b_Lnext .nil pass0 (pa_cons (pv 0) (pa_cons (pe_callB call_len_seq (by rfl) T.z_len PySem.boot_len (pa_cons (pv 1) pa_nil)) pa_nil))) (fun _ _ => rfl)))
          (pss_cons (ps_set (i := 7) sc_Lrow.nd rfl (Or.inl rfl) (pe_ix ix_list (pv 2) (pe_call (ok_Lnext T) (hr.mono (by decide)) (by rfl) T.g_Lnext T.F_Lnext.kp T.b_Lnext .nil pass0 (pa_cons (pv 0) (pa_cons (pe_callB call_len_seq (by rfl) T.z_len PySem.boot_len (pa_cons (pv 2) pa_nil)) pa_nil))) (fun _ _ => rfl)))
          (pss_cons (ps_set (i := 8) sc_Lrow.nd rfl (Or.inl rfl) (pe_ix ix_list (pv 3) (pe_call (ok_Lnext T) (hr.mono (by decide)) (by rfl) T.g_Lnext T.F_Lnext.kp T.b_Lnext .nil pass0 (pa_cons (pv 0) (pa_cons (pe_callB call_len_seq (by rfl) T.z_len PySem.boot_len (pa_cons (pv 3) pa_nil)) pa_nil))) (fun _ _ => rfl)))
          (pss_cons (ps_if (pt_cmpR op_lt (pv 4) pe_int (nomark _))
            (pss_one (ps_ret (pe_tup (pa_cons pe_str (pa_cons (pv 5) (pa_cons (pv 7) pa_nil))))))
            pss_nil)
          (pss_cons (ps_if (pt_cmpR op_lt (pv 4) pe_int (nomark _))
            (pss_one (ps_ret (pe_tup (pa_cons pe_str (pa_cons (pv 5) (pa_cons (pv 6) pa_nil))))))
            pss_nil)
          (pss_one (ps_ret (pe_ix ix_list (pe_lst (pa_cons (pe_tup (pa_cons pe_str (pa_cons (pv 5) (pa_cons (pv 8) (pa_cons (pv 6) pa_nil))))) (pa_cons (pe_tup (pa_cons pe_str (pa_cons (pv 5) (pa_cons (pv 8) (pa_cons (pv 6) pa_nil))))) pa_nil))) (pe_op op_mod (pv 4) pe_int) (fun _ _ => rfl))))))))))), ?_⟩
    rw [show start ["_law_pen", "_law_names", "_law_boxes", "_law_slots", "_law_way", "_law_x", "_law_y", "_law_box", "_law_slot"] [V.ref a, V.ref pn, V.ref pb, V.ref ps] = [some (V.ref a), some (V.ref pn), some (V.ref pb), some (V.ref ps), none, none, none, none, none] from rfl]
    try dsimp only [cxOf]
    walk_at "rd"
    rename_i i1 H1 i0 i2 e1
    rw [List.length_map] at i2
    obtain ⟨x, hx, ax⟩ := at_strs i0 i2
    walk_at "rd"
    rename_i j1 H2 j0 j2 e2
    rw [List.length_map] at j2
    obtain ⟨y, hy, ay⟩ := at_strs j0 j2
    walk_at "rd"
    rename_i k1 H3 k0 k2 e3
    rw [List.length_map] at k2
    obtain ⟨b, hbb, ab⟩ := at_strs k0 k2
    walk_at "rd"
    rename_i l1 H4 l0 l2 e4
    rw [List.length_map] at l2
    obtain ⟨sl, hsl, asl⟩ := at_strs l0 l2
    walk_at "rd"
    refine ite2 (fun _ => ?_) (fun _ => ?_)
    · walk_at "rd"
      rename_i p hp0 H5 e5 h5
      exact q p (.new x b) _ (fresh_back (by walk_at "ex") hp0) (by walk_at "ex") h5 ⟨hx, hbb⟩
    · walk_at "rd"
      refine ite2 (fun _ => ?_) (fun _ => ?_)
      · walk_at "rd"
        rename_i p hp0 H5 e5 h5
        exact q p (.move x y) _ (fresh_back (by walk_at "ex") hp0) (by walk_at "ex") h5 ⟨hx, hy⟩
      · walk_at "rd"
        rename_i p1 hp1 H5 e5 h5 p2 hp2 H6 e6 h6 p3 hp3 H7 e7 h7
        refine w_ixLP (by walk_at "sl") (Int.emod_nonneg _ (by decide)) (by show _ < ((2 : Nat) : Int); exact Int.emod_lt_of_pos _ (by decide)) fun v hv => ?_
        simp only [List.mem_cons, List.not_mem_nil, or_false] at hv
        rcases hv with rfl | rfl
        · exact q p1 (.put x sl y) _ (fresh_back (by walk_at "ex") hp1) (by walk_at "ex") (by walk_at "ho") ⟨hx, hsl, hy⟩
        · exact q p2 (.take x sl y) _ (fresh_back (by walk_at "ex") hp2) (by walk_at "ex") (by walk_at "ho") ⟨hx, hsl, hy⟩
theorem u_words {a sc : Addr} {ns : List Int} {m : Int} {H : Hp} {Q : VK} {E : XK} (h : H a = some (PenO a sc)) (hs : SqL K H sc (ns.map V.int)) (hm : 1 ≤ m ∧ m ≤ 20)
    (q : ∀ (p : Addr) (ws : List Str) H', H p = none → Ex H H' → WordsAt H' p ws → (∀ z ∈ ws, TxtOk 5000 z) → Q (.ref p) H') : spWords K [.ref a, .int m] H Q E :=
  ⟨a, sc, ns, m, rfl, h, hs, by omega, by omega, fun p ws H' h1 h2 h3 h4 h5 => q p ws H' h1 h2 ⟨h3, by omega, by omega⟩ h5⟩
theorem u_row {a sc pn pb ps : Addr} {ns : List Int} {xs bs ss : List Str} {H : Hp} {Q : VK} {E : XK} (h : H a = some (PenO a sc)) (hs : SqL K H sc (ns.map V.int)) (h1 : WordsAt H pn xs) (h2 : WordsAt H pb bs) (h3 : WordsAt H ps ss)
    (q : ∀ (p : Addr) (r : Row) H', H p = none → Ex H H' → H' p = some (.tup (rowV r)) → RowIn xs bs ss r → Q (.ref p) H') : spRow K [.ref a, .ref pn, .ref pb, .ref ps] H Q E :=
  ⟨a, sc, pn, pb, ps, ns, xs, bs, ss, rfl, h, hs, h1, h2, h3, q⟩
theorem WordsAt.ex {H H' : Hp} {p : Addr} {xs : List Str} (h : WordsAt H p xs) (e : Ex H H') : WordsAt H' p xs := ⟨e _ _ h.1, h.2⟩
end

local macro_rules | `(tactic| walk_at "wo") => `(tactic| first | assumption | exact WordsAt.ex (by walk_at "wo1") (by walk_at "ex"))
local macro_rules | `(tactic| walk_at "wo1") => `(tactic| assumption)
local macro_rules | `(tactic| walk_at "rd1") => `(tactic| ((with_reducible show spWords _ _ _ _ _); refine u_words (by walk_at "ho") (by walk_at "sl") (by walk_at "ln") ?_; intro p ws H2 hp e2 h2 hws))
local macro_rules | `(tactic| walk_at "rd1") => `(tactic| ((with_reducible show spRow _ _ _ _ _); refine u_row (by walk_at "ho") (by walk_at "sl") (by walk_at "wo") (by walk_at "wo") (by walk_at "wo") ?_; intro p r H2 hp e2 h2 hri))

section
variable {P : Program} {w : World} {K : PySem.W.Frag} {mg : Str → Option Value} {base : Heap}
/-- a program at p -/
def ProgAt (H : Hp) (p : Addr) (rows : List Row) : Prop := ∃ vs : List V, H p = some (.tup vs) ∧ vs.length = rows.length ∧ ∀ (i : Nat) r, rows[i]? = some r → ∃ v, vs[i]? = some v ∧ RowAt r v H
theorem ProgAt.ex {H H' : Hp} {p : Addr} {rows : List Row} (h : ProgAt H p rows) (e : Ex H H') : ProgAt H' p rows := by
  obtain ⟨vs, h1, h2, h3⟩ := h
  exact ⟨vs, e _ _ h1, h2, fun i r hr => let ⟨v, a, b⟩ := h3 i r hr; ⟨v, a, (rowAt_keeps r).1 _ _ _ e b⟩⟩
def AllIn (xs bs ss : List Str) (rows : List Row) : Prop := ∀ r ∈ rows, RowIn xs bs ss r
/-- items told one by one are a list's -/
theorem rows_of {H : Hp} {xs bs ss : List Str} : ∀ (vs : List V), (∀ (i : Nat) y, vs[i]? = some y → RowOf xs bs ss y H) → ∃ rows : List Row, vs.length = rows.length ∧ (∀ (i : Nat) r, rows[i]? = some r → ∃ v, vs[i]? = some v ∧ RowAt r v H) ∧ AllIn xs bs ss rows
  | [], _ => ⟨[], rfl, fun i r h => by simp at h, fun r h => nomatch h⟩
  | v :: vs, h => by
    obtain ⟨rows, h1, h2, h3⟩ := rows_of vs fun i y (e : vs[i]? = some y) => h (i + 1) y e
    obtain ⟨r, r1, r2⟩ := h 0 v rfl
    refine ⟨r :: rows, by rw [List.length_cons, List.length_cons, h1], fun i r' e => ?_, fun r' e => ?_⟩
    · cases i with
      | zero =>
        have : r = r' := Option.some.inj e
        subst this
        exact ⟨v, rfl, r2⟩
      | succ i => exact h2 i r' e
    · rcases List.mem_cons.mp e with rfl | e
      · exact r1
      · exact h3 _ e
def spProgram (K : PySem.W.Frag) : Sp := fun vs H Q _ => ∃ (a sc : Addr) (ns : List Int) (m : Int), vs = [.ref a, .int m] ∧ H a = some (PenO a sc) ∧ SqL K H sc (ns.map V.int) ∧ 0 ≤ m ∧ m ≤ 60 ∧
  ∀ (p : Addr) (rows : List Row) (xs bs ss : List Str) H', H p = none → Ex H H' → ProgAt H' p rows → (rows.length : Int) ≤ m → AllIn xs bs ss rows → xs.length ≤ 20 → bs.length ≤ 20 → ss.length ≤ 20 →
    (∀ z ∈ xs, TxtOk 5000 z) → (∀ z ∈ bs, TxtOk 5000 z) → (∀ z ∈ ss, TxtOk 5000 z) → Q (.ref p) H'
theorem ok_Lprogram (T : Top K mg) : FnOk P w K mg base CX0 4 T.f_Lprogram T.d_Lprogram ["_law_pen", "_law_most"] (spProgram K) := by
  refine T.F_Lprogram.ok sc_Lprogram (fun vs H Q E h => ?_) (fun cdv A outer s H vs Q E hr h => ?_)
  · obtain ⟨a, sc, ns, m, rfl, _⟩ := h
    rfl
  · obtain ⟨a, sc, ns, m, rfl, hp, hsc, m0, m1, q⟩ := h
    refine ⟨_, (pss_cons (ps_set (i := 2) sc_Lprogram.nd rfl (Or.inl rfl) (pe_call (ok_Lnext T) (hr.mono (by decide)) (by rfl) T.g_Lnext T.F_Lnext.kp T.b_Lnext .nil pass0 (pa_cons (pv 0) (pa_cons (pe_op op_add (pv 1) pe_int) pa_nil))))
          (pss_cons (ps_set (i := 3) sc_Lprogram.nd rfl (Or.inl rfl) (pe_ix ix_list (pe_lst (pa_cons (pe_lst (pa_cons pe_int (pa_cons pe_int (pa_cons pe_int pa_nil)))) (pa_cons (pe_lst (pa_cons pe_int (pa_cons pe_int (pa_cons pe_int pa_nil)))) (pa_cons (pe_lst (pa_cons pe_int (pa_cons pe_int (pa_cons pe_int pa_nil)))) (pa_cons (pe_lst (pa_cons pe_int (pa_cons pe_int (pa_cons pe_int pa_nil)))) (pa_cons (pe_lst (pa_cons pe_int (pa_cons pe_int (pa_cons pe_int pa_nil)))) (pa_cons (pe_lst (pa_cons pe_int (pa_cons pe_int (pa_cons pe_int pa_nil)))) pa_nil))))))) (pe_call (ok_Lnext T) (hr.mono (by decide)) (by rfl) T.g_Lnext T.F_Lnext.kp T.b_Lnext .nil pass0 (pa_cons (pv 0) (pa_cons pe_int pa_nil))) (fun _ _ => rfl)))
          (pss_cons (ps_set (i := 4) sc_Lprogram.nd rfl (Or.inr rfl) (pe_call (ok_Lwords T) (hr.mono (by decide)) (by rfl) T.g_Lwords T.F_Lwords.kp T.b_Lwords .nil pass0 (pa_cons (pv 0) (pa_cons (pe_op op_add pe_int (pe_call (ok_Lnext T) (hr.mono (by decide)) (by rfl) T.g_Lnext T.F_Lnext.kp T.b_Lnext .nil pass0 (pa_cons (pv 0) (pa_cons (pe_ix ix_list (pv 3) pe_int (fun _ _ => rfl)) pa_nil)))) pa_nil))))
          (pss_cons (ps_set (i := 5) sc_Lprogram.nd rfl (Or.inr rfl) (pe_call (ok_Lwords T) (hr.mono (by decide)) (by rfl) T.g_Lwords T.F_Lwords.kp T.b_Lwords .nil pass0 (pa_cons (pv 0) (pa_cons (pe_op op_add pe_int (pe_call (ok_Lnext T) (hr.mono (by decide)) (by rfl) T.g_Lnext T.F_Lnext.kp T.b_Lnext .nil pass0 (pa_cons (pv 0) (pa_cons (pe_ix ix_list (pv 3) pe_int (fun _ _ => rfl)) pa_nil)))) pa_nil))))
          (pss_cons (ps_set (i := 6) sc_Lprogram.nd rfl (Or.inr rfl) (pe_call (ok_Lwords T) (hr.mono (by decide)) (by rfl) T.g_Lwords T.F_Lwords.kp T.b_Lwords .nil pass0 (pa_cons (pv 0) (pa_cons (pe_op op_add pe_int (pe_call (ok_Lnext T) (hr.mono (by decide)) (by rfl) T.g_Lnext T.F_Lnext.kp T.b_Lnext .nil pass0 (pa_cons (pv 0) (pa_cons (pe_ix ix_list (pv 3) pe_int (fun _ _ => rfl)) pa_nil)))) pa_nil))))
          (pss_one (ps_ret (pe_callTy call_tuple_of (by rfl) T.z_tuple (by decide +kernel) (pa_cons (pe_lc (own := [("_law_k", 7)]) (g := gName 7) (tt := tYes) (by rfl) sc_Lprogram.nd (pi_range1 rfl T.z_range (pa_cons (pv 2) pa_nil)) (blkOk_by (own := [("_law_k", 7)]) (N := ["_law_pen", "_law_most", "_law_many", "_law_sizes", "_law_names", "_law_boxes", "_law_slots", "_law_k"]) (sc := defScope s_Lprogram) (by decide +kernel)) (fun _ _ _ _ _ => pg_name (i := 7) sc_Lprogram.nd rfl (Or.inl rfl)) (fun _ _ _ _ _ => pts_nil) (fun _ _ _ _ _ => (pe_call (ok_Lrow T) (hr.mono (by decide)) (by rfl) T.g_Lrow T.F_Lrow.kp T.b_Lrow .nil pass0 (pa_cons (pv 0) (pa_cons (pv 4) (pa_cons (pv 5) (pa_cons (pv 6) pa_nil))))))) pa_nil))))))))), ?_⟩
    rw [show start ["_law_pen", "_law_most", "_law_many", "_law_sizes", "_law_names", "_law_boxes", "_law_slots", "_law_k"] [V.ref a, V.int m] = [some (V.ref a), some (V.int m), none, none, none, none, none, none] from rfl]
    try dsimp only [cxOf]
    walk_at "rd"
    rename_i many Hm many0 many1 em q1 hq1 H1 e1 h1 q2 hq2 H2 e2 h2 q3 hq3 H3 e3 h3 q4 hq4 H4 e4 h4 q5 hq5 H5 e5 h5 q6 hq6 H6 e6 h6 q7 hq7 H7 e7 h7 way H8 way0 way1 e8
    refine w_ixLP (by walk_at "sl") way0 (by show way < ((6 : Nat) : Int); omega) fun v hv => ?_
    obtain ⟨pz, c0, c1, c2, rfl, hz, hc⟩ : ∃ (pz : Addr) (c0 c1 c2 : Int), v = .ref pz ∧ H8 pz = some (.lst [.int c0, .int c1, .int c2]) ∧ 1 ≤ c0 ∧ c0 ≤ 20 ∧ 1 ≤ c1 ∧ c1 ≤ 20 ∧ 1 ≤ c2 ∧ c2 ≤ 20 := by
      simp only [List.mem_cons, List.not_mem_nil, or_false] at hv
      rcases hv with rfl | rfl | rfl | rfl | rfl | rfl
      · exact ⟨_, _, _, _, rfl, by walk_at "ho", by decide⟩
      · exact ⟨_, _, _, _, rfl, by walk_at "ho", by decide⟩
      · exact ⟨_, _, _, _, rfl, by walk_at "ho", by decide⟩
      · exact ⟨_, _, _, _, rfl, by walk_at "ho", by decide⟩
      · exact ⟨_, _, _, _, rfl, by walk_at "ho", by decide⟩
      · exact ⟨_, _, _, _, rfl, by walk_at "ho", by decide⟩
    clear hq1 h1 hq2 h2 hq3 h3 hq4 h4 hq5 h5 hq6 h6 h7 hq7 hv
    walk_at "rd"
    rename_i r1 H9 r10 r11 e9 px xs H10 hpx e10 hxs kxs r2 H11 r20 r21 e11 pb bs H12 hpb e12 hbs kbs r3 H13 r30 r31 e13 ps ss H14 hps e14 hss kss
    refine c_range (fun _ => RowOf xs bs ss) (fun _ => rowOf_keeps xs bs ss) (by omega) (fun _ => rfl) (fun i H' Q' hi e Hq => ?_) (fun p ys H2 hp e2 h2 hl hy => ?_)
    · walk_at "rd"
      rename_i pr r Hr hpr er hr' hri
      exact Hq _ _ (by walk_at "ex") ⟨r, hri, pr, rfl, hr'⟩
    · obtain ⟨rows, l1, l2, l3⟩ := rows_of ys hy
      walk_at "rd"
      rename_i pt hpt Ht et ht
      exact q pt rows xs bs ss Ht (fresh_back (by walk_at "ex") hpt) (by walk_at "ex") (ProgAt.ex ⟨ys, by walk_at "ho", l1, fun i r hr => let ⟨v, a, b⟩ := l2 i r hr; ⟨v, a, (rowAt_keeps r).1 _ _ _ et b⟩⟩ (Ex.refl _)) (by omega) l3 hxs.2.2 hbs.2.2 hss.2.2 kxs kbs kss
end

theorem u_setS {K : PySem.W.Frag} {w : World} {l : Addr} {ys : List Str} {H : Hp} {Q : VK} (h : SqL K H l (ys.map V.str)) (few : ys.length ≤ 1000) (q : ∀ p, H p = none → Q (.ref p) (upd H p (SetO2 w p (addAll [] ys)))) : rSetS K w [.ref l] H Q := ⟨l, ys, rfl, h, few, q⟩
theorem u_sortS {w : World} {a : Addr} {zs : List Str} {H : Hp} {Q : VK} (h : H a = some (SetO2 w a zs)) (few : zs.length ≤ 1000)
    (q : ∀ (p : Addr) (ys : List Str) H2, H p = none → Ex H H2 → H2 p = some (.lst (ys.map V.str)) → RisT ys → (∀ z, z ∈ ys ↔ z ∈ zs) → ys.length ≤ zs.length → Q (.ref p) H2) : rSortS w [.ref a] H Q :=
  ⟨a, zs, rfl, h, few, fun ys p ris mem len hp => q p ys _ hp (Ex.new hp) upd_same ris mem len⟩
theorem addAll_few {ys : List Str} {n : Nat} (h : ys.length ≤ n) : (addAll [] ys).length ≤ n := Nat.le_trans (addAll_len ys []) (by simpa using h)
theorem w_scS {w : World} {wi : TI} {g : TG} {tt : TT} {te : TE} {vs : List Nat} {σ : L2.St} {H : Hp} {Q : VK} (h : wi σ H fun J H1 => CompS w J g tt te vs σ H1 Q) : tScS w wi g tt te vs σ H Q := h

local macro_rules | `(tactic| walk_at "rd1") => `(tactic| first
  | with_reducible refine w_scS ?_
  | ((with_reducible show rSetS _ _ _ _ _); refine u_setS (by walk_at "sl") (by walk_at "ln") ?_)
  | ((with_reducible show rSortS _ _ _ _); refine u_sortS (by walk_at "ho") (by first | walk_at "ln" | exact addAll_few (by walk_at "ln")) ?_; intro p ys H2 hp e2 h2 hris hmem hlen))

/-! ### what a program uses -/
def rowNames : Row → List Str
  | .new x _ => [x]
  | .move x y => [x, y]
  | .put x _ y => [x, y]
  | .take x _ y => [x, y]
def rowBox : Row → Option Str
  | .new _ b => some b
  | _ => none
def rowSlot : Row → Option Str
  | .put _ s _ => some s
  | .take _ s _ => some s
  | _ => none
def namesL (rows : List Row) : List Str := rows.flatMap rowNames
theorem names_len : ∀ rows : List Row, (namesL rows).length ≤ 2 * rows.length
  | [] => Nat.le_refl _
  | r :: rows => by
    have ih := names_len rows
    show ((r :: rows).flatMap rowNames).length ≤ _
    rw [List.flatMap_cons, List.length_append, List.length_cons]
    have : (rowNames r).length ≤ 2 := by cases r <;> simp [rowNames]
    show _ + (namesL rows).length ≤ _
    omega
theorem names_take {rows : List Row} {i : Nat} {r : Row} (h : rows[i]? = some r) : namesL (rows.take (i + 1)) = namesL (rows.take i) ++ rowNames r := by
  rw [List.take_add_one, h]
  show (rows.take i ++ [r]).flatMap rowNames = _
  rw [List.flatMap_append]
  show _ ++ (rowNames r ++ []) = _
  rw [List.append_nil]
  rfl
theorem sNN : ¬ ((!decide (V.str (Str.ofString "new") = V.str (Str.ofString "new"))) = true) := by decide +kernel
theorem sMN : (!decide (V.str (Str.ofString "move") = V.str (Str.ofString "new"))) = true := by decide +kernel
theorem sPN : (!decide (V.str (Str.ofString "put") = V.str (Str.ofString "new"))) = true := by decide +kernel
theorem sTN : (!decide (V.str (Str.ofString "take") = V.str (Str.ofString "new"))) = true := by decide +kernel
/-- the i-th thing of a program's tuple -/
theorem ProgAt.get {H : Hp} {p : Addr} {rows : List Row} {vs : List V} (h : ∀ (i : Nat) r, rows[i]? = some r → ∃ v, vs[i]? = some v ∧ RowAt r v H) (hl : vs.length = rows.length) {i : Nat} {x : V} (hx : vs[i]? = some x) : ∃ r, rows[i]? = some r ∧ RowAt r x H := by
  have lt : i < rows.length := by
    have := (List.getElem?_eq_some_iff.mp hx).1
    omega
  obtain ⟨v, h1, h2⟩ := h i rows[i] (List.getElem?_eq_getElem lt)
  have : v = x := Option.some.inj (h1.symm.trans hx)
  subst this
  exact ⟨rows[i], List.getElem?_eq_getElem lt, h2⟩
section
variable {P : Program} {w : World} {K : PySem.W.Frag} {mg : Str → Option Value} {base : Heap}
/-- a new rising list of these texts -/
def TellS (L : List Str) (H : Hp) (Q : VK) : Prop := ∀ (p : Addr) (ys : List Str) H', H p = none → Ex H H' → H' p = some (.lst (ys.map V.str)) → RisT ys → (∀ z, z ∈ ys ↔ z ∈ L) → ys.length ≤ 1000 → Q (.ref p) H'
def spNamesOf : Sp := fun vs H Q _ => ∃ (a : Addr) (rows : List Row), vs = [.ref a] ∧ ProgAt H a rows ∧ rows.length ≤ 300 ∧ TellS (namesL rows) H Q
theorem ok_names_of (T : Top K mg) : FnOk P w K mg base CX0 1 T.f_names_of T.d_names_of ["program"] spNamesOf := by
  refine T.F_names_of.ok sc_names_of (fun vs H Q E h => ?_) (fun cdv A outer s H vs Q E hr h => ?_)
  · obtain ⟨a, rows, rfl, _⟩ := h
    rfl
  · obtain ⟨a, rows, rfl, ⟨vs, ha, hl, hv⟩, few, q⟩ := h
    refine ⟨_, (pss_cons (ps_set (i := 1) sc_names_of.nd rfl (Or.inl rfl) (pe_lst pa_nil))
          (pss_cons (ps_for PassesOwn.never rfl (pi_tup (pv 0)) (pg_name (i := 2) sc_names_of.nd rfl (Or.inl rfl))
            (pss_cons (ps_expr (pe_bm PySem.F.plainAttrs_list PySem.F.slot_list_append PySem.F.type_list_append mt_append (pv 1) (pa_cons (pe_ix ix_tup (pv 2) pe_int (fun _ _ => rfl)) pa_nil)))
          (pss_one (ps_if (pt_cmpR op_ne (pe_ix ix_tup (pv 2) pe_int (fun _ _ => rfl)) pe_str (nomark _))
            (pss_one (ps_expr (pe_bm PySem.F.plainAttrs_list PySem.F.slot_list_append PySem.F.type_list_append mt_append (pv 1) (pa_cons (pe_ix ix_tup (pv 2) (pe_un un_neg pe_int) (fun _ _ => rfl)) pa_nil))))
            pss_nil))))
          (pss_one (ps_ret (pe_callB (cr_sortedSetS rfl) (by rfl) T.z_sorted (by decide +kernel) (pa_cons (pe_callTy (cr_setS rfl) (by rfl) T.z_set (by decide +kernel) (pa_cons (pv 1) pa_nil)) pa_nil)))))), ?_⟩
    rw [show start ["program", "names", "row"] [V.ref a] = [some (V.ref a), none, none] from rfl]
    try dsimp only [cxOf]
    walk_at "rd"
    rename_i pl hpl Hl el hll
    have ha' := el _ _ ha
    refine l_tup (fun i σ' H' => ∃ x : Option V, σ' = [some (.ref a), some (.ref pl), x] ∧ Ex H H' ∧ Mu pl Hl H' ∧ H' pl = some (.lst ((namesL (rows.take i)).map V.str))) ⟨none, rfl, el, fun _ _ _ h => h, hll⟩ (fun i σ' H' _ ⟨x, _, e, _⟩ => st_of (e _ _ ha)) ?_ ?_
    · rintro i v σ' H' hi ⟨x, rfl, e, mu, hn⟩
      obtain ⟨r, hr1, p, rfl, hp⟩ := ProgAt.get (p := a) hv hl hi
      have hp' := e _ _ hp
      have nm := names_take hr1
      have sz : ((namesL (rows.take i)).map V.str).length < 1000 := by
        have q := names_len (rows.take i)
        rw [List.length_take] at q
        rw [List.length_map]
        omega
      have npl : p ≠ pl := fun z => by
        rw [z] at hp
        rw [hp] at hpl
        cases hpl
      have fin : ∀ (x : Option V) H2 (ns : List Str), Mu pl H' H2 → H2 pl = some (.lst (ns.map V.str)) → ns = namesL (rows.take (i + 1)) → ∃ x' : Option V, [some (V.ref a), some (V.ref pl), x] = [some (.ref a), some (.ref pl), x'] ∧ Ex H H2 ∧ Mu pl Hl H2 ∧ H2 pl = some (.lst ((namesL (rows.take (i + 1))).map V.str)) :=
        fun x H2 ns m h e2 => ⟨x, rfl, m.ex e hpl, mu.trans m, e2 ▸ h⟩
      cases r with
      | new x b =>
        dsimp only [rowV] at hp'
        walk_at "rd"
        rename_i H2 m2 h2
        refine ite2 (fun h => absurd h sNN) fun hno => ?_
        walk_at "rd"
        exact fin _ _ (namesL (rows.take i) ++ [x]) m2 (by rw [List.map_append]; exact h2) nm.symm
      | move x y =>
        dsimp only [rowV] at hp'
        walk_at "rd"
        rename_i H2 m2 h2
        refine ite2 (fun hyes => ?_) fun h => absurd sMN h
        have sz2 : ((namesL (rows.take i)).map V.str ++ [V.str x]).length < 2000 := by rw [List.length_append]; show _ + 1 < _; omega
        walk_at "rd"
        rename_i H3 m3 h3
        exact fin _ _ (namesL (rows.take i) ++ [x, y]) (m2.trans m3) (by rw [List.map_append]; rw [List.append_assoc] at h3; exact h3) nm.symm
      | put x s y =>
        dsimp only [rowV] at hp'
        walk_at "rd"
        rename_i H2 m2 h2
        refine ite2 (fun hyes => ?_) fun h => absurd sPN h
        have sz2 : ((namesL (rows.take i)).map V.str ++ [V.str x]).length < 2000 := by rw [List.length_append]; show _ + 1 < _; omega
        walk_at "rd"
        rename_i H3 m3 h3
        exact fin _ _ (namesL (rows.take i) ++ [x, y]) (m2.trans m3) (by rw [List.map_append]; rw [List.append_assoc] at h3; exact h3) nm.symm
      | take x s y =>
        dsimp only [rowV] at hp'
        walk_at "rd"
        rename_i H2 m2 h2
        refine ite2 (fun hyes => ?_) fun h => absurd sTN h
        have sz2 : ((namesL (rows.take i)).map V.str ++ [V.str x]).length < 2000 := by rw [List.length_append]; show _ + 1 < _; omega
        walk_at "rd"
        rename_i H3 m3 h3
        exact fin _ _ (namesL (rows.take i) ++ [x, y]) (m2.trans m3) (by rw [List.map_append]; rw [List.append_assoc] at h3; exact h3) nm.symm
    · rintro σ' H' ⟨x, rfl, e, mu, hn⟩
      rw [hl, List.take_length] at hn
      have sz := names_len rows
      walk_at "rd"
      rename_i ps hps H2 e2 h2 pr ys H3 hpr e3 h3 ris mem len
      have few2 : ys.length ≤ 1000 := Nat.le_trans len (addAll_few (by omega))
      exact q pr ys H3 (fresh_back (by walk_at "ex") hpr) (by walk_at "ex") h3 ris (fun z => by rw [mem z, mem_addAll]; simp) few2
end

theorem mem_fm {f : Row → Option Str} {rows : List Row} {z : Str} : z ∈ rows.filterMap f ↔ ∃ i, i < rows.length ∧ (rows[i]?.bind f) = some z := by
  rw [List.mem_filterMap]
  constructor
  · rintro ⟨r, hr, hz⟩
    obtain ⟨i, lt, e⟩ := List.getElem_of_mem hr
    exact ⟨i, lt, by rw [List.getElem?_eq_getElem lt, e]; exact hz⟩
  · rintro ⟨i, lt, e⟩
    rw [List.getElem?_eq_getElem lt] at e
    exact ⟨rows[i], List.getElem_mem lt, e⟩
theorem bNN : decide (V.str (Str.ofString "new") = V.str (Str.ofString "new")) = true := by decide +kernel
theorem bMN : decide (V.str (Str.ofString "move") = V.str (Str.ofString "new")) = false := by decide +kernel
theorem bPN : decide (V.str (Str.ofString "put") = V.str (Str.ofString "new")) = false := by decide +kernel
theorem bTN : decide (V.str (Str.ofString "take") = V.str (Str.ofString "new")) = false := by decide +kernel
theorem w_inT {K : PySem.W.Frag} {H : Hp} {Q : VK} {x : V} {p : Addr} {xs : List V} (h : SqT K H p xs) (hx : flatV x = true) (hf : xs.all flatV = true) {b : Bool} (e : inV x xs = b) (q : Q (.bl b) H) : rIn K false x (.ref p) H Q :=
  ⟨p, xs, rfl, .inr h, hx, hf, by subst e; exact q⟩
theorem i2N : inV (V.str (Str.ofString "new")) [V.str (Str.ofString "put"), V.str (Str.ofString "take")] = false := by decide +kernel
theorem i2M : inV (V.str (Str.ofString "move")) [V.str (Str.ofString "put"), V.str (Str.ofString "take")] = false := by decide +kernel
theorem i2P : inV (V.str (Str.ofString "put")) [V.str (Str.ofString "put"), V.str (Str.ofString "take")] = true := by decide +kernel
theorem i2T : inV (V.str (Str.ofString "take")) [V.str (Str.ofString "put"), V.str (Str.ofString "take")] = true := by decide +kernel
section
variable {P : Program} {w : World} {K : PySem.W.Frag} {mg : Str → Option Value} {base : Heap}
def spBoxesOf : Sp := fun vs H Q _ => ∃ (a : Addr) (rows : List Row), vs = [.ref a] ∧ ProgAt H a rows ∧ rows.length ≤ 300 ∧ TellS (rows.filterMap rowBox) H Q
def spSlotsOf : Sp := fun vs H Q _ => ∃ (a : Addr) (rows : List Row), vs = [.ref a] ∧ ProgAt H a rows ∧ rows.length ≤ 300 ∧ TellS (rows.filterMap rowSlot) H Q
theorem ok_boxes_of (T : Top K mg) : FnOk P w K mg base CX0 1 T.f_boxes_of T.d_boxes_of ["program"] spBoxesOf := by
  refine T.F_boxes_of.ok sc_boxes_of (fun vs H Q E h => ?_) (fun cdv A outer s H vs Q E hr h => ?_)
  · obtain ⟨a, rows, rfl, _⟩ := h
    rfl
  · obtain ⟨a, rows, rfl, ⟨vs, ha, hl, hv⟩, few, q⟩ := h
    refine ⟨_, (pss_one (ps_ret (pe_callB (cr_sortedSetS rfl) (by rfl) T.z_sorted (by decide +kernel) (pa_cons (pe_scS (own := [("row", 1)]) (g := gName 1) (by rfl) sc_boxes_of.nd (pi_tup (pv 0)) (blkOk_by (own := [("row", 1)]) (N := ["program", "row"]) (sc := defScope s_boxes_of) (by decide +kernel)) (fun _ _ _ _ _ => pg_name (i := 1) sc_boxes_of.nd rfl (Or.inl rfl)) (fun _ _ _ _ _ => (pts_one (pt_cmpR op_eq (pe_ix (show IxR _ (rIxT K) from ix_tup) (pv 1) pe_int (fun _ _ => rfl)) pe_str (nomark _)))) (fun _ _ _ _ _ => (pe_ix (show IxR _ (rIxT K) from ix_tup) (pv 1) pe_int (fun _ _ => rfl)))) pa_nil)))), ?_⟩
    rw [show start ["program", "row"] [V.ref a] = [some (V.ref a), none] from rfl]
    try dsimp only [cxOf]
    walk_at "rd"
    refine cs_tup (xs := vs) (fun i => rows[i]?.bind rowBox) (by omega) (st_of ha) (fun _ => rfl) (fun i x H' Q' hi e k => ?_) (fun i x H' Q' z hi hz e k => ?_) (fun p zs H2 hp e2 h2 mem len => ?_)
    · obtain ⟨r, hr1, p, rfl, hp⟩ := ProgAt.get (p := a) hv hl hi
      have hp' := e _ _ hp
      rw [hr1] at k
      cases r <;> dsimp only [rowV] at hp' <;> walk_at "rd"
      · rw [bNN]; exact k _ (Ex.refl _)
      · rw [bMN]; exact k _ (Ex.refl _)
      · rw [bPN]; exact k _ (Ex.refl _)
      · rw [bTN]; exact k _ (Ex.refl _)
    · obtain ⟨r, hr1, p, rfl, hp⟩ := ProgAt.get (p := a) hv hl hi
      have hp' := e _ _ hp
      rw [hr1] at hz
      cases r with
      | new x b =>
        dsimp only [rowV] at hp'
        have ez : b = z := Option.some.inj hz
        walk_at "rd"
        rw [ez]
        exact k _ (Ex.refl _)
      | move x y => exact nomatch hz
      | put x s y => exact nomatch hz
      | take x s y => exact nomatch hz
    · have sz : zs.length ≤ 300 := by omega
      walk_at "rd"
      rename_i pr ys H3 hpr e3 h3 ris mem2 len2
      exact q pr ys H3 (fresh_back (by walk_at "ex") hpr) (by walk_at "ex") h3 ris (fun z => by rw [mem2 z, mem z, mem_fm, hl]) (by omega)
theorem ok_slots_of (T : Top K mg) : FnOk P w K mg base CX0 1 T.f_slots_of T.d_slots_of ["program"] spSlotsOf := by
  refine T.F_slots_of.ok sc_slots_of (fun vs H Q E h => ?_) (fun cdv A outer s H vs Q E hr h => ?_)
  · obtain ⟨a, rows, rfl, _⟩ := h
    rfl
  · obtain ⟨a, rows, rfl, ⟨vs, ha, hl, hv⟩, few, q⟩ := h
    refine ⟨_, (pss_one (ps_ret (pe_callB (cr_sortedSetS rfl) (by rfl) T.z_sorted (by decide +kernel) (pa_cons (pe_scS (own := [("row", 1)]) (g := gName 1) (by rfl) sc_slots_of.nd (pi_tup (pv 0)) (blkOk_by (own := [("row", 1)]) (N := ["program", "row"]) (sc := defScope s_slots_of) (by decide +kernel)) (fun _ _ _ _ _ => pg_name (i := 1) sc_slots_of.nd rfl (Or.inl rfl)) (fun _ _ _ _ _ => (pts_one (pt_cmpR (show OpR _ (compareOp .In) (rIn K false) from op_in_seq) (pe_ix (show IxR _ (rIxT K) from ix_tup) (pv 1) pe_int (fun _ _ => rfl)) (pe_tup (pa_cons pe_str (pa_cons pe_str pa_nil))) (by rfl)))) (fun _ _ _ _ _ => (pe_ix (show IxR _ (rIxT K) from ix_tup) (pv 1) pe_int (fun _ _ => rfl)))) pa_nil)))), ?_⟩
    rw [show start ["program", "row"] [V.ref a] = [some (V.ref a), none] from rfl]
    try dsimp only [cxOf]
    walk_at "rd"
    refine cs_tup (xs := vs) (fun i => rows[i]?.bind rowSlot) (by omega) (st_of ha) (fun _ => rfl) (fun i x H' Q' hi e k => ?_) (fun i x H' Q' z hi hz e k => ?_) (fun p zs H2 hp e2 h2 mem len => ?_)
    · obtain ⟨r, hr1, p, rfl, hp⟩ := ProgAt.get (p := a) hv hl hi
      have hp' := e _ _ hp
      rw [hr1] at k
      cases r <;> dsimp only [rowV] at hp' <;> walk_at "rd"
      · refine w_inT (by walk_at "st") rfl rfl i2N ?_
        walk_at "rd"
        exact k _ (by walk_at "ex")
      · refine w_inT (by walk_at "st") rfl rfl i2M ?_
        walk_at "rd"
        exact k _ (by walk_at "ex")
      · refine w_inT (by walk_at "st") rfl rfl i2P ?_
        walk_at "rd"
        exact k _ (by walk_at "ex")
      · refine w_inT (by walk_at "st") rfl rfl i2T ?_
        walk_at "rd"
        exact k _ (by walk_at "ex")
    · obtain ⟨r, hr1, p, rfl, hp⟩ := ProgAt.get (p := a) hv hl hi
      have hp' := e _ _ hp
      rw [hr1] at hz
      cases r with
      | new x b => exact nomatch hz
      | move x y => exact nomatch hz
      | put x s y =>
        dsimp only [rowV] at hp'
        have ez : s = z := Option.some.inj hz
        walk_at "rd"
        rw [ez]
        exact k _ (Ex.refl _)
      | take x s y =>
        dsimp only [rowV] at hp'
        have ez : s = z := Option.some.inj hz
        walk_at "rd"
        rw [ez]
        exact k _ (Ex.refl _)
    · have sz : zs.length ≤ 300 := by omega
      walk_at "rd"
      rename_i pr ys H3 hpr e3 h3 ris mem2 len2
      exact q pr ys H3 (fresh_back (by walk_at "ex") hpr) (by walk_at "ex") h3 ris (fun z => by rw [mem2 z, mem z, mem_fm, hl]) (by omega)
end

theorem fm_take {f : Row → Option Str} {rows : List Row} {i : Nat} {r : Row} (h : rows[i]? = some r) : (rows.take (i + 1)).filterMap f = (rows.take i).filterMap f ++ (f r).toList := by
  rw [List.take_add_one, h, List.filterMap_append]
  cases q : f r with
  | none => simp [q]
  | some z => simp [q]
section
variable {P : Program} {w : World} {K : PySem.W.Frag} {mg : Str → Option Value} {base : Heap}
/-- three new lists in a new one: names, boxes, slots of the rows -/
def usedL (rows : List Row) : Nat → List Str
  | 0 => namesL rows
  | 1 => rows.filterMap rowBox
  | _ => rows.filterMap rowSlot
def UsedE (rows : List Row) (i : Nat) (ys : List V) : Prop := ∃ zs : List Str, ys = zs.map V.str ∧ RisT zs ∧ (∀ z, z ∈ zs ↔ z ∈ usedL rows i) ∧ zs.length ≤ 1000
def spDue : Sp := fun vs H Q _ => ∃ (a : Addr) (rows : List Row), vs = [.ref a] ∧ ProgAt H a rows ∧ rows.length ≤ 300 ∧
  ∀ (p : Addr) (qs : List Addr) H', H p = none → Ex H H' → H' p = some (.lst (qs.map V.ref)) → qs.length = 3 → NewLists (UsedE rows) H p qs H' → Q (.ref p) H'
theorem ok_Ldue (T : Top K mg) : FnOk P w K mg base CX0 1 T.f_Ldue T.d_Ldue ["_law_told"] spDue := by
  refine T.F_Ldue.ok sc_Ldue (fun vs H Q E h => ?_) (fun cdv A outer s H vs Q E hr h => ?_)
  · obtain ⟨a, rows, rfl, _⟩ := h
    rfl
  · obtain ⟨a, rows, rfl, ⟨vs, ha, hl, hv⟩, few, q⟩ := h
    refine ⟨_, (pss_cons (ps_par3 (i := 1) (j := 2) (l := 3) (by rfl) sc_Ldue.nd rfl rfl rfl (by decide) (by decide) (by decide) rfl rfl rfl (pa_cons (pe_lst pa_nil) (pa_cons (pe_lst pa_nil) (pa_cons (pe_lst pa_nil) pa_nil))) (by rfl))
          (pss_cons (ps_for PassesOwn.never rfl (pi_tup (pv 0)) (pg_name (i := 4) sc_Ldue.nd rfl (Or.inl rfl))
            (pss_cons (ps_expr (pe_bm PySem.F.plainAttrs_list PySem.F.slot_list_append PySem.F.type_list_append mt_append (pv 1) (pa_cons (pe_ix ix_tup (pv 4) pe_int (fun _ _ => rfl)) pa_nil)))
          (pss_cons (ps_if (pt_cmpR op_eq (pe_ix ix_tup (pv 4) pe_int (fun _ _ => rfl)) pe_str (nomark _))
            (pss_one (ps_expr (pe_bm PySem.F.plainAttrs_list PySem.F.slot_list_append PySem.F.type_list_append mt_append (pv 2) (pa_cons (pe_ix ix_tup (pv 4) pe_int (fun _ _ => rfl)) pa_nil))))
            (pss_one (ps_expr (pe_bm PySem.F.plainAttrs_list PySem.F.slot_list_append PySem.F.type_list_append mt_append (pv 1) (pa_cons (pe_ix ix_tup (pv 4) (pe_un un_neg pe_int) (fun _ _ => rfl)) pa_nil)))))
          (pss_one (ps_if (pt_cmpR op_in_seq (pe_ix ix_tup (pv 4) pe_int (fun _ _ => rfl)) (pe_tup (pa_cons pe_str (pa_cons pe_str pa_nil))) (by rfl))
            (pss_one (ps_expr (pe_bm PySem.F.plainAttrs_list PySem.F.slot_list_append PySem.F.type_list_append mt_append (pv 3) (pa_cons (pe_ix ix_tup (pv 4) pe_int (fun _ _ => rfl)) pa_nil))))
            pss_nil)))))
          (pss_one (ps_ret (pe_lc (own := [("_law_one", 5)]) (g := gName 5) (tt := tYes) (by rfl) sc_Ldue.nd (pi_list (pe_lst (pa_cons (pv 1) (pa_cons (pv 2) (pa_cons (pv 3) pa_nil))))) (blkOk_by (own := [("_law_one", 5)]) (N := ["_law_told", "_law_names", "_law_boxes", "_law_slots", "_law_row_here", "_law_one"]) (sc := defScope s_Ldue) (by decide +kernel)) (fun _ _ _ _ _ => pg_name (i := 5) sc_Ldue.nd rfl (Or.inl rfl)) (fun _ _ _ _ _ => pts_nil) (fun _ _ _ _ _ => (pe_callB ((show CallR _ (.builtin "sorted") (rSortS w) from cr_sortedSetS rfl)) (by rfl) T.z_sorted (by decide +kernel) (pa_cons (pe_callTy ((show CallR _ (.type "set") (rSetS K w) from cr_setS rfl)) (by rfl) T.z_set (by decide +kernel) (pa_cons (pv 5) pa_nil)) pa_nil)))))))), ?_⟩
    rw [show start ["_law_told", "_law_names", "_law_boxes", "_law_slots", "_law_row_here", "_law_one"] [V.ref a] = [some (V.ref a), none, none, none, none, none] from rfl]
    try dsimp only [cxOf]
    walk_at "rd"
    rename_i pn hpn H1 e1 h1 pb hpb H2 e2 h2 ps hps H3 e3 h3
    have fpb : H pb = none := fresh_back e1 hpb
    have fps : H ps = none := fresh_back (e1.trans e2) hps
    have n1 : pn ≠ pb := ne_of_none h1 hpb
    have n2 : pn ≠ ps := ne_of_none (e2 _ _ h1) hps
    have n3 : pb ≠ ps := ne_of_none h2 hps
    have n4 := n1.symm
    have n5 := n2.symm
    have n6 := n3.symm
    have ha3 : H3 a = some _ := ((e1.trans e2).trans e3) _ _ ha
    refine l_tup (fun i σ' H' => ∃ x : Option V, σ' = [some (.ref a), some (.ref pn), some (.ref pb), some (.ref ps), x, none] ∧ Ex H H' ∧ H' pn = some (.lst ((namesL (rows.take i)).map V.str)) ∧
      H' pb = some (.lst (((rows.take i).filterMap rowBox).map V.str)) ∧ H' ps = some (.lst (((rows.take i).filterMap rowSlot).map V.str)))
      ⟨none, rfl, (e1.trans e2).trans e3, (e2.trans e3) _ _ h1, e3 _ _ h2, h3⟩ (fun i σ' H' _ ⟨x, _, e, _⟩ => st_of (e _ _ ha)) ?_ ?_
    · rintro i v σ' H' hi ⟨x, rfl, e, hn, hb, hs⟩
      obtain ⟨r, hr1, p, rfl, hp⟩ := ProgAt.get (p := a) hv hl hi
      have hp' := e _ _ hp
      have nm := names_take hr1
      have nb := fm_take (f := rowBox) hr1
      have nsl := fm_take (f := rowSlot) hr1
      have z1 : ((namesL (rows.take i)).map V.str).length < 1000 := by
        have q := names_len (rows.take i)
        rw [List.length_take] at q
        rw [List.length_map]
        omega
      have z2 : (((rows.take i).filterMap rowBox).map V.str).length < 1000 := by
        have q := List.length_filterMap_le rowBox (rows.take i)
        rw [List.length_take] at q
        rw [List.length_map]
        omega
      have z3 : (((rows.take i).filterMap rowSlot).map V.str).length < 1000 := by
        have q := List.length_filterMap_le rowSlot (rows.take i)
        rw [List.length_take] at q
        rw [List.length_map]
        omega
      have p1 : p ≠ pn := ne_of_none hp hpn
      have p2 : p ≠ pb := ne_of_none hp fpb
      have p3 : p ≠ ps := ne_of_none hp fps
      cases r with
      | new x b =>
        dsimp only [rowV] at hp'
        walk_at "rd"
        rename_i H4 m4 h4
        rw [if_pos bNN]
        walk_at "rd"
        rename_i H5 m5 h5 pt hpt H6 e6 h6
        refine w_inT (by walk_at "st") rfl rfl i2N ?_
        walk_at "rd"
        rw [if_neg Bool.false_ne_true]
        walk_at "rd"
        rw [nm, nb, nsl]
        exact ⟨_, rfl, ((m5.ex (m4.ex e hpn) fpb).trans e6), e6 _ _ (by rw [List.map_append]; exact m5 _ _ n1 h4), e6 _ _ (by rw [List.map_append]; exact h5), e6 _ _ (by rw [List.map_append]; exact (m5 _ _ n6 (m4 _ _ n5 hs)).trans (congrArg (fun q => some (HO.lst q)) (List.append_nil _).symm))⟩
      | move x y =>
        dsimp only [rowV] at hp'
        walk_at "rd"
        rename_i H4 m4 h4
        rw [if_neg (by rw [bMN]; exact Bool.false_ne_true)]
        have z4 : ((namesL (rows.take i)).map V.str ++ [V.str x]).length < 2000 := by rw [List.length_append]; show _ + 1 < _; omega
        walk_at "rd"
        rename_i H5 m5 h5 pt hpt H6 e6 h6
        refine w_inT (by walk_at "st") rfl rfl i2M ?_
        walk_at "rd"
        rw [if_neg Bool.false_ne_true]
        walk_at "rd"
        rw [nm, nb, nsl]
        exact ⟨_, rfl, ((m5.ex (m4.ex e hpn) hpn).trans e6), e6 _ _ (by rw [List.map_append]; rw [List.append_assoc] at h5; exact h5), e6 _ _ (by rw [List.map_append]; exact (m5 _ _ n4 (m4 _ _ n4 hb)).trans (congrArg (fun q => some (HO.lst q)) (List.append_nil _).symm)), e6 _ _ (by rw [List.map_append]; exact (m5 _ _ n5 (m4 _ _ n5 hs)).trans (congrArg (fun q => some (HO.lst q)) (List.append_nil _).symm))⟩
      | put x s y =>
        dsimp only [rowV] at hp'
        walk_at "rd"
        rename_i H4 m4 h4
        rw [if_neg (by rw [bPN]; exact Bool.false_ne_true)]
        have z4 : ((namesL (rows.take i)).map V.str ++ [V.str x]).length < 2000 := by rw [List.length_append]; show _ + 1 < _; omega
        walk_at "rd"
        rename_i H5 m5 h5 pt hpt H6 e6 h6
        refine w_inT (by walk_at "st") rfl rfl i2P ?_
        walk_at "rd"
        rw [if_pos rfl]
        have hs6 : H6 ps = some _ := e6 _ _ (m5 _ _ n5 (m4 _ _ n5 hs))
        walk_at "rd"
        rename_i H7 m7 h7
        rw [nm, nb, nsl]
        exact ⟨_, rfl, m7.ex ((m5.ex (m4.ex e hpn) hpn).trans e6) fps, m7 _ _ n2 (e6 _ _ (by rw [List.map_append]; rw [List.append_assoc] at h5; exact h5)), m7 _ _ n3 (e6 _ _ (by rw [List.map_append]; exact (m5 _ _ n4 (m4 _ _ n4 hb)).trans (congrArg (fun q => some (HO.lst q)) (List.append_nil _).symm))), by rw [List.map_append]; exact h7⟩
      | take x s y =>
        dsimp only [rowV] at hp'
        walk_at "rd"
        rename_i H4 m4 h4
        rw [if_neg (by rw [bTN]; exact Bool.false_ne_true)]
        have z4 : ((namesL (rows.take i)).map V.str ++ [V.str x]).length < 2000 := by rw [List.length_append]; show _ + 1 < _; omega
        walk_at "rd"
        rename_i H5 m5 h5 pt hpt H6 e6 h6
        refine w_inT (by walk_at "st") rfl rfl i2T ?_
        walk_at "rd"
        rw [if_pos rfl]
        have hs6 : H6 ps = some _ := e6 _ _ (m5 _ _ n5 (m4 _ _ n5 hs))
        walk_at "rd"
        rename_i H7 m7 h7
        rw [nm, nb, nsl]
        exact ⟨_, rfl, m7.ex ((m5.ex (m4.ex e hpn) hpn).trans e6) fps, m7 _ _ n2 (e6 _ _ (by rw [List.map_append]; rw [List.append_assoc] at h5; exact h5)), m7 _ _ n3 (e6 _ _ (by rw [List.map_append]; exact (m5 _ _ n4 (m4 _ _ n4 hb)).trans (congrArg (fun q => some (HO.lst q)) (List.append_nil _).symm))), by rw [List.map_append]; exact h7⟩
    · rintro σ' H' ⟨x, rfl, e, hn, hb, hs⟩
      rw [hl, List.take_length] at hn hb hs
      have z1 := names_len rows
      have z2 := List.length_filterMap_le rowBox rows
      have z3 := List.length_filterMap_le rowSlot rows
      walk_at "rd"
      rename_i pc hpc H4 e4 h4
      refine c_listN (xs := [V.ref pn, V.ref pb, V.ref ps]) (UsedE rows) (by show 3 ≤ 50000; decide) (by walk_at "sl") (fun _ => rfl) (fun i x H5 Q' hi e5 k => ?_) (fun p qs H5 hp e5 h5 hlen hN => ?_)
      · have one : ∀ (pl : Addr) (L : List Str), H' pl = some (.lst (L.map V.str)) → L.length ≤ 600 → usedL rows i = L → x = .ref pl → tCB (rSortS w) (tCons (tCB (rSetS K w) (tCons (tVar 5) tNil)) tNil) ((wipe [some (V.ref a), some (V.ref pn), some (V.ref pb), some (V.ref ps), x, none] [5]).set 5 (some x)) H5 Q' := by
          rintro pl L hpl few2 eL rfl
          have hpl5 : H5 pl = some _ := (e4.trans e5) _ _ hpl
          walk_at "rd"
          rename_i pS hpS H6 e6 h6 pr ys H7 hpr e7 h7 ris mem len
          exact k pr _ H7 (fresh_back (by walk_at "ex") hpr) (by walk_at "ex") h7 ⟨ys, rfl, ris, fun z => by rw [mem z, mem_addAll, eL]; simp, Nat.le_trans len (addAll_few (by omega))⟩
        match i, hi with
        | 0, hi => exact one pn _ hn (by omega) rfl (Option.some.inj hi).symm
        | 1, hi => exact one pb _ hb (by omega) rfl (Option.some.inj hi).symm
        | 2, hi => exact one ps _ hs (by omega) rfl (Option.some.inj hi).symm
        | n + 3, hi => exact nomatch hi
      · walk_at "rd"
        exact q p qs H5 (fresh_back (e.trans e4) hp) ((e.trans e4).trans e5) h5 hlen ⟨hN.1, fun i r hr => let ⟨a1, a2, a3⟩ := hN.2 i r hr; ⟨a1, fresh_back (e.trans e4) a2, a3⟩⟩
end

theorem w_reverse {l : Addr} {xs : List V} {H : Hp} {Q : VK} (h : H l = some (.lst xs)) (q : Q .non (upd H l (.lst xs.reverse))) : rReverse (.ref l) [] H Q := ⟨l, xs, rfl, rfl, h, q⟩
/-! ### data -/
theorem dp_strs {K : PySem.W.Frag} {H : Hp} : ∀ zs : List Str, DpAll K H (zs.map V.str) (zs.map PyData.str)
  | [] => .nil
  | z :: zs => .cons (.str z) (dp_strs zs)
theorem can_strs : ∀ zs : List Str, (∀ z ∈ zs, PySem.PyData.strOk z = true) → PyData.canLayAll0 (zs.map PyData.str) = true
  | [], _ => by simp [PyData.canLayAll0]
  | z :: zs, h => by
    have h1 := h z List.mem_cons_self
    have h2 := can_strs zs fun y hy => h y (List.mem_cons_of_mem _ hy)
    simp [PyData.canLayAll0, PyData.canLay0, h1, h2]
theorem depth_strs : ∀ zs : List Str, PyData.depthAll (zs.map PyData.str) = 0
  | [] => by simp [PyData.depthAll]
  | z :: zs => by simp [PyData.depthAll, PyData.depth, depth_strs zs]
def strsD (L : List (List Str)) : PyData := .list (L.map fun zs => .list (zs.map PyData.str))
theorem can_lists : ∀ L : List (List Str), (∀ zs ∈ L, ∀ z ∈ zs, PySem.PyData.strOk z = true) → PyData.canLayAll0 (L.map fun zs => PyData.list (zs.map PyData.str)) = true
  | [], _ => by simp [PyData.canLayAll0]
  | zs :: L, h => by
    have h1 := can_strs zs (h zs List.mem_cons_self)
    have h2 := can_lists L fun y hy => h y (List.mem_cons_of_mem _ hy)
    simp [PyData.canLayAll0, PyData.canLay0, h1, h2]
theorem depth_lists : ∀ L : List (List Str), PyData.depthAll (L.map fun zs => PyData.list (zs.map PyData.str)) ≤ 1
  | [] => by simp [PyData.depthAll]
  | zs :: L => by
    have := depth_lists L
    simp [PyData.depthAll, PyData.depth, depth_strs zs]
    omega
theorem shaped_strsD {L : List (List Str)} (h : ∀ zs ∈ L, ∀ z ∈ zs, PySem.PyData.strOk z = true) : PySem.SeqAt.shaped (strsD L) = true := by
  have h1 := can_lists L h
  have h2 := depth_lists L
  have h3 : PyData.canLay0 (strsD L) = true := by simp only [strsD, PyData.canLay0, h1]
  have h4 : PyData.depth (strsD L) ≤ 64 := by
    simp only [strsD, PyData.depth]
    omega
  unfold PySem.SeqAt.shaped
  rw [h3, decide_eq_true h4]
  rfl
theorem eqv_strsD {L : List (List Str)} (h : ∀ zs ∈ L, ∀ z ∈ zs, PySem.PyData.strOk z = true) : PyData.eqv (strsD L) (strsD L) = true := by
  refine PySem.SeqAt.eqv_refl _ ?_
  have h1 := can_lists L h
  simp only [strsD, PyData.canLay0, h1]
/-- a list at p of three lists of texts -/
def ThreeAt (H : Hp) (p : Addr) (L : List (List Str)) : Prop := ∃ qs : List Addr, H p = some (.lst (qs.map V.ref)) ∧ qs.length = L.length ∧ ∀ (i : Nat) q zs, qs[i]? = some q → L[i]? = some zs → H q = some (.lst (zs.map V.str))
theorem dp_lists {K : PySem.W.Frag} {H : Hp} : ∀ (qs : List Addr) (L : List (List Str)), qs.length = L.length → (∀ (i : Nat) q zs, qs[i]? = some q → L[i]? = some zs → H q = some (.lst (zs.map V.str))) →
    DpAll K H (qs.map V.ref) (L.map fun zs => PyData.list (zs.map PyData.str))
  | [], [], _, _ => .nil
  | q :: qs, zs :: L, hl, h => .cons (.lst (sq_of (h 0 q zs rfl rfl)) (dp_strs zs)) (dp_lists qs L (by simpa using hl) fun i r ys hr hy => h (i + 1) r ys hr hy)
  | [], _ :: _, hl, _ => by simp at hl
  | _ :: _, [], hl, _ => by simp at hl
theorem ThreeAt.dp {K : PySem.W.Frag} {H : Hp} {p : Addr} {L : List (List Str)} (h : ThreeAt H p L) : Dp K H (.ref p) (strsD L) := by
  obtain ⟨qs, h1, h2, h3⟩ := h
  exact .lst (sq_of h1) (dp_lists qs L h2 h3)
theorem w_neD {K : PySem.W.Frag} {H : Hp} {Q : VK} {p q : Addr} {L : List (List Str)} (h1 : ThreeAt H p L) (h2 : ThreeAt H q L) (h : ∀ zs ∈ L, ∀ z ∈ zs, PySem.PyData.strOk z = true) (k : Q (.bl false) H) : rNeD K (.ref p) (.ref q) H Q :=
  ⟨_, _, h1.dp, h2.dp, shaped_strsD h, shaped_strsD h, by rw [eqv_strsD h]; exact k⟩
theorem in_names {xs bs ss : List Str} {rows : List Row} (h : AllIn xs bs ss rows) {z : Str} (hz : z ∈ namesL rows) : z ∈ xs := by
  obtain ⟨r, hr, hz⟩ := List.mem_flatMap.mp hz
  have q := h r hr
  cases r with
  | new x b =>
    rw [List.mem_singleton.mp hz]
    exact q.1
  | move x y => rcases List.mem_cons.mp hz with rfl | hz; exact q.1; rw [List.mem_singleton.mp hz]; exact q.2
  | put x s y => rcases List.mem_cons.mp hz with rfl | hz; exact q.1; rw [List.mem_singleton.mp hz]; exact q.2.2
  | take x s y => rcases List.mem_cons.mp hz with rfl | hz; exact q.1; rw [List.mem_singleton.mp hz]; exact q.2.2
theorem in_boxes {xs bs ss : List Str} {rows : List Row} (h : AllIn xs bs ss rows) {z : Str} (hz : z ∈ rows.filterMap rowBox) : z ∈ bs := by
  obtain ⟨r, hr, hz⟩ := List.mem_filterMap.mp hz
  have q := h r hr
  cases r with
  | new x b =>
    have e : b = z := Option.some.inj hz
    rw [← e]
    exact q.2
  | move x y => exact nomatch hz
  | put x s y => exact nomatch hz
  | take x s y => exact nomatch hz
theorem in_slots {xs bs ss : List Str} {rows : List Row} (h : AllIn xs bs ss rows) {z : Str} (hz : z ∈ rows.filterMap rowSlot) : z ∈ ss := by
  obtain ⟨r, hr, hz⟩ := List.mem_filterMap.mp hz
  have q := h r hr
  cases r with
  | new x b => exact nomatch hz
  | move x y => exact nomatch hz
  | put x s y =>
    have e : s = z := Option.some.inj hz
    rw [← e]
    exact q.2.1
  | take x s y =>
    have e : s = z := Option.some.inj hz
    rw [← e]
    exact q.2.1

section
variable {P : Program} {w : World} {K : PySem.W.Frag} {mg : Str → Option Value} {base : Heap}
theorem u_program {a sc : Addr} {ns : List Int} {m : Int} {H : Hp} {Q : VK} {E : XK} (h : H a = some (PenO a sc)) (hs : SqL K H sc (ns.map V.int)) (hm : 0 ≤ m ∧ m ≤ 60)
    (q : ∀ (p : Addr) (rows : List Row) (xs bs ss : List Str) H', H p = none → Ex H H' → ProgAt H' p rows → (rows.length : Int) ≤ m → AllIn xs bs ss rows → xs.length ≤ 20 → bs.length ≤ 20 → ss.length ≤ 20 →
      (∀ z ∈ xs, TxtOk 5000 z) → (∀ z ∈ bs, TxtOk 5000 z) → (∀ z ∈ ss, TxtOk 5000 z) → Q (.ref p) H') : spProgram K [.ref a, .int m] H Q E := ⟨a, sc, ns, m, rfl, h, hs, hm.1, hm.2, q⟩
def spLaw (K : PySem.W.Frag) : Sp := fun vs H Q _ => ∃ (a : Addr) (ns : List Int), vs = [.ref a] ∧ SqL K H a (ns.map V.int) ∧ ns.length ≤ 63 ∧ ∀ H', Q (.bl true) H'
theorem ok_law (T : Top K mg) : FnOk P w K mg base CX0 5 T.f_law T.d_law ["script"] (spLaw K) := by
  refine T.F_law.ok sc_law (fun vs H Q E h => ?_) (fun cdv A outer s H vs Q E hr h => ?_)
  · obtain ⟨a, ns, rfl, _⟩ := h
    rfl
  · obtain ⟨a, ns, rfl, hsc, hlen, q⟩ := h
    refine ⟨_, (pss_cons (ps_set (i := 1) sc_law.nd rfl (Or.inl rfl) (pe_lst (pa_cons (pv 0) (pa_cons pe_int (pa_cons pe_int pa_nil)))))
          (pss_shut (pss_cons (ps_for PassesOwn.never rfl (pi_range1 rfl T.z_range (pa_cons pe_int pa_nil)) (pg_name (i := 2) sc_law.nd rfl (Or.inl rfl))
            (pss_cons (ps_set (i := 3) sc_law.nd rfl (Or.inl rfl) (pe_call (ok_Lprogram T) (hr.mono (by decide)) (by rfl) T.g_Lprogram T.F_Lprogram.kp T.b_Lprogram .nil pass0 (pa_cons (pv 1) (pa_cons (pe_ix ix_list (pe_lst (pa_cons pe_int (pa_cons pe_int pa_nil))) (pe_op op_mod (pv 2) pe_int) (fun _ _ => rfl)) pa_nil))))
          (pss_one (ps_for PassesOwn.never rfl (pi_range1 rfl T.z_range (pa_cons pe_int pa_nil)) (pg_name (i := 4) sc_law.nd rfl (Or.inl rfl))
            (pss_cons (ps_set (i := 5) sc_law.nd rfl (Or.inl rfl) (pe_lst (pa_cons (pe_call (ok_names_of T) (hr.mono (by decide)) (by rfl) T.g_names_of T.F_names_of.kp T.b_names_of .nil pass0 (pa_cons (pv 3) pa_nil)) (pa_cons (pe_call (ok_boxes_of T) (hr.mono (by decide)) (by rfl) T.g_boxes_of T.F_boxes_of.kp T.b_boxes_of .nil pass0 (pa_cons (pv 3) pa_nil)) (pa_cons (pe_call (ok_slots_of T) (hr.mono (by decide)) (by rfl) T.g_slots_of T.F_slots_of.kp T.b_slots_of .nil pass0 (pa_cons (pv 3) pa_nil)) pa_nil)))))
          (pss_cons (ps_if (PW.pt (pw_or (pt_cmpR (op_neD hr.units) (pv 5) (pe_call (ok_Ldue T) (hr.mono (by decide)) (by rfl) T.g_Ldue T.F_Ldue.kp T.b_Ldue .nil pass0 (pa_cons (pv 3) pa_nil)) (nomark _)) (pw_or1 (pt_cmpR op_in_seq pe_bl (pe_lc (own := [("_law_one", 6)]) (g := gName 6) (tt := tYes) (by rfl) sc_law.nd (pi_list (pv 5)) (blkOk_by (own := [("_law_one", 6)]) (N := ["script", "_law_pen", "_law_k", "_law_told", "_law_turn", "_law_found", "_law_one"]) (sc := defScope s_law) (by decide +kernel)) (fun _ _ _ _ _ => pg_name (i := 6) sc_law.nd rfl (Or.inl rfl)) (fun _ _ _ _ _ => pts_nil) (fun _ _ _ _ _ => (pe_callB (show CallR _ (.builtin "isinstance") (rIsi K) from call_isi) (by rfl) T.z_isinstance (by decide +kernel) (pa_cons (pv 6) (pa_cons (pe_bltn (v := .ty "list") (by rfl) T.z_list (by decide +kernel) rfl) pa_nil))))) (by rfl)))))
            (pss_one (ps_ret pe_bl))
            pss_nil)
          (pss_one (ps_for PassesOwn.never rfl (pi_list (pv 5)) (pg_name (i := 6) sc_law.nd rfl (Or.inl rfl))
            (pss_cons (ps_expr (pe_bm PySem.F.plainAttrs_list PySem.F.slot_list_append PySem.F.type_list_append mt_append (pv 6) (pa_cons pe_str pa_nil)))
          (pss_one (ps_expr (pe_bm0 PySem.F.plainAttrs_list PySem.F.slot_list_reverse PySem.F.type_list_reverse mt_reverse (pv 6)))))))))))))
          (pss_one (ps_ret pe_bl))))), ?_⟩
    rw [show start ["script", "_law_pen", "_law_k", "_law_told", "_law_turn", "_law_found", "_law_one"] [V.ref a] = [some (V.ref a), none, none, none, none, none, none] from rfl]
    try dsimp only [cxOf]
    walk_at "rd"
    rename_i pen hpen H1 e1 h1
    refine w_shut (i := 0) (c := 0) h1 (Int.le_refl 0) ?_
    generalize hX : upd H1 pen (PenO pen a) = H2
    obtain ⟨m2, h2⟩ := gen2 hX
    clear hX
    have eH : Ex H H2 := m2.ex e1 hpen
    have sc2 : SqL K H2 a _ := ex_l eH hsc
    walk_at "rd"
    refine l_range (fun i σ' H' => ∃ x y z u v : Option V, σ' = [some (.ref a), some (.ref pen), x, y, z, u, v] ∧ Ex H2 H') ⟨_, _, _, _, _, rfl, Ex.refl _⟩ ?_ ?_
    · rintro k σ' H3 hk ⟨x, y, z, u, v, rfl, e3⟩
      walk_at "rd"
      refine w_ixLP (by walk_at "sl") (Int.emod_nonneg _ (by decide)) (by show _ < ((2 : Nat) : Int); exact Int.emod_lt_of_pos _ (by decide)) fun vv hv => ?_
      obtain ⟨mm, rfl, hm⟩ : ∃ mm : Int, vv = .int mm ∧ 0 ≤ mm ∧ mm ≤ 60 := by
        simp only [List.mem_cons, List.not_mem_nil, or_false] at hv
        rcases hv with rfl | rfl
        · exact ⟨_, rfl, by decide⟩
        · exact ⟨_, rfl, by decide⟩
      walk_at "rd"
      refine u_program (by walk_at "ho") (by walk_at "sl") hm ?_
      intro told rows xs bs ss H5 hpt e5 pa hrl ain lx lb ls kx kb ks
      have e25 : Ex H2 H5 := by walk_at "ex"
      walk_at "rd"
      refine l_range (fun i σ' H' => ∃ z u v : Option V, σ' = [some (.ref a), some (.ref pen), some (.int k), some (.ref told), z, u, v] ∧ Ex H5 H') ⟨_, _, _, rfl, Ex.refl _⟩ ?_ ?_
      · rintro t σ' H6 ht ⟨z, u, v, rfl, e6⟩
        walk_at "rd"
        refine ⟨told, rows, rfl, pa.ex (by walk_at "ex"), by omega, ?_⟩
        intro p1 y1 H7 hp1 e7 h7 r1 mem1 l1
        walk_at "rd"
        refine ⟨told, rows, rfl, pa.ex (by walk_at "ex"), by omega, ?_⟩
        intro p2 y2 H8 hp2 e8 h8 r2 mem2 l2
        walk_at "rd"
        refine ⟨told, rows, rfl, pa.ex (by walk_at "ex"), by omega, ?_⟩
        intro p3 y3 H9 hp3 e9 h9 r3 mem3 l3
        walk_at "rd"
        rename_i pf hpf HA eA hA
        refine ⟨told, rows, rfl, pa.ex (by walk_at "ex"), by omega, ?_⟩
        intro pd qs HB hpd eB hB hqs hN
        have hp3' : H9 p3 = some _ := h9
        have n1 : p1 ≠ pf := ne_of_none (e9 _ _ (e8 _ _ h7)) hpf
        have n2 : p2 ≠ pf := ne_of_none (e9 _ _ h8) hpf
        have n3 : p3 ≠ pf := ne_of_none h9 hpf
        have A1 : HB p1 = some (.lst (y1.map V.str)) := by walk_at "ho"
        have A2 : HB p2 = some (.lst (y2.map V.str)) := by walk_at "ho"
        have A3 : HB p3 = some (.lst (y3.map V.str)) := by walk_at "ho"
        have e6B : Ex H6 HB := by walk_at "ex"
        have A0 : HB pf = some (.lst [V.ref p1, V.ref p2, V.ref p3]) := eB _ _ hA
        have tf : ThreeAt HB pf [y1, y2, y3] := ⟨[p1, p2, p3], eB _ _ hA, rfl, fun i q zs hq hz => by
          match i, hq, hz with
          | 0, hq, hz => cases hq; cases hz; exact A1
          | 1, hq, hz => cases hq; cases hz; exact A2
          | 2, hq, hz => cases hq; cases hz; exact A3
          | n + 3, hq, _ => exact nomatch hq⟩
        have td : ThreeAt HB pd [y1, y2, y3] := ⟨qs, hB, hqs, fun i q zs hq hz => by
          obtain ⟨_, _, ys, hy, zs', rfl, ris, mem, _⟩ := hN.2 i q hq
          have ez : zs' = zs := by
            match i, hz with
            | 0, hz => cases hz; exact risT_one _ _ ris r1 fun z => (mem z).trans (mem1 z).symm
            | 1, hz => cases hz; exact risT_one _ _ ris r2 fun z => (mem z).trans (mem2 z).symm
            | 2, hz => cases hz; exact risT_one _ _ ris r3 fun z => (mem z).trans (mem3 z).symm
            | n + 3, hz => exact nomatch hz
          rw [hy, ez]⟩
        refine w_neD tf td (fun zs hzs z hz => ?_) ?_
        · simp only [List.mem_cons, List.not_mem_nil, or_false] at hzs
          rcases hzs with rfl | rfl | rfl
          · exact (kx z (in_names ain ((mem1 z).mp hz))).2
          · exact (kb z (in_boxes ain ((mem2 z).mp hz))).2
          · exact (ks z (in_slots ain ((mem3 z).mp hz))).2
        walk_at "rd"
        rw [if_neg Bool.false_ne_true]
        walk_at "rd"
        refine c_list (xs := [V.ref p1, V.ref p2, V.ref p3]) (fun _ y _ => y = .bl true) (fun _ => ⟨fun _ _ _ _ h => h, fun _ _ _ _ _ _ h => h⟩) (by show 3 ≤ 50000; decide) (sq_of (eB _ _ hA)) (fun _ => rfl) (fun i x HC Q' hi eC kk => ?_) (fun D ys HC hD eC hC hl hy => ?_)
        · have one : ∀ (pl : Addr) zs, HB pl = some (.lst zs) → x = .ref pl → tCB (rIsi K) (tCons (tVar 6) (tCons (tC (.ty "list")) tNil)) ((wipe [some (V.ref a), some (V.ref pen), some (V.int k), some (V.ref told), some (V.int t), some (V.ref pf), v] [6]).set 6 (some x)) HC Q' := by
            rintro pl zs hpl rfl
            walk_at "rd"
            exact ⟨_, _, _, _, true, rfl, .ty "list", .base (.lst (eC _ _ hpl)), kit_ty (by decide +kernel), kk _ _ (Ex.refl _) rfl⟩
          match i, hi with
          | 0, hi => exact one p1 _ A1 (Option.some.inj hi).symm
          | 1, hi => exact one p2 _ A2 (Option.some.inj hi).symm
          | 2, hi => exact one p3 _ A3 (Option.some.inj hi).symm
          | n + 3, hi => exact nomatch hi
        · obtain rfl : ys = [.bl true, .bl true, .bl true] := by
            match ys, hl, hy with
            | [b1, b2, b3], _, hy => rw [hy 0 b1 rfl, hy 1 b2 rfl, hy 2 b3 rfl]
          refine ⟨D, _, rfl, .inl (sq_of hC), rfl, rfl, ?_⟩
          have eC6 : Ex H6 HC := e6B.trans eC
          have C0 : HC pf = some _ := eC _ _ (eB _ _ hA)
          have C1 : HC p1 = some _ := eC _ _ A1
          have C2 : HC p2 = some _ := eC _ _ A2
          have C3 : HC p3 = some _ := eC _ _ A3
          walk_at "rd"
          rw [if_neg (by decide)]
          walk_at "rd"
          refine l_list (xs := [V.ref p1, V.ref p2, V.ref p3]) (fun i σ' H' => ∃ v : Option V, σ' = [some (V.ref a), some (V.ref pen), some (V.int k), some (V.ref told), some (V.int t), some (V.ref pf), v] ∧ Ex H6 H' ∧ H' pf = some (.lst [V.ref p1, V.ref p2, V.ref p3]) ∧ ∀ q, q = p1 ∨ q = p2 ∨ q = p3 → ∃ zs : List V, H' q = some (.lst zs) ∧ zs.length ≤ 1000 + i)
            ⟨_, rfl, eC6, C0, ?_⟩ (fun i σ' H' _ ⟨_, _, _, h, _⟩ => sq_of h) ?_ ?_
          · rintro q (rfl | rfl | rfl)
            · exact ⟨_, C1, by rw [List.length_map]; omega⟩
            · exact ⟨_, C2, by rw [List.length_map]; omega⟩
            · exact ⟨_, C3, by rw [List.length_map]; omega⟩
          · rintro i x σ' H' hi ⟨v, rfl, e', hpf', hq⟩
            obtain ⟨px, rfl, hpx⟩ : ∃ px, x = .ref px ∧ (px = p1 ∨ px = p2 ∨ px = p3) := by
              match i, hi with
              | 0, hi => exact ⟨p1, (Option.some.inj hi).symm, .inl rfl⟩
              | 1, hi => exact ⟨p2, (Option.some.inj hi).symm, .inr (.inl rfl)⟩
              | 2, hi => exact ⟨p3, (Option.some.inj hi).symm, .inr (.inr rfl)⟩
              | n + 3, hi => exact nomatch hi
            have hi3 : i < 3 := (List.getElem?_eq_some_iff.mp hi).1
            obtain ⟨zs, hz, lz⟩ := hq px hpx
            have nf : pf ≠ px := by rcases hpx with rfl | rfl | rfl; exact n1.symm; exact n2.symm; exact n3.symm
            have fpx : H6 px = none := by
              rcases hpx with rfl | rfl | rfl
              · exact hp1
              · exact fresh_back e7 hp2
              · exact fresh_back (e7.trans e8) hp3
            have lz' : zs.length < 100000 := by omega
            walk_at "rd"
            rename_i HE mE hE
            refine w_reverse hE ?_
            walk_at "mut"
            rename_i HF mF hF
            walk_at "rd"
            refine ⟨_, rfl, mF.ex (mE.ex e' fpx) fpx, mF _ _ nf (mE _ _ nf hpf'), fun q hq' => ?_⟩
            by_cases eq : q = px
            · subst eq
              exact ⟨_, hF, by rw [List.length_reverse, List.length_append]; show zs.length + 1 ≤ _; omega⟩
            · obtain ⟨ws, hw, lw⟩ := hq q hq'
              exact ⟨ws, mF _ _ eq (mE _ _ eq hw), by omega⟩
          · rintro σ' H' ⟨v, rfl, e', _, _⟩
            exact ⟨_, _, _, rfl, by walk_at "ex"⟩
      · rintro σ' H6 ⟨z, u, v, rfl, e6⟩
        exact ⟨_, _, _, _, _, rfl, e25.trans e6⟩
    · rintro σ' H3 ⟨x, y, z, u, v, rfl, e3⟩
      walk_at "rd"
      exact q _
end

theorem all_mk {l : PySem.W.OpenLaw} {w : World} {K : PySem.W.Frag} {h : Heap} {mg : Str → Option Value} {fa : Addr} (X : K.In h) (G : h.Ns mainGlobals mg) (hfa : mg "law" = some (.ref fa))
    {f0 : Addr} {od0 an0 : Option Addr} {sl0 : Array (Option Value)} {oc0 kV0 dc0 pm0 cd0 ct0 : Value} {f1 : Addr} {od1 an1 : Option Addr} {sl1 : Array (Option Value)} {oc1 kV1 dc1 pm1 cd1 ct1 : Value} {f2 : Addr} {od2 an2 : Option Addr} {sl2 : Array (Option Value)} {oc2 kV2 dc2 pm2 cd2 ct2 : Value} {f3 : Addr} {od3 an3 : Option Addr} {sl3 : Array (Option Value)} {oc3 kV3 dc3 pm3 cd3 ct3 : Value} {f4 : Addr} {od4 an4 : Option Addr} {sl4 : Array (Option Value)} {oc4 kV4 dc4 pm4 cd4 ct4 : Value} {f5 : Addr} {od5 an5 : Option Addr} {sl5 : Array (Option Value)} {oc5 kV5 dc5 pm5 cd5 ct5 : Value} {f6 : Addr} {od6 an6 : Option Addr} {sl6 : Array (Option Value)} {oc6 kV6 dc6 pm6 cd6 ct6 : Value} {f7 : Addr} {od7 an7 : Option Addr} {sl7 : Array (Option Value)} {oc7 kV7 dc7 pm7 cd7 ct7 : Value} {f8 : Addr} {od8 an8 : Option Addr} {sl8 : Array (Option Value)} {oc8 kV8 dc8 pm8 cd8 ct8 : Value} {f9 : Addr} {od9 an9 : Option Addr} {sl9 : Array (Option Value)} {oc9 kV9 dc9 pm9 cd9 ct9 : Value}
    (a0 : PySem.W.nsIn K mainGlobals "names_of" = some (some (.ref f0))) (l0 : K.lookup f0 = some ⟨oc0, od0, .func (PySem.W.fnOf "names_of" "names_of" (defArgs s_names_of) (defBody s_names_of) (defScope s_names_of) .none kV0 dc0 pm0 an0 cd0 ct0), sl0⟩) (c0 : PySem.W.codeIn K cd0 "names_of" = true) (k0 : PySem.W.keepIn K (.ref f0) = true)
    (a1 : PySem.W.nsIn K mainGlobals "boxes_of" = some (some (.ref f1))) (l1 : K.lookup f1 = some ⟨oc1, od1, .func (PySem.W.fnOf "boxes_of" "boxes_of" (defArgs s_boxes_of) (defBody s_boxes_of) (defScope s_boxes_of) .none kV1 dc1 pm1 an1 cd1 ct1), sl1⟩) (c1 : PySem.W.codeIn K cd1 "boxes_of" = true) (k1 : PySem.W.keepIn K (.ref f1) = true)
    (a2 : PySem.W.nsIn K mainGlobals "slots_of" = some (some (.ref f2))) (l2 : K.lookup f2 = some ⟨oc2, od2, .func (PySem.W.fnOf "slots_of" "slots_of" (defArgs s_slots_of) (defBody s_slots_of) (defScope s_slots_of) .none kV2 dc2 pm2 an2 cd2 ct2), sl2⟩) (c2 : PySem.W.codeIn K cd2 "slots_of" = true) (k2 : PySem.W.keepIn K (.ref f2) = true)
    (a3 : PySem.W.nsIn K mainGlobals "_law_fill" = some (some (.ref f3))) (l3 : K.lookup f3 = some ⟨oc3, od3, .func (PySem.W.fnOf "_law_fill" "_law_fill" (defArgs s_Lfill) (defBody s_Lfill) (defScope s_Lfill) .none kV3 dc3 pm3 an3 cd3 ct3), sl3⟩) (c3 : PySem.W.codeIn K cd3 "_law_fill" = true) (k3 : PySem.W.keepIn K (.ref f3) = true)
    (a4 : PySem.W.nsIn K mainGlobals "_law_next" = some (some (.ref f4))) (l4 : K.lookup f4 = some ⟨oc4, od4, .func (PySem.W.fnOf "_law_next" "_law_next" (defArgs s_Lnext) (defBody s_Lnext) (defScope s_Lnext) .none kV4 dc4 pm4 an4 cd4 ct4), sl4⟩) (c4 : PySem.W.codeIn K cd4 "_law_next" = true) (k4 : PySem.W.keepIn K (.ref f4) = true)
    (a5 : PySem.W.nsIn K mainGlobals "_law_words" = some (some (.ref f5))) (l5 : K.lookup f5 = some ⟨oc5, od5, .func (PySem.W.fnOf "_law_words" "_law_words" (defArgs s_Lwords) (defBody s_Lwords) (defScope s_Lwords) .none kV5 dc5 pm5 an5 cd5 ct5), sl5⟩) (c5 : PySem.W.codeIn K cd5 "_law_words" = true) (k5 : PySem.W.keepIn K (.ref f5) = true)
    (a6 : PySem.W.nsIn K mainGlobals "_law_row" = some (some (.ref f6))) (l6 : K.lookup f6 = some ⟨oc6, od6, .func (PySem.W.fnOf "_law_row" "_law_row" (defArgs s_Lrow) (defBody s_Lrow) (defScope s_Lrow) .none kV6 dc6 pm6 an6 cd6 ct6), sl6⟩) (c6 : PySem.W.codeIn K cd6 "_law_row" = true) (k6 : PySem.W.keepIn K (.ref f6) = true)
    (a7 : PySem.W.nsIn K mainGlobals "_law_program" = some (some (.ref f7))) (l7 : K.lookup f7 = some ⟨oc7, od7, .func (PySem.W.fnOf "_law_program" "_law_program" (defArgs s_Lprogram) (defBody s_Lprogram) (defScope s_Lprogram) .none kV7 dc7 pm7 an7 cd7 ct7), sl7⟩) (c7 : PySem.W.codeIn K cd7 "_law_program" = true) (k7 : PySem.W.keepIn K (.ref f7) = true)
    (a8 : PySem.W.nsIn K mainGlobals "_law_due" = some (some (.ref f8))) (l8 : K.lookup f8 = some ⟨oc8, od8, .func (PySem.W.fnOf "_law_due" "_law_due" (defArgs s_Ldue) (defBody s_Ldue) (defScope s_Ldue) .none kV8 dc8 pm8 an8 cd8 ct8), sl8⟩) (c8 : PySem.W.codeIn K cd8 "_law_due" = true) (k8 : PySem.W.keepIn K (.ref f8) = true)
    (a9 : PySem.W.nsIn K mainGlobals "law" = some (some (.ref f9))) (l9 : K.lookup f9 = some ⟨oc9, od9, .func (PySem.W.fnOf "law" "law" (defArgs s_law) (defBody s_law) (defScope s_law) .none kV9 dc9 pm9 an9 cd9 ct9), sl9⟩) (c9 : PySem.W.codeIn K cd9 "law" = true) (k9 : PySem.W.keepIn K (.ref f9) = true)
    (z_isinstance : PySem.W.nsIn K mainGlobals "isinstance" = some none)
    (z_len : PySem.W.nsIn K mainGlobals "len" = some none)
    (z_list : PySem.W.nsIn K mainGlobals "list" = some none)
    (z_range : PySem.W.nsIn K mainGlobals "range" = some none)
    (z_set : PySem.W.nsIn K mainGlobals "set" = some none)
    (z_sorted : PySem.W.nsIn K mainGlobals "sorted" = some none)
    (z_str : PySem.W.nsIn K mainGlobals "str" = some none)
    (z_tuple : PySem.W.nsIn K mainGlobals "tuple" = some none)
    : ∃ fd : FuncData, (∀ (s : Shared) (v : Value), BindsTo s fd ⟨[v], []⟩ [("script", v)]) ∧ ∀ base : Heap, K.In base → base.Ns mainGlobals mg → FnOk l.prog w K mg base CX0 5 fa fd ["script"] (spLaw K) := by
  have e := hfa.symm.trans (PySem.W.mg_of X G a9)
  cases e
  have F0 := fun_mk (st := s_names_of) l0 c0 k0
  have b0 := F0.binds (ps := ["program"]) fun _ _ _ _ _ _ us hl => match us, hl with | [_], _ => rfl
  have F1 := fun_mk (st := s_boxes_of) l1 c1 k1
  have b1 := F1.binds (ps := ["program"]) fun _ _ _ _ _ _ us hl => match us, hl with | [_], _ => rfl
  have F2 := fun_mk (st := s_slots_of) l2 c2 k2
  have b2 := F2.binds (ps := ["program"]) fun _ _ _ _ _ _ us hl => match us, hl with | [_], _ => rfl
  have F3 := fun_mk (st := s_Lfill) l3 c3 k3
  have b3 := F3.binds (ps := ["_law_cell", "_law_at"]) fun _ _ _ _ _ _ us hl => match us, hl with | [_, _], _ => rfl
  have F4 := fun_mk (st := s_Lnext) l4 c4 k4
  have b4 := F4.binds (ps := ["_law_pen", "_law_many"]) fun _ _ _ _ _ _ us hl => match us, hl with | [_, _], _ => rfl
  have F5 := fun_mk (st := s_Lwords) l5 c5 k5
  have b5 := F5.binds (ps := ["_law_pen", "_law_many"]) fun _ _ _ _ _ _ us hl => match us, hl with | [_, _], _ => rfl
  have F6 := fun_mk (st := s_Lrow) l6 c6 k6
  have b6 := F6.binds (ps := ["_law_pen", "_law_names", "_law_boxes", "_law_slots"]) fun _ _ _ _ _ _ us hl => match us, hl with | [_, _, _, _], _ => rfl
  have F7 := fun_mk (st := s_Lprogram) l7 c7 k7
  have b7 := F7.binds (ps := ["_law_pen", "_law_most"]) fun _ _ _ _ _ _ us hl => match us, hl with | [_, _], _ => rfl
  have F8 := fun_mk (st := s_Ldue) l8 c8 k8
  have b8 := F8.binds (ps := ["_law_told"]) fun _ _ _ _ _ _ us hl => match us, hl with | [_], _ => rfl
  have F9 := fun_mk (st := s_law) l9 c9 k9
  have b9 := F9.binds (ps := ["script"]) fun _ _ _ _ _ _ us hl => match us, hl with | [_], _ => rfl
  exact ⟨_, fun s v => .of_eq rfl, fun base _ _ => ok_law (T := { f_names_of := _, d_names_of := _, F_names_of := F0, b_names_of := b0, g_names_of := PySem.W.mg_of X G a0, f_boxes_of := _, d_boxes_of := _, F_boxes_of := F1, b_boxes_of := b1, g_boxes_of := PySem.W.mg_of X G a1, f_slots_of := _, d_slots_of := _, F_slots_of := F2, b_slots_of := b2, g_slots_of := PySem.W.mg_of X G a2, f_Lfill := _, d_Lfill := _, F_Lfill := F3, b_Lfill := b3, g_Lfill := PySem.W.mg_of X G a3, f_Lnext := _, d_Lnext := _, F_Lnext := F4, b_Lnext := b4, g_Lnext := PySem.W.mg_of X G a4, f_Lwords := _, d_Lwords := _, F_Lwords := F5, b_Lwords := b5, g_Lwords := PySem.W.mg_of X G a5, f_Lrow := _, d_Lrow := _, F_Lrow := F6, b_Lrow := b6, g_Lrow := PySem.W.mg_of X G a6, f_Lprogram := _, d_Lprogram := _, F_Lprogram := F7, b_Lprogram := b7, g_Lprogram := PySem.W.mg_of X G a7, f_Ldue := _, d_Ldue := _, F_Ldue := F8, b_Ldue := b8, g_Ldue := PySem.W.mg_of X G a8, f_law := _, d_law := _, F_law := F9, b_law := b9, g_law := PySem.W.mg_of X G a9, z_isinstance := PySem.W.mg_none_of X G z_isinstance, z_len := PySem.W.mg_none_of X G z_len, z_list := PySem.W.mg_none_of X G z_list, z_range := PySem.W.mg_none_of X G z_range, z_set := PySem.W.mg_none_of X G z_set, z_sorted := PySem.W.mg_none_of X G z_sorted, z_str := PySem.W.mg_none_of X G z_str, z_tuple := PySem.W.mg_none_of X G z_tuple })⟩
end My

open PySem PySem.W PyProof.Rows in
set_option maxRecDepth 100000 in
set_option maxHeartbeats 0 in
theorem PySem.Challenge.cw_whoholds_k02_names_boxes_slots_holds : PySem.Challenge.rw_whoholds_k02_names_boxes_slots.Holds := by
  w_on; o_law; k_head; (case hw => w_witness2)
  k_fill
  refine L2.walk_of (l := PySem.Challenge.rw_whoholds_k02_names_boxes_slots) (n := 63) (k := 5) (x := "script") (CX := fun _ => L2.CX0) (sp := fun w => My.spLaw _) rfl (by decide) rfl ⟨rfl, by decide, by decide⟩ (fun w h Y => PySem.W.kIn_of Y) ?F (fun _ _ a ns hl _ hS => ⟨a, ns, rfl, hS, hl, fun _ => rfl⟩) (fun _ _ _ _ _ h => h)
  case F =>
    intro w mg fa h KX G hmg
    refine' My.all_mk KX G hmg ?a0 ?l0 ?c0 ?k0 ?a1 ?l1 ?c1 ?k1 ?a2 ?l2 ?c2 ?k2 ?a3 ?l3 ?c3 ?k3 ?a4 ?l4 ?c4 ?k4 ?a5 ?l5 ?c5 ?k5 ?a6 ?l6 ?c6 ?k6 ?a7 ?l7 ?c7 ?k7 ?a8 ?l8 ?c8 ?k8 ?a9 ?l9 ?c9 ?k9 ?z_isinstance ?z_len ?z_list ?z_range ?z_set ?z_sorted ?z_str ?z_tuple
    (case a0 => k_is)
    (case l0 => k_is)
    (case c0 => k_is)
    (case k0 => k_is)
    (case a1 => k_is)
    (case l1 => k_is)
    (case c1 => k_is)
    (case k1 => k_is)
    (case a2 => k_is)
    (case l2 => k_is)
    (case c2 => k_is)
    (case k2 => k_is)
    (case a3 => k_is)
    (case l3 => k_is)
    (case c3 => k_is)
    (case k3 => k_is)
    (case a4 => k_is)
    (case l4 => k_is)
    (case c4 => k_is)
    (case k4 => k_is)
    (case a5 => k_is)
    (case l5 => k_is)
    (case c5 => k_is)
    (case k5 => k_is)
    (case a6 => k_is)
    (case l6 => k_is)
    (case c6 => k_is)
    (case k6 => k_is)
    (case a7 => k_is)
    (case l7 => k_is)
    (case c7 => k_is)
    (case k7 => k_is)
    (case a8 => k_is)
    (case l8 => k_is)
    (case c8 => k_is)
    (case k8 => k_is)
    (case a9 => k_is)
    (case l9 => k_is)
    (case c9 => k_is)
    (case k9 => k_is)
    (case z_isinstance => k_is)
    (case z_len => k_is)
    (case z_list => k_is)
    (case z_range => k_is)
    (case z_set => k_is)
    (case z_sorted => k_is)
    (case z_str => k_is)
    (case z_tuple => k_is)

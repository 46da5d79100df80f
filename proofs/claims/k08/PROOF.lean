import PyProof.Rows.All
import Wide.All
import OpenK.AllK
import Wide.FinOn
import HandS.Evl
import HandS.GenList
import HandS.Walk
import HandS.WordsExc
import HandS.ForMost
import HandS.Wide
import HandS.WideBits
import HandS.Style
import HandS.SortInts
import HandS.SortKw
import HandS.SetFor
import HandS.SetBool
import HandS.Flow
import HandS.Gcd
import HandS.Strs
import HandS.Defaults
import HandS.RaiseMore
import KE.KMathG
import KE.DatumOrd
import KE.GoesMore
import KE.GoesEnum
import Flt.RightSqrt
import PyProof.ReprRoads
import PyProof.ReprBulk
import PyProof.FitsInt
import PyProof.LongRange
import HandS.Star
import HandS.GenBody
import HandS.GenCall
import PySem.Challenge.RW_pagecounts_k08_page_counts_added
set_option Elab.async false
set_option linter.all false
set_option maxRecDepth 100000
set_option maxHeartbeats 4000000
/-! Readings, step by step, from their heads (own lemmas over HandS). -/
namespace HS
open PySem PySem.Spec PyProof.Rows L2
section
variable {σ : L2.St} {H : Hp} {Q : VK} {t u : TS} {te ta tb tx : TE} {tt tv : TT} {n bk ct : L2.St → Hp → Prop} {rt : VK} {K : PySem.W.Frag}
theorem seq (h : t ⟨u ⟨n, rt, bk, ct⟩, rt, bk, ct⟩ σ H) : tSeq t u ⟨n, rt, bk, ct⟩ σ H := h
theorem nxt (h : n σ H) : tNext ⟨n, rt, bk, ct⟩ σ H := h
theorem brk (h : bk σ H) : tBreak ⟨n, rt, bk, ct⟩ σ H := h
theorem cnt (h : ct σ H) : tCont ⟨n, rt, bk, ct⟩ σ H := h
theorem asg {g : TG} (h : te σ H fun x H1 => g x σ H1 n) : tAsg te g ⟨n, rt, bk, ct⟩ σ H := h
theorem nm {v : V} {i : Nat} {q : L2.St → Hp → Prop} (h : q (σ.set i (some v)) H) : gName i v σ H q := h
theorem sub {to ti : TE} {ts : TSet} {v : V} {q : L2.St → Hp → Prop} (h : to σ H fun o H1 => ti σ H1 fun i H2 => ts o i v H2 fun H3 => q σ H3) : gSub to ti ts v σ H q := h
theorem var {i : Nat} {v : V} (h : σ[i]? = some (some v)) (q : Q v H) : tVar i σ H Q := ⟨v, h, q⟩
theorem cst {v : V} (q : Q v H) : tC v σ H Q := q
theorem op {r : R2} (h : ta σ H fun x H1 => tb σ H1 fun y H2 => r x y H2 Q) : tOp r ta tb σ H Q := h
theorem un {r : V → Hp → VK → Prop} (h : ta σ H fun x H1 => r x H1 Q) : tUn r ta σ H Q := h
theorem i0 {g : Int → Int → V} {i j : Int} (q : Q (g i j) H) : rI0 g (.int i) (.int j) H Q := ⟨i, j, rfl, rfl, q⟩
theorem i1 {C : Int → Int → Prop} {g : Int → Int → V} {i j : Int} (q : C i j ∧ Q (g i j) H) : rI C g (.int i) (.int j) H Q := ⟨i, j, rfl, rfl, q⟩
theorem u0 {g : Int → V} {i : Int} (q : Q (g i) H) : rU g (.int i) H Q := ⟨i, rfl, q⟩
theorem eqI {i j : Int} (q : Q (.bl (decide (i = j))) H) : rEq (.int i) (.int j) H Q := ⟨rfl, by
  have e : decide ((V.int i) = V.int j) = decide (i = j) := by
    by_cases h : i = j
    · rw [h]; simp
    · have h2 : ¬ (V.int i = V.int j) := fun z => h (V.int.inj z)
      rw [decide_eq_false h, decide_eq_false h2]
  rw [e]; exact q⟩
theorem neI {i j : Int} (q : Q (.bl (!decide (i = j))) H) : rNe (.int i) (.int j) H Q := ⟨rfl, by
  have e : decide ((V.int i) = V.int j) = decide (i = j) := by
    by_cases h : i = j
    · rw [h]; simp
    · have h2 : ¬ (V.int i = V.int j) := fun z => h (V.int.inj z)
      rw [decide_eq_false h, decide_eq_false h2]
  rw [e]; exact q⟩
theorem tst {q : Bool → Hp → Prop} (h : te σ H fun x H' => ∃ k, x = .bl k ∧ q k H') : tTest te σ H q := h
theorem tb1 {q : Bool → Hp → Prop} (h : te σ H fun x H' => ∃ k, x = .bl k ∧ q k H') : tB te σ H q := h
theorem bex {b : Bool} {q : Bool → Prop} (h : q b) : ∃ k, V.bl b = V.bl k ∧ q k := ⟨b, rfl, h⟩
theorem ifs (h : tt σ H fun b H1 => if b = true then t ⟨n, rt, bk, ct⟩ σ H1 else u ⟨n, rt, bk, ct⟩ σ H1) : tIfS tt t u ⟨n, rt, bk, ct⟩ σ H := h
theorem ife (h : tt σ H fun b H1 => if b = true then ta σ H1 Q else tb σ H1 Q) : tIf tt ta tb σ H Q := h
theorem and {q : Bool → Hp → Prop} (h : tt σ H fun c H1 => if c = true then tv σ H1 q else q false H1) : tAnd tt tv σ H q := h
theorem or {q : Bool → Hp → Prop} (h : tt σ H fun c H1 => if c = true then q true H1 else tv σ H1 q) : tOr tt tv σ H q := h
theorem not {q : Bool → Hp → Prop} (h : tt σ H fun c H1 => q (!c) H1) : tNot tt σ H q := h
theorem andV (h : ta σ H fun x H1 => ∃ c, x = .bl c ∧ if c = true then tb σ H1 Q else Q (.bl false) H1) : tAndV ta tb σ H Q := h
theorem orV (h : ta σ H fun x H1 => ∃ c, x = .bl c ∧ if c = true then Q (.bl true) H1 else tb σ H1 Q) : tOrV ta tb σ H Q := h
theorem notV (h : ta σ H fun x H1 => ∃ c, x = .bl c ∧ Q (.bl (!c)) H1) : tNotV ta σ H Q := h
theorem chn {r r' : R2} {tc : TE} (h : ta σ H fun x H1 => tb σ H1 fun y H2 => r x y H2 fun z H3 => ∃ k, z = .bl k ∧ if k = true then tc σ H3 fun w H4 => r' y w H4 Q else Q (.bl false) H3) : tChain r r' ta tb tc σ H Q := h
theorem ret (h : te σ H rt) : tRet te ⟨n, rt, bk, ct⟩ σ H := h
theorem retN (h : rt .non H) : tRetN ⟨n, rt, bk, ct⟩ σ H := h
theorem drp (h : te σ H fun _ H1 => n σ H1) : tDrop te ⟨n, rt, bk, ct⟩ σ H := h
theorem cb {r : List V → Hp → VK → Prop} {tl : TA} (h : tl σ H fun vs H1 => r vs H1 Q) : tCB r tl σ H Q := h
theorem anil {q : List V → Hp → Prop} (h : q [] H) : tNil σ H q := h
theorem acons {tl : TA} {q : List V → Hp → Prop} (h : te σ H fun x H1 => tl σ H1 fun xs H2 => q (x :: xs) H2) : tCons te tl σ H q := h
theorem cal {sp : Sp} {E : XK} {tl : TA} (h : tl σ H fun vs H1 => sp vs H1 Q E) : tCall sp [] E tl σ H Q := by
  show tl σ H fun vs H1 => sp (vs ++ []) H1 Q E
  simp only [List.append_nil]; exact h
theorem tup {tl : TA} (h : tl σ H fun xs H1 => xs.length ≤ sizeLine ∧ ∀ p, H1 p = none → Q (.ref p) (upd H1 p (.tup xs))) : tTup tl σ H Q := h
theorem lst {tl : TA} (h : tl σ H fun xs H1 => xs.length ≤ sizeLine ∧ ∀ p, H1 p = none → Q (.ref p) (upd H1 p (.lst xs))) : tLst tl σ H Q := h
theorem par {i j : Nat} {tl : TA} (h : tl σ H fun vs H1 => ∃ v w, vs = [v, w] ∧ n ((σ.set i (some v)).set j (some w)) H1) : tPar i j tl ⟨n, rt, bk, ct⟩ σ H := h
theorem ex2 {v w : V} {q : V → V → Prop} (h : q v w) : ∃ a b, [v, w] = [a, b] ∧ q a b := ⟨v, w, rfl, h⟩
theorem aug {i : Nat} {ti : TIp} {x : V} (e : σ[i]? = some (some x)) (h : te σ H fun y H1 => ti x y H1 fun z H2 => n (σ.set i (some z)) H2) : tAug i te ti ⟨n, rt, bk, ct⟩ σ H := ⟨x, e, h⟩
theorem ipi {f : Int → Int → Int} {i j : Int} (q : Q (.int (f i j)) H) : ipI f (.int i) (.int j) H Q := ⟨i, j, rfl, rfl, q⟩
theorem addI {i j : Int} (q : Q (.int (i + j)) H) : rAdd (.int i) (.int j) H Q := ⟨i, j, rfl, rfl, q⟩
theorem ixL {p : Addr} {xs : List V} {i : Int} {v : V} (h : SqL K H p xs) (e : atI xs i = some v) (q : Q v H) : rIxL K (.ref p) (.int i) H Q := ⟨p, xs, i, v, rfl, rfl, h, e, q⟩
theorem ixT {p : Addr} {xs : List V} {i : Int} {v : V} (h : SqT K H p xs) (e : atI xs i = some v) (q : Q v H) : rIxT K (.ref p) (.int i) H Q := ⟨p, xs, i, v, rfl, rfl, h, e, q⟩
/-- an if over a decided thing -/
theorem itd {c A B : Prop} [Decidable c] (h1 : c → A) (h2 : ¬ c → B) : if decide c = true then A else B := by
  by_cases h : c
  · rw [decide_eq_true h, if_pos rfl]; exact h1 h
  · rw [decide_eq_false h, if_neg Bool.false_ne_true]; exact h2 h
theorem itn {c A B : Prop} [Decidable c] (h1 : ¬ c → A) (h2 : c → B) : if (!decide c) = true then A else B := by
  by_cases h : c
  · rw [decide_eq_true h]; exact iteF (h2 h)
  · rw [decide_eq_false h]; exact iteT (h1 h)
theorem it1 {c A B : Prop} [Decidable c] (hc : c) (h : A) : if decide c = true then A else B := itd (fun _ => h) fun z => absurd hc z
theorem it0 {c A B : Prop} [Decidable c] (hc : ¬ c) (h : B) : if decide c = true then A else B := itd (fun z => absurd z hc) fun _ => h
theorem in1 {c A B : Prop} [Decidable c] (hc : ¬ c) (h : A) : if (!decide c) = true then A else B := itn (fun _ => h) fun z => absurd z hc
theorem in0 {c A B : Prop} [Decidable c] (hc : c) (h : B) : if (!decide c) = true then A else B := itn (fun z => absurd hc z) fun _ => h
end
/-! ### heaps: all but S stands -/
def Keep (S : Addr → Prop) (H H' : Hp) : Prop := ∀ a o, H a = some o → ¬ S a → H' a = some o
section
variable {S : Addr → Prop} {H H1 H2 : Hp} {p q : Addr} {o u : HO}
theorem Keep.refl : Keep S H H := fun _ _ h _ => h
theorem Keep.trans (a : Keep S H H1) (b : Keep S H1 H2) : Keep S H H2 := fun x o h n => b x o (a x o h n) n
theorem Keep.new (h : H p = none) : Keep S H (upd H p o) := fun a u e _ => by rw [upd_ne (ne_of_none e h)]; exact e
theorem Keep.put (k : Keep S H H1) (h : H p = none) : Keep S H (upd H1 p o) := fun a u e n => by rw [upd_ne (ne_of_none e h)]; exact k a u e n
theorem Keep.at (k : Keep S H H1) (h : S p) : Keep S H (upd H1 p o) := fun a u e n => by rw [upd_ne (fun z => n (by rw [z]; exact h))]; exact k a u e n
theorem Keep.free (k : Keep S H H1) (h : H1 p = none) (n : ¬ S p) : H p = none := by
  cases e : H p with
  | none => rfl
  | some o => have z := k p o e n; rw [h] at z; cases z
theorem Keep.sq {K : PySem.W.Frag} {xs : List V} (k : Keep S H H1) (h : SqL K H p xs) (n : ¬ S p) : SqL K H1 p xs := by
  rcases h with (h | ⟨o, h⟩) | h
  · exact .inl (.inl (k _ _ h n))
  · exact .inl (.inr ⟨o, k _ _ h n⟩)
  · exact .inr h
theorem Keep.st {K : PySem.W.Frag} {xs : List V} (k : Keep S H H1) (h : SqT K H p xs) (n : ¬ S p) : SqT K H1 p xs := by
  rcases h with (h | ⟨o, h⟩) | h
  · exact .inl (.inl (k _ _ h n))
  · exact .inl (.inr ⟨o, k _ _ h n⟩)
  · exact .inr h
theorem sq {K : PySem.W.Frag} {xs : List V} (h : H p = some (.lst xs)) : SqL K H p xs := .inl (.inl h)
theorem st {K : PySem.W.Frag} {xs : List V} (h : H p = some (.tup xs)) : SqT K H p xs := .inl (.inl h)
end
end HS
theorem hu64 {A : PySem.Around} {k : Nat} (hr : L2.Room k A) : A.units + 64 < PySem.cLine := hr.units
namespace HS
open PySem PySem.Spec PyProof.Rows L2
section
variable {σ : L2.St} {H : Hp} {Q : VK} {te ta tb tx : TE} {K : PySem.W.Frag} {X : Cx}
theorem sz {n : Nat} (h : n ≤ 100000) : n < sizeLine := Nat.lt_of_le_of_lt h (by decide)
theorem szl {n : Nat} (h : n ≤ 100000) : n ≤ sizeLine := Nat.le_of_lt (sz h)
theorem pe_fold {e : Expr} {t : TE} (z : Int) (h : PE X e t) (k : ∀ (σ : L2.St) (H : Hp) (Q : VK), Q (.int z) H → t σ H Q) : PE X e (tC (.int z)) :=
  ⟨fun pins s σ H Q I q => h.run pins s σ H Q I (k σ H Q q)⟩
theorem ii {a b : Int} {q : Int → Int → Prop} (h : q a b) : ∃ i j, [V.int a, V.int b] = [V.int i, V.int j] ∧ q i j := ⟨a, b, rfl, h⟩
theorem bmL {r : V → List V → Hp → VK → Prop} {tl : TA} (h : ta σ H fun x H1 => tyV K "list" x H1 ∧ tl σ H1 fun xs H2 => r x xs H2 Q) : tBM K "list" r ta tl σ H Q := h
theorem bmL0 {r : V → List V → Hp → VK → Prop} (h : ta σ H fun x H1 => tyV K "list" x H1 ∧ r x [] H1 Q) : tBM0 K "list" r ta σ H Q := h
theorem tyL {p : Addr} {xs : List V} {A : Prop} (h : H p = some (.lst xs)) (q : A) : tyV K "list" (.ref p) H ∧ A := ⟨.inl ⟨rfl, _, .inl (.inl h)⟩, q⟩
theorem app {l : Addr} {xs : List V} {y : V} (h : H l = some (.lst xs)) (q : xs.length < sizeLine ∧ Q .non (upd H l (.lst (xs ++ [y])))) : rAppend (.ref l) [y] H Q := ⟨l, xs, y, rfl, rfl, h, q⟩
theorem pop0 {l : Addr} {y : V} {ys : List V} (h : H l = some (.lst (y :: ys))) (q : Q y (upd H l (.lst ys))) : rPopAt (.ref l) [.int 0] H Q := ⟨l, y :: ys, 0, 0, y, rfl, rfl, h, by decide, by decide, by simp [seqIndex?], rfl, q⟩
theorem setL {p : Addr} {xs : List V} {k : Int} {j : Nat} {v : V} {q : Hp → Prop} (h : H p = some (.lst xs)) (e : ixN xs.length k = some j) (g : q (upd H p (.lst (xs.set j v)))) : rSetL (.ref p) (.int k) v H q := ⟨p, xs, _, j, rfl, rfl, h, e, g⟩
theorem mulW {i j : Int} (a b : Nat) (h0 : 0 ≤ i) (h1 : i < 2 ^ a) (g0 : 0 ≤ j) (g1 : j < 2 ^ b) (ha : 0 < a) (hb : 0 < b) (h : a + b ≤ 1000000) : CMulW i j := by
  refine wide_mul (a := a) (b := b) ?_ ?_ ha hb h
  · have : ((i.natAbs : Nat) : Int) < ((2 ^ a : Nat) : Int) := by rw [Int.natAbs_of_nonneg h0]; simpa using h1
    exact Int.ofNat_lt.mp this
  · have : ((j.natAbs : Nat) : Int) < ((2 ^ b : Nat) : Int) := by rw [Int.natAbs_of_nonneg g0]; simpa using g1
    exact Int.ofNat_lt.mp this
theorem divW {i j : Int} (b : Nat) (h : 0 < j) (h1 : j < 2 ^ b) (hb : 0 < b) (h9 : b ≤ 9000) : CDivW i j := by
  refine wide_div (b := b) h ?_ hb h9
  have : ((j.natAbs : Nat) : Int) < ((2 ^ b : Nat) : Int) := by rw [Int.natAbs_of_nonneg (by omega)]; simpa using h1
  exact Int.ofNat_lt.mp this
theorem get_int {ns : List Int} {i : Nat} {x : V} (hi : (ns.map V.int)[i]? = some x) : ∃ z, x = .int z ∧ ns[i]? = some z ∧ i < ns.length := by
  rw [List.getElem?_map] at hi
  cases e : ns[i]? with
  | none => rw [e] at hi; cases hi
  | some z => rw [e] at hi; exact ⟨z, (Option.some.inj hi).symm, rfl, (List.getElem?_eq_some_iff.mp e).1⟩
end
end HS
namespace HS
open PySem PySem.Spec PyProof.Rows L2
theorem Keep.new' {S : Addr → Prop} {H H0 H1 : Hp} {p : Addr} {o : HO} (h : H0 p = none) (k0 : Keep S H H0) (n : ¬ S p) (k : Keep S H H1) : Keep S H (upd H1 p o) := k.put (k0.free h n)
theorem nS2 {p a b : Addr} (h1 : p ≠ a) (h2 : p ≠ b) : ¬ (p = a ∨ p = b) := fun z => z.elim h1 h2
theorem nS3 {p a b c : Addr} (h1 : p ≠ a) (h2 : p ≠ b) (h3 : p ≠ c) : ¬ (p = a ∨ p = b ∨ p = c) := fun z => z.elim h1 fun z => z.elim h2 h3
end HS
namespace HS
open PySem PySem.Spec PyProof.Rows L2
section
variable {σ : L2.St} {H : Hp} {t u : TS} {n bk ct : L2.St → Hp → Prop} {rt : VK}
theorem pnx (h : n σ H) : Ends.nx ⟨n, rt, bk, ct⟩ σ H := h
theorem pbk (h : bk σ H) : Ends.bk ⟨n, rt, bk, ct⟩ σ H := h
theorem pct (h : ct σ H) : Ends.ct ⟨n, rt, bk, ct⟩ σ H := h
theorem prt {v : V} (h : rt v H) : Ends.rt ⟨n, rt, bk, ct⟩ v H := h
theorem cut (M : L2.St → Hp → Prop) (h : t ⟨M, rt, bk, ct⟩ σ H) (k : ∀ σ' H', M σ' H' → u ⟨n, rt, bk, ct⟩ σ' H') : Evl.tCut t u ⟨n, rt, bk, ct⟩ σ H := ⟨M, h, k⟩
theorem pow_lt {i : Int} {a : Nat} (k : Nat) (h0 : 0 ≤ i) (h : i < 2 ^ a) : 0 ≤ i ^ k ∧ (i ^ k < 2 ^ (a * k) ∨ k = 0) := by
  refine ⟨Int.pow_nonneg h0, ?_⟩
  cases k with
  | zero => exact .inr rfl
  | succ k =>
    refine .inl ?_
    obtain ⟨m, rfl⟩ := Int.eq_ofNat_of_zero_le h0
    have h' : m < 2 ^ a := by have : ((m : Nat) : Int) < ((2 ^ a : Nat) : Int) := by simpa using h
                              exact Int.ofNat_lt.mp this
    have := Nat.pow_lt_pow_left h' (Nat.succ_ne_zero k)
    rw [← Nat.pow_mul] at this
    have z : ((m ^ (k + 1) : Nat) : Int) < ((2 ^ (a * (k + 1)) : Nat) : Int) := Int.ofNat_lt.mpr this
    simpa using z
end
end HS
namespace HS
open PySem PySem.Spec PyProof.Rows L2
section
variable {σ : L2.St} {H : Hp} {Q : VK} {ta tb te : TE} {K : PySem.W.Frag}
theorem szc {n : Nat} {A : Prop} (h : n ≤ 100000) (q : A) : n ≤ sizeLine ∧ A := ⟨szl h, q⟩
theorem szd {n : Nat} {A : Prop} (h : n ≤ 100000) (q : A) : n < sizeLine ∧ A := ⟨sz h, q⟩
theorem wp {σ1 σ2 : L2.St} {vs : List Nat} {A : Prop} (e : wipe σ2 vs = wipe σ1 vs) (q : A) : wipe σ2 vs = wipe σ1 vs ∧ A := ⟨e, q⟩
theorem yes {q : Bool → Hp → Prop} (h : q true H) : tYes σ H q := h
theorem ixI {p : Addr} {i : Int} (ns : List Int) (h : SqL K H p (ns.map V.int)) (h0 : 0 ≤ i) (h1 : i < ns.length) (q : ∀ z, ns[i.toNat]? = some z → z ∈ ns → Q (.int z) H) : rIxL K (.ref p) (.int i) H Q := by
  have hi : i.toNat < ns.length := by omega
  have e : ns[i.toNat]? = some ns[i.toNat] := List.getElem?_eq_getElem hi
  refine ⟨p, ns.map V.int, i, .int ns[i.toNat], rfl, rfl, h, ?_, q _ e (List.getElem_mem hi)⟩
  exact at_of (j := i.toNat) (by omega) (by rw [List.getElem?_map, e]; rfl)
theorem ixV {p : Addr} {i : Int} {xs : List V} (h : SqL K H p xs) (h0 : 0 ≤ i) (h1 : i < xs.length) (q : ∀ v, xs[i.toNat]? = some v → v ∈ xs → Q v H) : rIxL K (.ref p) (.int i) H Q := by
  have hi : i.toNat < xs.length := by omega
  have e : xs[i.toNat]? = some xs[i.toNat] := List.getElem?_eq_getElem hi
  refine ⟨p, xs, i, xs[i.toNat], rfl, rfl, h, ?_, q _ e (List.getElem_mem hi)⟩
  exact at_of (j := i.toNat) (by omega) e
theorem ixVT {p : Addr} {i : Int} {xs : List V} (h : SqT K H p xs) (h0 : 0 ≤ i) (h1 : i < xs.length) (q : ∀ v, xs[i.toNat]? = some v → v ∈ xs → Q v H) : rIxT K (.ref p) (.int i) H Q := by
  have hi : i.toNat < xs.length := by omega
  have e : xs[i.toNat]? = some xs[i.toNat] := List.getElem?_eq_getElem hi
  refine ⟨p, xs, i, xs[i.toNat], rfl, rfl, h, ?_, q _ e (List.getElem_mem hi)⟩
  exact at_of (j := i.toNat) (by omega) e
theorem lc {wi : TI} {g : TG} {tt : TT} {vs : List Nat} (h : wi σ H fun J H1 => ∀ D, H1 D = none → ∃ W : Nat → Nat → Hp → Prop, (∃ m, W 0 m (upd H1 D (.lst []))) ∧ ∀ i m H, W i m H → (J.stop i H ∧ Q (.ref D) H) ∨ (J.go i H ∧ ∃ Nx : Hp → Prop, (∀ H', Nx H' → ∃ m', m' < m ∧ W (i + 1) m' H') ∧ ∀ x H', J.yld i H x H' → g x (wipe σ vs) H' fun σ2 H2 => wipe σ2 vs = wipe σ vs ∧ tt σ2 H2 fun b H3 => if b = true then te σ2 H3 fun y H4 => ∃ acc, H4 D = some (.lst acc) ∧ acc.length < sizeLine ∧ Nx (upd H4 D (.lst (acc ++ [y]))) else Nx H3)) : tLc wi g tt te vs σ H Q := h
theorem rng1 {tl : TA} {R : It → Hp → Prop} (h : tl σ H fun vs H1 => ∃ j : Int, vs = [.int j] ∧ -(2 ^ 62) ≤ j ∧ j < 2 ^ 62 ∧ R (Itr 0 j.toNat) H1) : iRng1 tl σ H R := h
theorem rng2 {tl : TA} {R : It → Hp → Prop} (h : tl σ H fun vs H1 => ∃ i j : Int, vs = [.int i, .int j] ∧ (-(2 ^ 62) ≤ i ∧ i < 2 ^ 62 ∧ -(2 ^ 62) ≤ j ∧ j < 2 ^ 62) ∧ R (Itr i (j - i).toNat) H1) : iRng2 tl σ H R := h
theorem lis {tl : TE} {R : It → Hp → Prop} (h : tl σ H fun x H1 => ∃ a, x = .ref a ∧ (∃ xs, SqL K H1 a xs) ∧ R (Itl K a) H1) : iList K tl σ H R := h
theorem ra {a : Addr} {q : Addr → Prop} (h : q a) : ∃ b, V.ref a = V.ref b ∧ q b := ⟨a, rfl, h⟩
theorem i1e {a : Int} {q : Int → Prop} (h : q a) : ∃ i, [V.int a] = [V.int i] ∧ q i := ⟨a, rfl, h⟩
theorem fr {wi : TI} {g : TG} {tb : TS} {D : Ends} (h : wi σ H fun J H1 => ∃ W : Nat → Nat → L2.St → Hp → Prop, (∃ m, W 0 m σ H1) ∧ ∀ i m σ H, W i m σ H →
    (J.stop i H ∧ D.nx σ H) ∨ (J.go i H ∧ ∃ N : L2.St → Hp → Prop, (∀ σ' H', N σ' H' → ∃ m', m' < m ∧ W (i + 1) m' σ' H') ∧ ∀ x H', J.yld i H x H' → g x σ H' fun σ2 H2 => tb { D with nx := N, ct := N, bk := D.nx } σ2 H2)) : tFor wi g tb D σ H := h
end
end HS
namespace HS
open PySem PySem.Spec PyProof.Rows L2
theorem iteM {c : Bool} {ta tb : TE} {σ : L2.St} {H1 : Hp} {Q : VK} (M : VK) (h : c = true → ∀ Q' : VK, (∀ v H', M v H' → Q' v H') → ta σ H1 Q') (g : c = false → ∀ Q' : VK, (∀ v H', M v H' → Q' v H') → tb σ H1 Q') (k : ∀ v H', M v H' → Q v H') :
    if c = true then ta σ H1 Q else tb σ H1 Q := by
  cases c with
  | true => rw [if_pos rfl]; exact h rfl Q k
  | false => rw [if_neg Bool.false_ne_true]; exact g rfl Q k
/-- ceilings -/
theorem ceil_eq {i j : Int} (hj : 1 ≤ j) : (i + j - 1) / j = i / j + (if 0 < i % j then 1 else 0) := by
  have h0 := Int.emod_nonneg i (by omega : j ≠ 0)
  have h1 := Int.emod_lt_of_pos i (by omega : 0 < j)
  have e := Int.mul_ediv_add_emod i j
  generalize i / j = q at e ⊢
  generalize i % j = r at e h0 h1 ⊢
  subst e
  split
  · rename_i h
    rw [show j * q + r + j - 1 = (r - 1) + j * (q + 1) by rw [Int.mul_add]; omega, Int.add_mul_ediv_left _ _ (by omega), Int.ediv_eq_zero_of_lt (by omega) (by omega)]
    omega
  · rename_i h
    rw [show j * q + r + j - 1 = (j - 1) + j * q by omega, Int.add_mul_ediv_left _ _ (by omega), Int.ediv_eq_zero_of_lt (by omega) (by omega)]
    omega
end HS
namespace HS
open PySem PySem.Spec PyProof.Rows L2
section
variable {σ : L2.St} {H : Hp} {te : TE} {t : TS} {tg ug : TGn} {n bk ct : List V → L2.St → Hp → Prop} {rt : List V → VK} {ys : List V} {Q : VK}
theorem gthen (h : tg ⟨fun ys' σ' H' => ug ⟨n, rt, bk, ct⟩ ys' σ' H', rt, bk, ct⟩ ys σ H) : tGThen tg ug ⟨n, rt, bk, ct⟩ ys σ H := h
theorem g0 (h : n ys σ H) : tG0 ⟨n, rt, bk, ct⟩ ys σ H := h
theorem gpl (h : t ⟨n ys, rt ys, bk ys, ct ys⟩ σ H) : tPlain t ⟨n, rt, bk, ct⟩ ys σ H := h
theorem gyl (h : ys.length < sizeLine ∧ te σ H fun x H1 => n (ys ++ [x]) σ H1) : tGYield te ⟨n, rt, bk, ct⟩ ys σ H := h
theorem lgn {tg : TGen} (h : tg σ H fun out H2 => ∀ p, H2 p = none → Q (.ref p) (upd H2 p (.lst out))) : tListG tg σ H Q := h
theorem calg {sp : SpG} {E : XK} {tl : TA} {q : List V → Hp → Prop} (h : tl σ H fun vs H1 => sp vs H1 q E) : tCallG sp [] E tl σ H q := by
  show tl σ H fun vs H1 => sp (vs ++ []) H1 q E
  simp only [List.append_nil]; exact h
end
end HS
namespace HS
open PySem PySem.Spec PyProof.Rows L2
section
variable {H : Hp} {Q : VK} {K : PySem.W.Frag}
theorem ixZ {p : Addr} {i z : Int} {ns : List Int} (h : SqL K H p (ns.map V.int)) (h0 : 0 ≤ i) (e : ns[i.toNat]? = some z) (q : Q (.int z) H) : rIxL K (.ref p) (.int i) H Q :=
  ⟨p, ns.map V.int, i, .int z, rfl, rfl, h, at_of (j := i.toNat) (by omega) (by rw [List.getElem?_map, e]; rfl), q⟩
theorem cut_to (xs : List V) (n : Nat) : cutV xs none (some (n : Int)) = xs.take n := by
  unfold cutV
  rw [HT.sIx_none, HT.sIx_nat, List.drop_zero, Nat.sub_zero]
  rw [List.take_eq_take_iff]
  omega
theorem cut_from (xs : List V) (n : Nat) : cutV xs (some (n : Int)) none = xs.drop n := by
  unfold cutV
  rw [HT.sIx_none, HT.sIx_nat]
  rw [List.take_of_length_le (by rw [List.length_drop]; omega)]
  by_cases h : n ≤ xs.length
  · rw [Nat.min_eq_left h]
  · rw [Nat.min_eq_right (by omega), List.drop_eq_nil_of_le (Nat.le_refl _), List.drop_eq_nil_of_le (by omega)]
end
end HS
namespace HS
open PySem PySem.Spec PyProof.Rows L2
theorem Keep.any {S : Addr → Prop} {H H1 : Hp} (k : Keep (fun _ => False) H H1) : Keep S H H1 := fun a o e _ => k a o e id
theorem Keep.mono {S T : Addr → Prop} {H H1 : Hp} (k : Keep S H H1) (h : ∀ a, S a → T a) : Keep T H H1 := fun a o e n => k a o e fun z => n (h a z)
end HS
namespace HS
open PySem PySem.Spec PyProof.Rows L2
theorem cut_toI {i : Int} (ls : List Int) (h : 0 ≤ i) : cutV (ls.map V.int) none (some i) = (ls.take i.toNat).map V.int := by
  obtain ⟨n, rfl⟩ := Int.eq_ofNat_of_zero_le h
  rw [cut_to, List.map_take]; simp
theorem cut_fromI {i : Int} (ls : List Int) (h : 0 ≤ i) : cutV (ls.map V.int) (some i) none = (ls.drop i.toNat).map V.int := by
  obtain ⟨n, rfl⟩ := Int.eq_ofNat_of_zero_le h
  rw [cut_from, List.map_drop]; simp
end HS
namespace HS
theorem ifT {c : Bool} {A B : Prop} (e : c = true) (h : A) : if c = true then A else B := by rw [if_pos e]; exact h
theorem ifF {c : Bool} {A B : Prop} (e : c = false) (h : B) : if c = true then A else B := by rw [if_neg (by rw [e]; exact Bool.false_ne_true)]; exact h
end HS
namespace HS
open PySem PySem.Spec PyProof.Rows L2
/-- a new object behind what stands -/
theorem Keep.nw {H H1 : Hp} {p : Addr} {o : HO} (k : Keep (fun _ => False) H H1) (h : H1 p = none) : Keep (fun _ => False) H (upd H1 p o) := k.put (k.free h id)
theorem Keep.nwS {S : Addr → Prop} {H H1 : Hp} {p : Addr} {o : HO} (k : Keep S H H1) (h : H1 p = none) (n : ¬ S p) : Keep S H (upd H1 p o) := k.put (k.free h n)
end HS
namespace HS
theorem nt {A B : Prop} (h : B) : if (!true) = true then A else B := by rw [if_neg (show ¬ ((!true) = true) from Bool.false_ne_true)]; exact h
theorem nf {A B : Prop} (h : A) : if (!false) = true then A else B := by rw [if_pos (show (!false) = true from rfl)]; exact h
end HS
namespace HS
open PySem PySem.Spec PyProof.Rows L2
section
variable {H H' : Hp} {p x : Addr} {o u : HO}
theorem upgs (e : upd H p o = H') : H' p = some o := by rw [← e]; exact upd_same
theorem upgK (e : upd H p o = H') (h : H p = none) : Keep (fun _ => False) H H' := by rw [← e]; exact Keep.new h
end
end HS
/-! Data of ints, lists and tuples, and == of such. -/
namespace HS
open PySem PySem.Spec PyProof.Rows L2
def dInts (ns : List Int) : PyData := .list (ns.map .int)
section
variable {K : PySem.W.Frag} {H : Hp}
theorem dpAll_ints : ∀ ns : List Int, DpAll K H (ns.map V.int) (ns.map .int)
  | [] => .nil
  | n :: r => .cons (.int n) (dpAll_ints r)
theorem dp_ints {a : Addr} {ns : List Int} (h : SqL K H a (ns.map V.int)) : Dp K H (.ref a) (dInts ns) := .lst h (dpAll_ints ns)
theorem lay_ints : ∀ ns : List Int, PyData.canLayAll0 (ns.map .int) = true
  | [] => rfl
  | n :: r => by rw [List.map_cons, PyData.canLayAll0, lay_ints r]; rfl
theorem dep_ints : ∀ ns : List Int, PyData.depthAll (ns.map .int) = 0
  | [] => rfl
  | n :: r => by rw [List.map_cons, PyData.depthAll, dep_ints r]; rfl
theorem sh_ints (ns : List Int) : SeqAt.shaped (dInts ns) = true := by
  unfold SeqAt.shaped dInts
  rw [PyData.canLay0, PyData.depth, lay_ints, dep_ints]; rfl
theorem eqv_int (i j : Int) : PyData.eqv (.int i) (.int j) = decide (i = j) := by
  rw [PyData.eqv]; exact Bool.beq_eq_decide_eq i j
theorem eqvAll_ints : ∀ xs ys : List Int, PyData.eqvAll (xs.map .int) (ys.map .int) = decide (xs = ys)
  | [], [] => rfl
  | [], y :: ys => rfl
  | x :: xs, [] => rfl
  | x :: xs, y :: ys => by
    rw [List.map_cons, List.map_cons, PyData.eqvAll, eqv_int, eqvAll_ints xs ys]
    by_cases h : x = y <;> by_cases g : xs = ys <;> simp [h, g]
theorem eqv_ints (xs ys : List Int) : PyData.eqv (dInts xs) (dInts ys) = decide (xs = ys) := by
  unfold dInts; rw [PyData.eqv]; exact eqvAll_ints xs ys
/-- == and != of two lists of ints -/
theorem eqL {a b : Addr} {xs ys : List Int} {Q : VK} (h1 : SqL K H a (xs.map V.int)) (h2 : SqL K H b (ys.map V.int)) (q : Q (.bl (decide (xs = ys))) H) : rEqD K (.ref a) (.ref b) H Q :=
  ⟨_, _, dp_ints h1, dp_ints h2, sh_ints _, sh_ints _, by rw [eqv_ints]; exact q⟩
theorem neL {a b : Addr} {xs ys : List Int} {Q : VK} (h1 : SqL K H a (xs.map V.int)) (h2 : SqL K H b (ys.map V.int)) (q : Q (.bl (!decide (xs = ys))) H) : rNeD K (.ref a) (.ref b) H Q :=
  ⟨_, _, dp_ints h1, dp_ints h2, sh_ints _, sh_ints _, by rw [eqv_ints]; exact q⟩
end
end HS
/-! Rules told with the written part K by its own letter. -/
namespace HS
open PySem PySem.Spec PyProof.Rows L2
section
variable {X : Cx} (K : PySem.W.Frag)
theorem ixl (h : X.K = K := by rfl) : IxR X (rIxL K) := h ▸ ix_list
theorem ixt (h : X.K = K := by rfl) : IxR X (rIxT K) := h ▸ ix_tup
theorem sll (h : X.K = K := by rfl) : SlR X (rSlL K) := h ▸ sl_list
theorem slt (h : X.K = K := by rfl) : SlR X (rSlT K) := h ▸ sl_tup
theorem kbm {E : Expr} {T : String} {r : V → List V → Hp → VK → Prop} {to : TE} {t : TA} (p : PE X E (tBM X.K T r to t)) (h : X.K = K := by rfl) : PE X E (tBM K T r to t) := h ▸ p
theorem kbm0 {E : Expr} {T : String} {r : V → List V → Hp → VK → Prop} {to : TE} (p : PE X E (tBM0 X.K T r to)) (h : X.K = K := by rfl) : PE X E (tBM0 K T r to) := h ▸ p
theorem kil {tg l : Expr} {tl : TE} (p : PI X tg l (iList X.K tl)) (h : X.K = K := by rfl) : PI X tg l (iList K tl) := h ▸ p
theorem kit {tg l : Expr} {tl : TE} (p : PI X tg l (iTup X.K tl)) (h : X.K = K := by rfl) : PI X tg l (iTup K tl) := h ▸ p
theorem kien {tg l : Expr} {tl : TA} (p : PI X tg l (iEnum X.K tl)) (h : X.K = K := by rfl) : PI X tg l (iEnum K tl) := h ▸ p
theorem kgt {tg : Expr} {n : Nat} {t : TGs} (p : PG X tg (gTup X.K n t)) (h : X.K = K := by rfl) : PG X tg (gTup K n t) := h ▸ p
theorem keq (hu : X.A.units + 64 < cLine) (h : X.K = K := by rfl) : OpR X (compareOp .Eq) (rEqD K) := h ▸ op_eqD hu
theorem kne (hu : X.A.units + 64 < cLine) (h : X.K = K := by rfl) : OpR X (compareOp .NotEq) (rNeD K) := h ▸ op_neD hu
theorem kin (h : X.K = K := by rfl) : OpR X (compareOp .In) (rIn K false) := h ▸ op_in_seq
theorem knin (h : X.K = K := by rfl) : OpR X (compareOp .NotIn) (rIn K true) := h ▸ op_notIn_seq
theorem kcatT (h : X.K = K := by rfl) : OpR X (binaryOp .Add) (rCatT K) := h ▸ op_catT
def rLen : List V → Hp → VK → Prop := fun xs H Q => ∃ p ys, xs = [.ref p] ∧ (SqL K H p ys ∨ SqT K H p ys) ∧ Q (.int ys.length) H
def rLst : List V → Hp → VK → Prop := fun xs H Q => ∃ p ys, xs = [.ref p] ∧ (SqL K H p ys ∨ SqT K H p ys) ∧ ∀ l, H l = none → Q (.ref l) (upd H l (.lst ys))
theorem klen (h : X.K = K := by rfl) : CallR X (.builtin "len") (rLen K) := h ▸ call_len_seq
theorem klst (h : X.K = K := by rfl) : CallR X (.type "list") (rLst K) := h ▸ call_list_of
theorem ksum (hc : X.calm = true) (h : X.K = K := by rfl) : CallR X (.builtin "sum") (rSum K) := h ▸ cr_sum hc
theorem kmax (hc : X.calm = true) (h : X.K = K := by rfl) : CallR X (.builtin "max") (rMax K) := h ▸ cr_max hc
theorem kmin (hc : X.calm = true) (h : X.K = K := by rfl) : CallR X (.builtin "min") (rMin K) := h ▸ cr_min hc
theorem krev {E : Expr} {te : TE} (p : PE X E (tRevL X.K te)) (h : X.K = K := by rfl) : PE X E (tRevL K te) := h ▸ p
/-- the names of a block within a block -/
def relab (scO sc : Scope) : Scope := { scO with names := scO.names.map fun (n, k) => if (k == .free && sc.kind == .function && sc.names.lookup n == some .cell) then (n, .cell) else (n, k) }
/-- a list comprehension within a comprehension's block -/
theorem pe_lcIn {X : Cx} {s0 : Shared} {H0 : Hp} {C0 : Addr} {cl0 : List (Str × Addr)} {fp0 : List Addr} {scO : Scope} {elt tg iter : Expr} {ifs : List Expr} {scope : Scope} {own : List (Str × Nat)} {pos : Pos} {wi : TI} {g : TG} {tt : TT} {te : TE} (hc : X.calm = true) (hN : X.N.Nodup) (hi : PI (X.blk s0 H0 scO (compEnvC scO cl0 C0 X.env) fp0) tg iter wi) (sc : Scope) (hsc : X.env.scope = sc) (ok : BlkOk X.N (relab scO sc) scope own)
    (hg : ∀ (s : Shared) (H : Hp) (C : Addr) (cl : List (Str × Addr)) (fp : List Addr), PG ((X.blk s0 H0 scO (compEnvC scO cl0 C0 X.env) fp0).blk s H scope (compEnvC scope cl C (compEnvC scO cl0 C0 X.env)) fp) tg g) (ht : ∀ (s : Shared) (H : Hp) (C : Addr) (cl : List (Str × Addr)) (fp : List Addr), PTs ((X.blk s0 H0 scO (compEnvC scO cl0 C0 X.env) fp0).blk s H scope (compEnvC scope cl C (compEnvC scO cl0 C0 X.env)) fp) ifs tt)
    (he : ∀ (s : Shared) (H : Hp) (C : Addr) (cl : List (Str × Addr)) (fp : List Addr), PE ((X.blk s0 H0 scO (compEnvC scO cl0 C0 X.env) fp0).blk s H scope (compEnvC scope cl C (compEnvC scO cl0 C0 X.env)) fp) elt te) (hs : ∀ x, foldedSetIterable iter (compEnvC scO cl0 C0 X.env) x = pure x := by intro _; rfl) :
    PE (X.blk s0 H0 scO (compEnvC scO cl0 C0 X.env) fp0) (.ListComp elt [⟨tg, iter, ifs, 0⟩] scope pos) (tLc wi g tt te (own.map (·.2))) :=
  by subst hsc; exact pe_lc (X := X.blk s0 H0 scO (compEnvC scO cl0 C0 X.env) fp0) hc hN hi ok hg ht he hs
end
section
variable {σ : L2.St} {H : Hp} {Q : VK} {te : TE} {K : PySem.W.Frag}
theorem lenL {p : Addr} {ys : List V} (h : SqL K H p ys) (q : Q (.int ys.length) H) : rLen K [.ref p] H Q := ⟨p, ys, rfl, .inl h, q⟩
theorem lenT {p : Addr} {ys : List V} (h : SqT K H p ys) (q : Q (.int ys.length) H) : rLen K [.ref p] H Q := ⟨p, ys, rfl, .inr h, q⟩
theorem sumL {p : Addr} {ns : List Int} (h : SqL K H p (ns.map V.int)) (q : Q (.int ns.sum) H) : rSum K [.ref p] H Q := ⟨p, ns, rfl, h, q⟩
theorem revL (h : te σ H fun x H1 => ∃ a xs, x = .ref a ∧ SqL K H1 a xs ∧ ∀ p, H1 p = none → Q (.ref p) (upd H1 p (.lst xs.reverse))) : tRevL K te σ H Q := h
theorem sl {r : V → Option Int → Option Int → Hp → VK → Prop} {tl th : TO} (h : te σ H fun x H1 => tl σ H1 fun l H2 => th σ H2 fun u H3 => r x l u H3 Q) : tSl r te tl th σ H Q := h
theorem noP {q : Option Int → Hp → Prop} (h : q none H) : tNoPart σ H q := h
theorem part {q : Option Int → Hp → Prop} (h : te σ H fun x H1 => ∃ i, x = .int i ∧ q (some i) H1) : tPart te σ H q := h
theorem ie {a : Int} {q : Int → Prop} (h : q a) : ∃ i, V.int a = V.int i ∧ q i := ⟨a, rfl, h⟩
theorem slLs {p : Addr} {xs : List V} {lo hi : Option Int} (h : SqL K H p xs) (q : ∀ p, H p = none → Q (.ref p) (upd H p (.lst (cutV xs lo hi)))) : rSlL K (.ref p) lo hi H Q := ⟨p, xs, rfl, h, q⟩
theorem gtup {n : Nat} {t : TGs} {a : Addr} {xs : List V} {q : L2.St → Hp → Prop} (h : SqT K H a xs) (e : xs.length = n) (k : t xs σ H q) : gTup K n t (.ref a) σ H q := ⟨a, xs, rfl, h, e, k⟩
theorem gcons {t : TG} {u : TGs} {v : V} {r : List V} {q : L2.St → Hp → Prop} (h : t v σ H fun σ' H' => u r σ' H' q) : gCons t u (v :: r) σ H q := ⟨v, r, rfl, h⟩
theorem gnil {q : L2.St → Hp → Prop} (h : q σ H) : gNil [] σ H q := ⟨rfl, h⟩
theorem itup {R : It → Hp → Prop} (h : te σ H fun x H1 => ∃ a, x = .ref a ∧ (∃ xs, SqT K H1 a xs) ∧ R (Itt K a) H1) : iTup K te σ H R := h
theorem ienu {tl : TA} {R : It → Hp → Prop} (h : tl σ H fun vs H1 => ∃ a xs, vs = [.ref a] ∧ SqL K H1 a xs ∧ R (Ite K a) H1) : iEnum K tl σ H R := h
theorem cat {l b : Addr} {xs zs : List V} (h1 : H l = some (.lst xs)) (h2 : H b = some (.lst zs)) (q : xs.length + zs.length ≤ sizeLine ∧ ∀ p, H p = none → Q (.ref p) (upd H p (.lst (xs ++ zs)))) : rCat (.ref l) (.ref b) H Q := ⟨l, b, xs, zs, rfl, rfl, h1, h2, q⟩
theorem ext {l b : Addr} {xs zs : List V} (h1 : H l = some (.lst xs)) (h2 : H b = some (.lst zs)) (q : xs.length + zs.length ≤ sizeLine ∧ Q .non (upd H l (.lst (xs ++ zs)))) : rExtend (.ref l) [.ref b] H Q := ⟨l, b, xs, zs, rfl, rfl, h1, h2, q⟩
end
end HS
/-! Lists of new pairs of ints, and == of such; ranges by steps. -/
namespace HS
open PySem PySem.Spec PyProof.Rows L2
/-- the refs of vs are tuples of these pairs -/
def Prs (H : Hp) : List V → List (Int × Int) → Prop
  | [], [] => True
  | v :: vs, p :: ps => (∃ t, v = .ref t ∧ H t = some (.tup [.int p.1, .int p.2])) ∧ Prs H vs ps
  | _, _ => False
theorem Prs.keep {S : Addr → Prop} {H H' : Hp} (k : Keep S H H') : ∀ {vs : List V} {ps : List (Int × Int)}, Prs H vs ps → (∀ v ∈ vs, ∀ t, v = .ref t → ¬ S t) → Prs H' vs ps
  | [], [], h, _ => h
  | _ :: _, _ :: _, ⟨⟨t, e, o⟩, h⟩, n => ⟨⟨t, e, k t _ o (n _ List.mem_cons_self t e)⟩, h.keep k fun v hv => n v (List.mem_cons_of_mem _ hv)⟩
theorem Prs.app {H : Hp} : ∀ {vs ws : List V} {ps qs : List (Int × Int)}, Prs H vs ps → Prs H ws qs → Prs H (vs ++ ws) (ps ++ qs)
  | [], _, [], _, _, g => g
  | _ :: _, _, _ :: _, _, ⟨a, h⟩, g => ⟨a, h.app g⟩
theorem Prs.len {H : Hp} : ∀ {vs : List V} {ps : List (Int × Int)}, Prs H vs ps → vs.length = ps.length
  | [], [], _ => rfl
  | _ :: _, _ :: _, ⟨_, h⟩ => by rw [List.length_cons, List.length_cons, h.len]
def dPr (p : Int × Int) : PyData := .tuple [.int p.1, .int p.2]
def dPrs (ps : List (Int × Int)) : PyData := .list (ps.map dPr)
section
variable {K : PySem.W.Frag} {H : Hp}
theorem dpAll_prs : ∀ {vs : List V} {ps : List (Int × Int)}, Prs H vs ps → DpAll K H vs (ps.map dPr)
  | [], [], _ => .nil
  | _ :: _, p :: _, ⟨⟨t, e, o⟩, h⟩ => .cons (by rw [e]; exact .tup (st o) (.cons (.int p.1) (.cons (.int p.2) .nil))) (dpAll_prs h)
theorem lay_prs : ∀ ps : List (Int × Int), PyData.canLayAll0 (ps.map dPr) = true
  | [] => rfl
  | p :: r => by rw [List.map_cons, PyData.canLayAll0, lay_prs r]; rfl
theorem dep_prs : ∀ ps : List (Int × Int), PyData.depthAll (ps.map dPr) ≤ 2
  | [] => by simp [PyData.depthAll]
  | p :: r => by
    have h := dep_prs r
    have h2 : (dPr p).depth ≤ 2 := by simp [dPr, PyData.depth, PyData.depthAll]
    rw [List.map_cons, PyData.depthAll]; omega
theorem sh_prs (ps : List (Int × Int)) : SeqAt.shaped (dPrs ps) = true := by
  have h1 := dep_prs ps
  have h2 : PyData.depth (dPrs ps) ≤ 64 := by unfold dPrs; rw [PyData.depth]; omega
  show (PyData.canLay0 (dPrs ps) && decide (PyData.depth (dPrs ps) ≤ 64)) = true
  rw [Bool.and_eq_true]
  exact ⟨by unfold dPrs; rw [PyData.canLay0]; exact lay_prs ps, decide_eq_true h2⟩
theorem eqv_pr (p q : Int × Int) : PyData.eqv (dPr p) (dPr q) = decide (p = q) := by
  unfold dPr
  rw [PyData.eqv, PyData.eqvAll, PyData.eqvAll, PyData.eqvAll, eqv_int, eqv_int]
  obtain ⟨a, b⟩ := p
  obtain ⟨c, d⟩ := q
  by_cases h : a = c <;> by_cases g : b = d <;> simp [h, g]
theorem eqvAll_prs : ∀ xs ys : List (Int × Int), PyData.eqvAll (xs.map dPr) (ys.map dPr) = decide (xs = ys)
  | [], [] => rfl
  | [], y :: ys => rfl
  | x :: xs, [] => rfl
  | x :: xs, y :: ys => by
    rw [List.map_cons, List.map_cons, PyData.eqvAll, eqv_pr, eqvAll_prs xs ys]
    by_cases h : x = y <;> by_cases g : xs = ys <;> simp [h, g]
/-- == of two lists of pairs of ints -/
theorem eqP {a b : Addr} {vs ws : List V} {xs ys : List (Int × Int)} {Q : VK} (h1 : SqL K H a vs) (g1 : Prs H vs xs) (h2 : SqL K H b ws) (g2 : Prs H ws ys) (q : Q (.bl (decide (xs = ys))) H) : rEqD K (.ref a) (.ref b) H Q := by
  refine ⟨dPrs xs, dPrs ys, .lst h1 (dpAll_prs g1), .lst h2 (dpAll_prs g2), sh_prs _, sh_prs _, ?_⟩
  rw [show PyData.eqv (dPrs xs) (dPrs ys) = decide (xs = ys) by unfold dPrs; rw [PyData.eqv]; exact eqvAll_prs xs ys]
  exact q
end
theorem RgC.up {j c : Int} (hc : 1 ≤ c) (hc2 : c < 2 ^ 30) (h0 : 0 ≤ j) (h1 : j < 2 ^ 61) : RgC 0 j c ((j + c - 1) / c).toNat := by
  have hn : 0 ≤ (j + c - 1) / c := Int.ediv_nonneg (by omega) (by omega)
  have e : Builtin.Range.rangeSize 0 j c = (j + c - 1) / c := by
    unfold Builtin.Range.rangeSize
    rw [if_pos (by omega)]
    split
    · rw [show j + c - 1 = (j - 0 - 1) + c * 1 by omega, Int.add_mul_ediv_left _ _ (by omega)]
    · rw [show j = 0 by omega, Int.ediv_eq_zero_of_lt (by omega) (by omega)]
  have hl : (j + c - 1) / c ≤ j + c := Int.le_trans (Int.ediv_le_self _ (by omega)) (by omega)
  refine ⟨by omega, by omega, ?_, by rw [e]; omega⟩
  unfold Builtin.Range.small
  rw [e]
  simp only [Builtin.Range.rangeFitsLong, Bool.and_eq_true, Bool.or_eq_true, decide_eq_true_eq, beq_iff_eq]
  rw [if_pos (show c > 0 by omega)]
  simp only [Bool.and_eq_true, decide_eq_true_eq]
  omega
end HS
namespace HS
open PySem PySem.Spec PyProof.Rows L2
section
variable {σ : L2.St} {H : Hp}
theorem rng3 {tl : TA} {R : It → Hp → Prop} (h : tl σ H fun vs H1 => ∃ (i j c : Int) (n : Nat), vs = [.int i, .int j, .int c] ∧ RgC i j c n ∧ R (Itc i c n) H1) : iRng3 tl σ H R := h
end
end HS
namespace HS
open PySem PySem.Spec PyProof.Rows L2
theorem Prs.new {H : Hp} {p : Addr} {o : HO} (hp : H p = none) {vs : List V} {ps : List (Int × Int)} (h : Prs H vs ps) : Prs (upd H p o) vs ps :=
  h.keep (S := fun _ => False) (Keep.new hp) fun _ _ _ _ z => z
theorem Prs.same {H H' : Hp} {vs : List V} {ps : List (Int × Int)} (h : Prs H vs ps) (k : Keep (fun _ => False) H H') : Prs H' vs ps :=
  h.keep (S := fun _ => False) k fun _ _ _ _ z => z
theorem Prs.lst {H : Hp} {L : Addr} {ws : List V} (hL : H L = some (.lst ws)) : ∀ {vs : List V} {ps : List (Int × Int)}, Prs H vs ps → ∀ v ∈ vs, ∀ t, v = .ref t → t ≠ L
  | [], [], _, _, hv, _, _ => absurd hv List.not_mem_nil
  | _ :: _, _ :: _, ⟨⟨t', e', o'⟩, h⟩, v, hv, t, e => by
    rcases List.mem_cons.mp hv with hv | hv
    · subst hv
      rw [e'] at e
      have := V.ref.inj e
      subst this
      intro z
      rw [z, hL] at o'
      cases o'
    · exact h.lst hL v hv t e
theorem Prs.put {H : Hp} {L : Addr} {ws : List V} {o : HO} (hL : H L = some (.lst ws)) {vs : List V} {ps : List (Int × Int)} (h : Prs H vs ps) : Prs (upd H L o) vs ps :=
  h.keep (S := fun a => a = L) (Keep.at Keep.refl rfl) (h.lst hL)
theorem Prs.snoc {H : Hp} {vs : List V} {ps : List (Int × Int)} {t : Addr} {a b : Int} (h : Prs H vs ps) (e : H t = some (.tup [.int a, .int b])) : Prs H (vs ++ [.ref t]) (ps ++ [(a, b)]) :=
  h.app ⟨⟨t, rfl, e⟩, trivial⟩
end HS
/-! Defs that are called while nothing is being shown (no repr stands on the stack), so that they may call repr of a list. -/
namespace HS
open PySem PySem.Spec PyProof.Rows L2
/-- a def's promise where no repr is under way -/
structure FnG (Pg : Program) (wd : World) (K : PySem.W.Frag) (mg : Str → Option Value) (base : Heap) (C : CXT) (n : Nat) (f : Addr) (fd : FuncData) (ps : List Str) (sp : Sp) : Prop where
  len : ∀ vs H Q E, sp vs H Q E → vs.length = ps.length
  go : ∀ (B : Around) (o : List Env) (s : Shared) (H : Hp) (ar : Args) (us : List Value) (vs : List V) (Q : VK) (E : XK), B.guards = some [] → Room n B → Env0 Pg wd K mg base B o s H →
    BindsTo s fd ar (ps.zip us) → Vals vs us → sp vs H Q E → codeAny (model Pg wd) B (.call (.ref f) ar) (CR C o Pg wd H s Q E) s
section
variable {Pg : Program} {wd : World} {K : PySem.W.Frag} {mg : Str → Option Value} {base : Heap} {C : CXT} {n : Nat} {f : Addr} {fd : FuncData} {ps : List Str} {sp : Sp}
/-- a finished body's end is the call's end -/
theorem g_end {N : List Str} {q : Str} {sc : Scope} {cd : Value} {B : Around} {o : List Env} {s : Shared} {H : Hp} {E : XK} {Q : VK} {x : Cx} (hx : x = cxOf C Pg wd K mg base N q sc f cd B o s H E) (fl : Flow) {s' : Shared} :
    SP x [] { nx := fun _ H' => Q .non H', rt := Q } fl s' → CR C o Pg wd H s Q E (.ok (.ret (match fl with | .ret v => v | _ => .none))) s' := by
  subst hx
  intro h
  cases fl
  case ret u => obtain ⟨v, st, H', J, rv, y⟩ := h; exact ⟨v, H', J.os, J.bare, J.base, J.hok, rv, y⟩
  case next => obtain ⟨st, H', J, y⟩ := h; exact ⟨.non, H', J.os, J.bare, J.base, J.hok, rfl, y⟩
  all_goals exact h.elim fun _ z => z.elim fun _ z => z.2.elim
theorem Fun.okG {x qn : Str} {st : Stmt} {N : List Str} (F : L2.Fun K x qn st f fd) (S : FnScope N ps (defScope st)) (len : ∀ vs H Q E, sp vs H Q E → vs.length = ps.length)
    (hb : ∀ (cd : Value) (B : Around) (o : List Env) (s : Shared) (H : Hp) (vs : List V) (Q : VK) (E : XK), B.guards = some [] → Room n (B.deeper (envOfC qn (defScope st) s.heap.objs.size f cd)) → sp vs H Q E →
      ∃ t, PSs (cxOf L2.CX0 Pg wd K mg base N qn (defScope st) f cd B o s H E).nox (defBody st) t ∧ t { nx := fun _ H' => Q .non H', rt := Q } (start N vs) H) : FnG Pg wd K mg base L2.CX0 (n + 1) f fd ps sp := by
  obtain ⟨_, _, _, _, _, _, cd, _, _, rfl, lk, hcd⟩ := F.ex
  refine ⟨len, fun B o s H ar us vs Q E hg hr e0 bd rv hs => ?_⟩
  have kin : K.In s.heap := e0.mod.kin.keeps fun b u e => (e0.bs b u e).1
  have kinds : ∀ y ∈ ps.zip us, (defScope st).names.lookup y.1 = some .local ∨ ((defScope st).names.lookup y.1 = some .cell ∧ ((cellsFrom (s.heap.objs.size + 1) (defScope st).names []).lookup y.1).isSome = true) := by
    rintro ⟨z, v⟩ hy
    exact (S.par z (List.of_mem_zip hy).1).elim .inl fun c => .inr ⟨c, PySem.W.cellsFrom_some _ _ _ (.inl c)⟩
  refine codeAny_call_function hr.depth (kin _ _ lk) rfl S.co S.gen rfl (PySem.W.codeRec_of kin hcd) (bd _ _ _ _ (wpAny_newFunctionEnv_cells S.kind kinds fun _ he s1 made => ?_))
  subst he
  obtain ⟨t, ht, hq⟩ := hb cd B o s H vs Q E hg (hr.deeper _) hs
  have start0 := inv_start (CX := L2.CX0) (E := E) (qual := qn) (cd := cd) (f := f) S hr.hd e0 (len _ _ _ _ hs) rv made
  exact ⟨(e0.mod.nolimit.keeps fun b u e => (e0.bs b u e).1).keeps made.toInCall.keep, codeAny_func (wpAny_mono (ht.nox.run [] s1 _ H _ start0 hq) (fun fl s' => g_end rfl fl) fun _ _ h => h)⟩
end
/-! ### calls -/
/-- the call of a def, whichever way its arguments come -/
theorem after_call {X : Cx} {C : CXT} {E : XK} {pins : List (Addr × Obj)} {σ : L2.St} {H : Hp} {s : Shared} {Q : VK} {f : Addr} {us : List Value} {kw : List (Str × Value)} (hx : Passes C X E) (I : Inv X pins σ H s)
    (h : codeAny (model X.prog X.w) X.A (.call (.ref f) ⟨us, kw⟩) (CR C X.stack X.prog X.w H s Q E) s) : wpAny (model X.prog X.w) X.A (call (.ref f) us kw) (EP X pins σ Q) X.xe s :=
  wpAny_call (codeAny_mono h fun r s' y => match r, y with
    | .error e, y => hx pins σ H s e s' I y
    | .ok (.ret _), y => I.after y)
/-- how a call with keywords binds, where the numbers of its arguments are written -/
structure KBX (K : PySem.W.Frag) (fd : FuncData) (ps : List Str) (n : Nat) (ks : List Str) (g : List Value → List Value → List Value) (gV : List V → List V → List V) : Prop where
  to : ∀ (s : Shared) (us ws : List Value), us.length = n → ws.length = ks.length → BindsTo s fd ⟨us, ks.zip ws⟩ (ps.zip (g us ws))
  rel : ∀ {vs : List V} {us : List Value} {zs : List V} {ws : List Value}, Vals vs us → Vals zs ws → Vals (gV vs zs) (g us ws)
def tCallN (n m : Nat) (sp : Sp) (gV : List V → List V → List V) (E : XK) (t tk : TA) : TE := fun σ H Q => t σ H fun vs H1 => tk σ H1 fun zs H2 => vs.length = n ∧ zs.length = m ∧ sp (gV vs zs) H2 Q E
theorem relAt : ∀ {vs : List V} {us : List Value} (_ : Vals vs us) (i : Nat), RelV (vs.getD i .non) (us.getD i .none)
  | [], _, r, i => by cases r; exact rfl
  | _ :: _, _, r, 0 => by cases r with | cons a _ => exact a
  | _ :: _, _, r, i + 1 => by cases r with | cons _ b => exact relAt b i
section
variable {X : Cx} {C : CXT} {n m : Nat} {f : Addr} {fd : FuncData} {ps ks : List Str} {sp : Sp} {E : XK} {x : Str} {p q : Pos} {e : Expr} {es : List Expr} {kws : List Keyword} {t tk : TA} {g : List Value → List Value → List Value} {gV : List V → List V → List V}
theorem pe_callG (hG : X.A.guards = some []) (F : FnG X.prog X.w X.K X.mg X.base C n f fd ps sp) (hr : Room n X.A) (gl : Gl X x) (mf : X.mg x = some (.ref f)) (kf : PySem.W.keepIn X.K (.ref f) = true) (bd : Binds X.K fd ps []) (hx : Passes C X E) (ha : PA X (e :: es) t)
    (h1 : (x == ("__debug__" : Str)) = false := by decide) (h2 : starEach (e :: es) X.env = (false, eval e X.env) :: starEach es X.env := by rfl) (h3 : (backTo q (starEach es X.env)).any (·.1) = false := by rfl) :
    PE X (.Call (.Name x p) (e :: es) [] q) (tCall sp [] E t) := by
  constructor
  intro pins s σ H Q I h
  refine wpAny_Call_Name_kw (ld_glob I gl mf (PySem.W.callWith_K (h₀ := X.base) I.ok.mod.kin kf (thn (ha.run q pins s σ H _ I h) fun us s1 ⟨vs, H1, I1, r, y⟩ => ⟨I1.kIn, ?_⟩) h2 h3) h1)
  have y : sp (vs ++ []) H1 Q E := y
  rw [List.append_nil] at y
  have hl : (us ++ []).length = ps.length := by rw [List.append_nil, ← r.length]; exact F.len _ _ _ _ y
  exact after_call hx I1 (F.go X.A X.stack s1 H1 _ (us ++ []) vs Q E hG hr I1.env0 (bd s1 us I1.kIn hl) (by rw [List.append_nil]; exact r) y)
/-- f(e, .., k = v, ..), f(k = v, ..) -/
theorem kw_to (hb : KBX X.K fd ps n ks g gV) {pins : List (Addr × Obj)} {σ : L2.St} {H : Hp} {s : Shared} {Q : VK} {vs zs : List V} {us ws : List Value}
    (run : ∀ (bs : List Value) (bv : List V), BindsTo s fd ⟨us, ks.zip ws⟩ (ps.zip bs) → Vals bv bs → sp bv H Q E → codeAny (model X.prog X.w) X.A (.call (.ref f) ⟨us, ks.zip ws⟩) (CR C X.stack X.prog X.w H s Q E) s)
    (hx : Passes C X E) (I : Inv X pins σ H s) (r : Vals vs us) (rz : Vals zs ws) (l1 : vs.length = n) (l2 : zs.length = ks.length) (y : sp (gV vs zs) H Q E) : wpAny (model X.prog X.w) X.A (call (.ref f) us (ks.zip ws)) (EP X pins σ Q) X.xe s :=
  after_call hx I (run _ _ (hb.to s us ws (by rw [← r.length]; exact l1) (by rw [← rz.length]; exact l2)) (hb.rel r rz) y)
theorem pe_kwG (hG : X.A.guards = some []) (F : FnG X.prog X.w X.K X.mg X.base C m f fd ps sp) (hr : Room m X.A) (gl : Gl X x) (mf : X.mg x = some (.ref f)) (kf : PySem.W.keepIn X.K (.ref f) = true) (hb : KBX X.K fd ps n ks g gV) (hx : Passes C X E) (ha : PA X (e :: es) t) (hk : PK X kws tk)
    (h0 : (backToKw q (keywordEach kws X.env)).all (·.1.isSome) = true := by rfl) (hks : (backToKw q (keywordEach kws X.env)).filterMap (·.1) = ks := by rfl) (h1 : (x == ("__debug__" : Str)) = false := by decide) (h2 : starEach (e :: es) X.env = (false, eval e X.env) :: starEach es X.env := by rfl)
    (h3 : ((backTo q (starEach (e :: es) X.env)).any (·.1) || (backToKw q (keywordEach kws X.env)).any (·.1.isNone)) = false := by rfl) : PE X (.Call (.Name x p) (e :: es) kws q) (tCallN n ks.length sp gV E t tk) := by
  constructor
  intro pins s σ H Q I h
  refine wpAny_Call_Name_kw (ld_glob I gl mf (PySem.W.callWith_KW (h₀ := X.base) I.ok.mod.kin kf h0 (thn (ha.run q pins s σ H _ I h) fun us s1 ⟨vs, H1, I1, r, y⟩ => thn (hk.run q pins s1 σ H1 _ I1 y) fun ws s2 ⟨zs, H2, I2, rz, l1, l2, y2⟩ => ⟨I2.kIn, ?_⟩) h3 h2) h1)
  rw [hks]
  exact kw_to hb (fun bs bv b1 b2 b3 => F.go X.A X.stack s2 H2 _ bs bv Q E hG hr I2.env0 b1 b2 b3) hx I2 r rz l1 l2 y2
theorem pe_kwG0 (hG : X.A.guards = some []) (F : FnG X.prog X.w X.K X.mg X.base C m f fd ps sp) (hr : Room m X.A) (gl : Gl X x) (mf : X.mg x = some (.ref f)) (kf : PySem.W.keepIn X.K (.ref f) = true) (hb : KBX X.K fd ps 0 ks g gV) (hx : Passes C X E) (hk : PK X kws tk)
    (h0 : (backToKw q (keywordEach kws X.env)).all (·.1.isSome) = true := by rfl) (hks : (backToKw q (keywordEach kws X.env)).filterMap (·.1) = ks := by rfl) (h1 : (x == ("__debug__" : Str)) = false := by decide)
    (h3 : ((backTo q (starEach [] X.env)).any (·.1) || (backToKw q (keywordEach kws X.env)).any (·.1.isNone)) = false := by rfl) : PE X (.Call (.Name x p) [] kws q) (tCallN 0 ks.length sp gV E tNil tk) := by
  constructor
  intro pins s σ H Q I h
  refine wpAny_Call_Name_kw (ld_glob I gl mf (PySem.W.callWith_KW0 (h₀ := X.base) I.ok.mod.kin kf h0 (thn (hk.run q pins s σ H _ I h) fun ws s2 ⟨zs, H2, I2, rz, l1, l2, y2⟩ => ⟨I2.kIn, ?_⟩) h3) h1)
  rw [hks]
  exact kw_to hb (fun bs bv b1 b2 b3 => F.go X.A X.stack s2 H2 _ bs bv Q E hG hr I2.env0 b1 b2 b3) hx I2 .nil rz rfl l2 y2
/-- the same of a def that may be called anywhere -/
theorem pe_kw (F : FnOk X.prog X.w X.K X.mg X.base C m f fd ps sp) (hr : Room m X.A) (gl : Gl X x) (mf : X.mg x = some (.ref f)) (kf : PySem.W.keepIn X.K (.ref f) = true) (hb : KBX X.K fd ps n ks g gV) (hx : Passes C X E) (ha : PA X (e :: es) t) (hk : PK X kws tk)
    (h0 : (backToKw q (keywordEach kws X.env)).all (·.1.isSome) = true := by rfl) (hks : (backToKw q (keywordEach kws X.env)).filterMap (·.1) = ks := by rfl) (h1 : (x == ("__debug__" : Str)) = false := by decide) (h2 : starEach (e :: es) X.env = (false, eval e X.env) :: starEach es X.env := by rfl)
    (h3 : ((backTo q (starEach (e :: es) X.env)).any (·.1) || (backToKw q (keywordEach kws X.env)).any (·.1.isNone)) = false := by rfl) : PE X (.Call (.Name x p) (e :: es) kws q) (tCallN n ks.length sp gV E t tk) := by
  constructor
  intro pins s σ H Q I h
  refine wpAny_Call_Name_kw (ld_glob I gl mf (PySem.W.callWith_KW (h₀ := X.base) I.ok.mod.kin kf h0 (thn (ha.run q pins s σ H _ I h) fun us s1 ⟨vs, H1, I1, r, y⟩ => thn (hk.run q pins s1 σ H1 _ I1 y) fun ws s2 ⟨zs, H2, I2, rz, l1, l2, y2⟩ => ⟨I2.kIn, ?_⟩) h3 h2) h1)
  rw [hks]
  exact kw_to hb (fun bs bv b1 b2 b3 => F.run X.A X.stack s2 H2 _ bs bv Q E hr I2.env0 b1 b2 b3) hx I2 r rz l1 l2 y2
theorem pe_kw0 (F : FnOk X.prog X.w X.K X.mg X.base C m f fd ps sp) (hr : Room m X.A) (gl : Gl X x) (mf : X.mg x = some (.ref f)) (kf : PySem.W.keepIn X.K (.ref f) = true) (hb : KBX X.K fd ps 0 ks g gV) (hx : Passes C X E) (hk : PK X kws tk)
    (h0 : (backToKw q (keywordEach kws X.env)).all (·.1.isSome) = true := by rfl) (hks : (backToKw q (keywordEach kws X.env)).filterMap (·.1) = ks := by rfl) (h1 : (x == ("__debug__" : Str)) = false := by decide)
    (h3 : ((backTo q (starEach [] X.env)).any (·.1) || (backToKw q (keywordEach kws X.env)).any (·.1.isNone)) = false := by rfl) : PE X (.Call (.Name x p) [] kws q) (tCallN 0 ks.length sp gV E tNil tk) := by
  constructor
  intro pins s σ H Q I h
  refine wpAny_Call_Name_kw (ld_glob I gl mf (PySem.W.callWith_KW0 (h₀ := X.base) I.ok.mod.kin kf h0 (thn (hk.run q pins s σ H _ I h) fun ws s2 ⟨zs, H2, I2, rz, l1, l2, y2⟩ => ⟨I2.kIn, ?_⟩) h3) h1)
  rw [hks]
  exact kw_to hb (fun bs bv b1 b2 b3 => F.run X.A X.stack s2 H2 _ bs bv Q E hr I2.env0 b1 b2 b3) hx I2 .nil rz rfl l2 y2
end
section
variable {σ : L2.St} {H : Hp} {Q : VK} {t tk : TA} {sp : Sp} {gV : List V → List V → List V} {E : XK} {n m : Nat}
theorem caln (h : t σ H fun vs H1 => tk σ H1 fun zs H2 => vs.length = n ∧ zs.length = m ∧ sp (gV vs zs) H2 Q E) : tCallN n m sp gV E t tk σ H Q := h
theorem lnn {a b c d : Nat} {A : Prop} (e : a = c) (f : b = d) (h : A) : a = c ∧ b = d ∧ A := ⟨e, f, h⟩
end
/-! ### repr -/
mutual
/-- data of ints below 2 ^ 200, bools, None, in lists and tuples -/
def tame : PyData → Bool
  | .none | .bool _ => true
  | .int i => decide (i.natAbs < 2 ^ 200)
  | .list ds | .tuple ds => tameAll ds
  | .str x => PyData.showable (.str x) && PyData.leavesShort 201 (.str x)
  | _ => false
def tameAll : List PyData → Bool
  | [] => true
  | d :: ds => tame d && tameAll ds
end
theorem tame_int {i : Int} (h : i.natAbs < 2 ^ 200) : i.natAbs.log2 < 200 := by
  by_cases z : i.natAbs = 0
  · rw [z]; decide
  · exact (Nat.log2_lt z).mpr h
mutual
theorem tame_ok : ∀ d : PyData, tame d = true → d.showable = true ∧ d.hasDict = false ∧ d.leavesShort 201 = true
  | .none, _ => ⟨rfl, rfl, rfl⟩
  | .bool _, _ => ⟨rfl, rfl, rfl⟩
  | .int i, h => by
    have h' := tame_int (of_decide_eq_true (by simpa only [tame] using h))
    refine ⟨by simp only [PyData.showable]; exact decide_eq_true (by omega), rfl, ?_⟩
    simp only [PyData.leavesShort]
    exact decide_eq_true (by show (Str.ofString (toString i)).length ≤ 201; rw [PySem.ofString_length]; exact PySem.int_text_length_le (by decide) h')
  | .str x, h => by
    have h' : PyData.showable (.str x) = true ∧ PyData.leavesShort 201 (.str x) = true := by simpa only [tame, Bool.and_eq_true] using h
    exact ⟨h'.1, rfl, h'.2⟩
  | .dict _, h => by simp [tame] at h
  | .list ds, h => by
    have := tame_okAll ds (by simpa only [tame] using h)
    simpa only [PyData.showable, PyData.hasDict, PyData.leavesShort] using this
  | .tuple ds, h => by
    have := tame_okAll ds (by simpa only [tame] using h)
    simpa only [PyData.showable, PyData.hasDict, PyData.leavesShort] using this
theorem tame_okAll : ∀ ds : List PyData, tameAll ds = true → PyData.showableAll ds = true ∧ PyData.hasDictAll ds = false ∧ PyData.leavesShortAll 201 ds = true
  | [], _ => ⟨rfl, rfl, rfl⟩
  | d :: ds, h => by
    have h' : tame d = true ∧ tameAll ds = true := by simpa only [tameAll, Bool.and_eq_true] using h
    obtain ⟨a, b, c⟩ := tame_ok d h'.1
    obtain ⟨a', b', c'⟩ := tame_okAll ds h'.2
    simp only [PyData.showableAll, PyData.hasDictAll, PyData.leavesShortAll, a, b, c, a', b', c']
    decide
end
/-- repr of a list or a tuple -/
def rRepr (K : PySem.W.Frag) : List V → Hp → VK → Prop := fun vs H Q => ∃ a d, vs = [.ref a] ∧ Dp K H (.ref a) d ∧ tame d = true ∧ d.depth ≤ 60 ∧ d.bulk ≤ 60000 ∧ Q (.str d.shown) H
theorem krepr (K : PySem.W.Frag) {X : Cx} {k : Nat} (hG : X.A.guards = some []) (hr : Room k X.A) (h : X.K = K := by rfl) : CallR X (.builtin "repr") (rRepr K) := by
  subst h
  intro pins s σ H xs us Q I r hq
  obtain ⟨a, d, rfl, hd, ht, hdp, hb, q⟩ := hq
  obtain ⟨u, rfl, ru⟩ := vals1 r
  obtain rfl : u = Value.ref a := ru
  obtain ⟨as, rd⟩ := Dp.reads I d _ _ hd rfl
  obtain ⟨o1, o2, o3⟩ := tame_ok d ht
  have fits := PyData.shown_le_bulk 201 (by decide) d o3
  have un := hr.units
  refine repr_of_reads' rd o1 (PyData.noDict_hsm o2) hG (by omega) (fun _ _ e => e) (fun h' u tk hk => ⟨.str d.shown, H, ?_, ⟨u, rfl⟩, q⟩) (by rw [sizeLine_eq]; omega)
  exact I.kept hk
end HS
/-! The end of a proof whose law def is called while nothing is being shown. -/
namespace HS
open PySem PySem.Spec PyProof.Rows L2
section
variable {Pg : Program} {wd : World} {K : PySem.W.Frag} {mg mb : Str → Option Value} {C : CXT} {n : Nat} {fa a : Addr} {fd : FuncData} {x : Str} {sp : Sp} {s1 : Shared} {vs : List Value} {ns : List Int}
/-- what the caller's heap holds where the abstract heap tracks the script alone, or nothing -/
structure AtTop (Pg : Program) (wd : World) (K : PySem.W.Frag) (a : Addr) (ns : List Int) (s1 : Shared) (H : Hp) : Prop where
  only : Only H
  here : SqL K H a (ns.map V.int)
  hok : HOk Pg wd H s1.heap
  one : ∀ b, b ≠ a → H b = none
  out : H a = none ∨ K.lookup a = none
theorem top_run (T : AtTop Pg wd K a ns s1 H) (KX : K.In s1.heap) (g : s1.heap.Ns mainGlobals mg) (gb : s1.heap.Ns builtinsNs mb) (hb : ∀ y : Str, y ≠ "__name__" → mb y = bootBuiltins y) (lim : s1.heap.NoLimit) (hg : s1.gens = #[])
    (seq : ∃ o, s1.heap.get? a = some o ∧ ∃ us m, o.data = .seq us m) (hr : Room n callerA) (F : ∀ base : Heap, K.In base → base.Ns mainGlobals mg → FnG Pg wd K mg base C n fa fd [x] sp) (bd : ∀ (s : Shared) (u : Value), BindsTo s fd ⟨[u], []⟩ [(x, u)])
    (want : ∀ H : Hp, Only H → SqL K H a (ns.map V.int) → sp [.ref a] H (fun v _ => v = .bl true) fun _ _ _ => False) (noX : ∀ H e s', C [] H s1 (fun _ _ _ => False) e s' → False) :
    codeAny (model Pg wd) callerA (.call (.ref fa) ⟨[.ref a], []⟩) (fun r s' => r = .ok (.ret (.bool true)) ∧ OldK s1.heap s'.heap ∧ s'.os = s1.os ∧ AllBare s'.gens) s1 := by
  obtain ⟨oa, ea, us, m, da⟩ := seq
  -- the base: all but what is tracked
  have stays : ∀ {b : Addr} {o : Obj}, s1.heap.get? b = some o → (b = a → H a = none) → (hidT s1.heap H).get? b = some o := fun {b o} e h =>
    hidT_get e (by by_cases q : b = a; · subst q; exact h rfl
                   · exact T.one b q)
  have dict : ∀ {b : Addr} {f : Str → Option Value}, s1.heap.Ns b f → (hidT s1.heap H).Ns b f := by
    rintro b f ⟨o, es, ep, e, d, r⟩
    refine ⟨o, es, ep, stays e fun q => ?_, d, r⟩
    subst q
    rw [ea] at e
    cases e
    rw [da] at d
    cases d
  have kin : K.In (hidT s1.heap H) := fun b o e => stays (KX b o e) fun q => by
    subst q
    rcases T.out with h | h
    · exact h
    · rw [h] at e; cases e
  have md : Mod K mg (hidT s1.heap H) := ⟨kin, dict g, ⟨mb, dict gb, hb⟩, by obtain ⟨mc, l1, l2⟩ := lim; exact ⟨mc, dict l1, l2⟩⟩
  have e0 : Env0 Pg wd K mg (hidT s1.heap H) callerA [] s1 H := ⟨rfl, md, fun _ _ e => of_hidT e, Nat.le_of_eq (hidT_size _ _), trivial, nofun, T.hok, .of_eq hg⟩
  refine codeAny_mono ((F _ kin (dict g)).go callerA [] s1 H ⟨[.ref a], []⟩ [.ref a] [.ref a] _ _ rfl hr e0 (bd s1 (.ref a)) (.cons rfl .nil) (want H T.only T.here)) fun r s' y => ?_
  match r, y with
  | .error e, y => exact (noX H e s' y).elim
  | .ok (.ret u), y =>
    obtain ⟨v, H', os, bare, un, ok', rv, rfl⟩ := y
    obtain rfl : u = Value.bool true := rv
    refine ⟨rfl, OldK.of_keep fun b o e => ?_, os, bare⟩
    rcases T.only b with z | ⟨ob, xs, z⟩
    · exact un.keep b o e z nofun nofun
    · have t1 := (T.hok b _ z).1
      rw [e] at t1
      rw [Option.some.inj t1]
      exact (ok' b _ (un.frzs b ob _ z)).1
theorem top_at (KX : K.In s1.heap) (ha : s1.heap.get? a = some { cls := .type "list", data := .seq vs.toArray }) (hi : IntsAre vs ns) (hl : ns.length ≤ sizeLine) : ∃ H, AtTop Pg wd K a ns s1 H := by
  have rv := vals_ints hi
  by_cases hk : K.lookup a = none
  · refine ⟨fun b => if b = a then some (.frz { cls := .type "list", data := .seq vs.toArray } (.lst (ns.map V.int))) else none, fun b => ?_, .inl (.inr ⟨_, if_pos rfl⟩), fun b u z => ?_, fun b q => if_neg q, .inr hk⟩
    · by_cases q : b = a
      · exact .inr ⟨_, _, if_pos q⟩
      · exact .inl (if_neg q)
    · by_cases q : b = a
      · subst q
        rw [if_pos rfl] at z
        cases z
        exact ⟨ha, by rw [List.length_map]; exact hl, vs, _, rv, ha⟩
      · rw [if_neg q] at z
        cases z
  · obtain ⟨o, ho⟩ := Option.ne_none_iff_exists'.mp hk
    have e := KX a o ho
    rw [ha] at e
    cases e
    exact ⟨fun _ => none, fun _ => .inl rfl, .inr ⟨_, vs.toArray, _, ho, rfl, rfl, rfl, by rw [List.size_toArray, hi.length]; exact hl, by simpa using rv⟩, (fun _ _ z => nomatch z), fun _ _ => rfl, .inl rfl⟩
end
theorem walk_ofG {l : PySem.W.OpenLaw} {n k : Nat} {q : Program} {loose : List Str} {XP : (Str → Option Value) → Heap → Prop} {YP : World → Heap → Prop} {d : DefRec} {K : Params → PySem.W.Frag} {CX : World → CXT} {sp : World → Sp} {x : Str}
    (h1 : l.most = some n) (h2 : n ≤ sizeLine) (h3 : d.params.defaults = []) (hr : Room k callerA) (hY : ∀ (w : World) (h : Heap), YP w h → (K w.params).In h)
    (F : ∀ (w : World) (mg : Str → Option Value) (fa : Addr) (h : Heap), (K w.params).In h → h.Ns mainGlobals mg → mg d.name = some (.ref fa) → ∃ fd : FuncData, (∀ (s : Shared) (u : Value), BindsTo s fd ⟨[u], []⟩ [(x, u)]) ∧
      ∀ base : Heap, (K w.params).In base → base.Ns mainGlobals mg → FnG l.prog w (K w.params) mg base (CX w) k fa fd [x] (sp w))
    (want : ∀ (w : World) (H : Hp) (a : Addr) (ns : List Int), ns.length ≤ n → Only H → SqL (K w.params) H a (ns.map V.int) → sp w [.ref a] H (fun v _ => v = .bl true) fun _ _ _ => False)
    (noX : ∀ (w : World) (H : Hp) (s : Shared) (e : Value) (s' : Shared), CX w [] H s (fun _ _ _ => False) e s' → False) : PySem.W.WalkO q loose XP YP l.row.toRowW d [] (fun f vs => PySem.call f vs) :=
  Att.attach_call h1 h3 fun w _ s1 mg _ fa _ _ _ _ a vs ns G Y _ _ _ hm ho hi hl hg => by
    obtain ⟨fd, bd, hF⟩ := F w mg fa _ (hY w _ Y) G.T.g hm
    obtain ⟨H, T⟩ := top_at (Pg := l.prog) (wd := w) (hY w _ Y) ho hi (Nat.le_trans hl h2)
    exact top_run T (hY w _ Y) G.T.g G.T.b G.T.builtins G.T.nolimit hg ⟨_, ho, _, _, rfl⟩ hr hF bd (fun H o => want w H a ns hl o) fun H e s' => noX w H s1 e s'
end HS
/-! sorted of ints; lists in descending order. -/
namespace HS
open PySem PySem.Spec PyProof.Rows L2
section
variable {X : Cx} (K : PySem.W.Frag)
end
/-- in descending order -/
def desc (ls : List Int) : List Int := ls.mergeSort fun a b => decide (b ≤ a)
theorem desc_perm (ls : List Int) : (desc ls).Perm ls := List.mergeSort_perm ls _
theorem desc_pair (ls : List Int) : (desc ls).Pairwise (· ≥ ·) := by
  have h := List.pairwise_mergeSort (le := fun a b : Int => decide (b ≤ a)) (fun a b c h1 h2 => by simp only [decide_eq_true_eq] at *; omega) (fun a b => by simp only [Bool.or_eq_true, decide_eq_true_eq]; omega) ls
  exact h.imp fun h => by simpa using h
theorem same_desc : ∀ {xs ys : List Int}, xs.Perm ys → xs.Pairwise (· ≥ ·) → ys.Pairwise (· ≥ ·) → xs = ys
  | [], ys, p, _, _ => (List.nil_perm.mp p).symm ▸ rfl
  | x :: xs, [], p, _, _ => absurd (List.perm_nil.mp p) (by simp)
  | x :: xs, y :: ys, p, h1, h2 => by
    rw [List.pairwise_cons] at h1 h2
    have e : x = y := by
      have a := p.mem_iff.mp List.mem_cons_self
      have b := p.mem_iff.mpr (List.mem_cons_self (a := y) (l := ys))
      rcases List.mem_cons.mp a with a | a
      · exact a
      · rcases List.mem_cons.mp b with b | b
        · exact b.symm
        · have := h1.1 y b
          have := h2.1 x a
          omega
    subst e
    rw [same_desc (List.Perm.cons_inv p) h1.2 h2.2]
theorem desc_of {xs ys : List Int} (p : xs.Perm ys) (h : xs.Pairwise (· ≥ ·)) : xs = desc ys := same_desc (p.trans (desc_perm ys).symm) h (desc_pair ys)
theorem desc_rev {xs ys : List Int} (p : xs.Perm ys) (h : xs.Pairwise (· ≤ ·)) : xs.reverse = desc ys := desc_of ((List.reverse_perm xs).trans p) (List.pairwise_reverse.mpr h)
theorem desc_same {xs ys : List Int} (p : xs.Perm ys) : desc xs = desc ys := desc_of ((desc_perm xs).trans p) (desc_pair xs)
theorem desc_len (ls : List Int) : (desc ls).length = ls.length := (desc_perm ls).length_eq
theorem desc_mem {ls : List Int} {x : Int} : x ∈ desc ls ↔ x ∈ ls := (desc_perm ls).mem_iff
theorem desc_count (ls : List Int) (x : Int) : (desc ls).count x = ls.count x := (desc_perm ls).count_eq x
theorem desc_desc (ls : List Int) : desc (desc ls) = desc ls := desc_same (desc_perm ls)
/-- those greater than v -/
def above (ls : List Int) (v : Int) : List Int := (desc ls).filter fun x => decide (v < x)
theorem filter_none {ls : List Int} {v : Int} (h : ∀ x ∈ ls, x ≤ v) : (ls.filter fun x => decide (v < x)) = [] := by
  rw [List.filter_eq_nil_iff]
  intro x hx
  have := h x hx
  simp; omega
theorem filter_step : ∀ {D : List Int} (v : Int), D.Pairwise (· ≥ ·) → (D.filter fun x => decide (v < x)) = (D.filter fun x => decide (v + 1 < x)) ++ List.replicate (D.count (v + 1)) (v + 1)
  | [], _, _ => rfl
  | x :: r, v, h => by
    rw [List.pairwise_cons] at h
    have ih := filter_step v h.2
    by_cases c1 : v + 1 < x
    · rw [List.filter_cons_of_pos (by simp; omega), List.filter_cons_of_pos (by simp; omega), List.count_cons_of_ne (by omega), ih]
      rfl
    · have c3 : (r.filter fun x => decide (v + 1 < x)) = [] := filter_none fun y hy => by have := h.1 y hy; omega
      rw [List.filter_cons_of_neg (a := x) (p := fun x => decide (v + 1 < x)) (by simp; omega), c3]
      rw [c3] at ih
      by_cases c2 : x = v + 1
      · subst c2
        rw [List.filter_cons_of_pos (p := fun x => decide (v < x)) (decide_eq_true (show v < v + 1 by omega)), List.count_cons_self, ih, List.replicate_succ]
        rfl
      · rw [List.filter_cons_of_neg (by simp; omega), List.count_cons_of_ne (by omega), ih]
theorem above_step (ls : List Int) (v : Int) : above ls v = above ls (v + 1) ++ List.replicate (ls.count (v + 1)) (v + 1) := by
  unfold above; rw [filter_step v (desc_pair ls), desc_count]
theorem above_top {ls : List Int} {v : Int} (h : ∀ x ∈ ls, x ≤ v) : above ls v = [] := filter_none fun x hx => h x (desc_mem.mp hx)
theorem above_all {ls : List Int} (h : ∀ x ∈ ls, 1 ≤ x) : above ls 0 = desc ls := by
  unfold above
  rw [List.filter_eq_self]
  intro x hx
  have := h x (desc_mem.mp hx)
  simp; omega
theorem above_le (ls : List Int) (v : Int) : (above ls v).length ≤ ls.length := by
  rw [← desc_len ls]; exact List.length_filter_le _ _
theorem at_last {xs ys : List V} {v : V} (h : xs = ys ++ [v]) : atI xs (-1) = some v := by
  rw [h]
  unfold atI ixN
  rw [if_neg (by omega), List.length_append, List.length_singleton]
  rw [if_pos (by push_cast; omega)]
  show (ys ++ [v])[_]? = _
  rw [show (-1 + ((ys.length + 1 : Nat) : Int)).toNat = ys.length by omega]
  simp
theorem desc_nil : desc [] = [] := by
  have := desc_perm []
  exact List.perm_nil.mp this
end HS
namespace HS
open PySem PySem.Spec PyProof.Rows L2
/-- sorted(b)[::-1] -/
def revQ (K : PySem.W.Frag) (Q : VK) : VK := fun x H1 => ∃ a xs, x = .ref a ∧ SqL K H1 a xs ∧ ∀ p, H1 p = none → Q (.ref p) (upd H1 p (.lst xs.reverse))
def srvQ (K : PySem.W.Frag) (Q : VK) : List V → Hp → Prop := fun vs H1 => ∃ b ls, vs = [.ref b] ∧ SqL K H1 b (ls.map V.int) ∧ ∀ H' p, Keep (fun _ => False) H1 H' → H1 p = none → H' p = some (.lst ((desc ls).map V.int)) → Q (.ref p) H'
def tSrv (K : PySem.W.Frag) (tl : TA) : TE := fun σ H Q => tl σ H (srvQ K Q)
theorem pe_srv (K : PySem.W.Frag) {X : Cx} {E C : Expr} {tl : TA} (h : ∀ r, CallR X (.builtin "sorted") r → PE X C (tCB r tl)) (rev : ∀ te, PE X C te → PE X E (tRevL X.K te)) (hK : X.K = K := by rfl) : PE X E (tSrv K tl) := by
  subst hK
  refine ⟨fun pins s σ H Q I hq => ?_⟩
  refine (rev _ (h (fun vs H1 Q' => srvQ X.K Q vs H1 ∧ Q' = revQ X.K Q) ?_)).run pins s σ H Q I ?_
  · intro pins s σ H xs us Q' I r h2
    obtain ⟨⟨b, ls, e, hs, k⟩, rfl⟩ := h2
    refine cr_sortedI pins s σ H xs us _ I r ⟨b, ls, e, hs, fun us p hperm hpair hp => ⟨_, _, rfl, HS.sq upd_same, fun q hq => ?_⟩⟩
    have K1 : Keep (fun _ => False) H (upd H p (.lst (us.map V.int))) := Keep.new hp
    rw [← List.map_reverse, desc_rev hperm hpair]
    exact k _ q (K1.nw hq) (K1.free hq id) upd_same
  · show tl σ H fun vs H1 => srvQ X.K Q vs H1 ∧ revQ X.K Q = revQ X.K Q
    have e : (fun vs H1 => srvQ X.K Q vs H1 ∧ revQ X.K Q = revQ X.K Q) = srvQ X.K Q := by
      funext vs H1
      exact propext ⟨fun z => z.1, fun z => ⟨z, rfl⟩⟩
    rw [e]
    exact hq
theorem srv {K : PySem.W.Frag} {tl : TA} {σ : L2.St} {H : Hp} {Q : VK} (h : tl σ H fun vs H1 => ∃ b ls, vs = [.ref b] ∧ SqL K H1 b (ls.map V.int) ∧ ∀ H' p, Keep (fun _ => False) H1 H' → H1 p = none → H' p = some (.lst ((desc ls).map V.int)) → Q (.ref p) H') : tSrv K tl σ H Q := h
end HS
namespace HS
open PySem PySem.Spec PyProof.Rows L2
/-- in ascending order -/
def asc (ls : List Int) : List Int := (desc ls).reverse
theorem asc_perm (ls : List Int) : (asc ls).Perm ls := (List.reverse_perm _).trans (desc_perm ls)
theorem asc_of {xs ys : List Int} (p : xs.Perm ys) (h : xs.Pairwise (· ≤ ·)) : xs = asc ys := by
  unfold asc; rw [← desc_rev p h, List.reverse_reverse]
theorem asc_pair (ls : List Int) : (asc ls).Pairwise (· ≤ ·) := by
  unfold asc
  rw [List.pairwise_reverse]
  exact desc_pair ls
theorem asc_len (ls : List Int) : (asc ls).length = ls.length := (asc_perm ls).length_eq
theorem asc_mem {ls : List Int} {x : Int} : x ∈ asc ls ↔ x ∈ ls := (asc_perm ls).mem_iff
theorem asc_inj {xs ys : List Int} : asc xs = asc ys ↔ desc xs = desc ys := List.reverse_inj
def rAsc (K : PySem.W.Frag) : List V → Hp → VK → Prop := fun vs H Q => ∃ b ls, vs = [.ref b] ∧ SqL K H b (ls.map V.int) ∧ ∀ H' p, Keep (fun _ => False) H H' → H p = none → H' p = some (.lst ((asc ls).map V.int)) → Q (.ref p) H'
def rDesc (K : PySem.W.Frag) : List V → List V → Hp → VK → Prop := fun vs zs H Q => ∃ b ls, vs = [.ref b] ∧ zs = [.bl true] ∧ SqL K H b (ls.map V.int) ∧ ∀ H' p, Keep (fun _ => False) H H' → H p = none → H' p = some (.lst ((desc ls).map V.int)) → Q (.ref p) H'
section
variable {X : Cx} (K : PySem.W.Frag)
theorem ksort (h : X.K = K := by rfl) : CallR X (.builtin "sorted") (rAsc K) := by
  subst h
  intro pins s σ H xs us Q I r ⟨b, ls, e, hs, k⟩
  exact cr_sortedI pins s σ H xs us Q I r ⟨b, ls, e, hs, fun us p hperm hpair hp => k _ p (Keep.new hp) hp (by rw [upd_same, asc_of hperm hpair])⟩
theorem ksortR (h : X.K = K := by rfl) : CallRK X (.builtin "sorted") [Str.ofString "reverse"] (rDesc K) := by
  subst h
  intro pins s σ H xs zs us ws Q I r rz ⟨b, ls, e, ez, hs, k⟩
  exact cr_sortedRev (b := true) pins s σ H xs zs us ws Q I r rz ⟨b, ls, e, ez, hs, fun us p hperm hpair hp => k _ p (Keep.new hp) hp (by rw [upd_same, desc_of hperm hpair])⟩
theorem kiz {tg l : Expr} {tl : TA} (p : PI X tg l (iZip X.K tl)) (h : X.K = K := by rfl) : PI X tg l (iZip K tl) := h ▸ p
theorem kcnt (h : X.K = K := by rfl) : MtR X "list.count" (rCntI K) := h ▸ mt_lcount
theorem korT {E : Expr} {ta tb : TE} (p : PE X E (tOrT X.K ta tb)) (h : X.K = K := by rfl) : PE X E (tOrT K ta tb) := h ▸ p
end
section
variable {σ : L2.St} {H : Hp} {Q : VK} {K : PySem.W.Frag}
theorem ckw {r : List V → List V → Hp → VK → Prop} {t tk : TA} (h : t σ H fun vs H1 => tk σ H1 fun zs H2 => r vs zs H2 Q) : tCKw r t tk σ H Q := h
theorem izip {tl : TA} {R : It → Hp → Prop} (h : tl σ H fun vs H1 => ∃ a b xs ys, vs = [.ref a, .ref b] ∧ SqL K H1 a xs ∧ SqL K H1 b ys ∧ R (Itz K a b) H1) : iZip K tl σ H R := h
theorem lcn {p : Addr} {ns : List Int} {k : Int} (h : SqL K H p (ns.map V.int)) (q : Q (.int (ns.count k : Nat)) H) : rCntI K (.ref p) [.int k] H Q := ⟨p, ns, k, rfl, rfl, h, q⟩
theorem orT {ta tb : TE} (h : ta σ H fun x H1 => ∃ k, TruV K x H1 k ∧ if k = true then Q x H1 else tb σ H1 Q) : tOrT K ta tb σ H Q := h
end
end HS
/-! set(xs) of a list of ints, len and sorted of it. -/
namespace HS
open PySem PySem.Spec PyProof.Rows L2
/-- a set just made -/
abbrev set0 (w : World) : Obj := { cls := .type "set", dict := none, data := .set #[] 0 (.fresh 0 0 (!w.params.followText "set-order")) }
section
variable {P : Program} {w : World} {A : Around} {E : Value → Shared → Prop} {s : Shared}
set_option maxHeartbeats 3200000 in
theorem set_of_list {l : Addr} {xs : Array Value} (ns : List Int) {Q : Value → Shared → Prop} (calm : A.handled = none) (isl : s.heap.IsList l xs) (jnts : IntsAre xs.toList ns) (few : ns.length + 1 < scanBound)
    (k : ∀ (g : Heap) (tk c : Nat), SetR w g s.heap.objs.size (fun j => decide (j ∈ ns)) c → (∀ b o, s.heap.get? b = some o → g.get? b = some o) → Q (.ref s.heap.objs.size) { s with heap := g, toks := tk }) :
    wpAny (model P w) A (call (.type "set") [.ref l]) Q E s := by
  have len : xs.size = ns.length := by rw [← Array.length_toList]; exact IntsAre.length jnts
  have m1 := F.called_set.mro
  have m2 := F.called_set.made
  have m3 := F.called_set.sub
  have m4 := F.called_set.notType
  have m5 := F.called_set.canCreate
  have m6 := F.typeCall_set_1 (.ref l)
  obtain ⟨_, _, m1⟩ := m1
  apply wpAny_call
  apply codeAny_of_tree
  show wpAny _ _ (callAny (.type "set") _) _ _ _
  refine wpAny_pure ⟨Code.quiet_builtin _ (by decide +kernel), codeAny_builtin F.entry_type_call ?_⟩
  rw [Around.under_plain (weight_type_call_type "set" [.ref l] []) rfl]
  repeat any_goals first | assumption | wp_step
  let h1 := s.heap.push (set0 w)
  refine codeAny_mono (code_set_led1 (.ref l) (E := E) (Q₁ := fun v t => v = .ref s.heap.objs.size ∧ t = { s with heap := h1 }) ⟨rfl, rfl⟩) ?_
  rintro (e | v | _ | _ | _) t ht <;> first | exact ht | exact ht.elim | skip
  obtain ⟨rfl, rfl⟩ := ht
  have at0 : h1.get? s.heap.objs.size = some (set0 w) := Heap.get?_push_size _ rfl
  have ty0 : Shared.TypeIs { s with heap := h1 } (.ref s.heap.objs.size) "set" := ⟨_, at0, rfl⟩
  have m7 := F.called_set.init.lookup
  have m8 := F.called_set.init.bind (.ref s.heap.objs.size)
  repeat any_goals first | assumption | wp_step
  refine codeAny_mono (codeAny_call_builtin (R := wants (fun v t => v = .none ∧ ∃ g tk c, t = { s with heap := g, toks := tk } ∧ SetR w g s.heap.objs.size (fun j => decide (j ∈ ns)) c ∧ ∀ b o, s.heap.get? b = some o → g.get? b = some o) E)
    F.called_set.init.plain F.entry_set_init (check_set_init_1 ty0 ?_)) ?_
  · obtain ⟨⟨c, d, dat, sl⟩, e1, e2, n1, e3⟩ := isl
    dsimp only at e2 e3
    subst e2 e3
    have e4 : h1.get? l = some { cls := .type "list", dict := d, data := .seq xs n1, slots := sl } := Heap.get?_push_of_some _ e1
    have s1 := F.sub_list_set
    have s2 := F.sub_list_frozenset
    have s3 : (Value.type "list" == Value.type "dict") = false := by decide
    have isl1 : h1.IsList l xs := ⟨_, e4, rfl, n1, rfl⟩
    have lo : l < s.heap.objs.size := Heap.lt_size e1
    have sz : h1.objs.size = s.heap.objs.size + 1 := Heap.size_push ..
    unfold Builtin.«set.__init__» noKeywords Builtin.Frozenset.updateFrom
    generalize hIt : pyIter = It
    wp_walk
    subst hIt
    refine wpAny_pyIter_list isl1 (wpAny_bind (wpAny_runValue ?_))
    have c3 : A.in1.in1.in1.handled = none := by simp [calm]
    have d1 : l ≠ h1.objs.size := by rw [sz]; exact Nat.ne_of_lt (Nat.lt_succ_of_lt lo)
    have d2 : s.heap.objs.size ∉ [h1.objs.size, l] := by
      intro z
      rcases List.mem_cons.mp z with z | z
      · rw [sz] at z; exact absurd z (Nat.ne_of_lt (Nat.lt_succ_self _))
      · rw [List.mem_singleton] at z; exact absurd z (Nat.ne_of_gt lo)
    have val : ∀ (i : Nat) (v : Value), xs[i]? = some v → ∃ x t, ns[i]? = some x ∧ v = .int x t := by
      intro i v hv
      have hi : i < ns.length := by rw [← len]; exact (Array.getElem?_eq_some_iff.mp hv).1
      obtain ⟨t, e⟩ := IntsAre.int_at jnts i v (by rw [Array.getElem?_toList]; exact hv)
      rw [List.getD_eq_getElem?_getD, List.getElem?_eq_getElem hi, Option.getD_some] at e
      exact ⟨_, t, List.getElem?_eq_getElem hi, e⟩
    refine set_update_ints ((Walks.list c3 _ l d1 xs).toS) s.heap.objs.size d2 ns len few val (xs.size - 0) 0 _ (by omega) (Nat.zero_le _) ⟨⟨_, Heap.get?_push_size _ rfl, rfl, rfl⟩, isl1.push _⟩ ⟨0, Nat.le_refl 0, setR_new_at (Heap.get?_push_of_some _ at0)⟩ ?_
    intro t c mv _ R
    obtain ⟨g, g2, g3, tk, g4⟩ := t
    have q1 : g2 = s.gens := mv.gens
    have q2 : g3 = s.drawn := mv.drawn
    have q3 : g4 = s.os := mv.os
    subst q1 q2 q3
    show wpAny _ _ _ _ _ _
    refine wpAny_pure ?_
    show wpAny _ _ (PySem.ret Value.none) _ _ _
    refine wpAny_pure ⟨rfl, g, tk, c, rfl, R, fun b o e => ?_⟩
    have bl : b < s.heap.objs.size := Heap.lt_size e
    refine mv.heap b o ?_ (Heap.get?_push_of_some _ (Heap.get?_push_of_some _ e))
    intro z
    rcases List.mem_cons.mp z with z | z
    · exact absurd z (Nat.ne_of_lt bl)
    · rw [List.mem_singleton] at z
      have z : b = h1.objs.size := z
      rw [sz] at z
      exact absurd z (Nat.ne_of_lt (Nat.lt_succ_of_lt bl))
  · rintro (e | v | _ | _ | _) t ht <;> first | exact ht | exact ht.elim | skip
    obtain ⟨rfl, g, tk, c, rfl, R, up⟩ := ht
    repeat any_goals first | assumption | wp_step
    exact k _ _ _ R up
theorem sorted_of_set {a : Addr} {S : Int → Bool} {n : Nat} {Q : Value → Shared → Prop} (R : SetR w s.heap a S n) (calm : A.handled = none)
    (k : ∀ t p (out : Array Value) (c : Nat) (ns : List Int), (∀ b o, s.heap.get? b = some o → t.heap.get? b = some o) → t.gens = s.gens → t.os = s.os → s.heap.objs.size ≤ p → t.heap.get? p = some (seqObj "list" out c) →
      IntsAre out.toList ns → ns.Pairwise (· ≤ ·) → ns.Nodup → (∀ j, j ∈ ns ↔ S j = true) → ns.length = n → Q (.ref p) t) : wpAny (model P w) A (call (.builtin "sorted") [.ref a]) Q E s := by
  obtain ⟨o, es, ep, tb, ho, ex, hd, good, nd, mem, few, fit, cnt, ris, led⟩ := R
  apply Calls.call_function_entry kind_sorted plain_sorted entry_sorted (args_sorted1 _)
  unfold Builtin.«sorted»
  refine wpAny_bind (m := checkCount "sorted" 1 1 _) (wpAny_pure (wpAny_bind (collect_set (A := A.in1) calm ⟨o, ho, ex.1, hd⟩ fit few ris led fun t vs up big eg eo pm => ?_)))
  have lv : vs.length = n := by rw [pm.length_eq, List.length_map, Array.length_toList]; exact cnt
  have jnts : IntsAre vs (vs.map Builtin.Re.reRawOf) := ints_of vs fun v hv => by
    obtain ⟨e, he, rfl⟩ := List.mem_map.mp (pm.mem_iff.mp hv)
    obtain ⟨x, tk, h1, _⟩ := good e he
    exact ⟨x, tk, h1⟩
  have pk : (vs.map Builtin.Re.reRawOf).Perm (es.toList.map keyOf) := by
    have := pm.map Builtin.Re.reRawOf
    rwa [List.map_map] at this
  have szv : vs.length ≤ sizeLine := by rw [lv, sizeLine_eq]; unfold scanBound at few; omega
  refine wpAny_bind (wpAny_newList ?_ szv)
  have atL : (t.heap.push (seqObj "list" vs.toArray 0)).get? t.heap.objs.size = some (seqObj "list" vs.toArray 0) := Heap.get?_push_size _ rfl
  refine wpAny_bind (wpAny_holding (wpAny_call_entry slot_list_sort ⟨_, atL, rfl⟩ entry_list_sort (SrtO.list_sort_ord SrtO.swo_int atL szv (fun h2 => SrtO.ints_sortable jnts h2) fun out h1 h2 => ⟨_, rfl, ?_⟩) (args_list_sort _)))
  obtain ⟨j1, j2, j3⟩ := SrtO.ints_out jnts h1 h2
  obtain ⟨c, hc⟩ := sortedHeap_at (vs := vs) (out := out.toArray) atL
  have pn := j2.trans pk
  refine wpAny_pure ⟨_, rfl, k _ t.heap.objs.size out.toArray c _ (fun b u e => ?_) eg eo big hc j1 j3 (pn.nodup_iff.mpr nd) (fun x => by rw [pn.mem_iff, ← mem x]) (by rw [pn.length_eq, List.length_map, Array.length_toList]; exact cnt)⟩
  have q := up b u e
  have lt := Heap.lt_size q
  show (sortedHeap (t.heap.push (seqObj "list" vs.toArray 0)) t.heap.objs.size vs out.toArray).get? b = some u
  rw [sortedHeap_old (Nat.ne_of_lt lt) (by rw [size_push']; exact Nat.lt_succ_of_lt lt)]
  exact Heap.get?_push_of_some _ q
end
/-- the different numbers, ascending -/
def dd : List Int → List Int
  | [] => []
  | x :: r => if x ∈ r then dd r else x :: dd r
theorem dd_mem {x : Int} : ∀ {l : List Int}, x ∈ dd l ↔ x ∈ l
  | [] => Iff.rfl
  | y :: r => by
    unfold dd
    by_cases c : y ∈ r
    · rw [if_pos c, dd_mem, List.mem_cons]
      exact ⟨.inr, fun h => h.elim (fun e => by rw [e]; exact c) id⟩
    · rw [if_neg c, List.mem_cons, List.mem_cons, dd_mem]
theorem dd_nodup : ∀ l : List Int, (dd l).Nodup
  | [] => List.nodup_nil
  | y :: r => by
    unfold dd
    by_cases c : y ∈ r
    · rw [if_pos c]; exact dd_nodup r
    · rw [if_neg c, List.nodup_cons]
      exact ⟨fun z => c (dd_mem.mp z), dd_nodup r⟩
def dst (l : List Int) : List Int := asc (dd l)
theorem dst_mem {l : List Int} {x : Int} : x ∈ dst l ↔ x ∈ l := by unfold dst; rw [asc_mem, dd_mem]
theorem dst_nodup (l : List Int) : (dst l).Nodup := (asc_perm (dd l)).nodup_iff.mpr (dd_nodup l)
theorem dd_len : ∀ l : List Int, (dd l).length ≤ l.length
  | [] => Nat.le_refl _
  | y :: r => by
    unfold dd
    have := dd_len r
    split
    · rw [List.length_cons]; omega
    · rw [List.length_cons, List.length_cons]; omega
theorem dst_len (l : List Int) : (dst l).length ≤ l.length := by unfold dst; rw [asc_len]; exact dd_len l
theorem perm_of_mem {xs ys : List Int} (h1 : xs.Nodup) (h2 : ys.Nodup) (h : ∀ x, x ∈ xs ↔ x ∈ ys) : xs.Perm ys := by
  rw [List.perm_iff_count]
  intro x
  rw [List.Nodup.count h1, List.Nodup.count h2]
  by_cases c : x ∈ xs
  · rw [if_pos c, if_pos ((h x).mp c)]
  · rw [if_neg c, if_neg fun z => c ((h x).mpr z)]
theorem dst_of {xs l : List Int} (h1 : xs.Nodup) (h2 : xs.Pairwise (· ≤ ·)) (h : ∀ x, x ∈ xs ↔ x ∈ l) : xs = dst l :=
  asc_of (perm_of_mem h1 (dd_nodup l) fun x => by rw [h, dd_mem]) h2
theorem dst_same {xs ys : List Int} (h : ∀ x, x ∈ xs ↔ x ∈ ys) : dst xs = dst ys := dst_of (dst_nodup xs) (asc_pair _) fun x => by rw [dst_mem, h]
/-- a set of the numbers of a list, by what it holds -/
def rSet (w : World) (K : PySem.W.Frag) : List V → Hp → VK → Prop := fun vs H Q => ∃ a ns, vs = [.ref a] ∧ SqL K H a (ns.map V.int) ∧ ns.length ≤ 4000 ∧ ∀ p, H p = none → Q (.ref p) (upd H p (SetO w p (fun j => decide (j ∈ ns)) (dst ns).length))
def rSortS (w : World) : List V → Hp → VK → Prop := fun vs H Q => ∃ a ns, vs = [.ref a] ∧ H a = some (SetO w a (fun j => decide (j ∈ ns)) (dst ns).length) ∧ ∀ H' p, Keep (fun _ => False) H H' → H p = none → H' p = some (.lst ((dst ns).map V.int)) → Q (.ref p) H'
def rLenS (w : World) : List V → Hp → VK → Prop := fun vs H Q => ∃ a S n, vs = [.ref a] ∧ H a = some (SetO w a S n) ∧ Q (.int (n : Nat)) H
theorem setR_count {w : World} {h : Heap} {a : Addr} {ns : List Int} {n : Nat} (R : SetR w h a (fun j => decide (j ∈ ns)) n) : n = (dst ns).length := by
  obtain ⟨o, es, ep, tb, ho, ex, hd, good, nd, mem, few, fit, cnt, ris, led⟩ := R
  have p : (es.toList.map keyOf).Perm (dst ns) := perm_of_mem nd (dst_nodup ns) fun x => by rw [← mem x, dst_mem]; simp
  rw [← p.length_eq, List.length_map, Array.length_toList]; exact cnt.symm
section
variable {X : Cx} (K : PySem.W.Frag)
theorem kset (w : World) (hc : X.calm = true) (h : X.K = K := by rfl) (hw : X.w = w := by rfl) : CallR X (.type "set") (rSet w K) := by
  subst h hw
  intro pins s σ H xs us Q I r ⟨a, ns, e, hs, hl, k⟩
  subst e
  rw [Vals.ref1 r]
  obtain ⟨its, rv, pl, hz⟩ := I.list hs
  refine set_of_list ns (I.ok.hd hc) pl.isList rv.ints (by unfold scanBound; omega) fun g tk c R up => ?_
  rw [setR_count R] at R
  exact ⟨.ref _, upd H s.heap.objs.size (SetO X.w s.heap.objs.size (fun j => decide (j ∈ ns)) (dst ns).length), I.laid (t' := tk) up (Nat.le_refl _) (setO_new R), rfl, k _ (I.hok.fresh (Nat.le_refl _))⟩
theorem ksortS (w : World) (hc : X.calm = true) (hw : X.w = w := by rfl) : CallR X (.builtin "sorted") (rSortS w) := by
  subst hw
  intro pins s σ H xs us Q I r ⟨a, ns, e, ha, k⟩
  subst e
  rw [Vals.ref1 r]
  refine sorted_of_set (setO_get I ha) (I.ok.hd hc) fun t p out c ms up eg eo big at1 jnts pw nd mem cnt => ?_
  have free : H p = none := I.hok.fresh big
  have em : ms = dst ns := dst_of nd pw fun x => by rw [mem x]; simp
  subst em
  have lz : ((dst ns).map V.int).length ≤ sizeLine := by
    rw [List.length_map, cnt, sizeLine_eq]
    obtain ⟨o, es, ep, tb, _, _, _, _, _, _, few, _, cnt2, _⟩ := setO_get I ha
    unfold scanBound at few
    omega
  have J : Inv X pins σ (upd H p (.lst ((dst ns).map V.int))) { s with heap := t.heap, gens := t.gens, drawn := t.drawn, toks := t.toks } :=
    I.call (ch := []) (Un.laid up big free) (I.hok.laid up big ⟨lz, out.toList, c, vals_of_ints jnts, at1⟩) (by rw [eg]; exact I.bare) nofun
  have et : t = { s with heap := t.heap, gens := t.gens, drawn := t.drawn, toks := t.toks } := by
    obtain ⟨_, _, _, _, _⟩ := t
    obtain ⟨_, _, _, _, _⟩ := s
    cases eo
    rfl
  rw [et]
  exact ⟨.ref p, _, J, rfl, k _ p (Keep.new free) free upd_same⟩
theorem klenS (w : World) (hw : X.w = w := by rfl) : CallR X (.builtin "len") (rLenS w) := by
  subst hw
  intro pins s σ H xs us Q I r ⟨a, S, n, e, ha, k⟩
  subst e
  rw [Vals.ref1 r]
  obtain ⟨o, es, ep, tb, ho, ex, hd, _, _, _, few, fit, cnt, _⟩ := setO_get I ha
  refine call_len_set ho ex hd fit (by unfold scanBound at few; omega) ⟨.int n, H, I.tok _, ⟨_, by rw [cnt]⟩, k⟩
end
end HS
/-! Powers of great numbers, [x] * n. -/
namespace HS
open PySem PySem.Spec PyProof.Rows L2
def CPowW (i j : Int) : Prop := 0 ≤ j ∧ (Builtin.Int.intBits i : Int) * j ≤ 2 ^ 27
section
variable {X : Cx} {σ : L2.St} {H : Hp} {Q : VK}
theorem op_powW : OpR X (binaryOp .Pow) (rI CPowW fun i j => .int (i ^ j.toNat)) := opI fun _ _ _ _ _ _ _ hc q => pow_int hc.1 hc.2 q
theorem bits_le {i : Int} (k : Nat) (h0 : 0 ≤ i) (h : i < 2 ^ k) : Builtin.Int.intBits i ≤ k := by
  unfold Builtin.Int.intBits
  by_cases z : i = 0
  · subst z; exact Nat.zero_le _
  · rw [if_neg (by simpa using z)]
    have z' : i.natAbs ≠ 0 := by omega
    have : i.natAbs.log2 < k := (Nat.log2_lt z').mpr (by
      have : ((i.natAbs : Nat) : Int) < ((2 ^ k : Nat) : Int) := by rw [Int.natAbs_of_nonneg h0]; simpa using h
      exact Int.ofNat_lt.mp this)
    omega
theorem powW {i : Int} (k : Nat) {j : Int} (h0 : 0 ≤ i) (h : i < 2 ^ k) (hj : 0 ≤ j) (hk : (k : Int) * j ≤ 2 ^ 27) : CPowW i j := by
  refine ⟨hj, Int.le_trans (Int.mul_le_mul_of_nonneg_right ?_ hj) hk⟩
  exact Int.ofNat_le.mpr (bits_le k h0 h)
theorem flat_one {v : V} : ∀ n : Nat, (List.replicate n [v]).flatten = List.replicate n v
  | 0 => rfl
  | n + 1 => by rw [List.replicate_succ, List.flatten_cons, flat_one n]; rfl
theorem rep1 {p : Addr} {v : V} {k : Int} (h : H p = some (.lst [v])) (hk : k ≤ 1000000) (h0 : 0 ≤ k) (q : ∀ p, H p = none → Q (.ref p) (upd H p (.lst (List.replicate k.toNat v)))) : rRep (.ref p) (.int k) H Q := by
  refine ⟨p, k, _, rfl, rfl, h, by omega, by omega, ?_, fun p hp => ?_⟩
  · rw [List.length_singleton, sizeLine_eq]; omega
  · rw [flat_one]; exact q p hp
end
end HS
/-! What stands in a heap, told as one list: addresses that differ, each with what is known of its object. -/
namespace HS
open PySem PySem.Spec PyProof.Rows L2
abbrev WdL := List (Addr × (HO → Prop))
/-- H0: the heap at the entry; S: what may have changed there; l: what is known now -/
structure Wd (H0 H : Hp) (S : Addr → Prop) (l : WdL) : Prop where
  nd : (l.map (·.1)).Nodup
  at_ : ∀ x ∈ l, ∃ o, H x.1 = some o ∧ x.2 o
  kp : Keep S H0 H
  fr : ∀ x ∈ l, S x.1 ∨ H0 x.1 = none
section
variable {H0 H H' : Hp} {S : Addr → Prop} {l l' : WdL} {p q : Addr} {o : HO} {P P' : HO → Prop} {i j : Nat}
theorem Wd.nil : Wd H H S [] := ⟨.nil, fun _ h => absurd h List.not_mem_nil, .refl, fun _ h => absurd h List.not_mem_nil⟩
theorem nd_snoc {l : WdL} {P : HO → Prop} (nd : (l.map (·.1)).Nodup) (n : ∀ x ∈ l, x.1 ≠ p) : ((l ++ [(p, P)]).map (·.1)).Nodup := by
  rw [List.map_append, List.nodup_append]
  refine ⟨nd, List.nodup_cons.mpr ⟨List.not_mem_nil, .nil⟩, fun a ha b hb e => ?_⟩
  obtain ⟨x, hx, rfl⟩ := List.mem_map.mp ha
  have hb' : b = p := List.mem_singleton.mp hb
  exact n x hx (e.trans hb')
theorem mem_snoc {l : WdL} {x y : Addr × (HO → Prop)} (h : x ∈ l ++ [y]) : x ∈ l ∨ x = y := by
  rcases List.mem_append.mp h with h | h
  · exact .inl h
  · exact .inr (List.mem_singleton.mp h)
/-- what stood at the entry and may change -/
theorem Wd.old (W : Wd H0 H S l) (h : H p = some o) (hp : P o) (s : S p) (n : ∀ x ∈ l, x.1 ≠ p) : Wd H0 H S (l ++ [(p, P)]) := by
  refine ⟨nd_snoc W.nd n, fun x hx => ?_, W.kp, fun x hx => ?_⟩
  · rcases mem_snoc hx with hx | e
    · exact W.at_ x hx
    · subst e; exact ⟨o, h, hp⟩
  · rcases mem_snoc hx with hx | e
    · exact W.fr x hx
    · subst e; exact .inl s
theorem Wd.one (h : H p = some o) (hp : P o) (s : S p) : Wd H H S [(p, P)] := Wd.nil.old h hp s fun _ h => absurd h List.not_mem_nil
theorem Wd.get (W : Wd H0 H S l) (i : Nat) (e : l[i]? = some (p, P)) : ∃ o, H p = some o ∧ P o := W.at_ _ (List.mem_of_getElem? e)
theorem Wd.at (W : Wd H0 H S l) (i : Nat) (e : l[i]? = some (p, Eq o)) : H p = some o := by
  obtain ⟨o', h, e'⟩ := W.get i e
  cases e'; exact h
theorem Wd.sq {K : PySem.W.Frag} {xs : List V} (W : Wd H0 H S l) (i : Nat) (e : l[i]? = some (p, Eq (.lst xs))) : SqL K H p xs := HS.sq (W.at i e)
theorem Wd.same (W : Wd H0 H S l) (k : Keep (fun _ => False) H H') : Wd H0 H' S l :=
  ⟨W.nd, fun x hx => let ⟨o, h, z⟩ := W.at_ x hx; ⟨o, k _ _ h id, z⟩, W.kp.trans k.any, W.fr⟩
theorem Wd.miss (W : Wd H0 H S l) (h : H p = none) : ∀ x ∈ l, x.1 ≠ p := fun x hx e => by
  obtain ⟨o', h', _⟩ := W.at_ x hx
  rw [e, h] at h'; cases h'
/-- an object that some call has made: it was not there before the call -/
theorem Wd.made (W : Wd H0 H S l) {H1 : Hp} (k : Keep (fun _ => False) H H1) (h0 : H p = none) (h : H1 p = some o) (z : P o) : Wd H0 H1 S (l ++ [(p, P)]) := by
  have W1 := W.same k
  refine ⟨nd_snoc W.nd (W.miss h0), fun x hx => ?_, W1.kp, fun x hx => ?_⟩
  · rcases mem_snoc hx with hx | e
    · exact W1.at_ x hx
    · subst e; exact ⟨o, h, z⟩
  · rcases mem_snoc hx with hx | e
    · exact W.fr x hx
    · subst e
      by_cases s : S p
      · exact .inl s
      · exact .inr (W.kp.free h0 s)
theorem Wd.new (W : Wd H0 H S l) (h : H p = none) (z : P o) : Wd H0 (upd H p o) S (l ++ [(p, P)]) := W.made (Keep.new h) h upd_same z
/-- the same, the new heap by its name -/
theorem Wd.newG (W : Wd H0 H S l) (e : upd H p o = H') (h : H p = none) : Wd H0 H' S (l ++ [(p, Eq o)]) := e ▸ W.new h rfl
theorem nd_ne {l : WdL} (nd : (l.map (·.1)).Nodup) (e1 : l[i]? = some (p, P)) (e2 : l[j]? = some (q, P')) (h : i ≠ j) : p ≠ q := fun z => by
  have f1 : (l.map (·.1))[i]? = some p := by rw [List.getElem?_map, e1]; rfl
  have f2 : (l.map (·.1))[j]? = some q := by rw [List.getElem?_map, e2]; rfl
  have hl : i < (l.map (·.1)).length := (List.getElem?_eq_some_iff.mp f1).1
  exact h ((List.getElem?_inj hl nd).mp (by rw [f1, f2, z]))
theorem Wd.ne (W : Wd H0 H S l) (i j : Nat) (e1 : l[i]? = some (p, P)) (e2 : l[j]? = some (q, P')) (h : i ≠ j := by decide) : p ≠ q := nd_ne W.nd e1 e2 h
theorem Wd.no (W : Wd H0 H S l) (i : Nat) (e : l[i]? = some (p, P)) (h : H q = none) : q ≠ p := fun z => by
  obtain ⟨o, h', _⟩ := W.get i e
  rw [z, h'] at h; cases h
/-- the i-th object changes, all else stands -/
theorem Wd.chg (W : Wd H0 H S l) (i : Nat) (e : l[i]? = some (p, P)) (k : Keep (fun a => a = p) H H') (h : H' p = some o) (z : P' o) : Wd H0 H' S (l.set i (p, P')) := by
  have hi : i < l.length := (List.getElem?_eq_some_iff.mp e).1
  have em : (l.set i (p, P')).map (·.1) = l.map (·.1) := by
    apply List.ext_getElem?
    intro j
    rw [List.getElem?_map, List.getElem?_map, List.getElem?_set]
    by_cases hj : i = j
    · subst hj; rw [if_pos rfl, if_pos hi, e]; rfl
    · rw [if_neg hj]
  have hm : ∀ x ∈ l.set i (p, P'), x = (p, P') ∨ (x ∈ l ∧ x.1 ≠ p) := fun x hx => by
    obtain ⟨j, hj⟩ := List.getElem?_of_mem hx
    rw [List.getElem?_set] at hj
    by_cases hij : i = j
    · rw [if_pos hij, if_pos hi] at hj
      exact .inl (Option.some.inj hj).symm
    · rw [if_neg hij] at hj
      exact .inr ⟨List.mem_of_getElem? hj, fun y => nd_ne W.nd e (show l[j]? = some (x.1, x.2) from hj) hij y.symm⟩
  have sp := W.fr _ (List.mem_of_getElem? e)
  refine ⟨by rw [em]; exact W.nd, fun x hx => ?_, fun a u ha n => ?_, fun x hx => ?_⟩
  · rcases hm x hx with rfl | ⟨hx, n⟩
    · exact ⟨o, h, z⟩
    · obtain ⟨u, hu, y⟩ := W.at_ x hx
      exact ⟨u, k _ _ hu n, y⟩
  · refine k _ _ (W.kp _ _ ha n) fun y => ?_
    subst y
    rcases sp with sp | sp
    · exact n sp
    · rw [sp] at ha; cases ha
  · rcases hm x hx with rfl | ⟨hx, n⟩
    · exact sp
    · exact W.fr x hx
theorem Wd.chgE (W : Wd H0 H S l) (i : Nat) (e : l[i]? = some (p, P)) (k : Keep (fun a => a = p) H H') (h : H' p = some o) : Wd H0 H' S (l.set i (p, Eq o)) := W.chg i e k h rfl
theorem Wd.put (W : Wd H0 H S l) (i : Nat) (e : l[i]? = some (p, P)) (z : P' o) : Wd H0 (upd H p o) S (l.set i (p, P')) := W.chg i e (Keep.refl.at rfl) upd_same z
theorem Wd.putG (W : Wd H0 H S l) (i : Nat) (e : l[i]? = some (p, P)) (g : upd H p o = H') : Wd H0 H' S (l.set i (p, Eq o)) := g ▸ W.put i e rfl
/-- only some of it is told further -/
theorem Wd.sub (W : Wd H0 H S l) (h : l'.Sublist l) : Wd H0 H S l' := ⟨W.nd.sublist (h.map _), fun x hx => W.at_ x (h.subset hx), W.kp, fun x hx => W.fr x (h.subset hx)⟩
theorem Wd.take (W : Wd H0 H S l) (n : Nat) : Wd H0 H S (l.take n) := W.sub (List.take_sublist n l)
theorem Wd.weak (W : Wd H0 H S l) (i : Nat) (e : l[i]? = some (p, P)) (z : ∀ o, P o → P' o) : Wd H0 H S (l.set i (p, P')) := by
  obtain ⟨o, h, y⟩ := W.get i e
  exact W.chg i e .refl h (z o y)
/-- an object that a call has made which changed told objects besides: W before it, W' behind it -/
theorem Wd.madeT {H1 : Hp} (W : Wd H0 H S l) (W' : Wd H0 H1 S l') (e : l'.map (·.1) = l.map (·.1)) (h0 : H p = none) (h : H1 p = some o) (z : P o) : Wd H0 H1 S (l' ++ [(p, P)]) := by
  have n : ∀ x ∈ l', x.1 ≠ p := fun x hx y => by
    have hm : p ∈ l.map (·.1) := by rw [← e, ← y]; exact List.mem_map_of_mem hx
    obtain ⟨u, hu, eu⟩ := List.mem_map.mp hm
    exact W.miss h0 u hu eu
  refine ⟨nd_snoc W'.nd n, fun x hx => ?_, W'.kp, fun x hx => ?_⟩
  · rcases mem_snoc hx with hx | e
    · exact W'.at_ x hx
    · subst e; exact ⟨o, h, z⟩
  · rcases mem_snoc hx with hx | e
    · exact W'.fr x hx
    · subst e
      by_cases s : S p
      · exact .inl s
      · exact .inr (W.kp.free h0 s)
theorem Wd.keep (W : Wd H0 H S l) : Keep S H0 H := W.kp
/-- a change of several told objects and of nothing else -/
theorem Wd.chgs {T : Addr → Prop} (W : Wd H0 H S l) (k : Keep T H H') (hT : ∀ a, T a → S a ∨ H0 a = none) (f : ∀ x ∈ l, ¬ T x.1 ∨ ∃ o, H' x.1 = some o ∧ x.2 o) : Wd H0 H' S l := by
  refine ⟨W.nd, fun x hx => ?_, fun a u ha n => k _ _ (W.kp _ _ ha n) fun y => ?_, W.fr⟩
  · rcases f x hx with n | y
    · obtain ⟨u, hu, y⟩ := W.at_ x hx
      exact ⟨u, k _ _ hu n, y⟩
    · exact y
  · rcases hT a y with z | z
    · exact n z
    · rw [z] at ha; cases ha
theorem Wd.chgO (W : Wd H0 H S l) (k : Keep (fun a => a = p) H H') (hp : ∀ x ∈ l, x.1 ≠ p) (s : S p ∨ H0 p = none) : Wd H0 H' S l :=
  W.chgs k (fun a e => by cases (show a = p from e); exact s) fun x hx => .inl (hp x hx)
end
end HS
/-! A dict of four cells: the law's draws (own lemmas over HandS.Dict). -/
namespace HS
open PySem PySem.Spec PyProof.Rows L2
section
variable {σ : L2.St} {H : Hp} {Q : VK} {td ty tv : TE} {n bk ct : L2.St → Hp → Prop} {rt : VK} {a : Addr} {kvs : List (Key × V)} {x : Str} {v : V}
theorem dget (h : td σ H fun x H1 => ty σ H1 fun y H2 => ∃ a v, x = .ref a ∧ DGet H2 a y (some v) ∧ Q v H2) : tDGet td ty σ H Q := h
theorem dput (h : tv σ H fun v H1 => td σ H1 fun x H2 => ty σ H2 fun y H3 => ∃ a H4, x = .ref a ∧ DPut H3 a y v H4 ∧ n σ H4) : sDPut td ty tv ⟨n, rt, bk, ct⟩ σ H := h
theorem daug {rd : V → V → Hp → VK → Prop} (h : td σ H fun x H1 => ty σ H1 fun y H2 => ∃ a v, x = .ref a ∧ DGet H2 a y (some v) ∧ tv σ H2 fun y2 H3 => rd v y2 H3 fun z H4 => ∃ H5, DPut H4 a y z H5 ∧ n σ H5) : sDAug td ty tv rd ⟨n, rt, bk, ct⟩ σ H := h
theorem dgS {R : Addr → V → Prop} (v : V) (e : H a = some (.dK kvs)) (f : valV kvs (.inr x) = some v) (q : R a v) : ∃ a' v', V.ref a = .ref a' ∧ DGet H a' (.str x) (some v') ∧ R a' v' := ⟨a, v, rfl, by rw [← f]; exact DGet.k (k := .inr x) e, q⟩
theorem dpS {R : Hp → Prop} (e : H a = some (.dK kvs)) (hl : kvs.length ≤ 100000) (q : R (upd H a (.dK (putK kvs (.inr x) v)))) : ∃ a' H4, V.ref a = .ref a' ∧ DPut H a' (.str x) v H4 ∧ R H4 := ⟨a, _, rfl, DPut.k (k := .inr x) e (sz hl), q⟩
theorem dpS1 {R : Hp → Prop} (e : H a = some (.dK kvs)) (hl : kvs.length ≤ 100000) (q : R (upd H a (.dK (putK kvs (.inr x) v)))) : ∃ H4, DPut H a (.str x) v H4 ∧ R H4 := ⟨_, DPut.k (k := .inr x) e (sz hl), q⟩
theorem abI {i : Int} (q : Q (.int (if i < 0 then -i else i)) H) : (fun xs H Q => ∃ i, xs = [V.int i] ∧ Q (.int (if i < 0 then -i else i)) H : List V → Hp → VK → Prop) [.int i] H Q := ⟨i, rfl, q⟩
end
end HS
namespace HS
open PySem PySem.Spec PyProof.Rows L2
theorem disp {σ : L2.St} {H : Hp} {Q : VK} {trs : List (TE × TE)} (h : ∀ p, H p = none → tPairs trs σ (upd H p (.dK [])) fun ps H2 => H2 p = some (.dK []) ∧ ∃ kvs : List (Key × V), ps = kvs.map (fun kv => (kV kv.1, kv.2)) ∧ kvs.length ≤ 15 ∧ Q (.ref p) (upd H2 p (.dK (mergeK [] kvs)))) : tDisp trs σ H Q := h
end HS
namespace HS
open PySem PySem.Spec PyProof.Rows L2
/-- the four cells of a bag -/
def cells (d : Addr) (l c m : Int) : List (Key × V) := [(.inr "great", .ref d), (.inr "left", .int l), (.inr "turn", .int c), (.inr "blend", .int m)]
section
variable {H : Hp} {a d : Addr} {l c m z : Int} {R : Hp → Prop} {S : Addr → V → Prop}
theorem bagL (e : H a = some (.dK (cells d l c m))) (q : R (upd H a (.dK (cells d z c m)))) : ∃ a' H4, V.ref a = .ref a' ∧ DPut H a' (.str "left") (.int z) H4 ∧ R H4 := dpS e (Nat.le_of_ble_eq_true rfl) q
theorem bagT (e : H a = some (.dK (cells d l c m))) (q : R (upd H a (.dK (cells d l z m)))) : ∃ H4, DPut H a (.str "turn") (.int z) H4 ∧ R H4 := dpS1 e (Nat.le_of_ble_eq_true rfl) q
theorem bgG (e : H a = some (.dK (cells d l c m))) (q : S a (.ref d)) : ∃ a' v', V.ref a = .ref a' ∧ DGet H a' (.str "great") (some v') ∧ S a' v' := dgS _ e rfl q
theorem bgL (e : H a = some (.dK (cells d l c m))) (q : S a (.int l)) : ∃ a' v', V.ref a = .ref a' ∧ DGet H a' (.str "left") (some v') ∧ S a' v' := dgS _ e rfl q
theorem bgT (e : H a = some (.dK (cells d l c m))) (q : S a (.int c)) : ∃ a' v', V.ref a = .ref a' ∧ DGet H a' (.str "turn") (some v') ∧ S a' v' := dgS _ e rfl q
theorem bgB (e : H a = some (.dK (cells d l c m))) (q : S a (.int m)) : ∃ a' v', V.ref a = .ref a' ∧ DGet H a' (.str "blend") (some v') ∧ S a' v' := dgS _ e rfl q
end
end HS
/-! A dict that is made empty; a key that is not in it (own steps over HandS.Dict). -/
namespace HS
open PySem PySem.Spec PyProof.Rows L2
section
variable {σ : L2.St} {H : Hp} {Q : VK} {td ty : TE}
theorem dnk (h : ∀ p, H p = none → Q (.ref p) (upd H p (.dK []))) : tDNewK σ H Q := h
theorem dnin (h : ty σ H fun y H1 => td σ H1 fun x H2 => ∃ a o, x = .ref a ∧ DGet H2 a y o ∧ Q (.bl (!o.isSome)) H2) : tDNotIn ty td σ H Q := h
theorem putN {S : Addr → Prop} {p : Addr} {o : HO} {H1 : Hp} (k : Keep S H H1) (h : H p = none) : Keep S H (upd H1 p o) := k.put h
end
end HS
/-! isqrt of a short number. -/
namespace HS
open PySem PySem.Spec PyProof.Rows L2
def rIsq : List V → Hp → VK → Prop := fun xs H Q => ∃ i : Int, xs = [.int i] ∧ 0 ≤ i ∧ i < 2 ^ 64 ∧ ∀ r : Int, 0 ≤ r → r * r ≤ i → i < (r + 1) * (r + 1) → Q (.int r) H
theorem cr_isqrt {X : Cx} : CallR X (.builtin "math.isqrt") rIsq := by
  intro pins s σ H xs us Q I r ⟨i, e, h0, h1, k⟩
  subst e
  obtain ⟨u, rfl, t, rfl⟩ := vals1 r
  obtain ⟨g1, g2⟩ := PySem.Float64.isqrt_spec i.toNat
  refine PySem.W.mg_isqrt h0 h1 ⟨.int ((PySem.Float64.isqrt i.toNat : Nat) : Int), H, I.tok _, ⟨_, rfl⟩, k _ (by omega) ?_ ?_⟩
  · have := Int.ofNat_le.mpr g1
    rw [Int.natCast_mul] at this
    omega
  · have := Int.ofNat_lt.mpr g2
    rw [Int.natCast_mul] at this
    have e : ((PySem.Float64.isqrt i.toNat + 1 : Nat) : Int) = (PySem.Float64.isqrt i.toNat : Int) + 1 := by omega
    rw [e] at this
    omega
theorem oisq {i : Int} {H : Hp} {Q : VK} (h0 : 0 ≤ i) (h1 : i < 2 ^ 64) (k : ∀ r : Int, 0 ≤ r → r * r ≤ i → i < (r + 1) * (r + 1) → Q (.int r) H) : rIsq [.int i] H Q := ⟨i, rfl, h0, h1, k⟩
end HS
/-! range(i, j) of any size, walked. -/
namespace HS
open PySem PySem.Spec PyProof.Rows L2
theorem turn_long {P : Program} {w : World} {K : PySem.W.Frag} {tg : Expr} (it : Addr) (lo : Int) (n : Nat) : Turn P w K tg (Itr lo n) [it] it (fun i h => IsLongIter h it (lo + (i : Nat) * 1) ((n : Int) - (i : Nat)) 1) where
  mem := List.mem_singleton.mpr rfl
  obj := fun i h st b hb => by
    rw [List.mem_singleton.mp hb]
    exact ⟨_, st, fun v z => by cases (show Data.fields _ = Data.cell v from z)⟩
  keep := fun i h h' st kp => kp it (List.mem_singleton.mpr rfl) _ st
  item := by
    intro X hP hw hK hc i pins s σ H E I hf st hg
    subst hP hw hK
    obtain ⟨g0, g1, g2, g3, g4, g5⟩ := hf it (List.mem_singleton.mpr rfl)
    refine (Walks.longrange (prog := X.prog) (w := X.w) (I.ok.hd hc) it lo 1 n).item i s _ _ hg st fun v h' tk hv st' kk => ?_
    obtain ⟨t, rfl⟩ := hv
    refine ⟨_, rfl, go_of (s := { s with heap := h', toks := tk }) (n := "longrange_iterator") st' rfl rfl (by decide) ⟨.int (lo + i), H, I.turned (fun b o hb e => kk b o (fun z => hb (List.mem_singleton.mp z)) e) g0 g1 g3 g4 g5, ⟨t, ?_⟩, ⟨rfl, rfl⟩, st', fun b hb => (hf b hb).1⟩⟩
    rw [Int.mul_one]
  done := by
    intro X hP hw hK hc i pins s σ H E I hf st hg
    subst hP hw hK
    obtain ⟨g0, g1, g2, g3, g4, g5⟩ := hf it (List.mem_singleton.mpr rfl)
    exact wpAny_pyNext_long_end (I.ok.hd hc) st (by have : n ≤ i := hg; omega) fun h1 eb => ⟨rfl, I.turned (t' := s.toks) (fun b o hb e => eb b o hb e) g0 g1 g3 g4 g5⟩
  self := fun _ _ _ _ _ st h => wpAny_pyIter_longiter st h
section
variable {X : Cx} {tg : Expr}
theorem range_any {pins : List (Addr × Obj)} {σ : L2.St} {H : Hp} {s : Shared} {R : It → Hp → Prop} {E : Value → Shared → Prop} {lo hi : Int} {t u v : Tok} {tk : Nat} (I : Inv X pins σ H s)
    (q : R (Itr lo (hi - lo).toNat) H) : wpAny (model X.prog X.w) X.A (pyIter (.ref s.heap.objs.size)) (PIE X pins σ tg R) E { s with heap := s.heap.push { cls := .type "range", data := .fields #[.int lo t, .int hi u, .int 1 v] }, toks := tk } := by
  have e1 : lo + ((0 : Nat) : Int) * 1 = lo := by simp
  have e2 : (((hi - lo).toNat : Nat) : Int) - ((0 : Nat) : Int) = Builtin.Range.rangeSize lo hi 1 := by rw [rangeSize_one]; split <;> omega
  generalize hs1 : ({ s with heap := s.heap.push { cls := .type "range", data := .fields #[.int lo t, .int hi u, .int 1 v] }, toks := tk } : Shared) = s1
  have I1 : Inv X pins σ H s1 := by rw [← hs1]; exact I.kept fun b o e => Heap.get?_push_of_some _ e
  have r1 : IsRange s1.heap s.heap.objs.size lo hi 1 t u v := by rw [← hs1]; exact IsRange.new ..
  have fp : ∀ b ∈ [s1.heap.objs.size], FpOk X pins H b := fun b hb => by
    rw [List.mem_singleton.mp hb]
    exact I1.fpOk (Nat.le_refl _) (I1.hok.fresh (Nat.le_refl _))
  by_cases hsm : Builtin.Range.small lo hi 1 = true
  · refine wpAny_pyIter_range r1 hsm ⟨s1.heap.objs.size, [s1.heap.objs.size], _, _, H, rfl, I1.kept (t' := s1.toks) fun b o e => Heap.get?_push_of_some _ e, turn_range _ lo (hi - lo).toNat, ?_, fp, q⟩
    show IsRangeIter _ _ (lo + ((0 : Nat) : Int) * 1) ((((hi - lo).toNat : Nat) : Int) - ((0 : Nat) : Int)) 1
    rw [e1, e2]; exact Heap.get?_push_size _ rfl
  · refine wpAny_pyIter_longrange r1 (Bool.not_eq_true _ ▸ hsm) ⟨s1.heap.objs.size, [s1.heap.objs.size], _, _, H, rfl, I1.kept (t' := s1.toks) fun b o e => Heap.get?_push_of_some _ e, turn_long _ lo (hi - lo).toNat, ?_, fp, q⟩
    show IsLongIter _ _ (lo + ((0 : Nat) : Int) * 1) ((((hi - lo).toNat : Nat) : Int) - ((0 : Nat) : Int)) 1
    rw [e1, e2]; exact Heap.get?_push_size _ rfl
def iRngA (ta : TA) : TI := fun σ H R => ta σ H fun vs H1 => ∃ i j : Int, vs = [.int i, .int j] ∧ R (Itr i (j - i).toNat) H1
theorem pi_rangeA {a b : Expr} {ta : TA} {p pos : Pos} (hg : Gl X "range") (hm : X.mg "range" = none) (ha : PA X [a, b] ta) (hs : starEach [a, b] X.env = [(false, eval a X.env), (false, eval b X.env)] := by rfl) (hs2 : starEach [b] X.env = [(false, eval b X.env)] := by rfl) : PI X tg (.Call (.Name "range" p) [a, b] [] pos) (iRngA ta) := by
  constructor
  intro pins s σ H R I h
  refine Call_ (ld_blt I hg hm boot_range (callWith_type1 (thn (ha.run pos pins s σ H _ I h) fun us s1 ⟨vs, H1, I1, r1, q1⟩ => ?_) (by rw [hs, hs2]) (by rw [hs2]; rfl)))
  obtain ⟨i, j, rfl, q⟩ := q1
  obtain ⟨u1, u2, rfl, ⟨t, rfl⟩, ⟨t', rfl⟩⟩ : ∃ u1 u2, us = [u1, u2] ∧ RelV (.int i) u1 ∧ RelV (.int j) u2 := by
    cases r1 with
    | cons r rr => cases rr with
      | cons r' rr => cases rr; exact ⟨_, _, rfl, r, r'⟩
  exact call_range_2 (range_any I1 q)
end
end HS
/-! {e for tg in iter for tg1 in iter1} of ints: a set comprehension of two clauses without tests. -/
namespace HS
open PySem PySem.Spec PyProof.Rows L2
section
variable {prog : Program} {w : World} {A : Around} {R : Result → Shared → Prop} {s : Shared} {elt t0 i0 t1 i1 : Expr} {scope : Scope} {pos : Pos} {it acc : Value} {env : Env}
/-- what ends a turn by an exception -/
abbrev nb (prog : Program) (w : World) (A : Around) (env : Env) (R : Result → Shared → Prop) : Value → Shared → Prop := notedBy (model prog w) A env fun e s' => R (.error e) s'
theorem sc2_out (hs : ∀ x, foldedSetIterable i1 env x = pure x) (I : Nat → Shared → Prop)
    (turn : ∀ n s, I n s → wpAny (model prog w) A (pyNext it) (fun r s1 => match r with
      | none => R (.ok .next) s1
      | some v => wpAny (model prog w) A (letOwnedTupleGo t0 it v) (fun _ s2 => wpAny (model prog w) A (assign t0 env v) (fun _ s3 =>
          wpAny (model prog w) A (eval i1 env) (fun x s4 => wpAny (model prog w) A (pyIter x) (fun it1 s5 =>
            codeAny (model prog w) A (.compStart (.SetComp elt [⟨t0, i0, [], 0⟩, ⟨t1, i1, [], 0⟩] scope pos) 1 it1 acc env) (fun r s' => match r with
              | .ok _ => ∃ m, m < n ∧ I m s'
              | .error _ => False) s5) (nb prog w A env R) s4) (nb prog w A env R) s3) (nb prog w A env R) s2) (nb prog w A env R) s1) (nb prog w A env R) s)
    (n : Nat) (h : I n s) : codeAny (model prog w) A (.compLoop (.SetComp elt [⟨t0, i0, [], 0⟩, ⟨t1, i1, [], 0⟩] scope pos) 0 it acc env) R s := by
  refine codeAny_loop rfl I (fun n s hI => ?_) n h
  show wpAny _ A ((compTurn (.SetComp elt [⟨t0, i0, [], 0⟩, ⟨t1, i1, [], 0⟩] scope pos) 0 it acc env).onRaise (fun x => do noteFrame x env; theTreesLotGoes x)) _ _ s
  refine wpAny_noted ?_
  show wpAny _ A (standAt i0.pos >>= fun _ => pyNext it >>= _) _ _ s
  refine wpAny_bind (wpAny_standAt (wpAny_bind (wpAny_mono (turn n s hI) (fun r s1 h1 => ?_) fun _ _ h' => h')))
  cases r with
  | none => exact wpAny_pure h1
  | some v =>
    refine wpAny_bind (wpAny_mono h1 (fun _ s2 h2 => ?_) fun _ _ h' => h')
    refine wpAny_bind (wpAny_mono h2 (fun _ s3 h3 => wpAny_bind (wpAny_pure ?_)) fun _ _ h' => h')
    refine wpAny_bind (wpAny_mono h3 (fun x s4 h4 => ?_) fun _ _ h' => h')
    refine wpAny_bind (wpAny_standAt (wpAny_bind (wpAny_of_eq (hs x) (wpAny_bind (wpAny_holding (wpAny_mono h4 (fun it1 s5 h5 => ?_) fun _ _ h' => h'))))))
    refine wpAny_bind (wpAny_runOwn ?_)
    rw [Around.mark_none]
    refine codeAny_mono h5 fun r s' hr => ?_
    cases r with
    | ok f =>
      first
        | exact wpAny_pure ⟨rfl, hr⟩
        | exact wpAny_bind (wpAny_pure (wpAny_pure ⟨rfl, hr⟩))
    | error e => exact hr.elim
theorem sc2_in (I : Nat → Shared → Prop)
    (turn : ∀ n s, I n s → wpAny (model prog w) A (pyNext it) (fun r s1 => match r with
      | none => R (.ok .next) s1
      | some v => wpAny (model prog w) A (letOwnedTupleGo t1 it v) (fun _ s2 => wpAny (model prog w) A (assign t1 env v) (fun _ s3 =>
          wpAny (model prog w) A (eval elt env) (fun x s4 => wpAny (model prog w) A (call (.builtin "set.add") [acc, x]) (fun _ s5 => ∃ m, m < n ∧ I m s5)
            (nb prog w A env R) s4) (nb prog w A env R) s3) (nb prog w A env R) s2) (nb prog w A env R) s1) (nb prog w A env R) s)
    (n : Nat) (h : I n s) : codeAny (model prog w) A (.compLoop (.SetComp elt [⟨t0, i0, [], 0⟩, ⟨t1, i1, [], 0⟩] scope pos) 1 it acc env) R s := by
  refine codeAny_loop rfl I (fun n s hI => ?_) n h
  show wpAny _ A ((compTurn (.SetComp elt [⟨t0, i0, [], 0⟩, ⟨t1, i1, [], 0⟩] scope pos) 1 it acc env).onRaise (fun x => do noteFrame x env; theTreesLotGoes x)) _ _ s
  refine wpAny_noted ?_
  show wpAny _ A (standAt i1.pos >>= fun _ => pyNext it >>= _) _ _ s
  refine wpAny_bind (wpAny_standAt (wpAny_bind (wpAny_mono (turn n s hI) (fun r s1 h1 => ?_) fun _ _ h' => h')))
  cases r with
  | none => exact wpAny_pure h1
  | some v =>
    refine wpAny_bind (wpAny_mono h1 (fun _ s2 h2 => ?_) fun _ _ h' => h')
    refine wpAny_bind (wpAny_mono h2 (fun _ s3 h3 => wpAny_bind (wpAny_pure ?_)) fun _ _ h' => h')
    exact wpAny_bind (wpAny_bind (wpAny_mono h3 (fun x s4 h4 => wpAny_bind (wpAny_standAt (wpAny_bind (wpAny_mono h4 (fun _ s5 h5 => wpAny_pure (wpAny_pure ⟨rfl, h5⟩)) fun _ _ h' => h')))) fun _ _ h' => h'))
/-- the second clause's start -/
theorem sc2_go (h0 : codeAny (model prog w) A (.compLoop (.SetComp elt [⟨t0, i0, [], 0⟩, ⟨t1, i1, [], 0⟩] scope pos) 1 it acc env) R s)
    (h : wpAny (model prog w) A (pyIter it) (fun it' s' => codeAny (model prog w) A (.compLoop (.SetComp elt [⟨t0, i0, [], 0⟩, ⟨t1, i1, [], 0⟩] scope pos) 1 it' acc env) R s') (nb prog w A env R) s) :
    codeAny (model prog w) A (.compStart (.SetComp elt [⟨t0, i0, [], 0⟩, ⟨t1, i1, [], 0⟩] scope pos) 1 it acc env) R s := by
  refine codeAny_of_tree ?_
  show wpAny _ _ ((compStart (.SetComp elt [⟨t0, i0, [], 0⟩, ⟨t1, i1, [], 0⟩] scope pos) 1 it acc env).onRaise (fun x => do noteFrame x env; standAt theWindowsPlace)) _ _ s
  refine wpAny_notedAt ?_
  unfold compStart
  show wpAny _ _ (ask >>= _) _ _ s
  refine wpAny_bind (wpAny_askSetting (wpAny_ite ?_))
  split
  · first
      | exact wpAny_bind (wpAny_pure (wpAny_pure (And.intro rfl h0)))
      | exact wpAny_pure (And.intro rfl h0)
  · first
      | exact wpAny_bind (wpAny_rule (wpAny_bind (wpAny_standAt (wpAny_bind (wpAny_mono h (fun it' s' h' => wpAny_pure (And.intro rfl h')) fun _ _ x => x)))))
      | (refine wpAny_bind (wpAny_rule ?_); show wpAny _ _ (standAt i1.pos >>= _) _ _ s; exact wpAny_bind (wpAny_standAt (wpAny_bind (wpAny_mono h (fun it' s' h' => wpAny_pure (And.intro rfl h')) fun _ _ x => x))))
end
section
variable {X : Cx}
/-- D: the new set; behind the first clause's store the second source's own loop, from which Nx is reached. vs: the block's names; vs1: those of the second target -/
def tSc2 (w : World) (wi : TI) (g : TG) (wi1 : TI) (g1 : TG) (te : TE) (vs vs1 : List Nat) : TE := fun σ H Q => wi σ H fun J H1 => ∀ D, H1 D = none → ∃ W : Nat → Nat → Hp → Prop, (∃ m, W 0 m (upd H1 D (SetO w D (fun _ => false) 0))) ∧ ∀ i m H, W i m H →
  (J.stop i H ∧ Q (.ref D) H) ∨ (J.go i H ∧ ∃ Nx : Hp → Prop, (∀ H', Nx H' → ∃ m', m' < m ∧ W (i + 1) m' H') ∧ ∀ x H', J.yld i H x H' → g x (wipe σ vs) H' fun σ2 H2 => wipe σ2 vs = wipe σ vs ∧
    wi1 σ2 H2 fun J1 H4 => ∃ W1 : Nat → Nat → Hp → Prop, (∃ m, W1 0 m H4) ∧ ∀ j k H, W1 j k H →
      (J1.stop j H ∧ Nx H) ∨ (J1.go j H ∧ ∃ Nx1 : Hp → Prop, (∀ H', Nx1 H' → ∃ k', k' < k ∧ W1 (j + 1) k' H') ∧ ∀ x H', J1.yld j H x H' → g1 x (wipe σ2 vs1) H' fun σ3 H5 => wipe σ3 vs1 = wipe σ2 vs1 ∧
        te σ3 H5 fun y H7 => ∃ (k : Int) (S : Int → Bool) (n : Nat), y = .int k ∧ H7 D = some (SetO w D S n) ∧ n + 1 < scanBound ∧ Nx1 (upd H7 D (SetO w D (fun j => S j || decide (j = k)) (if S k = true then n else n + 1)))))
theorem pe_sc2 {elt tg iter tg1 iter1 : Expr} {scope : Scope} {own : List (PySem.Str × Nat)} {vs1 : List Nat} {pos : Pos} {wi wi1 : TI} {g g1 : TG} {te : TE} (hc : X.calm = true) (hN : X.N.Nodup) (hi : PI X tg iter wi) (ok : BlkOk X.N X.env.scope scope own) (hv : ∀ i ∈ vs1, i ∈ own.map (·.2))
    (hg : ∀ (s : Shared) (H : Hp) (C : Addr) (cl : List (PySem.Str × Addr)) (fp : List Addr), PG (X.blk s H scope (compEnvC scope cl C X.env) fp) tg g)
    (hi1 : ∀ (s : Shared) (H : Hp) (C : Addr) (cl : List (PySem.Str × Addr)) (fp : List Addr), PI (X.blk s H scope (compEnvC scope cl C X.env) fp) tg1 iter1 wi1)
    (hg1 : ∀ (s : Shared) (H : Hp) (C : Addr) (cl : List (PySem.Str × Addr)) (fp : List Addr), PG (X.blk s H scope (compEnvC scope cl C X.env) fp) tg1 g1)
    (he : ∀ (s : Shared) (H : Hp) (C : Addr) (cl : List (PySem.Str × Addr)) (fp : List Addr), PE (X.blk s H scope (compEnvC scope cl C X.env) fp) elt te)
    (hs : ∀ x, foldedSetIterable iter X.env x = pure x := by intro _; rfl) (hs1 : ∀ env x, foldedSetIterable iter1 env x = pure x := by intro _ _; rfl) :
    PE X (.SetComp elt [⟨tg, iter, [], 0⟩, ⟨tg1, iter1, [], 0⟩] scope pos) (tSc2 X.w wi g wi1 g1 te (own.map (·.2)) vs1) := by
  refine ⟨fun pins s σ H Q I h => ?_⟩
  rw [PpSet.eval_SetComp]
  have hfree : ∀ y ∈ scope.names, y.2 = .free → ∃ c, X.env.cells.lookup y.1 = some c := fun y hy e => by
    rcases ok.free y hy e with k | k
    · exact I.ok.has _ (.inl k)
    · exact I.ok.has _ (.inr k)
  refine wpAny_comprehension_free (use := none) rfl hs (closure_ok hfree) ok.kind (fun y hy e => by rw [ok.uniq y hy, e])
    (thn (hi.run pins s σ H _ I h) fun xv s1 hx => thn hx fun itv s2 h2 => ?_)
  obtain ⟨it, fp, tn, J, H2, e, I2, T, st2, f2, q⟩ := h2
  subst e
  refine PpSet.newSet_ok (newEnv_comp ?_)
  generalize hD : s2.heap.objs.size = D
  have hDn : H2 D = none := I2.hok.fresh (Nat.le_of_eq hD)
  obtain ⟨W, ⟨m0, w0⟩, turn⟩ := q D hDn
  generalize hs3 : ({ s2 with heap := s2.heap.push { cls := .type "set", dict := none, data := .set #[] 0 (.fresh 0 0 (!X.w.params.followText "set-order")) } } : Shared) = s3
  have I3 : Inv X pins σ (upd H2 D (SetO X.w D (fun _ => false) 0)) s3 := by
    rw [← hs3]
    refine I2.laid (t' := s2.toks) (fun b o e => Heap.get?_push_of_some _ e) (Nat.le_of_eq hD) ?_
    rw [← hD]
    exact setO_new (setR_fresh X.w)
  have h3 : s3.heap = s2.heap.push { cls := .type "set", dict := none, data := .set #[] 0 (.fresh 0 0 (!X.w.params.followText "set-order")) } := by rw [← hs3]
  have sz : ∀ b ∈ fp, b < s2.heap.objs.size := fun b hb => by
    obtain ⟨o, e, _⟩ := T.obj _ _ st2 b hb
    exact Heap.lt_size e
  generalize hH3 : upd H2 D (SetO X.w D (fun _ => false) 0) = H3 at I3 w0
  have f3 : ∀ b ∈ fp, FpOk X pins H3 b ∧ b < s3.heap.objs.size := fun b hb => by
    have hlt := sz b hb
    refine ⟨⟨?_, (f2 b hb).2⟩, by rw [h3, Heap.size_push]; exact Nat.lt_succ_of_lt hlt⟩
    rw [← hH3, upd_ne (by rw [← hD]; exact Nat.ne_of_lt hlt)]
    exact (f2 b hb).1
  have st3 : tn 0 s3.heap := T.keep _ _ _ st2 fun b _ o e => by rw [h3]; exact Heap.get?_push_of_some _ e
  have I4 := block_start I3 ok hN f3
  have nfp : ∀ b ∈ fp, H3 b = none := fun b hb => (f3 b hb).1.1
  show codeAny _ _ (.compStart (.SetComp elt [⟨tg, iter, [], 0⟩, ⟨tg1, iter1, [], 0⟩] scope pos) 0 (.ref it) (.ref D) (compEnvC scope (cellsFrom (s3.heap.objs.size + 1) scope.names (cloFrom X.env.cells scope.names [])) s3.heap.objs.size X.env)) (compPost (model X.prog X.w) X.A X.xe none _ (.ref D) s3.heap.objs.size) { s3 with heap := pushCells (s3.heap.push { cls := .type "dict", data := .dict #[] }) scope.names }
  generalize hcl : cellsFrom (s3.heap.objs.size + 1) scope.names (cloFrom X.env.cells scope.names []) = cl at I4 ⊢
  have pg := hg s3 H3 s3.heap.objs.size cl fp
  have pe := he s3 H3 s3.heap.objs.size cl fp
  have pi1 := hi1 s3 H3 s3.heap.objs.size cl fp
  have pg1 := hg1 s3 H3 s3.heap.objs.size cl fp
  generalize hce : compEnvC scope cl s3.heap.objs.size X.env = ce at I4 pg pe pi1 pg1 ⊢
  have cL : ce.locals = s3.heap.objs.size := by subst hce; rfl
  generalize hs4 : ({ s3 with heap := pushCells (s3.heap.push { cls := .type "dict", data := .dict #[] }) scope.names } : Shared) = s4 at I4 ⊢
  have st4 : tn 0 s4.heap := T.keep _ _ _ st3 fun b _ o e => by rw [← hs4]; exact pushCells_keeps _ _ _ _ (Heap.get?_push_of_some _ e)
  have stat : ∀ {σ' : L2.St} {H' : Hp} {s' : Shared}, Inv (X.blk s3 H3 scope ce fp) [] σ' H' s' → (∀ b ∈ fp, H' b = none) → ∀ b ∈ fp, FpOk (X.blk s3 H3 scope ce fp) [] H' b := fun {σ' H' s'} I' hn b hb =>
    ⟨hn b hb, (I'.ok.exf b hb).1, I'.ok.exfs b hb, .inl hb, fun x c e => (I'.ok.exf b hb).2 x c e, fun p hp => absurd (show p ∈ ([] : List (Addr × Obj)) ++ [] from hp) (by simp)⟩
  have loop : codeAny (model X.prog X.w) X.A (.compLoop (.SetComp elt [⟨tg, iter, [], 0⟩, ⟨tg1, iter1, [], 0⟩] scope pos) 0 (.ref it) (.ref D) ce) (compPost (model X.prog X.w) X.A X.xe none (EP X pins σ Q) (.ref D) s3.heap.objs.size) s4 := by
    refine sc2_out (hs1 ce) (fun n s' => ∃ i H', Inv (X.blk s3 H3 scope ce fp) [] (wipe σ (own.map (·.2))) H' s' ∧ tn i s'.heap ∧ (∀ b ∈ fp, H' b = none) ∧ W i n H') ?_ m0 ⟨0, H3, I4, st4, nfp, w0⟩
    rintro n s5 ⟨i, H5, I5, st5, n5, w5⟩
    rcases turn i n H5 w5 with ⟨stop, qq⟩ | ⟨go, Nx, hNx, step⟩
    · refine thnF (T.done (X.blk s3 H3 scope ce fp) rfl rfl rfl hc i [] s5 _ H5 (fun _ _ => False) I5 (stat I5 n5) st5 stop) fun r s6 ⟨hr, I6⟩ => ?_
      subst hr
      have I7 : Inv X pins σ H5 s6 := I3.call' (ch := fp) I6.os I6.base I6.hok I6.bare fun b hb => ⟨(f3 b hb).1.2.2.2.1, (f3 b hb).1.2.1, (f3 b hb).1.2.2.2.2.1, (f3 b hb).1.2.2.2.2.2⟩
      have nC : H5 s3.heap.objs.size = none := by
        have z : H5 ce.locals = none := I6.free
        rw [cL] at z
        exact z
      obtain ⟨m, hn, _⟩ := I6.loc
      have hn : s6.heap.Ns ce.locals m := hn
      rw [cL] at hn
      obtain ⟨g0, g1, g2, g3, g4, g5⟩ := I3.fpOk (Nat.le_refl _) nC
      exact ⟨m, hn, fun h'' sb => ⟨.ref D, H5, I7.turned (t' := s6.toks) (fun b o hb e => (sb.2 b hb).trans e) g0 g1 g3 g4 g5, rfl, qq⟩⟩
    · refine thnF (T.item (X.blk s3 H3 scope ce fp) rfl rfl rfl hc i [] s5 _ H5 (fun _ _ => False) I5 (stat I5 n5) st5 go) fun r s6 ⟨u, hr, h6⟩ => ?_
      subst hr
      refine thnF h6 fun _ s7 ⟨x, H7, I7, r7, y7, st7, n7⟩ => ?_
      have I7' := I7.pinned (stat I7 n7) (T.obj _ _ st7)
      refine thnF (pg.run _ s7 _ H7 x u _ I7' r7 (step x H7 y7)) fun _ s8 ⟨σ8, H8, I8, hw8, q8⟩ => ?_
      have fin : ∀ {σ9 : L2.St} {s' : Shared} {H' : Hp}, Inv (X.blk s3 H3 scope ce fp) ([] ++ pinsAt fp s7.heap) σ9 H' s' → (wipe σ (own.map (·.2))).length = σ9.length → (∀ (j : Nat) v, (wipe σ (own.map (·.2)))[j]? = some (some v) → σ9[j]? = some (some v)) → Nx H' →
          ∃ m, m < n ∧ ∃ i H', Inv (X.blk s3 H3 scope ce fp) [] (wipe σ (own.map (·.2))) H' s' ∧ tn i s'.heap ∧ (∀ b ∈ fp, H' b = none) ∧ W i m H' := fun {σ9 s' H'} I' hl hk nx => by
        obtain ⟨m', hm, w'⟩ := hNx H' nx
        have pin' : ∀ b ∈ fp, ∀ o, s7.heap.get? b = some o → s'.heap.get? b = some o ∧ H' b = none := fun b hb o e =>
          let z := I'.pin (b, o) (List.mem_append_right _ (List.mem_append_right _ (mem_pinsAt hb e)))
          ⟨z.1, z.2.1⟩
        refine ⟨m', hm, i + 1, H', (I'.unpinned (pins := [])).weak hl hk, T.keep _ _ _ st7 fun b hb o e => (pin' b hb o e).1, fun b hb => ?_, w'⟩
        obtain ⟨o, e, _⟩ := T.obj _ _ st7 b hb
        exact (pin' b hb o e).2
      have hl8 : (wipe σ (own.map (·.2))).length = σ8.length := by rw [← hw8, wipe_length]
      have hk9 : ∀ (j : Nat) v, (wipe σ (own.map (·.2)))[j]? = some (some v) → (wipe σ8 vs1)[j]? = some (some v) := fun j v e => by
        rw [← hw8] at e
        obtain ⟨e1, e2⟩ := wipe_some e
        rw [wipe_out fun z => e2 (hv j z)]
        exact e1
      refine thnF (pi1.run _ s8 σ8 H8 _ I8 q8) fun xv s10 hx => thnF hx fun itv s11 h11 => ?_
      obtain ⟨it1, fp1, tn1, J1, H11, e1, I11, T1, st11, f11, W1, ⟨m1, w1⟩, turn1⟩ := h11
      subst e1
      have stat1 : ∀ {H' : Hp}, (∀ b ∈ fp1, H' b = none) → ∀ b ∈ fp1, FpOk (X.blk s3 H3 scope ce fp) ([] ++ pinsAt fp s7.heap) H' b := fun hn b hb => ⟨hn b hb, (f11 b hb).2⟩
      have loop1 : codeAny (model X.prog X.w) X.A (.compLoop (.SetComp elt [⟨tg, iter, [], 0⟩, ⟨tg1, iter1, [], 0⟩] scope pos) 1 (.ref it1) (.ref D) ce)
          (fun r s' => match r with
            | .ok _ => ∃ m, m < n ∧ ∃ i H', Inv (X.blk s3 H3 scope ce fp) [] (wipe σ (own.map (·.2))) H' s' ∧ tn i s'.heap ∧ (∀ b ∈ fp, H' b = none) ∧ W i m H'
            | .error _ => False) s11 := by
        refine sc2_in (fun k s' => ∃ j H', Inv (X.blk s3 H3 scope ce fp) ([] ++ pinsAt fp s7.heap) (wipe σ8 vs1) H' s' ∧ tn1 j s'.heap ∧ (∀ b ∈ fp1, H' b = none) ∧ W1 j k H') ?_ m1 ⟨0, H11, I11.weak (wipe_length _ _) (fun j v e => (wipe_some e).1), st11, fun b hb => (f11 b hb).1, w1⟩
        rintro k s12 ⟨j, H12, I12, st12, n12, w12⟩
        rcases turn1 j k H12 w12 with ⟨stop1, nx1⟩ | ⟨go1, Nx1, hNx1, step1⟩
        · refine thnF (T1.done (X.blk s3 H3 scope ce fp) rfl rfl rfl hc j _ s12 (wipe σ8 vs1) H12 (fun _ _ => False) I12 (stat1 n12) st12 stop1) fun r s13 ⟨hr, I13⟩ => ?_
          subst hr
          exact fin I13 (hl8.trans (wipe_length σ8 vs1).symm) hk9 nx1
        · refine thnF (T1.item (X.blk s3 H3 scope ce fp) rfl rfl rfl hc j _ s12 (wipe σ8 vs1) H12 (fun _ _ => False) I12 (stat1 n12) st12 go1) fun r s13 ⟨u1, hr, h13⟩ => ?_
          subst hr
          refine thnF h13 fun _ s14 ⟨x1, H14, I14, r14, y14, st14, n14⟩ => ?_
          have I14' := I14.pinned (stat1 n14) (T1.obj _ _ st14)
          refine thnF (pg1.run _ s14 (wipe σ8 vs1) H14 x1 u1 _ I14' r14 (step1 x1 H14 y14)) fun _ s15 ⟨σ15, H15, I15, hw15, q15⟩ => ?_
          refine thnF (pe.run _ s15 σ15 H15 _ I15 q15) fun z s17 ⟨yv, H17, I17, r17, kk, S0, n0, ey, hD17, room, nx⟩ => ?_
          subst ey
          obtain ⟨tk, rfl⟩ := r17
          refine wpAny_mono (mt_sadd (X := X.blk s3 H3 scope ce fp) _ s17 σ15 H17 (.ref D) [.int kk] (.ref D) [.int kk tk] (fun _ H' => Nx1 H') I17 rfl (.cons ⟨tk, rfl⟩ .nil) ⟨D, kk, S0, n0, rfl, rfl, hD17, room, nx⟩) (fun _ s18 h18 => ?_) fun _ _ x => x.elim
          obtain ⟨_, H18, I18, _, nx1⟩ := h18
          obtain ⟨m', hm, w'⟩ := hNx1 H18 nx1
          have pin' : ∀ b ∈ fp1, ∀ o, s14.heap.get? b = some o → s18.heap.get? b = some o ∧ H18 b = none := fun b hb o e =>
            let z := I18.pin (b, o) (List.mem_append_right _ (List.mem_append_right _ (mem_pinsAt hb e)))
            ⟨z.1, z.2.1⟩
          refine ⟨m', hm, j + 1, H18, I18.unpinned.weak (by rw [← hw15, wipe_length]) (fun j v e => by rw [← hw15] at e; exact (wipe_some e).1), T1.keep _ _ _ st14 fun b hb o e => (pin' b hb o e).1, fun b hb => ?_, w'⟩
          obtain ⟨o, e, _⟩ := T1.obj _ _ st14 b hb
          exact (pin' b hb o e).2
      exact sc2_go loop1 (T1.self X.A 0 _ _ _ st11 loop1)
  exact PpSet.codeAny_compStart_set loop (T.self X.A 0 _ _ _ st4 loop)
end
end HS
namespace HS
open PySem PySem.Spec PyProof.Rows L2
section
variable {X : Cx}
theorem kscw (w : World) {e : Expr} {wi wi1 : TI} {g g1 : TG} {te : TE} {vs vs1 : List Nat} (p : PE X e (tSc2 X.w wi g wi1 g1 te vs vs1)) (h : X.w = w := by rfl) : PE X e (tSc2 w wi g wi1 g1 te vs vs1) := h ▸ p
theorem ksortU (w : World) (hc : X.calm = true) (h : X.w = w := by rfl) : CallR X (.builtin "sorted") (rSortedSet w) := h ▸ cr_sortedSet hc
theorem klstD (hc : X.calm = true) : CallR X (.type "list") (fun xs H Q => ∃ (a : Addr) (kvs : List (Key × V)), xs = [.ref a] ∧ Rd H a (.dK kvs) ∧ ∀ p, H p = none → Q (.ref p) (upd H p (.lst (kvs.map fun kv => kV kv.1)))) := call_listD hc
theorem sc2 {w : World} {wi wi1 : TI} {g g1 : TG} {te : TE} {vs vs1 : List Nat} {σ : L2.St} {H : Hp} {Q : VK} (h : wi σ H fun J H1 => ∀ D, H1 D = none → ∃ W : Nat → Nat → Hp → Prop, (∃ m, W 0 m (upd H1 D (SetO w D (fun _ => false) 0))) ∧ ∀ i m H, W i m H →
  (J.stop i H ∧ Q (.ref D) H) ∨ (J.go i H ∧ ∃ Nx : Hp → Prop, (∀ H', Nx H' → ∃ m', m' < m ∧ W (i + 1) m' H') ∧ ∀ x H', J.yld i H x H' → g x (wipe σ vs) H' fun σ2 H2 => wipe σ2 vs = wipe σ vs ∧
    wi1 σ2 H2 fun J1 H4 => ∃ W1 : Nat → Nat → Hp → Prop, (∃ m, W1 0 m H4) ∧ ∀ j k H, W1 j k H →
      (J1.stop j H ∧ Nx H) ∨ (J1.go j H ∧ ∃ Nx1 : Hp → Prop, (∀ H', Nx1 H' → ∃ k', k' < k ∧ W1 (j + 1) k' H') ∧ ∀ x H', J1.yld j H x H' → g1 x (wipe σ2 vs1) H' fun σ3 H5 => wipe σ3 vs1 = wipe σ2 vs1 ∧
        te σ3 H5 fun y H7 => ∃ (k : Int) (S : Int → Bool) (n : Nat), y = .int k ∧ H7 D = some (SetO w D S n) ∧ n + 1 < scanBound ∧ Nx1 (upd H7 D (SetO w D (fun j => S j || decide (j = k)) (if S k = true then n else n + 1)))))) : tSc2 w wi g wi1 g1 te vs vs1 σ H Q := h
end
/-- over a list, by the number of turns done; F: the turn -/
theorem by_listF {K : PySem.W.Frag} {a : Addr} {xs : List V} {H1 : Hp} {Qd : Hp → Prop} {F : V → Hp → (Hp → Prop) → Prop} (Pv : Nat → Hp → Prop) (h0 : Pv 0 H1) (hl : ∀ i H, i ≤ xs.length → Pv i H → SqL K H a xs)
    (hs : ∀ i x H, xs[i]? = some x → Pv i H → F x H (Pv (i + 1))) (hd : ∀ H, Pv xs.length H → Qd H) :
    ∃ W : Nat → Nat → Hp → Prop, (∃ m, W 0 m H1) ∧ ∀ i m H, W i m H → ((Itl K a).stop i H ∧ Qd H) ∨ ((Itl K a).go i H ∧ ∃ Nx : Hp → Prop, (∀ H', Nx H' → ∃ m', m' < m ∧ W (i + 1) m' H') ∧ ∀ x H', (Itl K a).yld i H x H' → F x H' Nx) := by
  refine ⟨fun i m H => m = xs.length - i ∧ i ≤ xs.length ∧ Pv i H, ⟨xs.length, rfl, Nat.zero_le _, h0⟩, ?_⟩
  rintro i m H ⟨rfl, hi, p⟩
  have q := hl i H hi p
  by_cases c : i < xs.length
  · exact .inr ⟨⟨xs, xs[i], q, List.getElem?_eq_getElem c⟩, Pv (i + 1), fun H' p' => ⟨_, Nat.sub_lt_sub_left c (Nat.lt_succ_self i), rfl, c, p'⟩, fun x H' ⟨e, y⟩ => e ▸ hs i x H (y xs q) p⟩
  · exact .inl ⟨⟨xs, q, Nat.le_of_not_lt c⟩, hd H (by rw [show xs.length = i by omega]; exact p)⟩
theorem by_tupF {K : PySem.W.Frag} {a : Addr} {xs : List V} {H1 : Hp} {Qd : Hp → Prop} {F : V → Hp → (Hp → Prop) → Prop} (Pv : Nat → Hp → Prop) (h0 : Pv 0 H1) (hl : ∀ i H, i ≤ xs.length → Pv i H → SqT K H a xs)
    (hs : ∀ i x H, xs[i]? = some x → Pv i H → F x H (Pv (i + 1))) (hd : ∀ H, Pv xs.length H → Qd H) :
    ∃ W : Nat → Nat → Hp → Prop, (∃ m, W 0 m H1) ∧ ∀ i m H, W i m H → ((Itt K a).stop i H ∧ Qd H) ∨ ((Itt K a).go i H ∧ ∃ Nx : Hp → Prop, (∀ H', Nx H' → ∃ m', m' < m ∧ W (i + 1) m' H') ∧ ∀ x H', (Itt K a).yld i H x H' → F x H' Nx) := by
  refine ⟨fun i m H => m = xs.length - i ∧ i ≤ xs.length ∧ Pv i H, ⟨xs.length, rfl, Nat.zero_le _, h0⟩, ?_⟩
  rintro i m H ⟨rfl, hi, p⟩
  have q := hl i H hi p
  by_cases c : i < xs.length
  · exact .inr ⟨⟨xs, xs[i], q, List.getElem?_eq_getElem c⟩, Pv (i + 1), fun H' p' => ⟨_, Nat.sub_lt_sub_left c (Nat.lt_succ_self i), rfl, c, p'⟩, fun x H' ⟨e, y⟩ => e ▸ hs i x H (y xs q) p⟩
  · exact .inl ⟨⟨xs, q, Nat.le_of_not_lt c⟩, hd H (by rw [show xs.length = i by omega]; exact p)⟩
end HS
namespace HS
open PySem PySem.Spec PyProof.Rows L2
theorem rngAA {σ : L2.St} {H : Hp} {ta : TA} {R : It → Hp → Prop} (h : ta σ H fun vs H1 => ∃ i j : Int, vs = [.int i, .int j] ∧ R (Itr i (j - i).toNat) H1) : iRngA ta σ H R := h
theorem rr2 {i j : Int} {q : Int → Int → Prop} (h : q i j) : ∃ a b : Int, [V.int i, V.int j] = [V.int a, V.int b] ∧ q a b := ⟨i, j, rfl, h⟩
theorem bts {σ : L2.St} {H : Hp} {Q : VK} {to : TE} (h : to σ H fun x H1 => ∃ i, x = .int i ∧ Q (.int (Builtin.Int.intBits i : Nat)) H1) : tBits to σ H Q := h
theorem bt1 {i : Int} {q : Int → Prop} (h : q i) : ∃ j, V.int i = V.int j ∧ q j := ⟨i, rfl, h⟩
end HS
namespace WK08
open PySem PySem.Spec PyProof.Rows L2
/-- the source of draws at s, its digits at d; n: at most so many mixed draws so far -/
def Src (H : Hp) (s d : Addr) (n : Nat) : Prop := s ≠ d ∧ ∃ (gs : List Int) (l m c : Int), H s = some (.lst [.ref d, .int l, .int m, .int c]) ∧ H d = some (.lst (gs.map V.int)) ∧ (∀ x ∈ gs, 0 ≤ x) ∧ gs.length ≤ 63 ∧ 0 ≤ l ∧ 0 ≤ m ∧ m < 2 ^ 61 ∧ 0 ≤ c ∧ c ≤ n
/-- lengths of chapters -/
def Book (ls : List Int) : Prop := ∀ x ∈ ls, 1 ≤ x ∧ x < 10 ^ 30
theorem Src.keep {H H' : Hp} {s d : Addr} {n : Nat} (h : Src H s d n) (e1 : H' s = H s) (e2 : H' d = H d) : Src H' s d n := by
  obtain ⟨hsd, gs, l, m, c, h1, h2, h3⟩ := h
  exact ⟨hsd, gs, l, m, c, by rw [e1]; exact h1, by rw [e2]; exact h2, h3⟩
theorem Src.new {H : Hp} {s d p : Addr} {n : Nat} {o : HO} (h : Src H s d n) (hp : H p = none) : Src (upd H p o) s d n := by
  obtain ⟨hsd, gs, l, m, c, h1, h2, h3⟩ := h
  exact ⟨hsd, gs, l, m, c, by rw [upd_ne (ne_of_none h1 hp)]; exact h1, by rw [upd_ne (ne_of_none h2 hp)]; exact h2, h3⟩
theorem Src.put {H : Hp} {s d p : Addr} {n : Nat} {o : HO} (h : Src H s d n) (e1 : p ≠ s) (e2 : p ≠ d) : Src (upd H p o) s d n := by
  obtain ⟨hsd, gs, l, m, c, h1, h2, h3⟩ := h
  exact ⟨hsd, gs, l, m, c, by rw [upd_ne e1.symm]; exact h1, by rw [upd_ne e2.symm]; exact h2, h3⟩
theorem Src.ne1 {H : Hp} {s d p : Addr} {n : Nat} (h : Src H s d n) (hp : H p = none) : p ≠ s := by
  obtain ⟨hsd, gs, l, m, c, h1, h2, h3⟩ := h
  exact (ne_of_none h1 hp).symm
theorem Src.ne2 {H : Hp} {s d p : Addr} {n : Nat} (h : Src H s d n) (hp : H p = none) : p ≠ d := by
  obtain ⟨hsd, gs, l, m, c, h1, h2, h3⟩ := h
  exact (ne_of_none h2 hp).symm
theorem Src.up {H : Hp} {s d : Addr} {n m : Nat} (h : Src H s d n) (e : n ≤ m) : Src H s d m := by
  obtain ⟨hsd, gs, l, m', c, h1, h2, h3, h4, h5, h6, h7, h8, h9⟩ := h
  exact ⟨hsd, gs, l, m', c, h1, h2, h3, h4, h5, h6, h7, h8, by omega⟩
/-- the page count of an edition -/
def pcount (ls : List Int) (j : Int) : Int := (ls.map fun x => (x + j - 1) / j).sum
theorem pcount_nil (j : Int) : pcount [] j = 0 := rfl
theorem pcount_cons (x : Int) (ls : List Int) (j : Int) : pcount (x :: ls) j = (x + j - 1) / j + pcount ls j := by unfold pcount; rw [List.map_cons, List.sum_cons]
theorem pcount_append (xs ys : List Int) (j : Int) : pcount (xs ++ ys) j = pcount xs j + pcount ys j := by unfold pcount; rw [List.map_append, List.sum_append]
/-- a page for each chapter, and one more for each full page of its other lines -/
theorem pcount_less1 {j : Int} (hj : 1 ≤ j) : ∀ ls : List Int, (ls.length : Int) + (ls.map fun x => (x - 1) / j).sum = pcount ls j
  | [] => rfl
  | x :: r => by
    have e : (x + j - 1) / j = (x - 1) / j + 1 := by rw [show x + j - 1 = (x - 1) + j * 1 by omega, Int.add_mul_ediv_left _ _ (by omega)]
    rw [pcount_cons, ← pcount_less1 hj r, e, List.length_cons, List.map_cons, List.sum_cons]
    push_cast
    omega
theorem pcount_take {ls : List Int} {i : Nat} {x : Int} (j : Int) (h : ls[i]? = some x) : pcount (ls.take (i + 1)) j = pcount (ls.take i) j + (x + j - 1) / j := by
  obtain ⟨h1, h2⟩ := List.getElem?_eq_some_iff.mp h
  rw [List.take_add_one, h, pcount_append]
  show _ + pcount [x] j = _
  rw [pcount_cons, pcount_nil]; omega
theorem ceil_pos {x j : Int} (hx : 1 ≤ x) (hj : 1 ≤ j) : 1 ≤ (x + j - 1) / j := by
  rw [Int.le_ediv_iff_mul_le (by omega)]; omega
theorem pcount_len {ls : List Int} {j : Int} (hp : ∀ x ∈ ls, 1 ≤ x) (hj : 1 ≤ j) : (ls.length : Int) ≤ pcount ls j := by
  induction ls with
  | nil => exact Int.le_refl 0
  | cons x r ih =>
    rw [pcount_cons, List.length_cons]
    have := ceil_pos (hp x List.mem_cons_self) hj
    have := ih fun y hy => hp y (List.mem_cons_of_mem _ hy)
    omega
theorem pcount_pos {ls : List Int} {j : Int} (hp : ∀ x ∈ ls, 1 ≤ x) (hj : 1 ≤ j) : 0 ≤ pcount ls j := by
  have := pcount_len hp hj; omega
theorem take_all {ls : List Int} {P : Int → Prop} (h : ∀ x ∈ ls, P x) (n : Nat) : ∀ x ∈ ls.take n, P x := fun x hx => h x (List.mem_of_mem_take hx)
theorem Src.same {H H' : Hp} {s d : Addr} {n : Nat} (h : Src H s d n) (k : HS.Keep (fun _ => False) H H') : Src H' s d n := by
  obtain ⟨hsd, gs, l, m, c, h1, h2, h3⟩ := h
  exact ⟨hsd, gs, l, m, c, k _ _ h1 id, k _ _ h2 id, h3⟩
theorem sum_book {ls : List Int} (h : Book ls) : (ls.length : Int) ≤ ls.sum ∧ ls.sum ≤ ls.length * (10 ^ 30) := by
  induction ls with
  | nil => exact ⟨Int.le_refl _, Int.le_refl _⟩
  | cons x r ih =>
    have := ih fun y hy => h y (List.mem_cons_of_mem _ hy)
    have := h x List.mem_cons_self
    rw [List.sum_cons, List.length_cons]
    push_cast
    omega
/-! Sums of ceilings. -/
theorem ceil_le {x j q : Int} (hj : 1 ≤ j) : (x + j - 1) / j ≤ q ↔ x ≤ q * j := by
  rw [← Int.lt_add_one_iff, Int.ediv_lt_iff_lt_mul (by omega), Int.add_mul]
  omega
theorem ceil_up {x j : Int} (hj : 1 ≤ j) : x ≤ (x + j - 1) / j * j := (ceil_le hj).mp (Int.le_refl _)
theorem ceil_dn {x j : Int} (hj : 1 ≤ j) : (x + j - 1) / j * j ≤ x + j - 1 := Int.ediv_mul_le _ (by omega)
theorem ceil_nonneg {x j : Int} (hx : 0 ≤ x) (hj : 1 ≤ j) : 0 ≤ (x + j - 1) / j := Int.ediv_nonneg (by omega) (by omega)
theorem pcount_up (ls : List Int) {j : Int} (hj : 1 ≤ j) : ls.sum ≤ pcount ls j * j := by
  induction ls with
  | nil => rw [pcount_nil]; simp
  | cons x r ih =>
    rw [pcount_cons, List.sum_cons, Int.add_mul]
    have := ceil_up (x := x) hj
    omega
theorem pcount_ceil (ls : List Int) {j : Int} (hj : 1 ≤ j) : (ls.sum + j - 1) / j ≤ pcount ls j := (ceil_le hj).mpr (pcount_up ls hj)
theorem pcount_dn (ls : List Int) {j : Int} (hj : 1 ≤ j) : (pcount ls j - ls.length) * j ≤ ls.sum - ls.length := by
  induction ls with
  | nil => rw [pcount_nil]; simp
  | cons x r ih =>
    rw [pcount_cons, List.sum_cons, List.length_cons]
    have := ceil_dn (x := x) hj
    have e : ((x + j - 1) / j + pcount r j - ((r.length + 1 : Nat) : Int)) * j = (x + j - 1) / j * j - j + (pcount r j - r.length) * j := by
      rw [show ((x + j - 1) / j + pcount r j - ((r.length + 1 : Nat) : Int)) = ((x + j - 1) / j - 1) + (pcount r j - r.length) by push_cast; omega, Int.add_mul, Int.sub_mul, Int.one_mul]
    rw [e]
    push_cast
    omega
theorem pcount_most (ls : List Int) {j : Int} (hj : 1 ≤ j) : pcount ls j ≤ ls.length + (ls.sum - ls.length) / j := by
  have := (Int.le_ediv_iff_mul_le (by omega : 0 < j)).mpr (pcount_dn ls hj)
  omega
theorem pcount_anti {ls : List Int} {j k : Int} (hp : ∀ x ∈ ls, 1 ≤ x) (hj : 1 ≤ j) (hk : j ≤ k) : pcount ls k ≤ pcount ls j := by
  induction ls with
  | nil => exact Int.le_refl _
  | cons x r ih =>
    rw [pcount_cons, pcount_cons]
    have h1 := ih fun y hy => hp y (List.mem_cons_of_mem _ hy)
    have hx := hp x List.mem_cons_self
    have h2 : (x + k - 1) / k ≤ (x + j - 1) / j := (ceil_le (by omega)).mpr (Int.le_trans (ceil_up hj) (Int.mul_le_mul_of_nonneg_left hk (ceil_nonneg (by omega) hj)))
    omega
theorem pcount_mult {ls : List Int} {j m : Int} (hj : 1 ≤ j) (hm : 1 ≤ m) : pcount ls j ≤ m * pcount ls (j * m) := by
  have hjm : 1 ≤ j * m := by have := Int.mul_le_mul hj hm (by omega) (by omega); omega
  induction ls with
  | nil => rw [pcount_nil, pcount_nil, Int.mul_zero]; exact Int.le_refl _
  | cons x r ih =>
    rw [pcount_cons, pcount_cons, Int.mul_add]
    have h2 : (x + j - 1) / j ≤ m * ((x + j * m - 1) / (j * m)) := (ceil_le hj).mpr (by
      have := ceil_up (x := x) hjm
      rw [show m * ((x + j * m - 1) / (j * m)) * j = (x + j * m - 1) / (j * m) * (j * m) by rw [Int.mul_comm m, Int.mul_assoc, Int.mul_comm m j]]
      exact this)
    omega
theorem pcount_reverse (ls : List Int) (j : Int) : pcount ls.reverse j = pcount ls j := by
  induction ls with
  | nil => rfl
  | cons x r ih => rw [List.reverse_cons, pcount_append, ih, pcount_cons, pcount_cons, pcount_nil]; omega
theorem pcount_cut (ls : List Int) (n : Nat) (j : Int) : pcount (ls.take n) j + pcount (ls.drop n) j = pcount ls j := by
  rw [← pcount_append, List.take_append_drop]
theorem ceil_join {x y j : Int} (hj : 1 ≤ j) : (x + y + j - 1) / j ≤ (x + j - 1) / j + (y + j - 1) / j ∧ (x + j - 1) / j + (y + j - 1) / j ≤ (x + y + j - 1) / j + 1 := by
  have a1 := ceil_up (x := x) hj
  have a2 := ceil_dn (x := x) hj
  have b1 := ceil_up (x := y) hj
  have b2 := ceil_dn (x := y) hj
  have c1 := ceil_up (x := x + y) hj
  refine ⟨(ceil_le hj).mpr (by rw [Int.add_mul]; omega), ?_⟩
  generalize (x + j - 1) / j = p at *
  generalize (y + j - 1) / j = q at *
  generalize (x + y + j - 1) / j = r at *
  apply Int.le_of_lt_add_one
  apply Int.lt_of_not_ge
  intro h
  have h1 : (r + 2) * j ≤ (p + q) * j := Int.mul_le_mul_of_nonneg_right (by omega) (by omega)
  rw [Int.add_mul, Int.add_mul] at h1
  omega
theorem pcount_sum {ls : List Int} {j : Int} (hp : ∀ x ∈ ls, 1 ≤ x) (hl : (ls.length : Int) ≤ ls.sum) (hj : 1 ≤ j) : pcount ls j ≤ ls.sum := by
  have := pcount_most ls hj
  have := Int.ediv_le_self j (show 0 ≤ ls.sum - ls.length by omega)
  omega
/-! Sums of quotients over ranges of divisors. -/
/-- n / a + n / (a + 1) + .., k of them -/
def sq (n a : Int) (k : Nat) : Int := ((List.range k).map fun (i : Nat) => n / (a + (i : Nat))).sum
theorem sq_0 (n a : Int) : sq n a 0 = 0 := rfl
theorem sq_succ (n a : Int) (k : Nat) : sq n a (k + 1) = sq n a k + n / (a + (k : Nat)) := by
  unfold sq
  rw [List.range_succ, List.map_append, List.sum_append, List.map_singleton, List.sum_singleton]
theorem sq_add (n a : Int) (k : Nat) : ∀ m : Nat, sq n a (k + m) = sq n a k + sq n (a + (k : Nat)) m
  | 0 => by rw [Nat.add_zero, sq_0, Int.add_zero]
  | m + 1 => by
    rw [← Nat.add_assoc, sq_succ, sq_succ, sq_add n a k m, show a + ((k + m : Nat) : Int) = a + (k : Nat) + (m : Nat) by push_cast; omega]
    omega
theorem sq_nonneg {n a : Int} (hn : 0 ≤ n) (ha : 0 ≤ a) : ∀ k, 0 ≤ sq n a k
  | 0 => Int.le_refl 0
  | k + 1 => by
    rw [sq_succ]
    have := sq_nonneg hn ha k
    have : 0 ≤ n / (a + (k : Nat)) := Int.ediv_nonneg hn (by omega)
    omega
/-- from a on, below b -/
def sqr (n a b : Int) : Int := sq n a (b - a).toNat
theorem sqr_same (n a : Int) : sqr n a a = 0 := by unfold sqr; rw [Int.sub_self]; rfl
theorem sqr_join {n a b c : Int} (h1 : a ≤ b) (h2 : b ≤ c) : sqr n a b + sqr n b c = sqr n a c := by
  unfold sqr
  rw [show (c - a).toNat = (b - a).toNat + (c - b).toNat by omega, sq_add, show a + (((b - a).toNat : Nat) : Int) = b by omega]
theorem sqr_snoc {n a b : Int} (h : a ≤ b) : sqr n a (b + 1) = sqr n a b + n / b := by
  unfold sqr
  rw [show (b + 1 - a).toNat = (b - a).toNat + 1 by omega, sq_succ, show a + (((b - a).toNat : Nat) : Int) = b by omega]
theorem sqr_nonneg {n a b : Int} (hn : 0 ≤ n) (ha : 0 ≤ a) : 0 ≤ sqr n a b := sq_nonneg hn ha _
theorem sqr_const {n a v : Int} : ∀ {k : Nat}, (∀ i : Nat, i < k → n / (a + (i : Nat)) = v) → sq n a k = (k : Int) * v
  | 0, _ => by rw [sq_0]; simp
  | k + 1, h => by
    rw [sq_succ, sqr_const fun i hi => h i (by omega), h k (by omega)]
    push_cast
    rw [Int.add_mul, Int.one_mul]
theorem div_iff {n d q : Int} (hd : 0 < d) : n / d = q ↔ q * d ≤ n ∧ n < (q + 1) * d := by
  constructor
  · intro h
    subst h
    exact ⟨Int.ediv_mul_le n (by omega), Int.lt_ediv_add_one_mul_self n hd⟩
  · rintro ⟨h1, h2⟩
    have a := (Int.le_ediv_iff_mul_le hd).mpr h1
    have b := (Int.ediv_lt_iff_lt_mul hd).mpr h2
    omega
/-- beyond the root: by quotients -/
theorem sqr_flip {n b : Int} (hn : 0 ≤ n) (hb : 1 ≤ b) : ∀ k : Nat, sq n b k = n / (b + (k : Nat)) * (b + (k : Nat) - 1) + sqr n (n / (b + (k : Nat)) + 1) (n / b + 1) - n / b * (b - 1)
  | 0 => by
    rw [sq_0, show b + ((0 : Nat) : Int) = b by omega, sqr_same]
    omega
  | k + 1 => by
    have ih := sqr_flip hn hb k
    rw [sq_succ, ih]
    generalize hl : b + (k : Nat) = l
    rw [hl] at ih
    have el : b + ((k + 1 : Nat) : Int) = l + 1 := by push_cast; omega
    rw [el]
    have l1 : 1 ≤ l := by omega
    have m0 : 0 ≤ n / (l + 1) := Int.ediv_nonneg hn (by omega)
    have m1 : n / (l + 1) ≤ n / l := by
      have h1 := Int.ediv_mul_le n (show l + 1 ≠ 0 by omega)
      refine (Int.le_ediv_iff_mul_le (by omega)).mpr ?_
      have : n / (l + 1) * l ≤ n / (l + 1) * (l + 1) := Int.mul_le_mul_of_nonneg_left (by omega) m0
      omega
    have m2 : n / l ≤ n / b := by
      have h1 := Int.ediv_mul_le n (show l ≠ 0 by omega)
      refine (Int.le_ediv_iff_mul_le (by omega)).mpr ?_
      have : n / l * b ≤ n / l * l := Int.mul_le_mul_of_nonneg_left (by omega) (Int.ediv_nonneg hn (by omega))
      omega
    have cut := sqr_join (n := n) (a := n / (l + 1) + 1) (b := n / l + 1) (c := n / b + 1) (by omega) (by omega)
    have same : sqr n (n / (l + 1) + 1) (n / l + 1) = (n / l - n / (l + 1)) * l := by
      unfold sqr
      rw [sqr_const (v := l) fun i hi => ?_]
      · rw [show (((n / l + 1 - (n / (l + 1) + 1)).toNat : Nat) : Int) = n / l - n / (l + 1) by omega]
      · have q0 : 0 < n / (l + 1) + 1 + (i : Int) := by omega
        refine (div_iff q0).mpr ⟨?_, ?_⟩
        · have h1 := Int.ediv_mul_le n (show l ≠ 0 by omega)
          have h2 : l * (n / (l + 1) + 1 + (i : Int)) ≤ l * (n / l) := Int.mul_le_mul_of_nonneg_left (by omega) (by omega)
          rw [Int.mul_comm l (n / l)] at h2
          omega
        · have h1 := Int.lt_ediv_add_one_mul_self n (show 0 < l + 1 by omega)
          have h2 : (l + 1) * (n / (l + 1) + 1) ≤ (l + 1) * (n / (l + 1) + 1 + (i : Int)) := Int.mul_le_mul_of_nonneg_left (by omega) (by omega)
          rw [Int.mul_comm (l + 1) (n / (l + 1) + 1)] at h2
          omega
    rw [← cut, same, Int.sub_mul]
    have e1 : n / (l + 1) * (l + 1 - 1) = n / (l + 1) * l := by rw [show l + 1 - 1 = l by omega]
    have e2 : n / l * (l - 1) = n / l * l - n / l := by rw [Int.mul_sub, Int.mul_one]
    rw [e1, e2]
    omega
/-- the program's sum for one number: below `beyond` size by size, the rest by quotients -/
theorem sqr_prog {n first last be : Int} (hn : 0 ≤ n) (h1 : 1 ≤ first) (h2 : first ≤ be) (h3 : be ≤ last + 1) :
    sqr n first (last + 1) = sqr n first be + sqr n (n / (last + 1) + 1) (n / be + 1) + (n / (last + 1) * last - n / be * (be - 1)) := by
  have f := sqr_flip hn (show 1 ≤ be by omega) (last + 1 - be).toNat
  rw [show be + (((last + 1 - be).toNat : Nat) : Int) = last + 1 by omega] at f
  rw [← sqr_join h2 h3]
  show _ + sq n be (last + 1 - be).toNat = _
  rw [f, show last + 1 - 1 = last by omega]
  omega
/-- the quotients of sizes up to 2 ^ k -/
theorem sq_log {n : Int} (hn : 0 ≤ n) : ∀ k : Nat, sq n 1 (2 ^ k - 1) ≤ n * (k : Int)
  | 0 => by rw [show 2 ^ 0 - 1 = 0 from rfl, sq_0]; simp
  | k + 1 => by
    have ih := sq_log hn k
    have p : 0 < 2 ^ k := Nat.two_pow_pos k
    rw [show 2 ^ (k + 1) - 1 = 2 ^ k - 1 + 2 ^ k by rw [Nat.pow_succ]; omega, sq_add, show (1 : Int) + ((2 ^ k - 1 : Nat) : Int) = ((2 ^ k : Nat) : Int) by omega]
    have blk : ∀ m : Nat, sq n ((2 ^ k : Nat) : Int) m ≤ (m : Int) * (n / ((2 ^ k : Nat) : Int)) := fun m => by
      induction m with
      | zero => rw [sq_0]; simp
      | succ m im =>
        rw [sq_succ]
        have : n / (((2 ^ k : Nat) : Int) + (m : Nat)) ≤ n / ((2 ^ k : Nat) : Int) := by
          have h1 := Int.ediv_mul_le n (show ((2 ^ k : Nat) : Int) + (m : Nat) ≠ 0 by omega)
          refine (Int.le_ediv_iff_mul_le (by omega)).mpr ?_
          have : n / (((2 ^ k : Nat) : Int) + (m : Nat)) * ((2 ^ k : Nat) : Int) ≤ n / (((2 ^ k : Nat) : Int) + (m : Nat)) * (((2 ^ k : Nat) : Int) + (m : Nat)) := Int.mul_le_mul_of_nonneg_left (by omega) (Int.ediv_nonneg hn (by omega))
          omega
        push_cast
        rw [Int.add_mul, Int.one_mul]
        push_cast at im this
        omega
    have b := blk (2 ^ k)
    have e : ((2 ^ k : Nat) : Int) * (n / ((2 ^ k : Nat) : Int)) ≤ n := by
      rw [Int.mul_comm]
      exact Int.ediv_mul_le n (by omega)
    push_cast
    rw [Int.mul_add, Int.mul_one]
    push_cast at b e
    omega
theorem sqr_log {n a b : Int} {k : Nat} (hn : 0 ≤ n) (ha : 1 ≤ a) (hb : b ≤ ((2 ^ k : Nat) : Int)) : sqr n a b ≤ n * (k : Int) := by
  have p : 0 < 2 ^ k := Nat.two_pow_pos k
  by_cases h : b ≤ a
  · unfold sqr
    rw [show (b - a).toNat = 0 by omega, sq_0]
    exact Int.mul_nonneg hn (by omega)
  · have l := sq_log hn k
    have j1 := sqr_join (n := n) (a := 1) (b := a) (c := b) ha (by omega)
    have j2 := sqr_join (n := n) (a := 1) (b := b) (c := ((2 ^ k : Nat) : Int)) (by omega) hb
    have e : sqr n 1 ((2 ^ k : Nat) : Int) = sq n 1 (2 ^ k - 1) := by
      unfold sqr
      congr 1
      omega
    have n1 := sqr_nonneg (b := a) hn (show (0 : Int) ≤ 1 by decide)
    have n2 := sqr_nonneg (b := ((2 ^ k : Nat) : Int)) hn (show 0 ≤ b by omega)
    omega
/-- one quotient by the factor -/
theorem quot_fac {n d st : Int} {s : Nat} (hn : 0 ≤ n) (hd : 1 ≤ d) (hst : d < st) (hs : n * st < 2 ^ s) : n * ((2 ^ s + st) / d) / 2 ^ s = n / d ∧ n * ((2 ^ s + st) / d) < (n / d + 1) * 2 ^ s := by
  have p : (0 : Int) < 2 ^ s := Int.pow_pos (by decide)
  generalize (2 : Int) ^ s = T at p hs ⊢
  have f1 := Int.ediv_mul_le (T + st) (show d ≠ 0 by omega)
  have f2 := Int.lt_ediv_add_one_mul_self (T + st) (show 0 < d by omega)
  generalize (T + st) / d = f at f1 f2 ⊢
  have q1 := Int.ediv_mul_le n (show d ≠ 0 by omega)
  have q2 := Int.lt_ediv_add_one_mul_self n (show 0 < d by omega)
  have q0 : 0 ≤ n / d := Int.ediv_nonneg hn (by omega)
  generalize n / d = q at q0 q1 q2 ⊢
  have f0 : T ≤ f * d := by rw [Int.add_mul, Int.one_mul] at f2; omega
  have fp : 0 ≤ f := by
    rcases Int.lt_or_le f 0 with h | h
    · have : f * d ≤ 0 := Int.mul_nonpos_of_nonpos_of_nonneg (by omega) (by omega)
      omega
    · exact h
  have up : n * f < (q + 1) * T := by
    have h1 : n * f * d ≤ n * (T + st) := by rw [Int.mul_assoc]; exact Int.mul_le_mul_of_nonneg_left f1 hn
    have h2 : n * (T + st) < (n + 1) * T := by rw [Int.mul_add, Int.add_mul, Int.one_mul]; omega
    have h3 : (n + 1) * T ≤ ((q + 1) * d) * T := Int.mul_le_mul_of_nonneg_right (by omega) (by omega)
    have h4 : n * f * d < ((q + 1) * T) * d := by
      rw [show (q + 1) * T * d = (q + 1) * d * T by rw [Int.mul_assoc, Int.mul_comm T d, ← Int.mul_assoc]]
      omega
    exact Int.lt_of_mul_lt_mul_right h4 (by omega)
  have lo : q * T ≤ n * f := by
    have h1 : q * T ≤ q * (f * d) := Int.mul_le_mul_of_nonneg_left f0 q0
    have h2 : (q * d) * f ≤ n * f := Int.mul_le_mul_of_nonneg_right q1 fp
    rw [show q * (f * d) = q * d * f by rw [Int.mul_comm f d, ← Int.mul_assoc]] at h1
    omega
  exact ⟨(div_iff p).mpr ⟨lo, up⟩, up⟩
/-! Numbers side by side in one, each in a field of W bits. -/
def pk (W : Nat) : List Int → Int
  | [] => 0
  | x :: r => x + 2 ^ W * pk W r
theorem pw_pos (W : Nat) : (0 : Int) < 2 ^ W := Int.pow_pos (by decide)
theorem pw_nat (W : Nat) : ((2 ^ W : Nat) : Int) = 2 ^ W := by simp
theorem pk_nonneg {W : Nat} : ∀ {xs : List Int}, (∀ x ∈ xs, 0 ≤ x) → 0 ≤ pk W xs
  | [], _ => Int.le_refl 0
  | x :: r, h => by
    show 0 ≤ x + 2 ^ W * pk W r
    have := h x List.mem_cons_self
    have := Int.mul_nonneg (Int.le_of_lt (pw_pos W)) (pk_nonneg (W := W) fun y hy => h y (List.mem_cons_of_mem x hy))
    omega
theorem pk_snoc {W : Nat} {y : Int} : ∀ xs : List Int, pk W (xs ++ [y]) = pk W xs + y * 2 ^ (xs.length * W)
  | [] => by
    show y + 2 ^ W * 0 = 0 + y * 2 ^ (0 * W)
    rw [Nat.zero_mul]
    simp
  | x :: r => by
    show x + 2 ^ W * pk W (r ++ [y]) = x + 2 ^ W * pk W r + y * 2 ^ ((r.length + 1) * W)
    rw [pk_snoc r, Int.mul_add, Nat.add_mul, Nat.one_mul, Int.pow_add, Int.add_assoc]
    congr 2
    rw [← Int.mul_assoc, Int.mul_comm (2 ^ W) y, Int.mul_assoc, Int.mul_comm (2 ^ W)]
theorem pk_mul {W : Nat} {f : Int} : ∀ xs : List Int, pk W xs * f = pk W (xs.map fun x => x * f)
  | [] => Int.zero_mul f
  | x :: r => by
    show (x + 2 ^ W * pk W r) * f = x * f + 2 ^ W * pk W (r.map fun x => x * f)
    rw [← pk_mul r, Int.add_mul, Int.mul_assoc]
theorem pk_lmul {W : Nat} {f : Int} (xs : List Int) : f * pk W xs = pk W (xs.map fun x => f * x) := by
  rw [Int.mul_comm, pk_mul]
  congr 1
  exact List.map_congr_left fun x _ => Int.mul_comm x f
theorem pk_add {W : Nat} (f g : Int → Int) : ∀ xs : List Int, pk W (xs.map f) + pk W (xs.map g) = pk W (xs.map fun x => f x + g x)
  | [] => rfl
  | x :: r => by
    show f x + 2 ^ W * pk W (r.map f) + (g x + 2 ^ W * pk W (r.map g)) = f x + g x + 2 ^ W * pk W (r.map fun x => f x + g x)
    rw [← pk_add f g r, Int.mul_add]
    omega
theorem pk_lt {W : Nat} : ∀ {xs : List Int}, (∀ x ∈ xs, 0 ≤ x ∧ x < 2 ^ W) → pk W xs < 2 ^ (xs.length * W)
  | [], _ => by
    show (0 : Int) < 2 ^ (0 * W)
    rw [Nat.zero_mul]
    decide
  | x :: r, h => by
    show x + 2 ^ W * pk W r < 2 ^ ((r.length + 1) * W)
    have a := h x List.mem_cons_self
    have b := pk_lt fun y hy => h y (List.mem_cons_of_mem x hy)
    rw [Nat.add_mul, Nat.one_mul, Int.pow_add, Int.mul_comm (2 ^ (r.length * W))]
    have : 2 ^ W * (pk W r + 1) ≤ 2 ^ W * 2 ^ (r.length * W) := Int.mul_le_mul_of_nonneg_left (by omega) (Int.le_of_lt (pw_pos W))
    rw [Int.mul_add, Int.mul_one] at this
    omega
theorem div_shift {x y T : Int} (hT : 0 < T) (h0 : 0 ≤ x) (h1 : x < T) : (x + T * y) / T = y := by
  rw [Int.add_mul_ediv_left x y (Int.ne_of_gt hT), Int.ediv_eq_zero_of_lt h0 h1, Int.zero_add]
/-- one field -/
theorem pk_at {W w : Nat} (hw : w ≤ W) : ∀ {xs : List Int}, (∀ x ∈ xs, 0 ≤ x ∧ x < 2 ^ w) → ∀ (i : Nat) (x : Int), xs[i]? = some x → pk W xs / 2 ^ (i * W) % 2 ^ w = x
  | [], _, i, x, e => by simp at e
  | y :: r, h, 0, x, e => by
    rw [List.getElem?_cons_zero] at e
    cases e
    have a := h y List.mem_cons_self
    show (y + 2 ^ W * pk W r) / 2 ^ (0 * W) % 2 ^ w = y
    rw [Nat.zero_mul, Int.pow_zero, Int.ediv_one]
    rw [show W = w + (W - w) by omega, Int.pow_add, Int.mul_assoc, Int.add_mul_emod_self_left]
    exact Int.emod_eq_of_lt a.1 a.2
  | y :: r, h, i + 1, x, e => by
    rw [List.getElem?_cons_succ] at e
    have a := h y List.mem_cons_self
    have lt : y < 2 ^ W := by
      have := Nat.pow_le_pow_right (show 0 < 2 by decide) hw
      have := pw_nat w
      have := pw_nat W
      omega
    show (y + 2 ^ W * pk W r) / 2 ^ ((i + 1) * W) % 2 ^ w = x
    rw [Nat.add_mul, Nat.one_mul, Nat.add_comm, Int.pow_add, ← Int.ediv_ediv_of_nonneg (Int.le_of_lt (pw_pos W)), div_shift (pw_pos W) a.1 lt]
    exact pk_at hw (fun z hz => h z (List.mem_cons_of_mem y hz)) i x e
theorem band_nn {x y : Int} (hx : 0 ≤ x) (hy : 0 ≤ y) : Builtin.bitAnd x y = ((x.toNat &&& y.toNat : Nat) : Int) := by
  have a : decide (0 ≤ x) = true := decide_eq_true hx
  have b : decide (0 ≤ y) = true := decide_eq_true hy
  unfold Builtin.bitAnd
  simp only [ge_iff_le, a, b, Bool.and_self, if_true]
theorem nand_split {W x m y z : Nat} (hx : x < 2 ^ W) (hm : m < 2 ^ W) : (2 ^ W * y + x) &&& (2 ^ W * z + m) = 2 ^ W * (y &&& z) + (x &&& m) := by
  have l : x &&& m < 2 ^ W := Nat.lt_of_le_of_lt Nat.and_le_left hx
  apply Nat.eq_of_testBit_eq
  intro j
  rw [Nat.testBit_and, Nat.testBit_two_pow_mul_add y hx, Nat.testBit_two_pow_mul_add z hm, Nat.testBit_two_pow_mul_add _ l]
  split
  · rw [Nat.testBit_and]
  · rw [Nat.testBit_and]
theorem band_split {W : Nat} {x m y z : Int} (x0 : 0 ≤ x) (hx : x < 2 ^ W) (m0 : 0 ≤ m) (hm : m < 2 ^ W) (y0 : 0 ≤ y) (z0 : 0 ≤ z) : Builtin.bitAnd (x + 2 ^ W * y) (m + 2 ^ W * z) = Builtin.bitAnd x m + 2 ^ W * Builtin.bitAnd y z := by
  have p := pw_pos W
  have e : ∀ {a b : Int}, 0 ≤ a → 0 ≤ b → (a + 2 ^ W * b).toNat = 2 ^ W * b.toNat + a.toNat := fun {a b} ha hb => by
    have q := Int.mul_nonneg (Int.le_of_lt p) hb
    apply Int.ofNat.inj
    show ((a + 2 ^ W * b).toNat : Int) = ((2 ^ W * b.toNat + a.toNat : Nat) : Int)
    rw [Int.toNat_of_nonneg (by omega)]
    push_cast
    rw [Int.toNat_of_nonneg ha, Int.toNat_of_nonneg hb, Int.add_comm]
  have lt : ∀ {a : Int}, 0 ≤ a → a < 2 ^ W → a.toNat < 2 ^ W := fun {a} h0 h1 => by
    have := pw_nat W
    omega
  rw [band_nn (by have := Int.mul_nonneg (Int.le_of_lt p) y0; omega) (by have := Int.mul_nonneg (Int.le_of_lt p) z0; omega), e x0 y0, e m0 z0, nand_split (lt x0 hx) (lt m0 hm), band_nn x0 m0, band_nn y0 z0]
  push_cast
  rw [Int.add_comm]
theorem band_low {w : Nat} {q : Int} (q0 : 0 ≤ q) (hq : q < 2 ^ w) : Builtin.bitAnd q (2 ^ w - 1) = q := by
  have p := pw_pos w
  rw [band_nn q0 (by omega)]
  have e : ((2 : Int) ^ w - 1).toNat = 2 ^ w - 1 := by
    have := pw_nat w
    omega
  rw [e, Nat.and_two_pow_sub_one_eq_mod, Nat.mod_eq_of_lt (by have := pw_nat w; omega)]
  omega
/-- what the mask leaves of one field -/
theorem band_field {s w : Nat} {q r : Int} (q0 : 0 ≤ q) (hq : q < 2 ^ w) (r0 : 0 ≤ r) (hr : r < 2 ^ s) : Builtin.bitAnd (r + 2 ^ s * q) (2 ^ s * (2 ^ w - 1)) = 2 ^ s * q := by
  have p := pw_pos w
  have h := band_split (W := s) r0 hr (Int.le_refl 0) (pw_pos s) q0 (show (0 : Int) ≤ 2 ^ w - 1 by omega)
  rw [Int.zero_add, band_low q0 hq] at h
  rw [h, band_nn r0 (Int.le_refl 0)]
  simp
/-- what the mask leaves -/
theorem band_pk {s w W : Nat} (hW : W = s + w) (q f : Int → Int) : ∀ {ns : List Int}, (∀ n ∈ ns, 0 ≤ q n ∧ q n < 2 ^ w ∧ 2 ^ s * q n ≤ f n ∧ f n < 2 ^ s * (q n + 1)) →
    Builtin.bitAnd (pk W (ns.map f)) (pk W (ns.map fun _ => 2 ^ s * (2 ^ w - 1))) = pk W (ns.map fun n => 2 ^ s * q n)
  | [], _ => by
    show Builtin.bitAnd 0 0 = 0
    rw [band_nn (Int.le_refl 0) (Int.le_refl 0)]
    rfl
  | n :: r, h => by
    obtain ⟨q0, q1, f0, f1⟩ := h n List.mem_cons_self
    have hr : ∀ m ∈ r, 0 ≤ q m ∧ q m < 2 ^ w ∧ 2 ^ s * q m ≤ f m ∧ f m < 2 ^ s * (q m + 1) := fun m hm => h m (List.mem_cons_of_mem n hm)
    have ps := pw_pos s
    have pw := pw_pos w
    have eW : (2 : Int) ^ W = 2 ^ s * 2 ^ w := by rw [hW, Int.pow_add]
    have nn : ∀ m, 0 ≤ q m → 0 ≤ 2 ^ s * q m := fun m hm => Int.mul_nonneg (Int.le_of_lt ps) hm
    show Builtin.bitAnd (f n + 2 ^ W * pk W (r.map f)) (2 ^ s * (2 ^ w - 1) + 2 ^ W * pk W (r.map fun _ => 2 ^ s * (2 ^ w - 1))) = 2 ^ s * q n + 2 ^ W * pk W (r.map fun n => 2 ^ s * q n)
    have top : 2 ^ s * (q n + 1) ≤ 2 ^ s * 2 ^ w := Int.mul_le_mul_of_nonneg_left (by omega) (Int.le_of_lt ps)
    have msk : 0 ≤ (2 : Int) ^ s * (2 ^ w - 1) := Int.mul_nonneg (Int.le_of_lt ps) (by omega)
    have f00 := nn n q0
    rw [band_split (by omega) (by rw [eW]; omega) msk (by rw [eW, Int.mul_sub, Int.mul_one]; omega)
      (pk_nonneg fun x hx => by
        obtain ⟨m, hm, rfl⟩ := List.mem_map.mp hx
        have := hr m hm
        have := nn m this.1
        omega)
      (pk_nonneg fun x hx => by
        obtain ⟨m, hm, rfl⟩ := List.mem_map.mp hx
        exact msk), band_pk hW q f hr]
    congr 1
    rw [Int.mul_add, Int.mul_one] at f1
    have := band_field (s := s) (w := w) (q := q n) (r := f n - 2 ^ s * q n) q0 q1 (by omega) (by omega)
    rwa [show f n - 2 ^ s * q n + 2 ^ s * q n = f n by omega] at this
/-- one size of divide_together -/
theorem pk_turn {s w W : Nat} (hW : W = s + w) {ns : List Int} {d st : Int} (hd : 1 ≤ d) (hst : d < st) (h : ∀ n ∈ ns, 0 ≤ n ∧ n * st < 2 ^ s ∧ n < 2 ^ w) :
    Builtin.bitAnd (pk W ns * ((2 ^ s + st) / d)) (pk W (ns.map fun _ => 2 ^ s * (2 ^ w - 1))) = pk W (ns.map fun n => 2 ^ s * (n / d)) := by
  rw [pk_mul]
  refine band_pk hW (fun n => n / d) _ fun n hn => ?_
  obtain ⟨n0, n1, n2⟩ := h n hn
  obtain ⟨e1, e2⟩ := quot_fac n0 hd hst n1
  have le : n / d ≤ n := Int.ediv_le_self d n0
  refine ⟨Int.ediv_nonneg n0 (by omega), by omega, ?_, ?_⟩
  · have := Int.mul_ediv_self_le (x := n * ((2 ^ s + st) / d)) (k := 2 ^ s) (Int.ne_of_gt (pw_pos s))
    rw [e1] at this
    exact this
  · show n * ((2 ^ s + st) / d) < 2 ^ s * (n / d + 1)
    rw [Int.mul_comm (2 ^ s)]
    exact e2
theorem pk_turns {s W : Nat} {ns : List Int} {a : Int} (k : Nat) : pk W (ns.map fun n => 2 ^ s * sq n a k) + pk W (ns.map fun n => 2 ^ s * (n / (a + (k : Nat)))) = pk W (ns.map fun n => 2 ^ s * sq n a (k + 1)) := by
  rw [pk_add]
  congr 1
  refine List.map_congr_left fun n _ => ?_
  rw [sq_succ, Int.mul_add]
/-- the sum of one number, read out of the total -/
theorem pk_read {s w W : Nat} (hW : W = s + w) {ns : List Int} {g : Int → Int} (h : ∀ n ∈ ns, 0 ≤ g n ∧ g n < 2 ^ w) {i : Nat} {n : Int} (e : ns[i]? = some n) : pk W (ns.map fun n => 2 ^ s * g n) / 2 ^ (i * W + s) % 2 ^ w = g n := by
  have e2 : pk W (ns.map fun n => 2 ^ s * g n) = 2 ^ s * pk W (ns.map g) := by
    rw [pk_lmul, List.map_map]
    rfl
  rw [e2, Nat.add_comm, Int.pow_add, ← Int.ediv_ediv_of_nonneg (Int.le_of_lt (pw_pos s)), Int.mul_ediv_cancel_left _ (Int.ne_of_gt (pw_pos s))]
  refine pk_at (by omega) (fun x hx => ?_) i (g n) ?_
  · obtain ⟨m, hm, rfl⟩ := List.mem_map.mp hx
    exact h m hm
  · rw [List.getElem?_map, e]
    rfl
/-! Sums of quotients by pairs (k08's law), over edges, over what is wanted. -/
theorem sq_le {n a : Int} (hn : 0 ≤ n) (ha : 1 ≤ a) : ∀ k : Nat, sq n a k ≤ (k : Int) * n
  | 0 => by rw [sq_0]; simp
  | k + 1 => by
    rw [sq_succ]
    have := sq_le hn ha k
    have : n / (a + (k : Nat)) ≤ n := Int.ediv_le_self _ hn
    push_cast
    rw [Int.add_mul, Int.one_mul]
    omega
theorem sqr_le {n a b : Int} (hn : 0 ≤ n) (ha : 1 ≤ a) : sqr n a b ≤ ((b - a).toNat : Nat) * n := sq_le hn ha _
theorem sqr_none {n a b : Int} (h : b ≤ a) : sqr n a b = 0 := by
  unfold sqr
  rw [show (b - a).toNat = 0 by omega]
  rfl
theorem sqr_zero {n a b : Int} (hn : 0 ≤ n) (h : n < a) : sqr n a b = 0 := by
  unfold sqr
  rw [sqr_const (v := 0) fun i _ => Int.ediv_eq_zero_of_lt hn (by omega), Int.mul_zero]
theorem div_le_iff {n w q : Int} (hw : 0 < w) (hq : 0 < q) (h : n / q < w) : n / w < q := by
  have h1 := (Int.ediv_lt_iff_lt_mul hq).mp h
  rw [Int.mul_comm] at h1
  exact (Int.ediv_lt_iff_lt_mul hw).mpr h1
theorem le_div_iff' {n w q : Int} (hw : 0 < w) (hq : 0 < q) (h : w ≤ n / q) : q ≤ n / w := by
  have h1 := (Int.le_ediv_iff_mul_le hq).mp h
  rw [Int.mul_comm] at h1
  exact (Int.le_ediv_iff_mul_le hw).mpr h1
/-- how many sizes above the root have the quotient q -/
def pairN (n root en q : Int) : Int := max 0 (min en (n / q) - max root (n / (q + 1)))
def loQ (n root en : Int) (Q : Nat) : Int := min en (max root (n / ((Q : Int) + 1)))
def pairS (n root en : Int) : Nat → Int
  | 0 => 0
  | Q + 1 => pairS n root en Q + ((Q + 1 : Nat) : Int) * pairN n root en ((Q + 1 : Nat) : Int)
theorem pairS_eq {n root en : Int} (hn : 0 ≤ n) (hr : 1 ≤ root) (he : root < en) : ∀ Q : Nat, pairS n root en Q = sqr n (loQ n root en Q + 1) (en + 1)
  | 0 => by
    show 0 = _
    unfold loQ
    rw [show ((0 : Nat) : Int) + 1 = 1 from rfl, Int.ediv_one]
    by_cases c : n < min en (max root n) + 1
    · rw [sqr_zero hn c]
    · rw [sqr_none (by omega)]
  | Q + 1 => by
    have ih := pairS_eq hn hr he Q
    have A0 : n / ((Q : Int) + 2) ≤ n / ((Q : Int) + 1) := by
      have h1 := Int.ediv_mul_le n (show (Q : Int) + 2 ≠ 0 by omega)
      have h0 : 0 ≤ n / ((Q : Int) + 2) := Int.ediv_nonneg hn (by omega)
      refine (Int.le_ediv_iff_mul_le (by omega)).mpr ?_
      have : n / ((Q : Int) + 2) * ((Q : Int) + 1) ≤ n / ((Q : Int) + 2) * ((Q : Int) + 2) := Int.mul_le_mul_of_nonneg_left (by omega) h0
      omega
    have e1 : loQ n root en (Q + 1) = min en (max root (n / ((Q : Int) + 2))) := by
      unfold loQ
      rw [show ((Q + 1 : Nat) : Int) + 1 = (Q : Int) + 2 by push_cast; omega]
    have e0 : loQ n root en Q = min en (max root (n / ((Q : Int) + 1))) := rfl
    have e2 : pairN n root en ((Q + 1 : Nat) : Int) = loQ n root en Q - loQ n root en (Q + 1) := by
      unfold pairN
      rw [e1, e0, show ((Q + 1 : Nat) : Int) + 1 = (Q : Int) + 2 by push_cast; omega, show ((Q + 1 : Nat) : Int) = (Q : Int) + 1 by push_cast; omega]
      omega
    show pairS n root en Q + ((Q + 1 : Nat) : Int) * pairN n root en ((Q + 1 : Nat) : Int) = _
    rw [ih, e2]
    have le : loQ n root en (Q + 1) ≤ loQ n root en Q := by rw [e1, e0]; omega
    have same : sqr n (loQ n root en (Q + 1) + 1) (loQ n root en Q + 1) = ((Q + 1 : Nat) : Int) * (loQ n root en Q - loQ n root en (Q + 1)) := by
      unfold sqr
      rw [sqr_const (v := ((Q + 1 : Nat) : Int)) fun i hi => ?_]
      · rw [Int.mul_comm]
        congr 1
        omega
      · have w1 : n / ((Q : Int) + 2) < loQ n root en (Q + 1) + 1 + (i : Int) := by omega
        have w2 : loQ n root en (Q + 1) + 1 + (i : Int) ≤ n / ((Q : Int) + 1) := by omega
        have w0 : 0 < loQ n root en (Q + 1) + 1 + (i : Int) := by
          have : 0 ≤ n / ((Q : Int) + 2) := Int.ediv_nonneg hn (by omega)
          omega
        generalize loQ n root en (Q + 1) + 1 + (i : Int) = w at w0 w1 w2 ⊢
        have a := div_le_iff w0 (by omega) w1
        have b := le_div_iff' w0 (by omega) w2
        push_cast
        omega
    rw [← same, Int.add_comm]
    exact sqr_join (by omega) (by rw [e0]; omega)
/-- by pairs: all sizes up to the last one -/
theorem by_pairs {n root en : Int} (hn : 0 ≤ n) (hr : 1 ≤ root) (h2 : n < (root + 1) * (root + 1)) : sqr n 1 (min root en + 1) + pairS n root en root.toNat = sqr n 1 (en + 1) := by
  by_cases c : root < en
  · rw [pairS_eq hn hr c]
    have d : n / (root + 1) < root + 1 := (Int.ediv_lt_iff_lt_mul (by omega)).mpr h2
    have e : loQ n root en root.toNat = root := by
      unfold loQ
      rw [Int.toNat_of_nonneg (by omega)]
      omega
    rw [e, show min root en = root by omega]
    exact sqr_join (by omega) (by omega)
  · have z : ∀ Q : Nat, pairS n root en Q = 0 := fun Q => by
      induction Q with
      | zero => rfl
      | succ Q ih =>
        show pairS n root en Q + _ = 0
        have : pairN n root en ((Q + 1 : Nat) : Int) = 0 := by unfold pairN; omega
        rw [ih, this, Int.mul_zero]
        rfl
    rw [z, Int.add_zero, show min root en = en by omega]
/-! ### over edges -/
/-- the parts of one range between the edges that lie in it -/
def cov (n a b : Int) : List Int → Int
  | l :: h :: r => (if a ≤ l ∧ h ≤ b then sqr n l h else 0) + cov n a b (h :: r)
  | _ => 0
theorem cov_out {n a b : Int} : ∀ {e : List Int}, e.Pairwise (· < ·) → (∀ x, e.head? = some x → b ≤ x) → cov n a b e = 0
  | [], _, _ => rfl
  | [_], _, _ => rfl
  | l :: h :: r, p, o => by
    have q := List.pairwise_cons.mp p
    have lh := q.1 h List.mem_cons_self
    have lb := o l rfl
    show (if a ≤ l ∧ h ≤ b then sqr n l h else 0) + cov n a b (h :: r) = 0
    rw [if_neg (by omega), cov_out q.2 fun x hx => by cases hx; omega]
    rfl
theorem cov_from {n a b : Int} : ∀ {e : List Int} {l : Int}, e.Pairwise (· < ·) → e.head? = some l → a ≤ l → l ≤ b → b ∈ e → cov n a b e = sqr n l b
  | [], _, _, h, _, _, _ => by cases h
  | [x], l, _, h, _, _, m => by
    cases h
    rw [List.mem_singleton] at m
    subst m
    rw [sqr_same]
    rfl
  | l :: h :: r, l0, p, hh, al, lb, m => by
    obtain rfl : l = l0 := Option.some.inj hh
    have q := List.pairwise_cons.mp p
    have lh := q.1 h List.mem_cons_self
    show (if a ≤ l ∧ h ≤ b then sqr n l h else 0) + cov n a b (h :: r) = sqr n l b
    by_cases c : l = b
    · subst c
      rw [if_neg (by omega), cov_out q.2 fun x hx => by cases hx; omega, sqr_same]
      rfl
    · have m2 : b ∈ h :: r := by
        rcases List.mem_cons.mp m with z | z
        · exact absurd z.symm c
        · exact z
      have hb : h ≤ b := by
        rcases List.mem_cons.mp m2 with z | z
        · omega
        · have := (List.pairwise_cons.mp q.2).1 b z
          omega
      rw [if_pos ⟨al, hb⟩, cov_from q.2 rfl (by omega) hb m2]
      exact sqr_join (by omega) hb
theorem cov_all {n a b : Int} : ∀ {e : List Int}, e.Pairwise (· < ·) → a ≤ b → a ∈ e → b ∈ e → cov n a b e = sqr n a b
  | [], _, _, m, _ => by cases m
  | l :: r, p, ab, ma, mb => by
    by_cases c : l = a
    · subst c
      exact cov_from p rfl (Int.le_refl _) ab mb
    · have q := List.pairwise_cons.mp p
      have ma2 : a ∈ r := by
        rcases List.mem_cons.mp ma with z | z
        · exact absurd z.symm c
        · exact z
      have la := q.1 a ma2
      have mb2 : b ∈ r := by
        rcases List.mem_cons.mp mb with z | z
        · omega
        · exact z
      have ih := cov_all (n := n) q.2 ab ma2 mb2
      cases r with
      | nil => cases ma2
      | cons h r =>
        show (if a ≤ l ∧ h ≤ b then sqr n l h else 0) + cov n a b (h :: r) = sqr n a b
        rw [if_neg (by omega), ih, Int.zero_add]
/-- a range of divisors: from, below, the number, how many times -/
structure Rg where
  a : Int
  b : Int
  n : Int
  m : Int
def rgV (rs : List Rg) : Int := (rs.map fun r => r.m * sqr r.n r.a r.b).sum
def rgC (rs : List Rg) (e : List Int) : Int := (rs.map fun r => r.m * cov r.n r.a r.b e).sum
theorem rgC_all {rs : List Rg} {e : List Int} (p : e.Pairwise (· < ·)) (h : ∀ r ∈ rs, r.a ≤ r.b ∧ r.a ∈ e ∧ r.b ∈ e) : rgC rs e = rgV rs := by
  unfold rgC rgV
  congr 1
  refine List.map_congr_left fun r hr => ?_
  obtain ⟨h1, h2, h3⟩ := h r hr
  rw [cov_all p h1 h2 h3]
/-- what one pair of edges brings -/
def rgP (rs : List Rg) (l h : Int) : Int := (rs.map fun r => if r.a ≤ l ∧ h ≤ r.b then r.m * sqr r.n l h else 0).sum
theorem rgC_cons {l h : Int} {e : List Int} : ∀ rs : List Rg, rgC rs (l :: h :: e) = rgP rs l h + rgC rs (h :: e)
  | [] => rfl
  | r :: rs => by
    have ih := rgC_cons (l := l) (h := h) (e := e) rs
    show r.m * ((if r.a ≤ l ∧ h ≤ r.b then sqr r.n l h else 0) + cov r.n r.a r.b (h :: e)) + rgC rs (l :: h :: e) = (if r.a ≤ l ∧ h ≤ r.b then r.m * sqr r.n l h else 0) + rgP rs l h + (r.m * cov r.n r.a r.b (h :: e) + rgC rs (h :: e))
    rw [ih, Int.mul_add]
    split
    · omega
    · rw [Int.mul_zero]; omega
theorem rgC_one {x : Int} : ∀ rs : List Rg, rgC rs [x] = 0
  | [] => rfl
  | r :: rs => by
    show r.m * 0 + rgC rs [x] = 0
    rw [rgC_one rs]
    omega
theorem rgC_nil : ∀ rs : List Rg, rgC rs [] = 0
  | [] => rfl
  | r :: rs => by
    show r.m * 0 + rgC rs [] = 0
    rw [rgC_nil rs]
    omega
theorem rgP_snoc (rs : List Rg) (r : Rg) (l h : Int) : rgP (rs ++ [r]) l h = rgP rs l h + if r.a ≤ l ∧ h ≤ r.b then r.m * sqr r.n l h else 0 := by
  unfold rgP
  rw [List.map_append, List.sum_append, List.map_singleton, List.sum_singleton]
/-- what is wanted: a number, how many times -/
def wV (g : Int → Int) (ws : List (Int × Int)) : Int := (ws.map fun x => x.2 * g x.1).sum
theorem wV_snoc (g : Int → Int) (ws : List (Int × Int)) (x : Int × Int) : wV g (ws ++ [x]) = wV g ws + x.2 * g x.1 := by
  unfold wV
  rw [List.map_append, List.sum_append, List.map_singleton, List.sum_singleton]
/-- the number's count m is added -/
def addW (ws : List (Int × Int)) (n m : Int) : List (Int × Int) := match ws with
  | [] => [(n, m)]
  | x :: r => if x.1 = n then (n, x.2 + m) :: r else x :: addW r n m
theorem addW_V (g : Int → Int) (n m : Int) : ∀ ws : List (Int × Int), wV g (addW ws n m) = wV g ws + m * g n
  | [] => by simp [addW, wV]
  | x :: r => by
    unfold addW
    by_cases c : x.1 = n
    · rw [if_pos c]
      show (x.2 + m) * g n + wV g r = x.2 * g x.1 + wV g r + m * g n
      rw [c, Int.add_mul]
      omega
    · rw [if_neg c]
      show x.2 * g x.1 + wV g (addW r n m) = x.2 * g x.1 + wV g r + m * g n
      rw [addW_V g n m r]
      omega
theorem addW_mem {n m : Int} {P : Int → Prop} (hn : P n) : ∀ {ws : List (Int × Int)}, (∀ x ∈ ws, P x.1) → ∀ x ∈ addW ws n m, P x.1
  | [], _, x, hx => by
    rw [show x = (n, m) from List.mem_singleton.mp hx]
    exact hn
  | y :: r, h, x, hx => by
    unfold addW at hx
    by_cases c : y.1 = n
    · rw [if_pos c] at hx
      rcases List.mem_cons.mp hx with z | z
      · rw [z]; exact hn
      · exact h x (List.mem_cons_of_mem y z)
    · rw [if_neg c] at hx
      rcases List.mem_cons.mp hx with z | z
      · rw [z]; exact h y List.mem_cons_self
      · exact addW_mem hn (fun z hz => h z (List.mem_cons_of_mem y hz)) x z
theorem addW_keys {n m : Int} : ∀ {ws : List (Int × Int)} {k : Int}, k ∈ (addW ws n m).map (·.1) ↔ k = n ∨ k ∈ ws.map (·.1)
  | [], k => by simp [addW]
  | x :: r, k => by
    unfold addW
    by_cases c : x.1 = n
    · rw [if_pos c, List.map_cons, List.map_cons, List.mem_cons, List.mem_cons, c]
      show k = n ∨ _ ↔ _
      exact ⟨fun h => h.elim .inl fun h => .inr (.inr h), fun h => h.elim .inl fun h => h.elim .inl .inr⟩
    · rw [if_neg c, List.map_cons, List.map_cons, List.mem_cons, List.mem_cons, addW_keys (ws := r)]
      exact ⟨fun h => h.elim (fun h => .inr (.inl h)) fun h => h.elim .inl fun h => .inr (.inr h), fun h => h.elim (fun h => .inr (.inl h)) fun h => h.elim .inl fun h => .inr (.inr h)⟩
theorem addW_nodup {n m : Int} : ∀ {ws : List (Int × Int)}, (ws.map (·.1)).Nodup → ((addW ws n m).map (·.1)).Nodup
  | [], _ => by simp [addW]
  | x :: r, h => by
    rw [List.map_cons, List.nodup_cons] at h
    unfold addW
    by_cases c : x.1 = n
    · rw [if_pos c, List.map_cons, List.nodup_cons]
      exact ⟨by rw [← c]; exact h.1, h.2⟩
    · rw [if_neg c, List.map_cons, List.nodup_cons, addW_keys]
      exact ⟨fun z => z.elim c h.1, addW_nodup h.2⟩
theorem addW_len {n m : Int} : ∀ ws : List (Int × Int), (addW ws n m).length ≤ ws.length + 1
  | [] => Nat.le_refl _
  | x :: r => by
    unfold addW
    have := addW_len (n := n) (m := m) r
    split
    · rw [List.length_cons, List.length_cons]; omega
    · rw [List.length_cons, List.length_cons]; omega
/-! ### equal numbers counted once -/
theorem once_one {g : Int → Int} {x : Int} : ∀ {d : List Int}, d.Nodup → x ∈ d → (d.map fun z => (if z = x then 1 else 0) * g z).sum = g x
  | [], _, m => by cases m
  | y :: r, nd, m => by
    rw [List.nodup_cons] at nd
    rw [List.map_cons, List.sum_cons]
    by_cases c : y = x
    · subst c
      rw [if_pos rfl, Int.one_mul]
      have z : (r.map fun z => (if z = y then (1 : Int) else 0) * g z).sum = 0 := by
        have : (r.map fun z => (if z = y then (1 : Int) else 0) * g z) = r.map fun _ => 0 := List.map_congr_left fun z hz => by
          rw [if_neg fun e => nd.1 (by rw [← e]; exact hz), Int.zero_mul]
        rw [this]
        clear this nd m
        induction r with
        | nil => rfl
        | cons _ r ih => rw [List.map_cons, List.sum_cons, ih]; rfl
      rw [z, Int.add_zero]
    · rw [if_neg c, Int.zero_mul, Int.zero_add]
      refine once_one nd.2 ?_
      rcases List.mem_cons.mp m with z | z
      · exact absurd z.symm c
      · exact z
theorem once_sum {g : Int → Int} {d : List Int} (nd : d.Nodup) : ∀ {ls : List Int}, (∀ x ∈ ls, x ∈ d) → (d.map fun z => (ls.count z : Int) * g z).sum = (ls.map g).sum
  | [], _ => by
    show (d.map fun z => ((0 : Nat) : Int) * g z).sum = 0
    clear nd
    rename_i h0
    clear h0
    induction d with
    | nil => rfl
    | cons x r ih => rw [List.map_cons, List.sum_cons, ih]; simp
  | x :: r, h => by
    have ih := once_sum (g := g) nd (ls := r) fun y hy => h y (List.mem_cons_of_mem x hy)
    rw [List.map_cons, List.sum_cons, ← ih, ← once_one (g := g) nd (h x List.mem_cons_self)]
    have e : (d.map fun z => ((x :: r).count z : Int) * g z) = d.map fun z => (if z = x then 1 else 0) * g z + (r.count z : Int) * g z := List.map_congr_left fun z _ => by
      rw [List.count_cons, ← Int.add_mul]
      congr 1
      by_cases c : z = x
      · subst c; simp; omega
      · have c2 : ¬ x = z := fun e => c e.symm
        rw [if_neg c]
        simp [c2]
    rw [e]
    clear e ih nd h
    induction d with
    | nil => rfl
    | cons y d ih => rw [List.map_cons, List.sum_cons, List.map_cons, List.sum_cons, List.map_cons, List.sum_cons, ih]; omega
/-! ### page counts -/
/-- the pages of the sizes from i on, below j -/
def tpN (ls : List Int) (i j : Int) : Int := (ls.length : Int) * (j - i) + (ls.map fun l => sqr (l - 1) i j).sum
theorem tpN_same (ls : List Int) (i : Int) : tpN ls i i = 0 := by
  unfold tpN
  rw [Int.sub_self, Int.mul_zero, Int.zero_add]
  induction ls with
  | nil => rfl
  | cons x r ih => rw [List.map_cons, List.sum_cons, sqr_same, ih]; rfl
theorem pages_one {l w : Int} (hw : 1 ≤ w) : (l + w - 1) / w = 1 + (l - 1) / w := by
  rw [show l + w - 1 = l - 1 + w * 1 by omega, Int.add_mul_ediv_left _ _ (by omega)]
  omega
theorem tpN_snoc {ls : List Int} {i j : Int} (h0 : 1 ≤ i) (h : i ≤ j) : tpN ls i (j + 1) = tpN ls i j + (ls.map fun l => (l + j - 1) / j).sum := by
  unfold tpN
  induction ls with
  | nil => simp
  | cons x r ih =>
    simp only [List.map_cons, List.sum_cons, List.length_cons] at ih ⊢
    rw [sqr_snoc h, pages_one (by omega)]
    push_cast at ih ⊢
    rw [Int.add_mul, Int.add_mul, Int.one_mul, Int.one_mul]
    omega
theorem tpN_join {ls : List Int} {i j k : Int} (h1 : i ≤ j) (h2 : j ≤ k) : tpN ls i j + tpN ls j k = tpN ls i k := by
  unfold tpN
  induction ls with
  | nil => simp
  | cons x r ih =>
    simp only [List.map_cons, List.sum_cons, List.length_cons] at ih ⊢
    rw [← sqr_join (n := x - 1) h1 h2]
    push_cast at ih ⊢
    rw [Int.add_mul, Int.add_mul, Int.add_mul, Int.one_mul, Int.one_mul, Int.one_mul]
    omega
theorem tpN_few {ls : List Int} {i j : Int} (h : ∀ x ∈ ls, 1 ≤ x ∧ x ≤ i) : tpN ls i j = (ls.length : Int) * (j - i) := by
  unfold tpN
  have : (ls.map fun l => sqr (l - 1) i j).sum = 0 := by
    induction ls with
    | nil => rfl
    | cons x r ih =>
      have a := h x List.mem_cons_self
      rw [List.map_cons, List.sum_cons, ih fun y hy => h y (List.mem_cons_of_mem x hy), sqr_zero (by omega) (by omega)]
      rfl
  rw [this, Int.add_zero]
/-- the law's whole sum -/
theorem tpN_whole {ls : List Int} {far : Int} : (ls.map fun l => far + sqr (l - 1) 1 (far + 1)).sum = tpN ls 1 (far + 1) := by
  unfold tpN
  induction ls with
  | nil => simp
  | cons x r ih =>
    simp only [List.map_cons, List.sum_cons, List.length_cons] at ih ⊢
    rw [ih]
    push_cast
    rw [Int.add_mul, Int.one_mul]
    omega
end WK08
namespace WK08
open PySem PySem.Spec PyProof.Rows L2
local macro_rules | `(tactic| walk_at "ne") => `(tactic| first | assumption | (apply Ne.symm; assumption) | exact ne_of_none (by assumption) (by assumption) | exact (ne_of_none (by assumption) (by assumption)).symm | exact ne_of_none upd_same (by assumption) | exact (ne_of_none upd_same (by assumption)).symm)
local macro_rules | `(tactic| walk_at "hp") => `(tactic| first | assumption | exact upd_same | (rw [upd_ne (by walk_at "ne")]; walk_at "hp"))
local macro_rules | `(tactic| walk_at "side") => `(tactic| first | omega | decide | assumption | exact ⟨by decide, by decide⟩ | exact ⟨by omega, by omega⟩ | exact .inl (by omega) | exact .inr (by omega) | exact .inl (by decide) | exact .inr (by decide) | exact ⟨by decide, by decide, by decide⟩ | exact ⟨by decide, by decide, by omega⟩ | exact .inl ⟨by omega, by omega⟩ | exact .inr ⟨by omega, by omega⟩ | exact .inr ⟨by decide, by decide⟩ | exact .inl ⟨by decide, by decide⟩ | (show _ < _; omega))
local macro_rules | `(tactic| walk_at "len") => `(tactic| ((try simp only [List.length_map, List.length_append, List.length_cons, List.length_nil, List.length_set, List.length_replicate]); omega))
local macro_rules | `(tactic| walk_at "sq") => `(tactic| first | assumption | exact HS.sq (by walk_at "hp"))
local macro_rules | `(tactic| walk_at "st") => `(tactic| first | assumption | exact HS.st (by walk_at "hp"))
local macro_rules | `(tactic| walk_at "h1") => `(tactic| first
  | with_reducible refine HS.seq ?_
  | with_reducible refine HS.asg ?_
  | with_reducible refine HS.nm ?_
  | with_reducible refine HS.var rfl ?_
  | with_reducible refine HS.cst ?_
  | with_reducible refine HS.op ?_
  | with_reducible refine HS.i0 ?_
  | ((with_reducible refine HS.i1 ?_); first | refine ⟨by walk_at "side", ?_⟩ | skip)
  | with_reducible refine HS.u0 ?_
  | with_reducible refine HS.un ?_
  | with_reducible refine HS.eqI ?_
  | with_reducible refine HS.neI ?_
  | with_reducible refine HS.tst ?_
  | with_reducible refine HS.tb1 ?_
  | with_reducible refine HS.bex ?_
  | with_reducible refine HS.ifs ?_
  | with_reducible refine HS.ife ?_
  | with_reducible refine HS.and ?_
  | with_reducible refine HS.or ?_
  | with_reducible refine HS.not ?_
  | with_reducible refine HS.andV ?_
  | with_reducible refine HS.orV ?_
  | with_reducible refine HS.notV ?_
  | with_reducible refine HS.chn ?_
  | with_reducible refine HS.ret ?_
  | with_reducible refine HS.retN ?_
  | with_reducible refine HS.drp ?_
  | with_reducible refine HS.cb ?_
  | with_reducible refine HS.anil ?_
  | with_reducible refine HS.acons ?_
  | with_reducible refine HS.cal ?_
  | with_reducible refine HS.tup ?_
  | with_reducible refine HS.lst ?_
  | with_reducible refine HS.par ?_
  | with_reducible refine HS.ex2 ?_
  | with_reducible refine HS.aug rfl ?_
  | with_reducible refine HS.ipi ?_
  | with_reducible refine HS.addI ?_
  | with_reducible refine HS.nxt ?_
  | with_reducible refine HS.brk ?_
  | with_reducible refine HS.cnt ?_
  | with_reducible refine HS.sub ?_
  | with_reducible refine HS.pnx ?_
  | with_reducible refine HS.prt ?_
  | with_reducible refine HS.pbk ?_
  | with_reducible refine HS.pct ?_
  | with_reducible refine iteF ?_
  | with_reducible refine iteT ?_
  | with_reducible refine HS.ii ?_
  | with_reducible refine HS.bmL ?_
  | with_reducible refine HS.bmL0 ?_
  | ((with_reducible refine' HS.tyL ?e ?_); case e => walk_at "hp")
  | ((with_reducible refine' HS.app ?e ?_); (case e => walk_at "hp"))
  | ((with_reducible refine' HS.setL ?e ?f ?_); (case e => walk_at "hp"); (case f => rfl))
  | ((with_reducible refine' HS.wp ?e ?_); case e => rfl)
  | ((with_reducible refine' HS.szc ?e ?_); case e => walk_at "len")
  | ((with_reducible refine' HS.szd ?e ?_); case e => walk_at "len")
  | with_reducible refine HS.yes ?_
  | with_reducible refine HS.lc ?_
  | with_reducible refine HS.rng1 ?_
  | with_reducible refine HS.rng2 ?_
  | with_reducible refine HS.rng3 ?_
  | with_reducible refine HS.lis ?_
  | with_reducible refine HS.fr ?_
  | with_reducible refine HS.i1e ?_
  | with_reducible refine HS.gthen ?_
  | with_reducible refine HS.g0 ?_
  | with_reducible refine HS.gfr ?_
  | with_reducible refine HS.gpl ?_
  | with_reducible refine HS.gyl ?_
  | with_reducible refine HS.lgn ?_
  | with_reducible refine HS.calg ?_
  | with_reducible refine HS.revL ?_
  | with_reducible refine HS.sl ?_
  | with_reducible refine HS.noP ?_
  | with_reducible refine HS.part ?_
  | with_reducible refine HS.ie ?_
  | ((with_reducible refine' HS.slLs ?e ?_); case e => walk_at "sq")
  | ((with_reducible refine' HS.gtup ?e ?f ?_); (case e => walk_at "st"); (case f => rfl))
  | with_reducible refine HS.gcons ?_
  | with_reducible refine HS.gnil ?_
  | with_reducible refine HS.itup ?_
  | with_reducible refine HS.ienu ?_
  | ((with_reducible refine' HS.cat ?e ?f ?_); (case e => walk_at "hp"); (case f => walk_at "hp"))
  | ((with_reducible refine' HS.ext ?e ?f ?_); (case e => walk_at "hp"); (case f => walk_at "hp"))
  | ((with_reducible refine' HS.sumL ?e ?_); case e => walk_at "sq")
  | ((with_reducible refine' HS.lenL ?e ?_); case e => walk_at "sq")
  | ((with_reducible refine' HS.lenT ?e ?_); case e => walk_at "st")
  | with_reducible refine HS.ra ?_
  | ((with_reducible refine' HS.ixL ?e ?f ?_); (case e => walk_at "sq"); (case f => rfl))
  | ((with_reducible refine' HS.ixT ?e ?f ?_); (case e => walk_at "st"); (case f => rfl)))
local macro_rules | `(tactic| walk_at "hs") => `(tactic| repeat' (walk_at "h1"))
local macro_rules | `(tactic| walk_at "fold") => `(tactic| (walk_at "hs"; assumption))
local macro_rules | `(tactic| walk_at "ns") => `(tactic| first | exact (fun z => z) | assumption | exact HS.nS2 (by walk_at "ne") (by walk_at "ne") | exact HS.nS3 (by walk_at "ne") (by walk_at "ne") (by walk_at "ne"))
local macro_rules | `(tactic| walk_at "kp") => `(tactic| first
  | assumption
  | exact HS.Keep.refl
  | (refine HS.Keep.at ?_ (by first | exact .inl rfl | exact .inr rfl | exact .inr (.inl rfl) | exact .inr (.inr rfl)); walk_at "kp")
  | (refine HS.Keep.put ?_ (by assumption); walk_at "kp")
  | (refine HS.Keep.new' (by assumption) (by first | assumption | exact HS.Keep.refl) (by walk_at "ns") ?_; walk_at "kp"))
local macro_rules | `(tactic| walk_at "h1") => `(tactic| first
  | with_reducible refine HS.dget ?_
  | with_reducible refine HS.dput ?_
  | with_reducible refine HS.daug ?_
  | ((with_reducible refine' HS.bgG ?e ?_); case e => walk_at "hp")
  | ((with_reducible refine' HS.bgL ?e ?_); case e => walk_at "hp")
  | ((with_reducible refine' HS.bgT ?e ?_); case e => walk_at "hp")
  | ((with_reducible refine' HS.bgB ?e ?_); case e => walk_at "hp")
  | ((with_reducible refine' HS.bagL ?e ?_); case e => walk_at "hp")
  | ((with_reducible refine' HS.bagT ?e ?_); case e => walk_at "hp"))
local macro_rules | `(tactic| walk_at "h1") => `(tactic| first
  | with_reducible refine HS.caln ?_
  | with_reducible refine HS.ckw ?_
  | with_reducible refine HS.izip ?_
  | with_reducible refine HS.orT ?_
  | with_reducible refine HS.srv ?_
  | with_reducible refine HS.nt ?_
  | with_reducible refine HS.nf ?_
  | ((with_reducible refine' HS.lnn ?e ?f ?_); (case e => rfl); (case f => rfl)))
local macro_rules | `(tactic| walk_at "h1") => `(tactic| first
  | with_reducible refine HS.dget ?_
  | with_reducible refine HS.dput ?_
  | with_reducible refine HS.dnin ?_
  | with_reducible refine HS.dnk ?_)
local macro_rules | `(tactic| walk_at "h1") => `(tactic| first
  | with_reducible refine HS.rngAA ?_
  | with_reducible refine HS.rr2 ?_
  | with_reducible refine HS.bts ?_
  | with_reducible refine HS.bt1 ?_
  | with_reducible refine HS.sc2 ?_)
def topS (i : Nat) : Stmt := PySem.Challenge.pw_pagecounts_k08_page_counts_added.main.body.getD i (.Pass ⟨0, 0, 0, 0⟩)
abbrev s_check_book : Stmt := topS 6
abbrev N_check_book : List Str := ["book", "index", "length"]
theorem sc_check_book : FnScope N_check_book ["book"] (defScope s_check_book) := ⟨rfl, rfl, rfl, by decide +kernel, rfl, by decide +kernel, by decide +kernel⟩
abbrev s_check_size : Stmt := topS 7
abbrev N_check_size : List Str := ["size"]
theorem sc_check_size : FnScope N_check_size ["size"] (defScope s_check_size) := ⟨rfl, rfl, rfl, by decide +kernel, rfl, by decide +kernel, by decide +kernel⟩
abbrev s_divide_alone : Stmt := topS 14
abbrev N_divide_alone : List Str := ["number", "start", "stop", "size"]
theorem sc_divide_alone : FnScope N_divide_alone ["number", "start", "stop"] (defScope s_divide_alone) := ⟨rfl, rfl, rfl, by decide +kernel, rfl, by decide +kernel, by decide +kernel⟩
abbrev s_divide_together : Stmt := topS 15
abbrev N_divide_together : List Str := ["numbers", "start", "stop", "greatest", "shift", "width", "places", "packed", "field", "mask", "above", "total", "size", "index", "place", "number"]
theorem sc_divide_together : FnScope N_divide_together ["numbers", "start", "stop"] (defScope s_divide_together) := ⟨rfl, rfl, rfl, by decide +kernel, rfl, by decide +kernel, by decide +kernel⟩
abbrev s_sum_wanted : Stmt := topS 13
abbrev N_sum_wanted : List Str := ["wanted", "start", "stop", "numbers", "sums", "number", "found"]
theorem sc_sum_wanted : FnScope N_sum_wanted ["wanted", "start", "stop"] (defScope s_sum_wanted) := ⟨rfl, rfl, rfl, by decide +kernel, rfl, by decide +kernel, by decide +kernel⟩
abbrev s_sum_ranges : Stmt := topS 12
abbrev N_sum_ranges : List Str := ["ranges", "start", "stop", "number", "many", "edges", "total", "low", "high", "wanted", "_", "edge"]
theorem sc_sum_ranges : FnScope N_sum_ranges ["ranges"] (defScope s_sum_ranges) := ⟨rfl, rfl, rfl, by decide +kernel, rfl, by decide +kernel, by decide +kernel⟩
abbrev s_sum_quotients : Stmt := topS 11
abbrev N_sum_quotients : List Str := ["numbers", "first", "last", "total", "ranges", "number", "many", "beyond", "least", "greatest"]
theorem sc_sum_quotients : FnScope N_sum_quotients ["numbers", "first", "last"] (defScope s_sum_quotients) := ⟨rfl, rfl, rfl, by decide +kernel, rfl, by decide +kernel, by decide +kernel⟩
abbrev s_total_pages : Stmt := topS 17
abbrev N_total_pages : List Str := ["book", "first", "last", "length"]
theorem sc_total_pages : FnScope N_total_pages ["book", "first", "last"] (defScope s_total_pages) := ⟨rfl, rfl, rfl, by decide +kernel, rfl, by decide +kernel, by decide +kernel⟩
abbrev s__law_bag : Stmt := topS 19
abbrev N__law_bag : List Str := ["script", "blend", "great", "cell"]
theorem sc__law_bag : FnScope N__law_bag ["script"] (defScope s__law_bag) := ⟨rfl, rfl, rfl, by decide +kernel, rfl, by decide +kernel, by decide +kernel⟩
abbrev s__law_draw : Stmt := topS 20
abbrev N__law_draw : List Str := ["bag", "many", "drawn", "turn", "mixed"]
theorem sc__law_draw : FnScope N__law_draw ["bag", "many"] (defScope s__law_draw) := ⟨rfl, rfl, rfl, by decide +kernel, rfl, by decide +kernel, by decide +kernel⟩
abbrev s__law_lengths : Stmt := topS 21
abbrev N__law_lengths : List Str := ["bag", "upto", "far", "found", "number", "many"]
theorem sc__law_lengths : FnScope N__law_lengths ["bag", "upto", "far"] (defScope s__law_lengths) := ⟨rfl, rfl, rfl, by decide +kernel, rfl, by decide +kernel, by decide +kernel⟩
abbrev s__law_great : Stmt := topS 22
abbrev N__law_great : List Str := ["bag"]
theorem sc__law_great : FnScope N__law_great ["bag"] (defScope s__law_great) := ⟨rfl, rfl, rfl, by decide +kernel, rfl, by decide +kernel, by decide +kernel⟩
abbrev s__law_needed : Stmt := topS 23
abbrev N__law_needed : List Str := ["chapters", "wide", "many"]
theorem sc__law_needed : FnScope N__law_needed ["chapters", "wide"] (defScope s__law_needed) := ⟨rfl, rfl, rfl, by decide +kernel, rfl, by decide +kernel, by decide +kernel⟩
abbrev s__law_by_pairs : Stmt := topS 24
abbrev N__law_by_pairs : List Str := ["many", "end", "root", "found", "wide", "quotient", "low", "high"]
theorem sc__law_by_pairs : FnScope N__law_by_pairs ["many", "end"] (defScope s__law_by_pairs) := ⟨rfl, rfl, rfl, by decide +kernel, rfl, by decide +kernel, by decide +kernel⟩
abbrev s_law : Stmt := topS 25
abbrev N_law : List Str := ["script", "bag", "turn", "chapters", "first_size", "last_size", "due", "greatest", "long", "far", "whole", "middle", "above", "wide", "many"]
theorem sc_law : FnScope N_law ["script"] (defScope s_law) := ⟨rfl, rfl, rfl, by decide +kernel, rfl, by decide +kernel, by decide +kernel⟩
structure Ad where
  a_check_book : Addr
  d_check_book : FuncData
  a_check_size : Addr
  d_check_size : FuncData
  a_divide_alone : Addr
  d_divide_alone : FuncData
  a_divide_together : Addr
  d_divide_together : FuncData
  a_sum_wanted : Addr
  d_sum_wanted : FuncData
  a_sum_ranges : Addr
  d_sum_ranges : FuncData
  a_sum_quotients : Addr
  d_sum_quotients : FuncData
  a_total_pages : Addr
  d_total_pages : FuncData
  a__law_bag : Addr
  d__law_bag : FuncData
  a__law_draw : Addr
  d__law_draw : FuncData
  a__law_lengths : Addr
  d__law_lengths : FuncData
  a__law_great : Addr
  d__law_great : FuncData
  a__law_needed : Addr
  d__law_needed : FuncData
  a__law_by_pairs : Addr
  d__law_by_pairs : FuncData
  a_law : Addr
  d_law : FuncData
structure Txt (K : PySem.W.Frag) (mg : Str → Option Value) (A : Ad) : Prop where
  F_check_book : Fun K "check_book" "check_book" s_check_book A.a_check_book A.d_check_book
  g_check_book : mg "check_book" = some (.ref A.a_check_book)
  b_check_book : Binds K A.d_check_book ["book"] []
  F_check_size : Fun K "check_size" "check_size" s_check_size A.a_check_size A.d_check_size
  g_check_size : mg "check_size" = some (.ref A.a_check_size)
  b_check_size : Binds K A.d_check_size ["size"] []
  F_divide_alone : Fun K "divide_alone" "divide_alone" s_divide_alone A.a_divide_alone A.d_divide_alone
  g_divide_alone : mg "divide_alone" = some (.ref A.a_divide_alone)
  b_divide_alone : Binds K A.d_divide_alone ["number", "start", "stop"] []
  F_divide_together : Fun K "divide_together" "divide_together" s_divide_together A.a_divide_together A.d_divide_together
  g_divide_together : mg "divide_together" = some (.ref A.a_divide_together)
  b_divide_together : Binds K A.d_divide_together ["numbers", "start", "stop"] []
  F_sum_wanted : Fun K "sum_wanted" "sum_wanted" s_sum_wanted A.a_sum_wanted A.d_sum_wanted
  g_sum_wanted : mg "sum_wanted" = some (.ref A.a_sum_wanted)
  b_sum_wanted : Binds K A.d_sum_wanted ["wanted", "start", "stop"] []
  F_sum_ranges : Fun K "sum_ranges" "sum_ranges" s_sum_ranges A.a_sum_ranges A.d_sum_ranges
  g_sum_ranges : mg "sum_ranges" = some (.ref A.a_sum_ranges)
  b_sum_ranges : Binds K A.d_sum_ranges ["ranges"] []
  F_sum_quotients : Fun K "sum_quotients" "sum_quotients" s_sum_quotients A.a_sum_quotients A.d_sum_quotients
  g_sum_quotients : mg "sum_quotients" = some (.ref A.a_sum_quotients)
  b_sum_quotients : Binds K A.d_sum_quotients ["numbers", "first", "last"] []
  F_total_pages : Fun K "total_pages" "total_pages" s_total_pages A.a_total_pages A.d_total_pages
  g_total_pages : mg "total_pages" = some (.ref A.a_total_pages)
  b_total_pages : Binds K A.d_total_pages ["book", "first", "last"] []
  F__law_bag : Fun K "_law_bag" "_law_bag" s__law_bag A.a__law_bag A.d__law_bag
  g__law_bag : mg "_law_bag" = some (.ref A.a__law_bag)
  b__law_bag : Binds K A.d__law_bag ["script"] []
  F__law_draw : Fun K "_law_draw" "_law_draw" s__law_draw A.a__law_draw A.d__law_draw
  g__law_draw : mg "_law_draw" = some (.ref A.a__law_draw)
  b__law_draw : Binds K A.d__law_draw ["bag", "many"] []
  F__law_lengths : Fun K "_law_lengths" "_law_lengths" s__law_lengths A.a__law_lengths A.d__law_lengths
  g__law_lengths : mg "_law_lengths" = some (.ref A.a__law_lengths)
  b__law_lengths : Binds K A.d__law_lengths ["bag", "upto", "far"] []
  F__law_great : Fun K "_law_great" "_law_great" s__law_great A.a__law_great A.d__law_great
  g__law_great : mg "_law_great" = some (.ref A.a__law_great)
  b__law_great : Binds K A.d__law_great ["bag"] []
  F__law_needed : Fun K "_law_needed" "_law_needed" s__law_needed A.a__law_needed A.d__law_needed
  g__law_needed : mg "_law_needed" = some (.ref A.a__law_needed)
  b__law_needed : Binds K A.d__law_needed ["chapters", "wide"] []
  F__law_by_pairs : Fun K "_law_by_pairs" "_law_by_pairs" s__law_by_pairs A.a__law_by_pairs A.d__law_by_pairs
  g__law_by_pairs : mg "_law_by_pairs" = some (.ref A.a__law_by_pairs)
  b__law_by_pairs : Binds K A.d__law_by_pairs ["many", "end"] []
  F_law : Fun K "law" "law" s_law A.a_law A.d_law
  g_law : mg "law" = some (.ref A.a_law)
  b_law : Binds K A.d_law ["script"] []
  z_abs : mg "abs" = none
  z_enumerate : mg "enumerate" = none
  z_len : mg "len" = none
  z_list : mg "list" = none
  z_max : mg "max" = none
  z_min : mg "min" = none
  z_range : mg "range" = none
  z_repr : mg "repr" = none
  z_set : mg "set" = none
  z_sorted : mg "sorted" = none
  z_sum : mg "sum" = none
  z_zip : mg "zip" = none
  y_isqrt : mg "isqrt" = some (.builtin "math.isqrt")
  kb_total_pages_0_last_first_book : HS.KBX K A.d_total_pages ["book", "first", "last"] 0 ["last", "first", "book"] (fun us ws => [ws.getD 2 .none, ws.getD 1 .none, ws.getD 0 .none]) (fun vs zs => [zs.getD 2 .non, zs.getD 1 .non, zs.getD 0 .non])
  v_FEW_DIVISIONS : ∃ t : PySem.Tok, mg "FEW_DIVISIONS" = some (.int 500 t)
  v_FEW_NUMBERS : ∃ t : PySem.Tok, mg "FEW_NUMBERS" = some (.int 3 t)
open HS in
/-- the bag of draws -/
def Bag (H : Hp) (s d : Addr) (n : Nat) : Prop := s ≠ d ∧ ∃ (gs : List Int) (l c m : Int), H s = some (.dK (cells d l c m)) ∧ H d = some (.lst (gs.map V.int)) ∧ (∀ x ∈ gs, 0 ≤ x) ∧ gs.length ≤ 63 ∧ 0 ≤ l ∧ 0 ≤ m ∧ m < 2 ^ 61 ∧ 0 ≤ c ∧ c ≤ n
/-- the law's bag, its dict and its list as two of the objects told -/
def BagO (d : Addr) (n : Nat) : HO → Prop := fun o => ∃ l c m : Int, o = .dK (HS.cells d l c m) ∧ 0 ≤ l ∧ 0 ≤ m ∧ m < 2 ^ 61 ∧ 0 ≤ c ∧ c ≤ n
def GreatO : HO → Prop := fun o => ∃ gs : List Int, o = .lst (gs.map V.int) ∧ (∀ x ∈ gs, 0 ≤ x) ∧ gs.length ≤ 63
section
variable {H0 H H' : Hp} {S : Addr → Prop} {l : HS.WdL} {s d : Addr} {n m i j : Nat}
theorem bag_o (h : Bag H s d n) : (∃ o, H s = some o ∧ BagO d n o) ∧ ∃ o, H d = some o ∧ GreatO o := by
  obtain ⟨_, gs, l, c, m, h1, h2, h3, h4, h5, h6, h7, h8, h9⟩ := h
  exact ⟨⟨_, h1, l, c, m, rfl, h5, h6, h7, h8, h9⟩, _, h2, gs, rfl, h3, h4⟩
theorem wd_bag (h : Bag H s d n) (hs : S s) (hd : S d) : HS.Wd H H S [(s, BagO d n), (d, GreatO)] := by
  have hne := h.1
  obtain ⟨⟨o, h1, h2⟩, u, h3, h4⟩ := bag_o h
  exact (HS.Wd.one h1 h2 hs).old h3 h4 hd fun x hx => by rw [List.mem_singleton.mp hx]; exact hne
theorem _root_.HS.Wd.bag (W : HS.Wd H0 H S l) (i j : Nat) (e : l[i]? = some (s, BagO d n)) (f : l[j]? = some (d, GreatO)) : Bag H s d n := by
  obtain ⟨o, h, a, b, c, rfl, h2⟩ := W.get i e
  obtain ⟨u, h3, gs, rfl, h4, h5⟩ := W.get j f
  refine ⟨fun z => ?_, gs, a, b, c, h, h3, h4, h5, h2⟩
  rw [z, h3] at h
  cases h
theorem _root_.HS.Wd.bup (W : HS.Wd H0 H S l) (i : Nat) (e : l[i]? = some (s, BagO d n)) (h : n ≤ m) : HS.Wd H0 H S (l.set i (s, BagO d m)) :=
  W.weak i e fun o ⟨a, b, c, h1, h2, h3, h4, h5, h6⟩ => ⟨a, b, c, h1, h2, h3, h4, h5, by omega⟩
theorem _root_.HS.Wd.bagged (W : HS.Wd H0 H S l) (i j : Nat) (e : l[i]? = some (s, BagO d n)) (f : l[j]? = some (d, GreatO)) (k : HS.Keep (fun a => a = s ∨ a = d) H H') (b : Bag H' s d m) (h : n ≤ m) : HS.Wd H0 H' S (l.set i (s, BagO d m)) := by
  have W1 := W.bup i e h
  have hi : i < l.length := (List.getElem?_eq_some_iff.mp e).1
  have hij : i ≠ j := fun z => by
    subst z
    rw [e] at f
    have := congrArg Prod.fst (Option.some.inj f)
    exact (W.bag i i e (by rw [e]; exact f)).1 this
  have e1 : (l.set i (s, BagO d m))[i]? = some (s, BagO d m) := by rw [List.getElem?_set_self hi]
  have f1 : (l.set i (s, BagO d m))[j]? = some (d, GreatO) := by rw [List.getElem?_set_ne hij]; exact f
  obtain ⟨bs, bd⟩ := bag_o b
  refine W1.chgs k (fun a ha => ?_) fun x hx => ?_
  · rcases ha with z | z
    · rw [z]; exact W.fr _ (List.mem_of_getElem? e)
    · rw [z]; exact W.fr _ (List.mem_of_getElem? f)
  · obtain ⟨q, hq⟩ := List.getElem?_of_mem hx
    by_cases z1 : x.1 = s
    · by_cases w : i = q
      · rw [← w, e1] at hq
        cases hq
        exact .inr bs
      · exact absurd z1.symm (HS.nd_ne W1.nd e1 (show _ = some (x.1, x.2) from hq) w)
    · by_cases z2 : x.1 = d
      · by_cases w : j = q
        · rw [← w, f1] at hq
          cases hq
          exact .inr bd
        · exact absurd z2.symm (HS.nd_ne W1.nd f1 (show _ = some (x.1, x.2) from hq) w)
      · exact .inl fun z => z.elim z1 z2
end
section
variable {K : PySem.W.Frag} {H0 H H1 H' : Hp} {S : Addr → Prop} {l : HS.WdL} {p o : Addr} {xs : List V} {Q : VK}
theorem _root_.HS.Wd.st (W : HS.Wd H0 H S l) (i : Nat) (e : l[i]? = some (p, Eq (.tup xs))) : SqT K H p xs := .inl (.inl (W.at i e))
theorem _root_.HS.ixTI {i : Int} (ns : List Int) (h : SqT K H p (ns.map V.int)) (h0 : 0 ≤ i) (h1 : i < ns.length) (q : ∀ z, ns[i.toNat]? = some z → z ∈ ns → Q (.int z) H) : rIxT K (.ref p) (.int i) H Q := by
  have hi : i.toNat < ns.length := by omega
  have e : ns[i.toNat]? = some ns[i.toNat] := List.getElem?_eq_getElem hi
  exact ⟨p, ns.map V.int, i, .int ns[i.toNat], rfl, rfl, h, at_of (j := i.toNat) (by omega) (by rw [List.getElem?_map, e]; rfl), q _ e (List.getElem_mem hi)⟩
theorem keep_two (k : HS.Keep S H H1) (k2 : HS.Keep (fun a => a = o ∨ a = p) H1 H') (ho : H o = none) (hp : H p = none) : HS.Keep S H H' := fun a u e n => k2 a u (k a u e n) fun z => by
  rcases z with z | z
  · rw [z, ho] at e; cases e
  · rw [z, hp] at e; cases e
end

section
variable {P : Program} {w : World} {K : PySem.W.Frag} {mg : Str → Option Value} {base : Heap} {A : Ad}
def sp_check_book (K : PySem.W.Frag) : Sp := fun vs H Q _ => ∃ (b : Addr) (ls : List Int), vs = [.ref b] ∧ (SqL K H b (ls.map V.int) ∧ (∀ x ∈ ls, 1 ≤ x) ∧ ∀ H', HS.Keep (fun _ => False) H H' → Q .non H')
theorem ok_check_book (T : Txt K mg A) : FnOk P w K mg base CX0 1 A.a_check_book A.d_check_book ["book"] (sp_check_book K) := by
  refine T.F_check_book.ok sc_check_book (fun vs H Q E h => ?_) (fun cdv A0 outer s H vs Q E hr h => ?_)
  · obtain ⟨b, ls, rfl, hw⟩ := h
    rfl
  · obtain ⟨b, ls, rfl, hw⟩ := h
    refine ⟨_, (pss_one (ps_for PassesOwn.never rfl (HS.kien K (pi_enum (by rfl) T.z_enumerate (pa_cons (pv 0) pa_nil))) (HS.kgt K (pg_tup rfl (pgs_cons (pg_name (i := 1) sc_check_book.nd rfl (.inl rfl)) (pgs_cons (pg_name (i := 2) sc_check_book.nd rfl (.inl rfl)) pgs_nil))))
      (pss_one (ps_if (pt_cmpR op_lt (pv 2) pe_int (nomark _))
      (pss_one ps_never)
      pss_nil)))), ?_⟩
    obtain ⟨hb, hl, k⟩ := hw
    walk_at "hs"
    refine ⟨b, ls.map V.int, rfl, hb, for_it walk_enum (fun i σ H' => HS.Keep (fun _ => False) H H' ∧ ∃ x1 x2, σ = [some (.ref b), x1, x2]) ⟨.refl, _, _, rfl⟩ (fun i σ H' _ ⟨K', _⟩ => K'.sq hb id) ?_ ?_⟩
    · rintro i x σ H1 H2 hi ⟨K1, x1, x2, rfl⟩ ⟨T1, u, v, rfl, hT, rfl, e1, e2⟩
      cases e1
      obtain ⟨z, rfl, hz, _⟩ := HS.get_int e2
      have hz1 := hl z (List.mem_of_getElem? hz)
      walk_at "hs"
      refine HS.it0 (by omega) ?_
      walk_at "hs"
      exact ⟨K1.put (K1.free hT id), _, _, rfl⟩
    · rintro σ H1 ⟨K1, x1, x2, rfl⟩
      walk_at "hs"
      exact k _ K1
def sp_check_size (K : PySem.W.Frag) : Sp := fun vs H Q _ => ∃ (j : Int), vs = [.int j] ∧ (1 ≤ j ∧ Q .non H)
theorem ok_check_size (T : Txt K mg A) : FnOk P w K mg base CX0 1 A.a_check_size A.d_check_size ["size"] (sp_check_size K) := by
  refine T.F_check_size.ok sc_check_size (fun vs H Q E h => ?_) (fun cdv A0 outer s H vs Q E hr h => ?_)
  · obtain ⟨j, rfl, hw⟩ := h
    rfl
  · obtain ⟨j, rfl, hw⟩ := h
    refine ⟨_, (pss_one (ps_if (pt_cmpR op_lt (pv 0) pe_int (nomark _))
      (pss_one ps_never)
      pss_nil)), ?_⟩
    obtain ⟨h, k⟩ := hw
    walk_at "hs"
    refine HS.it0 (by omega) ?_
    walk_at "hs"
    exact k
def sp_divide_alone (K : PySem.W.Frag) : Sp := fun vs H Q _ => ∃ (n a b : Int), vs = [.int n, .int a, .int b] ∧ (0 ≤ n ∧ n < 2 ^ 40 ∧ 1 ≤ a ∧ a < 2 ^ 110 ∧ b < 2 ^ 110 ∧ b - a ≤ 100000 ∧ ∀ H' v, HS.Keep (fun _ => False) H H' → v = sqr n a b → 0 ≤ v → v < 2 ^ 60 → Q (.int v) H')
theorem ok_divide_alone (T : Txt K mg A) : FnOk P w K mg base CX0 1 A.a_divide_alone A.d_divide_alone ["number", "start", "stop"] (sp_divide_alone K) := by
  refine T.F_divide_alone.ok sc_divide_alone (fun vs H Q E h => ?_) (fun cdv A0 outer s H vs Q E hr h => ?_)
  · obtain ⟨n, a, b, rfl, hw⟩ := h
    rfl
  · obtain ⟨n, a, b, rfl, hw⟩ := h
    refine ⟨_, (pss_one (ps_ret (pe_callB (HS.ksum K rfl) (by rfl) T.z_sum (by decide +kernel) (pa_cons (pe_lc (own := [("size", 3)]) (g := gName 3) (tt := tYes) rfl sc_divide_alone.nd (HS.pi_rangeA (by rfl) T.z_range (pa_cons (pv 1) (pa_cons (pv 2) pa_nil))) (blkOk_by (own := [("size", 3)]) (N := N_divide_alone) (sc := defScope s_divide_alone) (by decide +kernel)) (fun _ _ _ _ _ => pg_name (i := 3) sc_divide_alone.nd rfl (by first | exact .inl rfl | exact .inr rfl)) (fun _ _ _ _ _ => pts_nil) (fun _ _ _ _ _ => (pe_op op_fdivW (pv 0) (pv 3)))) pa_nil)))), ?_⟩
    obtain ⟨n0, n1, a0, a1, b1, ab, k⟩ := hw
    walk_at "hs"
    refine fun D hD => lc_range (lo := a) (n := (b - a).toNat) (fun i H' => HS.Keep (fun _ => False) H H' ∧ ∃ xs : List Int, xs.length = i ∧ xs.sum = sq n a i ∧ H' D = some (.lst (xs.map V.int))) ⟨.new hD, [], rfl, rfl, upd_same⟩ ?_ ?_
    · rintro i H1 hi ⟨K1, xs, hx, hX, h1⟩
      walk_at "hs"
      refine ⟨HS.divW 120 (by omega) (by omega) (by decide) (by decide), ?_⟩
      walk_at "hs"
      refine ⟨_, h1, HS.sz (by rw [List.length_map]; omega), K1.put hD, xs ++ [n / (a + (i : Int))], by simp [hx], ?_, ?_⟩
      · rw [List.sum_append, List.sum_singleton, hX, sq_succ]
      · rw [upd_same, List.map_append]
        rfl
    · rintro H1 ⟨K1, xs, hx, hX, h1⟩
      walk_at "hs"
      rw [hX]
      have s0 := sqr_nonneg (b := b) n0 (show 0 ≤ a by omega)
      have s1 := sqr_le (b := b) n0 a0
      have : (((b - a).toNat : Nat) : Int) * n ≤ 100000 * n := Int.mul_le_mul_of_nonneg_right (by omega) n0
      exact k _ _ K1 rfl s0 (by unfold sqr at s1; show sq n a (b - a).toNat < _; omega)
theorem bits_lt {x : Int} (h : 0 ≤ x) : x < 2 ^ Builtin.Int.intBits x := by
  have e := intBits_le_iff.mp (Nat.le_refl (Builtin.Int.intBits x))
  have := pw_nat (Builtin.Int.intBits x)
  omega
theorem pw_mono {m n : Nat} (h : m ≤ n) : (2 : Int) ^ m ≤ 2 ^ n := by
  have := Nat.pow_le_pow_right (show 0 < 2 by decide) h
  have := pw_nat m
  have := pw_nat n
  omega
theorem pk_none {W s : Nat} {a : Int} : ∀ ns : List Int, pk W (ns.map fun n => 2 ^ s * sq n a 0) = 0
  | [] => rfl
  | n :: r => by
    show 2 ^ s * sq n a 0 + 2 ^ W * pk W (r.map fun n => 2 ^ s * sq n a 0) = 0
    rw [pk_none r, sq_0, Int.mul_zero, Int.mul_zero]
    rfl
theorem band_mod {w : Nat} {x : Int} (h : 0 ≤ x) : Builtin.bitAnd x (2 ^ w - 1) = x % 2 ^ w := by
  have p := pw_pos w
  have q := pw_nat w
  rw [band_nn h (by omega), show ((2 : Int) ^ w - 1).toNat = 2 ^ w - 1 by omega, Nat.and_two_pow_sub_one_eq_mod]
  obtain ⟨n, rfl⟩ := Int.eq_ofNat_of_zero_le h
  rw [← q]
  rfl
theorem bits_le {x : Int} {k : Nat} (h : 0 ≤ x) (l : x < 2 ^ k) : Builtin.Int.intBits x ≤ k := by
  refine intBits_le_iff.mpr ?_
  have := pw_nat k
  omega
def sp_divide_together (K : PySem.W.Frag) : Sp := fun vs H Q _ => ∃ (p : Addr) (ns : List Int) (a b : Int), vs = [.ref p, .int a, .int b] ∧ (H p = some (.lst (ns.map V.int)) ∧ (∀ n ∈ ns, 0 ≤ n ∧ n < 2 ^ 40) ∧ ns ≠ [] ∧ ns.length ≤ 20 ∧ 1 ≤ a ∧ a ≤ b ∧ b ≤ 100001 ∧ ∀ H' q, HS.Keep (fun _ => False) H H' → H q = none → H' q = some (.lst ((ns.map fun n => sqr n a b).map V.int)) → Q (.ref q) H')
theorem ok_divide_together (T : Txt K mg A) : FnOk P w K mg base CX0 1 A.a_divide_together A.d_divide_together ["numbers", "start", "stop"] (sp_divide_together K) := by
  refine T.F_divide_together.ok sc_divide_together (fun vs H Q E h => ?_) (fun cdv A0 outer s H vs Q E hr h => ?_)
  · obtain ⟨p, ns, a, b, rfl, hw⟩ := h
    rfl
  · obtain ⟨p, ns, a, b, rfl, hw⟩ := h
    refine ⟨_, (pss_cons (ps_set (i := 3) sc_divide_together.nd rfl (.inl rfl) (pe_callB (HS.kmax K rfl) (by rfl) T.z_max (by decide +kernel) (pa_cons (pv 0) pa_nil)))
    (pss_cons (ps_set (i := 4) sc_divide_together.nd rfl (.inr rfl) (pe_bits (pe_op op_mulW (pv 3) (pv 2))))
    (pss_cons (ps_set (i := 5) sc_divide_together.nd rfl (.inr rfl) (pe_bits (pe_op op_mulW (pv 3) (pe_bits (pv 2)))))
    (pss_cons (ps_setLc (i := 6) (own := [("index", 13)]) (g := gName 13) (tt := tYes) rfl sc_divide_together.nd rfl rfl (sw_true rfl rfl rfl (by decide +kernel)) (pi_range1 (by rfl) T.z_range (pa_cons (pe_callB (HS.klen K) (by rfl) T.z_len PySem.boot_len (pa_cons (pv 0) pa_nil)) pa_nil)) (blkOk_by (own := [("index", 13)]) (N := N_divide_together) (sc := defScope s_divide_together) (by decide +kernel)) (fun _ _ _ _ _ => pg_name (i := 13) sc_divide_together.nd rfl (by first | exact .inl rfl | exact .inr rfl)) (fun _ _ _ _ _ => pts_nil) (fun _ _ _ _ _ => (pe_op op_mulW (pv 13) (pe_op op_add (pv 4) (pv 5)))))
    (pss_cons (ps_set (i := 7) sc_divide_together.nd rfl (.inl rfl) (pe_callB (HS.ksum K rfl) (by rfl) T.z_sum (by decide +kernel) (pa_cons (pe_lc (own := [("number", 15), ("place", 14)]) (g := gTup K 2 (gCons (gName 15) (gCons (gName 14) gNil))) (tt := tYes) rfl sc_divide_together.nd (HS.kiz K (pi_zip (by rfl) T.z_zip (pa_cons (pv 0) (pa_cons (pv 6) pa_nil)))) (blkOk_by (own := [("number", 15), ("place", 14)]) (N := N_divide_together) (sc := defScope s_divide_together) (by decide +kernel)) (fun _ _ _ _ _ => HS.kgt K (pg_tup rfl (pgs_cons (pg_name (i := 15) sc_divide_together.nd rfl (by first | exact .inl rfl | exact .inr rfl)) (pgs_cons (pg_name (i := 14) sc_divide_together.nd rfl (by first | exact .inl rfl | exact .inr rfl)) pgs_nil)))) (fun _ _ _ _ _ => pts_nil) (fun _ _ _ _ _ => (pe_op op_shlN (pv 15) (pv 14)))) pa_nil)))
    (pss_cons (ps_set (i := 8) sc_divide_together.nd rfl (.inr rfl) (pe_op op_sub (pe_op op_shlN pe_int (pv 5)) pe_int))
    (pss_cons (ps_set (i := 9) sc_divide_together.nd rfl (.inl rfl) (pe_callB (HS.ksum K rfl) (by rfl) T.z_sum (by decide +kernel) (pa_cons (pe_lc (own := [("place", 14)]) (g := gName 14) (tt := tYes) rfl sc_divide_together.nd (HS.kil K (pi_list (pv 6))) (blkOk_by (own := [("place", 14)]) (N := N_divide_together) (sc := defScope s_divide_together) (by decide +kernel)) (fun _ _ _ _ _ => pg_name (i := 14) sc_divide_together.nd rfl (by first | exact .inl rfl | exact .inr rfl)) (fun _ _ _ _ _ => pts_nil) (fun _ _ _ _ _ => (pe_op op_shlN (pv 8) (pe_op op_add (pv 14) (pv 4))))) pa_nil)))
    (pss_cons (ps_set (i := 10) sc_divide_together.nd rfl (.inl rfl) (pe_op op_add (pe_op op_shlN pe_int (pv 4)) (pv 2)))
    (pss_cons (ps_set (i := 11) sc_divide_together.nd rfl (.inr rfl) pe_int)
    (pss_cons (ps_for PassesOwn.never rfl (pi_range2 (by rfl) T.z_range (pa_cons (pv 1) (pa_cons (pv 2) pa_nil))) (pg_name (i := 12) sc_divide_together.nd rfl (.inl rfl))
      (pss_one (ps_set (i := 11) sc_divide_together.nd rfl (.inr rfl) (pe_op op_add (pv 11) (pe_op op_and (pe_op op_mulW (pv 7) (pe_op op_fdivW (pv 10) (pv 12))) (pv 9))))))
    (pss_one (ps_ret (pe_lc (own := [("place", 14)]) (g := gName 14) (tt := tYes) rfl sc_divide_together.nd (HS.kil K (pi_list (pv 6))) (blkOk_by (own := [("place", 14)]) (N := N_divide_together) (sc := defScope s_divide_together) (by decide +kernel)) (fun _ _ _ _ _ => pg_name (i := 14) sc_divide_together.nd rfl (by first | exact .inl rfl | exact .inr rfl)) (fun _ _ _ _ _ => pts_nil) (fun _ _ _ _ _ => (pe_op op_and (pe_op op_shrN (pv 11) (pe_op op_add (pv 14) (pv 4))) (pv 8)))))))))))))))), ?_⟩
    obtain ⟨hp, hN, hne, hl, a0, ab, b1, k⟩ := hw
    walk_at "hs"
    refine ⟨p, ns, rfl, HS.sq hp, List.length_pos_iff.mpr hne, fun G hG hM => ?_⟩
    have hG0 := hN G hG
    have hB := bits_lt (x := b) (by omega)
    have hB17 : Builtin.Int.intBits b ≤ 17 := bits_le (by omega) (by show b < 131072; omega)
    have m1 : 0 ≤ G * b := Int.mul_nonneg hG0.1 (by omega)
    have m2 : G * b < 2 ^ 57 := Int.lt_of_le_of_lt (Int.mul_le_mul_of_nonneg_left (show b ≤ 2 ^ 17 by omega) hG0.1) (by omega)
    walk_at "hs"
    refine ⟨HS.mulW 40 17 hG0.1 hG0.2 (by omega) (by omega) (by decide) (by decide) (by decide), ?_⟩
    walk_at "hs"
    generalize Builtin.Int.intBits b = B at hB hB17 ⊢
    have m3 : 0 ≤ G * (B : Nat) := Int.mul_nonneg hG0.1 (by omega)
    have m4 : G * (B : Nat) < 2 ^ 45 := Int.lt_of_le_of_lt (Int.mul_le_mul_of_nonneg_left (show (B : Int) ≤ 2 ^ 5 by omega) hG0.1) (by omega)
    have hs0 := bits_lt m1
    have hs1 := bits_le m1 m2
    have hw0 := bits_lt m3
    have hw1 := bits_le m3 m4
    refine ⟨HS.mulW 40 17 hG0.1 hG0.2 (by omega) (by omega) (by decide) (by decide) (by decide), ?_⟩
    walk_at "hs"
    generalize Builtin.Int.intBits (G * b) = s at hs0 hs1 ⊢
    generalize Builtin.Int.intBits (G * (B : Nat)) = w at hw0 hw1 ⊢
    rw [List.length_map]
    refine ⟨by omega, by omega, fun P hP => lc_range (lo := 0) (n := ns.length) (fun i H' => HS.Keep (fun _ => False) H H' ∧ H' P = some (.lst (((List.range i).map fun j => ((j * (s + w) : Nat) : Int)).map V.int))) ⟨.new hP, upd_same⟩ ?_ ?_⟩
    · rintro i H1 hi ⟨K1, h1⟩
      walk_at "hs"
      refine ⟨HS.mulW 10 20 (by omega) (by omega) (by omega) (by omega) (by decide) (by decide) (by decide), ?_⟩
      walk_at "hs"
      refine ⟨_, h1, HS.sz (by simp; omega), K1.put hP, ?_⟩
      have e : (0 + (i : Int)) * ((s : Int) + (w : Int)) = ((i * (s + w) : Nat) : Int) := by push_cast; rw [Int.zero_add]
      rw [upd_same, List.range_succ, List.map_append, List.map_append, e]
      rfl
    · rintro H1 ⟨K1, h1⟩
      have hp1 := K1 _ _ hp id
      have nP : ∀ {i : Nat} {x : V}, (((List.range ns.length).map fun j => ((j * (s + w) : Nat) : Int)).map V.int)[i]? = some x → x = .int ((i * (s + w) : Nat) : Int) ∧ i < ns.length := fun {i x} e => by
        rw [List.getElem?_map, List.getElem?_map] at e
        have l : i < ns.length := by
          rcases Nat.lt_or_ge i ns.length with l | l
          · exact l
          · rw [List.getElem?_eq_none (by rw [List.length_range]; exact l)] at e
            cases e
        rw [List.getElem?_range l] at e
        exact ⟨(Option.some.inj e).symm, l⟩
      have lP : (((List.range ns.length).map fun j => ((j * (s + w) : Nat) : Int)).map V.int).length = ns.length := by simp
      generalize (((List.range ns.length).map fun j => ((j * (s + w) : Nat) : Int)).map V.int) = ps at h1 nP lP
      walk_at "hs"
      refine ⟨p, P, _, _, rfl, HS.sq hp1, HS.sq h1, fun D hD => lc_it (walk_zip (n := ns.length) (by rw [lP, List.length_map, Nat.min_self])) (fun i H' => HS.Keep (fun _ => False) H1 H' ∧ ∃ xs : List Int, xs.length = i ∧ xs.sum = pk (s + w) (ns.take i) ∧ H' D = some (.lst (xs.map V.int))) ⟨.new hD, [], rfl, rfl, upd_same⟩ (fun i H' _ ⟨K', _⟩ => ⟨HS.sq (K' _ _ hp1 id), HS.sq (K' _ _ h1 id)⟩) ?_ ?_⟩
      · rintro i x H2 H3 hi ⟨K2, xs, hx, hX, h2⟩ ⟨T1, u, v, rfl, hT, rfl, e1, e2⟩
        obtain ⟨z, rfl, hz, _⟩ := HS.get_int e1
        obtain ⟨rfl, _⟩ := nP e2
        have hz0 := hN z (List.mem_of_getElem? hz)
        walk_at "hs"
        refine ⟨z, i * (s + w), rfl, rfl, shl_ok (n := 40) (by have := hz0.2; have := hz0.1; omega) (by have : i * (s + w) ≤ 20 * 102 := Nat.mul_le_mul (by omega) (by omega); omega), ?_⟩
        refine ⟨_, by rw [upd_ne (ne_of_none h2 hT)]; exact h2, HS.sz (by rw [List.length_map]; omega), (K2.nw hT).put hD, xs ++ [z * 2 ^ (i * (s + w))], by simp [hx], ?_, ?_⟩
        · rw [List.sum_append, List.sum_singleton, hX, List.take_add_one, hz]
          show _ = pk (s + w) (ns.take i ++ [z])
          rw [pk_snoc, List.length_take, Nat.min_eq_left (Nat.le_of_lt hi)]
        · rw [upd_same, List.map_append]
          rfl
      · rintro H2 ⟨K2, xs, hx, hX, h2⟩
        rw [List.take_length] at hX
        have hP2 := K2 _ _ h1 id
        have pw0 := pw_pos w
        have pw1 : (2 : Int) ^ w ≤ 2 ^ 45 := by
          have := Nat.pow_le_pow_right (show 0 < 2 by decide) hw1
          have := pw_nat w
          have : (2 : Nat) ^ 45 = 35184372088832 := by decide
          omega
        walk_at "hs"
        rw [hX]
        refine ⟨1, w, rfl, rfl, shl_ok (n := 1) (by decide) (by omega), ?_⟩
        generalize hf : (1 * 2 ^ w : Int) = fd
        rw [Int.one_mul] at hf
        walk_at "hs"
        refine ⟨⟨_, HS.sq hP2⟩, fun E1 hE1 => lc_list (xs := ps) (fun i H' => HS.Keep (fun _ => False) H2 H' ∧ ∃ ys : List Int, ys.length = i ∧ ys.sum = pk (s + w) ((ns.take i).map fun _ => 2 ^ s * (2 ^ w - 1)) ∧ H' E1 = some (.lst (ys.map V.int))) ⟨.new hE1, [], rfl, rfl, upd_same⟩ (fun i H' _ ⟨K', _⟩ => HS.sq (K' _ _ hP2 id)) ?_ ?_⟩
        · rintro i x H3 hi ⟨K3, ys, hy, hY, h3⟩
          obtain ⟨rfl, hil⟩ := nP hi
          have hz : ns[i]? = some ns[i] := List.getElem?_eq_getElem hil
          walk_at "hs"
          refine ⟨fd - 1, i * (s + w) + s, rfl, by push_cast; rfl, shl_ok (n := 46) (by omega) (by have : i * (s + w) ≤ 20 * 102 := Nat.mul_le_mul (by omega) (by omega); omega), ?_⟩
          refine ⟨_, h3, HS.sz (by rw [List.length_map]; omega), K3.put hE1, ys ++ [(fd - 1) * 2 ^ (i * (s + w) + s)], by simp [hy], ?_, ?_⟩
          · rw [List.sum_append, List.sum_singleton, hY, List.take_add_one, hz]
            show _ = pk (s + w) ((ns.take i ++ [ns[i]]).map fun _ => 2 ^ s * (2 ^ w - 1))
            rw [List.map_append]
            show _ = pk (s + w) ((ns.take i).map (fun _ => 2 ^ s * (2 ^ w - 1)) ++ [2 ^ s * (2 ^ w - 1)])
            rw [pk_snoc, List.length_map, List.length_take, Nat.min_eq_left (Nat.le_of_lt hil), ← hf, Int.pow_add, Int.mul_comm (2 ^ s) (2 ^ w - 1), Int.mul_assoc, Int.mul_comm (2 ^ s)]
          · rw [upd_same, List.map_append]
            rfl
        · rintro H3 ⟨K3, ys, hy, hY, h3⟩
          rw [List.take_of_length_le (by omega)] at hY
          have hP3 := K3 _ _ hP2 id
          walk_at "hs"
          rw [hY]
          refine ⟨1, s, rfl, rfl, shl_ok (n := 1) (by decide) (by omega), ?_⟩
          generalize ht : (1 * 2 ^ s : Int) = un
          rw [Int.one_mul] at ht
          have B1 : 1 ≤ B := by
            rcases Nat.eq_zero_or_pos B with z | z
            · rw [z] at hB
              have : (2 : Int) ^ 0 = 1 := rfl
              omega
            · exact z
          have hNs : ∀ n ∈ ns, 0 ≤ n ∧ n * b < 2 ^ s ∧ n < 2 ^ w := fun n hn => by
            have h0 := (hN n hn).1
            have h1 := hM n hn
            have h2 : n * b ≤ G * b := Int.mul_le_mul_of_nonneg_right h1 (by omega)
            have h3 : G * 1 ≤ G * (B : Nat) := Int.mul_le_mul_of_nonneg_left (by omega) hG0.1
            omega
          have sw : (2 : Int) ^ w ≤ 2 ^ (s + w) := pw_mono (Nat.le_add_left w s)
          have pk0 : 0 ≤ pk (s + w) ns := pk_nonneg fun n hn => (hNs n hn).1
          have pk1 : pk (s + w) ns < 2 ^ 2040 := Int.lt_of_lt_of_le (pk_lt fun n hn => ⟨(hNs n hn).1, by have := (hNs n hn).2.2; omega⟩) (pw_mono (show ns.length * (s + w) ≤ 20 * 102 from Nat.mul_le_mul hl (by omega)))
          have un1 : un ≤ 2 ^ 57 := by rw [← ht]; exact pw_mono hs1
          have un0 : 0 < un := by rw [← ht]; exact pw_pos s
          walk_at "hs"
          refine ⟨by omega, for_range (n := (b - a).toNat) (fun i σ H' => H' = H3 ∧ ∃ x12 x13 x14 x15, σ = [some (.ref p), some (.int a), some (.int b), some (.int G), some (.int (s : Nat)), some (.int (w : Nat)), some (.ref P), some (.int (pk (s + w) ns)), some (.int (fd - 1)), some (.int (pk (s + w) (ns.map fun _ => 2 ^ s * (2 ^ w - 1)))), some (.int (un + b)), some (.int (pk (s + w) (ns.map fun n => 2 ^ s * sq n a i))), x12, x13, x14, x15]) ⟨rfl, _, _, _, _, by rw [pk_none]; rfl⟩ ?_ ?_⟩
          · rintro i σ H4 hi ⟨rfl, x12, x13, x14, x15, rfl⟩
            walk_at "hs"
            refine ⟨HS.divW 20 (by omega) (by omega) (by decide) (by decide), ?_⟩
            walk_at "hs"
            have d0 : 0 ≤ (un + b) / (a + (i : Int)) := Int.ediv_nonneg (by omega) (by omega)
            have d1 : (un + b) / (a + (i : Int)) ≤ un + b := Int.ediv_le_self _ (by omega)
            refine ⟨HS.mulW 2040 60 pk0 pk1 d0 (by omega) (by decide) (by decide) (by decide), ?_⟩
            walk_at "hs"
            refine ⟨rfl, some (.int (a + (i : Int))), x13, x14, x15, ?_⟩
            rw [← ht, pk_turn rfl (by omega) (by omega) hNs, pk_turns]
            rfl
          · rintro σ H4 ⟨rfl, x12, x13, x14, x15, rfl⟩
            have hv : ∀ n ∈ ns, 0 ≤ sqr n a b ∧ sqr n a b < 2 ^ w := fun n hn => by
              have h0 := (hN n hn).1
              have h1 := hM n hn
              have h2 := sqr_log (n := n) (a := a) (b := b) (k := B) h0 a0 (by have := pw_nat B; omega)
              have h3 : n * (B : Nat) ≤ G * (B : Nat) := Int.mul_le_mul_of_nonneg_right h1 (by omega)
              exact ⟨sqr_nonneg h0 (by omega), by omega⟩
            walk_at "hs"
            refine ⟨⟨_, HS.sq hP3⟩, fun F1 hF1 => lc_list (xs := ps) (fun i H' => HS.Keep (fun _ => False) H4 H' ∧ H' F1 = some (.lst (((ns.take i).map fun n => sqr n a b).map V.int))) ⟨.new hF1, upd_same⟩ (fun i H' _ ⟨K', _⟩ => HS.sq (K' _ _ hP3 id)) ?_ ?_⟩
            · rintro i x H5 hi ⟨K5, h5⟩
              obtain ⟨rfl, hil⟩ := nP hi
              have hz : ns[i]? = some ns[i] := List.getElem?_eq_getElem hil
              walk_at "hs"
              refine ⟨_, i * (s + w) + s, rfl, by push_cast; rfl, ?_⟩
              walk_at "hs"
              have rd := pk_read (s := s) (w := w) (W := s + w) rfl hv hz
              have nn : 0 ≤ pk (s + w) (ns.map fun n => 2 ^ s * sqr n a b) / 2 ^ (i * (s + w) + s) := Int.ediv_nonneg (pk_nonneg fun x hx => by
                obtain ⟨m, hm, rfl⟩ := List.mem_map.mp hx
                exact Int.mul_nonneg (Int.le_of_lt (pw_pos s)) (hv m hm).1) (Int.le_of_lt (pw_pos _))
              have ev := band_mod (w := w) nn
              rw [rd] at ev
              refine ⟨_, h5, HS.sz (by simp; omega), K5.put hF1, ?_⟩
              rw [upd_same, List.take_add_one, hz, List.map_append, List.map_append, ← hf]
              show _ = some (HO.lst (_ ++ [V.int (sqr ns[i] a b)]))
              rw [← ev]
              rfl
            · rintro H5 ⟨K5, h5⟩
              rw [List.take_of_length_le (by omega)] at h5
              walk_at "hs"
              have KK := ((K1.trans K2).trans K3)
              exact k _ _ (KK.trans K5) (KK.free hF1 id) h5
def wK (ws : List (Int × Int)) : List (Key × V) := ws.map fun x => (.inl x.1, .int x.2)
theorem wKeys (ws : List (Int × Int)) : ((wK ws).map fun kv => kV kv.1) = (ws.map (·.1)).map V.int := by
  unfold wK
  rw [List.map_map, List.map_map]
  rfl
theorem wLen (ws : List (Int × Int)) : (wK ws).length = ws.length := by unfold wK; rw [List.length_map]
def getW (ws : List (Int × Int)) (n : Int) : Option Int := match ws with
  | [] => none
  | x :: r => if x.1 = n then some x.2 else getW r n
theorem inl_ne {i j : Int} (h : ¬ i = j) : ¬ (Sum.inl i : Key) = .inl j := fun e => h (Sum.inl.inj e)
theorem wGet (n : Int) : ∀ ws : List (Int × Int), valV (wK ws) (.inl n) = (getW ws n).map V.int
  | [] => rfl
  | x :: r => by
    unfold getW
    by_cases c : x.1 = n
    · rw [if_pos c]
      exact valV_pos (p := ((.inl x.1 : Key), V.int x.2)) (by rw [c])
    · rw [if_neg c, ← wGet n r]
      exact valV_neg (p := ((.inl x.1 : Key), V.int x.2)) (inl_ne c)
theorem wAt : ∀ {ws : List (Int × Int)} {i : Nat} {x : Int × Int}, (ws.map (·.1)).Nodup → ws[i]? = some x → getW ws x.1 = some x.2
  | [], i, x, _, e => by simp at e
  | y :: r, 0, x, _, e => by
    rw [List.getElem?_cons_zero] at e
    cases e
    unfold getW
    rw [if_pos rfl]
  | y :: r, i + 1, x, nd, e => by
    rw [List.getElem?_cons_succ] at e
    rw [List.map_cons, List.nodup_cons] at nd
    unfold getW
    rw [if_neg fun c => nd.1 (by rw [c]; exact List.mem_map_of_mem (List.mem_of_getElem? e))]
    exact wAt nd.2 e
theorem putK_ne {x : Key × V} {r : List (Key × V)} {k : Key} {v : V} (h : ¬ x.1 = k) : putK (x :: r) k v = x :: putK r k v := by
  unfold putK
  rw [List.any_cons, decide_eq_false h, Bool.false_or]
  split
  · rw [List.map_cons, if_neg h]
  · rfl
theorem putK_at {x : Key × V} {r : List (Key × V)} {k : Key} {v : V} (h : x.1 = k) (n : ∀ y ∈ r, ¬ y.1 = k) : putK (x :: r) k v = (k, v) :: r := by
  unfold putK
  rw [List.any_cons, decide_eq_true h, Bool.true_or, if_pos rfl, List.map_cons, if_pos h, h]
  congr 1
  exact (List.map_congr_left fun y hy => by rw [if_neg (n y hy)]; rfl).trans (List.map_id r)
theorem wPut (n m : Int) : ∀ {ws : List (Int × Int)}, (ws.map (·.1)).Nodup → putK (wK ws) (.inl n) (.int ((getW ws n).getD 0 + m)) = wK (addW ws n m)
  | [], _ => by
    show [((.inl n : Key), V.int (0 + m))] = [((.inl n : Key), V.int m)]
    rw [Int.zero_add]
  | x :: r, nd => by
    rw [List.map_cons, List.nodup_cons] at nd
    unfold getW addW
    by_cases c : x.1 = n
    · rw [if_pos c, if_pos c]
      refine putK_at (x := ((.inl x.1 : Key), V.int x.2)) (by rw [c]) fun y hy => ?_
      obtain ⟨z, hz, rfl⟩ := List.mem_map.mp hy
      exact inl_ne fun e => nd.1 (by rw [c, ← e]; exact List.mem_map_of_mem hz)
    · rw [if_neg c, if_neg c]
      show putK (((.inl x.1 : Key), V.int x.2) :: wK r) _ _ = ((.inl x.1 : Key), V.int x.2) :: wK (addW r n m)
      rw [putK_ne (inl_ne c), wPut n m nd.2]
def sp_sum_wanted (K : PySem.W.Frag) : Sp := fun vs H Q _ => ∃ (d : Addr) (ws : List (Int × Int)) (a b : Int), vs = [.ref d, .int a, .int b] ∧ (H d = some (.dK (wK ws)) ∧ (ws.map (·.1)).Nodup ∧ (∀ x ∈ ws, 0 ≤ x.1 ∧ x.1 < 2 ^ 40 ∧ 0 ≤ x.2 ∧ x.2 ≤ 1000) ∧ ws.length ≤ 20 ∧ (ws ≠ [] → 1 ≤ a ∧ a ≤ b ∧ b ≤ 100001) ∧ ∀ H' v, HS.Keep (fun _ => False) H H' → v = wV (fun n => sqr n a b) ws → Q (.int v) H')
theorem ok_sum_wanted (T : Txt K mg A) : FnOk P w K mg base CX0 2 A.a_sum_wanted A.d_sum_wanted ["wanted", "start", "stop"] (sp_sum_wanted K) := by
  have G_divide_alone : FnOk P w K mg base CX0 1 A.a_divide_alone A.d_divide_alone ["number", "start", "stop"] (sp_divide_alone K) := ok_divide_alone T
  have G_divide_together : FnOk P w K mg base CX0 1 A.a_divide_together A.d_divide_together ["numbers", "start", "stop"] (sp_divide_together K) := ok_divide_together T
  refine T.F_sum_wanted.ok sc_sum_wanted (fun vs H Q E h => ?_) (fun cdv A0 outer s H vs Q E hr h => ?_)
  · obtain ⟨d, ws, a, b, rfl, hw⟩ := h
    rfl
  · obtain ⟨d, ws, a, b, rfl, hw⟩ := h
    refine ⟨_, (pss_cons (ps_set (i := 3) sc_sum_wanted.nd rfl (.inl rfl) (pe_callTy (HS.klstD rfl) (by rfl) T.z_list (by decide +kernel) (pa_cons (pv 0) pa_nil)))
    (Evl.pss_cut (ps_if (pt_cmpR op_lt (pe_callB (HS.klen K) (by rfl) T.z_len PySem.boot_len (pa_cons (pv 3) pa_nil)) (pe_glob (v := .int 3) (by rfl) T.v_FEW_NUMBERS.choose_spec ⟨_, rfl⟩) (nomark _))
      (pss_one (ps_setLc (i := 4) (own := [("number", 5)]) (g := gName 5) (tt := tYes) rfl sc_sum_wanted.nd rfl rfl (sw_true rfl rfl rfl (by decide +kernel)) (HS.kil K (pi_list (pv 3))) (blkOk_by (own := [("number", 5)]) (N := N_sum_wanted) (sc := defScope s_sum_wanted) (by decide +kernel)) (fun _ _ _ _ _ => pg_name (i := 5) sc_sum_wanted.nd rfl (by first | exact .inl rfl | exact .inr rfl)) (fun _ _ _ _ _ => pts_nil) (fun _ _ _ _ _ => (pe_call G_divide_alone hr (by rfl) T.g_divide_alone T.F_divide_alone.kp T.b_divide_alone .nil pass0 (pa_cons (pv 5) (pa_cons (pv 1) (pa_cons (pv 2) pa_nil)))))))
      (pss_one (ps_set (i := 4) sc_sum_wanted.nd rfl (.inl rfl) (pe_call G_divide_together hr (by rfl) T.g_divide_together T.F_divide_together.kp T.b_divide_together .nil pass0 (pa_cons (pv 3) (pa_cons (pv 1) (pa_cons (pv 2) pa_nil)))))))
    (pss_one (ps_ret (pe_callB (HS.ksum K rfl) (by rfl) T.z_sum (by decide +kernel) (pa_cons (pe_lc (own := [("number", 5), ("found", 6)]) (g := gTup K 2 (gCons (gName 5) (gCons (gName 6) gNil))) (tt := tYes) rfl sc_sum_wanted.nd (HS.kiz K (pi_zip (by rfl) T.z_zip (pa_cons (pv 3) (pa_cons (pv 4) pa_nil)))) (blkOk_by (own := [("number", 5), ("found", 6)]) (N := N_sum_wanted) (sc := defScope s_sum_wanted) (by decide +kernel)) (fun _ _ _ _ _ => HS.kgt K (pg_tup rfl (pgs_cons (pg_name (i := 5) sc_sum_wanted.nd rfl (by first | exact .inl rfl | exact .inr rfl)) (pgs_cons (pg_name (i := 6) sc_sum_wanted.nd rfl (by first | exact .inl rfl | exact .inr rfl)) pgs_nil)))) (fun _ _ _ _ _ => pts_nil) (fun _ _ _ _ _ => (pe_op op_mulW (pe_dget (hu_of hr) (pv 0) (pv 5) (fun _ _ => rfl)) (pv 6)))) pa_nil)))))), ?_⟩
    obtain ⟨hd, nd, hX, hl, hab, k⟩ := hw
    walk_at "hs"
    refine ⟨d, _, rfl, .inl hd, fun P hP => ?_⟩
    rw [wKeys]
    walk_at "hs"
    have K1 : HS.Keep (fun _ => False) H (upd H P (.lst ((ws.map (·.1)).map V.int))) := .new hP
    have h1 : upd H P (.lst ((ws.map (·.1)).map V.int)) P = some (.lst ((ws.map (·.1)).map V.int)) := upd_same
    generalize upd H P (.lst ((ws.map (·.1)).map V.int)) = H1 at K1 h1 ⊢
    have hd1 := K1 _ _ hd id
    have ne : ∀ {i : Nat} {x : Int × Int}, ws[i]? = some x → ws ≠ [] := fun {i x} e z => by rw [z] at e; simp at e
    refine HS.cut (fun σ H' => ∃ (S : Addr) (x5 x6 : Option V), HS.Keep (fun _ => False) H1 H' ∧ H' S = some (.lst ((ws.map fun x => sqr x.1 a b).map V.int)) ∧ σ = [some (.ref d), some (.int a), some (.int b), some (.ref P), some (.ref S), x5, x6]) ?_ ?_
    · walk_at "hs"
      rw [List.length_map, List.length_map]
      refine HS.itd (fun c => ?_) (fun c => ?_)
      · walk_at "hs"
        refine ⟨⟨_, HS.sq h1⟩, fun S hS => lc_list (xs := (ws.map (·.1)).map V.int) (fun i H' => HS.Keep (fun _ => False) H1 H' ∧ H' S = some (.lst (((ws.take i).map fun x => sqr x.1 a b).map V.int))) ⟨.new hS, upd_same⟩ (fun i H' _ ⟨K', _⟩ => HS.sq (K' _ _ h1 id)) ?_ ?_⟩
        · rintro i x H2 hi ⟨K2, h2⟩
          rw [List.getElem?_map, List.getElem?_map] at hi
          cases e : ws[i]? with
          | none => rw [e] at hi; cases hi
          | some y =>
            rw [e] at hi
            cases hi
            obtain ⟨y0, y1, y2, y3⟩ := hX y (List.mem_of_getElem? e)
            obtain ⟨a0, ab, b1⟩ := hab (ne e)
            walk_at "hs"
            refine ⟨y.1, a, b, rfl, y0, y1, a0, by omega, by omega, by omega, fun H3 v K3 hv v0 v1 => ?_⟩
            subst hv
            walk_at "hs"
            refine ⟨_, K3 _ _ h2 id, HS.sz (by simp; omega), (K2.trans K3).put hS, ?_⟩
            rw [upd_same, List.take_add_one, e, List.map_append, List.map_append]
            rfl
        · rintro H2 ⟨K2, h2⟩
          rw [List.length_map, List.length_map, List.take_length] at h2
          walk_at "hs"
          exact ⟨S, _, _, K2, h2, rfl⟩
      · walk_at "hs"
        have hne : ws ≠ [] := fun z => by rw [z] at c; exact c (by decide)
        obtain ⟨a0, ab, b1⟩ := hab hne
        refine ⟨P, ws.map (·.1), a, b, rfl, h1, fun n hn => ?_, fun z => hne (List.map_eq_nil_iff.mp z), by rw [List.length_map]; exact hl, a0, ab, b1, fun H2 S K2 _ h2 => ?_⟩
        · obtain ⟨x, hx, rfl⟩ := List.mem_map.mp hn
          exact ⟨(hX x hx).1, (hX x hx).2.1⟩
        · walk_at "hs"
          exact ⟨S, _, _, K2, by rw [h2]; simp [List.map_map, Function.comp_def], rfl⟩
    · rintro σ H2 ⟨S, x5, x6, K2, h2, rfl⟩
      have hd2 := K2 _ _ hd1 id
      have hP2 := K2 _ _ h1 id
      walk_at "hs"
      refine ⟨P, S, _, _, rfl, HS.sq hP2, HS.sq h2, fun D hD => lc_it (walk_zip (n := ws.length) (by simp)) (fun i H' => HS.Keep (fun _ => False) H2 H' ∧ ∃ xs : List Int, xs.length = i ∧ xs.sum = wV (fun n => sqr n a b) (ws.take i) ∧ H' D = some (.lst (xs.map V.int))) ⟨.new hD, [], rfl, rfl, upd_same⟩ (fun i H' _ ⟨K', _⟩ => ⟨HS.sq (K' _ _ hP2 id), HS.sq (K' _ _ h2 id)⟩) ?_ ?_⟩
      · rintro i x H3 H4 hi ⟨K3, xs, hx, hS, h3⟩ ⟨T1, u, v, rfl, hT, rfl, e1, e2⟩
        have e : ws[i]? = some ws[i] := List.getElem?_eq_getElem hi
        generalize ws[i] = y at e
        dsimp only at e1 e2
        rw [List.getElem?_map, List.getElem?_map, e] at e1
        rw [List.getElem?_map, List.getElem?_map, e] at e2
        cases e1
        cases e2
        obtain ⟨y0, y1, y2, y3⟩ := hX y (List.mem_of_getElem? e)
        obtain ⟨a0, ab, b1⟩ := hab (ne e)
        have hd4 : upd H3 T1 (.tup [V.int y.1, V.int (sqr y.1 a b)]) d = some (.dK (wK ws)) := by rw [upd_ne (ne_of_none (K3 _ _ hd2 id) hT)]; exact K3 _ _ hd2 id
        have g := DGet.k (k := .inl y.1) hd4
        rw [wGet, wAt nd e] at g
        have s0 := sqr_nonneg (b := b) y0 (show 0 ≤ a by omega)
        have s1 := sqr_le (b := b) y0 a0
        have s2 : (((b - a).toNat : Nat) : Int) * y.1 ≤ 100000 * y.1 := Int.mul_le_mul_of_nonneg_right (by omega) y0
        have s3 : sqr y.1 a b < 2 ^ 60 := by omega
        walk_at "hs"
        refine ⟨d, _, rfl, g, ?_⟩
        walk_at "hs"
        refine ⟨HS.mulW 20 60 y2 (by omega) s0 s3 (by decide) (by decide) (by decide), ?_⟩
        walk_at "hs"
        refine ⟨_, by rw [upd_ne (ne_of_none h3 hT)]; exact h3, HS.sz (by rw [List.length_map]; omega), (K3.nw hT).put hD, xs ++ [y.2 * sqr y.1 a b], by simp [hx], ?_, ?_⟩
        · rw [List.sum_append, List.sum_singleton, hS, List.take_add_one, e]
          exact (wV_snoc _ _ y).symm
        · rw [upd_same, List.map_append]
          rfl
      · rintro H3 ⟨K3, xs, hx, hS, h3⟩
        rw [List.take_length] at hS
        walk_at "hs"
        exact k _ _ ((K1.trans K2).trans K3) hS
def RgsH (H : Hp) (vs : List V) (rs : List Rg) : Prop := vs.length = rs.length ∧ ∀ (i : Nat) x, rs[i]? = some x → ∃ t, vs[i]? = some (.ref t) ∧ H t = some (.tup [.int x.a, .int x.b, .int x.n, .int x.m])
theorem RgsH.same {H H' : Hp} {vs : List V} {rs : List Rg} (h : RgsH H vs rs) (k : HS.Keep (fun _ => False) H H') : RgsH H' vs rs := ⟨h.1, fun i x e => by
  obtain ⟨t, h1, h2⟩ := h.2 i x e
  exact ⟨t, h1, k _ _ h2 id⟩⟩
theorem RgsH.get {H : Hp} {vs : List V} {rs : List Rg} {i : Nat} {v : V} (h : RgsH H vs rs) (e : vs[i]? = some v) : ∃ t x, v = .ref t ∧ rs[i]? = some x ∧ H t = some (.tup [.int x.a, .int x.b, .int x.n, .int x.m]) := by
  have l := (List.getElem?_eq_some_iff.mp e).1
  rw [h.1] at l
  obtain ⟨t, h1, h2⟩ := h.2 i _ (List.getElem?_eq_getElem l)
  rw [e] at h1
  exact ⟨t, _, Option.some.inj h1, List.getElem?_eq_getElem l, h2⟩
structure RgOk (x : Rg) : Prop where
  ab : x.a ≤ x.b
  a1 : 1 ≤ x.a
  a2 : x.a < 2 ^ 110
  b2 : x.b < 2 ^ 110
  b1 : x.a < x.b → x.b ≤ 100001
  n0 : 0 ≤ x.n
  n1 : x.n < 2 ^ 40
  m0 : 0 ≤ x.m
  m1 : x.m ≤ 10
theorem dg2 {σ : L2.St} {H : Hp} {Q : VK} {td ty tx : TE} (h : td σ H fun x H1 => ∃ a, x = .ref a ∧ IsD H1 a ∧ ty σ H1 fun y H2 => tx σ H2 fun z H3 => ∃ o, DGet H3 a y o ∧ Q (o.getD z) H3) : tDGet2 td ty tx σ H Q := h
theorem getD_int (o : Option Int) : (o.map V.int).getD (V.int 0) = V.int (o.getD 0) := by cases o <;> rfl
theorem addW_ne {ws : List (Int × Int)} {n m c : Int} (hn : 0 ≤ n ∧ n < 2 ^ 40) (m0 : 0 ≤ m) (m1 : m ≤ 10) (c0 : 0 ≤ c) (h : ∀ x ∈ ws, 0 ≤ x.1 ∧ x.1 < 2 ^ 40 ∧ 0 ≤ x.2 ∧ x.2 ≤ c) : ∀ x ∈ addW ws n m, 0 ≤ x.1 ∧ x.1 < 2 ^ 40 ∧ 0 ≤ x.2 ∧ x.2 ≤ c + 10 := by
  induction ws with
  | nil =>
    intro x hx
    rw [show x = (n, m) from List.mem_singleton.mp hx]
    exact ⟨hn.1, hn.2, m0, by show m ≤ c + 10; omega⟩
  | cons y r ih =>
    intro x hx
    have hy := h y List.mem_cons_self
    have ih := ih fun z hz => h z (List.mem_cons_of_mem y hz)
    unfold addW at hx
    by_cases e : y.1 = n
    · rw [if_pos e] at hx
      rcases List.mem_cons.mp hx with z | z
      · rw [z]
        exact ⟨hn.1, hn.2, by show 0 ≤ y.2 + m; omega, by show y.2 + m ≤ c + 10; omega⟩
      · have := h x (List.mem_cons_of_mem y z)
        omega
    · rw [if_neg e] at hx
      rcases List.mem_cons.mp hx with z | z
      · rw [z]
        omega
      · exact ih x z
theorem rgV_snoc (rs : List Rg) (r : Rg) : rgV (rs ++ [r]) = rgV rs + r.m * sqr r.n r.a r.b := by
  unfold rgV
  rw [List.map_append, List.sum_append, List.map_singleton, List.sum_singleton]
def sp_sum_ranges (K : PySem.W.Frag) : Sp := fun vs H Q _ => ∃ (r : Addr) (zs : List V) (rs : List Rg), vs = [.ref r] ∧ (H r = some (.lst zs) ∧ RgsH H zs rs ∧ (∀ x ∈ rs, RgOk x) ∧ rs.length ≤ 20 ∧ ∀ H' v, HS.Keep (fun _ => False) H H' → v = rgV rs → Q (.int v) H')
theorem ok_sum_ranges (T : Txt K mg A) : FnOk P w K mg base CX0 3 A.a_sum_ranges A.d_sum_ranges ["ranges"] (sp_sum_ranges K) := by
  have G_divide_alone : FnOk P w K mg base CX0 1 A.a_divide_alone A.d_divide_alone ["number", "start", "stop"] (sp_divide_alone K) := ok_divide_alone T
  have G_sum_wanted : FnOk P w K mg base CX0 2 A.a_sum_wanted A.d_sum_wanted ["wanted", "start", "stop"] (sp_sum_wanted K) := ok_sum_wanted T
  refine T.F_sum_ranges.ok sc_sum_ranges (fun vs H Q E h => ?_) (fun cdv A0 outer s H vs Q E hr h => ?_)
  · obtain ⟨r, zs, rs, rfl, hw⟩ := h
    rfl
  · obtain ⟨r, zs, rs, rfl, hw⟩ := h
    refine ⟨_, (pss_cons (ps_if (pt_cmpR op_lt (pe_callB (HS.ksum K rfl) (by rfl) T.z_sum (by decide +kernel) (pa_cons (pe_lc (own := [("start", 1), ("stop", 2), ("_", 10)]) (g := gTup K 4 (gCons (gName 1) (gCons (gName 2) (gCons (gName 10) (gCons (gName 10) gNil))))) (tt := tYes) rfl sc_sum_ranges.nd (HS.kil K (pi_list (pv 0))) (blkOk_by (own := [("start", 1), ("stop", 2), ("_", 10)]) (N := N_sum_ranges) (sc := defScope s_sum_ranges) (by decide +kernel)) (fun _ _ _ _ _ => HS.kgt K (pg_tup rfl (pgs_cons (pg_name (i := 1) sc_sum_ranges.nd rfl (by first | exact .inl rfl | exact .inr rfl)) (pgs_cons (pg_name (i := 2) sc_sum_ranges.nd rfl (by first | exact .inl rfl | exact .inr rfl)) (pgs_cons (pg_name (i := 10) sc_sum_ranges.nd rfl (by first | exact .inl rfl | exact .inr rfl)) (pgs_cons (pg_name (i := 10) sc_sum_ranges.nd rfl (by first | exact .inl rfl | exact .inr rfl)) pgs_nil)))))) (fun _ _ _ _ _ => pts_nil) (fun _ _ _ _ _ => (pe_op op_sub (pv 2) (pv 1)))) pa_nil)) (pe_glob (v := .int 500) (by rfl) T.v_FEW_DIVISIONS.choose_spec ⟨_, rfl⟩) (nomark _))
      (pss_one (ps_ret (pe_callB (HS.ksum K rfl) (by rfl) T.z_sum (by decide +kernel) (pa_cons (pe_lc (own := [("start", 1), ("stop", 2), ("number", 3), ("many", 4)]) (g := gTup K 4 (gCons (gName 1) (gCons (gName 2) (gCons (gName 3) (gCons (gName 4) gNil))))) (tt := tYes) rfl sc_sum_ranges.nd (HS.kil K (pi_list (pv 0))) (blkOk_by (own := [("start", 1), ("stop", 2), ("number", 3), ("many", 4)]) (N := N_sum_ranges) (sc := defScope s_sum_ranges) (by decide +kernel)) (fun _ _ _ _ _ => HS.kgt K (pg_tup rfl (pgs_cons (pg_name (i := 1) sc_sum_ranges.nd rfl (by first | exact .inl rfl | exact .inr rfl)) (pgs_cons (pg_name (i := 2) sc_sum_ranges.nd rfl (by first | exact .inl rfl | exact .inr rfl)) (pgs_cons (pg_name (i := 3) sc_sum_ranges.nd rfl (by first | exact .inl rfl | exact .inr rfl)) (pgs_cons (pg_name (i := 4) sc_sum_ranges.nd rfl (by first | exact .inl rfl | exact .inr rfl)) pgs_nil)))))) (fun _ _ _ _ _ => pts_nil) (fun _ _ _ _ _ => (pe_op op_mulW (pv 4) (pe_call G_divide_alone (hr.mono (by decide)) (by rfl) T.g_divide_alone T.F_divide_alone.kp T.b_divide_alone .nil pass0 (pa_cons (pv 3) (pa_cons (pv 1) (pa_cons (pv 2) pa_nil))))))) pa_nil))))
      pss_nil)
    (pss_cons (ps_set (i := 5) sc_sum_ranges.nd rfl (.inl rfl) (pe_callB (HS.ksortU w rfl) (by rfl) T.z_sorted (by decide +kernel) (pa_cons (HS.kscw w (HS.pe_sc2 (own := [("start", 1), ("stop", 2), ("_", 10), ("edge", 11)]) (vs1 := [11]) (g := (gTup K 4 (gCons (gName 1) (gCons (gName 2) (gCons (gName 10) (gCons (gName 10) gNil)))))) (g1 := (gName 11)) rfl sc_sum_ranges.nd (HS.kil K (pi_list (pv 0))) (blkOk_by (own := [("start", 1), ("stop", 2), ("_", 10), ("edge", 11)]) (N := N_sum_ranges) (sc := defScope s_sum_ranges) (by decide +kernel)) (by decide) (fun _ _ _ _ _ => HS.kgt K (pg_tup rfl (pgs_cons (pg_name (i := 1) sc_sum_ranges.nd rfl (by first | exact .inl rfl | exact .inr rfl)) (pgs_cons (pg_name (i := 2) sc_sum_ranges.nd rfl (by first | exact .inl rfl | exact .inr rfl)) (pgs_cons (pg_name (i := 10) sc_sum_ranges.nd rfl (by first | exact .inl rfl | exact .inr rfl)) (pgs_cons (pg_name (i := 10) sc_sum_ranges.nd rfl (by first | exact .inl rfl | exact .inr rfl)) pgs_nil)))))) (fun _ _ _ _ _ => (HS.kit K (pi_tup (pe_tup (pa_cons (pv 1) (pa_cons (pv 2) pa_nil)))))) (fun _ _ _ _ _ => pg_name (i := 11) sc_sum_ranges.nd rfl (by first | exact .inl rfl | exact .inr rfl)) (fun _ _ _ _ _ => (pv 11)))) pa_nil)))
    (pss_cons (ps_set (i := 6) sc_sum_ranges.nd rfl (.inl rfl) pe_int)
    (pss_cons (ps_for PassesOwn.never rfl (HS.kiz K (pi_zip (by rfl) T.z_zip (pa_cons (pv 5) (pa_cons (pe_slice (HS.sll K) (pv 5) (po_some pe_int) po_none) pa_nil)))) (HS.kgt K (pg_tup rfl (pgs_cons (pg_name (i := 7) sc_sum_ranges.nd rfl (.inl rfl)) (pgs_cons (pg_name (i := 8) sc_sum_ranges.nd rfl (.inl rfl)) pgs_nil))))
      (pss_cons (ps_set (i := 9) sc_sum_ranges.nd rfl (.inl rfl) pe_dnewK)
    (pss_cons (ps_for PassesOwn.never rfl (HS.kil K (pi_list (pv 0))) (HS.kgt K (pg_tup rfl (pgs_cons (pg_name (i := 1) sc_sum_ranges.nd rfl (.inl rfl)) (pgs_cons (pg_name (i := 2) sc_sum_ranges.nd rfl (.inl rfl)) (pgs_cons (pg_name (i := 3) sc_sum_ranges.nd rfl (.inl rfl)) (pgs_cons (pg_name (i := 4) sc_sum_ranges.nd rfl (.inl rfl)) pgs_nil))))))
      (pss_one (ps_if (PW.pt (pw_and (pt_cmpR op_le (pv 1) (pv 7) (nomark _)) (pw_and1 (pt_cmpR op_le (pv 8) (pv 2) (nomark _)))))
      (pss_one (ps_dput (hu_of hr) (pv 9) (pv 3) (pe_op op_add (pe_dget2 (hu_of hr) (pv 9) (pv 3) pe_int ⟨rfl, rfl, rfl, rfl⟩) (pv 4)) rfl))
      pss_nil)))
    (pss_one (ps_set (i := 6) sc_sum_ranges.nd rfl (.inl rfl) (pe_op op_add (pv 6) (pe_call G_sum_wanted hr (by rfl) T.g_sum_wanted T.F_sum_wanted.kp T.b_sum_wanted .nil pass0 (pa_cons (pv 9) (pa_cons (pv 7) (pa_cons (pv 8) pa_nil))))))))))
    (pss_one (ps_ret (pv 6))))))), ?_⟩
    obtain ⟨hr0, hR, hO, hl, k⟩ := hw
    have hlv := hR.1
    walk_at "hs"
    refine ⟨⟨_, HS.sq hr0⟩, fun D hD => lc_list (xs := zs) (fun i H' => HS.Keep (fun _ => False) H H' ∧ ∃ xs : List Int, xs.length = i ∧ H' D = some (.lst (xs.map V.int))) ⟨.new hD, [], rfl, upd_same⟩ (fun i H' _ ⟨K', _⟩ => HS.sq (K' _ _ hr0 id)) ?_ ?_⟩
    · rintro i x H1 hi ⟨K1, xs, hx, h1⟩
      obtain ⟨t, y, rfl, hy, ht⟩ := hR.get hi
      have hil := (List.getElem?_eq_some_iff.mp hi).1
      refine HS.gtup (HS.st (K1 _ _ ht id)) rfl ?_
      walk_at "hs"
      refine ⟨_, h1, HS.sz (by rw [List.length_map]; omega), K1.put hD, xs ++ [y.b - y.a], by simp [hx], ?_⟩
      rw [upd_same, List.map_append]
      rfl
    · rintro H1 ⟨K1, xs, hx, h1⟩
      have hr1 := K1 _ _ hr0 id
      have hR1 := hR.same K1
      walk_at "hs"
      refine HS.itd (fun c => ?_) (fun c => ?_)
      · walk_at "hs"
        refine ⟨⟨_, HS.sq hr1⟩, fun D2 hD2 => lc_list (xs := zs) (fun i H' => HS.Keep (fun _ => False) H1 H' ∧ ∃ xs : List Int, xs.length = i ∧ xs.sum = rgV (rs.take i) ∧ H' D2 = some (.lst (xs.map V.int))) ⟨.new hD2, [], rfl, rfl, upd_same⟩ (fun i H' _ ⟨K', _⟩ => HS.sq (K' _ _ hr1 id)) ?_ ?_⟩
        · rintro i x H2 hi ⟨K2, xs, hx, hS, h2⟩
          obtain ⟨t, y, rfl, hy, ht⟩ := hR1.get hi
          have hil := (List.getElem?_eq_some_iff.mp hi).1
          have o := hO y (List.mem_of_getElem? hy)
          have ba : y.b - y.a ≤ 100000 := by
            have := o.b1; have := o.a1
            by_cases c : y.a < y.b <;> omega
          refine HS.gtup (HS.st (K2 _ _ ht id)) rfl ?_
          walk_at "hs"
          refine ⟨y.n, y.a, y.b, rfl, o.n0, o.n1, o.a1, o.a2, o.b2, ba, fun H3 v K3 hv v0 v1 => ?_⟩
          subst hv
          walk_at "hs"
          have m0 := o.m0
          have m1 := o.m1
          refine ⟨HS.mulW 20 60 m0 (by omega) v0 v1 (by decide) (by decide) (by decide), ?_⟩
          walk_at "hs"
          refine ⟨_, K3 _ _ h2 id, HS.sz (by rw [List.length_map]; omega), (K2.trans K3).put hD2, xs ++ [y.m * sqr y.n y.a y.b], by simp [hx], ?_, ?_⟩
          · rw [List.sum_append, List.sum_singleton, hS, List.take_add_one, hy]
            exact (rgV_snoc _ y).symm
          · rw [upd_same, List.map_append]
            rfl
        · rintro H2 ⟨K2, xs, hx, hS, h2⟩
          rw [List.take_of_length_le (by omega)] at hS
          walk_at "hs"
          exact k _ _ (K1.trans K2) hS
      · walk_at "hs"
        refine ⟨⟨_, HS.sq hr1⟩, fun D2 hD2 => HS.by_listF (xs := zs) (fun i H' => HS.Keep (fun _ => False) H1 H' ∧ ∃ (S : Int → Bool) (n : Nat), H' D2 = some (SetO w D2 S n) ∧ n ≤ 2 * i ∧ ∀ j, S j = true ↔ ∃ x ∈ rs.take i, j = x.a ∨ j = x.b) ⟨.new hD2, _, _, upd_same, by omega, fun j => ⟨fun z => (Bool.noConfusion z), fun ⟨x, hx, _⟩ => by simp at hx⟩⟩ (fun i H' _ ⟨K', _⟩ => HS.sq (K' _ _ hr1 id)) ?_ ?_⟩
        · rintro i x H2 hi ⟨K2, S, n, h2, hn, hS⟩
          obtain ⟨t, y, rfl, hy, ht⟩ := hR1.get hi
          have hil := (List.getElem?_eq_some_iff.mp hi).1
          refine HS.gtup (HS.st (K2 _ _ ht id)) rfl ?_
          walk_at "hs"
          intro p hp
          have nD := ne_of_none h2 hp
          refine ⟨p, rfl, ⟨_, HS.st upd_same⟩, HS.by_tupF (xs := [V.int y.a, V.int y.b]) (fun j H' => HS.Keep (fun _ => False) H1 H' ∧ H' p = some (.tup [V.int y.a, V.int y.b]) ∧ ∃ (S : Int → Bool) (n : Nat), H' D2 = some (SetO w D2 S n) ∧ n ≤ 2 * i + j ∧ ∀ j', S j' = true ↔ (∃ x ∈ rs.take i, j' = x.a ∨ j' = x.b) ∨ j' ∈ [y.a, y.b].take j) ⟨K2.nw hp, upd_same, S, n, by rw [upd_ne nD]; exact h2, hn, fun j' => by rw [hS]; simp⟩ (fun j H' _ h => HS.st h.2.1) ?_ ?_⟩
          · rintro j x H3 hj ⟨K3, hp3, S3, n3, h3, hn3, hS3⟩
            obtain ⟨e, rfl, he, hjl⟩ := HS.get_int (ns := [y.a, y.b]) hj
            have hjl2 : j < 2 := hjl
            walk_at "hs"
            refine ⟨e, S3, n3, rfl, h3, by unfold scanBound; omega, K3.put hD2, by rw [upd_ne (fun z => nD z.symm)]; exact hp3, _, _, upd_same, by split <;> omega, fun j' => ?_⟩
            rw [List.take_add_one, he, Bool.or_eq_true, hS3, decide_eq_true_eq, List.mem_append]
            show _ ↔ _ ∨ (_ ∨ j' ∈ [e])
            rw [List.mem_singleton, or_assoc]
          · rintro H3 ⟨K3, hp3, S3, n3, h3, hn3, hS3⟩
            refine ⟨K3, S3, n3, h3, hn3, fun j' => ?_⟩
            rw [hS3, List.take_add_one, hy]
            show _ ∨ j' ∈ [y.a, y.b] ↔ ∃ x ∈ rs.take i ++ [y], _
            simp only [List.mem_append, List.mem_cons, List.not_mem_nil, or_false]
            constructor
            · rintro (⟨x, hx, h⟩ | h)
              · exact ⟨x, .inl hx, h⟩
              · exact ⟨y, .inr rfl, h⟩
            · rintro ⟨x, hx | rfl, h⟩
              · exact .inl ⟨x, hx, h⟩
              · exact .inr h
        · rintro H2 ⟨K2, S, n, h2, hn, hS⟩
          rw [List.take_of_length_le (by omega)] at hS
          walk_at "hs"
          refine ⟨D2, S, n, rfl, h2, by omega, fun es P pw hmem hlen hP => ?_⟩
          have hE : ∀ x ∈ rs, x.a ≤ x.b ∧ x.a ∈ es ∧ x.b ∈ es := fun x hx => ⟨(hO x hx).ab, (hmem _).mpr ((hS _).mpr ⟨x, hx, .inl rfl⟩), (hmem _).mpr ((hS _).mpr ⟨x, hx, .inr rfl⟩)⟩
          have hV := rgC_all pw hE
          have h3 : upd H2 P (.lst (es.map V.int)) P = some (.lst (es.map V.int)) := upd_same
          have K3 : HS.Keep (fun _ => False) H1 (upd H2 P (.lst (es.map V.int))) := K2.nw hP
          generalize upd H2 P (.lst (es.map V.int)) = H3 at h3 K3 ⊢
          have hr3 := K3 _ _ hr1 id
          have hR3 := hR1.same K3
          clear hR1 hr1 h2 hE hmem hS hP
          walk_at "hs"
          intro p hp
          walk_at "hs"
          rw [HS.cut_fromI es (show (0 : Int) ≤ 1 by decide)]
          have nP := ne_of_none h3 hp
          have h4 : upd H3 p (.lst ((es.drop (Int.toNat 1)).map V.int)) p = some (.lst ((es.drop (Int.toNat 1)).map V.int)) := upd_same
          have K4 : HS.Keep (fun _ => False) H3 (upd H3 p (.lst ((es.drop (Int.toNat 1)).map V.int))) := .new hp
          generalize upd H3 p (.lst ((es.drop (Int.toNat 1)).map V.int)) = H4 at h4 K4 ⊢
          have h3' := K4 _ _ h3 id
          have hr4 := K4 _ _ hr3 id
          have hR4 := hR3.same K4
          refine ⟨P, p, _, _, rfl, HS.sq h3', HS.sq h4, for_it (walk_zip (n := es.length - 1) (by rw [List.length_map, List.length_map, List.length_drop]; show _ = min es.length (es.length - 1); omega)) (fun i σ H' => HS.Keep (fun _ => False) H4 H' ∧ ∃ (tot : Int) (x1 x2 x3 x4 x7 x8 x9 x10 x11 : Option V), tot + rgC rs (es.drop i) = rgV rs ∧ σ = [some (.ref r), x1, x2, x3, x4, some (.ref P), some (.int tot), x7, x8, x9, x10, x11]) ⟨.refl, 0, _, _, _, _, _, _, _, _, _, by rw [List.drop_zero, hV]; omega, rfl⟩ (fun i σ H' _ ⟨K', _⟩ => ⟨HS.sq (K' _ _ h3' id), HS.sq (K' _ _ h4 id)⟩) ?_ ?_⟩
          · rintro i x σ H5 H6 hi ⟨K5, tot, x1, x2, x3, x4, x7, x8, x9, x10, x11, hT, rfl⟩ ⟨T1, u, v, rfl, hT1, rfl, e1, e2⟩
            obtain ⟨l, rfl, el, hil⟩ := HS.get_int e1
            obtain ⟨h, rfl, eh, _⟩ := HS.get_int e2
            have eh' : es[i + 1]? = some h := by rw [List.getElem?_drop] at eh; rw [← eh, Nat.add_comm]; rfl
            have hil1 := (List.getElem?_eq_some_iff.mp eh').1
            have dr : es.drop i = l :: h :: es.drop (i + 2) := by
              rw [List.drop_eq_getElem_cons hil, List.drop_eq_getElem_cons hil1]
              rw [List.getElem?_eq_getElem hil] at el
              rw [List.getElem?_eq_getElem hil1] at eh'
              rw [Option.some.inj el, Option.some.inj eh']
            have dr1 : es.drop (i + 1) = h :: es.drop (i + 2) := by
              rw [List.drop_eq_getElem_cons hil1]
              rw [List.getElem?_eq_getElem hil1] at eh'
              rw [Option.some.inj eh']
            have lh : l < h := by
              have z := pw.drop (i := i)
              rw [dr] at z
              exact (List.pairwise_cons.mp z).1 h List.mem_cons_self
            rw [dr, rgC_cons, ← dr1] at hT
            have K6 := K5.nw (o := .tup [V.int l, V.int h]) hT1
            have hT6 : upd H5 T1 (.tup [V.int l, V.int h]) T1 = some (.tup [V.int l, V.int h]) := upd_same
            generalize upd H5 T1 (.tup [V.int l, V.int h]) = H6 at K6 hT6 ⊢
            refine HS.gtup (HS.st hT6) rfl ?_
            walk_at "hs"
            intro d hd
            walk_at "hs"
            have hd4 : H4 d = none := K6.free hd id
            have K7 := K6.nw (o := .dK []) hd
            have hd7 : upd H6 d (.dK []) d = some (.dK (wK [])) := upd_same
            generalize upd H6 d (.dK []) = H7 at K7 hd7 ⊢
            refine ⟨⟨_, HS.sq (K7 _ _ hr4 id)⟩, for_list (xs := zs) (fun j σ H' => HS.Keep (fun _ => False) H4 H' ∧ ∃ (ws : List (Int × Int)) (x1 x2 x3 x4 : Option V), H' d = some (.dK (wK ws)) ∧ (ws.map (·.1)).Nodup ∧ wV (fun n => sqr n l h) ws = rgP (rs.take j) l h ∧ (∀ x ∈ ws, 0 ≤ x.1 ∧ x.1 < 2 ^ 40 ∧ 0 ≤ x.2 ∧ x.2 ≤ 10 * j) ∧ ws.length ≤ j ∧ (ws ≠ [] → 1 ≤ l ∧ l ≤ h ∧ h ≤ 100001) ∧ σ = [some (.ref r), x1, x2, x3, x4, some (.ref P), some (.int tot), some (.int l), some (.int h), some (.ref d), x10, x11]) ⟨K7, [], _, _, _, _, hd7, List.nodup_nil, rfl, fun x hx => absurd hx List.not_mem_nil, Nat.le_refl _, fun z => absurd rfl z, rfl⟩ (fun j σ H' _ ⟨K', _⟩ => HS.sq (K' _ _ hr4 id)) ?_ ?_⟩
            · rintro j x σ H8 hj ⟨K8, ws, x1, x2, x3, x4, h8, nd, hW, hB, hwl, hab, rfl⟩
              obtain ⟨t, y, rfl, hy, ht⟩ := hR4.get hj
              have hjl := (List.getElem?_eq_some_iff.mp hj).1
              have o := hO y (List.mem_of_getElem? hy)
              have et : rs.take (j + 1) = rs.take j ++ [y] := by rw [List.take_add_one, hy]; rfl
              have hB2 : ∀ x ∈ ws, 0 ≤ x.1 ∧ x.1 < 2 ^ 40 ∧ 0 ≤ x.2 ∧ x.2 ≤ 10 * ((j + 1 : Nat) : Int) := fun x hx => by
                obtain ⟨q1, q2, q3, q4⟩ := hB x hx
                exact ⟨q1, q2, q3, by push_cast; omega⟩
              refine HS.gtup (HS.st (K8 _ _ ht id)) rfl ?_
              walk_at "hs"
              refine HS.itd (fun c1 => ?_) (fun c1 => ?_)
              · walk_at "hs"
                refine HS.itd (fun c2 => ?_) (fun c2 => ?_)
                · walk_at "hs"
                  refine dg2 ?_
                  walk_at "hs"
                  refine ⟨.inl ⟨_, .inl h8⟩, ?_⟩
                  walk_at "hs"
                  refine ⟨_, DGet.k (k := .inl y.n) h8, ?_⟩
                  rw [wGet, getD_int]
                  walk_at "hs"
                  refine ⟨d, _, rfl, DPut.k (k := .inl y.n) h8 (HS.sz (by rw [wLen]; omega)), ?_⟩
                  rw [wPut y.n y.m nd]
                  have al := addW_len (n := y.n) (m := y.m) ws
                  have hb := addW_ne (c := 10 * (j : Int)) ⟨o.n0, o.n1⟩ o.m0 o.m1 (by omega) hB
                  refine ⟨K8.put hd4, addW ws y.n y.m, _, _, _, _, upd_same, addW_nodup nd, by rw [addW_V, et, rgP_snoc, if_pos ⟨c1, c2⟩, hW], fun x hx => ?_, by omega, fun _ => ?_, rfl⟩
                  · have := hb x hx
                    push_cast
                    omega
                  · have := o.a1
                    have := o.b1
                    omega
                · walk_at "hs"
                  exact ⟨K8, ws, _, _, _, _, h8, nd, by rw [et, rgP_snoc, if_neg fun z => c2 z.2, hW, Int.add_zero], hB2, by omega, hab, rfl⟩
              · walk_at "hs"
                exact ⟨K8, ws, _, _, _, _, h8, nd, by rw [et, rgP_snoc, if_neg fun z => c1 z.1, hW, Int.add_zero], hB2, by omega, hab, rfl⟩
            · rintro σ H8 ⟨K8, ws, x1, x2, x3, x4, h8, nd, hW, hB, hwl, hab, rfl⟩
              rw [List.take_of_length_le (by omega)] at hW
              walk_at "hs"
              refine ⟨d, ws, l, h, rfl, h8, nd, fun x hx => ?_, by omega, hab, fun H9 v K9 hv => ?_⟩
              · obtain ⟨q1, q2, q3, q4⟩ := hB x hx
                exact ⟨q1, q2, q3, by omega⟩
              · subst hv
                walk_at "hs"
                exact ⟨K8.trans K9, _, _, _, _, _, _, _, _, _, _, by rw [hW]; omega, rfl⟩
          · rintro σ H5 ⟨K5, tot, x1, x2, x3, x4, x7, x8, x9, x10, x11, hT, rfl⟩
            walk_at "hs"
            refine k _ _ (K1.trans (K3.trans (K4.trans K5))) ?_
            rw [← hT]
            cases es with
            | nil => rw [List.drop_nil, rgC_nil]; omega
            | cons e es =>
              have : ∃ z, (e :: es).drop ((e :: es).length - 1) = [z] := by
                refine ⟨(e :: es)[(e :: es).length - 1]'(by simp), ?_⟩
                rw [List.drop_eq_getElem_cons (by simp), List.drop_eq_nil_of_le (by simp)]
              obtain ⟨z, ez⟩ := this
              rw [ez, rgC_one]
              omega
theorem mulS {i j : Int} (a b : Nat) (h0 : -(2 ^ a) < i) (h1 : i < 2 ^ a) (g0 : -(2 ^ b) < j) (g1 : j < 2 ^ b) (ha : 0 < a) (hb : 0 < b) (h : a + b ≤ 1000000) : CMulW i j := by
  have f : ∀ (x : Int) (c : Nat), -(2 ^ c) < x → x < 2 ^ c → x.natAbs < 2 ^ c := fun x c h0 h1 => by
    have e : ((2 ^ c : Nat) : Int) = (2 : Int) ^ c := by simp
    have : ((x.natAbs : Nat) : Int) < ((2 ^ c : Nat) : Int) := by rw [e]; omega
    exact Int.ofNat_lt.mp this
  exact wide_mul (a := a) (b := b) (f i a h0 h1) (f j b g0 g1) ha hb h
theorem RgsH.snoc {H : Hp} {zs : List V} {rs : List Rg} {t : Addr} {y : Rg} (h : RgsH H zs rs) (ht : H t = some (.tup [.int y.a, .int y.b, .int y.n, .int y.m])) : RgsH H (zs ++ [.ref t]) (rs ++ [y]) := by
  refine ⟨by rw [List.length_append, List.length_append, h.1]; rfl, fun i x e => ?_⟩
  by_cases c : i < rs.length
  · rw [List.getElem?_append_left c] at e
    rw [List.getElem?_append_left (by rw [h.1]; exact c)]
    exact h.2 i x e
  · have hi : i = rs.length := by
      have := (List.getElem?_eq_some_iff.mp e).1
      rw [List.length_append, List.length_singleton] at this
      omega
    subst hi
    rw [List.getElem?_append_right (Nat.le_refl _), Nat.sub_self] at e
    cases e
    exact ⟨t, by rw [← h.1, List.getElem?_append_right (Nat.le_refl _), Nat.sub_self]; rfl, ht⟩
theorem RgsH.put {H H' : Hp} {zs l : List V} {rs : List Rg} {R : Addr} (h : RgsH H zs rs) (k : HS.Keep (fun a => a = R) H H') (hR : H R = some (.lst l)) : RgsH H' zs rs := ⟨h.1, fun i x e => by
  obtain ⟨t, h1, h2⟩ := h.2 i x e
  exact ⟨t, h1, k _ _ h2 fun z => by rw [z, hR] at h2; cases h2⟩⟩
theorem root_div {z r be : Int} (z0 : 0 ≤ z) (r0 : 0 ≤ r) (h : z < (r + 1) * (r + 1)) (b : r + 1 ≤ be) : z / be ≤ r := by
  have : z / be < r + 1 := (Int.ediv_lt_iff_lt_mul (by omega)).mpr (Int.lt_of_lt_of_le h (Int.mul_le_mul_of_nonneg_left b (by omega)))
  omega
def sp_sum_quotients (K : PySem.W.Frag) : Sp := fun vs H Q _ => ∃ (b : Addr) (ls : List Int) (i j : Int), vs = [.ref b, .int i, .int j] ∧ (H b = some (.lst (ls.map V.int)) ∧ (∀ x ∈ ls, 0 ≤ x ∧ x < 10 ^ 10) ∧ ls.length ≤ 10 ∧ 1 ≤ i ∧ i ≤ j ∧ j < 2 ^ 109 ∧ ∀ H' v, HS.Keep (fun _ => False) H H' → v = (ls.map fun n => sqr n i (j + 1)).sum → Q (.int v) H')
theorem ok_sum_quotients (T : Txt K mg A) : FnOk P w K mg base CX0 4 A.a_sum_quotients A.d_sum_quotients ["numbers", "first", "last"] (sp_sum_quotients K) := by
  have G_sum_ranges : FnOk P w K mg base CX0 3 A.a_sum_ranges A.d_sum_ranges ["ranges"] (sp_sum_ranges K) := ok_sum_ranges T
  refine T.F_sum_quotients.ok sc_sum_quotients (fun vs H Q E h => ?_) (fun cdv A0 outer s H vs Q E hr h => ?_)
  · obtain ⟨b, ls, i, j, rfl, hw⟩ := h
    rfl
  · obtain ⟨b, ls, i, j, rfl, hw⟩ := h
    refine ⟨_, (pss_cons (ps_set (i := 3) sc_sum_quotients.nd rfl (.inl rfl) pe_int)
    (pss_cons (ps_set (i := 4) sc_sum_quotients.nd rfl (.inl rfl) (pe_lst pa_nil))
    (pss_cons (ps_for PassesOwn.never rfl (HS.kil K (pi_list (pe_callB (HS.ksortS w rfl) (by rfl) T.z_sorted (by decide +kernel) (pa_cons (pe_callTy (HS.kset K w rfl) (by rfl) T.z_set (by decide +kernel) (pa_cons (pv 0) pa_nil)) pa_nil)))) (pg_name (i := 5) sc_sum_quotients.nd rfl (.inl rfl))
      (pss_cons (ps_set (i := 6) sc_sum_quotients.nd rfl (.inl rfl) (HS.kbm K (pe_bm PySem.F.plainAttrs_list PySem.F.slot_list_count PySem.F.type_list_count (HS.kcnt K) (pv 0) (pa_cons (pv 5) pa_nil))))
    (pss_cons (ps_set (i := 7) sc_sum_quotients.nd rfl (.inl rfl) (pe_callB (call_min2 rfl) (by rfl) T.z_min (by decide +kernel) (pa_cons (pe_callB (call_max2 rfl) (by rfl) T.z_max (by decide +kernel) (pa_cons (pv 1) (pa_cons (pe_op op_add (pe_callBfun HS.cr_isqrt (by rfl) T.y_isqrt (pa_cons (pv 5) pa_nil)) pe_int) pa_nil))) (pa_cons (pe_op op_add (pv 2) pe_int) pa_nil))))
    (pss_cons (ps_set (i := 8) sc_sum_quotients.nd rfl (.inl rfl) (pe_op op_fdivW (pv 5) (pe_op op_add (pv 2) pe_int)))
    (pss_cons (ps_set (i := 9) sc_sum_quotients.nd rfl (.inl rfl) (pe_op op_fdivW (pv 5) (pv 7)))
    (pss_cons (ps_set (i := 3) sc_sum_quotients.nd rfl (.inl rfl) (pe_op op_add (pv 3) (pe_op op_mulW (pv 6) (pe_op op_sub (pe_op op_mulW (pv 8) (pv 2)) (pe_op op_mulW (pv 9) (pe_op op_sub (pv 7) pe_int))))))
    (pss_cons (ps_expr (HS.kbm K (pe_bm PySem.F.plainAttrs_list PySem.F.slot_list_append PySem.F.type_list_append mt_append (pv 4) (pa_cons (pe_tup (pa_cons (pv 1) (pa_cons (pv 7) (pa_cons (pv 5) (pa_cons (pv 6) pa_nil))))) pa_nil))))
    (pss_one (ps_expr (HS.kbm K (pe_bm PySem.F.plainAttrs_list PySem.F.slot_list_append PySem.F.type_list_append mt_append (pv 4) (pa_cons (pe_tup (pa_cons (pe_op op_add (pv 8) pe_int) (pa_cons (pe_op op_add (pv 9) pe_int) (pa_cons (pv 5) (pa_cons (pv 6) pa_nil))))) pa_nil))))))))))))
    (pss_one (ps_ret (pe_op op_add (pv 3) (pe_call G_sum_ranges hr (by rfl) T.g_sum_ranges T.F_sum_ranges.kp T.b_sum_ranges .nil pass0 (pa_cons (pv 4) pa_nil)))))))), ?_⟩
    obtain ⟨hb, hL, hn, i0, ij, j1, k⟩ := hw
    walk_at "hs"
    intro R hR
    walk_at "hs"
    have hbR := ne_of_none hb hR
    have hb1 := (HS.Keep.new (S := fun _ => False) (o := .lst []) hR).sq (K := K) (HS.sq hb) id
    refine ⟨b, ls, rfl, hb1, by omega, fun p hp => ?_⟩
    walk_at "hs"
    refine ⟨p, ls, rfl, upd_same, fun H1 q K1 hq0 hq => ?_⟩
    have hRp : R ≠ p := ne_of_none upd_same hp
    have hR1 : H1 R = some (.lst []) := K1 _ _ (by rw [upd_ne hRp]; exact upd_same) id
    have hp0 : H p = none := by rw [upd_ne hRp.symm] at hp; exact hp
    have K01 : HS.Keep (fun _ => False) H H1 := ((HS.Keep.new hR).put hp0).trans K1
    have hqR : q ≠ R := fun z => by rw [z, upd_ne hRp, upd_same] at hq0; cases hq0
    clear hb1 K1 hq0 hp
    walk_at "hs"
    have e0 : ∀ l : List Int, (l.take 0).map (fun z => (ls.count z : Int) * sqr z i (j + 1)) = [] := fun l => by simp
    refine ⟨⟨_, HS.sq hq⟩, for_list (xs := (HS.dst ls).map V.int) (fun m σ H' => HS.Keep (fun a => a = R) H1 H' ∧ ∃ (zs : List V) (rs : List Rg) (tot : Int) (x5 x6 x7 x8 x9 : Option V), H' R = some (.lst zs) ∧ RgsH H' zs rs ∧ (∀ x ∈ rs, RgOk x) ∧ rs.length = 2 * m ∧ tot + rgV rs = (((HS.dst ls).take m).map fun z => (ls.count z : Int) * sqr z i (j + 1)).sum ∧ σ = [some (.ref b), some (.int i), some (.int j), some (.int tot), some (.ref R), x5, x6, x7, x8, x9]) ⟨.refl, [], [], 0, _, _, _, _, _, hR1, ⟨rfl, fun i x e => by simp at e⟩, fun v hv => absurd hv List.not_mem_nil, rfl, by rw [e0]; rfl, rfl⟩ (fun m σ H' _ ⟨K', _⟩ => HS.sq (K' _ _ hq hqR)) ?_ ?_⟩
    · rintro m x σ H2 hm ⟨K2, zs, rs, tot, x5, x6, x7, x8, x9, hR2, hG, hO, hrs, hT, rfl⟩
      obtain ⟨z, rfl, hz, hml⟩ := HS.get_int hm
      have hz2 := hL z (HS.dst_mem.mp (List.mem_of_getElem? hz))
      have hdl := HS.dst_len ls
      have hb2 := K2 _ _ (K01 _ _ hb id) hbR
      have hzl : zs.length = 2 * m := by rw [hG.1, hrs]
      have eT : (((HS.dst ls).take (m + 1)).map fun z => (ls.count z : Int) * sqr z i (j + 1)).sum = (((HS.dst ls).take m).map fun z => (ls.count z : Int) * sqr z i (j + 1)).sum + (ls.count z : Int) * sqr z i (j + 1) := by
        rw [List.take_add_one, hz, List.map_append, List.sum_append]
        show _ + (((ls.count z : Int) * sqr z i (j + 1)) + 0) = _
        omega
      rw [← hT] at eT
      clear hT
      walk_at "hs"
      refine ⟨b, ls, z, rfl, rfl, HS.sq hb2, ?_⟩
      have hcm := List.count_le_length (a := z) (l := ls)
      generalize ls.count z = many at hcm eT ⊢
      walk_at "hs"
      refine HS.oisq hz2.1 (by omega) fun r r0 r1 r2 => ?_
      walk_at "hs"
      have hr5 : r < 100000 := by
        rcases Int.lt_or_le r 100000 with h | h
        · exact h
        · have := Int.mul_le_mul (show (100000 : Int) ≤ r by omega) (show (100000 : Int) ≤ r by omega) (by decide) r0
          omega
      generalize hbe : (if j + 1 < if r + 1 > i then r + 1 else i then j + 1 else if r + 1 > i then r + 1 else i) = be
      have b1 : 1 ≤ be ∧ be ≤ j + 1 ∧ i ≤ be ∧ (i < be → be ≤ r + 1) ∧ (be = j + 1 ∨ r + 1 ≤ be) := by
        rw [← hbe]
        split <;> split <;> omega
      clear hbe
      obtain ⟨b1, b2, b3, b5, b4⟩ := b1
      refine ⟨HS.divW 120 (by omega) (by omega) (by decide) (by decide), ?_⟩
      walk_at "hs"
      refine ⟨HS.divW 120 (by omega) (by omega) (by decide) (by decide), ?_⟩
      walk_at "hs"
      have sp := sqr_prog (n := z) (first := i) (last := j) (be := be) hz2.1 i0 b3 b2
      have l0 : 0 ≤ z / (j + 1) := Int.ediv_nonneg hz2.1 (by omega)
      have l1 : z / (j + 1) ≤ z := Int.ediv_le_self _ hz2.1
      have g0 : 0 ≤ z / be := Int.ediv_nonneg hz2.1 (by omega)
      have g1 : z / be ≤ z := Int.ediv_le_self _ hz2.1
      have g3 : z / (j + 1) ≤ z / be := by
        refine (Int.le_ediv_iff_mul_le (by omega)).mpr ?_
        have h1 := Int.ediv_mul_le z (show j + 1 ≠ 0 by omega)
        have := Int.mul_le_mul_of_nonneg_left b2 l0
        omega
      have g2 : z / (j + 1) < z / be → z / be ≤ r := fun lt => by
        rcases b4 with e | h
        · rw [e] at lt; omega
        · exact root_div hz2.1 r0 r2 h
      generalize z / (j + 1) = le at l0 l1 g2 g3 sp ⊢
      generalize z / be = gr at g0 g1 g2 g3 sp ⊢
      have m1 : 0 ≤ le * j ∧ le * j ≤ 2 ^ 40 * 2 ^ 110 := ⟨Int.mul_nonneg l0 (by omega), Int.mul_le_mul (by omega) (by omega) (by omega) (by decide)⟩
      have m2 : 0 ≤ gr * (be - 1) ∧ gr * (be - 1) ≤ 2 ^ 40 * 2 ^ 110 := ⟨Int.mul_nonneg g0 (by omega), Int.mul_le_mul (by omega) (by omega) (by omega) (by decide)⟩
      refine ⟨mulS 40 110 (by omega) (by omega) (by omega) (by omega) (by decide) (by decide) (by decide), ?_⟩
      walk_at "hs"
      refine ⟨mulS 40 110 (by omega) (by omega) (by omega) (by omega) (by decide) (by decide) (by decide), ?_⟩
      walk_at "hs"
      refine ⟨mulS 20 160 (by omega) (by omega) (by omega) (by omega) (by decide) (by decide) (by decide), ?_⟩
      walk_at "hs"
      intro t1 ht1
      have nR1 := ne_of_none hR2 ht1
      walk_at "hs"
      have K3 : HS.Keep (fun a => a = R) H2 (upd (upd H2 t1 (.tup [.int i, .int be, .int z, .int many])) R (.lst (zs ++ [.ref t1]))) := (HS.Keep.new ht1).at rfl
      have hR3 : upd (upd H2 t1 (.tup [.int i, .int be, .int z, .int many])) R (.lst (zs ++ [.ref t1])) R = some (.lst (zs ++ [.ref t1])) := upd_same
      have h31 : upd (upd H2 t1 (.tup [.int i, .int be, .int z, .int many])) R (.lst (zs ++ [.ref t1])) t1 = some (.tup [.int i, .int be, .int z, .int many]) := by rw [upd_ne nR1.symm, upd_same]
      generalize upd (upd H2 t1 (.tup [.int i, .int be, .int z, .int many])) R (.lst (zs ++ [.ref t1])) = H3 at K3 hR3 h31 ⊢
      have G3 := (hG.put K3 hR2).snoc (y := ⟨i, be, z, many⟩) h31
      intro t2 ht2
      have nR2 := ne_of_none hR3 ht2
      walk_at "hs"
      have K4 : HS.Keep (fun a => a = R) H3 (upd (upd H3 t2 (.tup [.int (le + 1), .int (gr + 1), .int z, .int many])) R (.lst (zs ++ [.ref t1] ++ [.ref t2]))) := (HS.Keep.new ht2).at rfl
      have hR4 : upd (upd H3 t2 (.tup [.int (le + 1), .int (gr + 1), .int z, .int many])) R (.lst (zs ++ [.ref t1] ++ [.ref t2])) R = some (.lst (zs ++ [.ref t1] ++ [.ref t2])) := upd_same
      have h42 : upd (upd H3 t2 (.tup [.int (le + 1), .int (gr + 1), .int z, .int many])) R (.lst (zs ++ [.ref t1] ++ [.ref t2])) t2 = some (.tup [.int (le + 1), .int (gr + 1), .int z, .int many]) := by rw [upd_ne nR2.symm, upd_same]
      generalize upd (upd H3 t2 (.tup [.int (le + 1), .int (gr + 1), .int z, .int many])) R (.lst (zs ++ [.ref t1] ++ [.ref t2])) = H4 at K4 hR4 h42 ⊢
      have G4 := (G3.put K4 hR3).snoc (y := ⟨le + 1, gr + 1, z, many⟩) h42
      walk_at "hs"
      refine ⟨K2.trans (K3.trans K4), zs ++ [.ref t1] ++ [.ref t2], rs ++ [⟨i, be, z, many⟩] ++ [⟨le + 1, gr + 1, z, many⟩], _, _, _, _, _, _, hR4, G4, fun x hx => ?_, by simp; omega, ?_, rfl⟩
      · rcases List.mem_append.mp hx with hx | hx
        · rcases List.mem_append.mp hx with hx | hx
          · exact hO x hx
          · rw [List.mem_singleton.mp hx]
            exact ⟨b3, i0, by show i < _; omega, by show be < _; omega, fun h => by have := b5 h; show be ≤ _; omega, hz2.1, by show z < _; omega, Int.natCast_nonneg _, by show (many : Int) ≤ 10; omega⟩
        · rw [List.mem_singleton.mp hx]
          exact ⟨by show le + 1 ≤ gr + 1; omega, by show 1 ≤ le + 1; omega, by show le + 1 < _; omega, by show gr + 1 < _; omega, fun h => by have h : le + 1 < gr + 1 := h; have := g2 (by omega); show gr + 1 ≤ _; omega, hz2.1, by show z < _; omega, Int.natCast_nonneg _, by show (many : Int) ≤ 10; omega⟩
      · rw [eT, rgV_snoc, rgV_snoc, sp, Int.mul_add, Int.mul_add]
        show _ + (_ + (many : Int) * sqr z i be + (many : Int) * sqr z (le + 1) (gr + 1)) = _
        omega
    · rintro σ H2 ⟨K2, zs, rs, tot, x5, x6, x7, x8, x9, hR2, hG, hO, hrs, hT, rfl⟩
      rw [List.length_map] at hrs hT
      rw [List.take_length, once_sum (HS.dst_nodup ls) fun x hx => HS.dst_mem.mpr hx] at hT
      have hdl := HS.dst_len ls
      walk_at "hs"
      refine ⟨R, zs, rs, rfl, hR2, hG, hO, by omega, fun H3 v K3 hv => ?_⟩
      walk_at "hs"
      exact k _ _ ((HS.Keep.trans (fun a u e n => K2 a u (K01 a u e n) fun z => by rw [z, hR] at e; cases e) K3)) (by rw [hv]; exact hT)
def sp_total_pages (K : PySem.W.Frag) : Sp := fun vs H Q _ => ∃ (b : Addr) (ls : List Int) (i j : Int), vs = [.ref b, .int i, .int j] ∧ (SqL K H b (ls.map V.int) ∧ (∀ x ∈ ls, 1 ≤ x ∧ x ≤ 10 ^ 10) ∧ ls.length ≤ 10 ∧ 1 ≤ i ∧ 1 ≤ j ∧ i < 2 ^ 109 ∧ j < 2 ^ 109 ∧
  (∀ H' v, HS.Keep (fun _ => False) H H' → v = (if i ≤ j then tpN ls i (j + 1) else 0) → Q (.int v) H'))
theorem ok_total_pages (T : Txt K mg A) : FnOk P w K mg base CX0 5 A.a_total_pages A.d_total_pages ["book", "first", "last"] (sp_total_pages K) := by
  have G_check_book : FnOk P w K mg base CX0 1 A.a_check_book A.d_check_book ["book"] (sp_check_book K) := ok_check_book T
  have G_check_size : FnOk P w K mg base CX0 1 A.a_check_size A.d_check_size ["size"] (sp_check_size K) := ok_check_size T
  have G_sum_quotients : FnOk P w K mg base CX0 4 A.a_sum_quotients A.d_sum_quotients ["numbers", "first", "last"] (sp_sum_quotients K) := ok_sum_quotients T
  refine T.F_total_pages.ok sc_total_pages (fun vs H Q E h => ?_) (fun cdv A0 outer s H vs Q E hr h => ?_)
  · obtain ⟨b, ls, i, j, rfl, hw⟩ := h
    rfl
  · obtain ⟨b, ls, i, j, rfl, hw⟩ := h
    refine ⟨_, (pss_cons (ps_expr (pe_call G_check_book (hr.mono (by decide)) (by rfl) T.g_check_book T.F_check_book.kp T.b_check_book .nil pass0 (pa_cons (pv 0) pa_nil)))
    (pss_cons (ps_expr (pe_call G_check_size (hr.mono (by decide)) (by rfl) T.g_check_size T.F_check_size.kp T.b_check_size .nil pass0 (pa_cons (pv 1) pa_nil)))
    (pss_cons (ps_expr (pe_call G_check_size (hr.mono (by decide)) (by rfl) T.g_check_size T.F_check_size.kp T.b_check_size .nil pass0 (pa_cons (pv 2) pa_nil)))
    (pss_cons (ps_if (pt_cmpR op_gt (pv 1) (pv 2) (nomark _))
      (pss_one (ps_ret pe_int))
      pss_nil)
    (pss_one (ps_ret (pe_op op_add (pe_op op_mulW (pe_callB (HS.klen K) (by rfl) T.z_len PySem.boot_len (pa_cons (pv 0) pa_nil)) (pe_op op_add (pe_op op_sub (pv 2) (pv 1)) pe_int)) (pe_call G_sum_quotients hr (by rfl) T.g_sum_quotients T.F_sum_quotients.kp T.b_sum_quotients .nil pass0 (pa_cons (pe_lc (own := [("length", 3)]) (g := gName 3) (tt := tYes) rfl sc_total_pages.nd (HS.kil K (pi_list (pv 0))) (blkOk_by (own := [("length", 3)]) (N := N_total_pages) (sc := defScope s_total_pages) (by decide +kernel)) (fun _ _ _ _ _ => pg_name (i := 3) sc_total_pages.nd rfl (by first | exact .inl rfl | exact .inr rfl)) (fun _ _ _ _ _ => pts_nil) (fun _ _ _ _ _ => (pe_op op_sub (pv 3) pe_int))) (pa_cons (pv 1) (pa_cons (pv 2) pa_nil))))))))))), ?_⟩
    obtain ⟨hb, hL, hn, i0, j0, i1, j1, k⟩ := hw
    walk_at "hs"
    refine ⟨b, ls, rfl, hb, fun x hx => (hL x hx).1, fun H1 K1 => ?_⟩
    have hb1 := K1.sq hb id
    walk_at "hs"
    refine ⟨i, rfl, i0, ?_⟩
    walk_at "hs"
    refine ⟨j, rfl, j0, ?_⟩
    walk_at "hs"
    refine HS.itd (fun c3 => ?_) (fun c3 => ?_)
    · walk_at "hs"
      exact k _ _ K1 (by rw [if_neg (by omega)])
    · walk_at "hs"
      rw [List.length_map]
      refine ⟨mulS 20 120 (by omega) (by omega) (by omega) (by omega) (by decide) (by decide) (by decide), ?_⟩
      walk_at "hs"
      refine ⟨⟨_, hb1⟩, fun D hD => lc_list (xs := ls.map V.int) (fun m H' => HS.Keep (fun _ => False) H1 H' ∧ H' D = some (.lst (((ls.take m).map fun x => x - 1).map V.int))) ⟨.new hD, upd_same⟩ (fun m H' _ ⟨K', _⟩ => K'.sq hb1 id) ?_ ?_⟩
      · rintro m x H2 hm ⟨K2, h3⟩
        obtain ⟨z, rfl, hz, hml⟩ := HS.get_int hm
        walk_at "hs"
        refine ⟨_, h3, HS.sz (by simp; omega), K2.put hD, ?_⟩
        rw [upd_same, List.take_add_one, hz, List.map_append, List.map_append]
        rfl
      · rintro H2 ⟨K2, h3⟩
        rw [List.length_map, List.take_length] at h3
        walk_at "hs"
        refine ⟨D, _, i, j, rfl, h3, fun x hx => ?_, by rw [List.length_map]; exact hn, i0, by omega, j1, fun H3 v K3 hv => ?_⟩
        · obtain ⟨y, hy, rfl⟩ := List.mem_map.mp hx
          have y1 := hL y hy
          omega
        · walk_at "hs"
          refine k _ _ ((K1.trans K2).trans K3) ?_
          rw [hv, if_pos (by omega), List.map_map]
          unfold tpN
          rw [show j - i + 1 = j + 1 - i by omega]
          rfl
def sp__law_bag (K : PySem.W.Frag) : Sp := fun vs H Q _ => ∃ (a : Addr) (ns : List Int), vs = [.ref a] ∧ (SqL K H a (ns.map V.int) ∧ ns.length ≤ 63 ∧ ∀ H' s d, HS.Keep (fun _ => False) H H' → H s = none → H d = none → Bag H' s d 0 → Q (.ref s) H')
theorem ok__law_bag (T : Txt K mg A) : FnOk P w K mg base CX0 1 A.a__law_bag A.d__law_bag ["script"] (sp__law_bag K) := by
  refine T.F__law_bag.ok sc__law_bag (fun vs H Q E h => ?_) (fun cdv A0 outer s H vs Q E hr h => ?_)
  · obtain ⟨a, ns, rfl, hw⟩ := h
    rfl
  · obtain ⟨a, ns, rfl, hw⟩ := h
    refine ⟨_, (pss_cons (ps_par (i := 1) (j := 2) rfl sc__law_bag.nd rfl rfl (by decide) rfl rfl (pa_cons pe_int (pa_cons (pe_lst pa_nil) pa_nil)) (by rfl))
    (pss_cons (ps_for PassesOwn.never rfl (HS.kil K (pi_list (pv 0))) (pg_name (i := 3) sc__law_bag.nd rfl (.inl rfl))
      (pss_cons (ps_set (i := 1) sc__law_bag.nd rfl (.inl rfl) (pe_op op_mod (pe_op op_add (pe_op op_mul (pv 1) pe_int) (pv 3)) pe_int))
    (pss_one (ps_if (pt_cmpR op_ge (pe_callB call_abs (by rfl) T.z_abs (by decide +kernel) (pa_cons (pv 3) pa_nil)) (HS.pe_fold (1000000000000000000) (pe_op op_pow pe_int pe_int) (by intro σ H Q q; walk_at "fold")) (nomark _))
      (pss_one (ps_expr (HS.kbm K (pe_bm PySem.F.plainAttrs_list PySem.F.slot_list_append PySem.F.type_list_append mt_append (pv 2) (pa_cons (pe_callB call_abs (by rfl) T.z_abs (by decide +kernel) (pa_cons (pv 3) pa_nil)) pa_nil)))))
      pss_nil))))
    (pss_one (ps_ret (pe_disp (pps_cons pe_str (pv 2) (pps_cons pe_str pe_int (pps_cons pe_str pe_int (pps_cons pe_str (pv 1) pps_nil)))) (by rfl) (by rfl) (fun z => by cases z) (by decide)))))), ?_⟩
    obtain ⟨hS, hl, k⟩ := hw
    walk_at "hs"
    intro d hd
    walk_at "hs"
    refine ⟨⟨_, HS.Keep.sq (S := fun _ => False) (HS.Keep.new hd) hS id⟩, for_list (xs := ns.map V.int) (fun i σ H1 => HS.Keep (fun _ => False) H H1 ∧ ∃ (gs : List Int) (m : Int) (x3 : Option V), σ = [some (.ref a), some (.int m), some (.ref d), x3] ∧ H1 d = some (.lst (gs.map V.int)) ∧ (∀ x ∈ gs, 0 ≤ x) ∧ gs.length ≤ i ∧ 0 ≤ m ∧ m < 2 ^ 61) ?_ ?_ ?_ ?_⟩
    · exact ⟨.new hd, [], _, _, rfl, upd_same, by simp, Nat.le_refl _, by decide, by decide⟩
    · rintro i σ H1 _ ⟨K1, _⟩
      exact K1.sq hS id
    · rintro i x σ H1 hi ⟨K1, gs, m, x3, rfl, hgd, hg0, hgl, hm0, hm1⟩
      obtain ⟨z, rfl, _, hil⟩ := HS.get_int hi
      walk_at "hs"
      have b0 : 0 ≤ (m * 1000003 + z) % 2305843009213693951 := Int.emod_nonneg _ (by decide)
      have b1 : (m * 1000003 + z) % 2305843009213693951 < 2 ^ 61 := Int.lt_trans (Int.emod_lt_of_pos _ (by decide)) (by decide)
      generalize (m * 1000003 + z) % 2305843009213693951 = m2 at b0 b1 ⊢
      refine HS.itd (fun hy => ?_) (fun hy => ?_)
      · walk_at "hs"
        refine ⟨K1.put hd, gs ++ [if z < 0 then -z else z], _, _, rfl, ?_, ?_, by simp; omega, b0, b1⟩
        · rw [upd_same, List.map_append]; rfl
        · intro x hx
          rcases List.mem_append.mp hx with hx | hx
          · exact hg0 x hx
          · rw [List.mem_singleton] at hx; subst hx; split <;> omega
      · walk_at "hs"
        exact ⟨K1, gs, _, _, rfl, hgd, hg0, by omega, b0, b1⟩
    · rintro σ H1 ⟨K1, gs, m, x3, rfl, hgd, hg0, hgl, hm0, hm1⟩
      walk_at "hs"
      refine HS.disp fun p hp => ?_
      refine ⟨.ref d, rfl, .int m, rfl, upd_same, HS.cells d 0 0 m, rfl, show 4 ≤ 15 by decide, ?_⟩
      have hdp : d ≠ p := ne_of_none hgd hp
      refine k _ p d ((K1.put (K1.free hp id)).put (K1.free hp id)) (K1.free hp id) hd ⟨fun z => hdp z.symm, gs, 0, 0, m, upd_same, ?_, hg0, by rw [List.length_map] at hgl; omega, by decide, hm0, hm1, by decide, Int.le_refl _⟩
      rw [upd_ne hdp, upd_ne hdp]; exact hgd
def sp__law_draw (K : PySem.W.Frag) : Sp := fun vs H Q _ => ∃ (s d : Addr) (many : Int) (n : Nat), vs = [.ref s, .int many] ∧ (Bag H s d n ∧ 0 < many ∧ many < 2 ^ 200 ∧ n < 2 ^ 40 ∧ ∀ H' v, HS.Keep (fun a => a = s ∨ a = d) H H' → Bag H' s d (n + 1) → 0 ≤ v → v < many → Q (.int v) H')
theorem ok__law_draw (T : Txt K mg A) : FnOk P w K mg base CX0 1 A.a__law_draw A.d__law_draw ["bag", "many"] (sp__law_draw K) := by
  refine T.F__law_draw.ok sc__law_draw (fun vs H Q E h => ?_) (fun cdv A0 outer s H vs Q E hr h => ?_)
  · obtain ⟨s, d, many, n, rfl, hw⟩ := h
    rfl
  · obtain ⟨s, d, many, n, rfl, hw⟩ := h
    refine ⟨_, (Evl.pss_cut (ps_if (PW.pt (pw_and (pt_cmpR op_lt (pe_dget (hu_of hr) (pv 0) pe_str (fun _ _ => rfl)) (pv 1) (nomark _)) (pw_and1 (pt_cmpR op_gt (pe_callB (HS.klen K) (by rfl) T.z_len PySem.boot_len (pa_cons (pe_dget (hu_of hr) (pv 0) pe_str (fun _ _ => rfl)) pa_nil)) pe_int (nomark _)))))
      (pss_one (ps_dput (hu_of hr) (pv 0) pe_str (HS.kbm K (pe_bm PySem.F.plainAttrs_list PySem.F.slot_list_pop PySem.F.type_list_pop mt_popAt (pe_dget (hu_of hr) (pv 0) pe_str (fun _ _ => rfl)) (pa_cons pe_int pa_nil))) rfl))
      pss_nil)
    (pss_cons (ps_if (pt_cmpR op_ge (pe_dget (hu_of hr) (pv 0) pe_str (fun _ _ => rfl)) (pv 1) (nomark _))
      (pss_cons (ps_set (i := 2) sc__law_draw.nd rfl (.inl rfl) (pe_op op_mod (pe_dget (hu_of hr) (pv 0) pe_str (fun _ _ => rfl)) (pv 1)))
    (pss_cons (ps_dput (hu_of hr) (pv 0) pe_str (pe_op op_fdivW (pe_dget (hu_of hr) (pv 0) pe_str (fun _ _ => rfl)) (pv 1)) rfl)
    (pss_one (ps_ret (pv 2)))))
      pss_nil)
    (pss_cons (ps_daug (hu_of hr) (pv 0) pe_str pe_int in_add (fun _ _ _ => rfl))
    (pss_cons (ps_set (i := 3) sc__law_draw.nd rfl (.inl rfl) (pe_dget (hu_of hr) (pv 0) pe_str (fun _ _ => rfl)))
    (pss_cons (ps_set (i := 4) sc__law_draw.nd rfl (.inl rfl) (pe_op op_add (pe_op op_mulW (pe_op op_add (pe_dget (hu_of hr) (pv 0) pe_str (fun _ _ => rfl)) (pe_op op_mul pe_int (pv 3))) (pe_op op_pow (pe_op op_add (pv 3) pe_int) pe_int)) (pe_op op_mul pe_int (pv 3))))
    (pss_one (ps_ret (pe_op op_mod (pe_op op_fdivW (pe_op op_mod (pe_op op_pow (pe_op op_mod (pv 4) pe_int) pe_int) (HS.pe_fold (1000000000000000009) (pe_op op_add (pe_op op_pow pe_int pe_int) pe_int) (by intro σ H Q q; walk_at "fold"))) pe_int) (pv 1))))))))), ?_⟩
    obtain ⟨⟨hsd, gs0, l0, c0, m0, hs0, hd0, hg0, hgl0, hl0, hm00, hm01, hc0, hc1⟩, hm0, hm1, hn, k⟩ := hw
    have hds : d ≠ s := fun z => hsd z.symm
    refine HS.cut (fun σ H1 => σ = [some (.ref s), some (.int many), none, none, none] ∧ HS.Keep (fun a => a = s ∨ a = d) H H1 ∧ ∃ (gs : List Int) (l : Int), H1 s = some (.dK (HS.cells d l c0 m0)) ∧ H1 d = some (.lst (gs.map V.int)) ∧ (∀ x ∈ gs, 0 ≤ x) ∧ gs.length ≤ 63 ∧ 0 ≤ l) ?_ ?_
    · walk_at "hs"
      refine HS.itd (fun h1 => ?_) (fun h1 => ?_)
      · walk_at "hs"
        rw [List.length_map]
        refine HS.itd (fun h2 => ?_) (fun h2 => ?_)
        · walk_at "hs"
          cases gs0 with
          | nil => exact absurd h2 (by decide)
          | cons y ys =>
            refine HS.pop0 (y := .int y) (ys := ys.map V.int) (by walk_at "hp") ?_
            walk_at "hs"
            refine ⟨rfl, by walk_at "kp", ys, y, upd_same, by walk_at "hp", fun x hx => hg0 x (List.mem_cons_of_mem _ hx), Nat.le_of_succ_le hgl0, hg0 y List.mem_cons_self⟩
        · walk_at "hs"
          exact ⟨rfl, .refl, gs0, l0, hs0, hd0, hg0, hgl0, hl0⟩
      · walk_at "hs"
        exact ⟨rfl, .refl, gs0, l0, hs0, hd0, hg0, hgl0, hl0⟩
    · rintro σ H1 ⟨rfl, K1, gs, l, hs1, hd1, hg1, hgl1, hl1⟩
      walk_at "hs"
      refine HS.itd (fun hl => ?_) (fun hl => ?_)
      · walk_at "hs"
        refine ⟨HS.divW 200 hm0 hm1 (by decide) (by decide), ?_⟩
        walk_at "hs"
        exact k _ _ (by walk_at "kp") ⟨hsd, gs, l / many, c0, m0, upd_same, by walk_at "hp", hg1, hgl1, Int.ediv_nonneg hl1 (by omega), hm00, hm01, hc0, by omega⟩ (Int.emod_nonneg _ (by omega)) (Int.emod_lt_of_pos _ hm0)
      · walk_at "hs"
        obtain ⟨p0, p1⟩ := HS.pow_lt (i := c0 + 1 + 29) (a := 50) 2 (by omega) (by omega)
        have p2 : (c0 + 1 + 29) ^ Int.toNat 2 < 2 ^ 100 := by
          rcases p1 with h | h
          · exact h
          · exact absurd h (by decide)
        have p0' : 0 ≤ (c0 + 1 + 29) ^ Int.toNat 2 := p0
        generalize (c0 + 1 + 29) ^ Int.toNat 2 = cu at p2 p0' ⊢
        refine ⟨HS.mulW 70 100 (by omega) (by omega) p0' p2 (by decide) (by decide) (by decide), ?_⟩
        walk_at "hs"
        exact k _ _ (by walk_at "kp") ⟨hsd, gs, l, c0 + 1, m0, upd_same, by walk_at "hp", hg1, hgl1, hl1, hm00, hm01, by omega, by omega⟩ (Int.emod_nonneg _ (by omega)) (Int.emod_lt_of_pos _ hm0)
def sp__law_lengths (K : PySem.W.Frag) : Sp := fun vs H Q _ => ∃ (s d : Addr) (upto far : Int) (n : Nat), vs = [.ref s, .int upto, .int far] ∧ (Bag H s d n ∧ 0 ≤ upto ∧ upto ≤ 100 ∧ 1 ≤ far ∧ far < 10 ^ 30 ∧ n < 2 ^ 32 ∧ ∀ H' p (ls : List Int), HS.Keep (fun a => a = s ∨ a = d) H H' → H p = none → H' p = some (.lst (ls.map V.int)) → (ls.length : Int) ≤ upto → (∀ x ∈ ls, 1 ≤ x ∧ x ≤ far + 130) → Bag H' s d (n + 401) → Q (.ref p) H')
theorem ok__law_lengths (T : Txt K mg A) : FnOk P w K mg base CX0 2 A.a__law_lengths A.d__law_lengths ["bag", "upto", "far"] (sp__law_lengths K) := by
  have G__law_draw : FnOk P w K mg base CX0 1 A.a__law_draw A.d__law_draw ["bag", "many"] (sp__law_draw K) := ok__law_draw T
  refine T.F__law_lengths.ok sc__law_lengths (fun vs H Q E h => ?_) (fun cdv A0 outer s H vs Q E hr h => ?_)
  · obtain ⟨s, d, upto, far, n, rfl, hw⟩ := h
    rfl
  · obtain ⟨s, d, upto, far, n, rfl, hw⟩ := h
    refine ⟨_, (pss_cons (ps_set (i := 3) sc__law_lengths.nd rfl (.inl rfl) (pe_lst pa_nil))
    (pss_cons (ps_for PassesOwn.never rfl (pi_range1 (by rfl) T.z_range (pa_cons (pe_call G__law_draw hr (by rfl) T.g__law_draw T.F__law_draw.kp T.b__law_draw .nil pass0 (pa_cons (pv 0) (pa_cons (pe_op op_add (pv 1) pe_int) pa_nil))) pa_nil)) (pg_name (i := 4) sc__law_lengths.nd rfl (.inl rfl))
      (pss_cons (ps_set (i := 5) sc__law_lengths.nd rfl (.inl rfl) (pe_op op_add pe_int (pe_call G__law_draw hr (by rfl) T.g__law_draw T.F__law_draw.kp T.b__law_draw .nil pass0 (pa_cons (pv 0) (pa_cons (pe_ix (HS.ixt K) (pe_tup (pa_cons pe_int (pa_cons pe_int (pa_cons (pv 2) pa_nil)))) (pe_call G__law_draw hr (by rfl) T.g__law_draw T.F__law_draw.kp T.b__law_draw .nil pass0 (pa_cons (pv 0) (pa_cons pe_int pa_nil))) (fun _ _ => rfl)) pa_nil)))))
    (Evl.pss_cut (ps_if (PW.pt (pw_and (pt_cmpR op_gt (pe_callB (HS.klen K) (by rfl) T.z_len PySem.boot_len (pa_cons (pv 3) pa_nil)) pe_int (nomark _)) (pw_and1 (pt_cmpR op_eq (pe_call G__law_draw hr (by rfl) T.g__law_draw T.F__law_draw.kp T.b__law_draw .nil pass0 (pa_cons (pv 0) (pa_cons pe_int pa_nil))) pe_int (nomark _)))))
      (pss_one (ps_set (i := 5) sc__law_lengths.nd rfl (.inl rfl) (pe_op op_add (pe_ix (HS.ixl K) (pv 3) (pe_un un_neg pe_int) (fun _ _ => rfl)) (pe_call G__law_draw hr (by rfl) T.g__law_draw T.F__law_draw.kp T.b__law_draw .nil pass0 (pa_cons (pv 0) (pa_cons pe_int pa_nil))))))
      pss_nil)
    (pss_one (ps_expr (HS.kbm K (pe_bm PySem.F.plainAttrs_list PySem.F.slot_list_append PySem.F.type_list_append mt_append (pv 3) (pa_cons (pv 5) pa_nil))))))))
    (pss_one (ps_ret (pv 3))))), ?_⟩
    obtain ⟨B0, u0, u1, f0, f1, hn, k⟩ := hw
    have W := wd_bag (S := fun a => a = s ∨ a = d) B0 (.inl rfl) (.inr rfl)
    walk_at "hs"
    intro D hD
    generalize hG_D : upd _ D _ = H1
    have Kn_D := HS.upgK hG_D hD
    replace W := W.newG hG_D hD
    clear hG_D hD
    try dsimp only [List.set, List.cons_append, List.nil_append] at W
    walk_at "hs"
    refine ⟨s, d, _, n, rfl, W.bag 0 1 rfl rfl, by omega, by omega, by omega, fun H2 v K2 B2 v0 v1 => ?_⟩
    replace W := W.bagged 0 1 rfl rfl K2 B2 (by omega)
    walk_at "hs"
    refine ⟨by omega, by omega, for_range (n := v.toNat) (fun i σ H' => ∃ ls : List Int, HS.Wd H H' (fun a => a = s ∨ a = d) [(s, BagO d (n + 1 + 4 * i)), (d, GreatO), (D, Eq (.lst (ls.map V.int)))] ∧ ls.length = i ∧ (∀ x ∈ ls, 1 ≤ x ∧ x ≤ far + 30 + i) ∧ ∃ x4 x5, σ = [some (.ref s), some (.int upto), some (.int far), some (.ref D), x4, x5]) ?_ ?_ ?_⟩
    · exact ⟨[], W, rfl, fun x hx => absurd hx List.not_mem_nil, _, _, rfl⟩
    · rintro i σ H3 hi ⟨ls, W, hl, hL, x4, x5, rfl⟩
      walk_at "hs"
      intro t ht
      generalize hG_t : upd _ t _ = H4
      have Kn_t := HS.upgK hG_t ht
      replace W := W.newG hG_t ht
      clear hG_t ht
      try dsimp only [List.set, List.cons_append, List.nil_append] at W
      walk_at "hs"
      refine ⟨s, d, _, _, rfl, W.bag 0 1 rfl rfl, by decide, by decide, by omega, fun H5 e K5 B5 e0 e1 => ?_⟩
      replace W := W.bagged 0 1 rfl rfl K5 B5 (by omega)
      refine HS.ixTI [5, 30, far] (W.st 3 rfl) e0 e1 fun z _ hz => ?_
      have hz' : 1 ≤ z ∧ z ≤ far + 30 := by
        simp only [List.mem_cons, List.not_mem_nil, or_false] at hz
        rcases hz with rfl | rfl | rfl <;> omega
      walk_at "hs"
      refine ⟨s, d, _, _, rfl, W.bag 0 1 rfl rfl, by omega, by omega, by omega, fun H6 g K6 B6 g0 g1 => ?_⟩
      replace W := (W.bagged 0 1 rfl rfl K6 B6 (by omega)).take 3
      walk_at "hs"
      refine HS.cut (fun σ H' => ∃ many : Int, HS.Wd H H' (fun a => a = s ∨ a = d) [(s, BagO d (n + 1 + 4 * (i + 1))), (d, GreatO), (D, Eq (.lst (ls.map V.int)))] ∧ 1 ≤ many ∧ many ≤ far + 30 + (i + 1 : Nat) ∧ σ = [some (.ref s), some (.int upto), some (.int far), some (.ref D), some (.int (0 + (i : Nat))), some (.int many)]) ?_ ?_
      · have W0 := W
        walk_at "hs"
        refine HS.lenL (W.sq 2 rfl) ?_
        walk_at "hs"
        rw [List.length_map]
        refine HS.itd (fun c1 => ?_) (fun c1 => ?_)
        · walk_at "hs"
          refine ⟨s, d, _, _, rfl, W.bag 0 1 rfl rfl, by decide, by decide, by omega, fun H7 a K7 B7 a0 a1 => ?_⟩
          replace W := W.bagged 0 1 rfl rfl K7 B7 (by omega)
          walk_at "hs"
          refine HS.itd (fun c2 => ?_) (fun c2 => ?_)
          · walk_at "hs"
            have hne : ls ≠ [] := fun z => by rw [z] at c1; exact absurd c1 (by decide)
            obtain ⟨z2, ez2, hz2⟩ : ∃ z2, ls = ls.dropLast ++ [z2] ∧ z2 ∈ ls := ⟨ls.getLast hne, (List.dropLast_concat_getLast hne).symm, List.getLast_mem hne⟩
            have hz3 := hL z2 hz2
            refine HS.ixL (W.sq 2 rfl) (HS.at_last (ys := ls.dropLast.map V.int) (v := .int z2) (by rw [ez2, List.map_append, List.dropLast_concat]; rfl)) ?_
            walk_at "hs"
            refine ⟨s, d, _, _, rfl, W.bag 0 1 rfl rfl, by decide, by decide, by omega, fun H8 f K8 B8 f0 f1 => ?_⟩
            replace W := W.bagged 0 1 rfl rfl K8 B8 (by omega)
            walk_at "hs"
            exact ⟨_, W.bup 0 rfl (by omega), by omega, by omega, rfl⟩
          · walk_at "hs"
            exact ⟨_, W.bup 0 rfl (by omega), by omega, by omega, rfl⟩
        · walk_at "hs"
          exact ⟨_, W.bup 0 rfl (by omega), by omega, by omega, rfl⟩
      · rintro σ7 H7 ⟨many, W, m0, m1, rfl⟩
        walk_at "hs"
        refine HS.tyL (W.at 2 rfl) ?_
        walk_at "hs"
        refine HS.app (W.at 2 rfl) ⟨HS.sz (by rw [List.length_map]; omega), ?_⟩
        generalize hG_D : upd _ D _ = H8
        replace W := W.putG 2 rfl hG_D
        clear hG_D
        try dsimp only [List.set, List.cons_append, List.nil_append] at W
        walk_at "hs"
        refine ⟨ls ++ [many], by rw [List.map_append]; exact W, by rw [List.length_append, hl]; rfl, fun x hx => ?_, _, _, rfl⟩
        rcases List.mem_append.mp hx with hx | hx
        · have := hL x hx
          omega
        · rw [List.mem_singleton] at hx
          subst hx
          omega
    · rintro σ H3 ⟨ls, W, hl, hL, x4, x5, rfl⟩
      walk_at "hs"
      refine k _ D ls W.kp ?_ (W.at 2 rfl) (by omega) (fun x hx => by have := hL x hx; omega) (((W.bup 0 rfl (by omega)).bag (n := n + 401) 0 1 rfl rfl))
      exact (W.fr _ (List.mem_of_getElem? (i := 2) rfl)).resolve_left fun z => z.elim (W.ne 2 0 rfl rfl) (W.ne 2 1 rfl rfl)
def sp__law_great (K : PySem.W.Frag) : Sp := fun vs H Q _ => ∃ (s d : Addr) (n : Nat), vs = [.ref s] ∧ (Bag H s d n ∧ n < 2 ^ 32 ∧ ∀ H' v, HS.Keep (fun a => a = s ∨ a = d) H H' → Bag H' s d (n + 2) → 0 ≤ v → v < 10 ^ 29 → Q (.int v) H')
theorem ok__law_great (T : Txt K mg A) : FnOk P w K mg base CX0 2 A.a__law_great A.d__law_great ["bag"] (sp__law_great K) := by
  have G__law_draw : FnOk P w K mg base CX0 1 A.a__law_draw A.d__law_draw ["bag", "many"] (sp__law_draw K) := ok__law_draw T
  refine T.F__law_great.ok sc__law_great (fun vs H Q E h => ?_) (fun cdv A0 outer s H vs Q E hr h => ?_)
  · obtain ⟨s, d, n, rfl, hw⟩ := h
    rfl
  · obtain ⟨s, d, n, rfl, hw⟩ := h
    refine ⟨_, (pss_one (ps_ret (pe_op op_add (pe_op op_mul (pe_call G__law_draw hr (by rfl) T.g__law_draw T.F__law_draw.kp T.b__law_draw .nil pass0 (pa_cons (pv 0) (pa_cons (HS.pe_fold (100000000000000) (pe_op op_pow pe_int pe_int) (by intro σ H Q q; walk_at "fold")) pa_nil))) (HS.pe_fold (100000000000000) (pe_op op_pow pe_int pe_int) (by intro σ H Q q; walk_at "fold"))) (pe_call G__law_draw hr (by rfl) T.g__law_draw T.F__law_draw.kp T.b__law_draw .nil pass0 (pa_cons (pv 0) (pa_cons (HS.pe_fold (100000000000000) (pe_op op_pow pe_int pe_int) (by intro σ H Q q; walk_at "fold")) pa_nil)))))), ?_⟩
    obtain ⟨B0, hn, k⟩ := hw
    walk_at "hs"
    refine ⟨s, d, _, _, rfl, B0, by decide, by decide, by omega, fun H1 a K1 B1 a0 a1 => ?_⟩
    walk_at "hs"
    refine ⟨s, d, _, _, rfl, B1, by decide, by decide, by omega, fun H2 b K2 B2 b0 b1 => ?_⟩
    walk_at "hs"
    exact k _ _ (K1.trans K2) B2 (by omega) (by omega)
def sp__law_needed (K : PySem.W.Frag) : Sp := fun vs H Q _ => ∃ (b : Addr) (ls : List Int) (n : Int), vs = [.ref b, .int n] ∧ (SqL K H b (ls.map V.int) ∧ ls.length ≤ 20 ∧ (∀ x ∈ ls, 1 ≤ x ∧ x < 2 ^ 40) ∧ 1 ≤ n ∧ n < 2 ^ 110 ∧ ∀ H' v, HS.Keep (fun _ => False) H H' → v = (ls.map fun l => (l + n - 1) / n).sum → 0 ≤ v → v ≤ ls.sum → Q (.int v) H')
theorem ok__law_needed (T : Txt K mg A) : FnOk P w K mg base CX0 1 A.a__law_needed A.d__law_needed ["chapters", "wide"] (sp__law_needed K) := by
  refine T.F__law_needed.ok sc__law_needed (fun vs H Q E h => ?_) (fun cdv A0 outer s H vs Q E hr h => ?_)
  · obtain ⟨b, ls, n, rfl, hw⟩ := h
    rfl
  · obtain ⟨b, ls, n, rfl, hw⟩ := h
    refine ⟨_, (pss_one (ps_ret (pe_callB (HS.ksum K rfl) (by rfl) T.z_sum (by decide +kernel) (pa_cons (pe_lc (own := [("many", 2)]) (g := gName 2) (tt := tYes) rfl sc__law_needed.nd (HS.kil K (pi_list (pv 0))) (blkOk_by (own := [("many", 2)]) (N := N__law_needed) (sc := defScope s__law_needed) (by decide +kernel)) (fun _ _ _ _ _ => pg_name (i := 2) sc__law_needed.nd rfl (by first | exact .inl rfl | exact .inr rfl)) (fun _ _ _ _ _ => pts_nil) (fun _ _ _ _ _ => (pe_op op_fdivW (pe_op op_sub (pe_op op_add (pv 2) (pv 1)) pe_int) (pv 1)))) pa_nil)))), ?_⟩
    obtain ⟨hb, hl, hL, n0, n1, k⟩ := hw
    walk_at "hs"
    refine ⟨⟨_, hb⟩, fun D hD => lc_list (xs := ls.map V.int) (fun i H' => HS.Keep (fun _ => False) H H' ∧ H' D = some (.lst (((ls.take i).map fun l => (l + n - 1) / n).map V.int))) ⟨.new hD, upd_same⟩ (fun i H' _ ⟨K', _⟩ => K'.sq hb id) ?_ ?_⟩
    · rintro i x H1 hi ⟨K1, h1⟩
      obtain ⟨z, rfl, hz, hil⟩ := HS.get_int hi
      have hz0 := hL z (List.mem_of_getElem? hz)
      walk_at "hs"
      refine ⟨HS.divW 120 (by omega) (by omega) (by decide) (by decide), ?_⟩
      walk_at "hs"
      refine ⟨_, h1, HS.sz (by simp; omega), K1.put hD, ?_⟩
      rw [upd_same, List.take_add_one, hz, List.map_append, List.map_append]
      rfl
    · rintro H1 ⟨K1, h1⟩
      rw [List.length_map, List.take_length] at h1
      walk_at "hs"
      have hv : 0 ≤ (ls.map fun l => (l + n - 1) / n).sum ∧ (ls.map fun l => (l + n - 1) / n).sum ≤ ls.sum := by
        clear h1 hb hl k
        induction ls with
        | nil => simp
        | cons x r ih =>
          have a := hL x List.mem_cons_self
          obtain ⟨c1, c2⟩ := ih fun y hy => hL y (List.mem_cons_of_mem x hy)
          have d := pages_one (l := x) n0
          have e0 : 0 ≤ (x - 1) / n := Int.ediv_nonneg (by omega) (by omega)
          have e1 : (x - 1) / n ≤ x - 1 := Int.ediv_le_self _ (by omega)
          rw [List.map_cons, List.sum_cons, List.sum_cons, d]
          omega
      exact k _ _ K1 rfl hv.1 hv.2
def sp__law_by_pairs (K : PySem.W.Frag) : Sp := fun vs H Q _ => ∃ (n en : Int), vs = [.int n, .int en] ∧ (0 ≤ n ∧ n < 10 ^ 10 ∧ 1 ≤ en ∧ en < 2 ^ 110 ∧ ∀ H' v, HS.Keep (fun _ => False) H H' → v = sqr n 1 (en + 1) → Q (.int v) H')
theorem ok__law_by_pairs (T : Txt K mg A) : FnOk P w K mg base CX0 1 A.a__law_by_pairs A.d__law_by_pairs ["many", "end"] (sp__law_by_pairs K) := by
  refine T.F__law_by_pairs.ok sc__law_by_pairs (fun vs H Q E h => ?_) (fun cdv A0 outer s H vs Q E hr h => ?_)
  · obtain ⟨n, en, rfl, hw⟩ := h
    rfl
  · obtain ⟨n, en, rfl, hw⟩ := h
    refine ⟨_, (pss_cons (ps_asg (pe_tup (pa_cons pe_int (pa_cons pe_int pa_nil))) (HS.kgt K (pg_tup rfl (pgs_cons (pg_name (i := 2) sc__law_by_pairs.nd rfl (.inl rfl)) (pgs_cons (pg_name (i := 3) sc__law_by_pairs.nd rfl (.inl rfl)) pgs_nil)))))
    (pss_cons (ps_while PassesOwn.never (pt_cmpR op_le (pe_op op_mulW (pe_op op_add (pv 2) pe_int) (pe_op op_add (pv 2) pe_int)) (pv 0) (nomark _))
      (pss_one (ps_aug (i := 2) sc__law_by_pairs.nd rfl (.inl rfl) pe_int ip_add)))
    (pss_cons (ps_for PassesOwn.never rfl (pi_range2 (by rfl) T.z_range (pa_cons pe_int (pa_cons (pe_op op_add (pe_callB (call_min2 rfl) (by rfl) T.z_min (by decide +kernel) (pa_cons (pv 2) (pa_cons (pv 1) pa_nil))) pe_int) pa_nil))) (pg_name (i := 4) sc__law_by_pairs.nd rfl (.inl rfl))
      (pss_one (ps_aug (i := 3) sc__law_by_pairs.nd rfl (.inl rfl) (pe_op op_fdivW (pv 0) (pv 4)) ip_add)))
    (pss_cons (ps_for PassesOwn.never rfl (pi_range2 (by rfl) T.z_range (pa_cons pe_int (pa_cons (pe_op op_add (pv 2) pe_int) pa_nil))) (pg_name (i := 5) sc__law_by_pairs.nd rfl (.inl rfl))
      (pss_cons (ps_par (i := 6) (j := 7) rfl sc__law_by_pairs.nd rfl rfl (by decide) rfl rfl (pa_cons (pe_callB (call_max2 rfl) (by rfl) T.z_max (by decide +kernel) (pa_cons (pv 2) (pa_cons (pe_op op_fdivW (pv 0) (pe_op op_add (pv 5) pe_int)) pa_nil))) (pa_cons (pe_callB (call_min2 rfl) (by rfl) T.z_min (by decide +kernel) (pa_cons (pv 1) (pa_cons (pe_op op_fdivW (pv 0) (pv 5)) pa_nil))) pa_nil)) (by rfl))
    (pss_one (ps_aug (i := 3) sc__law_by_pairs.nd rfl (.inl rfl) (pe_op op_mulW (pv 5) (pe_callB (call_max2 rfl) (by rfl) T.z_max (by decide +kernel) (pa_cons pe_int (pa_cons (pe_op op_sub (pv 7) (pv 6)) pa_nil)))) ip_add))))
    (pss_one (ps_ret (pv 3))))))), ?_⟩
    obtain ⟨n0, n1, e0, e1, k⟩ := hw
    walk_at "hs"
    intro p hp
    have hT : upd H p (.tup [V.int 1, V.int 0]) p = some (.tup [V.int 1, V.int 0]) := upd_same
    have K0 : HS.Keep (fun _ => False) H (upd H p (.tup [V.int 1, V.int 0])) := .new hp
    generalize upd H p (.tup [V.int 1, V.int 0]) = H0 at hT K0 ⊢
    refine HS.gtup (HS.st hT) rfl ?_
    walk_at "hs"
    refine ⟨fun m σ H1 => H1 = H0 ∧ ∃ (root : Int) (x4 x5 x6 x7 : Option V), m = (n + 2 - root).toNat ∧ 1 ≤ root ∧ (root = 1 ∨ root * root ≤ n) ∧ σ = [some (.int n), some (.int en), some (.int root), some (.int 0), x4, x5, x6, x7], ⟨_, rfl, 1, _, _, _, _, rfl, Int.le_refl 1, .inl rfl, rfl⟩, ?_⟩
    rintro m σ H1 ⟨rfl, root, x4, x5, x6, x7, rfl, r0, r1, rfl⟩
    have r5 : root < 100000 := by
      rcases r1 with r1 | r1
      · omega
      · rcases Int.lt_or_le root 100000 with h | h
        · exact h
        · have := Int.mul_le_mul h h (by decide) (by omega)
          omega
    walk_at "hs"
    refine ⟨HS.mulW 20 20 (by omega) (by omega) (by omega) (by omega) (by decide) (by decide) (by decide), ?_⟩
    walk_at "hs"
    refine HS.itd (fun c => ?_) (fun c => ?_)
    · have : (root + 1) * 1 ≤ (root + 1) * (root + 1) := Int.mul_le_mul_of_nonneg_left (by omega) (by omega)
      refine ⟨fun σ' H2 => H2 = H1 ∧ ∃ (x4 x5 x6 x7 : Option V), σ' = [some (.int n), some (.int en), some (.int (root + 1)), some (.int 0), x4, x5, x6, x7], ?_, ?_⟩
      · rintro σ' H2 ⟨rfl, x4', x5', x6', x7', rfl⟩
        exact ⟨(n + 2 - (root + 1)).toNat, by omega, rfl, root + 1, _, _, _, _, rfl, by omega, .inr c, rfl⟩
      · walk_at "hs"
        exact ⟨rfl, _, _, _, _, rfl⟩
    · walk_at "hs"
      generalize hm : (if en < root then en else root) = mn
      have hmn : mn = min root en := by rw [← hm]; split <;> omega
      clear hm
      refine ⟨by omega, for_range (n := (mn + 1 - 1).toNat) (fun i σ H' => H' = H1 ∧ ∃ (x4 x5 x6 x7 : Option V), σ = [some (.int n), some (.int en), some (.int root), some (.int (sq n 1 i)), x4, x5, x6, x7]) ⟨rfl, _, _, _, _, rfl⟩ ?_ ?_⟩
      · rintro i σ H2 hi ⟨rfl, x4, x5, x6, x7, rfl⟩
        walk_at "hs"
        refine ⟨HS.divW 40 (by omega) (by omega) (by decide) (by decide), ?_⟩
        walk_at "hs"
        exact ⟨rfl, some (.int (1 + (i : Int))), x5, x6, x7, by rw [sq_succ]; rfl⟩
      · rintro σ H2 ⟨rfl, x4, x5, x6, x7, rfl⟩
        have es : sq n 1 (mn + 1 - 1).toNat = sqr n 1 (min root en + 1) := by
          unfold sqr
          rw [← hmn]
        rw [es]
        walk_at "hs"
        refine ⟨by omega, for_range (n := (root + 1 - 1).toNat) (fun i σ H' => HS.Keep (fun _ => False) H H' ∧ ∃ (x4 x5 x6 x7 : Option V), σ = [some (.int n), some (.int en), some (.int root), some (.int (sqr n 1 (min root en + 1) + pairS n root en i)), x4, x5, x6, x7]) ⟨K0, _, _, _, _, by rw [show pairS n root en 0 = 0 from rfl, Int.add_zero]⟩ ?_ ?_⟩
        · rintro i σ H3 hi ⟨K3, x4, x5, x6, x7, rfl⟩
          walk_at "hs"
          refine ⟨HS.divW 40 (by omega) (by omega) (by decide) (by decide), ?_⟩
          walk_at "hs"
          refine ⟨HS.divW 40 (by omega) (by omega) (by decide) (by decide), ?_⟩
          walk_at "hs"
          have ep : pairS n root en (i + 1) = pairS n root en i + (1 + (i : Int)) * pairN n root en (1 + (i : Int)) := by
            show pairS n root en i + ((i + 1 : Nat) : Int) * pairN n root en ((i + 1 : Nat) : Int) = _
            rw [show ((i + 1 : Nat) : Int) = 1 + (i : Int) by push_cast; omega]
          have A0 : 0 ≤ n / (1 + (i : Int)) := Int.ediv_nonneg n0 (by omega)
          have A1 : n / (1 + (i : Int)) ≤ n := Int.ediv_le_self _ n0
          have B0 : 0 ≤ n / (1 + (i : Int) + 1) := Int.ediv_nonneg n0 (by omega)
          have eN : pairN n root en (1 + (i : Int)) = max 0 (min en (n / (1 + (i : Int))) - max root (n / (1 + (i : Int) + 1))) := rfl
          generalize pairN n root en (1 + (i : Int)) = pn at eN ep
          generalize n / (1 + (i : Int)) = A at A0 A1 eN ⊢
          generalize n / (1 + (i : Int) + 1) = B at B0 eN ⊢
          generalize hlo : (if B > root then B else root) = lo
          generalize hhi : (if A < en then A else en) = hi2
          generalize hd : (if hi2 - lo > 0 then hi2 - lo else 0) = df
          have hdf : df = pn := by
            rw [eN, ← hd, ← hlo, ← hhi]
            split <;> split <;> split <;> omega
          have d0 : 0 ≤ df ∧ df < 2 ^ 40 := by
            rw [hdf, eN]
            omega
          clear hd hlo hhi
          refine ⟨HS.mulW 20 40 (by omega) (by omega) d0.1 d0.2 (by decide) (by decide) (by decide), ?_⟩
          walk_at "hs"
          refine ⟨K3, x4, some (.int (1 + (i : Int))), some (.int lo), some (.int hi2), ?_⟩
          rw [ep, hdf, Int.add_assoc]
          rfl
        · rintro σ H3 ⟨K3, x4, x5, x6, x7, rfl⟩
          walk_at "hs"
          exact k _ _ K3 (by rw [show (root + 1 - 1).toNat = root.toNat by omega]; exact by_pairs n0 r0 (by omega))
theorem needed_bound {ls : List Int} (h : ∀ x ∈ ls, 1 ≤ x ∧ x ≤ 330) : ls.sum ≤ 330 * ls.length := by
  induction ls with
  | nil => simp
  | cons x r ih =>
    have a := h x List.mem_cons_self
    have b := ih fun y hy => h y (List.mem_cons_of_mem x hy)
    rw [List.sum_cons, List.length_cons]
    push_cast
    omega
theorem neStr {x : Str} {H : Hp} {Q : VK} (q : Q (.bl false) H) : rNe (.str x) (.str x) H Q := ⟨rfl, by rw [decide_eq_true rfl]; exact q⟩
theorem lg_small {i : Int} (h0 : 0 ≤ i) (h1 : i < 2 ^ 40) : i.natAbs.log2 < 1920 := by
  by_cases z : i.natAbs = 0
  · rw [z]; decide
  · exact (Nat.log2_lt z).mpr (Nat.lt_of_lt_of_le (show i.natAbs < 2 ^ 40 by omega) (Nat.pow_le_pow_right (by decide) (by decide)))
def sp_law (K : PySem.W.Frag) : Sp := fun vs H Q _ => ∃ (a : Addr) (ns : List Int), vs = [.ref a] ∧ (SqL K H a (ns.map V.int) ∧ ns.length ≤ 63 ∧ ∀ H', Q (.bl true) H')
theorem ok_law (T : Txt K mg A) : HS.FnG P w K mg base CX0 9 A.a_law A.d_law ["script"] (sp_law K) := by
  have G__law_bag : FnOk P w K mg base CX0 1 A.a__law_bag A.d__law_bag ["script"] (sp__law_bag K) := ok__law_bag T
  have G__law_lengths : FnOk P w K mg base CX0 2 A.a__law_lengths A.d__law_lengths ["bag", "upto", "far"] (sp__law_lengths K) := ok__law_lengths T
  have G__law_draw : FnOk P w K mg base CX0 1 A.a__law_draw A.d__law_draw ["bag", "many"] (sp__law_draw K) := ok__law_draw T
  have G__law_needed : FnOk P w K mg base CX0 1 A.a__law_needed A.d__law_needed ["chapters", "wide"] (sp__law_needed K) := ok__law_needed T
  have G_total_pages : FnOk P w K mg base CX0 5 A.a_total_pages A.d_total_pages ["book", "first", "last"] (sp_total_pages K) := ok_total_pages T
  have G__law_great : FnOk P w K mg base CX0 2 A.a__law_great A.d__law_great ["bag"] (sp__law_great K) := ok__law_great T
  have G__law_by_pairs : FnOk P w K mg base CX0 1 A.a__law_by_pairs A.d__law_by_pairs ["many", "end"] (sp__law_by_pairs K) := ok__law_by_pairs T
  refine HS.Fun.okG T.F_law sc_law (fun vs H Q E h => ?_) (fun cdv A0 outer s H vs Q E hg hr h => ?_)
  · obtain ⟨a, ns, rfl, hw⟩ := h
    rfl
  · obtain ⟨a, ns, rfl, hw⟩ := h
    refine ⟨_, (pss_cons (ps_set (i := 1) sc_law.nd rfl (.inl rfl) (pe_call G__law_bag (hr.mono (by decide)) (by rfl) T.g__law_bag T.F__law_bag.kp T.b__law_bag .nil pass0 (pa_cons (pv 0) pa_nil)))
    (pss_cons (ps_for PassesOwn.never rfl (pi_range1 (by rfl) T.z_range (pa_cons (pe_op op_add pe_int (pe_callB (call_min2 rfl) (by rfl) T.z_min (by decide +kernel) (pa_cons pe_int (pa_cons (pe_callB (HS.klen K) (by rfl) T.z_len PySem.boot_len (pa_cons (pv 0) pa_nil)) pa_nil)))) pa_nil)) (pg_name (i := 2) sc_law.nd rfl (.inl rfl))
      (pss_cons (ps_set (i := 3) sc_law.nd rfl (.inr rfl) (pe_call G__law_lengths (hr.mono (by decide)) (by rfl) T.g__law_lengths T.F__law_lengths.kp T.b__law_lengths .nil pass0 (pa_cons (pv 1) (pa_cons pe_int (pa_cons (pe_ix (HS.ixt K) (pe_tup (pa_cons pe_int (pa_cons pe_int pa_nil))) (pe_call G__law_draw (hr.mono (by decide)) (by rfl) T.g__law_draw T.F__law_draw.kp T.b__law_draw .nil pass0 (pa_cons (pv 1) (pa_cons pe_int pa_nil))) (fun _ _ => rfl)) pa_nil)))))
    (pss_cons (ps_par (i := 4) (j := 5) rfl sc_law.nd rfl rfl (by decide) rfl rfl (pa_cons (pe_op op_add pe_int (pe_call G__law_draw (hr.mono (by decide)) (by rfl) T.g__law_draw T.F__law_draw.kp T.b__law_draw .nil pass0 (pa_cons (pv 1) (pa_cons pe_int pa_nil)))) (pa_cons (pe_op op_add pe_int (pe_call G__law_draw (hr.mono (by decide)) (by rfl) T.g__law_draw T.F__law_draw.kp T.b__law_draw .nil pass0 (pa_cons (pv 1) (pa_cons pe_int pa_nil)))) pa_nil)) (by rfl))
    (pss_cons (ps_set (i := 6) sc_law.nd rfl (.inl rfl) (pe_callB (HS.ksum K rfl) (by rfl) T.z_sum (by decide +kernel) (pa_cons (pe_lc (own := [("wide", 13)]) (g := gName 13) (tt := tYes) rfl sc_law.nd (pi_range2 (by rfl) T.z_range (pa_cons (pv 4) (pa_cons (pe_op op_add (pv 5) pe_int) pa_nil))) (blkOk_by (own := [("wide", 13)]) (N := N_law) (sc := defScope s_law) (by decide +kernel)) (fun _ _ _ _ _ => pg_name (i := 13) sc_law.nd rfl (by first | exact .inl rfl | exact .inr rfl)) (fun _ _ _ _ _ => pts_nil) (fun _ _ _ _ _ => (pe_call G__law_needed (hr.mono (by decide)) (by rfl) T.g__law_needed T.F__law_needed.kp T.b__law_needed .nil pass0 (pa_cons (pv 3) (pa_cons (pv 13) pa_nil))))) pa_nil)))
    (pss_cons (ps_if (pt_cmpR op_ne (pe_callB SkE.call_repr_int (by rfl) T.z_repr (by decide +kernel) (pa_cons (pe_call G_total_pages (hr.mono (by decide)) (by rfl) T.g_total_pages T.F_total_pages.kp T.b_total_pages .nil pass0 (pa_cons (pv 3) (pa_cons (pv 4) (pa_cons (pv 5) pa_nil)))) pa_nil)) (pe_callB SkE.call_repr_int (by rfl) T.z_repr (by decide +kernel) (pa_cons (pv 6) pa_nil)) (nomark _))
      (pss_one (ps_ret pe_bl))
      pss_nil)
    (pss_cons (ps_if (pt_cmpR op_ne (HS.pe_kw0 G_total_pages (hr.mono (by decide)) (by rfl) T.g_total_pages T.F_total_pages.kp T.kb_total_pages_0_last_first_book pass0 (pk_cons (pv 5) (pk_cons (pv 4) (pk_cons (pv 3) pk_nil)))) (pv 6) (nomark _))
      (pss_one (ps_ret pe_bl))
      pss_nil)
    (pss_cons (ps_set (i := 7) sc_law.nd rfl (.inl rfl) (HS.pe_fold (1000000) (pe_op op_pow pe_int pe_int) (by intro σ H Q q; walk_at "fold")))
    (Evl.pss_cut (ps_if (PW.pt (pw_and (pt_cmpR op_eq (pv 2) pe_int (nomark _)) (pw_and1 (pt_cmpR op_eq (pe_call G__law_draw (hr.mono (by decide)) (by rfl) T.g__law_draw T.F__law_draw.kp T.b__law_draw .nil pass0 (pa_cons (pv 1) (pa_cons pe_int pa_nil))) pe_int (nomark _)))))
      (pss_one (ps_set (i := 7) sc_law.nd rfl (.inl rfl) (HS.pe_fold (10000000000) (pe_op op_pow pe_int pe_int) (by intro σ H Q q; walk_at "fold"))))
      pss_nil)
    (pss_cons (ps_set (i := 8) sc_law.nd rfl (.inl rfl) (pe_op op_cat (pe_slice (HS.sll K) (pv 3) po_none (po_some pe_int)) (pe_lst (pa_cons (pe_op op_add pe_int (pe_call G__law_draw (hr.mono (by decide)) (by rfl) T.g__law_draw T.F__law_draw.kp T.b__law_draw .nil pass0 (pa_cons (pv 1) (pa_cons (pv 7) pa_nil)))) pa_nil))))
    (pss_cons (ps_set (i := 9) sc_law.nd rfl (.inr rfl) (pe_ix (HS.ixt K) (pe_tup (pa_cons (pe_op op_add pe_int (pe_call G__law_draw (hr.mono (by decide)) (by rfl) T.g__law_draw T.F__law_draw.kp T.b__law_draw .nil pass0 (pa_cons (pv 1) (pa_cons (HS.pe_fold (1000000) (pe_op op_pow pe_int pe_int) (by intro σ H Q q; walk_at "fold")) pa_nil)))) (pa_cons (pe_op op_add (HS.pe_fold (100000000000000000000000000000) (pe_op op_pow pe_int pe_int) (by intro σ H Q q; walk_at "fold")) (pe_call G__law_great (hr.mono (by decide)) (by rfl) T.g__law_great T.F__law_great.kp T.b__law_great .nil pass0 (pa_cons (pv 1) pa_nil))) pa_nil))) (pe_call G__law_draw (hr.mono (by decide)) (by rfl) T.g__law_draw T.F__law_draw.kp T.b__law_draw .nil pass0 (pa_cons (pv 1) (pa_cons pe_int pa_nil))) (fun _ _ => rfl)))
    (pss_cons (ps_set (i := 10) sc_law.nd rfl (.inl rfl) (pe_callB (HS.ksum K rfl) (by rfl) T.z_sum (by decide +kernel) (pa_cons (pe_lc (own := [("many", 14)]) (g := gName 14) (tt := tYes) rfl sc_law.nd (HS.kil K (pi_list (pv 8))) (blkOk_by (own := [("many", 14)]) (N := N_law) (sc := defScope s_law) (by decide +kernel)) (fun _ _ _ _ _ => pg_name (i := 14) sc_law.nd rfl (by first | exact .inl rfl | exact .inr rfl)) (fun _ _ _ _ _ => pts_nil) (fun _ _ _ _ _ => (pe_op op_add (pv 9) (pe_call G__law_by_pairs (hr.mono (by decide)) (by rfl) T.g__law_by_pairs T.F__law_by_pairs.kp T.b__law_by_pairs .nil pass0 (pa_cons (pe_op op_sub (pv 14) pe_int) (pa_cons (pv 9) pa_nil)))))) pa_nil)))
    (pss_cons (ps_if (pt_cmpR op_ne (pe_call G_total_pages (hr.mono (by decide)) (by rfl) T.g_total_pages T.F_total_pages.kp T.b_total_pages .nil pass0 (pa_cons (pv 8) (pa_cons pe_int (pa_cons (pv 9) pa_nil)))) (pv 10) (nomark _))
      (pss_one (ps_ret pe_bl))
      pss_nil)
    (pss_cons (ps_set (i := 11) sc_law.nd rfl (.inl rfl) (pe_op op_add pe_int (pe_call G__law_draw (hr.mono (by decide)) (by rfl) T.g__law_draw T.F__law_draw.kp T.b__law_draw .nil pass0 (pa_cons (pv 1) (pa_cons (pv 9) pa_nil)))))
    (pss_cons (ps_if (PW.pt (pw_and (pt_cmpR op_ne (pe_op op_add (pe_call G_total_pages (hr.mono (by decide)) (by rfl) T.g_total_pages T.F_total_pages.kp T.b_total_pages .nil pass0 (pa_cons (pv 8) (pa_cons pe_int (pa_cons (pv 11) pa_nil)))) (pe_call G_total_pages (hr.mono (by decide)) (by rfl) T.g_total_pages T.F_total_pages.kp T.b_total_pages .nil pass0 (pa_cons (pv 8) (pa_cons (pe_op op_add (pv 11) pe_int) (pa_cons (pv 9) pa_nil))))) (pv 10) (nomark _)) (pw_and1 (pt_cmpR op_lt (pv 11) (pv 9) (nomark _)))))
      (pss_one (ps_ret pe_bl))
      pss_nil)
    (pss_cons (ps_set (i := 12) sc_law.nd rfl (.inl rfl) (pe_op op_add (pe_callB (HS.kmax K rfl) (by rfl) T.z_max (by decide +kernel) (pa_cons (pv 8) pa_nil)) (pe_call G__law_draw (hr.mono (by decide)) (by rfl) T.g__law_draw T.F__law_draw.kp T.b__law_draw .nil pass0 (pa_cons (pv 1) (pa_cons pe_int pa_nil)))))
    (pss_one (ps_if (pt_cmpR op_ne (pe_call G_total_pages (hr.mono (by decide)) (by rfl) T.g_total_pages T.F_total_pages.kp T.b_total_pages .nil pass0 (pa_cons (pv 8) (pa_cons (pv 12) (pa_cons (pe_op op_sub (pe_op op_add (pv 12) (pv 9)) pe_int) pa_nil)))) (pe_op op_mulW (pv 9) (pe_callB (HS.klen K) (by rfl) T.z_len PySem.boot_len (pa_cons (pv 8) pa_nil))) (nomark _))
      (pss_one (ps_ret pe_bl))
      pss_nil)))))))))))))))))
    (pss_one (ps_ret pe_bl)))), ?_⟩
    obtain ⟨hS, hl, k⟩ := hw
    walk_at "hs"
    refine ⟨a, ns, rfl, hS, hl, fun H1 s d K1 hs0 hd0 B1 => ?_⟩
    walk_at "hs"
    refine HS.lenL (K1.sq hS id) ?_
    rw [List.length_map]
    walk_at "hs"
    generalize hcc : (if (ns.length : Int) < 8 then (ns.length : Int) else 8) = c
    have c1 : 0 ≤ c ∧ c ≤ 8 := by
      rw [← hcc]
      split <;> omega
    clear hcc
    refine ⟨by omega, by omega, for_range (n := (4 + c).toNat) (fun i σ H' => Bag H' s d (2000 * i) ∧ ∃ x2 x3 x4 x5 x6 x7 x8 x9 x10 x11 x12 x13 x14, σ = [some (.ref a), some (.ref s), x2, x3, x4, x5, x6, x7, x8, x9, x10, x11, x12, x13, x14]) ⟨B1, _, _, _, _, _, _, _, _, _, _, _, _, _, rfl⟩ ?_ ?_⟩
    · rintro i σ H2 hi ⟨B2, x2, x3, x4, x5, x6, x7, x8, x9, x10, x11, x12, x13, x14, rfl⟩
      have hi2 : i < 12 := by omega
      have W := wd_bag (S := fun a => a = s ∨ a = d) B2 (.inl rfl) (.inr rfl)
      clear B1 B2
      walk_at "hs"
      intro t ht
      generalize hG_t : upd _ t _ = H3
      have Kn_t := HS.upgK hG_t ht
      replace W := W.newG hG_t ht
      clear hG_t ht
      try dsimp only [List.set, List.cons_append, List.nil_append] at W
      walk_at "hs"
      refine ⟨s, d, 2, _, rfl, W.bag 0 1 rfl rfl, by decide, by decide, by omega, fun H4 v K4 B4 v0 v1 => ?_⟩
      replace W := W.bagged 0 1 rfl rfl K4 B4 (by omega)
      refine HS.ixTI [30, 200] (W.st 2 rfl) v0 v1 fun up _ hz => ?_
      have hup : 30 ≤ up ∧ up ≤ 200 := by
        simp only [List.mem_cons, List.not_mem_nil, or_false] at hz
        rcases hz with rfl | rfl <;> omega
      clear hz
      replace W := W.take 2
      dsimp only [List.take, List.set] at W
      walk_at "hs"
      refine ⟨s, d, 10, up, _, rfl, W.bag 0 1 rfl rfl, by decide, by decide, by omega, by omega, by omega, fun H5 p ls K5 hp0 hp hll hL B5 => ?_⟩
      replace W := W.madeT (P := Eq _) (W.bagged 0 1 rfl rfl K5 B5 (by omega)) rfl hp0 hp rfl
      dsimp only [List.set, List.cons_append, List.nil_append] at W
      have hL3 : ∀ x ∈ ls, 1 ≤ x ∧ x ≤ 330 := fun x hx => by have := hL x hx; omega
      have hl10 : ls.length ≤ 10 := by omega
      clear hp0 hp hL hll B4 B5
      walk_at "hs"
      refine ⟨s, d, 300, _, rfl, W.bag 0 1 rfl rfl, by decide, by decide, by omega, fun H6 f0 K6 B6 f1 f2 => ?_⟩
      replace W := W.bagged 0 1 rfl rfl K6 B6 (by omega)
      walk_at "hs"
      refine ⟨s, d, 300, _, rfl, W.bag 0 1 rfl rfl, by decide, by decide, by omega, fun H7 g0 K7 B7 g1 g2 => ?_⟩
      replace W := W.bagged 0 1 rfl rfl K7 B7 (by omega)
      clear B6 B7
      walk_at "hs"
      generalize hfs : 1 + f0 = fs
      generalize hla : 1 + g0 = la
      have fs1 : 1 ≤ fs ∧ fs ≤ 300 := by omega
      have la1 : 1 ≤ la ∧ la ≤ 300 := by omega
      clear hfs hla f1 f2 g1 g2
      have nb := needed_bound hL3
      have hL4 : ∀ x ∈ ls, 1 ≤ x ∧ x < 2 ^ 40 := fun x hx => by have := hL3 x hx; omega
      have hL5 : ∀ x ∈ ls, 1 ≤ x ∧ x ≤ 10 ^ 10 := fun x hx => by have := hL3 x hx; omega
      have hp7 : H7 p = some (.lst (ls.map V.int)) := W.at 2 rfl
      refine ⟨by omega, fun D hD => lc_range (lo := fs) (n := (la + 1 - fs).toNat) (fun m H' => HS.Keep (fun _ => False) H7 H' ∧ ∃ ys : List Int, ys.length = m ∧ ys.sum = tpN ls fs (fs + m) ∧ 0 ≤ ys.sum ∧ ys.sum ≤ 3300 * m ∧ H' D = some (.lst (ys.map V.int))) ⟨.new hD, [], rfl, by rw [show fs + ((0 : Nat) : Int) = fs by omega, tpN_same]; rfl, by decide, by decide, upd_same⟩ ?_ ?_⟩
      · rintro m H8 hm ⟨K8, ys, hy, hY, y0, y1, h8⟩
        walk_at "hs"
        refine ⟨p, ls, fs + (m : Int), rfl, HS.sq (K8 _ _ hp7 id), by omega, hL4, by omega, by omega, fun H9 v K9 hv v0 v1 => ?_⟩
        walk_at "hs"
        refine ⟨_, K9 _ _ h8 id, HS.sz (by rw [List.length_map]; omega), (K8.trans K9).put hD, ys ++ [v], by simp [hy], ?_, ?_, ?_, ?_⟩
        · rw [List.sum_append, List.sum_singleton, hY, hv, show fs + ((m + 1 : Nat) : Int) = fs + (m : Int) + 1 by push_cast; omega, tpN_snoc fs1.1 (by omega)]
        · rw [List.sum_append, List.sum_singleton]
          omega
        · rw [List.sum_append, List.sum_singleton]
          push_cast
          omega
        · rw [upd_same, List.map_append]
          rfl
      · rintro H8 ⟨K8, ys, hy, hY, y0, y1, h8⟩
        replace W := W.same K8
        have hDue : ys.sum = if fs ≤ la then tpN ls fs (la + 1) else 0 := by
          rw [hY]
          by_cases c : fs ≤ la
          · rw [if_pos c, show fs + (((la + 1 - fs).toNat : Nat) : Int) = la + 1 by omega]
          · rw [if_neg c, show fs + (((la + 1 - fs).toNat : Nat) : Int) = fs by omega, tpN_same]
        have y2 : ys.sum < 2 ^ 40 := by omega
        clear hY y1 hy
        walk_at "hs"
        clear h8
        generalize ys.sum = due at hDue y0 y2 ⊢
        refine ⟨p, ls, fs, la, rfl, W.sq 2 rfl, hL5, hl10, fs1.1, la1.1, by omega, by omega, fun H9 v K9 hv => ?_⟩
        rw [← hDue] at hv
        subst hv
        replace W := W.same K9
        walk_at "hs"
        refine ⟨lg_small y0 y2, ?_⟩
        walk_at "hs"
        refine ⟨lg_small y0 y2, ?_⟩
        refine neStr ?_
        walk_at "hs"
        refine ⟨p, ls, fs, la, rfl, W.sq 2 rfl, hL5, hl10, fs1.1, la1.1, by omega, by omega, fun H10 v K10 hv => ?_⟩
        rw [← hDue] at hv
        subst hv
        replace W := W.same K10
        walk_at "hs"
        refine HS.in0 rfl ?_
        walk_at "hs"
        replace W := W.bup (m := 2000 * i + 405) 0 rfl (by omega)
        dsimp only [List.set] at W
        refine HS.cut (fun σ' H' => ∃ gr : Int, (gr = 10 ^ 6 ∨ gr = 10 ^ 10) ∧ HS.Wd H2 H' (fun a => a = s ∨ a = d) [(s, BagO d (2000 * i + 450)), (d, GreatO), (p, Eq (.lst (ls.map V.int)))] ∧ σ' = [some (.ref a), some (.ref s), some (.int (0 + (i : Int))), some (.ref p), some (.int fs), some (.int la), some (.int v), some (.int gr), x8, x9, x10, x11, x12, x13, x14]) ?_ ?_
        · walk_at "hs"
          refine HS.itd (fun c2 => ?_) (fun c2 => ?_)
          · walk_at "hs"
            refine ⟨s, d, 3, _, rfl, W.bag 0 1 rfl rfl, by decide, by decide, by omega, fun H11 e K11 B11 e0 e1 => ?_⟩
            replace W := (W.bagged 0 1 rfl rfl K11 B11 (by omega)).bup (m := 2000 * i + 450) 0 rfl (by omega)
            dsimp only [List.set] at W
            walk_at "hs"
            refine HS.itd (fun c3 => ?_) (fun c3 => ?_)
            · walk_at "hs"
              exact ⟨10 ^ 10, .inr rfl, W, rfl⟩
            · walk_at "hs"
              exact ⟨10 ^ 6, .inl rfl, W, rfl⟩
          · walk_at "hs"
            exact ⟨10 ^ 6, .inl rfl, W.bup 0 rfl (by omega), rfl⟩
        clear W hDue y0 y2
        rintro σ H12 ⟨gr, hgr, W, rfl⟩
        have gr1 : 1 ≤ gr ∧ gr ≤ 10 ^ 10 := by omega
        walk_at "hs"
        refine HS.slLs (W.sq 2 rfl) ?_
        intro t1 ht1
        generalize hG_t1 : upd _ t1 _ = H13
        have Kn_t1 := HS.upgK hG_t1 ht1
        replace W := W.newG hG_t1 ht1
        clear hG_t1 ht1
        try dsimp only [List.set, List.cons_append, List.nil_append] at W
        rw [HS.cut_toI ls (show (0 : Int) ≤ 3 by decide)] at W
        walk_at "hs"
        refine ⟨s, d, gr, _, rfl, W.bag 0 1 rfl rfl, by omega, by omega, by omega, fun H14 e K14 B14 e0 e1 => ?_⟩
        replace W := W.bagged 0 1 rfl rfl K14 B14 (by omega)
        walk_at "hs"
        intro t2 ht2
        generalize hG_t2 : upd _ t2 _ = H15
        have Kn_t2 := HS.upgK hG_t2 ht2
        replace W := W.newG hG_t2 ht2
        clear hG_t2 ht2
        try dsimp only [List.set, List.cons_append, List.nil_append] at W
        walk_at "hs"
        refine HS.cat (W.at 3 rfl) (W.at 4 rfl) ⟨HS.szl (by simp; omega), ?_⟩
        intro lo hlo
        generalize hG_lo : upd _ lo _ = H16
        have Kn_lo := HS.upgK hG_lo hlo
        replace W := W.newG hG_lo hlo
        clear hG_lo hlo
        try dsimp only [List.set, List.cons_append, List.nil_append] at W
        have eLs : (ls.take (Int.toNat 3)).map V.int ++ [V.int (1 + e)] = (ls.take (Int.toNat 3) ++ [1 + e]).map V.int := by rw [List.map_append]; rfl
        rw [eLs] at W
        have hM : ∀ x ∈ ls.take (Int.toNat 3) ++ [1 + e], 1 ≤ x ∧ x ≤ 10 ^ 10 := fun x hx => by
          rcases List.mem_append.mp hx with hx | hx
          · exact hL5 x (List.mem_of_mem_take hx)
          · rw [List.mem_singleton.mp hx]
            omega
        have hMl : 0 < (ls.take (Int.toNat 3) ++ [1 + e]).length ∧ (ls.take (Int.toNat 3) ++ [1 + e]).length ≤ 10 := by
          rw [List.length_append, List.length_take, List.length_singleton]
          have : Int.toNat 3 = 3 := rfl
          omega
        generalize ls.take (Int.toNat 3) ++ [1 + e] = ms at W hM hMl
        walk_at "hs"
        refine ⟨s, d, 1000000, _, rfl, W.bag 0 1 rfl rfl, by decide, by decide, by omega, fun H17 u K17 B17 u0 u1 => ?_⟩
        replace W := W.bagged 0 1 rfl rfl K17 B17 (by omega)
        walk_at "hs"
        refine ⟨s, d, _, rfl, W.bag 0 1 rfl rfl, by omega, fun H18 g K18 B18 g0 g1 => ?_⟩
        replace W := W.bagged 0 1 rfl rfl K18 B18 (by omega)
        walk_at "hs"
        intro t3 ht3
        generalize hG_t3 : upd _ t3 _ = H19
        have Kn_t3 := HS.upgK hG_t3 ht3
        replace W := W.newG hG_t3 ht3
        clear hG_t3 ht3
        try dsimp only [List.set, List.cons_append, List.nil_append] at W
        walk_at "hs"
        refine ⟨s, d, 2, _, rfl, W.bag 0 1 rfl rfl, by decide, by decide, by omega, fun H20 z0 K20 B20 z1 z2 => ?_⟩
        replace W := W.bagged 0 1 rfl rfl K20 B20 (by omega)
        refine HS.ixTI [1 + u, 10 ^ 29 + g] (W.st 6 rfl) z1 z2 fun far _ hz => ?_
        have hfar : 1 ≤ far ∧ far < 2 ^ 100 := by
          simp only [List.mem_cons, List.not_mem_nil, or_false] at hz
          rcases hz with rfl | rfl <;> omega
        clear hz
        replace W := W.take 6
        dsimp only [List.take, List.set, List.cons_append, List.nil_append] at W
        walk_at "hs"
        have hlo20 : H20 lo = some (.lst (ms.map V.int)) := W.at 5 rfl
        refine ⟨⟨_, HS.sq hlo20⟩, fun D2 hD2 => lc_list (xs := ms.map V.int) (fun m H' => HS.Keep (fun _ => False) H20 H' ∧ H' D2 = some (.lst (((ms.take m).map fun l => far + sqr (l - 1) 1 (far + 1)).map V.int))) ⟨.new hD2, upd_same⟩ (fun m H' _ ⟨K', _⟩ => HS.sq (K' _ _ hlo20 id)) ?_ ?_⟩
        · rintro m x H21 hm ⟨K21, h21⟩
          obtain ⟨z, rfl, hz, hml⟩ := HS.get_int hm
          have hz1 := hM z (List.mem_of_getElem? hz)
          walk_at "hs"
          refine ⟨z - 1, far, rfl, by omega, by omega, hfar.1, by omega, fun H22 y K22 hy => ?_⟩
          subst hy
          walk_at "hs"
          refine ⟨_, K22 _ _ h21 id, HS.sz (by simp; omega), (K21.trans K22).put hD2, ?_⟩
          rw [upd_same, List.take_add_one, hz, List.map_append, List.map_append]
          rfl
        · rintro H21 ⟨K21, h21⟩
          rw [List.length_map, List.take_length] at h21
          replace W := W.same K21
          walk_at "hs"
          rw [tpN_whole]
          clear h21
          refine ⟨lo, ms, 1, far, rfl, W.sq 5 rfl, hM, hMl.2, by decide, hfar.1, by decide, by omega, fun H22 y K22 hy => ?_⟩
          rw [if_pos hfar.1] at hy
          subst hy
          replace W := W.same K22
          walk_at "hs"
          refine HS.in0 rfl ?_
          walk_at "hs"
          refine ⟨s, d, far, _, rfl, W.bag 0 1 rfl rfl, by omega, by omega, by omega, fun H23 b0 K23 B23 b1 b2 => ?_⟩
          replace W := W.bagged 0 1 rfl rfl K23 B23 (by omega)
          walk_at "hs"
          generalize hmid : 1 + b0 = mid
          have mid1 : 1 ≤ mid ∧ mid ≤ far := by omega
          clear hmid b1 b2
          refine ⟨lo, ms, 1, mid, rfl, W.sq 5 rfl, hM, hMl.2, by decide, mid1.1, by decide, by omega, fun H24 v1 K24 hv1 => ?_⟩
          replace W := W.same K24
          walk_at "hs"
          refine ⟨lo, ms, mid + 1, far, rfl, W.sq 5 rfl, hM, hMl.2, by omega, hfar.1, by omega, by omega, fun H25 v2 K25 hv2 => ?_⟩
          replace W := W.same K25
          walk_at "hs"
          have e12 : v1 + v2 = tpN ms 1 (far + 1) := by
            rw [if_pos mid1.1] at hv1
            by_cases c : mid + 1 ≤ far
            · rw [if_pos c] at hv2
              rw [hv1, hv2]
              exact tpN_join (by omega) (by omega)
            · rw [if_neg c] at hv2
              rw [hv1, hv2, Int.add_zero, show mid = far by omega]
          refine HS.in0 e12 ?_
          walk_at "hs"
          refine ⟨lo, ms, rfl, W.sq 5 rfl, hMl.1, fun mx hmx hmy => ?_⟩
          have hx1 := hM mx hmx
          walk_at "hs"
          refine ⟨s, d, 99, _, rfl, W.bag 0 1 rfl rfl, by decide, by decide, by omega, fun H26 q0 K26 B26 q1 q2 => ?_⟩
          replace W := W.bagged 0 1 rfl rfl K26 B26 (by omega)
          walk_at "hs"
          generalize hab : mx + q0 = ab
          refine ⟨lo, ms, ab, ab + far - 1, rfl, W.sq 5 rfl, hM, hMl.2, by omega, by omega, by omega, by omega, fun H27 v3 K27 hv3 => ?_⟩
          replace W := W.same K27
          rw [if_pos (by omega), tpN_few fun x hx => ⟨(hM x hx).1, by have := hmy x hx; omega⟩, show ab + far - 1 + 1 - ab = far by omega, Int.mul_comm] at hv3
          walk_at "hs"
          refine HS.lenL (W.sq 5 rfl) ?_
          rw [List.length_map]
          walk_at "hs"
          refine ⟨HS.mulW 100 20 (by omega) hfar.2 (by omega) (by omega) (by decide) (by decide) (by decide), ?_⟩
          walk_at "hs"
          refine HS.in0 hv3 ?_
          walk_at "hs"
          exact ⟨(W.bup (m := 2000 * (i + 1)) 0 rfl (by omega)).bag 0 1 rfl rfl, _, _, _, _, _, _, _, _, _, _, _, _, _, rfl⟩
    · rintro σ H2 ⟨B2, x2, x3, x4, x5, x6, x7, x8, x9, x10, x11, x12, x13, x14, rfl⟩
      walk_at "hs"
      exact k _
end
theorem all_mk {l : PySem.W.OpenLaw} {w : World} {K : PySem.W.Frag} {h : Heap} {mg : Str → Option Value} {fa f0 f1 f2 f3 f4 f5 f6 f7 f8 f9 f10 f11 f12 f13 f14 : Addr} (X : K.In h) (G : h.Ns mainGlobals mg) (hfa : mg "law" = some (.ref fa))
    {od0 an0 od1 an1 od2 an2 od3 an3 od4 an4 od5 an5 od6 an6 od7 an7 od8 an8 od9 an9 od10 an10 od11 an11 od12 an12 od13 an13 od14 an14 : Option Addr} {sl0 sl1 sl2 sl3 sl4 sl5 sl6 sl7 sl8 sl9 sl10 sl11 sl12 sl13 sl14 : Array (Option Value)} {oc0 kV0 dc0 pm0 cd0 ct0 oc1 kV1 dc1 pm1 cd1 ct1 oc2 kV2 dc2 pm2 cd2 ct2 oc3 kV3 dc3 pm3 cd3 ct3 oc4 kV4 dc4 pm4 cd4 ct4 oc5 kV5 dc5 pm5 cd5 ct5 oc6 kV6 dc6 pm6 cd6 ct6 oc7 kV7 dc7 pm7 cd7 ct7 oc8 kV8 dc8 pm8 cd8 ct8 oc9 kV9 dc9 pm9 cd9 ct9 oc10 kV10 dc10 pm10 cd10 ct10 oc11 kV11 dc11 pm11 cd11 ct11 oc12 kV12 dc12 pm12 cd12 ct12 oc13 kV13 dc13 pm13 cd13 ct13 oc14 kV14 dc14 pm14 cd14 ct14 : Value}
    (a0 : PySem.W.nsIn K mainGlobals "check_book" = some (some (.ref f0)))
    (l0 : K.lookup f0 = some ⟨oc0, od0, .func (PySem.W.fnOf "check_book" "check_book" (defArgs s_check_book) (defBody s_check_book) (defScope s_check_book) .none kV0 dc0 pm0 an0 cd0 ct0), sl0⟩) (c0 : PySem.W.codeIn K cd0 "check_book" = true) (k0 : PySem.W.keepIn K (.ref f0) = true)
    (a1 : PySem.W.nsIn K mainGlobals "check_size" = some (some (.ref f1)))
    (l1 : K.lookup f1 = some ⟨oc1, od1, .func (PySem.W.fnOf "check_size" "check_size" (defArgs s_check_size) (defBody s_check_size) (defScope s_check_size) .none kV1 dc1 pm1 an1 cd1 ct1), sl1⟩) (c1 : PySem.W.codeIn K cd1 "check_size" = true) (k1 : PySem.W.keepIn K (.ref f1) = true)
    (a2 : PySem.W.nsIn K mainGlobals "divide_alone" = some (some (.ref f2)))
    (l2 : K.lookup f2 = some ⟨oc2, od2, .func (PySem.W.fnOf "divide_alone" "divide_alone" (defArgs s_divide_alone) (defBody s_divide_alone) (defScope s_divide_alone) .none kV2 dc2 pm2 an2 cd2 ct2), sl2⟩) (c2 : PySem.W.codeIn K cd2 "divide_alone" = true) (k2 : PySem.W.keepIn K (.ref f2) = true)
    (a3 : PySem.W.nsIn K mainGlobals "divide_together" = some (some (.ref f3)))
    (l3 : K.lookup f3 = some ⟨oc3, od3, .func (PySem.W.fnOf "divide_together" "divide_together" (defArgs s_divide_together) (defBody s_divide_together) (defScope s_divide_together) .none kV3 dc3 pm3 an3 cd3 ct3), sl3⟩) (c3 : PySem.W.codeIn K cd3 "divide_together" = true) (k3 : PySem.W.keepIn K (.ref f3) = true)
    (a4 : PySem.W.nsIn K mainGlobals "sum_wanted" = some (some (.ref f4)))
    (l4 : K.lookup f4 = some ⟨oc4, od4, .func (PySem.W.fnOf "sum_wanted" "sum_wanted" (defArgs s_sum_wanted) (defBody s_sum_wanted) (defScope s_sum_wanted) .none kV4 dc4 pm4 an4 cd4 ct4), sl4⟩) (c4 : PySem.W.codeIn K cd4 "sum_wanted" = true) (k4 : PySem.W.keepIn K (.ref f4) = true)
    (a5 : PySem.W.nsIn K mainGlobals "sum_ranges" = some (some (.ref f5)))
    (l5 : K.lookup f5 = some ⟨oc5, od5, .func (PySem.W.fnOf "sum_ranges" "sum_ranges" (defArgs s_sum_ranges) (defBody s_sum_ranges) (defScope s_sum_ranges) .none kV5 dc5 pm5 an5 cd5 ct5), sl5⟩) (c5 : PySem.W.codeIn K cd5 "sum_ranges" = true) (k5 : PySem.W.keepIn K (.ref f5) = true)
    (a6 : PySem.W.nsIn K mainGlobals "sum_quotients" = some (some (.ref f6)))
    (l6 : K.lookup f6 = some ⟨oc6, od6, .func (PySem.W.fnOf "sum_quotients" "sum_quotients" (defArgs s_sum_quotients) (defBody s_sum_quotients) (defScope s_sum_quotients) .none kV6 dc6 pm6 an6 cd6 ct6), sl6⟩) (c6 : PySem.W.codeIn K cd6 "sum_quotients" = true) (k6 : PySem.W.keepIn K (.ref f6) = true)
    (a7 : PySem.W.nsIn K mainGlobals "total_pages" = some (some (.ref f7)))
    (l7 : K.lookup f7 = some ⟨oc7, od7, .func (PySem.W.fnOf "total_pages" "total_pages" (defArgs s_total_pages) (defBody s_total_pages) (defScope s_total_pages) .none kV7 dc7 pm7 an7 cd7 ct7), sl7⟩) (c7 : PySem.W.codeIn K cd7 "total_pages" = true) (k7 : PySem.W.keepIn K (.ref f7) = true)
    (a8 : PySem.W.nsIn K mainGlobals "_law_bag" = some (some (.ref f8)))
    (l8 : K.lookup f8 = some ⟨oc8, od8, .func (PySem.W.fnOf "_law_bag" "_law_bag" (defArgs s__law_bag) (defBody s__law_bag) (defScope s__law_bag) .none kV8 dc8 pm8 an8 cd8 ct8), sl8⟩) (c8 : PySem.W.codeIn K cd8 "_law_bag" = true) (k8 : PySem.W.keepIn K (.ref f8) = true)
    (a9 : PySem.W.nsIn K mainGlobals "_law_draw" = some (some (.ref f9)))
    (l9 : K.lookup f9 = some ⟨oc9, od9, .func (PySem.W.fnOf "_law_draw" "_law_draw" (defArgs s__law_draw) (defBody s__law_draw) (defScope s__law_draw) .none kV9 dc9 pm9 an9 cd9 ct9), sl9⟩) (c9 : PySem.W.codeIn K cd9 "_law_draw" = true) (k9 : PySem.W.keepIn K (.ref f9) = true)
    (a10 : PySem.W.nsIn K mainGlobals "_law_lengths" = some (some (.ref f10)))
    (l10 : K.lookup f10 = some ⟨oc10, od10, .func (PySem.W.fnOf "_law_lengths" "_law_lengths" (defArgs s__law_lengths) (defBody s__law_lengths) (defScope s__law_lengths) .none kV10 dc10 pm10 an10 cd10 ct10), sl10⟩) (c10 : PySem.W.codeIn K cd10 "_law_lengths" = true) (k10 : PySem.W.keepIn K (.ref f10) = true)
    (a11 : PySem.W.nsIn K mainGlobals "_law_great" = some (some (.ref f11)))
    (l11 : K.lookup f11 = some ⟨oc11, od11, .func (PySem.W.fnOf "_law_great" "_law_great" (defArgs s__law_great) (defBody s__law_great) (defScope s__law_great) .none kV11 dc11 pm11 an11 cd11 ct11), sl11⟩) (c11 : PySem.W.codeIn K cd11 "_law_great" = true) (k11 : PySem.W.keepIn K (.ref f11) = true)
    (a12 : PySem.W.nsIn K mainGlobals "_law_needed" = some (some (.ref f12)))
    (l12 : K.lookup f12 = some ⟨oc12, od12, .func (PySem.W.fnOf "_law_needed" "_law_needed" (defArgs s__law_needed) (defBody s__law_needed) (defScope s__law_needed) .none kV12 dc12 pm12 an12 cd12 ct12), sl12⟩) (c12 : PySem.W.codeIn K cd12 "_law_needed" = true) (k12 : PySem.W.keepIn K (.ref f12) = true)
    (a13 : PySem.W.nsIn K mainGlobals "_law_by_pairs" = some (some (.ref f13)))
    (l13 : K.lookup f13 = some ⟨oc13, od13, .func (PySem.W.fnOf "_law_by_pairs" "_law_by_pairs" (defArgs s__law_by_pairs) (defBody s__law_by_pairs) (defScope s__law_by_pairs) .none kV13 dc13 pm13 an13 cd13 ct13), sl13⟩) (c13 : PySem.W.codeIn K cd13 "_law_by_pairs" = true) (k13 : PySem.W.keepIn K (.ref f13) = true)
    (a14 : PySem.W.nsIn K mainGlobals "law" = some (some (.ref f14)))
    (l14 : K.lookup f14 = some ⟨oc14, od14, .func (PySem.W.fnOf "law" "law" (defArgs s_law) (defBody s_law) (defScope s_law) .none kV14 dc14 pm14 an14 cd14 ct14), sl14⟩) (c14 : PySem.W.codeIn K cd14 "law" = true) (k14 : PySem.W.keepIn K (.ref f14) = true)
    (z0 : PySem.W.nsIn K mainGlobals "abs" = some none)
    (z1 : PySem.W.nsIn K mainGlobals "enumerate" = some none)
    (z2 : PySem.W.nsIn K mainGlobals "len" = some none)
    (z3 : PySem.W.nsIn K mainGlobals "list" = some none)
    (z4 : PySem.W.nsIn K mainGlobals "max" = some none)
    (z5 : PySem.W.nsIn K mainGlobals "min" = some none)
    (z6 : PySem.W.nsIn K mainGlobals "range" = some none)
    (z7 : PySem.W.nsIn K mainGlobals "repr" = some none)
    (z8 : PySem.W.nsIn K mainGlobals "set" = some none)
    (z9 : PySem.W.nsIn K mainGlobals "sorted" = some none)
    (z10 : PySem.W.nsIn K mainGlobals "sum" = some none)
    (z11 : PySem.W.nsIn K mainGlobals "zip" = some none)
    (y_isqrt : PySem.W.nsIn K mainGlobals "isqrt" = some (some (.builtin "math.isqrt")))
    {tk_FEW_DIVISIONS : PySem.Tok} (v_FEW_DIVISIONS : PySem.W.nsIn K mainGlobals "FEW_DIVISIONS" = some (some (.int 500 tk_FEW_DIVISIONS)))
    {tk_FEW_NUMBERS : PySem.Tok} (v_FEW_NUMBERS : PySem.W.nsIn K mainGlobals "FEW_NUMBERS" = some (some (.int 3 tk_FEW_NUMBERS)))
    : ∃ fd : FuncData, (∀ (s : Shared) (v : Value), BindsTo s fd ⟨[v], []⟩ [("script", v)]) ∧ ∀ base : Heap, K.In base → base.Ns mainGlobals mg → HS.FnG l.prog w K mg base CX0 9 fa fd ["script"] (sp_law K) := by
  have e := hfa.symm.trans (PySem.W.mg_of X G a14)
  cases e
  have F0 := fun_mk (st := s_check_book) l0 c0 k0
  have F1 := fun_mk (st := s_check_size) l1 c1 k1
  have F2 := fun_mk (st := s_divide_alone) l2 c2 k2
  have F3 := fun_mk (st := s_divide_together) l3 c3 k3
  have F4 := fun_mk (st := s_sum_wanted) l4 c4 k4
  have F5 := fun_mk (st := s_sum_ranges) l5 c5 k5
  have F6 := fun_mk (st := s_sum_quotients) l6 c6 k6
  have F7 := fun_mk (st := s_total_pages) l7 c7 k7
  have F8 := fun_mk (st := s__law_bag) l8 c8 k8
  have F9 := fun_mk (st := s__law_draw) l9 c9 k9
  have F10 := fun_mk (st := s__law_lengths) l10 c10 k10
  have F11 := fun_mk (st := s__law_great) l11 c11 k11
  have F12 := fun_mk (st := s__law_needed) l12 c12 k12
  have F13 := fun_mk (st := s__law_by_pairs) l13 c13 k13
  have F14 := fun_mk (st := s_law) l14 c14 k14
  have T : Txt K mg ⟨f0, PySem.W.fnOf "check_book" "check_book" (defArgs s_check_book) (defBody s_check_book) (defScope s_check_book) .none kV0 dc0 pm0 an0 cd0 ct0, f1, PySem.W.fnOf "check_size" "check_size" (defArgs s_check_size) (defBody s_check_size) (defScope s_check_size) .none kV1 dc1 pm1 an1 cd1 ct1, f2, PySem.W.fnOf "divide_alone" "divide_alone" (defArgs s_divide_alone) (defBody s_divide_alone) (defScope s_divide_alone) .none kV2 dc2 pm2 an2 cd2 ct2, f3, PySem.W.fnOf "divide_together" "divide_together" (defArgs s_divide_together) (defBody s_divide_together) (defScope s_divide_together) .none kV3 dc3 pm3 an3 cd3 ct3, f4, PySem.W.fnOf "sum_wanted" "sum_wanted" (defArgs s_sum_wanted) (defBody s_sum_wanted) (defScope s_sum_wanted) .none kV4 dc4 pm4 an4 cd4 ct4, f5, PySem.W.fnOf "sum_ranges" "sum_ranges" (defArgs s_sum_ranges) (defBody s_sum_ranges) (defScope s_sum_ranges) .none kV5 dc5 pm5 an5 cd5 ct5, f6, PySem.W.fnOf "sum_quotients" "sum_quotients" (defArgs s_sum_quotients) (defBody s_sum_quotients) (defScope s_sum_quotients) .none kV6 dc6 pm6 an6 cd6 ct6, f7, PySem.W.fnOf "total_pages" "total_pages" (defArgs s_total_pages) (defBody s_total_pages) (defScope s_total_pages) .none kV7 dc7 pm7 an7 cd7 ct7, f8, PySem.W.fnOf "_law_bag" "_law_bag" (defArgs s__law_bag) (defBody s__law_bag) (defScope s__law_bag) .none kV8 dc8 pm8 an8 cd8 ct8, f9, PySem.W.fnOf "_law_draw" "_law_draw" (defArgs s__law_draw) (defBody s__law_draw) (defScope s__law_draw) .none kV9 dc9 pm9 an9 cd9 ct9, f10, PySem.W.fnOf "_law_lengths" "_law_lengths" (defArgs s__law_lengths) (defBody s__law_lengths) (defScope s__law_lengths) .none kV10 dc10 pm10 an10 cd10 ct10, f11, PySem.W.fnOf "_law_great" "_law_great" (defArgs s__law_great) (defBody s__law_great) (defScope s__law_great) .none kV11 dc11 pm11 an11 cd11 ct11, f12, PySem.W.fnOf "_law_needed" "_law_needed" (defArgs s__law_needed) (defBody s__law_needed) (defScope s__law_needed) .none kV12 dc12 pm12 an12 cd12 ct12, f13, PySem.W.fnOf "_law_by_pairs" "_law_by_pairs" (defArgs s__law_by_pairs) (defBody s__law_by_pairs) (defScope s__law_by_pairs) .none kV13 dc13 pm13 an13 cd13 ct13, fa, PySem.W.fnOf "law" "law" (defArgs s_law) (defBody s_law) (defScope s_law) .none kV14 dc14 pm14 an14 cd14 ct14⟩ :=
    { F_check_book := F0,
      g_check_book := PySem.W.mg_of X G a0,
      b_check_book := F0.binds (ps := ["book"]) fun _ _ _ _ _ _ us hl => match us, hl with | [_], _ => rfl,
      F_check_size := F1,
      g_check_size := PySem.W.mg_of X G a1,
      b_check_size := F1.binds (ps := ["size"]) fun _ _ _ _ _ _ us hl => match us, hl with | [_], _ => rfl,
      F_divide_alone := F2,
      g_divide_alone := PySem.W.mg_of X G a2,
      b_divide_alone := F2.binds (ps := ["number", "start", "stop"]) fun _ _ _ _ _ _ us hl => match us, hl with | [_, _, _], _ => rfl,
      F_divide_together := F3,
      g_divide_together := PySem.W.mg_of X G a3,
      b_divide_together := F3.binds (ps := ["numbers", "start", "stop"]) fun _ _ _ _ _ _ us hl => match us, hl with | [_, _, _], _ => rfl,
      F_sum_wanted := F4,
      g_sum_wanted := PySem.W.mg_of X G a4,
      b_sum_wanted := F4.binds (ps := ["wanted", "start", "stop"]) fun _ _ _ _ _ _ us hl => match us, hl with | [_, _, _], _ => rfl,
      F_sum_ranges := F5,
      g_sum_ranges := PySem.W.mg_of X G a5,
      b_sum_ranges := F5.binds (ps := ["ranges"]) fun _ _ _ _ _ _ us hl => match us, hl with | [_], _ => rfl,
      F_sum_quotients := F6,
      g_sum_quotients := PySem.W.mg_of X G a6,
      b_sum_quotients := F6.binds (ps := ["numbers", "first", "last"]) fun _ _ _ _ _ _ us hl => match us, hl with | [_, _, _], _ => rfl,
      F_total_pages := F7,
      g_total_pages := PySem.W.mg_of X G a7,
      b_total_pages := F7.binds (ps := ["book", "first", "last"]) fun _ _ _ _ _ _ us hl => match us, hl with | [_, _, _], _ => rfl,
      F__law_bag := F8,
      g__law_bag := PySem.W.mg_of X G a8,
      b__law_bag := F8.binds (ps := ["script"]) fun _ _ _ _ _ _ us hl => match us, hl with | [_], _ => rfl,
      F__law_draw := F9,
      g__law_draw := PySem.W.mg_of X G a9,
      b__law_draw := F9.binds (ps := ["bag", "many"]) fun _ _ _ _ _ _ us hl => match us, hl with | [_, _], _ => rfl,
      F__law_lengths := F10,
      g__law_lengths := PySem.W.mg_of X G a10,
      b__law_lengths := F10.binds (ps := ["bag", "upto", "far"]) fun _ _ _ _ _ _ us hl => match us, hl with | [_, _, _], _ => rfl,
      F__law_great := F11,
      g__law_great := PySem.W.mg_of X G a11,
      b__law_great := F11.binds (ps := ["bag"]) fun _ _ _ _ _ _ us hl => match us, hl with | [_], _ => rfl,
      F__law_needed := F12,
      g__law_needed := PySem.W.mg_of X G a12,
      b__law_needed := F12.binds (ps := ["chapters", "wide"]) fun _ _ _ _ _ _ us hl => match us, hl with | [_, _], _ => rfl,
      F__law_by_pairs := F13,
      g__law_by_pairs := PySem.W.mg_of X G a13,
      b__law_by_pairs := F13.binds (ps := ["many", "end"]) fun _ _ _ _ _ _ us hl => match us, hl with | [_, _], _ => rfl,
      F_law := F14,
      g_law := PySem.W.mg_of X G a14,
      b_law := F14.binds (ps := ["script"]) fun _ _ _ _ _ _ us hl => match us, hl with | [_], _ => rfl,
      z_abs := PySem.W.mg_none_of X G z0,
      z_enumerate := PySem.W.mg_none_of X G z1,
      z_len := PySem.W.mg_none_of X G z2,
      z_list := PySem.W.mg_none_of X G z3,
      z_max := PySem.W.mg_none_of X G z4,
      z_min := PySem.W.mg_none_of X G z5,
      z_range := PySem.W.mg_none_of X G z6,
      z_repr := PySem.W.mg_none_of X G z7,
      z_set := PySem.W.mg_none_of X G z8,
      z_sorted := PySem.W.mg_none_of X G z9,
      z_sum := PySem.W.mg_none_of X G z10,
      z_zip := PySem.W.mg_none_of X G z11,
      kb_total_pages_0_last_first_book := ⟨fun s us ws h1 h2 => match us, ws, h1, h2 with | [], [_, _, _], _, _ => .of_eq rfl, fun r1 r2 => .cons (HS.relAt r2 2) (.cons (HS.relAt r2 1) (.cons (HS.relAt r2 0) (.nil)))⟩,
      y_isqrt := PySem.W.mg_of X G y_isqrt,
      v_FEW_DIVISIONS := ⟨_, PySem.W.mg_of X G v_FEW_DIVISIONS⟩,
      v_FEW_NUMBERS := ⟨_, PySem.W.mg_of X G v_FEW_NUMBERS⟩ }
  exact ⟨_, fun s v => .of_eq rfl, fun base _ _ => ok_law T⟩
end WK08
open PySem PySem.W PyProof.Rows
set_option maxHeartbeats 0 in
theorem PySem.Challenge.cw_pagecounts_k08_page_counts_added_holds : PySem.Challenge.rw_pagecounts_k08_page_counts_added.Holds := by
  w_on; o_law; k_head; (case hw => w_witness2)
  k_fill
  refine HS.walk_ofG (l := PySem.Challenge.rw_pagecounts_k08_page_counts_added) (n := 63) (k := 9) (x := "script") (CX := fun _ => L2.CX0) (sp := fun w => WK08.sp_law _) rfl (by decide) rfl ⟨rfl, by decide, by decide⟩ (fun w h Y => PySem.W.kIn_of Y) ?F (fun _ _ a ns hl _ hS => ⟨a, ns, rfl, hS, hl, fun _ => rfl⟩) (fun _ _ _ _ _ h => h)
  case F =>
    intro w mg fa h KX G hmg
    refine' WK08.all_mk KX G hmg ?a0 ?l0 ?c0 ?k0 ?a1 ?l1 ?c1 ?k1 ?a2 ?l2 ?c2 ?k2 ?a3 ?l3 ?c3 ?k3 ?a4 ?l4 ?c4 ?k4 ?a5 ?l5 ?c5 ?k5 ?a6 ?l6 ?c6 ?k6 ?a7 ?l7 ?c7 ?k7 ?a8 ?l8 ?c8 ?k8 ?a9 ?l9 ?c9 ?k9 ?a10 ?l10 ?c10 ?k10 ?a11 ?l11 ?c11 ?k11 ?a12 ?l12 ?c12 ?k12 ?a13 ?l13 ?c13 ?k13 ?a14 ?l14 ?c14 ?k14 ?z0 ?z1 ?z2 ?z3 ?z4 ?z5 ?z6 ?z7 ?z8 ?z9 ?z10 ?z11 ?y_isqrt ?v_FEW_DIVISIONS ?v_FEW_NUMBERS
    (case a0 => k_is); (case l0 => k_is); (case c0 => k_is); (case k0 => k_is); (case a1 => k_is); (case l1 => k_is); (case c1 => k_is); (case k1 => k_is); (case a2 => k_is); (case l2 => k_is); (case c2 => k_is); (case k2 => k_is); (case a3 => k_is); (case l3 => k_is); (case c3 => k_is); (case k3 => k_is); (case a4 => k_is); (case l4 => k_is); (case c4 => k_is); (case k4 => k_is); (case a5 => k_is); (case l5 => k_is); (case c5 => k_is); (case k5 => k_is); (case a6 => k_is); (case l6 => k_is); (case c6 => k_is); (case k6 => k_is); (case a7 => k_is); (case l7 => k_is); (case c7 => k_is); (case k7 => k_is); (case a8 => k_is); (case l8 => k_is); (case c8 => k_is); (case k8 => k_is); (case a9 => k_is); (case l9 => k_is); (case c9 => k_is); (case k9 => k_is); (case a10 => k_is); (case l10 => k_is); (case c10 => k_is); (case k10 => k_is); (case a11 => k_is); (case l11 => k_is); (case c11 => k_is); (case k11 => k_is); (case a12 => k_is); (case l12 => k_is); (case c12 => k_is); (case k12 => k_is); (case a13 => k_is); (case l13 => k_is); (case c13 => k_is); (case k13 => k_is); (case a14 => k_is); (case l14 => k_is); (case c14 => k_is); (case k14 => k_is); (case z0 => k_is); (case z1 => k_is); (case z2 => k_is); (case z3 => k_is); (case z4 => k_is); (case z5 => k_is); (case z6 => k_is); (case z7 => k_is); (case z8 => k_is); (case z9 => k_is); (case z10 => k_is); (case z11 => k_is); (case y_isqrt => k_is); (case v_FEW_DIVISIONS => k_is); (case v_FEW_NUMBERS => k_is)

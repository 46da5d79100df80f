import PyProof.Rows.All
import Wide.All
import OpenK.AllK
import Wide.FinOn
import HandS.Evl
import HandS.GenList
import HandS.Walk
import HandS.WordsExc
import HandS.ForMost
import HandS.Wide
import HandS.Style
import HandS.SortInts
import HandS.SortKw
import HandS.SetFor
import HandS.Flow
import HandS.Gcd
import HandS.Strs
import HandS.Defaults
import HandS.RaiseMore
import KE.KMathG
import KE.KMathGC
import PyProof.ReprRoads
import PyProof.ReprBulk
import PyProof.FitsInt
import PyProof.CallFns
import PyProof.StrReplace2
import PyProof.EqAt
import PyProof.EqKinds
import PySem.Challenge.RW_pagecounts_k17_great_numbers_of_fitting
set_option Elab.async false
set_option linter.all false
set_option maxRecDepth 100000
set_option maxHeartbeats 4000000
/-! Readings, step by step, from their heads (own lemmas over HandS). -/
namespace HS
open PySem PySem.Spec PyProof.Rows L2
section
variable {σ : L2.St} {H : Hp} {Q : VK} {t u : TS} {te ta tb tx : TE} {tt tv : TT} {n bk ct : L2.St → Hp → Prop} {rt : VK} {K : PySem.W.Frag}
theorem seq (h : t ⟨u ⟨n, rt, bk, ct⟩, rt, bk, ct⟩ σ H) : tSeq t u ⟨n, rt, bk, ct⟩ σ H := h
theorem nxt (h : n σ H) : tNext ⟨n, rt, bk, ct⟩ σ H := h
theorem brk (h : bk σ H) : tBreak ⟨n, rt, bk, ct⟩ σ H := h
theorem cnt (h : ct σ H) : tCont ⟨n, rt, bk, ct⟩ σ H := h
theorem asg {g : TG} (h : te σ H fun x H1 => g x σ H1 n) : tAsg te g ⟨n, rt, bk, ct⟩ σ H := h
theorem nm {v : V} {i : Nat} {q : L2.St → Hp → Prop} (h : q (σ.set i (some v)) H) : gName i v σ H q := h
theorem sub {to ti : TE} {ts : TSet} {v : V} {q : L2.St → Hp → Prop} (h : to σ H fun o H1 => ti σ H1 fun i H2 => ts o i v H2 fun H3 => q σ H3) : gSub to ti ts v σ H q := h
theorem var {i : Nat} {v : V} (h : σ[i]? = some (some v)) (q : Q v H) : tVar i σ H Q := ⟨v, h, q⟩
theorem cst {v : V} (q : Q v H) : tC v σ H Q := q
theorem op {r : R2} (h : ta σ H fun x H1 => tb σ H1 fun y H2 => r x y H2 Q) : tOp r ta tb σ H Q := h
theorem un {r : V → Hp → VK → Prop} (h : ta σ H fun x H1 => r x H1 Q) : tUn r ta σ H Q := h
theorem i0 {g : Int → Int → V} {i j : Int} (q : Q (g i j) H) : rI0 g (.int i) (.int j) H Q := ⟨i, j, rfl, rfl, q⟩
theorem i1 {C : Int → Int → Prop} {g : Int → Int → V} {i j : Int} (q : C i j ∧ Q (g i j) H) : rI C g (.int i) (.int j) H Q := ⟨i, j, rfl, rfl, q⟩
theorem u0 {g : Int → V} {i : Int} (q : Q (g i) H) : rU g (.int i) H Q := ⟨i, rfl, q⟩
theorem eqI {i j : Int} (q : Q (.bl (decide (i = j))) H) : rEq (.int i) (.int j) H Q := ⟨rfl, by
  have e : decide ((V.int i) = V.int j) = decide (i = j) := by
    by_cases h : i = j
    · rw [h]; simp
    · have h2 : ¬ (V.int i = V.int j) := fun z => h (V.int.inj z)
      rw [decide_eq_false h, decide_eq_false h2]
  rw [e]; exact q⟩
theorem neI {i j : Int} (q : Q (.bl (!decide (i = j))) H) : rNe (.int i) (.int j) H Q := ⟨rfl, by
  have e : decide ((V.int i) = V.int j) = decide (i = j) := by
    by_cases h : i = j
    · rw [h]; simp
    · have h2 : ¬ (V.int i = V.int j) := fun z => h (V.int.inj z)
      rw [decide_eq_false h, decide_eq_false h2]
  rw [e]; exact q⟩
theorem tst {q : Bool → Hp → Prop} (h : te σ H fun x H' => ∃ k, x = .bl k ∧ q k H') : tTest te σ H q := h
theorem tb1 {q : Bool → Hp → Prop} (h : te σ H fun x H' => ∃ k, x = .bl k ∧ q k H') : tB te σ H q := h
theorem bex {b : Bool} {q : Bool → Prop} (h : q b) : ∃ k, V.bl b = V.bl k ∧ q k := ⟨b, rfl, h⟩
theorem ifs (h : tt σ H fun b H1 => if b = true then t ⟨n, rt, bk, ct⟩ σ H1 else u ⟨n, rt, bk, ct⟩ σ H1) : tIfS tt t u ⟨n, rt, bk, ct⟩ σ H := h
theorem ife (h : tt σ H fun b H1 => if b = true then ta σ H1 Q else tb σ H1 Q) : tIf tt ta tb σ H Q := h
theorem and {q : Bool → Hp → Prop} (h : tt σ H fun c H1 => if c = true then tv σ H1 q else q false H1) : tAnd tt tv σ H q := h
theorem or {q : Bool → Hp → Prop} (h : tt σ H fun c H1 => if c = true then q true H1 else tv σ H1 q) : tOr tt tv σ H q := h
theorem not {q : Bool → Hp → Prop} (h : tt σ H fun c H1 => q (!c) H1) : tNot tt σ H q := h
theorem andV (h : ta σ H fun x H1 => ∃ c, x = .bl c ∧ if c = true then tb σ H1 Q else Q (.bl false) H1) : tAndV ta tb σ H Q := h
theorem orV (h : ta σ H fun x H1 => ∃ c, x = .bl c ∧ if c = true then Q (.bl true) H1 else tb σ H1 Q) : tOrV ta tb σ H Q := h
theorem notV (h : ta σ H fun x H1 => ∃ c, x = .bl c ∧ Q (.bl (!c)) H1) : tNotV ta σ H Q := h
theorem chn {r r' : R2} {tc : TE} (h : ta σ H fun x H1 => tb σ H1 fun y H2 => r x y H2 fun z H3 => ∃ k, z = .bl k ∧ if k = true then tc σ H3 fun w H4 => r' y w H4 Q else Q (.bl false) H3) : tChain r r' ta tb tc σ H Q := h
theorem ret (h : te σ H rt) : tRet te ⟨n, rt, bk, ct⟩ σ H := h
theorem retN (h : rt .non H) : tRetN ⟨n, rt, bk, ct⟩ σ H := h
theorem drp (h : te σ H fun _ H1 => n σ H1) : tDrop te ⟨n, rt, bk, ct⟩ σ H := h
theorem cb {r : List V → Hp → VK → Prop} {tl : TA} (h : tl σ H fun vs H1 => r vs H1 Q) : tCB r tl σ H Q := h
theorem anil {q : List V → Hp → Prop} (h : q [] H) : tNil σ H q := h
theorem acons {tl : TA} {q : List V → Hp → Prop} (h : te σ H fun x H1 => tl σ H1 fun xs H2 => q (x :: xs) H2) : tCons te tl σ H q := h
theorem cal {sp : Sp} {E : XK} {tl : TA} (h : tl σ H fun vs H1 => sp vs H1 Q E) : tCall sp [] E tl σ H Q := by
  show tl σ H fun vs H1 => sp (vs ++ []) H1 Q E
  simp only [List.append_nil]; exact h
theorem tup {tl : TA} (h : tl σ H fun xs H1 => xs.length ≤ sizeLine ∧ ∀ p, H1 p = none → Q (.ref p) (upd H1 p (.tup xs))) : tTup tl σ H Q := h
theorem lst {tl : TA} (h : tl σ H fun xs H1 => xs.length ≤ sizeLine ∧ ∀ p, H1 p = none → Q (.ref p) (upd H1 p (.lst xs))) : tLst tl σ H Q := h
theorem par {i j : Nat} {tl : TA} (h : tl σ H fun vs H1 => ∃ v w, vs = [v, w] ∧ n ((σ.set i (some v)).set j (some w)) H1) : tPar i j tl ⟨n, rt, bk, ct⟩ σ H := h
theorem ex2 {v w : V} {q : V → V → Prop} (h : q v w) : ∃ a b, [v, w] = [a, b] ∧ q a b := ⟨v, w, rfl, h⟩
theorem aug {i : Nat} {ti : TIp} {x : V} (e : σ[i]? = some (some x)) (h : te σ H fun y H1 => ti x y H1 fun z H2 => n (σ.set i (some z)) H2) : tAug i te ti ⟨n, rt, bk, ct⟩ σ H := ⟨x, e, h⟩
theorem ipi {f : Int → Int → Int} {i j : Int} (q : Q (.int (f i j)) H) : ipI f (.int i) (.int j) H Q := ⟨i, j, rfl, rfl, q⟩
theorem addI {i j : Int} (q : Q (.int (i + j)) H) : rAdd (.int i) (.int j) H Q := ⟨i, j, rfl, rfl, q⟩
theorem ixL {p : Addr} {xs : List V} {i : Int} {v : V} (h : SqL K H p xs) (e : atI xs i = some v) (q : Q v H) : rIxL K (.ref p) (.int i) H Q := ⟨p, xs, i, v, rfl, rfl, h, e, q⟩
theorem ixT {p : Addr} {xs : List V} {i : Int} {v : V} (h : SqT K H p xs) (e : atI xs i = some v) (q : Q v H) : rIxT K (.ref p) (.int i) H Q := ⟨p, xs, i, v, rfl, rfl, h, e, q⟩
/-- an if over a decided thing -/
theorem itd {c A B : Prop} [Decidable c] (h1 : c → A) (h2 : ¬ c → B) : if decide c = true then A else B := by
  by_cases h : c
  · rw [decide_eq_true h, if_pos rfl]; exact h1 h
  · rw [decide_eq_false h, if_neg Bool.false_ne_true]; exact h2 h
theorem itn {c A B : Prop} [Decidable c] (h1 : ¬ c → A) (h2 : c → B) : if (!decide c) = true then A else B := by
  by_cases h : c
  · rw [decide_eq_true h]; exact iteF (h2 h)
  · rw [decide_eq_false h]; exact iteT (h1 h)
theorem it1 {c A B : Prop} [Decidable c] (hc : c) (h : A) : if decide c = true then A else B := itd (fun _ => h) fun z => absurd hc z
theorem it0 {c A B : Prop} [Decidable c] (hc : ¬ c) (h : B) : if decide c = true then A else B := itd (fun z => absurd z hc) fun _ => h
theorem in1 {c A B : Prop} [Decidable c] (hc : ¬ c) (h : A) : if (!decide c) = true then A else B := itn (fun _ => h) fun z => absurd z hc
theorem in0 {c A B : Prop} [Decidable c] (hc : c) (h : B) : if (!decide c) = true then A else B := itn (fun z => absurd hc z) fun _ => h
end
/-! ### heaps: all but S stands -/
def Keep (S : Addr → Prop) (H H' : Hp) : Prop := ∀ a o, H a = some o → ¬ S a → H' a = some o
section
variable {S : Addr → Prop} {H H1 H2 : Hp} {p q : Addr} {o u : HO}
theorem Keep.refl : Keep S H H := fun _ _ h _ => h
theorem Keep.trans (a : Keep S H H1) (b : Keep S H1 H2) : Keep S H H2 := fun x o h n => b x o (a x o h n) n
theorem Keep.new (h : H p = none) : Keep S H (upd H p o) := fun a u e _ => by rw [upd_ne (ne_of_none e h)]; exact e
theorem Keep.put (k : Keep S H H1) (h : H p = none) : Keep S H (upd H1 p o) := fun a u e n => by rw [upd_ne (ne_of_none e h)]; exact k a u e n
theorem Keep.at (k : Keep S H H1) (h : S p) : Keep S H (upd H1 p o) := fun a u e n => by rw [upd_ne (fun z => n (by rw [z]; exact h))]; exact k a u e n
theorem Keep.free (k : Keep S H H1) (h : H1 p = none) (n : ¬ S p) : H p = none := by
  cases e : H p with
  | none => rfl
  | some o => have z := k p o e n; rw [h] at z; cases z
theorem Keep.sq {K : PySem.W.Frag} {xs : List V} (k : Keep S H H1) (h : SqL K H p xs) (n : ¬ S p) : SqL K H1 p xs := by
  rcases h with (h | ⟨o, h⟩) | h
  · exact .inl (.inl (k _ _ h n))
  · exact .inl (.inr ⟨o, k _ _ h n⟩)
  · exact .inr h
theorem Keep.st {K : PySem.W.Frag} {xs : List V} (k : Keep S H H1) (h : SqT K H p xs) (n : ¬ S p) : SqT K H1 p xs := by
  rcases h with (h | ⟨o, h⟩) | h
  · exact .inl (.inl (k _ _ h n))
  · exact .inl (.inr ⟨o, k _ _ h n⟩)
  · exact .inr h
theorem sq {K : PySem.W.Frag} {xs : List V} (h : H p = some (.lst xs)) : SqL K H p xs := .inl (.inl h)
theorem st {K : PySem.W.Frag} {xs : List V} (h : H p = some (.tup xs)) : SqT K H p xs := .inl (.inl h)
end
end HS
theorem hu64 {A : PySem.Around} {k : Nat} (hr : L2.Room k A) : A.units + 64 < PySem.cLine := hr.units
namespace HS
open PySem PySem.Spec PyProof.Rows L2
section
variable {σ : L2.St} {H : Hp} {Q : VK} {te ta tb tx : TE} {K : PySem.W.Frag} {X : Cx}
theorem sz {n : Nat} (h : n ≤ 100000) : n < sizeLine := Nat.lt_of_le_of_lt h (by decide)
theorem szl {n : Nat} (h : n ≤ 100000) : n ≤ sizeLine := Nat.le_of_lt (sz h)
theorem pe_fold {e : Expr} {t : TE} (z : Int) (h : PE X e t) (k : ∀ (σ : L2.St) (H : Hp) (Q : VK), Q (.int z) H → t σ H Q) : PE X e (tC (.int z)) :=
  ⟨fun pins s σ H Q I q => h.run pins s σ H Q I (k σ H Q q)⟩
theorem ii {a b : Int} {q : Int → Int → Prop} (h : q a b) : ∃ i j, [V.int a, V.int b] = [V.int i, V.int j] ∧ q i j := ⟨a, b, rfl, h⟩
theorem bmL {r : V → List V → Hp → VK → Prop} {tl : TA} (h : ta σ H fun x H1 => tyV K "list" x H1 ∧ tl σ H1 fun xs H2 => r x xs H2 Q) : tBM K "list" r ta tl σ H Q := h
theorem bmL0 {r : V → List V → Hp → VK → Prop} (h : ta σ H fun x H1 => tyV K "list" x H1 ∧ r x [] H1 Q) : tBM0 K "list" r ta σ H Q := h
theorem tyL {p : Addr} {xs : List V} {A : Prop} (h : H p = some (.lst xs)) (q : A) : tyV K "list" (.ref p) H ∧ A := ⟨.inl ⟨rfl, _, .inl (.inl h)⟩, q⟩
theorem app {l : Addr} {xs : List V} {y : V} (h : H l = some (.lst xs)) (q : xs.length < sizeLine ∧ Q .non (upd H l (.lst (xs ++ [y])))) : rAppend (.ref l) [y] H Q := ⟨l, xs, y, rfl, rfl, h, q⟩
theorem pop0 {l : Addr} {y : V} {ys : List V} (h : H l = some (.lst (y :: ys))) (q : Q y (upd H l (.lst ys))) : rPopAt (.ref l) [.int 0] H Q := ⟨l, y :: ys, 0, 0, y, rfl, rfl, h, by decide, by decide, by simp [seqIndex?], rfl, q⟩
theorem setL {p : Addr} {xs : List V} {k : Int} {j : Nat} {v : V} {q : Hp → Prop} (h : H p = some (.lst xs)) (e : ixN xs.length k = some j) (g : q (upd H p (.lst (xs.set j v)))) : rSetL (.ref p) (.int k) v H q := ⟨p, xs, _, j, rfl, rfl, h, e, g⟩
theorem mulW {i j : Int} (a b : Nat) (h0 : 0 ≤ i) (h1 : i < 2 ^ a) (g0 : 0 ≤ j) (g1 : j < 2 ^ b) (ha : 0 < a) (hb : 0 < b) (h : a + b ≤ 1000000) : CMulW i j := by
  refine wide_mul (a := a) (b := b) ?_ ?_ ha hb h
  · have : ((i.natAbs : Nat) : Int) < ((2 ^ a : Nat) : Int) := by rw [Int.natAbs_of_nonneg h0]; simpa using h1
    exact Int.ofNat_lt.mp this
  · have : ((j.natAbs : Nat) : Int) < ((2 ^ b : Nat) : Int) := by rw [Int.natAbs_of_nonneg g0]; simpa using g1
    exact Int.ofNat_lt.mp this
theorem divW {i j : Int} (b : Nat) (h : 0 < j) (h1 : j < 2 ^ b) (hb : 0 < b) (h9 : b ≤ 9000) : CDivW i j := by
  refine wide_div (b := b) h ?_ hb h9
  have : ((j.natAbs : Nat) : Int) < ((2 ^ b : Nat) : Int) := by rw [Int.natAbs_of_nonneg (by omega)]; simpa using h1
  exact Int.ofNat_lt.mp this
theorem get_int {ns : List Int} {i : Nat} {x : V} (hi : (ns.map V.int)[i]? = some x) : ∃ z, x = .int z ∧ ns[i]? = some z ∧ i < ns.length := by
  rw [List.getElem?_map] at hi
  cases e : ns[i]? with
  | none => rw [e] at hi; cases hi
  | some z => rw [e] at hi; exact ⟨z, (Option.some.inj hi).symm, rfl, (List.getElem?_eq_some_iff.mp e).1⟩
end
end HS
namespace HS
open PySem PySem.Spec PyProof.Rows L2
theorem Keep.new' {S : Addr → Prop} {H H0 H1 : Hp} {p : Addr} {o : HO} (h : H0 p = none) (k0 : Keep S H H0) (n : ¬ S p) (k : Keep S H H1) : Keep S H (upd H1 p o) := k.put (k0.free h n)
theorem nS2 {p a b : Addr} (h1 : p ≠ a) (h2 : p ≠ b) : ¬ (p = a ∨ p = b) := fun z => z.elim h1 h2
theorem nS3 {p a b c : Addr} (h1 : p ≠ a) (h2 : p ≠ b) (h3 : p ≠ c) : ¬ (p = a ∨ p = b ∨ p = c) := fun z => z.elim h1 fun z => z.elim h2 h3
end HS
namespace HS
open PySem PySem.Spec PyProof.Rows L2
section
variable {σ : L2.St} {H : Hp} {t u : TS} {n bk ct : L2.St → Hp → Prop} {rt : VK}
theorem pnx (h : n σ H) : Ends.nx ⟨n, rt, bk, ct⟩ σ H := h
theorem pbk (h : bk σ H) : Ends.bk ⟨n, rt, bk, ct⟩ σ H := h
theorem pct (h : ct σ H) : Ends.ct ⟨n, rt, bk, ct⟩ σ H := h
theorem prt {v : V} (h : rt v H) : Ends.rt ⟨n, rt, bk, ct⟩ v H := h
theorem cut (M : L2.St → Hp → Prop) (h : t ⟨M, rt, bk, ct⟩ σ H) (k : ∀ σ' H', M σ' H' → u ⟨n, rt, bk, ct⟩ σ' H') : Evl.tCut t u ⟨n, rt, bk, ct⟩ σ H := ⟨M, h, k⟩
theorem pow_lt {i : Int} {a : Nat} (k : Nat) (h0 : 0 ≤ i) (h : i < 2 ^ a) : 0 ≤ i ^ k ∧ (i ^ k < 2 ^ (a * k) ∨ k = 0) := by
  refine ⟨Int.pow_nonneg h0, ?_⟩
  cases k with
  | zero => exact .inr rfl
  | succ k =>
    refine .inl ?_
    obtain ⟨m, rfl⟩ := Int.eq_ofNat_of_zero_le h0
    have h' : m < 2 ^ a := by have : ((m : Nat) : Int) < ((2 ^ a : Nat) : Int) := by simpa using h
                              exact Int.ofNat_lt.mp this
    have := Nat.pow_lt_pow_left h' (Nat.succ_ne_zero k)
    rw [← Nat.pow_mul] at this
    have z : ((m ^ (k + 1) : Nat) : Int) < ((2 ^ (a * (k + 1)) : Nat) : Int) := Int.ofNat_lt.mpr this
    simpa using z
end
end HS
namespace HS
open PySem PySem.Spec PyProof.Rows L2
section
variable {σ : L2.St} {H : Hp} {Q : VK} {ta tb te : TE} {K : PySem.W.Frag}
theorem szc {n : Nat} {A : Prop} (h : n ≤ 100000) (q : A) : n ≤ sizeLine ∧ A := ⟨szl h, q⟩
theorem szd {n : Nat} {A : Prop} (h : n ≤ 100000) (q : A) : n < sizeLine ∧ A := ⟨sz h, q⟩
theorem wp {σ1 σ2 : L2.St} {vs : List Nat} {A : Prop} (e : wipe σ2 vs = wipe σ1 vs) (q : A) : wipe σ2 vs = wipe σ1 vs ∧ A := ⟨e, q⟩
theorem yes {q : Bool → Hp → Prop} (h : q true H) : tYes σ H q := h
theorem ixI {p : Addr} {i : Int} (ns : List Int) (h : SqL K H p (ns.map V.int)) (h0 : 0 ≤ i) (h1 : i < ns.length) (q : ∀ z, ns[i.toNat]? = some z → z ∈ ns → Q (.int z) H) : rIxL K (.ref p) (.int i) H Q := by
  have hi : i.toNat < ns.length := by omega
  have e : ns[i.toNat]? = some ns[i.toNat] := List.getElem?_eq_getElem hi
  refine ⟨p, ns.map V.int, i, .int ns[i.toNat], rfl, rfl, h, ?_, q _ e (List.getElem_mem hi)⟩
  exact at_of (j := i.toNat) (by omega) (by rw [List.getElem?_map, e]; rfl)
theorem ixV {p : Addr} {i : Int} {xs : List V} (h : SqL K H p xs) (h0 : 0 ≤ i) (h1 : i < xs.length) (q : ∀ v, xs[i.toNat]? = some v → v ∈ xs → Q v H) : rIxL K (.ref p) (.int i) H Q := by
  have hi : i.toNat < xs.length := by omega
  have e : xs[i.toNat]? = some xs[i.toNat] := List.getElem?_eq_getElem hi
  refine ⟨p, xs, i, xs[i.toNat], rfl, rfl, h, ?_, q _ e (List.getElem_mem hi)⟩
  exact at_of (j := i.toNat) (by omega) e
theorem ixVT {p : Addr} {i : Int} {xs : List V} (h : SqT K H p xs) (h0 : 0 ≤ i) (h1 : i < xs.length) (q : ∀ v, xs[i.toNat]? = some v → v ∈ xs → Q v H) : rIxT K (.ref p) (.int i) H Q := by
  have hi : i.toNat < xs.length := by omega
  have e : xs[i.toNat]? = some xs[i.toNat] := List.getElem?_eq_getElem hi
  refine ⟨p, xs, i, xs[i.toNat], rfl, rfl, h, ?_, q _ e (List.getElem_mem hi)⟩
  exact at_of (j := i.toNat) (by omega) e
theorem lc {wi : TI} {g : TG} {tt : TT} {vs : List Nat} (h : wi σ H fun J H1 => ∀ D, H1 D = none → ∃ W : Nat → Nat → Hp → Prop, (∃ m, W 0 m (upd H1 D (.lst []))) ∧ ∀ i m H, W i m H → (J.stop i H ∧ Q (.ref D) H) ∨ (J.go i H ∧ ∃ Nx : Hp → Prop, (∀ H', Nx H' → ∃ m', m' < m ∧ W (i + 1) m' H') ∧ ∀ x H', J.yld i H x H' → g x (wipe σ vs) H' fun σ2 H2 => wipe σ2 vs = wipe σ vs ∧ tt σ2 H2 fun b H3 => if b = true then te σ2 H3 fun y H4 => ∃ acc, H4 D = some (.lst acc) ∧ acc.length < sizeLine ∧ Nx (upd H4 D (.lst (acc ++ [y]))) else Nx H3)) : tLc wi g tt te vs σ H Q := h
theorem rng1 {tl : TA} {R : It → Hp → Prop} (h : tl σ H fun vs H1 => ∃ j : Int, vs = [.int j] ∧ -(2 ^ 62) ≤ j ∧ j < 2 ^ 62 ∧ R (Itr 0 j.toNat) H1) : iRng1 tl σ H R := h
theorem rng2 {tl : TA} {R : It → Hp → Prop} (h : tl σ H fun vs H1 => ∃ i j : Int, vs = [.int i, .int j] ∧ (-(2 ^ 62) ≤ i ∧ i < 2 ^ 62 ∧ -(2 ^ 62) ≤ j ∧ j < 2 ^ 62) ∧ R (Itr i (j - i).toNat) H1) : iRng2 tl σ H R := h
theorem lis {tl : TE} {R : It → Hp → Prop} (h : tl σ H fun x H1 => ∃ a, x = .ref a ∧ (∃ xs, SqL K H1 a xs) ∧ R (Itl K a) H1) : iList K tl σ H R := h
theorem ra {a : Addr} {q : Addr → Prop} (h : q a) : ∃ b, V.ref a = V.ref b ∧ q b := ⟨a, rfl, h⟩
theorem i1e {a : Int} {q : Int → Prop} (h : q a) : ∃ i, [V.int a] = [V.int i] ∧ q i := ⟨a, rfl, h⟩
theorem fr {wi : TI} {g : TG} {tb : TS} {D : Ends} (h : wi σ H fun J H1 => ∃ W : Nat → Nat → L2.St → Hp → Prop, (∃ m, W 0 m σ H1) ∧ ∀ i m σ H, W i m σ H →
    (J.stop i H ∧ D.nx σ H) ∨ (J.go i H ∧ ∃ N : L2.St → Hp → Prop, (∀ σ' H', N σ' H' → ∃ m', m' < m ∧ W (i + 1) m' σ' H') ∧ ∀ x H', J.yld i H x H' → g x σ H' fun σ2 H2 => tb { D with nx := N, ct := N, bk := D.nx } σ2 H2)) : tFor wi g tb D σ H := h
end
end HS
namespace HS
open PySem PySem.Spec PyProof.Rows L2
theorem iteM {c : Bool} {ta tb : TE} {σ : L2.St} {H1 : Hp} {Q : VK} (M : VK) (h : c = true → ∀ Q' : VK, (∀ v H', M v H' → Q' v H') → ta σ H1 Q') (g : c = false → ∀ Q' : VK, (∀ v H', M v H' → Q' v H') → tb σ H1 Q') (k : ∀ v H', M v H' → Q v H') :
    if c = true then ta σ H1 Q else tb σ H1 Q := by
  cases c with
  | true => rw [if_pos rfl]; exact h rfl Q k
  | false => rw [if_neg Bool.false_ne_true]; exact g rfl Q k
/-- ceilings -/
theorem ceil_eq {i j : Int} (hj : 1 ≤ j) : (i + j - 1) / j = i / j + (if 0 < i % j then 1 else 0) := by
  have h0 := Int.emod_nonneg i (by omega : j ≠ 0)
  have h1 := Int.emod_lt_of_pos i (by omega : 0 < j)
  have e := Int.mul_ediv_add_emod i j
  generalize i / j = q at e ⊢
  generalize i % j = r at e h0 h1 ⊢
  subst e
  split
  · rename_i h
    rw [show j * q + r + j - 1 = (r - 1) + j * (q + 1) by rw [Int.mul_add]; omega, Int.add_mul_ediv_left _ _ (by omega), Int.ediv_eq_zero_of_lt (by omega) (by omega)]
    omega
  · rename_i h
    rw [show j * q + r + j - 1 = (j - 1) + j * q by omega, Int.add_mul_ediv_left _ _ (by omega), Int.ediv_eq_zero_of_lt (by omega) (by omega)]
    omega
end HS
namespace HS
open PySem PySem.Spec PyProof.Rows L2
section
variable {σ : L2.St} {H : Hp} {te : TE} {t : TS} {tg ug : TGn} {n bk ct : List V → L2.St → Hp → Prop} {rt : List V → VK} {ys : List V} {Q : VK}
theorem gthen (h : tg ⟨fun ys' σ' H' => ug ⟨n, rt, bk, ct⟩ ys' σ' H', rt, bk, ct⟩ ys σ H) : tGThen tg ug ⟨n, rt, bk, ct⟩ ys σ H := h
theorem g0 (h : n ys σ H) : tG0 ⟨n, rt, bk, ct⟩ ys σ H := h
theorem gpl (h : t ⟨n ys, rt ys, bk ys, ct ys⟩ σ H) : tPlain t ⟨n, rt, bk, ct⟩ ys σ H := h
theorem gyl (h : ys.length < sizeLine ∧ te σ H fun x H1 => n (ys ++ [x]) σ H1) : tGYield te ⟨n, rt, bk, ct⟩ ys σ H := h
theorem lgn {tg : TGen} (h : tg σ H fun out H2 => ∀ p, H2 p = none → Q (.ref p) (upd H2 p (.lst out))) : tListG tg σ H Q := h
theorem calg {sp : SpG} {E : XK} {tl : TA} {q : List V → Hp → Prop} (h : tl σ H fun vs H1 => sp vs H1 q E) : tCallG sp [] E tl σ H q := by
  show tl σ H fun vs H1 => sp (vs ++ []) H1 q E
  simp only [List.append_nil]; exact h
end
end HS
namespace HS
open PySem PySem.Spec PyProof.Rows L2
section
variable {H : Hp} {Q : VK} {K : PySem.W.Frag}
theorem ixZ {p : Addr} {i z : Int} {ns : List Int} (h : SqL K H p (ns.map V.int)) (h0 : 0 ≤ i) (e : ns[i.toNat]? = some z) (q : Q (.int z) H) : rIxL K (.ref p) (.int i) H Q :=
  ⟨p, ns.map V.int, i, .int z, rfl, rfl, h, at_of (j := i.toNat) (by omega) (by rw [List.getElem?_map, e]; rfl), q⟩
theorem cut_to (xs : List V) (n : Nat) : cutV xs none (some (n : Int)) = xs.take n := by
  unfold cutV
  rw [HT.sIx_none, HT.sIx_nat, List.drop_zero, Nat.sub_zero]
  rw [List.take_eq_take_iff]
  omega
theorem cut_from (xs : List V) (n : Nat) : cutV xs (some (n : Int)) none = xs.drop n := by
  unfold cutV
  rw [HT.sIx_none, HT.sIx_nat]
  rw [List.take_of_length_le (by rw [List.length_drop]; omega)]
  by_cases h : n ≤ xs.length
  · rw [Nat.min_eq_left h]
  · rw [Nat.min_eq_right (by omega), List.drop_eq_nil_of_le (Nat.le_refl _), List.drop_eq_nil_of_le (by omega)]
end
end HS
namespace HS
open PySem PySem.Spec PyProof.Rows L2
theorem Keep.any {S : Addr → Prop} {H H1 : Hp} (k : Keep (fun _ => False) H H1) : Keep S H H1 := fun a o e _ => k a o e id
theorem Keep.mono {S T : Addr → Prop} {H H1 : Hp} (k : Keep S H H1) (h : ∀ a, S a → T a) : Keep T H H1 := fun a o e n => k a o e fun z => n (h a z)
end HS
namespace HS
open PySem PySem.Spec PyProof.Rows L2
theorem cut_toI {i : Int} (ls : List Int) (h : 0 ≤ i) : cutV (ls.map V.int) none (some i) = (ls.take i.toNat).map V.int := by
  obtain ⟨n, rfl⟩ := Int.eq_ofNat_of_zero_le h
  rw [cut_to, List.map_take]; simp
theorem cut_fromI {i : Int} (ls : List Int) (h : 0 ≤ i) : cutV (ls.map V.int) (some i) none = (ls.drop i.toNat).map V.int := by
  obtain ⟨n, rfl⟩ := Int.eq_ofNat_of_zero_le h
  rw [cut_from, List.map_drop]; simp
end HS
namespace HS
theorem ifT {c : Bool} {A B : Prop} (e : c = true) (h : A) : if c = true then A else B := by rw [if_pos e]; exact h
theorem ifF {c : Bool} {A B : Prop} (e : c = false) (h : B) : if c = true then A else B := by rw [if_neg (by rw [e]; exact Bool.false_ne_true)]; exact h
end HS
namespace HS
open PySem PySem.Spec PyProof.Rows L2
/-- a new object behind what stands -/
theorem Keep.nw {H H1 : Hp} {p : Addr} {o : HO} (k : Keep (fun _ => False) H H1) (h : H1 p = none) : Keep (fun _ => False) H (upd H1 p o) := k.put (k.free h id)
theorem Keep.nwS {S : Addr → Prop} {H H1 : Hp} {p : Addr} {o : HO} (k : Keep S H H1) (h : H1 p = none) (n : ¬ S p) : Keep S H (upd H1 p o) := k.put (k.free h n)
end HS
namespace HS
theorem nt {A B : Prop} (h : B) : if (!true) = true then A else B := by rw [if_neg (show ¬ ((!true) = true) from Bool.false_ne_true)]; exact h
theorem nf {A B : Prop} (h : A) : if (!false) = true then A else B := by rw [if_pos (show (!false) = true from rfl)]; exact h
end HS
namespace HS
open PySem PySem.Spec PyProof.Rows L2
section
variable {H H' : Hp} {p x : Addr} {o u : HO}
theorem upgs (e : upd H p o = H') : H' p = some o := by rw [← e]; exact upd_same
theorem upgK (e : upd H p o = H') (h : H p = none) : Keep (fun _ => False) H H' := by rw [← e]; exact Keep.new h
end
end HS
/-! Data of ints, lists and tuples, and == of such. -/
namespace HS
open PySem PySem.Spec PyProof.Rows L2
def dInts (ns : List Int) : PyData := .list (ns.map .int)
section
variable {K : PySem.W.Frag} {H : Hp}
theorem dpAll_ints : ∀ ns : List Int, DpAll K H (ns.map V.int) (ns.map .int)
  | [] => .nil
  | n :: r => .cons (.int n) (dpAll_ints r)
theorem dp_ints {a : Addr} {ns : List Int} (h : SqL K H a (ns.map V.int)) : Dp K H (.ref a) (dInts ns) := .lst h (dpAll_ints ns)
theorem lay_ints : ∀ ns : List Int, PyData.canLayAll0 (ns.map .int) = true
  | [] => rfl
  | n :: r => by rw [List.map_cons, PyData.canLayAll0, lay_ints r]; rfl
theorem dep_ints : ∀ ns : List Int, PyData.depthAll (ns.map .int) = 0
  | [] => rfl
  | n :: r => by rw [List.map_cons, PyData.depthAll, dep_ints r]; rfl
theorem sh_ints (ns : List Int) : SeqAt.shaped (dInts ns) = true := by
  unfold SeqAt.shaped dInts
  rw [PyData.canLay0, PyData.depth, lay_ints, dep_ints]; rfl
theorem eqv_int (i j : Int) : PyData.eqv (.int i) (.int j) = decide (i = j) := by
  rw [PyData.eqv]; exact Bool.beq_eq_decide_eq i j
theorem eqvAll_ints : ∀ xs ys : List Int, PyData.eqvAll (xs.map .int) (ys.map .int) = decide (xs = ys)
  | [], [] => rfl
  | [], y :: ys => rfl
  | x :: xs, [] => rfl
  | x :: xs, y :: ys => by
    rw [List.map_cons, List.map_cons, PyData.eqvAll, eqv_int, eqvAll_ints xs ys]
    by_cases h : x = y <;> by_cases g : xs = ys <;> simp [h, g]
theorem eqv_ints (xs ys : List Int) : PyData.eqv (dInts xs) (dInts ys) = decide (xs = ys) := by
  unfold dInts; rw [PyData.eqv]; exact eqvAll_ints xs ys
/-- == and != of two lists of ints -/
theorem eqL {a b : Addr} {xs ys : List Int} {Q : VK} (h1 : SqL K H a (xs.map V.int)) (h2 : SqL K H b (ys.map V.int)) (q : Q (.bl (decide (xs = ys))) H) : rEqD K (.ref a) (.ref b) H Q :=
  ⟨_, _, dp_ints h1, dp_ints h2, sh_ints _, sh_ints _, by rw [eqv_ints]; exact q⟩
theorem neL {a b : Addr} {xs ys : List Int} {Q : VK} (h1 : SqL K H a (xs.map V.int)) (h2 : SqL K H b (ys.map V.int)) (q : Q (.bl (!decide (xs = ys))) H) : rNeD K (.ref a) (.ref b) H Q :=
  ⟨_, _, dp_ints h1, dp_ints h2, sh_ints _, sh_ints _, by rw [eqv_ints]; exact q⟩
end
end HS
/-! Rules told with the written part K by its own letter. -/
namespace HS
open PySem PySem.Spec PyProof.Rows L2
section
variable {X : Cx} (K : PySem.W.Frag)
theorem ixl (h : X.K = K := by rfl) : IxR X (rIxL K) := h ▸ ix_list
theorem ixt (h : X.K = K := by rfl) : IxR X (rIxT K) := h ▸ ix_tup
theorem sll (h : X.K = K := by rfl) : SlR X (rSlL K) := h ▸ sl_list
theorem slt (h : X.K = K := by rfl) : SlR X (rSlT K) := h ▸ sl_tup
theorem kbm {E : Expr} {T : String} {r : V → List V → Hp → VK → Prop} {to : TE} {t : TA} (p : PE X E (tBM X.K T r to t)) (h : X.K = K := by rfl) : PE X E (tBM K T r to t) := h ▸ p
theorem kbm0 {E : Expr} {T : String} {r : V → List V → Hp → VK → Prop} {to : TE} (p : PE X E (tBM0 X.K T r to)) (h : X.K = K := by rfl) : PE X E (tBM0 K T r to) := h ▸ p
theorem kil {tg l : Expr} {tl : TE} (p : PI X tg l (iList X.K tl)) (h : X.K = K := by rfl) : PI X tg l (iList K tl) := h ▸ p
theorem kit {tg l : Expr} {tl : TE} (p : PI X tg l (iTup X.K tl)) (h : X.K = K := by rfl) : PI X tg l (iTup K tl) := h ▸ p
theorem kien {tg l : Expr} {tl : TA} (p : PI X tg l (iEnum X.K tl)) (h : X.K = K := by rfl) : PI X tg l (iEnum K tl) := h ▸ p
theorem kgt {tg : Expr} {n : Nat} {t : TGs} (p : PG X tg (gTup X.K n t)) (h : X.K = K := by rfl) : PG X tg (gTup K n t) := h ▸ p
theorem keq (hu : X.A.units + 64 < cLine) (h : X.K = K := by rfl) : OpR X (compareOp .Eq) (rEqD K) := h ▸ op_eqD hu
theorem kne (hu : X.A.units + 64 < cLine) (h : X.K = K := by rfl) : OpR X (compareOp .NotEq) (rNeD K) := h ▸ op_neD hu
theorem kin (h : X.K = K := by rfl) : OpR X (compareOp .In) (rIn K false) := h ▸ op_in_seq
theorem knin (h : X.K = K := by rfl) : OpR X (compareOp .NotIn) (rIn K true) := h ▸ op_notIn_seq
theorem kcatT (h : X.K = K := by rfl) : OpR X (binaryOp .Add) (rCatT K) := h ▸ op_catT
def rLen : List V → Hp → VK → Prop := fun xs H Q => ∃ p ys, xs = [.ref p] ∧ (SqL K H p ys ∨ SqT K H p ys) ∧ Q (.int ys.length) H
def rLst : List V → Hp → VK → Prop := fun xs H Q => ∃ p ys, xs = [.ref p] ∧ (SqL K H p ys ∨ SqT K H p ys) ∧ ∀ l, H l = none → Q (.ref l) (upd H l (.lst ys))
theorem klen (h : X.K = K := by rfl) : CallR X (.builtin "len") (rLen K) := h ▸ call_len_seq
theorem klst (h : X.K = K := by rfl) : CallR X (.type "list") (rLst K) := h ▸ call_list_of
theorem ksum (hc : X.calm = true) (h : X.K = K := by rfl) : CallR X (.builtin "sum") (rSum K) := h ▸ cr_sum hc
theorem kmax (hc : X.calm = true) (h : X.K = K := by rfl) : CallR X (.builtin "max") (rMax K) := h ▸ cr_max hc
theorem kmin (hc : X.calm = true) (h : X.K = K := by rfl) : CallR X (.builtin "min") (rMin K) := h ▸ cr_min hc
theorem krev {E : Expr} {te : TE} (p : PE X E (tRevL X.K te)) (h : X.K = K := by rfl) : PE X E (tRevL K te) := h ▸ p
/-- the names of a block within a block -/
def relab (scO sc : Scope) : Scope := { scO with names := scO.names.map fun (n, k) => if (k == .free && sc.kind == .function && sc.names.lookup n == some .cell) then (n, .cell) else (n, k) }
/-- a list comprehension within a comprehension's block -/
theorem pe_lcIn {X : Cx} {s0 : Shared} {H0 : Hp} {C0 : Addr} {cl0 : List (Str × Addr)} {fp0 : List Addr} {scO : Scope} {elt tg iter : Expr} {ifs : List Expr} {scope : Scope} {own : List (Str × Nat)} {pos : Pos} {wi : TI} {g : TG} {tt : TT} {te : TE} (hc : X.calm = true) (hN : X.N.Nodup) (hi : PI (X.blk s0 H0 scO (compEnvC scO cl0 C0 X.env) fp0) tg iter wi) (sc : Scope) (hsc : X.env.scope = sc) (ok : BlkOk X.N (relab scO sc) scope own)
    (hg : ∀ (s : Shared) (H : Hp) (C : Addr) (cl : List (Str × Addr)) (fp : List Addr), PG ((X.blk s0 H0 scO (compEnvC scO cl0 C0 X.env) fp0).blk s H scope (compEnvC scope cl C (compEnvC scO cl0 C0 X.env)) fp) tg g) (ht : ∀ (s : Shared) (H : Hp) (C : Addr) (cl : List (Str × Addr)) (fp : List Addr), PTs ((X.blk s0 H0 scO (compEnvC scO cl0 C0 X.env) fp0).blk s H scope (compEnvC scope cl C (compEnvC scO cl0 C0 X.env)) fp) ifs tt)
    (he : ∀ (s : Shared) (H : Hp) (C : Addr) (cl : List (Str × Addr)) (fp : List Addr), PE ((X.blk s0 H0 scO (compEnvC scO cl0 C0 X.env) fp0).blk s H scope (compEnvC scope cl C (compEnvC scO cl0 C0 X.env)) fp) elt te) (hs : ∀ x, foldedSetIterable iter (compEnvC scO cl0 C0 X.env) x = pure x := by intro _; rfl) :
    PE (X.blk s0 H0 scO (compEnvC scO cl0 C0 X.env) fp0) (.ListComp elt [⟨tg, iter, ifs, 0⟩] scope pos) (tLc wi g tt te (own.map (·.2))) :=
  by subst hsc; exact pe_lc (X := X.blk s0 H0 scO (compEnvC scO cl0 C0 X.env) fp0) hc hN hi ok hg ht he hs
end
section
variable {σ : L2.St} {H : Hp} {Q : VK} {te : TE} {K : PySem.W.Frag}
theorem lenL {p : Addr} {ys : List V} (h : SqL K H p ys) (q : Q (.int ys.length) H) : rLen K [.ref p] H Q := ⟨p, ys, rfl, .inl h, q⟩
theorem lenT {p : Addr} {ys : List V} (h : SqT K H p ys) (q : Q (.int ys.length) H) : rLen K [.ref p] H Q := ⟨p, ys, rfl, .inr h, q⟩
theorem sumL {p : Addr} {ns : List Int} (h : SqL K H p (ns.map V.int)) (q : Q (.int ns.sum) H) : rSum K [.ref p] H Q := ⟨p, ns, rfl, h, q⟩
theorem revL (h : te σ H fun x H1 => ∃ a xs, x = .ref a ∧ SqL K H1 a xs ∧ ∀ p, H1 p = none → Q (.ref p) (upd H1 p (.lst xs.reverse))) : tRevL K te σ H Q := h
theorem sl {r : V → Option Int → Option Int → Hp → VK → Prop} {tl th : TO} (h : te σ H fun x H1 => tl σ H1 fun l H2 => th σ H2 fun u H3 => r x l u H3 Q) : tSl r te tl th σ H Q := h
theorem noP {q : Option Int → Hp → Prop} (h : q none H) : tNoPart σ H q := h
theorem part {q : Option Int → Hp → Prop} (h : te σ H fun x H1 => ∃ i, x = .int i ∧ q (some i) H1) : tPart te σ H q := h
theorem ie {a : Int} {q : Int → Prop} (h : q a) : ∃ i, V.int a = V.int i ∧ q i := ⟨a, rfl, h⟩
theorem slLs {p : Addr} {xs : List V} {lo hi : Option Int} (h : SqL K H p xs) (q : ∀ p, H p = none → Q (.ref p) (upd H p (.lst (cutV xs lo hi)))) : rSlL K (.ref p) lo hi H Q := ⟨p, xs, rfl, h, q⟩
theorem gtup {n : Nat} {t : TGs} {a : Addr} {xs : List V} {q : L2.St → Hp → Prop} (h : SqT K H a xs) (e : xs.length = n) (k : t xs σ H q) : gTup K n t (.ref a) σ H q := ⟨a, xs, rfl, h, e, k⟩
theorem gcons {t : TG} {u : TGs} {v : V} {r : List V} {q : L2.St → Hp → Prop} (h : t v σ H fun σ' H' => u r σ' H' q) : gCons t u (v :: r) σ H q := ⟨v, r, rfl, h⟩
theorem gnil {q : L2.St → Hp → Prop} (h : q σ H) : gNil [] σ H q := ⟨rfl, h⟩
theorem itup {R : It → Hp → Prop} (h : te σ H fun x H1 => ∃ a, x = .ref a ∧ (∃ xs, SqT K H1 a xs) ∧ R (Itt K a) H1) : iTup K te σ H R := h
theorem ienu {tl : TA} {R : It → Hp → Prop} (h : tl σ H fun vs H1 => ∃ a xs, vs = [.ref a] ∧ SqL K H1 a xs ∧ R (Ite K a) H1) : iEnum K tl σ H R := h
theorem cat {l b : Addr} {xs zs : List V} (h1 : H l = some (.lst xs)) (h2 : H b = some (.lst zs)) (q : xs.length + zs.length ≤ sizeLine ∧ ∀ p, H p = none → Q (.ref p) (upd H p (.lst (xs ++ zs)))) : rCat (.ref l) (.ref b) H Q := ⟨l, b, xs, zs, rfl, rfl, h1, h2, q⟩
theorem ext {l b : Addr} {xs zs : List V} (h1 : H l = some (.lst xs)) (h2 : H b = some (.lst zs)) (q : xs.length + zs.length ≤ sizeLine ∧ Q .non (upd H l (.lst (xs ++ zs)))) : rExtend (.ref l) [.ref b] H Q := ⟨l, b, xs, zs, rfl, rfl, h1, h2, q⟩
end
end HS
/-! Lists of new pairs of ints, and == of such; ranges by steps. -/
namespace HS
open PySem PySem.Spec PyProof.Rows L2
/-- the refs of vs are tuples of these pairs -/
def Prs (H : Hp) : List V → List (Int × Int) → Prop
  | [], [] => True
  | v :: vs, p :: ps => (∃ t, v = .ref t ∧ H t = some (.tup [.int p.1, .int p.2])) ∧ Prs H vs ps
  | _, _ => False
theorem Prs.keep {S : Addr → Prop} {H H' : Hp} (k : Keep S H H') : ∀ {vs : List V} {ps : List (Int × Int)}, Prs H vs ps → (∀ v ∈ vs, ∀ t, v = .ref t → ¬ S t) → Prs H' vs ps
  | [], [], h, _ => h
  | _ :: _, _ :: _, ⟨⟨t, e, o⟩, h⟩, n => ⟨⟨t, e, k t _ o (n _ List.mem_cons_self t e)⟩, h.keep k fun v hv => n v (List.mem_cons_of_mem _ hv)⟩
theorem Prs.app {H : Hp} : ∀ {vs ws : List V} {ps qs : List (Int × Int)}, Prs H vs ps → Prs H ws qs → Prs H (vs ++ ws) (ps ++ qs)
  | [], _, [], _, _, g => g
  | _ :: _, _, _ :: _, _, ⟨a, h⟩, g => ⟨a, h.app g⟩
theorem Prs.len {H : Hp} : ∀ {vs : List V} {ps : List (Int × Int)}, Prs H vs ps → vs.length = ps.length
  | [], [], _ => rfl
  | _ :: _, _ :: _, ⟨_, h⟩ => by rw [List.length_cons, List.length_cons, h.len]
def dPr (p : Int × Int) : PyData := .tuple [.int p.1, .int p.2]
def dPrs (ps : List (Int × Int)) : PyData := .list (ps.map dPr)
section
variable {K : PySem.W.Frag} {H : Hp}
theorem dpAll_prs : ∀ {vs : List V} {ps : List (Int × Int)}, Prs H vs ps → DpAll K H vs (ps.map dPr)
  | [], [], _ => .nil
  | _ :: _, p :: _, ⟨⟨t, e, o⟩, h⟩ => .cons (by rw [e]; exact .tup (st o) (.cons (.int p.1) (.cons (.int p.2) .nil))) (dpAll_prs h)
theorem lay_prs : ∀ ps : List (Int × Int), PyData.canLayAll0 (ps.map dPr) = true
  | [] => rfl
  | p :: r => by rw [List.map_cons, PyData.canLayAll0, lay_prs r]; rfl
theorem dep_prs : ∀ ps : List (Int × Int), PyData.depthAll (ps.map dPr) ≤ 2
  | [] => by simp [PyData.depthAll]
  | p :: r => by
    have h := dep_prs r
    have h2 : (dPr p).depth ≤ 2 := by simp [dPr, PyData.depth, PyData.depthAll]
    rw [List.map_cons, PyData.depthAll]; omega
theorem sh_prs (ps : List (Int × Int)) : SeqAt.shaped (dPrs ps) = true := by
  have h1 := dep_prs ps
  have h2 : PyData.depth (dPrs ps) ≤ 64 := by unfold dPrs; rw [PyData.depth]; omega
  show (PyData.canLay0 (dPrs ps) && decide (PyData.depth (dPrs ps) ≤ 64)) = true
  rw [Bool.and_eq_true]
  exact ⟨by unfold dPrs; rw [PyData.canLay0]; exact lay_prs ps, decide_eq_true h2⟩
theorem eqv_pr (p q : Int × Int) : PyData.eqv (dPr p) (dPr q) = decide (p = q) := by
  unfold dPr
  rw [PyData.eqv, PyData.eqvAll, PyData.eqvAll, PyData.eqvAll, eqv_int, eqv_int]
  obtain ⟨a, b⟩ := p
  obtain ⟨c, d⟩ := q
  by_cases h : a = c <;> by_cases g : b = d <;> simp [h, g]
theorem eqvAll_prs : ∀ xs ys : List (Int × Int), PyData.eqvAll (xs.map dPr) (ys.map dPr) = decide (xs = ys)
  | [], [] => rfl
  | [], y :: ys => rfl
  | x :: xs, [] => rfl
  | x :: xs, y :: ys => by
    rw [List.map_cons, List.map_cons, PyData.eqvAll, eqv_pr, eqvAll_prs xs ys]
    by_cases h : x = y <;> by_cases g : xs = ys <;> simp [h, g]
/-- == of two lists of pairs of ints -/
theorem eqP {a b : Addr} {vs ws : List V} {xs ys : List (Int × Int)} {Q : VK} (h1 : SqL K H a vs) (g1 : Prs H vs xs) (h2 : SqL K H b ws) (g2 : Prs H ws ys) (q : Q (.bl (decide (xs = ys))) H) : rEqD K (.ref a) (.ref b) H Q := by
  refine ⟨dPrs xs, dPrs ys, .lst h1 (dpAll_prs g1), .lst h2 (dpAll_prs g2), sh_prs _, sh_prs _, ?_⟩
  rw [show PyData.eqv (dPrs xs) (dPrs ys) = decide (xs = ys) by unfold dPrs; rw [PyData.eqv]; exact eqvAll_prs xs ys]
  exact q
end
theorem RgC.up {j c : Int} (hc : 1 ≤ c) (hc2 : c < 2 ^ 30) (h0 : 0 ≤ j) (h1 : j < 2 ^ 61) : RgC 0 j c ((j + c - 1) / c).toNat := by
  have hn : 0 ≤ (j + c - 1) / c := Int.ediv_nonneg (by omega) (by omega)
  have e : Builtin.Range.rangeSize 0 j c = (j + c - 1) / c := by
    unfold Builtin.Range.rangeSize
    rw [if_pos (by omega)]
    split
    · rw [show j + c - 1 = (j - 0 - 1) + c * 1 by omega, Int.add_mul_ediv_left _ _ (by omega)]
    · rw [show j = 0 by omega, Int.ediv_eq_zero_of_lt (by omega) (by omega)]
  have hl : (j + c - 1) / c ≤ j + c := Int.le_trans (Int.ediv_le_self _ (by omega)) (by omega)
  refine ⟨by omega, by omega, ?_, by rw [e]; omega⟩
  unfold Builtin.Range.small
  rw [e]
  simp only [Builtin.Range.rangeFitsLong, Bool.and_eq_true, Bool.or_eq_true, decide_eq_true_eq, beq_iff_eq]
  rw [if_pos (show c > 0 by omega)]
  simp only [Bool.and_eq_true, decide_eq_true_eq]
  omega
end HS
namespace HS
open PySem PySem.Spec PyProof.Rows L2
section
variable {σ : L2.St} {H : Hp}
theorem rng3 {tl : TA} {R : It → Hp → Prop} (h : tl σ H fun vs H1 => ∃ (i j c : Int) (n : Nat), vs = [.int i, .int j, .int c] ∧ RgC i j c n ∧ R (Itc i c n) H1) : iRng3 tl σ H R := h
end
end HS
namespace HS
open PySem PySem.Spec PyProof.Rows L2
theorem Prs.new {H : Hp} {p : Addr} {o : HO} (hp : H p = none) {vs : List V} {ps : List (Int × Int)} (h : Prs H vs ps) : Prs (upd H p o) vs ps :=
  h.keep (S := fun _ => False) (Keep.new hp) fun _ _ _ _ z => z
theorem Prs.same {H H' : Hp} {vs : List V} {ps : List (Int × Int)} (h : Prs H vs ps) (k : Keep (fun _ => False) H H') : Prs H' vs ps :=
  h.keep (S := fun _ => False) k fun _ _ _ _ z => z
theorem Prs.lst {H : Hp} {L : Addr} {ws : List V} (hL : H L = some (.lst ws)) : ∀ {vs : List V} {ps : List (Int × Int)}, Prs H vs ps → ∀ v ∈ vs, ∀ t, v = .ref t → t ≠ L
  | [], [], _, _, hv, _, _ => absurd hv List.not_mem_nil
  | _ :: _, _ :: _, ⟨⟨t', e', o'⟩, h⟩, v, hv, t, e => by
    rcases List.mem_cons.mp hv with hv | hv
    · subst hv
      rw [e'] at e
      have := V.ref.inj e
      subst this
      intro z
      rw [z, hL] at o'
      cases o'
    · exact h.lst hL v hv t e
theorem Prs.put {H : Hp} {L : Addr} {ws : List V} {o : HO} (hL : H L = some (.lst ws)) {vs : List V} {ps : List (Int × Int)} (h : Prs H vs ps) : Prs (upd H L o) vs ps :=
  h.keep (S := fun a => a = L) (Keep.at Keep.refl rfl) (h.lst hL)
theorem Prs.snoc {H : Hp} {vs : List V} {ps : List (Int × Int)} {t : Addr} {a b : Int} (h : Prs H vs ps) (e : H t = some (.tup [.int a, .int b])) : Prs H (vs ++ [.ref t]) (ps ++ [(a, b)]) :=
  h.app ⟨⟨t, rfl, e⟩, trivial⟩
end HS
/-! Defs that are called while nothing is being shown (no repr stands on the stack), so that they may call repr of a list. -/
namespace HS
open PySem PySem.Spec PyProof.Rows L2
/-- a def's promise where no repr is under way -/
structure FnG (Pg : Program) (wd : World) (K : PySem.W.Frag) (mg : Str → Option Value) (base : Heap) (C : CXT) (n : Nat) (f : Addr) (fd : FuncData) (ps : List Str) (sp : Sp) : Prop where
  len : ∀ vs H Q E, sp vs H Q E → vs.length = ps.length
  go : ∀ (B : Around) (o : List Env) (s : Shared) (H : Hp) (ar : Args) (us : List Value) (vs : List V) (Q : VK) (E : XK), B.guards = some [] → Room n B → Env0 Pg wd K mg base B o s H →
    BindsTo s fd ar (ps.zip us) → Vals vs us → sp vs H Q E → codeAny (model Pg wd) B (.call (.ref f) ar) (CR C o Pg wd H s Q E) s
section
variable {Pg : Program} {wd : World} {K : PySem.W.Frag} {mg : Str → Option Value} {base : Heap} {C : CXT} {n : Nat} {f : Addr} {fd : FuncData} {ps : List Str} {sp : Sp}
/-- a finished body's end is the call's end -/
theorem g_end {N : List Str} {q : Str} {sc : Scope} {cd : Value} {B : Around} {o : List Env} {s : Shared} {H : Hp} {E : XK} {Q : VK} {x : Cx} (hx : x = cxOf C Pg wd K mg base N q sc f cd B o s H E) (fl : Flow) {s' : Shared} :
    SP x [] { nx := fun _ H' => Q .non H', rt := Q } fl s' → CR C o Pg wd H s Q E (.ok (.ret (match fl with | .ret v => v | _ => .none))) s' := by
  subst hx
  intro h
  cases fl
  case ret u => obtain ⟨v, st, H', J, rv, y⟩ := h; exact ⟨v, H', J.os, J.bare, J.base, J.hok, rv, y⟩
  case next => obtain ⟨st, H', J, y⟩ := h; exact ⟨.non, H', J.os, J.bare, J.base, J.hok, rfl, y⟩
  all_goals exact h.elim fun _ z => z.elim fun _ z => z.2.elim
theorem Fun.okG {x qn : Str} {st : Stmt} {N : List Str} (F : L2.Fun K x qn st f fd) (S : FnScope N ps (defScope st)) (len : ∀ vs H Q E, sp vs H Q E → vs.length = ps.length)
    (hb : ∀ (cd : Value) (B : Around) (o : List Env) (s : Shared) (H : Hp) (vs : List V) (Q : VK) (E : XK), B.guards = some [] → Room n (B.deeper (envOfC qn (defScope st) s.heap.objs.size f cd)) → sp vs H Q E →
      ∃ t, PSs (cxOf L2.CX0 Pg wd K mg base N qn (defScope st) f cd B o s H E).nox (defBody st) t ∧ t { nx := fun _ H' => Q .non H', rt := Q } (start N vs) H) : FnG Pg wd K mg base L2.CX0 (n + 1) f fd ps sp := by
  obtain ⟨_, _, _, _, _, _, cd, _, _, rfl, lk, hcd⟩ := F.ex
  refine ⟨len, fun B o s H ar us vs Q E hg hr e0 bd rv hs => ?_⟩
  have kin : K.In s.heap := e0.mod.kin.keeps fun b u e => (e0.bs b u e).1
  have kinds : ∀ y ∈ ps.zip us, (defScope st).names.lookup y.1 = some .local ∨ ((defScope st).names.lookup y.1 = some .cell ∧ ((cellsFrom (s.heap.objs.size + 1) (defScope st).names []).lookup y.1).isSome = true) := by
    rintro ⟨z, v⟩ hy
    exact (S.par z (List.of_mem_zip hy).1).elim .inl fun c => .inr ⟨c, PySem.W.cellsFrom_some _ _ _ (.inl c)⟩
  refine codeAny_call_function hr.depth (kin _ _ lk) rfl S.co S.gen rfl (PySem.W.codeRec_of kin hcd) (bd _ _ _ _ (wpAny_newFunctionEnv_cells S.kind kinds fun _ he s1 made => ?_))
  subst he
  obtain ⟨t, ht, hq⟩ := hb cd B o s H vs Q E hg (hr.deeper _) hs
  have start0 := inv_start (CX := L2.CX0) (E := E) (qual := qn) (cd := cd) (f := f) S hr.hd e0 (len _ _ _ _ hs) rv made
  exact ⟨(e0.mod.nolimit.keeps fun b u e => (e0.bs b u e).1).keeps made.toInCall.keep, codeAny_func (wpAny_mono (ht.nox.run [] s1 _ H _ start0 hq) (fun fl s' => g_end rfl fl) fun _ _ h => h)⟩
end
/-! ### calls -/
/-- the call of a def, whichever way its arguments come -/
theorem after_call {X : Cx} {C : CXT} {E : XK} {pins : List (Addr × Obj)} {σ : L2.St} {H : Hp} {s : Shared} {Q : VK} {f : Addr} {us : List Value} {kw : List (Str × Value)} (hx : Passes C X E) (I : Inv X pins σ H s)
    (h : codeAny (model X.prog X.w) X.A (.call (.ref f) ⟨us, kw⟩) (CR C X.stack X.prog X.w H s Q E) s) : wpAny (model X.prog X.w) X.A (call (.ref f) us kw) (EP X pins σ Q) X.xe s :=
  wpAny_call (codeAny_mono h fun r s' y => match r, y with
    | .error e, y => hx pins σ H s e s' I y
    | .ok (.ret _), y => I.after y)
/-- how a call with keywords binds, where the numbers of its arguments are written -/
structure KBX (K : PySem.W.Frag) (fd : FuncData) (ps : List Str) (n : Nat) (ks : List Str) (g : List Value → List Value → List Value) (gV : List V → List V → List V) : Prop where
  to : ∀ (s : Shared) (us ws : List Value), us.length = n → ws.length = ks.length → BindsTo s fd ⟨us, ks.zip ws⟩ (ps.zip (g us ws))
  rel : ∀ {vs : List V} {us : List Value} {zs : List V} {ws : List Value}, Vals vs us → Vals zs ws → Vals (gV vs zs) (g us ws)
def tCallN (n m : Nat) (sp : Sp) (gV : List V → List V → List V) (E : XK) (t tk : TA) : TE := fun σ H Q => t σ H fun vs H1 => tk σ H1 fun zs H2 => vs.length = n ∧ zs.length = m ∧ sp (gV vs zs) H2 Q E
theorem relAt : ∀ {vs : List V} {us : List Value} (_ : Vals vs us) (i : Nat), RelV (vs.getD i .non) (us.getD i .none)
  | [], _, r, i => by cases r; exact rfl
  | _ :: _, _, r, 0 => by cases r with | cons a _ => exact a
  | _ :: _, _, r, i + 1 => by cases r with | cons _ b => exact relAt b i
section
variable {X : Cx} {C : CXT} {n m : Nat} {f : Addr} {fd : FuncData} {ps ks : List Str} {sp : Sp} {E : XK} {x : Str} {p q : Pos} {e : Expr} {es : List Expr} {kws : List Keyword} {t tk : TA} {g : List Value → List Value → List Value} {gV : List V → List V → List V}
theorem pe_callG (hG : X.A.guards = some []) (F : FnG X.prog X.w X.K X.mg X.base C n f fd ps sp) (hr : Room n X.A) (gl : Gl X x) (mf : X.mg x = some (.ref f)) (kf : PySem.W.keepIn X.K (.ref f) = true) (bd : Binds X.K fd ps []) (hx : Passes C X E) (ha : PA X (e :: es) t)
    (h1 : (x == ("__debug__" : Str)) = false := by decide) (h2 : starEach (e :: es) X.env = (false, eval e X.env) :: starEach es X.env := by rfl) (h3 : (backTo q (starEach es X.env)).any (·.1) = false := by rfl) :
    PE X (.Call (.Name x p) (e :: es) [] q) (tCall sp [] E t) := by
  constructor
  intro pins s σ H Q I h
  refine wpAny_Call_Name_kw (ld_glob I gl mf (PySem.W.callWith_K (h₀ := X.base) I.ok.mod.kin kf (thn (ha.run q pins s σ H _ I h) fun us s1 ⟨vs, H1, I1, r, y⟩ => ⟨I1.kIn, ?_⟩) h2 h3) h1)
  have y : sp (vs ++ []) H1 Q E := y
  rw [List.append_nil] at y
  have hl : (us ++ []).length = ps.length := by rw [List.append_nil, ← r.length]; exact F.len _ _ _ _ y
  exact after_call hx I1 (F.go X.A X.stack s1 H1 _ (us ++ []) vs Q E hG hr I1.env0 (bd s1 us I1.kIn hl) (by rw [List.append_nil]; exact r) y)
/-- f(e, .., k = v, ..), f(k = v, ..) -/
theorem kw_to (hb : KBX X.K fd ps n ks g gV) {pins : List (Addr × Obj)} {σ : L2.St} {H : Hp} {s : Shared} {Q : VK} {vs zs : List V} {us ws : List Value}
    (run : ∀ (bs : List Value) (bv : List V), BindsTo s fd ⟨us, ks.zip ws⟩ (ps.zip bs) → Vals bv bs → sp bv H Q E → codeAny (model X.prog X.w) X.A (.call (.ref f) ⟨us, ks.zip ws⟩) (CR C X.stack X.prog X.w H s Q E) s)
    (hx : Passes C X E) (I : Inv X pins σ H s) (r : Vals vs us) (rz : Vals zs ws) (l1 : vs.length = n) (l2 : zs.length = ks.length) (y : sp (gV vs zs) H Q E) : wpAny (model X.prog X.w) X.A (call (.ref f) us (ks.zip ws)) (EP X pins σ Q) X.xe s :=
  after_call hx I (run _ _ (hb.to s us ws (by rw [← r.length]; exact l1) (by rw [← rz.length]; exact l2)) (hb.rel r rz) y)
theorem pe_kwG (hG : X.A.guards = some []) (F : FnG X.prog X.w X.K X.mg X.base C m f fd ps sp) (hr : Room m X.A) (gl : Gl X x) (mf : X.mg x = some (.ref f)) (kf : PySem.W.keepIn X.K (.ref f) = true) (hb : KBX X.K fd ps n ks g gV) (hx : Passes C X E) (ha : PA X (e :: es) t) (hk : PK X kws tk)
    (h0 : (backToKw q (keywordEach kws X.env)).all (·.1.isSome) = true := by rfl) (hks : (backToKw q (keywordEach kws X.env)).filterMap (·.1) = ks := by rfl) (h1 : (x == ("__debug__" : Str)) = false := by decide) (h2 : starEach (e :: es) X.env = (false, eval e X.env) :: starEach es X.env := by rfl)
    (h3 : ((backTo q (starEach (e :: es) X.env)).any (·.1) || (backToKw q (keywordEach kws X.env)).any (·.1.isNone)) = false := by rfl) : PE X (.Call (.Name x p) (e :: es) kws q) (tCallN n ks.length sp gV E t tk) := by
  constructor
  intro pins s σ H Q I h
  refine wpAny_Call_Name_kw (ld_glob I gl mf (PySem.W.callWith_KW (h₀ := X.base) I.ok.mod.kin kf h0 (thn (ha.run q pins s σ H _ I h) fun us s1 ⟨vs, H1, I1, r, y⟩ => thn (hk.run q pins s1 σ H1 _ I1 y) fun ws s2 ⟨zs, H2, I2, rz, l1, l2, y2⟩ => ⟨I2.kIn, ?_⟩) h3 h2) h1)
  rw [hks]
  exact kw_to hb (fun bs bv b1 b2 b3 => F.go X.A X.stack s2 H2 _ bs bv Q E hG hr I2.env0 b1 b2 b3) hx I2 r rz l1 l2 y2
theorem pe_kwG0 (hG : X.A.guards = some []) (F : FnG X.prog X.w X.K X.mg X.base C m f fd ps sp) (hr : Room m X.A) (gl : Gl X x) (mf : X.mg x = some (.ref f)) (kf : PySem.W.keepIn X.K (.ref f) = true) (hb : KBX X.K fd ps 0 ks g gV) (hx : Passes C X E) (hk : PK X kws tk)
    (h0 : (backToKw q (keywordEach kws X.env)).all (·.1.isSome) = true := by rfl) (hks : (backToKw q (keywordEach kws X.env)).filterMap (·.1) = ks := by rfl) (h1 : (x == ("__debug__" : Str)) = false := by decide)
    (h3 : ((backTo q (starEach [] X.env)).any (·.1) || (backToKw q (keywordEach kws X.env)).any (·.1.isNone)) = false := by rfl) : PE X (.Call (.Name x p) [] kws q) (tCallN 0 ks.length sp gV E tNil tk) := by
  constructor
  intro pins s σ H Q I h
  refine wpAny_Call_Name_kw (ld_glob I gl mf (PySem.W.callWith_KW0 (h₀ := X.base) I.ok.mod.kin kf h0 (thn (hk.run q pins s σ H _ I h) fun ws s2 ⟨zs, H2, I2, rz, l1, l2, y2⟩ => ⟨I2.kIn, ?_⟩) h3) h1)
  rw [hks]
  exact kw_to hb (fun bs bv b1 b2 b3 => F.go X.A X.stack s2 H2 _ bs bv Q E hG hr I2.env0 b1 b2 b3) hx I2 .nil rz rfl l2 y2
/-- the same of a def that may be called anywhere -/
theorem pe_kw (F : FnOk X.prog X.w X.K X.mg X.base C m f fd ps sp) (hr : Room m X.A) (gl : Gl X x) (mf : X.mg x = some (.ref f)) (kf : PySem.W.keepIn X.K (.ref f) = true) (hb : KBX X.K fd ps n ks g gV) (hx : Passes C X E) (ha : PA X (e :: es) t) (hk : PK X kws tk)
    (h0 : (backToKw q (keywordEach kws X.env)).all (·.1.isSome) = true := by rfl) (hks : (backToKw q (keywordEach kws X.env)).filterMap (·.1) = ks := by rfl) (h1 : (x == ("__debug__" : Str)) = false := by decide) (h2 : starEach (e :: es) X.env = (false, eval e X.env) :: starEach es X.env := by rfl)
    (h3 : ((backTo q (starEach (e :: es) X.env)).any (·.1) || (backToKw q (keywordEach kws X.env)).any (·.1.isNone)) = false := by rfl) : PE X (.Call (.Name x p) (e :: es) kws q) (tCallN n ks.length sp gV E t tk) := by
  constructor
  intro pins s σ H Q I h
  refine wpAny_Call_Name_kw (ld_glob I gl mf (PySem.W.callWith_KW (h₀ := X.base) I.ok.mod.kin kf h0 (thn (ha.run q pins s σ H _ I h) fun us s1 ⟨vs, H1, I1, r, y⟩ => thn (hk.run q pins s1 σ H1 _ I1 y) fun ws s2 ⟨zs, H2, I2, rz, l1, l2, y2⟩ => ⟨I2.kIn, ?_⟩) h3 h2) h1)
  rw [hks]
  exact kw_to hb (fun bs bv b1 b2 b3 => F.run X.A X.stack s2 H2 _ bs bv Q E hr I2.env0 b1 b2 b3) hx I2 r rz l1 l2 y2
theorem pe_kw0 (F : FnOk X.prog X.w X.K X.mg X.base C m f fd ps sp) (hr : Room m X.A) (gl : Gl X x) (mf : X.mg x = some (.ref f)) (kf : PySem.W.keepIn X.K (.ref f) = true) (hb : KBX X.K fd ps 0 ks g gV) (hx : Passes C X E) (hk : PK X kws tk)
    (h0 : (backToKw q (keywordEach kws X.env)).all (·.1.isSome) = true := by rfl) (hks : (backToKw q (keywordEach kws X.env)).filterMap (·.1) = ks := by rfl) (h1 : (x == ("__debug__" : Str)) = false := by decide)
    (h3 : ((backTo q (starEach [] X.env)).any (·.1) || (backToKw q (keywordEach kws X.env)).any (·.1.isNone)) = false := by rfl) : PE X (.Call (.Name x p) [] kws q) (tCallN 0 ks.length sp gV E tNil tk) := by
  constructor
  intro pins s σ H Q I h
  refine wpAny_Call_Name_kw (ld_glob I gl mf (PySem.W.callWith_KW0 (h₀ := X.base) I.ok.mod.kin kf h0 (thn (hk.run q pins s σ H _ I h) fun ws s2 ⟨zs, H2, I2, rz, l1, l2, y2⟩ => ⟨I2.kIn, ?_⟩) h3) h1)
  rw [hks]
  exact kw_to hb (fun bs bv b1 b2 b3 => F.run X.A X.stack s2 H2 _ bs bv Q E hr I2.env0 b1 b2 b3) hx I2 .nil rz rfl l2 y2
end
section
variable {σ : L2.St} {H : Hp} {Q : VK} {t tk : TA} {sp : Sp} {gV : List V → List V → List V} {E : XK} {n m : Nat}
theorem caln (h : t σ H fun vs H1 => tk σ H1 fun zs H2 => vs.length = n ∧ zs.length = m ∧ sp (gV vs zs) H2 Q E) : tCallN n m sp gV E t tk σ H Q := h
theorem lnn {a b c d : Nat} {A : Prop} (e : a = c) (f : b = d) (h : A) : a = c ∧ b = d ∧ A := ⟨e, f, h⟩
end
/-! ### repr -/
mutual
/-- data of ints below 2 ^ 200, bools, None, in lists and tuples -/
def tame : PyData → Bool
  | .none | .bool _ => true
  | .int i => decide (i.natAbs < 2 ^ 200)
  | .list ds | .tuple ds => tameAll ds
  | .str x => PyData.showable (.str x) && PyData.leavesShort 201 (.str x)
  | _ => false
def tameAll : List PyData → Bool
  | [] => true
  | d :: ds => tame d && tameAll ds
end
theorem tame_int {i : Int} (h : i.natAbs < 2 ^ 200) : i.natAbs.log2 < 200 := by
  by_cases z : i.natAbs = 0
  · rw [z]; decide
  · exact (Nat.log2_lt z).mpr h
mutual
theorem tame_ok : ∀ d : PyData, tame d = true → d.showable = true ∧ d.hasDict = false ∧ d.leavesShort 201 = true
  | .none, _ => ⟨rfl, rfl, rfl⟩
  | .bool _, _ => ⟨rfl, rfl, rfl⟩
  | .int i, h => by
    have h' := tame_int (of_decide_eq_true (by simpa only [tame] using h))
    refine ⟨by simp only [PyData.showable]; exact decide_eq_true (by omega), rfl, ?_⟩
    simp only [PyData.leavesShort]
    exact decide_eq_true (by show (Str.ofString (toString i)).length ≤ 201; rw [PySem.ofString_length]; exact PySem.int_text_length_le (by decide) h')
  | .str x, h => by
    have h' : PyData.showable (.str x) = true ∧ PyData.leavesShort 201 (.str x) = true := by simpa only [tame, Bool.and_eq_true] using h
    exact ⟨h'.1, rfl, h'.2⟩
  | .dict _, h => by simp [tame] at h
  | .list ds, h => by
    have := tame_okAll ds (by simpa only [tame] using h)
    simpa only [PyData.showable, PyData.hasDict, PyData.leavesShort] using this
  | .tuple ds, h => by
    have := tame_okAll ds (by simpa only [tame] using h)
    simpa only [PyData.showable, PyData.hasDict, PyData.leavesShort] using this
theorem tame_okAll : ∀ ds : List PyData, tameAll ds = true → PyData.showableAll ds = true ∧ PyData.hasDictAll ds = false ∧ PyData.leavesShortAll 201 ds = true
  | [], _ => ⟨rfl, rfl, rfl⟩
  | d :: ds, h => by
    have h' : tame d = true ∧ tameAll ds = true := by simpa only [tameAll, Bool.and_eq_true] using h
    obtain ⟨a, b, c⟩ := tame_ok d h'.1
    obtain ⟨a', b', c'⟩ := tame_okAll ds h'.2
    simp only [PyData.showableAll, PyData.hasDictAll, PyData.leavesShortAll, a, b, c, a', b', c']
    decide
end
/-- repr of a list or a tuple -/
def rRepr (K : PySem.W.Frag) : List V → Hp → VK → Prop := fun vs H Q => ∃ a d, vs = [.ref a] ∧ Dp K H (.ref a) d ∧ tame d = true ∧ d.depth ≤ 60 ∧ d.bulk ≤ 60000 ∧ Q (.str d.shown) H
theorem krepr (K : PySem.W.Frag) {X : Cx} {k : Nat} (hG : X.A.guards = some []) (hr : Room k X.A) (h : X.K = K := by rfl) : CallR X (.builtin "repr") (rRepr K) := by
  subst h
  intro pins s σ H xs us Q I r hq
  obtain ⟨a, d, rfl, hd, ht, hdp, hb, q⟩ := hq
  obtain ⟨u, rfl, ru⟩ := vals1 r
  obtain rfl : u = Value.ref a := ru
  obtain ⟨as, rd⟩ := Dp.reads I d _ _ hd rfl
  obtain ⟨o1, o2, o3⟩ := tame_ok d ht
  have fits := PyData.shown_le_bulk 201 (by decide) d o3
  have un := hr.units
  refine repr_of_reads' rd o1 (PyData.noDict_hsm o2) hG (by omega) (fun _ _ e => e) (fun h' u tk hk => ⟨.str d.shown, H, ?_, ⟨u, rfl⟩, q⟩) (by rw [sizeLine_eq]; omega)
  exact I.kept hk
end HS
/-! The end of a proof whose law def is called while nothing is being shown. -/
namespace HS
open PySem PySem.Spec PyProof.Rows L2
section
variable {Pg : Program} {wd : World} {K : PySem.W.Frag} {mg mb : Str → Option Value} {C : CXT} {n : Nat} {fa a : Addr} {fd : FuncData} {x : Str} {sp : Sp} {s1 : Shared} {vs : List Value} {ns : List Int}
/-- what the caller's heap holds where the abstract heap tracks the script alone, or nothing -/
structure AtTop (Pg : Program) (wd : World) (K : PySem.W.Frag) (a : Addr) (ns : List Int) (s1 : Shared) (H : Hp) : Prop where
  only : Only H
  here : SqL K H a (ns.map V.int)
  hok : HOk Pg wd H s1.heap
  one : ∀ b, b ≠ a → H b = none
  out : H a = none ∨ K.lookup a = none
theorem top_run (T : AtTop Pg wd K a ns s1 H) (KX : K.In s1.heap) (g : s1.heap.Ns mainGlobals mg) (gb : s1.heap.Ns builtinsNs mb) (hb : ∀ y : Str, y ≠ "__name__" → mb y = bootBuiltins y) (lim : s1.heap.NoLimit) (hg : s1.gens = #[])
    (seq : ∃ o, s1.heap.get? a = some o ∧ ∃ us m, o.data = .seq us m) (hr : Room n callerA) (F : ∀ base : Heap, K.In base → base.Ns mainGlobals mg → FnG Pg wd K mg base C n fa fd [x] sp) (bd : ∀ (s : Shared) (u : Value), BindsTo s fd ⟨[u], []⟩ [(x, u)])
    (want : ∀ H : Hp, Only H → SqL K H a (ns.map V.int) → sp [.ref a] H (fun v _ => v = .bl true) fun _ _ _ => False) (noX : ∀ H e s', C [] H s1 (fun _ _ _ => False) e s' → False) :
    codeAny (model Pg wd) callerA (.call (.ref fa) ⟨[.ref a], []⟩) (fun r s' => r = .ok (.ret (.bool true)) ∧ OldK s1.heap s'.heap ∧ s'.os = s1.os ∧ AllBare s'.gens) s1 := by
  obtain ⟨oa, ea, us, m, da⟩ := seq
  -- the base: all but what is tracked
  have stays : ∀ {b : Addr} {o : Obj}, s1.heap.get? b = some o → (b = a → H a = none) → (hidT s1.heap H).get? b = some o := fun {b o} e h =>
    hidT_get e (by by_cases q : b = a; · subst q; exact h rfl
                   · exact T.one b q)
  have dict : ∀ {b : Addr} {f : Str → Option Value}, s1.heap.Ns b f → (hidT s1.heap H).Ns b f := by
    rintro b f ⟨o, es, ep, e, d, r⟩
    refine ⟨o, es, ep, stays e fun q => ?_, d, r⟩
    subst q
    rw [ea] at e
    cases e
    rw [da] at d
    cases d
  have kin : K.In (hidT s1.heap H) := fun b o e => stays (KX b o e) fun q => by
    subst q
    rcases T.out with h | h
    · exact h
    · rw [h] at e; cases e
  have md : Mod K mg (hidT s1.heap H) := ⟨kin, dict g, ⟨mb, dict gb, hb⟩, by obtain ⟨mc, l1, l2⟩ := lim; exact ⟨mc, dict l1, l2⟩⟩
  have e0 : Env0 Pg wd K mg (hidT s1.heap H) callerA [] s1 H := ⟨rfl, md, fun _ _ e => of_hidT e, Nat.le_of_eq (hidT_size _ _), trivial, nofun, T.hok, .of_eq hg⟩
  refine codeAny_mono ((F _ kin (dict g)).go callerA [] s1 H ⟨[.ref a], []⟩ [.ref a] [.ref a] _ _ rfl hr e0 (bd s1 (.ref a)) (.cons rfl .nil) (want H T.only T.here)) fun r s' y => ?_
  match r, y with
  | .error e, y => exact (noX H e s' y).elim
  | .ok (.ret u), y =>
    obtain ⟨v, H', os, bare, un, ok', rv, rfl⟩ := y
    obtain rfl : u = Value.bool true := rv
    refine ⟨rfl, OldK.of_keep fun b o e => ?_, os, bare⟩
    rcases T.only b with z | ⟨ob, xs, z⟩
    · exact un.keep b o e z nofun nofun
    · have t1 := (T.hok b _ z).1
      rw [e] at t1
      rw [Option.some.inj t1]
      exact (ok' b _ (un.frzs b ob _ z)).1
theorem top_at (KX : K.In s1.heap) (ha : s1.heap.get? a = some { cls := .type "list", data := .seq vs.toArray }) (hi : IntsAre vs ns) (hl : ns.length ≤ sizeLine) : ∃ H, AtTop Pg wd K a ns s1 H := by
  have rv := vals_ints hi
  by_cases hk : K.lookup a = none
  · refine ⟨fun b => if b = a then some (.frz { cls := .type "list", data := .seq vs.toArray } (.lst (ns.map V.int))) else none, fun b => ?_, .inl (.inr ⟨_, if_pos rfl⟩), fun b u z => ?_, fun b q => if_neg q, .inr hk⟩
    · by_cases q : b = a
      · exact .inr ⟨_, _, if_pos q⟩
      · exact .inl (if_neg q)
    · by_cases q : b = a
      · subst q
        rw [if_pos rfl] at z
        cases z
        exact ⟨ha, by rw [List.length_map]; exact hl, vs, _, rv, ha⟩
      · rw [if_neg q] at z
        cases z
  · obtain ⟨o, ho⟩ := Option.ne_none_iff_exists'.mp hk
    have e := KX a o ho
    rw [ha] at e
    cases e
    exact ⟨fun _ => none, fun _ => .inl rfl, .inr ⟨_, vs.toArray, _, ho, rfl, rfl, rfl, by rw [List.size_toArray, hi.length]; exact hl, by simpa using rv⟩, (fun _ _ z => nomatch z), fun _ _ => rfl, .inl rfl⟩
end
theorem walk_ofG {l : PySem.W.OpenLaw} {n k : Nat} {q : Program} {loose : List Str} {XP : (Str → Option Value) → Heap → Prop} {YP : World → Heap → Prop} {d : DefRec} {K : Params → PySem.W.Frag} {CX : World → CXT} {sp : World → Sp} {x : Str}
    (h1 : l.most = some n) (h2 : n ≤ sizeLine) (h3 : d.params.defaults = []) (hr : Room k callerA) (hY : ∀ (w : World) (h : Heap), YP w h → (K w.params).In h)
    (F : ∀ (w : World) (mg : Str → Option Value) (fa : Addr) (h : Heap), (K w.params).In h → h.Ns mainGlobals mg → mg d.name = some (.ref fa) → ∃ fd : FuncData, (∀ (s : Shared) (u : Value), BindsTo s fd ⟨[u], []⟩ [(x, u)]) ∧
      ∀ base : Heap, (K w.params).In base → base.Ns mainGlobals mg → FnG l.prog w (K w.params) mg base (CX w) k fa fd [x] (sp w))
    (want : ∀ (w : World) (H : Hp) (a : Addr) (ns : List Int), ns.length ≤ n → Only H → SqL (K w.params) H a (ns.map V.int) → sp w [.ref a] H (fun v _ => v = .bl true) fun _ _ _ => False)
    (noX : ∀ (w : World) (H : Hp) (s : Shared) (e : Value) (s' : Shared), CX w [] H s (fun _ _ _ => False) e s' → False) : PySem.W.WalkO q loose XP YP l.row.toRowW d [] (fun f vs => PySem.call f vs) :=
  Att.attach_call h1 h3 fun w _ s1 mg _ fa _ _ _ _ a vs ns G Y _ _ _ hm ho hi hl hg => by
    obtain ⟨fd, bd, hF⟩ := F w mg fa _ (hY w _ Y) G.T.g hm
    obtain ⟨H, T⟩ := top_at (Pg := l.prog) (wd := w) (hY w _ Y) ho hi (Nat.le_trans hl h2)
    exact top_run T (hY w _ Y) G.T.g G.T.b G.T.builtins G.T.nolimit hg ⟨_, ho, _, _, rfl⟩ hr hF bd (fun H o => want w H a ns hl o) fun H e s' => noX w H s1 e s'
end HS
/-! sorted of ints; lists in descending order. -/
namespace HS
open PySem PySem.Spec PyProof.Rows L2
section
variable {X : Cx} (K : PySem.W.Frag)
end
/-- in descending order -/
def desc (ls : List Int) : List Int := ls.mergeSort fun a b => decide (b ≤ a)
theorem desc_perm (ls : List Int) : (desc ls).Perm ls := List.mergeSort_perm ls _
theorem desc_pair (ls : List Int) : (desc ls).Pairwise (· ≥ ·) := by
  have h := List.pairwise_mergeSort (le := fun a b : Int => decide (b ≤ a)) (fun a b c h1 h2 => by simp only [decide_eq_true_eq] at *; omega) (fun a b => by simp only [Bool.or_eq_true, decide_eq_true_eq]; omega) ls
  exact h.imp fun h => by simpa using h
theorem same_desc : ∀ {xs ys : List Int}, xs.Perm ys → xs.Pairwise (· ≥ ·) → ys.Pairwise (· ≥ ·) → xs = ys
  | [], ys, p, _, _ => (List.nil_perm.mp p).symm ▸ rfl
  | x :: xs, [], p, _, _ => absurd (List.perm_nil.mp p) (by simp)
  | x :: xs, y :: ys, p, h1, h2 => by
    rw [List.pairwise_cons] at h1 h2
    have e : x = y := by
      have a := p.mem_iff.mp List.mem_cons_self
      have b := p.mem_iff.mpr (List.mem_cons_self (a := y) (l := ys))
      rcases List.mem_cons.mp a with a | a
      · exact a
      · rcases List.mem_cons.mp b with b | b
        · exact b.symm
        · have := h1.1 y b
          have := h2.1 x a
          omega
    subst e
    rw [same_desc (List.Perm.cons_inv p) h1.2 h2.2]
theorem desc_of {xs ys : List Int} (p : xs.Perm ys) (h : xs.Pairwise (· ≥ ·)) : xs = desc ys := same_desc (p.trans (desc_perm ys).symm) h (desc_pair ys)
theorem desc_rev {xs ys : List Int} (p : xs.Perm ys) (h : xs.Pairwise (· ≤ ·)) : xs.reverse = desc ys := desc_of ((List.reverse_perm xs).trans p) (List.pairwise_reverse.mpr h)
theorem desc_same {xs ys : List Int} (p : xs.Perm ys) : desc xs = desc ys := desc_of ((desc_perm xs).trans p) (desc_pair xs)
theorem desc_len (ls : List Int) : (desc ls).length = ls.length := (desc_perm ls).length_eq
theorem desc_mem {ls : List Int} {x : Int} : x ∈ desc ls ↔ x ∈ ls := (desc_perm ls).mem_iff
theorem desc_count (ls : List Int) (x : Int) : (desc ls).count x = ls.count x := (desc_perm ls).count_eq x
theorem desc_desc (ls : List Int) : desc (desc ls) = desc ls := desc_same (desc_perm ls)
/-- those greater than v -/
def above (ls : List Int) (v : Int) : List Int := (desc ls).filter fun x => decide (v < x)
theorem filter_none {ls : List Int} {v : Int} (h : ∀ x ∈ ls, x ≤ v) : (ls.filter fun x => decide (v < x)) = [] := by
  rw [List.filter_eq_nil_iff]
  intro x hx
  have := h x hx
  simp; omega
theorem filter_step : ∀ {D : List Int} (v : Int), D.Pairwise (· ≥ ·) → (D.filter fun x => decide (v < x)) = (D.filter fun x => decide (v + 1 < x)) ++ List.replicate (D.count (v + 1)) (v + 1)
  | [], _, _ => rfl
  | x :: r, v, h => by
    rw [List.pairwise_cons] at h
    have ih := filter_step v h.2
    by_cases c1 : v + 1 < x
    · rw [List.filter_cons_of_pos (by simp; omega), List.filter_cons_of_pos (by simp; omega), List.count_cons_of_ne (by omega), ih]
      rfl
    · have c3 : (r.filter fun x => decide (v + 1 < x)) = [] := filter_none fun y hy => by have := h.1 y hy; omega
      rw [List.filter_cons_of_neg (a := x) (p := fun x => decide (v + 1 < x)) (by simp; omega), c3]
      rw [c3] at ih
      by_cases c2 : x = v + 1
      · subst c2
        rw [List.filter_cons_of_pos (p := fun x => decide (v < x)) (decide_eq_true (show v < v + 1 by omega)), List.count_cons_self, ih, List.replicate_succ]
        rfl
      · rw [List.filter_cons_of_neg (by simp; omega), List.count_cons_of_ne (by omega), ih]
theorem above_step (ls : List Int) (v : Int) : above ls v = above ls (v + 1) ++ List.replicate (ls.count (v + 1)) (v + 1) := by
  unfold above; rw [filter_step v (desc_pair ls), desc_count]
theorem above_top {ls : List Int} {v : Int} (h : ∀ x ∈ ls, x ≤ v) : above ls v = [] := filter_none fun x hx => h x (desc_mem.mp hx)
theorem above_all {ls : List Int} (h : ∀ x ∈ ls, 1 ≤ x) : above ls 0 = desc ls := by
  unfold above
  rw [List.filter_eq_self]
  intro x hx
  have := h x (desc_mem.mp hx)
  simp; omega
theorem above_le (ls : List Int) (v : Int) : (above ls v).length ≤ ls.length := by
  rw [← desc_len ls]; exact List.length_filter_le _ _
theorem at_last {xs ys : List V} {v : V} (h : xs = ys ++ [v]) : atI xs (-1) = some v := by
  rw [h]
  unfold atI ixN
  rw [if_neg (by omega), List.length_append, List.length_singleton]
  rw [if_pos (by push_cast; omega)]
  show (ys ++ [v])[_]? = _
  rw [show (-1 + ((ys.length + 1 : Nat) : Int)).toNat = ys.length by omega]
  simp
theorem desc_nil : desc [] = [] := by
  have := desc_perm []
  exact List.perm_nil.mp this
end HS
namespace HS
open PySem PySem.Spec PyProof.Rows L2
/-- sorted(b)[::-1] -/
def revQ (K : PySem.W.Frag) (Q : VK) : VK := fun x H1 => ∃ a xs, x = .ref a ∧ SqL K H1 a xs ∧ ∀ p, H1 p = none → Q (.ref p) (upd H1 p (.lst xs.reverse))
def srvQ (K : PySem.W.Frag) (Q : VK) : List V → Hp → Prop := fun vs H1 => ∃ b ls, vs = [.ref b] ∧ SqL K H1 b (ls.map V.int) ∧ ∀ H' p, Keep (fun _ => False) H1 H' → H1 p = none → H' p = some (.lst ((desc ls).map V.int)) → Q (.ref p) H'
def tSrv (K : PySem.W.Frag) (tl : TA) : TE := fun σ H Q => tl σ H (srvQ K Q)
theorem pe_srv (K : PySem.W.Frag) {X : Cx} {E C : Expr} {tl : TA} (h : ∀ r, CallR X (.builtin "sorted") r → PE X C (tCB r tl)) (rev : ∀ te, PE X C te → PE X E (tRevL X.K te)) (hK : X.K = K := by rfl) : PE X E (tSrv K tl) := by
  subst hK
  refine ⟨fun pins s σ H Q I hq => ?_⟩
  refine (rev _ (h (fun vs H1 Q' => srvQ X.K Q vs H1 ∧ Q' = revQ X.K Q) ?_)).run pins s σ H Q I ?_
  · intro pins s σ H xs us Q' I r h2
    obtain ⟨⟨b, ls, e, hs, k⟩, rfl⟩ := h2
    refine cr_sortedI pins s σ H xs us _ I r ⟨b, ls, e, hs, fun us p hperm hpair hp => ⟨_, _, rfl, HS.sq upd_same, fun q hq => ?_⟩⟩
    have K1 : Keep (fun _ => False) H (upd H p (.lst (us.map V.int))) := Keep.new hp
    rw [← List.map_reverse, desc_rev hperm hpair]
    exact k _ q (K1.nw hq) (K1.free hq id) upd_same
  · show tl σ H fun vs H1 => srvQ X.K Q vs H1 ∧ revQ X.K Q = revQ X.K Q
    have e : (fun vs H1 => srvQ X.K Q vs H1 ∧ revQ X.K Q = revQ X.K Q) = srvQ X.K Q := by
      funext vs H1
      exact propext ⟨fun z => z.1, fun z => ⟨z, rfl⟩⟩
    rw [e]
    exact hq
theorem srv {K : PySem.W.Frag} {tl : TA} {σ : L2.St} {H : Hp} {Q : VK} (h : tl σ H fun vs H1 => ∃ b ls, vs = [.ref b] ∧ SqL K H1 b (ls.map V.int) ∧ ∀ H' p, Keep (fun _ => False) H1 H' → H1 p = none → H' p = some (.lst ((desc ls).map V.int)) → Q (.ref p) H') : tSrv K tl σ H Q := h
end HS
namespace HS
open PySem PySem.Spec PyProof.Rows L2
/-- in ascending order -/
def asc (ls : List Int) : List Int := (desc ls).reverse
theorem asc_perm (ls : List Int) : (asc ls).Perm ls := (List.reverse_perm _).trans (desc_perm ls)
theorem asc_of {xs ys : List Int} (p : xs.Perm ys) (h : xs.Pairwise (· ≤ ·)) : xs = asc ys := by
  unfold asc; rw [← desc_rev p h, List.reverse_reverse]
theorem asc_pair (ls : List Int) : (asc ls).Pairwise (· ≤ ·) := by
  unfold asc
  rw [List.pairwise_reverse]
  exact desc_pair ls
theorem asc_len (ls : List Int) : (asc ls).length = ls.length := (asc_perm ls).length_eq
theorem asc_mem {ls : List Int} {x : Int} : x ∈ asc ls ↔ x ∈ ls := (asc_perm ls).mem_iff
theorem asc_inj {xs ys : List Int} : asc xs = asc ys ↔ desc xs = desc ys := List.reverse_inj
def rAsc (K : PySem.W.Frag) : List V → Hp → VK → Prop := fun vs H Q => ∃ b ls, vs = [.ref b] ∧ SqL K H b (ls.map V.int) ∧ ∀ H' p, Keep (fun _ => False) H H' → H p = none → H' p = some (.lst ((asc ls).map V.int)) → Q (.ref p) H'
def rDesc (K : PySem.W.Frag) : List V → List V → Hp → VK → Prop := fun vs zs H Q => ∃ b ls, vs = [.ref b] ∧ zs = [.bl true] ∧ SqL K H b (ls.map V.int) ∧ ∀ H' p, Keep (fun _ => False) H H' → H p = none → H' p = some (.lst ((desc ls).map V.int)) → Q (.ref p) H'
section
variable {X : Cx} (K : PySem.W.Frag)
theorem ksort (h : X.K = K := by rfl) : CallR X (.builtin "sorted") (rAsc K) := by
  subst h
  intro pins s σ H xs us Q I r ⟨b, ls, e, hs, k⟩
  exact cr_sortedI pins s σ H xs us Q I r ⟨b, ls, e, hs, fun us p hperm hpair hp => k _ p (Keep.new hp) hp (by rw [upd_same, asc_of hperm hpair])⟩
theorem ksortR (h : X.K = K := by rfl) : CallRK X (.builtin "sorted") [Str.ofString "reverse"] (rDesc K) := by
  subst h
  intro pins s σ H xs zs us ws Q I r rz ⟨b, ls, e, ez, hs, k⟩
  exact cr_sortedRev (b := true) pins s σ H xs zs us ws Q I r rz ⟨b, ls, e, ez, hs, fun us p hperm hpair hp => k _ p (Keep.new hp) hp (by rw [upd_same, desc_of hperm hpair])⟩
theorem kiz {tg l : Expr} {tl : TA} (p : PI X tg l (iZip X.K tl)) (h : X.K = K := by rfl) : PI X tg l (iZip K tl) := h ▸ p
theorem kcnt (h : X.K = K := by rfl) : MtR X "list.count" (rCntI K) := h ▸ mt_lcount
theorem korT {E : Expr} {ta tb : TE} (p : PE X E (tOrT X.K ta tb)) (h : X.K = K := by rfl) : PE X E (tOrT K ta tb) := h ▸ p
end
section
variable {σ : L2.St} {H : Hp} {Q : VK} {K : PySem.W.Frag}
theorem ckw {r : List V → List V → Hp → VK → Prop} {t tk : TA} (h : t σ H fun vs H1 => tk σ H1 fun zs H2 => r vs zs H2 Q) : tCKw r t tk σ H Q := h
theorem izip {tl : TA} {R : It → Hp → Prop} (h : tl σ H fun vs H1 => ∃ a b xs ys, vs = [.ref a, .ref b] ∧ SqL K H1 a xs ∧ SqL K H1 b ys ∧ R (Itz K a b) H1) : iZip K tl σ H R := h
theorem lcn {p : Addr} {ns : List Int} {k : Int} (h : SqL K H p (ns.map V.int)) (q : Q (.int (ns.count k : Nat)) H) : rCntI K (.ref p) [.int k] H Q := ⟨p, ns, k, rfl, rfl, h, q⟩
theorem orT {ta tb : TE} (h : ta σ H fun x H1 => ∃ k, TruV K x H1 k ∧ if k = true then Q x H1 else tb σ H1 Q) : tOrT K ta tb σ H Q := h
end
end HS
/-! Powers of great numbers, [x] * n. -/
namespace HS
open PySem PySem.Spec PyProof.Rows L2
def CPowW (i j : Int) : Prop := 0 ≤ j ∧ (Builtin.Int.intBits i : Int) * j ≤ 2 ^ 27
section
variable {X : Cx} {σ : L2.St} {H : Hp} {Q : VK}
theorem op_powW : OpR X (binaryOp .Pow) (rI CPowW fun i j => .int (i ^ j.toNat)) := opI fun _ _ _ _ _ _ _ hc q => pow_int hc.1 hc.2 q
theorem bits_le {i : Int} (k : Nat) (h0 : 0 ≤ i) (h : i < 2 ^ k) : Builtin.Int.intBits i ≤ k := by
  unfold Builtin.Int.intBits
  by_cases z : i = 0
  · subst z; exact Nat.zero_le _
  · rw [if_neg (by simpa using z)]
    have z' : i.natAbs ≠ 0 := by omega
    have : i.natAbs.log2 < k := (Nat.log2_lt z').mpr (by
      have : ((i.natAbs : Nat) : Int) < ((2 ^ k : Nat) : Int) := by rw [Int.natAbs_of_nonneg h0]; simpa using h
      exact Int.ofNat_lt.mp this)
    omega
theorem powW {i : Int} (k : Nat) {j : Int} (h0 : 0 ≤ i) (h : i < 2 ^ k) (hj : 0 ≤ j) (hk : (k : Int) * j ≤ 2 ^ 27) : CPowW i j := by
  refine ⟨hj, Int.le_trans (Int.mul_le_mul_of_nonneg_right ?_ hj) hk⟩
  exact Int.ofNat_le.mpr (bits_le k h0 h)
theorem flat_one {v : V} : ∀ n : Nat, (List.replicate n [v]).flatten = List.replicate n v
  | 0 => rfl
  | n + 1 => by rw [List.replicate_succ, List.flatten_cons, flat_one n]; rfl
theorem rep1 {p : Addr} {v : V} {k : Int} (h : H p = some (.lst [v])) (hk : k ≤ 1000000) (h0 : 0 ≤ k) (q : ∀ p, H p = none → Q (.ref p) (upd H p (.lst (List.replicate k.toNat v)))) : rRep (.ref p) (.int k) H Q := by
  refine ⟨p, k, _, rfl, rfl, h, by omega, by omega, ?_, fun p hp => ?_⟩
  · rw [List.length_singleton, sizeLine_eq]; omega
  · rw [flat_one]; exact q p hp
end
end HS
/-! Lists of new triples of ints. -/
namespace HS
open PySem PySem.Spec PyProof.Rows L2
/-- the refs of vs are tuples of these triples -/
def Tri (H : Hp) : List V → List (Int × Int × Int) → Prop
  | [], [] => True
  | v :: vs, p :: ps => (∃ t, v = .ref t ∧ H t = some (.tup [.int p.1, .int p.2.1, .int p.2.2])) ∧ Tri H vs ps
  | _, _ => False
theorem Tri.keep {S : Addr → Prop} {H H' : Hp} (k : Keep S H H') : ∀ {vs : List V} {ps : List (Int × Int × Int)}, Tri H vs ps → (∀ v ∈ vs, ∀ t, v = .ref t → ¬ S t) → Tri H' vs ps
  | [], [], h, _ => h
  | _ :: _, _ :: _, ⟨⟨t, e, o⟩, h⟩, n => ⟨⟨t, e, k t _ o (n _ List.mem_cons_self t e)⟩, h.keep k fun v hv => n v (List.mem_cons_of_mem _ hv)⟩
theorem Tri.same {H H' : Hp} {vs : List V} {ps : List (Int × Int × Int)} (h : Tri H vs ps) (k : Keep (fun _ => False) H H') : Tri H' vs ps := h.keep k fun _ _ _ _ z => z
theorem Tri.app {H : Hp} : ∀ {vs ws : List V} {ps qs : List (Int × Int × Int)}, Tri H vs ps → Tri H ws qs → Tri H (vs ++ ws) (ps ++ qs)
  | [], _, [], _, _, g => g
  | _ :: _, _, _ :: _, _, ⟨a, h⟩, g => ⟨a, h.app g⟩
theorem Tri.len {H : Hp} : ∀ {vs : List V} {ps : List (Int × Int × Int)}, Tri H vs ps → vs.length = ps.length
  | [], [], _ => rfl
  | _ :: _, _ :: _, ⟨_, h⟩ => by rw [List.length_cons, List.length_cons, h.len]
theorem Tri.at {H : Hp} : ∀ {vs : List V} {ps : List (Int × Int × Int)}, Tri H vs ps → ∀ {i : Nat} {v : V}, vs[i]? = some v → ∃ t p, v = .ref t ∧ ps[i]? = some p ∧ H t = some (.tup [.int p.1, .int p.2.1, .int p.2.2])
  | [], [], _, i, v, hv => by simp at hv
  | _ :: _, p :: _, ⟨⟨t, e, o⟩, _⟩, 0, v, hv => by
    cases hv
    exact ⟨t, p, e, rfl, o⟩
  | _ :: _, _ :: _, ⟨_, h⟩, i + 1, v, hv => h.at (i := i) hv
theorem Tri.split {H : Hp} : ∀ {vs : List V} {ps : List (Int × Int × Int)} {p : Int × Int × Int}, Tri H vs (ps ++ [p]) → ∃ us t, vs = us ++ [.ref t] ∧ Tri H us ps ∧ H t = some (.tup [.int p.1, .int p.2.1, .int p.2.2])
  | [], ps, p, h => by cases ps <;> exact h.elim
  | v :: vs, [], p, ⟨⟨t, e, o⟩, h⟩ => by
    cases vs with
    | nil => exact ⟨[], t, by rw [e]; rfl, trivial, o⟩
    | cons _ _ => exact h.elim
  | v :: vs, q :: ps, p, ⟨a, h⟩ => by
    obtain ⟨us, t, e, g, o⟩ := h.split
    exact ⟨v :: us, t, by rw [e]; rfl, ⟨a, g⟩, o⟩
theorem Tri.lst {H : Hp} {L : Addr} {ws : List V} (hL : H L = some (.lst ws)) : ∀ {vs : List V} {ps : List (Int × Int × Int)}, Tri H vs ps → ∀ v ∈ vs, ∀ t, v = .ref t → t ≠ L
  | [], [], _, v, hv => by cases hv
  | w :: vs, p :: ps, ⟨⟨t, e, o⟩, h⟩, v, hv => fun u eu z => by
    rcases List.mem_cons.mp hv with hv | hv
    · subst hv
      rw [e] at eu
      cases eu
      rw [z, hL] at o
      cases o
    · exact h.lst hL v hv u eu z
theorem Tri.put {H : Hp} {L : Addr} {ws : List V} {o : HO} (hL : H L = some (.lst ws)) {vs : List V} {ps : List (Int × Int × Int)} (h : Tri H vs ps) : Tri (upd H L o) vs ps :=
  h.keep (S := fun a => a = L) (HS.Keep.at HS.Keep.refl rfl) (Tri.lst hL h)
theorem atLst {xs ys : List V} {v : V} (h : xs = ys ++ [v]) : atI xs (-1) = some v := by
  subst h
  unfold atI ixN
  rw [if_neg (by decide), if_pos (by rw [List.length_append, List.length_singleton]; omega)]
  show (ys ++ [v])[((-1 : Int) + (ys ++ [v]).length).toNat]? = some v
  rw [List.length_append, List.length_singleton, show ((-1 : Int) + ((ys.length + 1 : Nat) : Int)).toNat = ys.length by omega, List.getElem?_append_right (Nat.le_refl _), Nat.sub_self]
  rfl
theorem setLst {p : Addr} {ys : List V} {v w : V} {H : Hp} {q : Hp → Prop} (h : H p = some (.lst (ys ++ [v]))) (g : q (upd H p (.lst (ys ++ [w])))) : rSetL (.ref p) (.int (-1)) w H q := by
  refine HS.setL h (j := ys.length) ?_ ?_
  · unfold ixN
    rw [if_neg (by decide), if_pos (by rw [List.length_append, List.length_singleton]; omega)]
    congr 1
    rw [List.length_append, List.length_singleton]
    omega
  · rw [List.set_append_right _ _ (Nat.le_refl _), Nat.sub_self]
    exact g
end HS
/-! math.comb of great numbers. -/
namespace HS
open PySem PySem.Spec PyProof.Rows L2
def binC : Nat → Nat → Nat
  | _, 0 => 1
  | 0, _ + 1 => 0
  | n + 1, k + 1 => binC n k + binC n (k + 1)
theorem binC_0 (n : Nat) : binC n 0 = 1 := by cases n <;> rfl
theorem binC_above : ∀ (n k : Nat), n < k → binC n k = 0
  | 0, k + 1, _ => rfl
  | n + 1, k + 1, h => by
    show binC n k + binC n (k + 1) = 0
    rw [binC_above n k (by omega), binC_above n (k + 1) (by omega)]
theorem binC_self : ∀ n, binC n n = 1
  | 0 => rfl
  | n + 1 => by show binC n n + binC n (n + 1) = 1; rw [binC_self n, binC_above n (n + 1) (by omega)]
/-- (k + 1) times the next is (n - k) times this -/
theorem binC_next : ∀ (n k : Nat), (k + 1) * binC n (k + 1) = (n - k) * binC n k
  | 0, k => by
    rw [show binC 0 (k + 1) = 0 from rfl, Nat.mul_zero, Nat.zero_sub, Nat.zero_mul]
  | n + 1, 0 => by
    have this : (0 + 1) * binC n 1 = (n - 0) * binC n 0 := binC_next n 0
    show (0 + 1) * (binC n 0 + binC n 1) = (n + 1 - 0) * binC (n + 1) 0
    rw [binC_0] at this
    rw [binC_0, binC_0]
    omega
  | n + 1, k + 1 => by
    have h1 := binC_next n k
    have h2 := binC_next n (k + 1)
    show (k + 1 + 1) * (binC n (k + 1) + binC n (k + 1 + 1)) = (n + 1 - (k + 1)) * (binC n k + binC n (k + 1))
    rw [Nat.mul_add, h2, show n + 1 - (k + 1) = n - k by omega, Nat.mul_add, ← h1]
    rcases Nat.lt_or_ge k n with h | h
    · rw [show n - k = (n - (k + 1)) + 1 by omega, Nat.add_mul, Nat.add_mul, Nat.add_mul]
      omega
    · rw [binC_above n (k + 1) (by omega)]; simp
theorem binC_sym : ∀ (a b : Nat), binC (a + b) a = binC (a + b) b
  | 0, b => by rw [binC_0, Nat.zero_add, binC_self]
  | a + 1, 0 => by rw [binC_0, Nat.add_zero, binC_self]
  | a + 1, b + 1 => by
    have h1 := binC_sym a (b + 1)
    have h2 := binC_sym (a + 1) b
    rw [show a + (b + 1) = a + 1 + b by omega] at h1
    show binC (a + 1 + b) a + binC (a + 1 + b) (a + 1) = binC (a + 1 + b) b + binC (a + 1 + b) (b + 1)
    rw [h1, h2, Nat.add_comm]
def fctC : Nat → Nat
  | 0 => 1
  | n + 1 => (n + 1) * fctC n
theorem fctC_pos : ∀ n, 0 < fctC n
  | 0 => Nat.one_pos
  | n + 1 => Nat.mul_pos (Nat.succ_pos n) (fctC_pos n)
theorem fall_eq (n : Nat) : ∀ k, k ≤ n → Builtin.Math.fallingProduct (n : Int) k = ((binC n k * fctC k : Nat) : Int)
  | 0, _ => by rw [binC_0]; rfl
  | k + 1, h => by
    have ih := fall_eq n k (by omega)
    unfold Builtin.Math.fallingProduct at ih ⊢
    rw [List.range_succ, List.foldl_append, ih]
    show ((binC n k * fctC k : Nat) : Int) * ((n : Int) - (k : Nat)) = _
    have e : binC n (k + 1) * fctC (k + 1) = binC n k * fctC k * (n - k) := by
      show binC n (k + 1) * ((k + 1) * fctC k) = _
      rw [← Nat.mul_assoc, Nat.mul_comm (binC n (k + 1)), binC_next, Nat.mul_comm (n - k), Nat.mul_assoc, Nat.mul_assoc, Nat.mul_comm (n - k)]
    rw [e, show (n : Int) - (k : Nat) = ((n - k : Nat) : Int) by omega]
    push_cast
    rfl
theorem fall_div (n k : Nat) (h : k ≤ n) : Builtin.Math.fallingProduct (n : Int) k / Builtin.Math.fallingProduct (k : Int) k = ((binC n k : Nat) : Int) := by
  rw [fall_eq n k h, fall_eq k k (Nat.le_refl _), binC_self, Nat.one_mul, Int.natCast_mul]
  exact Int.mul_ediv_cancel _ (by have := fctC_pos k; omega)
theorem binC_pow : ∀ (n k : Nat), binC n k ≤ (n + 1) ^ k
  | n, 0 => by rw [binC_0]; exact Nat.le_refl _
  | 0, k + 1 => Nat.zero_le _
  | n + 1, k + 1 => by
    have h1 := binC_pow n k
    have h2 := binC_pow n (k + 1)
    show binC n k + binC n (k + 1) ≤ _
    have a : (n + 1) ^ k ≤ (n + 2) ^ k := Nat.pow_le_pow_left (by omega) k
    have b : (n + 1) ^ (k + 1) = (n + 1) ^ k * (n + 1) := Nat.pow_succ _ _
    have c : (n + 1 + 1) ^ (k + 1) = (n + 2) ^ k * (n + 2) := Nat.pow_succ _ _
    have d : (n + 1) ^ k * (n + 1) ≤ (n + 2) ^ k * (n + 1) := Nat.mul_le_mul_right _ a
    rw [c, show (n + 2) ^ k * (n + 2) = (n + 2) ^ k * (n + 1) + (n + 2) ^ k by rw [← Nat.mul_succ]]
    omega
def rComb : List V → Hp → VK → Prop := fun vs H Q => ∃ a b : Nat, vs = [.int (a : Int), .int (b : Int)] ∧ b ≤ a ∧ b ≤ 120 ∧ a < 2 ^ 250 ∧ Q (.int (binC a b : Nat)) H
theorem cr_comb {X : Cx} : CallR X (.builtin "math.comb") rComb := by
  intro pins s σ H xs us Q I r ⟨a, b, e, hba, hb, ha, k⟩
  subst e
  obtain ⟨u, v, rfl, ru, rv⟩ : ∃ u v, us = [u, v] ∧ RelV (.int (a : Int)) u ∧ RelV (.int (b : Int)) v := by
    cases r with
    | cons r1 r2 =>
      cases r2 with
      | cons r3 r4 =>
        cases r4
        exact ⟨_, _, rfl, r1, r3⟩
  obtain ⟨t, rfl⟩ := ru
  obtain ⟨t', rfl⟩ := rv
  have hm : (min (b : Int) ((a : Int) - b)).toNat ≤ b ∧ binC a (min (b : Int) ((a : Int) - b)).toNat = binC a b ∧ (min (b : Int) ((a : Int) - b)).toNat ≤ a := by
    rw [Int.min_def]
    split
    · exact ⟨by rw [Int.toNat_natCast]; exact Nat.le_refl _, by rw [Int.toNat_natCast], by rw [Int.toNat_natCast]; exact hba⟩
    · have e : ((a : Int) - b).toNat = a - b := by omega
      rw [e]
      have s := binC_sym (a - b) b
      rw [show a - b + b = a by omega] at s
      exact ⟨by omega, s, by omega⟩
  obtain ⟨m1, m2, m3⟩ := hm
  have mi : min (b : Int) ((a : Int) - b) = (((min (b : Int) ((a : Int) - b)).toNat : Nat) : Int) := by
    rw [Int.min_def]; split <;> omega
  have fd : Builtin.Math.fallingProduct (a : Int) (min (b : Int) ((a : Int) - b)).toNat / Builtin.Math.fallingProduct (min (b : Int) ((a : Int) - b)) (min (b : Int) ((a : Int) - b)).toNat = ((binC a b : Nat) : Int) := by
    have := fall_div a _ m3
    rw [← mi, m2] at this
    exact this
  have lg : (((binC a b : Nat) : Int)).natAbs.log2 < bitsLine := by
    rw [Int.natAbs_natCast]
    by_cases z : binC a b = 0
    · rw [z]; decide
    · refine (Nat.log2_lt z).mpr (Nat.lt_of_le_of_lt (binC_pow a b) ?_)
      have p1 : (a + 1) ^ b ≤ (2 ^ 250) ^ b := Nat.pow_le_pow_left (by omega) b
      rw [← Nat.pow_mul] at p1
      have p2 : 2 ^ (250 * b) < 2 ^ bitsLine := Nat.pow_lt_pow_right (by decide) (by
        have : bitsLine = 134217728 := by decide
        omega)
      omega
  have mx : (b : Int) ≤ 120 := by omega
  have mn : min (b : Int) ((a : Int) - b) ≤ 120 := by rw [Int.min_def]; split <;> omega
  have g := PySem.W.mc_run_comb (a : Int) t (b : Int) t' (by omega) (by omega) (by omega) (by unfold Builtin.Math.maxSsize; omega) (by unfold Builtin.Math.manyFactors; omega) (by omega) (by rw [fd]; exact lg)
  rw [fd] at g
  refine PySem.Flt.call_fn_gives (b := PySem.Builtin.«math.comb») (m := .int ((binC a b : Nat) : Int)) PySem.W.MGF.kind_comb PySem.W.MGF.plain_comb PySem.W.MGF.entry_comb (PySem.W.MGF.args_comb _ _) g ?_
  exact ⟨.int _, H, I.tok _, ⟨_, rfl⟩, k⟩
end HS
namespace HS
open PySem PySem.Spec PyProof.Rows L2
theorem Prs.at {H : Hp} : ∀ {vs : List V} {ps : List (Int × Int)}, Prs H vs ps → ∀ {i : Nat} {v : V}, vs[i]? = some v → ∃ t p, v = .ref t ∧ ps[i]? = some p ∧ H t = some (.tup [.int p.1, .int p.2])
  | [], [], _, i, v, hv => by simp at hv
  | _ :: _, p :: _, ⟨⟨t, e, o⟩, _⟩, 0, v, hv => by
    cases hv
    exact ⟨t, p, e, rfl, o⟩
  | _ :: _, _ :: _, ⟨_, h⟩, i + 1, v, hv => Prs.at h (i := i) hv
theorem Prs.setAt {H : Hp} {q : Addr} {p : Int × Int} (hq : H q = some (.tup [.int p.1, .int p.2])) : ∀ {vs : List V} {ps : List (Int × Int)} {i : Nat}, Prs H vs ps → Prs H (vs.set i (.ref q)) (ps.set i p)
  | [], [], _, _ => trivial
  | _ :: _, _ :: _, 0, ⟨_, h⟩ => ⟨⟨q, rfl, hq⟩, h⟩
  | _ :: _, _ :: _, i + 1, ⟨a, h⟩ => ⟨a, Prs.setAt hq (i := i) h⟩
theorem neP {K : PySem.W.Frag} {H : Hp} {a b : Addr} {vs ws : List V} {xs ys : List (Int × Int)} {Q : VK} (h1 : SqL K H a vs) (g1 : Prs H vs xs) (h2 : SqL K H b ws) (g2 : Prs H ws ys) (q : Q (.bl (!decide (xs = ys))) H) : rNeD K (.ref a) (.ref b) H Q := by
  refine ⟨dPrs xs, dPrs ys, .lst h1 (dpAll_prs g1), .lst h2 (dpAll_prs g2), sh_prs _, sh_prs _, ?_⟩
  rw [show PyData.eqv (dPrs xs) (dPrs ys) = decide (xs = ys) by unfold dPrs; rw [PyData.eqv]; exact eqvAll_prs xs ys]
  exact q
section
variable {σ : L2.St} {H : Hp} {n bk ct : L2.St → Hp → Prop} {rt : VK}
theorem par3 {i j l : Nat} {tl : TA} (h : tl σ H fun vs H1 => ∃ u v w, vs = [u, v, w] ∧ n (((σ.set i (some u)).set j (some v)).set l (some w)) H1) : tPar3 i j l tl ⟨n, rt, bk, ct⟩ σ H := h
theorem ex3 {u v w : V} {q : V → V → V → Prop} (h : q u v w) : ∃ a b c, [u, v, w] = [a, b, c] ∧ q a b c := ⟨u, v, w, rfl, h⟩
end
end HS
/-! What stands in a heap, told as one list: addresses that differ, each with what is known of its object. -/
namespace HS
open PySem PySem.Spec PyProof.Rows L2
abbrev WdL := List (Addr × (HO → Prop))
/-- H0: the heap at the entry; S: what may have changed there; l: what is known now -/
structure Wd (H0 H : Hp) (S : Addr → Prop) (l : WdL) : Prop where
  nd : (l.map (·.1)).Nodup
  at_ : ∀ x ∈ l, ∃ o, H x.1 = some o ∧ x.2 o
  kp : Keep S H0 H
  fr : ∀ x ∈ l, S x.1 ∨ H0 x.1 = none
section
variable {H0 H H' : Hp} {S : Addr → Prop} {l l' : WdL} {p q : Addr} {o : HO} {P P' : HO → Prop} {i j : Nat}
theorem Wd.nil : Wd H H S [] := ⟨.nil, fun _ h => absurd h List.not_mem_nil, .refl, fun _ h => absurd h List.not_mem_nil⟩
theorem nd_snoc {l : WdL} {P : HO → Prop} (nd : (l.map (·.1)).Nodup) (n : ∀ x ∈ l, x.1 ≠ p) : ((l ++ [(p, P)]).map (·.1)).Nodup := by
  rw [List.map_append, List.nodup_append]
  refine ⟨nd, List.nodup_cons.mpr ⟨List.not_mem_nil, .nil⟩, fun a ha b hb e => ?_⟩
  obtain ⟨x, hx, rfl⟩ := List.mem_map.mp ha
  have hb' : b = p := List.mem_singleton.mp hb
  exact n x hx (e.trans hb')
theorem mem_snoc {l : WdL} {x y : Addr × (HO → Prop)} (h : x ∈ l ++ [y]) : x ∈ l ∨ x = y := by
  rcases List.mem_append.mp h with h | h
  · exact .inl h
  · exact .inr (List.mem_singleton.mp h)
/-- what stood at the entry and may change -/
theorem Wd.old (W : Wd H0 H S l) (h : H p = some o) (hp : P o) (s : S p) (n : ∀ x ∈ l, x.1 ≠ p) : Wd H0 H S (l ++ [(p, P)]) := by
  refine ⟨nd_snoc W.nd n, fun x hx => ?_, W.kp, fun x hx => ?_⟩
  · rcases mem_snoc hx with hx | e
    · exact W.at_ x hx
    · subst e; exact ⟨o, h, hp⟩
  · rcases mem_snoc hx with hx | e
    · exact W.fr x hx
    · subst e; exact .inl s
theorem Wd.one (h : H p = some o) (hp : P o) (s : S p) : Wd H H S [(p, P)] := Wd.nil.old h hp s fun _ h => absurd h List.not_mem_nil
theorem Wd.get (W : Wd H0 H S l) (i : Nat) (e : l[i]? = some (p, P)) : ∃ o, H p = some o ∧ P o := W.at_ _ (List.mem_of_getElem? e)
theorem Wd.at (W : Wd H0 H S l) (i : Nat) (e : l[i]? = some (p, Eq o)) : H p = some o := by
  obtain ⟨o', h, e'⟩ := W.get i e
  cases e'; exact h
theorem Wd.sq {K : PySem.W.Frag} {xs : List V} (W : Wd H0 H S l) (i : Nat) (e : l[i]? = some (p, Eq (.lst xs))) : SqL K H p xs := HS.sq (W.at i e)
theorem Wd.same (W : Wd H0 H S l) (k : Keep (fun _ => False) H H') : Wd H0 H' S l :=
  ⟨W.nd, fun x hx => let ⟨o, h, z⟩ := W.at_ x hx; ⟨o, k _ _ h id, z⟩, W.kp.trans k.any, W.fr⟩
theorem Wd.miss (W : Wd H0 H S l) (h : H p = none) : ∀ x ∈ l, x.1 ≠ p := fun x hx e => by
  obtain ⟨o', h', _⟩ := W.at_ x hx
  rw [e, h] at h'; cases h'
/-- an object that some call has made: it was not there before the call -/
theorem Wd.made (W : Wd H0 H S l) {H1 : Hp} (k : Keep (fun _ => False) H H1) (h0 : H p = none) (h : H1 p = some o) (z : P o) : Wd H0 H1 S (l ++ [(p, P)]) := by
  have W1 := W.same k
  refine ⟨nd_snoc W.nd (W.miss h0), fun x hx => ?_, W1.kp, fun x hx => ?_⟩
  · rcases mem_snoc hx with hx | e
    · exact W1.at_ x hx
    · subst e; exact ⟨o, h, z⟩
  · rcases mem_snoc hx with hx | e
    · exact W.fr x hx
    · subst e
      by_cases s : S p
      · exact .inl s
      · exact .inr (W.kp.free h0 s)
theorem Wd.new (W : Wd H0 H S l) (h : H p = none) (z : P o) : Wd H0 (upd H p o) S (l ++ [(p, P)]) := W.made (Keep.new h) h upd_same z
/-- the same, the new heap by its name -/
theorem Wd.newG (W : Wd H0 H S l) (e : upd H p o = H') (h : H p = none) : Wd H0 H' S (l ++ [(p, Eq o)]) := e ▸ W.new h rfl
theorem nd_ne {l : WdL} (nd : (l.map (·.1)).Nodup) (e1 : l[i]? = some (p, P)) (e2 : l[j]? = some (q, P')) (h : i ≠ j) : p ≠ q := fun z => by
  have f1 : (l.map (·.1))[i]? = some p := by rw [List.getElem?_map, e1]; rfl
  have f2 : (l.map (·.1))[j]? = some q := by rw [List.getElem?_map, e2]; rfl
  have hl : i < (l.map (·.1)).length := (List.getElem?_eq_some_iff.mp f1).1
  exact h ((List.getElem?_inj hl nd).mp (by rw [f1, f2, z]))
theorem Wd.ne (W : Wd H0 H S l) (i j : Nat) (e1 : l[i]? = some (p, P)) (e2 : l[j]? = some (q, P')) (h : i ≠ j := by decide) : p ≠ q := nd_ne W.nd e1 e2 h
theorem Wd.no (W : Wd H0 H S l) (i : Nat) (e : l[i]? = some (p, P)) (h : H q = none) : q ≠ p := fun z => by
  obtain ⟨o, h', _⟩ := W.get i e
  rw [z, h'] at h; cases h
/-- the i-th object changes, all else stands -/
theorem Wd.chg (W : Wd H0 H S l) (i : Nat) (e : l[i]? = some (p, P)) (k : Keep (fun a => a = p) H H') (h : H' p = some o) (z : P' o) : Wd H0 H' S (l.set i (p, P')) := by
  have hi : i < l.length := (List.getElem?_eq_some_iff.mp e).1
  have em : (l.set i (p, P')).map (·.1) = l.map (·.1) := by
    apply List.ext_getElem?
    intro j
    rw [List.getElem?_map, List.getElem?_map, List.getElem?_set]
    by_cases hj : i = j
    · subst hj; rw [if_pos rfl, if_pos hi, e]; rfl
    · rw [if_neg hj]
  have hm : ∀ x ∈ l.set i (p, P'), x = (p, P') ∨ (x ∈ l ∧ x.1 ≠ p) := fun x hx => by
    obtain ⟨j, hj⟩ := List.getElem?_of_mem hx
    rw [List.getElem?_set] at hj
    by_cases hij : i = j
    · rw [if_pos hij, if_pos hi] at hj
      exact .inl (Option.some.inj hj).symm
    · rw [if_neg hij] at hj
      exact .inr ⟨List.mem_of_getElem? hj, fun y => nd_ne W.nd e (show l[j]? = some (x.1, x.2) from hj) hij y.symm⟩
  have sp := W.fr _ (List.mem_of_getElem? e)
  refine ⟨by rw [em]; exact W.nd, fun x hx => ?_, fun a u ha n => ?_, fun x hx => ?_⟩
  · rcases hm x hx with rfl | ⟨hx, n⟩
    · exact ⟨o, h, z⟩
    · obtain ⟨u, hu, y⟩ := W.at_ x hx
      exact ⟨u, k _ _ hu n, y⟩
  · refine k _ _ (W.kp _ _ ha n) fun y => ?_
    subst y
    rcases sp with sp | sp
    · exact n sp
    · rw [sp] at ha; cases ha
  · rcases hm x hx with rfl | ⟨hx, n⟩
    · exact sp
    · exact W.fr x hx
theorem Wd.chgE (W : Wd H0 H S l) (i : Nat) (e : l[i]? = some (p, P)) (k : Keep (fun a => a = p) H H') (h : H' p = some o) : Wd H0 H' S (l.set i (p, Eq o)) := W.chg i e k h rfl
theorem Wd.put (W : Wd H0 H S l) (i : Nat) (e : l[i]? = some (p, P)) (z : P' o) : Wd H0 (upd H p o) S (l.set i (p, P')) := W.chg i e (Keep.refl.at rfl) upd_same z
theorem Wd.putG (W : Wd H0 H S l) (i : Nat) (e : l[i]? = some (p, P)) (g : upd H p o = H') : Wd H0 H' S (l.set i (p, Eq o)) := g ▸ W.put i e rfl
/-- only some of it is told further -/
theorem Wd.sub (W : Wd H0 H S l) (h : l'.Sublist l) : Wd H0 H S l' := ⟨W.nd.sublist (h.map _), fun x hx => W.at_ x (h.subset hx), W.kp, fun x hx => W.fr x (h.subset hx)⟩
theorem Wd.take (W : Wd H0 H S l) (n : Nat) : Wd H0 H S (l.take n) := W.sub (List.take_sublist n l)
theorem Wd.weak (W : Wd H0 H S l) (i : Nat) (e : l[i]? = some (p, P)) (z : ∀ o, P o → P' o) : Wd H0 H S (l.set i (p, P')) := by
  obtain ⟨o, h, y⟩ := W.get i e
  exact W.chg i e .refl h (z o y)
/-- an object that a call has made which changed told objects besides: W before it, W' behind it -/
theorem Wd.madeT {H1 : Hp} (W : Wd H0 H S l) (W' : Wd H0 H1 S l') (e : l'.map (·.1) = l.map (·.1)) (h0 : H p = none) (h : H1 p = some o) (z : P o) : Wd H0 H1 S (l' ++ [(p, P)]) := by
  have n : ∀ x ∈ l', x.1 ≠ p := fun x hx y => by
    have hm : p ∈ l.map (·.1) := by rw [← e, ← y]; exact List.mem_map_of_mem hx
    obtain ⟨u, hu, eu⟩ := List.mem_map.mp hm
    exact W.miss h0 u hu eu
  refine ⟨nd_snoc W'.nd n, fun x hx => ?_, W'.kp, fun x hx => ?_⟩
  · rcases mem_snoc hx with hx | e
    · exact W'.at_ x hx
    · subst e; exact ⟨o, h, z⟩
  · rcases mem_snoc hx with hx | e
    · exact W'.fr x hx
    · subst e
      by_cases s : S p
      · exact .inl s
      · exact .inr (W.kp.free h0 s)
theorem Wd.keep (W : Wd H0 H S l) : Keep S H0 H := W.kp
/-- a change of several told objects and of nothing else -/
theorem Wd.chgs {T : Addr → Prop} (W : Wd H0 H S l) (k : Keep T H H') (hT : ∀ a, T a → S a ∨ H0 a = none) (f : ∀ x ∈ l, ¬ T x.1 ∨ ∃ o, H' x.1 = some o ∧ x.2 o) : Wd H0 H' S l := by
  refine ⟨W.nd, fun x hx => ?_, fun a u ha n => k _ _ (W.kp _ _ ha n) fun y => ?_, W.fr⟩
  · rcases f x hx with n | y
    · obtain ⟨u, hu, y⟩ := W.at_ x hx
      exact ⟨u, k _ _ hu n, y⟩
    · exact y
  · rcases hT a y with z | z
    · exact n z
    · rw [z] at ha; cases ha
theorem Wd.chgO (W : Wd H0 H S l) (k : Keep (fun a => a = p) H H') (hp : ∀ x ∈ l, x.1 ≠ p) (s : S p ∨ H0 p = none) : Wd H0 H' S l :=
  W.chgs k (fun a e => by cases (show a = p from e); exact s) fun x hx => .inl (hp x hx)
end
end HS
/-! A dict of four cells: the law's draws (own lemmas over HandS.Dict). -/
namespace HS
open PySem PySem.Spec PyProof.Rows L2
section
variable {σ : L2.St} {H : Hp} {Q : VK} {td ty tv : TE} {n bk ct : L2.St → Hp → Prop} {rt : VK} {a : Addr} {kvs : List (Key × V)} {x : Str} {v : V}
theorem dget (h : td σ H fun x H1 => ty σ H1 fun y H2 => ∃ a v, x = .ref a ∧ DGet H2 a y (some v) ∧ Q v H2) : tDGet td ty σ H Q := h
theorem dput (h : tv σ H fun v H1 => td σ H1 fun x H2 => ty σ H2 fun y H3 => ∃ a H4, x = .ref a ∧ DPut H3 a y v H4 ∧ n σ H4) : sDPut td ty tv ⟨n, rt, bk, ct⟩ σ H := h
theorem daug {rd : V → V → Hp → VK → Prop} (h : td σ H fun x H1 => ty σ H1 fun y H2 => ∃ a v, x = .ref a ∧ DGet H2 a y (some v) ∧ tv σ H2 fun y2 H3 => rd v y2 H3 fun z H4 => ∃ H5, DPut H4 a y z H5 ∧ n σ H5) : sDAug td ty tv rd ⟨n, rt, bk, ct⟩ σ H := h
theorem dgS {R : Addr → V → Prop} (v : V) (e : H a = some (.dK kvs)) (f : valV kvs (.inr x) = some v) (q : R a v) : ∃ a' v', V.ref a = .ref a' ∧ DGet H a' (.str x) (some v') ∧ R a' v' := ⟨a, v, rfl, by rw [← f]; exact DGet.k (k := .inr x) e, q⟩
theorem dpS {R : Hp → Prop} (e : H a = some (.dK kvs)) (hl : kvs.length ≤ 100000) (q : R (upd H a (.dK (putK kvs (.inr x) v)))) : ∃ a' H4, V.ref a = .ref a' ∧ DPut H a' (.str x) v H4 ∧ R H4 := ⟨a, _, rfl, DPut.k (k := .inr x) e (sz hl), q⟩
theorem dpS1 {R : Hp → Prop} (e : H a = some (.dK kvs)) (hl : kvs.length ≤ 100000) (q : R (upd H a (.dK (putK kvs (.inr x) v)))) : ∃ H4, DPut H a (.str x) v H4 ∧ R H4 := ⟨_, DPut.k (k := .inr x) e (sz hl), q⟩
theorem abI {i : Int} (q : Q (.int (if i < 0 then -i else i)) H) : (fun xs H Q => ∃ i, xs = [V.int i] ∧ Q (.int (if i < 0 then -i else i)) H : List V → Hp → VK → Prop) [.int i] H Q := ⟨i, rfl, q⟩
end
end HS
namespace HS
open PySem PySem.Spec PyProof.Rows L2
theorem disp {σ : L2.St} {H : Hp} {Q : VK} {trs : List (TE × TE)} (h : ∀ p, H p = none → tPairs trs σ (upd H p (.dK [])) fun ps H2 => H2 p = some (.dK []) ∧ ∃ kvs : List (Key × V), ps = kvs.map (fun kv => (kV kv.1, kv.2)) ∧ kvs.length ≤ 15 ∧ Q (.ref p) (upd H2 p (.dK (mergeK [] kvs)))) : tDisp trs σ H Q := h
end HS
namespace HS
open PySem PySem.Spec PyProof.Rows L2
/-- the four cells of a bag -/
def cells (d : Addr) (l c m : Int) : List (Key × V) := [(.inr "great", .ref d), (.inr "left", .int l), (.inr "turn", .int c), (.inr "blend", .int m)]
section
variable {H : Hp} {a d : Addr} {l c m z : Int} {R : Hp → Prop} {S : Addr → V → Prop}
theorem bagL (e : H a = some (.dK (cells d l c m))) (q : R (upd H a (.dK (cells d z c m)))) : ∃ a' H4, V.ref a = .ref a' ∧ DPut H a' (.str "left") (.int z) H4 ∧ R H4 := dpS e (Nat.le_of_ble_eq_true rfl) q
theorem bagT (e : H a = some (.dK (cells d l c m))) (q : R (upd H a (.dK (cells d l z m)))) : ∃ H4, DPut H a (.str "turn") (.int z) H4 ∧ R H4 := dpS1 e (Nat.le_of_ble_eq_true rfl) q
theorem bgG (e : H a = some (.dK (cells d l c m))) (q : S a (.ref d)) : ∃ a' v', V.ref a = .ref a' ∧ DGet H a' (.str "great") (some v') ∧ S a' v' := dgS _ e rfl q
theorem bgL (e : H a = some (.dK (cells d l c m))) (q : S a (.int l)) : ∃ a' v', V.ref a = .ref a' ∧ DGet H a' (.str "left") (some v') ∧ S a' v' := dgS _ e rfl q
theorem bgT (e : H a = some (.dK (cells d l c m))) (q : S a (.int c)) : ∃ a' v', V.ref a = .ref a' ∧ DGet H a' (.str "turn") (some v') ∧ S a' v' := dgS _ e rfl q
theorem bgB (e : H a = some (.dK (cells d l c m))) (q : S a (.int m)) : ∃ a' v', V.ref a = .ref a' ∧ DGet H a' (.str "blend") (some v') ∧ S a' v' := dgS _ e rfl q
end
end HS
/-! A dict that is made empty; a key that is not in it (own steps over HandS.Dict). -/
namespace HS
open PySem PySem.Spec PyProof.Rows L2
section
variable {σ : L2.St} {H : Hp} {Q : VK} {td ty : TE}
theorem dnk (h : ∀ p, H p = none → Q (.ref p) (upd H p (.dK []))) : tDNewK σ H Q := h
theorem dnin (h : ty σ H fun y H1 => td σ H1 fun x H2 => ∃ a o, x = .ref a ∧ DGet H2 a y o ∧ Q (.bl (!o.isSome)) H2) : tDNotIn ty td σ H Q := h
theorem putN {S : Addr → Prop} {p : Addr} {o : HO} {H1 : Hp} (k : Keep S H H1) (h : H p = none) : Keep S H (upd H1 p o) := k.put h
end
end HS
/-! repr of whole numbers of up to 12900 bits: the module sys has no limit of its own (a fact of the head: nsIn K cStatics "sys.int_max_str_digits" = some none). -/
namespace HS
open PySem PySem.Spec PyProof.Rows L2 Builtin Builtin.Int
/-- no limit of digits was set -/
def NoDig (K : PySem.W.Frag) : Prop := PySem.W.nsIn K cStatics "sys.int_max_str_digits" = some none
section
variable {K : PySem.W.Frag} {M : Model} {A : Around} {E : Value → Shared → Prop} {s : Shared} {a : Int}
theorem over_none {Q : Option Nat → Shared → Prop} (X : K.In s.heap) (e : NoDig K) (h : a.natAbs.log2 < 12900) (q : Q none s) : wpAny M A (overDigitLimit? a) Q E s := by
  unfold overDigitLimit?
  by_cases h0 : a.natAbs.log2 < 1920
  · rw [if_pos h0]
    exact wpAny_pure q
  rw [if_neg h0]
  have hn : wpAny M A intMaxStrDigits (fun n s' => n = 4300 ∧ s' = s) E s := by
    unfold intMaxStrDigits
    exact wpAny_bind (PySem.W.looks_nsIn X e A _ E s (fun _ _ z => z) (wpAny_pure ⟨rfl, rfl⟩))
  refine wpAny_bind (wpAny_mono hn (fun n s' z => ?_) fun _ _ z => z)
  obtain ⟨rfl, rfl⟩ := z
  dsimp only
  rw [if_neg (by omega), if_pos (by simp; omega)]
  exact wpAny_pure q
theorem repr_at (t : Tok) (h : a.natAbs.log2 < 12900) : GivesAt (fun s => ∃ K : PySem.W.Frag, K.In s.heap ∧ NoDig K) («int.__repr__» ⟨[.int a t], []⟩) (.str (toString a)) := by
  rintro prog w A R s ⟨K, X, e⟩ q
  unfold «int.__repr__»
  show wpAny _ _ (do let r ← overDigitLimit? a; _) _ _ s
  refine wpAny_bind (over_none X e h ?_)
  exact Gives.of_eq (m := .str (toString a)) rfl prog w A R s q
end
theorem repr_call {prog : Program} {w : World} {A : Around} {E : Value → Shared → Prop} {s : Shared} {K : PySem.W.Frag} {a : Int} {t : Tok} {Q : Value → Shared → Prop} (X : K.In s.heap) (e : NoDig K) (h : a.natAbs.log2 < 12900)
    (q : Q (.str (toString a) s.toks) { s with toks := s.toks + 1 }) : wpAny (model prog w) A (call (.builtin "repr") [.int a t]) Q E s := by
  have hT : s.TypeIs (.int a t) "int" := typeIs_int s a t
  have hx : (Str.ofString (toString a)).length ≤ sizeLine := int_text_fits10 (Nat.lt_of_lt_of_le (lt_two_pow_of_log2_lt h) (by rw [show (10 : Nat) ^ 4300 = 1000 ^ 1433 * 10 by rw [show (1000 : Nat) = 10 ^ 3 from rfl, ← Nat.pow_mul, ← Nat.pow_succ]]; exact Nat.le_trans (Nat.pow_le_pow_right (by decide) (show 12900 ≤ 9 * 1433 + 3 by decide)) (by rw [Nat.pow_add, Nat.pow_mul]; exact Nat.mul_le_mul (Nat.pow_le_pow_left (by decide) _) (by decide))))
  refine Calls.call_function_entry F.kind_repr F.plain_repr F.entry_repr (F.args_repr1 _) ?_
  show wpAny _ _ (Builtin.«repr» _) _ _ s
  unfold Builtin.«repr»
  refine wpAny_bind (m := oneArg "repr" _) (wpAny_pure ?_)
  simp only [cRoomFor, show [Value.int a t].any Value.onHeap = false from rfl, Bool.false_eq_true, if_false, pure_bind]
  refine wpAny_bind (wpAny_specialOf (name := Str.ofString "__repr__") hT F.slot_int_repr.lookup ?_)
  have go := call_givesAt (prog := prog) (w := w) (A := A.in1) (E := E) F.slot_int_repr hT F.entry_int_repr (F.args_int_repr_1 (.int a t)) (repr_at t h) ⟨K, X, e⟩ (Q := fun v s' => v = .str (toString a) s.toks ∧ s' = { s with toks := s.toks + 1 }) ⟨hx, rfl, rfl⟩
  refine wpAny_bind (m := callSpecialIfBound? (.int a t) (Str.ofString "__repr__")) (wpAny_callSpecialIfBound?_slot (name := Str.ofString "__repr__") hT F.slot_int_repr (wpAny_mono go (fun v s' z => ?_) fun _ _ z => z))
  obtain ⟨rfl, rfl⟩ := z
  refine wpAny_bind (wpAny_isInstance (T := "str") (b := true) rfl isSubtype_str_str ?_)
  exact wpAny_pure ⟨_, rfl, q⟩
theorem call_repr_big {X : Cx} (e : NoDig X.K) : CallR X (.builtin "repr") (fun xs H Q => ∃ i, xs = [.int i] ∧ i.natAbs.log2 < 12900 ∧ Q (.str (toString i)) H) := by
  rintro pins s σ H xs us Q I r ⟨i, rfl, hz, q⟩
  obtain ⟨u, rfl, t, rfl⟩ := vals1 r
  exact repr_call I.kIn e hz ⟨.str _, H, I.tok _, ⟨_, rfl⟩, q⟩
theorem krepB {X : Cx} (K : PySem.W.Frag) (e : NoDig K) (h : X.K = K := by rfl) : CallR X (.builtin "repr") (fun xs H Q => ∃ i, xs = [.int i] ∧ i.natAbs.log2 < 12900 ∧ Q (.str (toString i)) H) := by
  subst h
  exact call_repr_big e
end HS
namespace WK17
open PySem PySem.Spec PyProof.Rows L2
/-- the source of draws at s, its digits at d; n: at most so many mixed draws so far -/
def Src (H : Hp) (s d : Addr) (n : Nat) : Prop := s ≠ d ∧ ∃ (gs : List Int) (l m c : Int), H s = some (.lst [.ref d, .int l, .int m, .int c]) ∧ H d = some (.lst (gs.map V.int)) ∧ (∀ x ∈ gs, 0 ≤ x) ∧ gs.length ≤ 63 ∧ 0 ≤ l ∧ 0 ≤ m ∧ m < 2 ^ 61 ∧ 0 ≤ c ∧ c ≤ n
/-- lengths of chapters -/
def Book (ls : List Int) : Prop := ∀ x ∈ ls, 1 ≤ x ∧ x < 10 ^ 30
theorem Src.keep {H H' : Hp} {s d : Addr} {n : Nat} (h : Src H s d n) (e1 : H' s = H s) (e2 : H' d = H d) : Src H' s d n := by
  obtain ⟨hsd, gs, l, m, c, h1, h2, h3⟩ := h
  exact ⟨hsd, gs, l, m, c, by rw [e1]; exact h1, by rw [e2]; exact h2, h3⟩
theorem Src.new {H : Hp} {s d p : Addr} {n : Nat} {o : HO} (h : Src H s d n) (hp : H p = none) : Src (upd H p o) s d n := by
  obtain ⟨hsd, gs, l, m, c, h1, h2, h3⟩ := h
  exact ⟨hsd, gs, l, m, c, by rw [upd_ne (ne_of_none h1 hp)]; exact h1, by rw [upd_ne (ne_of_none h2 hp)]; exact h2, h3⟩
theorem Src.put {H : Hp} {s d p : Addr} {n : Nat} {o : HO} (h : Src H s d n) (e1 : p ≠ s) (e2 : p ≠ d) : Src (upd H p o) s d n := by
  obtain ⟨hsd, gs, l, m, c, h1, h2, h3⟩ := h
  exact ⟨hsd, gs, l, m, c, by rw [upd_ne e1.symm]; exact h1, by rw [upd_ne e2.symm]; exact h2, h3⟩
theorem Src.ne1 {H : Hp} {s d p : Addr} {n : Nat} (h : Src H s d n) (hp : H p = none) : p ≠ s := by
  obtain ⟨hsd, gs, l, m, c, h1, h2, h3⟩ := h
  exact (ne_of_none h1 hp).symm
theorem Src.ne2 {H : Hp} {s d p : Addr} {n : Nat} (h : Src H s d n) (hp : H p = none) : p ≠ d := by
  obtain ⟨hsd, gs, l, m, c, h1, h2, h3⟩ := h
  exact (ne_of_none h2 hp).symm
theorem Src.up {H : Hp} {s d : Addr} {n m : Nat} (h : Src H s d n) (e : n ≤ m) : Src H s d m := by
  obtain ⟨hsd, gs, l, m', c, h1, h2, h3, h4, h5, h6, h7, h8, h9⟩ := h
  exact ⟨hsd, gs, l, m', c, h1, h2, h3, h4, h5, h6, h7, h8, by omega⟩
/-- the page count of an edition -/
def pcount (ls : List Int) (j : Int) : Int := (ls.map fun x => (x + j - 1) / j).sum
theorem pcount_nil (j : Int) : pcount [] j = 0 := rfl
theorem pcount_cons (x : Int) (ls : List Int) (j : Int) : pcount (x :: ls) j = (x + j - 1) / j + pcount ls j := by unfold pcount; rw [List.map_cons, List.sum_cons]
theorem pcount_append (xs ys : List Int) (j : Int) : pcount (xs ++ ys) j = pcount xs j + pcount ys j := by unfold pcount; rw [List.map_append, List.sum_append]
/-- a page for each chapter, and one more for each full page of its other lines -/
theorem pcount_less1 {j : Int} (hj : 1 ≤ j) : ∀ ls : List Int, (ls.length : Int) + (ls.map fun x => (x - 1) / j).sum = pcount ls j
  | [] => rfl
  | x :: r => by
    have e : (x + j - 1) / j = (x - 1) / j + 1 := by rw [show x + j - 1 = (x - 1) + j * 1 by omega, Int.add_mul_ediv_left _ _ (by omega)]
    rw [pcount_cons, ← pcount_less1 hj r, e, List.length_cons, List.map_cons, List.sum_cons]
    push_cast
    omega
theorem pcount_take {ls : List Int} {i : Nat} {x : Int} (j : Int) (h : ls[i]? = some x) : pcount (ls.take (i + 1)) j = pcount (ls.take i) j + (x + j - 1) / j := by
  obtain ⟨h1, h2⟩ := List.getElem?_eq_some_iff.mp h
  rw [List.take_add_one, h, pcount_append]
  show _ + pcount [x] j = _
  rw [pcount_cons, pcount_nil]; omega
theorem ceil_pos {x j : Int} (hx : 1 ≤ x) (hj : 1 ≤ j) : 1 ≤ (x + j - 1) / j := by
  rw [Int.le_ediv_iff_mul_le (by omega)]; omega
theorem pcount_len {ls : List Int} {j : Int} (hp : ∀ x ∈ ls, 1 ≤ x) (hj : 1 ≤ j) : (ls.length : Int) ≤ pcount ls j := by
  induction ls with
  | nil => exact Int.le_refl 0
  | cons x r ih =>
    rw [pcount_cons, List.length_cons]
    have := ceil_pos (hp x List.mem_cons_self) hj
    have := ih fun y hy => hp y (List.mem_cons_of_mem _ hy)
    omega
theorem pcount_pos {ls : List Int} {j : Int} (hp : ∀ x ∈ ls, 1 ≤ x) (hj : 1 ≤ j) : 0 ≤ pcount ls j := by
  have := pcount_len hp hj; omega
theorem take_all {ls : List Int} {P : Int → Prop} (h : ∀ x ∈ ls, P x) (n : Nat) : ∀ x ∈ ls.take n, P x := fun x hx => h x (List.mem_of_mem_take hx)
theorem Src.same {H H' : Hp} {s d : Addr} {n : Nat} (h : Src H s d n) (k : HS.Keep (fun _ => False) H H') : Src H' s d n := by
  obtain ⟨hsd, gs, l, m, c, h1, h2, h3⟩ := h
  exact ⟨hsd, gs, l, m, c, k _ _ h1 id, k _ _ h2 id, h3⟩
theorem sum_book {ls : List Int} (h : Book ls) : (ls.length : Int) ≤ ls.sum ∧ ls.sum ≤ ls.length * (10 ^ 30) := by
  induction ls with
  | nil => exact ⟨Int.le_refl _, Int.le_refl _⟩
  | cons x r ih =>
    have := ih fun y hy => h y (List.mem_cons_of_mem _ hy)
    have := h x List.mem_cons_self
    rw [List.sum_cons, List.length_cons]
    push_cast
    omega
/-! Sums of ceilings. -/
theorem ceil_le {x j q : Int} (hj : 1 ≤ j) : (x + j - 1) / j ≤ q ↔ x ≤ q * j := by
  rw [← Int.lt_add_one_iff, Int.ediv_lt_iff_lt_mul (by omega), Int.add_mul]
  omega
theorem ceil_up {x j : Int} (hj : 1 ≤ j) : x ≤ (x + j - 1) / j * j := (ceil_le hj).mp (Int.le_refl _)
theorem ceil_dn {x j : Int} (hj : 1 ≤ j) : (x + j - 1) / j * j ≤ x + j - 1 := Int.ediv_mul_le _ (by omega)
theorem ceil_nonneg {x j : Int} (hx : 0 ≤ x) (hj : 1 ≤ j) : 0 ≤ (x + j - 1) / j := Int.ediv_nonneg (by omega) (by omega)
theorem pcount_up (ls : List Int) {j : Int} (hj : 1 ≤ j) : ls.sum ≤ pcount ls j * j := by
  induction ls with
  | nil => rw [pcount_nil]; simp
  | cons x r ih =>
    rw [pcount_cons, List.sum_cons, Int.add_mul]
    have := ceil_up (x := x) hj
    omega
theorem pcount_ceil (ls : List Int) {j : Int} (hj : 1 ≤ j) : (ls.sum + j - 1) / j ≤ pcount ls j := (ceil_le hj).mpr (pcount_up ls hj)
theorem pcount_dn (ls : List Int) {j : Int} (hj : 1 ≤ j) : (pcount ls j - ls.length) * j ≤ ls.sum - ls.length := by
  induction ls with
  | nil => rw [pcount_nil]; simp
  | cons x r ih =>
    rw [pcount_cons, List.sum_cons, List.length_cons]
    have := ceil_dn (x := x) hj
    have e : ((x + j - 1) / j + pcount r j - ((r.length + 1 : Nat) : Int)) * j = (x + j - 1) / j * j - j + (pcount r j - r.length) * j := by
      rw [show ((x + j - 1) / j + pcount r j - ((r.length + 1 : Nat) : Int)) = ((x + j - 1) / j - 1) + (pcount r j - r.length) by push_cast; omega, Int.add_mul, Int.sub_mul, Int.one_mul]
    rw [e]
    push_cast
    omega
theorem pcount_most (ls : List Int) {j : Int} (hj : 1 ≤ j) : pcount ls j ≤ ls.length + (ls.sum - ls.length) / j := by
  have := (Int.le_ediv_iff_mul_le (by omega : 0 < j)).mpr (pcount_dn ls hj)
  omega
theorem pcount_anti {ls : List Int} {j k : Int} (hp : ∀ x ∈ ls, 1 ≤ x) (hj : 1 ≤ j) (hk : j ≤ k) : pcount ls k ≤ pcount ls j := by
  induction ls with
  | nil => exact Int.le_refl _
  | cons x r ih =>
    rw [pcount_cons, pcount_cons]
    have h1 := ih fun y hy => hp y (List.mem_cons_of_mem _ hy)
    have hx := hp x List.mem_cons_self
    have h2 : (x + k - 1) / k ≤ (x + j - 1) / j := (ceil_le (by omega)).mpr (Int.le_trans (ceil_up hj) (Int.mul_le_mul_of_nonneg_left hk (ceil_nonneg (by omega) hj)))
    omega
theorem pcount_mult {ls : List Int} {j m : Int} (hj : 1 ≤ j) (hm : 1 ≤ m) : pcount ls j ≤ m * pcount ls (j * m) := by
  have hjm : 1 ≤ j * m := by have := Int.mul_le_mul hj hm (by omega) (by omega); omega
  induction ls with
  | nil => rw [pcount_nil, pcount_nil, Int.mul_zero]; exact Int.le_refl _
  | cons x r ih =>
    rw [pcount_cons, pcount_cons, Int.mul_add]
    have h2 : (x + j - 1) / j ≤ m * ((x + j * m - 1) / (j * m)) := (ceil_le hj).mpr (by
      have := ceil_up (x := x) hjm
      rw [show m * ((x + j * m - 1) / (j * m)) * j = (x + j * m - 1) / (j * m) * (j * m) by rw [Int.mul_comm m, Int.mul_assoc, Int.mul_comm m j]]
      exact this)
    omega
theorem pcount_reverse (ls : List Int) (j : Int) : pcount ls.reverse j = pcount ls j := by
  induction ls with
  | nil => rfl
  | cons x r ih => rw [List.reverse_cons, pcount_append, ih, pcount_cons, pcount_cons, pcount_nil]; omega
theorem pcount_cut (ls : List Int) (n : Nat) (j : Int) : pcount (ls.take n) j + pcount (ls.drop n) j = pcount ls j := by
  rw [← pcount_append, List.take_append_drop]
theorem ceil_join {x y j : Int} (hj : 1 ≤ j) : (x + y + j - 1) / j ≤ (x + j - 1) / j + (y + j - 1) / j ∧ (x + j - 1) / j + (y + j - 1) / j ≤ (x + y + j - 1) / j + 1 := by
  have a1 := ceil_up (x := x) hj
  have a2 := ceil_dn (x := x) hj
  have b1 := ceil_up (x := y) hj
  have b2 := ceil_dn (x := y) hj
  have c1 := ceil_up (x := x + y) hj
  refine ⟨(ceil_le hj).mpr (by rw [Int.add_mul]; omega), ?_⟩
  generalize (x + j - 1) / j = p at *
  generalize (y + j - 1) / j = q at *
  generalize (x + y + j - 1) / j = r at *
  apply Int.le_of_lt_add_one
  apply Int.lt_of_not_ge
  intro h
  have h1 : (r + 2) * j ≤ (p + q) * j := Int.mul_le_mul_of_nonneg_right (by omega) (by omega)
  rw [Int.add_mul, Int.add_mul] at h1
  omega
theorem pcount_sum {ls : List Int} {j : Int} (hp : ∀ x ∈ ls, 1 ≤ x) (hl : (ls.length : Int) ≤ ls.sum) (hj : 1 ≤ j) : pcount ls j ≤ ls.sum := by
  have := pcount_most ls hj
  have := Int.ediv_le_self j (show 0 ≤ ls.sum - ls.length by omega)
  omega
/-- the law's draws: three numbers in a list at s; n: at most so many mixed draws so far -/
def Rng (H : Hp) (s : Addr) (n : Nat) : Prop := ∃ l m c : Int, H s = some (.lst [.int l, .int m, .int c]) ∧ 0 ≤ l ∧ 0 ≤ m ∧ m < 2 ^ 61 ∧ 0 ≤ c ∧ c ≤ n
section
variable {H H' : Hp} {s p : Addr} {n m : Nat} {o : HO}
theorem Rng.keep (h : Rng H s n) (e : H' s = H s) : Rng H' s n := by
  obtain ⟨l, m, c, h1, h2⟩ := h
  exact ⟨l, m, c, by rw [e]; exact h1, h2⟩
theorem Rng.new (h : Rng H s n) (hp : H p = none) : Rng (upd H p o) s n := by
  obtain ⟨l, m, c, h1, h2⟩ := h
  exact ⟨l, m, c, by rw [upd_ne (ne_of_none h1 hp)]; exact h1, h2⟩
theorem Rng.put (h : Rng H s n) (e : p ≠ s) : Rng (upd H p o) s n := by
  obtain ⟨l, m, c, h1, h2⟩ := h
  exact ⟨l, m, c, by rw [upd_ne e.symm]; exact h1, h2⟩
theorem Rng.ne (h : Rng H s n) (hp : H p = none) : p ≠ s := by
  obtain ⟨l, m, c, h1, h2⟩ := h
  exact (ne_of_none h1 hp).symm
theorem Rng.up (h : Rng H s n) (e : n ≤ m) : Rng H s m := by
  obtain ⟨l, m', c, h1, h2, h3, h4, h5, h6⟩ := h
  exact ⟨l, m', c, h1, h2, h3, h4, h5, by omega⟩
theorem Rng.same (h : Rng H s n) (k : HS.Keep (fun _ => False) H H') : Rng H' s n := by
  obtain ⟨l, m', c, h1, h2⟩ := h
  exact ⟨l, m', c, k _ _ h1 id, h2⟩
end
/-- lengths of chapters, up to T -/
def Lens (ls : List Int) (T : Int) : Prop := ∀ x ∈ ls, 1 ≤ x ∧ x ≤ T
theorem Lens.one {ls : List Int} {T : Int} (h : Lens ls T) : ∀ x ∈ ls, 1 ≤ x := fun x hx => (h x hx).1
theorem pow_up (i : Nat) : (2 : Int) ^ (200 * (i + 1)) < 2 ^ (200 * (i + 1 + 1)) := by
  have e : (2 : Int) ^ (200 * (i + 1 + 1)) = 2 ^ (200 * (i + 1)) * 2 ^ 200 := by rw [← Int.pow_add, show 200 * (i + 1) + 200 = 200 * (i + 1 + 1) by omega]
  have z : (0 : Int) < 2 ^ (200 * (i + 1)) := Int.pow_pos (by decide)
  rw [e]
  generalize (2 : Int) ^ (200 * (i + 1)) = P at z ⊢
  omega
theorem rng_step {d s : Int} {i : Nat} (h0 : 0 ≤ d) (h : d < 2 ^ (200 * (i + 1))) (s0 : 0 ≤ s) (s1 : s < 10 ^ 60) : 0 ≤ d * 10 ^ 60 + s ∧ d * 10 ^ 60 + s < 2 ^ (200 * (i + 1 + 1)) := by
  have e : (2 : Int) ^ (200 * (i + 1 + 1)) = 2 ^ (200 * (i + 1)) * 2 ^ 200 := by rw [← Int.pow_add, show 200 * (i + 1) + 200 = 200 * (i + 1 + 1) by omega]
  rw [e]
  generalize (2 : Int) ^ (200 * (i + 1)) = P at h ⊢
  omega
/-- some chapters -/
def Ls (H : Hp) (p : Addr) (ls : List Int) : Prop := H p = some (.lst (ls.map V.int))
theorem Rng.prs {H H' : Hp} {s : Addr} {n : Nat} {us : List V} {qs : List (Int × Int)} (S : Rng H s n) (k : HS.Keep (fun a => a = s) H H') (h : HS.Prs H us qs) : HS.Prs H' us qs := by
  obtain ⟨l0, m0, c0, hs0, _⟩ := S
  refine h.keep k fun v hv t' e' z' => ?_
  obtain ⟨i0, hi0⟩ := List.getElem?_of_mem hv
  obtain ⟨q, p, eq, _, hq⟩ := HS.Prs.at h hi0
  rw [eq] at e'
  cases e'
  rw [z', hs0] at hq
  cases hq
/-- the law's draws as one of the objects told -/
def RngO (n : Nat) : HO → Prop := fun o => ∃ l m c : Int, o = .lst [.int l, .int m, .int c] ∧ 0 ≤ l ∧ 0 ≤ m ∧ m < 2 ^ 61 ∧ 0 ≤ c ∧ c ≤ n
section
variable {H0 H H' : Hp} {S : Addr → Prop} {l : HS.WdL} {s : Addr} {n m : Nat}
theorem rng_o (h : Rng H s n) : ∃ o, H s = some o ∧ RngO n o := by
  obtain ⟨a, b, c, h1, h2⟩ := h
  exact ⟨_, h1, a, b, c, rfl, h2⟩
theorem wd_rng (h : Rng H s n) : HS.Wd H H (fun a => a = s) [(s, RngO n)] := by
  obtain ⟨o, h1, h2⟩ := rng_o h
  exact HS.Wd.one h1 h2 rfl
theorem wd_rngs {S : Addr → Prop} (h : Rng H s n) (hs : S s) : HS.Wd H H S [(s, RngO n)] := by
  obtain ⟨o, h1, h2⟩ := rng_o h
  exact HS.Wd.one h1 h2 hs
theorem _root_.HS.Wd.rng (W : HS.Wd H0 H S l) (i : Nat) (e : l[i]? = some (s, RngO n)) : Rng H s n := by
  obtain ⟨o, h, a, b, c, rfl, h2⟩ := W.get i e
  exact ⟨a, b, c, h, h2⟩
theorem _root_.HS.Wd.drawn (W : HS.Wd H0 H S l) (i : Nat) (e : l[i]? = some (s, RngO n)) (k : HS.Keep (fun a => a = s) H H') (r : Rng H' s m) : HS.Wd H0 H' S (l.set i (s, RngO m)) := by
  obtain ⟨o, h1, h2⟩ := rng_o r
  exact W.chg i e k h1 h2
theorem _root_.HS.Wd.rup (W : HS.Wd H0 H S l) (i : Nat) (e : l[i]? = some (s, RngO n)) (h : n ≤ m) : HS.Wd H0 H S (l.set i (s, RngO m)) :=
  W.weak i e fun o ⟨a, b, c, h1, h2, h3, h4, h5, h6⟩ => ⟨a, b, c, h1, h2, h3, h4, h5, by omega⟩
end
theorem none_ahead {ds : List PyData} {d : PyData} {j : Nat} (h : ∀ m < j, (ds[m]?.map fun z => PyData.eqv z d) = some false) : ∀ (m : Nat) (z : PyData), m < j → ds[m]? = some z → PyData.eqv z d = false := fun m z hm hz => by
  have e := h m hm
  rw [hz] at e
  exact Option.some.inj e
/-! Page counts of all sizes. -/
theorem perm_sum {xs ys : List Int} (p : xs.Perm ys) : xs.sum = ys.sum := by
  induction p with
  | nil => rfl
  | cons x _ ih => rw [List.sum_cons, List.sum_cons, ih]
  | swap x y l => simp only [List.sum_cons]; omega
  | trans _ _ a b => exact a.trans b
theorem pcount_perm {xs ys : List Int} (p : xs.Perm ys) (j : Int) : pcount xs j = pcount ys j := by
  unfold pcount
  exact perm_sum (p.map _)
/-- the page counts of the sizes 1 to T -/
def tabl (ls : List Int) (T : Nat) : List Int := (List.range T).map fun (i : Nat) => pcount ls ((i : Int) + 1)
theorem tabl_len (ls : List Int) (T : Nat) : (tabl ls T).length = T := by unfold tabl; rw [List.length_map, List.length_range]
theorem tabl_at {ls : List Int} {T i : Nat} (h : i < T) : (tabl ls T)[i]? = some (pcount ls ((i : Int) + 1)) := by
  unfold tabl; rw [List.getElem?_map, List.getElem?_range h]; rfl
theorem tabl_perm {xs ys : List Int} (p : xs.Perm ys) (T : Nat) : tabl xs T = tabl ys T := by
  unfold tabl
  exact List.map_congr_left fun i _ => pcount_perm p _
theorem tabl_take (ls : List Int) {i T : Nat} (h : i ≤ T) : (tabl ls T).take i = tabl ls i := by
  unfold tabl
  rw [← List.map_take, List.take_range, Nat.min_eq_left h]
theorem tabl_succ (ls : List Int) (T : Nat) : tabl ls (T + 1) = tabl ls T ++ [pcount ls ((T : Int) + 1)] := by
  unfold tabl; rw [List.range_succ, List.map_append]; rfl
theorem ceil_small {x j : Int} (h1 : 1 ≤ x) (h2 : x ≤ j) : (x + j - 1) / j = 1 := by
  have a : (x + j - 1) / j ≤ 1 := (ceil_le (by omega)).mpr (by omega)
  have b := ceil_pos h1 (by omega : 1 ≤ j)
  omega
theorem ceil_next {j : Int} (h : 1 ≤ j) : (j + 1 + j - 1) / j = 2 := by
  rw [show j + 1 + j - 1 = j * 2 by omega, Int.mul_ediv_cancel_left _ (by omega)]
theorem pcount_one {ls : List Int} {j : Int} (h : ∀ x ∈ ls, 1 ≤ x ∧ x ≤ j) : pcount ls j = ls.length := by
  induction ls with
  | nil => rfl
  | cons x r ih =>
    rw [pcount_cons, ceil_small (h x List.mem_cons_self).1 (h x List.mem_cons_self).2, ih fun y hy => h y (List.mem_cons_of_mem _ hy), List.length_cons]
    push_cast; omega
/-- the chapters of size + 1 lines, from the count of the size and the longer chapters -/
theorem pcount_split : ∀ {ls : List Int} {s : Int}, 1 ≤ s → (∀ x ∈ ls, 1 ≤ x) →
    pcount ls s = pcount (ls.filter fun x => decide (s + 1 < x)) s + ((ls.length : Int) - ((ls.filter fun x => decide (s + 1 < x)).length : Int)) + (ls.count (s + 1) : Int) ∧
    (ls.count (s + 1) : Int) ≤ (ls.length : Int) - ((ls.filter fun x => decide (s + 1 < x)).length : Int)
  | [], s, _, _ => ⟨rfl, by simp⟩
  | x :: r, s, hs, h => by
    obtain ⟨i1, i2⟩ := pcount_split (s := s) hs fun y hy => h y (List.mem_cons_of_mem _ hy)
    have hx := h x List.mem_cons_self
    rw [pcount_cons]
    by_cases c1 : s + 1 < x
    · rw [List.filter_cons_of_pos (by simp; omega), List.count_cons_of_ne (by omega), pcount_cons, List.length_cons, List.length_cons]
      push_cast; omega
    · rw [List.filter_cons_of_neg (by simp; omega), List.length_cons]
      by_cases c2 : x = s + 1
      · subst c2
        rw [List.count_cons_self, ceil_next hs]
        push_cast; omega
      · rw [List.count_cons_of_ne (by omega), ceil_small hx (by omega)]
        push_cast; omega
theorem found_is {ls : List Int} {s : Int} (hs : 1 ≤ s) (h : ∀ x ∈ ls, 1 ≤ x) :
    pcount ls s - pcount (HS.above ls (s + 1)) s - ((ls.length : Int) - ((HS.above ls (s + 1)).length : Int)) = (ls.count (s + 1) : Int) ∧ (ls.count (s + 1) : Int) ≤ (ls.length : Int) - ((HS.above ls (s + 1)).length : Int) := by
  obtain ⟨a, b⟩ := pcount_split (ls := HS.desc ls) hs fun x hx => h x (HS.desc_mem.mp hx)
  rw [pcount_perm (HS.desc_perm ls), HS.desc_len, HS.desc_count] at a
  rw [HS.desc_len, HS.desc_count] at b
  unfold HS.above
  omega
theorem counted_eq {x w : Int} (h : 1 ≤ w) : (x - 1) / w + 1 = (x + w - 1) / w := by
  rw [show x + w - 1 = (x - 1) + w * 1 by omega, Int.add_mul_ediv_left _ _ (by omega)]
theorem pcount_le_sum {ls : List Int} {j : Int} (h : ∀ x ∈ ls, 1 ≤ x) (hj : 1 ≤ j) : pcount ls j ≤ ls.sum := by
  induction ls with
  | nil => exact Int.le_refl _
  | cons x r ih =>
    rw [pcount_cons, List.sum_cons]
    have h1 := ih fun y hy => h y (List.mem_cons_of_mem _ hy)
    have hx := h x List.mem_cons_self
    have : (x + j - 1) / j ≤ x := (ceil_le hj).mpr (by have := Int.mul_le_mul_of_nonneg_left hj (show 0 ≤ x by omega); omega)
    omega
theorem lens_sum {ls : List Int} {T : Int} (h : Lens ls T) : 0 ≤ ls.sum ∧ ls.sum ≤ ls.length * T := by
  induction ls with
  | nil => exact ⟨Int.le_refl _, by simp⟩
  | cons x r ih =>
    obtain ⟨a, b⟩ := ih fun y hy => h y (List.mem_cons_of_mem _ hy)
    have hx := h x List.mem_cons_self
    rw [List.sum_cons, List.length_cons]
    push_cast
    rw [Int.add_mul]
    omega
theorem tabl_mem {ls : List Int} {T : Nat} {x : Int} (h : ∀ x ∈ ls, 1 ≤ x) (hx : x ∈ tabl ls T) : 0 ≤ x ∧ x ≤ ls.sum := by
  unfold tabl at hx
  obtain ⟨i, _, rfl⟩ := List.mem_map.mp hx
  exact ⟨pcount_pos h (by omega), pcount_le_sum h (by omega)⟩
theorem map_range_set {α : Type} {f g : Nat → α} {n i : Nat} (hi : i < n) (h : ∀ k, k ≠ i → f k = g k) : ((List.range n).map f).set i (g i) = (List.range n).map g := by
  apply List.ext_getElem?
  intro k
  rw [List.getElem?_set, List.length_map, List.length_range, List.getElem?_map, List.getElem?_map]
  by_cases e : i = k
  · subst e
    rw [if_pos rfl, if_pos hi, List.getElem?_range hi]
    rfl
  · rw [if_neg e]
    by_cases hk : k < n
    · rw [List.getElem?_range hk]
      show some (f k) = some (g k)
      rw [h k (fun z => e z.symm)]
    · rw [List.getElem?_eq_none (by rw [List.length_range]; omega)]
      rfl
theorem pcount_unit (ls : List Int) : pcount ls 1 = ls.sum := by
  induction ls with
  | nil => rfl
  | cons x r ih => rw [pcount_cons, ih, List.sum_cons, show x + 1 - 1 = x by omega, Int.ediv_one]
theorem tabl_vals (ls : List Int) (m : Int) : ((List.range m.toNat).map fun (i : Nat) => V.int (pcount ls ((i : Int) + 1))) = (tabl ls m.toNat).map V.int := by
  unfold tabl; rw [List.map_map]; rfl
abbrev bin (n k : Nat) : Nat := HS.binC n k
theorem bin_0 (n : Nat) : bin n 0 = 1 := HS.binC_0 n
theorem bin_above (n k : Nat) (h : n < k) : bin n k = 0 := HS.binC_above n k h
/-! Lists of n numbers from 1 to m with a sum: counted one by one, and by taking away and giving back. -/
/-- how many lists of n numbers from 1 to m have the sum t -/
def bnd (m : Nat) : Nat → Int → Int
  | 0, t => if t = 0 then 1 else 0
  | n + 1, t => ((List.range m).map fun (x : Nat) => bnd m n (t - ((x : Int) + 1))).sum
/-- how many lists of n numbers from 1 on have the sum t -/
def cpN : Nat → Nat → Int
  | 0, 0 => 1
  | 0, _ + 1 => 0
  | _ + 1, 0 => 0
  | n + 1, t + 1 => cpN (n + 1) t + cpN n t
theorem cpN_0 (t : Nat) : cpN 0 t = if t = 0 then 1 else 0 := by cases t <;> rfl
def cps (n : Nat) (t : Int) : Int := if t < 0 then 0 else cpN n t.toNat
theorem cps_0 (t : Int) : cps 0 t = if t = 0 then 1 else 0 := by
  unfold cps
  by_cases c : t < 0
  · rw [if_pos c, if_neg (by omega)]
  · rw [if_neg c, cpN_0]
    by_cases z : t = 0
    · rw [if_pos (by omega), if_pos z]
    · rw [if_neg (by omega), if_neg z]
theorem cps_succ (n : Nat) (t : Int) : cps (n + 1) t = cps (n + 1) (t - 1) + cps n (t - 1) := by
  unfold cps
  by_cases c : t - 1 < 0
  · rw [if_pos c, if_pos c]
    by_cases d : t < 0
    · rw [if_pos d]; rfl
    · rw [if_neg d, show t.toNat = 0 by omega]; rfl
  · rw [if_neg c, if_neg c, if_neg (by omega), show t.toNat = (t - 1).toNat + 1 by omega]
    rfl
theorem cpN_low : ∀ (n t : Nat), t < n → cpN n t = 0
  | 0, _, h => absurd h (Nat.not_lt_zero _)
  | _ + 1, 0, _ => rfl
  | n + 1, t + 1, h => by
    show cpN (n + 1) t + cpN n t = 0
    rw [cpN_low (n + 1) t (by omega), cpN_low n t (by omega)]; rfl
theorem cps_low {n : Nat} {t : Int} (h : t < n) : cps n t = 0 := by
  unfold cps
  by_cases c : t < 0
  · rw [if_pos c]
  · rw [if_neg c]; exact cpN_low _ _ (by omega)
theorem cpN_bin : ∀ (n t : Nat), cpN (n + 1) (t + 1) = (bin t n : Nat)
  | n, 0 => by
    show cpN (n + 1) 0 + cpN n 0 = _
    cases n with
    | zero => rfl
    | succ n => rfl
  | n, t + 1 => by
    show cpN (n + 1) (t + 1) + cpN n (t + 1) = _
    rw [cpN_bin n t]
    cases n with
    | zero => show ((bin t 0 : Nat) : Int) + 0 = _; rw [bin_0, bin_0]; rfl
    | succ n =>
      rw [cpN_bin n t]
      show _ = ((bin t n + bin t (n + 1) : Nat) : Int)
      rw [Int.natCast_add, Int.add_comm]
/-- the program's number: terms from 1 on -/
theorem cps_bin {n : Nat} {t : Int} (h : 1 ≤ t) : cps (n + 1) t = (bin (t - 1).toNat n : Nat) := by
  unfold cps
  rw [if_neg (by omega), show t.toNat = (t - 1).toNat + 1 by omega, cpN_bin]
theorem cpN_nonneg : ∀ (n t : Nat), 0 ≤ cpN n t
  | 0, t => by rw [cpN_0]; split <;> decide
  | _ + 1, 0 => Int.le_refl _
  | n + 1, t + 1 => Int.add_nonneg (cpN_nonneg (n + 1) t) (cpN_nonneg n t)
theorem cps_nonneg (n : Nat) (t : Int) : 0 ≤ cps n t := by
  unfold cps; split
  · exact Int.le_refl _
  · exact cpN_nonneg _ _
theorem sum_int_append (xs ys : List Int) : (xs ++ ys).sum = xs.sum + ys.sum := List.sum_append
/-- sums over windows -/
theorem window (f : Int → Int) : ∀ (m : Nat) (t : Int), ((List.range m).map fun (x : Nat) => f (t - ((x : Int) + 1))).sum - ((List.range m).map fun (x : Nat) => f (t - 1 - ((x : Int) + 1))).sum = f (t - 1) - f (t - 1 - m)
  | 0, t => by simp
  | m + 1, t => by
    have ih := window f m t
    rw [List.range_succ, List.map_append, List.map_append, sum_int_append, sum_int_append]
    simp only [List.map_cons, List.map_nil, List.sum_cons, List.sum_nil]
    rw [show t - ((m : Int) + 1) = t - 1 - m by omega, show t - 1 - ((m + 1 : Nat) : Int) = t - 1 - ((m : Int) + 1) by push_cast; omega]
    omega
theorem bnd_step (m n : Nat) (t : Int) : bnd m (n + 1) t = bnd m (n + 1) (t - 1) + (bnd m n (t - 1) - bnd m n (t - 1 - m)) := by
  have := window (bnd m n) m t
  show ((List.range m).map fun (x : Nat) => bnd m n (t - ((x : Int) + 1))).sum = ((List.range m).map fun (x : Nat) => bnd m n (t - 1 - ((x : Int) + 1))).sum + _
  omega
theorem sum_zero {α : Type} (f : α → Int) : ∀ xs : List α, (∀ x ∈ xs, f x = 0) → (xs.map f).sum = 0
  | [], _ => rfl
  | x :: r, h => by
    rw [List.map_cons, List.sum_cons, h x List.mem_cons_self, sum_zero f r fun y hy => h y (List.mem_cons_of_mem _ hy)]; rfl
theorem bnd_low (m : Nat) : ∀ {n : Nat} {t : Int}, t < n → bnd m n t = 0
  | 0, t, h => if_neg (by omega)
  | n + 1, t, h => sum_zero _ _ fun x _ => bnd_low m (n := n) (by omega)
def sgn (j : Nat) : Int := if j % 2 = 0 then 1 else -1
theorem sgn_succ (j : Nat) : sgn (j + 1) = - sgn j := by
  unfold sgn
  by_cases c : j % 2 = 0
  · rw [if_pos c, if_neg (by omega)]
  · rw [if_neg c, if_pos (by omega)]; rfl
/-- what is taken away and given back, up to N times -/
def alt (m N n : Nat) (t : Int) : Int := ((List.range N).map fun (j : Nat) => sgn j * (bin n j : Nat) * cps n (t - (j : Int) * m)).sum
theorem alt_succ (m N n : Nat) (t : Int) : alt m (N + 1) n t = alt m N n t + sgn N * (bin n N : Nat) * cps n (t - (N : Int) * m) := by
  unfold alt
  rw [List.range_succ, List.map_append, sum_int_append]
  simp
theorem alt_more (m n : Nat) (t : Int) (N : Nat) : ∀ k, (∀ j, N ≤ j → bin n j = 0 ∨ cps n (t - (j : Int) * m) = 0) → alt m (N + k) n t = alt m N n t
  | 0, _ => rfl
  | k + 1, h => by
    rw [← Nat.add_assoc, alt_succ, alt_more m n t N k h]
    rcases h (N + k) (by omega) with z | z
    · rw [z]; simp
    · rw [z, Int.mul_zero, Int.add_zero]
theorem alt_full (m n : Nat) (t : Int) {N : Nat} (h : n + 1 ≤ N) : alt m N n t = alt m (n + 1) n t := by
  obtain ⟨k, rfl⟩ : ∃ k, N = n + 1 + k := ⟨N - (n + 1), by omega⟩
  exact alt_more m n t (n + 1) k fun j hj => .inl (bin_above n j (by omega))
/-- the step of the alternating sums -/
theorem alt_diff (m n : Nat) (t : Int) : ∀ N, alt m (N + 1) (n + 1) t = alt m (N + 1) (n + 1) (t - 1) + (alt m (N + 1) n (t - 1) - alt m N n (t - 1 - m))
  | 0 => by
    have e0 : ∀ (n : Nat) (t : Int), alt m (0 + 1) n t = cps n t := fun n t => by
      rw [alt_succ]
      unfold alt
      rw [bin_0]
      simp [sgn]
    have e1 : alt m 0 n (t - 1 - m) = 0 := rfl
    rw [e0, e0, e0, e1, cps_succ n t, Int.sub_zero]
  | N + 1 => by
    have ih := alt_diff m n t N
    rw [alt_succ m (N + 1) (n + 1) t, alt_succ m (N + 1) (n + 1) (t - 1), alt_succ m (N + 1) n (t - 1), alt_succ m N n (t - 1 - m), ih]
    have e1 : t - 1 - (m : Int) - (N : Int) * m = t - 1 - ((N + 1 : Nat) : Int) * m := by push_cast; rw [Int.add_mul]; omega
    have e2 : t - ((N + 1 : Nat) : Int) * m - 1 = t - 1 - ((N + 1 : Nat) : Int) * m := by omega
    rw [e1, cps_succ n (t - ((N + 1 : Nat) : Int) * m), e2, sgn_succ]
    have b : bin (n + 1) (N + 1) = bin n N + bin n (N + 1) := rfl
    rw [b, Int.natCast_add]
    generalize cps (n + 1) (t - 1 - ((N + 1 : Nat) : Int) * m) = u
    generalize cps n (t - 1 - ((N + 1 : Nat) : Int) * m) = v
    generalize ((bin n N : Nat) : Int) = p
    generalize ((bin n (N + 1) : Nat) : Int) = q
    generalize sgn N = s
    have : -s * (p + q) * (u + v) = -s * (p + q) * u + -s * q * v - s * p * v := by
      rw [Int.mul_add, Int.mul_add (-s) p q, Int.add_mul, Int.add_mul, Int.neg_mul s p, Int.neg_mul (s * p) v]; omega
    omega
theorem alt_low (m N n : Nat) {t : Int} (h : t < n) : alt m N n t = 0 := by
  refine sum_zero _ _ fun j _ => ?_
  have : (0 : Int) ≤ (j : Int) * m := Int.mul_nonneg (by omega) (by omega)
  rw [cps_low (by omega), Int.mul_zero]
theorem bnd_alt (m : Nat) : ∀ (n : Nat) (t : Int), bnd m n t = alt m (n + 1) n t
  | 0, t => by
    unfold alt
    show (if t = 0 then (1 : Int) else 0) = ((List.range 1).map _).sum
    rw [List.range_one]
    simp only [List.map_cons, List.map_nil, List.sum_cons, List.sum_nil]
    rw [cps_0, bin_0]
    simp [sgn]
  | n + 1, t => by
    have key : ∀ (k : Nat) (t : Int), t < k → bnd m (n + 1) t = alt m (n + 2) (n + 1) t := by
      intro k
      induction k with
      | zero => intro t h; rw [bnd_low m (by omega), alt_low m _ _ (by omega)]
      | succ k ih =>
        intro t h
        rw [bnd_step, alt_diff m n t (n + 1), ih (t - 1) (by omega), bnd_alt m n (t - 1), bnd_alt m n (t - 1 - m), alt_full m n (t - 1) (N := n + 1 + 1) (by omega)]
    exact key (t.toNat + 1) t (by omega)
/-- the program's sum -/
theorem bnd_sum (m n : Nat) (t : Int) (N : Nat) (h : ∀ j : Nat, N ≤ j → t - (j : Int) * m < n) : alt m N n t = bnd m n t := by
  rw [bnd_alt]
  have h1 := alt_more m n t N (n + 1) fun j hj => .inr (cps_low (h j hj))
  rw [← h1]
  exact alt_full m n t (by omega)
theorem sum_flip (f : Nat → Int) : ∀ m : Nat, ((List.range m).map f).sum = ((List.range m).map fun x => f (m - 1 - x)).sum := by
  intro m
  induction m generalizing f with
  | zero => rfl
  | succ m ih =>
    rw [List.range_succ_eq_map, List.map_cons, List.sum_cons, List.map_map, ← List.range_succ_eq_map, List.range_succ, List.map_append, sum_int_append]
    have := ih (fun x => f (x + 1))
    have e : ((List.range m).map fun x => f (m + 1 - 1 - x)) = ((List.range m).map fun x => f (m - 1 - x + 1)) := List.map_congr_left fun x hx => by
      have := List.mem_range.mp hx
      rw [show m + 1 - 1 - x = m - 1 - x + 1 by omega]
    rw [e, ← this]
    simp only [List.map_cons, List.map_nil, List.sum_cons, List.sum_nil]
    rw [show m + 1 - 1 - m = 0 by omega]
    show f 0 + ((List.range m).map (f ∘ Nat.succ)).sum = ((List.range m).map fun x => f (x + 1)).sum + (f 0 + 0)
    have e2 : (List.range m).map (f ∘ Nat.succ) = (List.range m).map fun x => f (x + 1) := rfl
    rw [e2]; omega
theorem bnd_flip (m : Nat) : ∀ (n : Nat) (t : Int), bnd m n t = bnd m n ((n : Int) * (m + 1) - t)
  | 0, t => by
    show (if t = 0 then (1 : Int) else 0) = if ((0 : Nat) : Int) * (m + 1) - t = 0 then 1 else 0
    by_cases c : t = 0
    · rw [if_pos c, if_pos (by omega)]
    · rw [if_neg c, if_neg (by omega)]
  | n + 1, t => by
    show ((List.range m).map fun (x : Nat) => bnd m n (t - ((x : Int) + 1))).sum = ((List.range m).map fun (x : Nat) => bnd m n (((n + 1 : Nat) : Int) * (m + 1) - t - ((x : Int) + 1))).sum
    rw [sum_flip]
    congr 1
    refine List.map_congr_left fun x hx => ?_
    have := List.mem_range.mp hx
    rw [bnd_flip m n (t - (((m - 1 - x : Nat) : Int) + 1))]
    congr 1
    push_cast
    rw [Int.add_mul, Int.one_mul]
    omega
theorem bnd_nonneg (m : Nat) : ∀ (n : Nat) (t : Int), 0 ≤ bnd m n t
  | 0, t => by show 0 ≤ (if t = 0 then (1 : Int) else 0); split <;> decide
  | n + 1, t => by
    have : ∀ xs : List Nat, 0 ≤ (xs.map fun (x : Nat) => bnd m n (t - ((x : Int) + 1))).sum := fun xs => by
      induction xs with
      | nil => exact Int.le_refl _
      | cons x r ih => rw [List.map_cons, List.sum_cons]; exact Int.add_nonneg (bnd_nonneg m n _) ih
    exact this _
theorem bnd_high (m : Nat) {n : Nat} {t : Int} (h : (n : Int) * m < t) : bnd m n t = 0 := by
  rw [bnd_flip]
  refine bnd_low m ?_
  rw [Int.mul_add, Int.mul_one]
  omega
theorem sum_pos_mem {α : Type} (f : α → Int) : ∀ (xs : List α) (x : α), x ∈ xs → (∀ y ∈ xs, 0 ≤ f y) → 0 < f x → 0 < (xs.map f).sum
  | y :: r, x, hx, h, hp => by
    have hr : 0 ≤ (r.map f).sum := by
      have : ∀ zs : List α, (∀ y ∈ zs, 0 ≤ f y) → 0 ≤ (zs.map f).sum := fun zs => by
        induction zs with
        | nil => intro _; exact Int.le_refl _
        | cons z s ih => intro g; rw [List.map_cons, List.sum_cons]; exact Int.add_nonneg (g z List.mem_cons_self) (ih fun w hw => g w (List.mem_cons_of_mem _ hw))
      exact this r fun w hw => h w (List.mem_cons_of_mem _ hw)
    have hy := h y List.mem_cons_self
    rw [List.map_cons, List.sum_cons]
    rcases List.mem_cons.mp hx with e | e
    · subst e; omega
    · have := sum_pos_mem f r x e (fun w hw => h w (List.mem_cons_of_mem _ hw)) hp
      omega
theorem bnd_pos {m : Nat} (hm : 1 ≤ m) : ∀ {n : Nat} {t : Int}, (n : Int) ≤ t → t ≤ (n : Int) * m → 0 < bnd m n t
  | 0, t, h1, h2 => by
    have : t = 0 := by rw [show ((0 : Nat) : Int) = 0 from rfl, Int.zero_mul] at h2; omega
    subst this
    exact Int.one_pos
  | n + 1, t, h1, h2 => by
    have nm : (n : Int) * 1 ≤ (n : Int) * m := Int.mul_le_mul_of_nonneg_left (by omega) (by omega)
    have e : ((n + 1 : Nat) : Int) * m = (n : Int) * m + m := by push_cast; rw [Int.add_mul, Int.one_mul]
    rw [e] at h2
    obtain ⟨x, hx, g1, g2⟩ : ∃ x : Nat, x < m ∧ (n : Int) ≤ t - ((x : Int) + 1) ∧ t - ((x : Int) + 1) ≤ (n : Int) * m := by
      by_cases c : t - 1 ≤ (n : Int) * m
      · exact ⟨0, by omega, by push_cast at h1 ⊢; omega, by push_cast; omega⟩
      · exact ⟨(t - (n : Int) * m - 1).toNat, by omega, by omega, by omega⟩
    exact sum_pos_mem (fun (x : Nat) => bnd m n (t - ((x : Int) + 1))) _ x (List.mem_range.mpr hx) (fun y _ => bnd_nonneg m n _) (bnd_pos hm g1 g2)
/-! Chains: places, their digits, and the numbers of ways. -/
/-- how many lists of n digits below m have the sum t, as the program counts -/
def lstN (n : Nat) (m t : Int) : Int := if t = 0 then 1 else if min t ((n : Int) * (m - 1) - t) < 0 then 0 else bnd m.toNat n (t + n)
theorem bnd_least {m : Nat} (hm : 1 ≤ m) : ∀ n : Nat, bnd m n n = 1
  | 0 => rfl
  | n + 1 => by
    show ((List.range m).map fun (x : Nat) => bnd m n ((n + 1 : Nat) - ((x : Int) + 1))).sum = 1
    obtain ⟨k, rfl⟩ : ∃ k, m = k + 1 := ⟨m - 1, by omega⟩
    have z := sum_zero ((fun (x : Nat) => bnd (k + 1) n ((n + 1 : Nat) - ((x : Int) + 1))) ∘ Nat.succ) (List.range k) (fun x _ => bnd_low _ (by show ((n + 1 : Nat) : Int) - (((x + 1 : Nat) : Int) + 1) < n; omega))
    rw [List.range_succ_eq_map, List.map_cons, List.sum_cons, List.map_map, z]
    have : ((n + 1 : Nat) : Int) - (((0 : Nat) : Int) + 1) = n := by omega
    rw [this, bnd_least hm n]
    rfl
theorem lstN_bnd {n : Nat} {m t : Int} (hm : 1 ≤ m) : lstN n m t = bnd m.toNat n (t + n) := by
  unfold lstN
  by_cases h0 : t = 0
  · rw [if_pos h0, h0, Int.zero_add, bnd_least (by omega)]
  · rw [if_neg h0]
    by_cases h : min t ((n : Int) * (m - 1) - t) < 0
    · rw [if_pos h]
      rw [Int.min_def] at h
      have e : (n : Int) * (m - 1) = n * m - n := by rw [Int.mul_sub, Int.mul_one]
      by_cases a : t < 0
      · exact (bnd_low _ (by omega)).symm
      · refine (bnd_high _ ?_).symm
        rw [show ((m.toNat : Nat) : Int) = m by omega]
        split at h <;> omega
    · rw [if_neg h]
theorem lstN_nonneg (n : Nat) (m t : Int) : 0 ≤ lstN n m t := by
  unfold lstN
  split
  · decide
  · split
    · exact Int.le_refl 0
    · exact bnd_nonneg _ _ _
theorem lstN_pos {n : Nat} {m t : Int} (hm : 1 ≤ m) : 0 < lstN n m t ↔ 0 ≤ t ∧ t ≤ (n : Int) * (m - 1) := by
  have e : (n : Int) * (m - 1) = n * m - n := by rw [Int.mul_sub, Int.mul_one]
  have em : ((m.toNat : Nat) : Int) = m := by omega
  rw [lstN_bnd hm, e]
  constructor
  · intro h
    constructor
    · rcases Int.lt_or_le t 0 with a | a
      · rw [bnd_low _ (by omega)] at h; omega
      · exact a
    · rcases Int.lt_or_le ((n : Int) * m - n) t with a | a
      · rw [bnd_high _ (by rw [em]; omega)] at h; omega
      · exact a
  · rintro ⟨a, b⟩
    exact bnd_pos (by omega) (by omega) (by rw [em]; omega)
/-- the last place has no limit -/
theorem lstN_last {n : Nat} {r : Int} : 0 < lstN n (r + 1) r ↔ r = 0 ∨ (0 < r ∧ 0 < n) := by
  rcases Int.lt_or_le r 0 with h | h
  · have : lstN n (r + 1) r = 0 := by
      unfold lstN
      rw [if_neg (by omega), if_pos (by rw [Int.min_def]; split <;> omega)]
    rw [this]
    constructor <;> intro h' <;> omega
  · rw [lstN_pos (by omega), show r + 1 - 1 = r by omega]
    constructor
    · rintro ⟨a, b⟩
      by_cases z : r = 0
      · exact .inl z
      · refine .inr ⟨by omega, ?_⟩
        rcases Nat.eq_zero_or_pos n with e | e
        · rw [e] at b; simp at b; omega
        · exact e
    · rintro (a | ⟨a, b⟩)
      · subst a; simp
      · refine ⟨h, ?_⟩
        have := Int.mul_le_mul_of_nonneg_right (show (1 : Int) ≤ n by omega) h
        omega
/-- the program's sum is the number of lists -/
theorem bnd_prog {n : Nat} {m t : Int} (hm : 2 ≤ m) (ht : 0 ≤ t) : ((List.range ((t / m).toNat + 1)).map fun (j : Nat) => sgn j * (bin (n + 1) j : Nat) * (bin (t - (j : Int) * m + n).toNat n : Nat)).sum = bnd m.toNat (n + 1) (t + (n + 1 : Nat)) := by
  have em : ((m.toNat : Nat) : Int) = m := by omega
  have q0 : 0 ≤ t / m := Int.ediv_nonneg ht (by omega)
  rw [← bnd_sum m.toNat (n + 1) (t + (n + 1 : Nat)) ((t / m).toNat + 1) fun j hj => by
    rw [em]
    have : t / m < (j : Int) := by omega
    have := (Int.ediv_lt_iff_lt_mul (show 0 < m by omega)).mp this
    omega]
  unfold alt
  congr 1
  refine List.map_congr_left fun j hj => ?_
  rw [List.mem_range] at hj
  have hjm : (j : Int) * m ≤ t := by
    have := (Int.le_ediv_iff_mul_le (show 0 < m by omega)).mp (show (j : Int) ≤ t / m by omega)
    exact this
  rw [em, cps_bin (by push_cast; omega)]
  congr 3
  push_cast
  omega
/-- the chain's sizes go up, each a multiple of the one before -/
def ChOk (b : Int) : List (Int × Int) → Prop
  | [] => True
  | p :: r => b < p.1 ∧ (0 < b → p.1 % b = 0) ∧ ChOk p.1 r
/-- the places of a chain -/
def plc (c : Int) : Int → Int → List (Int × Int) → List (Int × Int × Int)
  | size, rest, [] => [(size, rest + 1, rest)]
  | size, rest, p :: r => (size, p.1 / size, rest - p.1 / size * (p.2 - c)) :: plc c p.1 (p.2 - c) r
def ways (n : Nat) (ts : List (Int × Int × Int)) : Int := (ts.map fun t => lstN n t.2.1 t.2.2).foldl (· * ·) 1
/-- where the page counts contradict each other -/
def dueC (n : Nat) : Int → Int → List (Int × Int) → Int → Option (Int × Int)
  | _, _, [], _ => none
  | size, rest, p :: r, i => if p.2 - n < 0 ∨ ¬ (0 ≤ rest - p.1 / size * (p.2 - n) ∧ rest - p.1 / size * (p.2 - n) ≤ (n : Int) * (p.1 / size - 1)) then some (i - 1, i) else dueC n p.1 (p.2 - n) r (i + 1)
theorem fold_mul : ∀ (xs : List Int) (a : Int), xs.foldl (· * ·) a = a * xs.foldl (· * ·) 1
  | [], a => by show a = a * 1; omega
  | x :: xs, a => by
    show xs.foldl (· * ·) (a * x) = a * xs.foldl (· * ·) (1 * x)
    rw [fold_mul xs (a * x), fold_mul xs (1 * x), Int.one_mul, Int.mul_assoc]
theorem ways_cons (n : Nat) (t : Int × Int × Int) (ts : List (Int × Int × Int)) : ways n (t :: ts) = lstN n t.2.1 t.2.2 * ways n ts := by
  unfold ways
  rw [List.map_cons, List.foldl_cons, fold_mul, Int.one_mul]
theorem ways_nonneg (n : Nat) : ∀ ts, 0 ≤ ways n ts
  | [] => by show (0 : Int) ≤ 1; decide
  | t :: ts => by rw [ways_cons]; exact Int.mul_nonneg (lstN_nonneg _ _ _) (ways_nonneg n ts)
theorem mul_pos_iff {a b : Int} (ha : 0 ≤ a) (hb : 0 ≤ b) : 0 < a * b ↔ 0 < a ∧ 0 < b := by
  constructor
  · intro h
    constructor
    · rcases Int.lt_or_le 0 a with g | g
      · exact g
      · have : a = 0 := by omega
        rw [this, Int.zero_mul] at h; omega
    · rcases Int.lt_or_le 0 b with g | g
      · exact g
      · have : b = 0 := by omega
        rw [this, Int.mul_zero] at h; omega
  · rintro ⟨x, y⟩
    exact Int.mul_pos x y
/-- there are ways exactly if nothing contradicts -/
theorem ways_pos (n : Nat) : ∀ (ps : List (Int × Int)) (size rest i : Int), 1 ≤ size → ChOk size ps ∨ ps = [] ∨ (size = 1 ∧ ChOk 0 ps) → (rest = 0 ∨ 0 < rest ∧ 0 < n ∨ rest < 0) →
    (0 < ways n (plc n size rest ps) ↔ (rest = 0 ∨ (0 < rest ∧ 0 < n)) ∧ dueC n size rest ps i = none)
  | [], size, rest, i, _, _, _ => by
    rw [plc, ways_cons, dueC, show ways n [] = 1 from rfl, Int.mul_one]
    show 0 < lstN n (rest + 1) rest ↔ _
    rw [lstN_last]
    simp
  | p :: r, size, rest, i, hs, hc, hr => by
    have base1 : 1 ≤ p.1 / size := by
      have : size ≤ p.1 := by
        rcases hc with h | h | ⟨h1, h⟩
        · have := h.1; omega
        · cases h
        · have := h.1; omega
      exact (Int.le_ediv_iff_mul_le (by omega)).mpr (by omega)
    have hp1 : 1 ≤ p.1 := by
      rcases hc with h | h | ⟨h1, h⟩
      · have := h.1; omega
      · cases h
      · have := h.1; omega
    have hc' : ChOk p.1 r := by
      rcases hc with h | h | ⟨h1, h⟩
      · exact h.2.2
      · cases h
      · exact h.2.2
    rw [plc, ways_cons, mul_pos_iff (lstN_nonneg _ _ _) (ways_nonneg _ _)]
    show 0 < lstN n (p.1 / size) (rest - p.1 / size * (p.2 - n)) ∧ _ ↔ _
    rw [lstN_pos base1, dueC]
    generalize hq : p.1 / size = q at base1 ⊢
    generalize hm : p.2 - (n : Int) = more
    have qm : 0 < more → more ≤ q * more := fun h => by have := Int.mul_le_mul_of_nonneg_right base1 (show 0 ≤ more by omega); omega
    have qn : more < 0 → q * more ≤ more := fun h => by
      have := Int.mul_le_mul_of_nonneg_right base1 (show 0 ≤ -more by omega)
      have e2 : q * -more = -(q * more) := Int.mul_neg _ _
      omega
    have q0 : more = 0 → q * more = 0 := fun h => by rw [h, Int.mul_zero]
    have n0 : n = 0 → (n : Int) * (q - 1) = 0 := fun h => by rw [h]; simp
    have ih := ways_pos n r p.1 more (i + 1) hp1 (.inl hc')
    constructor
    · rintro ⟨⟨a, b⟩, w⟩
      have hmo : more = 0 ∨ 0 < more ∧ 0 < n ∨ more < 0 := by
        rcases Nat.eq_zero_or_pos n with z | z
        · have := n0 z
          rcases Int.lt_trichotomy more 0 with h | h | h
          · exact .inr (.inr h)
          · exact .inl h
          · have := qm h
            exfalso
            rcases hr with hr | hr | hr <;> omega
        · omega
      obtain ⟨w1, w2⟩ := (ih hmo).mp w
      refine ⟨?_, by rw [if_neg (by omega)]; exact w2⟩
      rcases hr with hr | hr | hr
      · exact .inl hr
      · exact .inr hr
      · exfalso
        rcases w1 with h | ⟨h, _⟩
        · have := q0 h; omega
        · have := qm h; omega
    · rintro ⟨a, b⟩
      split at b
      · cases b
      · rename_i h
        have h1 : 0 ≤ more := by omega
        have h2 : 0 ≤ rest - q * more ∧ rest - q * more ≤ (n : Int) * (q - 1) := by omega
        have hmo : more = 0 ∨ (0 < more ∧ 0 < n) := by
          rcases Int.lt_or_le 0 more with g | g
          · refine .inr ⟨g, ?_⟩
            rcases Nat.eq_zero_or_pos n with z | z
            · have := qm g; omega
            · exact z
          · exact .inl (by omega)
        exact ⟨h2, (ih (hmo.elim .inl fun h => .inr (.inl h))).mpr ⟨hmo, b⟩⟩
theorem chok_pos : ∀ {ps : List (Int × Int)} {b : Int}, ChOk b ps → 0 ≤ b → ∀ p ∈ ps, b < p.1
  | [], _, _, _, _, h => by cases h
  | p :: r, b, h, hb, q, hq => by
    rcases List.mem_cons.mp hq with e | e
    · rw [e]; exact h.1
    · have := chok_pos h.2.2 (by have := h.1; omega) q e
      have := h.1
      omega
def dueX (n : Nat) (l : Int) (ps : List (Int × Int)) : Option (Int × Int) := if l - n = 0 ∨ (0 < l - n ∧ 0 < n) then dueC n 1 (l - n) ps 0 else some (-1, -1)
theorem bnd_le (m : Nat) : ∀ (n : Nat) (t : Int), bnd m n t ≤ (m : Int) ^ n
  | 0, t => by
    show (if t = 0 then (1 : Int) else 0) ≤ 1
    split <;> omega
  | n + 1, t => by
    have ih := bnd_le m n
    have : ∀ (k : Nat), ((List.range k).map fun (x : Nat) => bnd m n (t - ((x : Int) + 1))).sum ≤ (k : Int) * (m : Int) ^ n := fun k => by
      induction k with
      | zero => simp
      | succ k i =>
        rw [List.range_succ, List.map_append, List.sum_append, List.map_singleton, List.sum_singleton]
        have := ih (t - ((k : Int) + 1))
        push_cast
        rw [Int.add_mul, Int.one_mul]
        omega
    have h := this m
    show _ ≤ (m : Int) ^ (n + 1)
    rw [Int.pow_succ, Int.mul_comm]
    exact h
theorem lstN_lt {n : Nat} {m t : Int} (hn : n ≤ 50) (hm : m < 2 ^ 200) : (lstN n m t).natAbs < 2 ^ 10001 := by
  have big : ∀ k : Nat, k ≤ 10000 → (2 : Nat) ^ k < 2 ^ 10001 := fun k h => Nat.pow_lt_pow_right (by decide) (by omega)
  unfold lstN
  split
  · exact Nat.lt_of_le_of_lt (show (1 : Int).natAbs ≤ 2 ^ 0 by decide) (big 0 (by omega))
  · split
    · exact Nat.lt_of_le_of_lt (show (0 : Int).natAbs ≤ 2 ^ 0 by decide) (big 0 (by omega))
    · have a := bnd_le m.toNat n (t + n)
      have b := bnd_nonneg m.toNat n (t + n)
      have c : m.toNat ^ n ≤ (2 ^ 200) ^ n := Nat.pow_le_pow_left (by omega) n
      rw [← Nat.pow_mul] at c
      have d := big (200 * n) (by omega)
      have e : (bnd m.toNat n (t + n)).natAbs ≤ m.toNat ^ n := by
        have : ((m.toNat : Nat) : Int) ^ n = ((m.toNat ^ n : Nat) : Int) := by push_cast; rfl
        rw [this] at a
        omega
      omega
theorem plc_len (c : Int) : ∀ (ps : List (Int × Int)) (size rest : Int), (plc c size rest ps).length = ps.length + 1
  | [], _, _ => rfl
  | p :: r, size, rest => by rw [plc, List.length_cons, plc_len c r, List.length_cons]
theorem ways_app (n : Nat) (t : Int × Int × Int) : ∀ ts, ways n (ts ++ [t]) = ways n ts * lstN n t.2.1 t.2.2
  | [] => by rw [List.nil_append, ways_cons, show ways n [] = 1 from rfl, Int.mul_one, Int.one_mul]
  | u :: ts => by rw [List.cons_append, ways_cons, ways_cons, ways_app n t ts, Int.mul_assoc]
theorem ways_take {n : Nat} {ts : List (Int × Int × Int)} {i : Nat} {t : Int × Int × Int} (h : ts[i]? = some t) : ways n (ts.take (i + 1)) = ways n (ts.take i) * lstN n t.2.1 t.2.2 := by
  rw [List.take_add_one, h]
  exact ways_app n t _
theorem ways_lt {n : Nat} (hn : n ≤ 50) : ∀ {ts : List (Int × Int × Int)}, (∀ t ∈ ts, t.2.1 < 2 ^ 200) → (ways n ts).natAbs < 2 ^ (10001 * ts.length + 1)
  | [], _ => by show (1 : Int).natAbs < 2 ^ 1; decide
  | t :: ts, h => by
    have ih := ways_lt hn (ts := ts) fun u hu => h u (List.mem_cons_of_mem _ hu)
    have a := lstN_lt (t := t.2.2) hn (h t List.mem_cons_self)
    rw [ways_cons, Int.natAbs_mul, List.length_cons, show 10001 * (ts.length + 1) + 1 = 10001 + (10001 * ts.length + 1) by omega, Nat.pow_add]
    exact Nat.mul_lt_mul'' a ih
theorem no_book {n : Nat} {rest q more : Int} (hq : 1 ≤ q) (h0 : n = 0 → rest = 0) (h1 : 0 ≤ rest - q * more) : ¬ (more = 0 ∨ (0 < more ∧ 0 < n)) ↔ more < 0 := by
  rcases Nat.eq_zero_or_pos n with z | z
  · have r0 := h0 z
    have : 0 < more → more ≤ q * more := fun h => by have := Int.mul_le_mul_of_nonneg_right hq (show 0 ≤ more by omega); omega
    omega
  · omega
theorem chok_drop : ∀ {ps : List (Int × Int)} {b : Int} {i : Nat} {p : Int × Int}, ChOk b ps → ps[i]? = some p → ChOk p.1 (ps.drop (i + 1))
  | [], _, i, _, _, h => by simp at h
  | q :: r, b, 0, p, c, h => by
    cases h
    exact c.2.2
  | q :: r, b, i + 1, p, c, h => chok_drop (i := i) c.2.2 h
/-- sizes that go up, each a multiple of the one before -/
def Up (b : Int) : List Int → Prop
  | [] => True
  | x :: r => b < x ∧ (0 < b → x % b = 0) ∧ Up x r
theorem up_app : ∀ {xs : List Int} {b y : Int}, Up b xs → (∀ x, (b :: xs).getLast? = some x → x < y ∧ (0 < x → y % x = 0)) → Up b (xs ++ [y])
  | [], b, y, _, h => by
    have := h b rfl
    exact ⟨this.1, this.2, trivial⟩
  | x :: r, b, y, u, h => ⟨u.1, u.2.1, up_app u.2.2 fun z hz => h z (by rw [List.getLast?_cons_cons]; exact hz)⟩
theorem chok_up : ∀ {ps : List (Int × Int)} {b : Int}, ChOk b ps ↔ Up b (ps.map (·.1))
  | [], _ => Iff.rfl
  | p :: r, b => by
    show _ ∧ _ ∧ _ ↔ _ ∧ _ ∧ _
    rw [chok_up (ps := r)]
theorem plc_bound (n : Nat) (hn : n ≤ 50) : ∀ {ps : List (Int × Int)} {size rest : Int}, (∀ p ∈ ps, 1 ≤ p.1 ∧ p.1 < 2 ^ 88 ∧ -(2 ^ 98) < p.2 ∧ p.2 < 2 ^ 98) → 1 ≤ size → -(2 ^ 100) < rest → rest < 2 ^ 100 → ∀ t ∈ plc n size rest ps, t.2.1 < 2 ^ 200 ∧ -(2 ^ 200) < t.2.1 ∧ t.2.2 < 2 ^ 200
  | [], size, rest, _, _, r0, r1, t, ht => by
    rw [plc, List.mem_singleton] at ht
    subst ht
    refine ⟨?_, ?_, ?_⟩
    · show rest + 1 < _; omega
    · show _ < rest + 1; omega
    · show rest < _; omega
  | p :: r, size, rest, h, hs, r0, r1, t, ht => by
    have hp := h p List.mem_cons_self
    rw [plc] at ht
    have q0 : 0 ≤ p.1 / size := Int.ediv_nonneg (by omega) (by omega)
    have q1 : p.1 / size ≤ p.1 := Int.ediv_le_self _ (by omega)
    rcases List.mem_cons.mp ht with e | e
    · subst e
      refine ⟨by show p.1 / size < _; omega, by show _ < p.1 / size; omega, ?_⟩
      show rest - p.1 / size * (p.2 - n) < _
      have m : (p.1 / size * (p.2 - n)).natAbs < 2 ^ 88 * 2 ^ 99 := by
        rw [Int.natAbs_mul]
        exact Nat.mul_lt_mul'' (by omega) (by omega)
      omega
    · exact plc_bound n hn (ps := r) (fun q hq => h q (List.mem_cons_of_mem _ hq)) (by omega) (by omega) (by omega) t e
theorem ways_none : ∀ (ps : List (Int × Int)) (size rest : Int), 1 ≤ size → ChOk size ps ∨ ps = [] ∨ (size = 1 ∧ ChOk 0 ps) → 0 < rest → ¬ 0 < ways 0 (plc ((0 : Nat) : Int) size rest ps)
  | [], size, rest, _, _, hr => by
    rw [plc, ways_cons, show ways 0 [] = 1 from rfl, Int.mul_one]
    show ¬ 0 < lstN 0 (rest + 1) rest
    rw [lstN_last]
    omega
  | p :: r, size, rest, hs, hc, hr => by
    have hp : size ≤ p.1 ∧ ChOk p.1 r := by
      rcases hc with h | h | ⟨h1, h⟩
      · have := h.1; exact ⟨by omega, h.2.2⟩
      · cases h
      · have := h.1; exact ⟨by omega, h.2.2⟩
    have base1 : 1 ≤ p.1 / size := (Int.le_ediv_iff_mul_le (by omega)).mpr (by omega)
    rw [plc, ways_cons, mul_pos_iff (lstN_nonneg _ _ _) (ways_nonneg _ _)]
    show ¬ (0 < lstN 0 (p.1 / size) (rest - p.1 / size * (p.2 - ((0 : Nat) : Int))) ∧ _)
    rw [lstN_pos base1]
    rintro ⟨⟨a, b⟩, w⟩
    have z0 : ((0 : Nat) : Int) * (p.1 / size - 1) = 0 := by simp
    rw [z0] at b
    refine ways_none r p.1 (p.2 - ((0 : Nat) : Int)) (by omega) (.inl hp.2) ?_ w
    generalize p.2 - ((0 : Nat) : Int) = more at a b ⊢
    rcases Int.lt_or_le 0 more with h | h
    · exact h
    · exfalso
      have := Int.mul_le_mul_of_nonneg_left h (show 0 ≤ p.1 / size by omega)
      rw [Int.mul_zero] at this
      omega
theorem ways_due {n : Nat} {l : Int} {ps : List (Int × Int)} (hl : 0 ≤ l) (hc : ChOk 0 ps) : 0 < ways n (plc n 1 (l - n) ps) ↔ dueX n l ps = none := by
  have h := ways_pos n ps 1 (l - n) 0 (Int.le_refl 1) (.inr (.inr ⟨rfl, hc⟩)) 
  unfold dueX
  by_cases z : l - n = 0 ∨ (0 < l - n ∧ 0 < n)
  · rw [if_pos z, h (z.elim .inl fun w => .inr (.inl w))]
    exact ⟨fun a => a.2, fun a => ⟨z, a⟩⟩
  · rw [if_neg z]
    constructor
    · intro w
      exfalso
      by_cases y : l - n < 0
      · exact z ((h (.inr (.inr y))).mp w).1
      · -- no chapter, but lines
        have n0 : n = 0 := by omega
        subst n0
        exact ways_none ps 1 (l - ((0 : Nat) : Int)) (Int.le_refl 1) (.inr (.inr ⟨rfl, hc⟩)) (by omega) w
    · intro w; cases w
theorem dueC_le (n : Nat) : ∀ {ps : List (Int × Int)} {size rest k i j : Int}, dueC n size rest ps k = some (i, j) → k - 1 ≤ i ∧ i ≤ k + ps.length ∧ k ≤ j ∧ j ≤ k + ps.length
  | [], _, _, _, _, _, h => by rw [dueC] at h; cases h
  | p :: r, size, rest, k, i, j, h => by
    rw [dueC] at h
    split at h
    · have h' := Option.some.inj h
      injection h' with a b
      rw [List.length_cons]
      push_cast
      omega
    · have := dueC_le n h
      rw [List.length_cons]
      push_cast
      omega
theorem dueX_le {n : Nat} {l i j : Int} {ps : List (Int × Int)} (h : dueX n l ps = some (i, j)) : -1 ≤ i ∧ i ≤ ps.length ∧ -1 ≤ j ∧ j ≤ ps.length := by
  unfold dueX at h
  split at h
  · have := dueC_le n h; omega
  · have h' := Option.some.inj h
    injection h' with a b
    omega
theorem set_id {α : Type} : ∀ {xs : List α} {i : Nat} {v : α}, xs[i]? = some v → xs.set i v = xs
  | [], _, _, h => by simp at h
  | x :: r, 0, v, h => by cases h; rfl
  | x :: r, i + 1, v, h => by
    show x :: r.set i v = x :: r
    rw [set_id (i := i) h]
theorem chok_set {ps : List (Int × Int)} {b z : Int} {i : Nat} {p : Int × Int} (h : ChOk b ps) (hp : ps[i]? = some p) : ChOk b (ps.set i (p.1, z)) := by
  rw [chok_up] at h ⊢
  rw [List.map_set]
  rw [set_id (by rw [List.getElem?_map, hp]; rfl)]
  exact h
/-! Page counts of one edition add up. -/
def Bq (m n : Nat) (s : Int) : Int := bnd m n (s + n)
def An (n : Nat) (f : Int) : Int := cps n (f + n)
theorem An_step (n : Nat) (f : Int) : An (n + 1) f = An (n + 1) (f - 1) + An n f := by
  unfold An
  have := cps_succ n (f + (n + 1 : Nat))
  rw [this]
  congr 2 <;> (push_cast; omega)
theorem Bq_step (m n : Nat) (s : Int) : Bq m (n + 1) s = Bq m (n + 1) (s - 1) + (Bq m n s - Bq m n (s - m)) := by
  unfold Bq
  have := bnd_step m n (s + (n + 1 : Nat))
  rw [this]
  rw [show s + ((n + 1 : Nat) : Int) - 1 = s - 1 + ((n + 1 : Nat) : Int) by omega, show s - 1 + ((n + 1 : Nat) : Int) - m = s - m + n by push_cast; omega, show bnd m n (s - 1 + ((n + 1 : Nat) : Int)) = bnd m n (s + n) by congr 1; push_cast; omega]
theorem An_neg {n : Nat} {f : Int} (h : f < 0) : An n f = 0 := cps_low (by omega)
theorem Bq_neg {m n : Nat} {s : Int} (h : s < 0) : Bq m n s = 0 := bnd_low m (by omega)
def FF (m N n : Nat) (r : Int) : Int := ((List.range N).map fun (f : Nat) => Bq m n (r - (f : Int) * m) * An n f).sum
theorem FF_succ (m N n : Nat) (r : Int) : FF m (N + 1) n r = FF m N n r + Bq m n (r - (N : Int) * m) * An n N := by
  unfold FF
  rw [List.range_succ, List.map_append, List.sum_append, List.map_singleton, List.sum_singleton]
theorem FF_diff (m n : Nat) (r : Int) : ∀ N : Nat, FF m N (n + 1) r - FF m N (n + 1) (r - 1) = FF m N n r - Bq m n (r - (N : Int) * m) * An (n + 1) ((N : Int) - 1)
  | 0 => by
    rw [An_neg (show ((0 : Nat) : Int) - 1 < 0 by decide), Int.mul_zero]
    rfl
  | N + 1 => by
    have ih := FF_diff m n r N
    rw [FF_succ, FF_succ, FF_succ]
    have b := Bq_step m n (r - (N : Int) * m)
    have a := An_step n (N : Int)
    rw [show r - 1 - (N : Int) * m = r - (N : Int) * m - 1 by omega, show ((N + 1 : Nat) : Int) - 1 = N by omega]
    have e : r - ((N + 1 : Nat) : Int) * m = r - (N : Int) * m - m := by push_cast; rw [Int.add_mul, Int.one_mul]; omega
    rw [e]
    generalize r - (N : Int) * m = x at *
    rw [b, Int.add_mul, Int.sub_mul]
    have c : Bq m n x * An (n + 1) N = Bq m n x * An (n + 1) ((N : Int) - 1) + Bq m n x * An n N := by rw [a, Int.mul_add]
    omega
theorem FF_all {m : Nat} (hm : 1 ≤ m) {N : Nat} : ∀ (n : Nat) (r : Int), r < (N : Int) * m → FF m N n r = An n r := by
  have neg : ∀ (n : Nat) (r : Int), r < 0 → FF m N n r = An n r := fun n r h => by
    rw [An_neg h]
    unfold FF
    refine sum_zero _ _ fun f _ => ?_
    have : 0 ≤ (f : Int) * m := Int.mul_nonneg (by omega) (by omega)
    rw [Bq_neg (by omega), Int.zero_mul]
  intro n
  induction n with
  | zero =>
    intro r h
    rcases Int.lt_or_le r 0 with g | g
    · exact neg 0 r g
    · have hN : 1 ≤ N := by
        rcases Nat.eq_zero_or_pos N with z | z
        · rw [z] at h; simp at h; omega
        · exact z
      obtain ⟨M, rfl⟩ : ∃ M, N = M + 1 := ⟨N - 1, by omega⟩
      unfold FF
      have z := sum_zero ((fun (f : Nat) => Bq m 0 (r - (f : Int) * m) * An 0 f) ∘ Nat.succ) (List.range M) (fun f _ => by
        show Bq m 0 (r - ((f + 1 : Nat) : Int) * m) * An 0 ((f + 1 : Nat) : Int) = 0
        have : An 0 ((f + 1 : Nat) : Int) = 0 := by
          unfold An
          rw [cps_0, if_neg (by omega)]
        rw [this, Int.mul_zero])
      rw [List.range_succ_eq_map, List.map_cons, List.sum_cons, List.map_map, z]
      show Bq m 0 (r - ((0 : Nat) : Int) * m) * An 0 ((0 : Nat) : Int) + 0 = An 0 r
      have a0 : An 0 ((0 : Nat) : Int) = 1 := rfl
      rw [a0, Int.mul_one, Int.add_zero, show r - ((0 : Nat) : Int) * m = r by simp]
      unfold Bq An
      rw [cps_0]
      rfl
  | succ n ih =>
    have key : ∀ k : Nat, ∀ r : Int, r = k → r < (N : Int) * m → FF m N (n + 1) r = An (n + 1) r := by
      intro k
      induction k with
      | zero =>
        intro r hr h
        have d := FF_diff m n r N
        rw [neg (n + 1) (r - 1) (by omega), An_neg (show r - 1 < 0 by omega), ih r h, Bq_neg (show r - (N : Int) * m < 0 by omega), Int.zero_mul] at d
        rw [An_step, An_neg (show r - 1 < 0 by omega)]
        omega
      | succ k ihk =>
        intro r hr h
        have d := FF_diff m n r N
        rw [ihk (r - 1) (by omega) (by omega), ih r h, Bq_neg (show r - (N : Int) * m < 0 by omega), Int.zero_mul] at d
        rw [An_step]
        omega
    intro r h
    rcases Int.lt_or_le r 0 with g | g
    · exact neg (n + 1) r g
    · exact key r.toNat r (by omega) h
/-- no limit is felt -/
theorem bnd_free {m n : Nat} {t : Int} (h : t - m < n) : bnd m n t = cps n t := by
  have e := bnd_sum m n t 1 fun j hj => by
    have : (m : Int) ≤ (j : Int) * m := by have := Int.mul_le_mul_of_nonneg_right (show (1 : Int) ≤ j by omega) (show (0 : Int) ≤ m by omega); omega
    omega
  rw [← e]
  unfold alt
  rw [show List.range 1 = [0] from rfl, List.map_singleton, List.sum_singleton, bin_0, show sgn 0 = 1 from rfl]
  simp
theorem lstN_free {n : Nat} {m f : Int} (hf : 0 ≤ f) (h : f < m) : lstN n m f = An n f := by
  rw [lstN_bnd (by omega)]
  exact bnd_free (by rw [show ((m.toNat : Nat) : Int) = m by omega]; omega)
theorem lstN_Bq {n : Nat} {m s : Int} (hm : 1 ≤ m) : lstN n m s = Bq m.toNat n s := lstN_bnd hm
theorem lstN_neg {n : Nat} {m s : Int} (h : s < 0) : lstN n m s = 0 := by
  unfold lstN
  rw [if_neg (by omega), if_pos (by rw [Int.min_def]; split <;> omega)]
theorem An_bin {n : Nat} {f : Int} (h : 0 ≤ f) : An (n + 1) f = (bin (f + n).toNat n : Nat) := by
  unfold An
  rw [cps_bin (by omega)]
  congr 2
  omega
/-- the places ahead of the last one, and where they end -/
def preW (n : Nat) : Int → Int → List (Int × Int) → Int
  | _, _, [] => 1
  | size, rest, p :: r => lstN n (p.1 / size) (rest - p.1 / size * (p.2 - n)) * preW n p.1 (p.2 - n) r
def endS (n : Nat) : Int → Int → List (Int × Int) → Int × Int
  | size, rest, [] => (size, rest)
  | _, _, p :: r => endS n p.1 (p.2 - n) r
theorem ways_end (n : Nat) : ∀ (ps : List (Int × Int)) (size rest : Int), ways n (plc n size rest ps) = preW n size rest ps * lstN n ((endS n size rest ps).2 + 1) (endS n size rest ps).2
  | [], size, rest => by rw [plc, ways_cons, preW, endS, show ways n [] = 1 from rfl, Int.mul_one, Int.one_mul]
  | p :: r, size, rest => by rw [plc, ways_cons, preW, endS, ways_end n r, Int.mul_assoc]
theorem ways_more (n : Nat) (p : Int × Int) : ∀ (ps : List (Int × Int)) (size rest : Int), ways n (plc n size rest (ps ++ [p])) = preW n size rest ps * (lstN n (p.1 / (endS n size rest ps).1) ((endS n size rest ps).2 - p.1 / (endS n size rest ps).1 * (p.2 - n)) * lstN n (p.2 - n + 1) (p.2 - n))
  | [], size, rest => by
    show ways n (plc n size rest [p]) = _
    rw [plc, plc, ways_cons, ways_cons, preW, endS, show ways n [] = 1 from rfl, Int.mul_one, Int.one_mul]
  | q :: r, size, rest => by
    show ways n (plc n size rest (q :: (r ++ [p]))) = _
    rw [plc, ways_cons, preW, endS, ways_more n p r, Int.mul_assoc]
theorem endS_app (n : Nat) (p : Int × Int) : ∀ (ps : List (Int × Int)) (size rest : Int), endS n size rest (ps ++ [p]) = (p.1, p.2 - n)
  | [], _, _ => rfl
  | q :: r, size, rest => by show endS n q.1 (q.2 - n) (r ++ [p]) = _; exact endS_app n p r _ _
/-- all page counts of one more edition -/
theorem ways_sum {n : Nat} {ps : List (Int × Int)} {w m l : Int} {N : Nat} (hm : 1 ≤ m) (he : w / (endS n 1 (l - n) ps).1 = m) (h0 : 0 ≤ (endS n 1 (l - n) ps).2) (hN : (endS n 1 (l - n) ps).2 < (N : Int) * m) :
    ((List.range N).map fun (f : Nat) => ways n (plc n 1 (l - n) (ps ++ [(w, (n : Int) + f)]))).sum = ways n (plc n 1 (l - n) ps) := by
  rw [ways_end]
  generalize hE : endS n 1 (l - n) ps = E at he h0 hN ⊢
  have e : ((List.range N).map fun (f : Nat) => ways n (plc n 1 (l - n) (ps ++ [(w, (n : Int) + f)]))) = (List.range N).map fun (f : Nat) => preW n 1 (l - n) ps * (Bq m.toNat n (E.2 - (f : Int) * m.toNat) * An n f) := List.map_congr_left fun f _ => by
    rw [ways_more, hE]
    show _ * (lstN n (w / E.1) (E.2 - w / E.1 * ((n : Int) + f - n)) * lstN n ((n : Int) + f - n + 1) ((n : Int) + f - n)) = _
    rw [he, show (n : Int) + f - n = f by omega, lstN_Bq hm, lstN_free (by omega) (by omega), show ((m.toNat : Nat) : Int) = m by omega, Int.mul_comm m f]
  have s : ∀ (c : Int) (g : Nat → Int) (xs : List Nat), (xs.map fun f => c * g f).sum = c * (xs.map g).sum := fun c g xs => by
    induction xs with
    | nil => simp
    | cons x r ih => rw [List.map_cons, List.sum_cons, List.map_cons, List.sum_cons, ih, Int.mul_add]
  rw [e, s (preW n 1 (l - n) ps) (fun (f : Nat) => Bq m.toNat n (E.2 - (f : Int) * m.toNat) * An n f) (List.range N)]
  congr 1
  have := FF_all (m := m.toNat) (by omega) (N := N) n E.2 (by rw [show ((m.toNat : Nat) : Int) = m by omega]; exact hN)
  unfold FF at this
  rw [this, lstN_free h0 (by omega)]
theorem binC_up (n k : Nat) (h : k ≤ n) : (k + 1) * HS.binC (n + 1) (k + 1) = (n + 1) * HS.binC n k := by
  show (k + 1) * (HS.binC n k + HS.binC n (k + 1)) = _
  rw [Nat.mul_add, HS.binC_next, ← Nat.add_mul]
  congr 1
  omega
theorem plc_bound2 (n : Nat) (hn : n ≤ 50) : ∀ {ps : List (Int × Int)} {size rest : Int}, (∀ p ∈ ps, 1 ≤ p.1 ∧ p.1 < 2 ^ 100 ∧ -(2 ^ 98) < p.2 ∧ p.2 < 2 ^ 98) → 1 ≤ size → -(2 ^ 100) < rest → rest < 2 ^ 100 → ∀ t ∈ plc n size rest ps, t.2.1 < 2 ^ 200 ∧ -(2 ^ 200) < t.2.1 ∧ t.2.2 < 2 ^ 200
  | [], size, rest, _, _, r0, r1, t, ht => by
    rw [plc, List.mem_singleton] at ht
    subst ht
    refine ⟨?_, ?_, ?_⟩
    · show rest + 1 < _; omega
    · show _ < rest + 1; omega
    · show rest < _; omega
  | p :: r, size, rest, h, hs, r0, r1, t, ht => by
    have hp := h p List.mem_cons_self
    rw [plc] at ht
    have q0 : 0 ≤ p.1 / size := Int.ediv_nonneg (by omega) (by omega)
    have q1 : p.1 / size ≤ p.1 := Int.ediv_le_self _ (by omega)
    rcases List.mem_cons.mp ht with e | e
    · subst e
      refine ⟨by show p.1 / size < _; omega, by show _ < p.1 / size; omega, ?_⟩
      show rest - p.1 / size * (p.2 - n) < _
      have m : (p.1 / size * (p.2 - n)).natAbs < 2 ^ 100 * 2 ^ 99 := by
        rw [Int.natAbs_mul]
        exact Nat.mul_lt_mul'' (by omega) (by omega)
      omega
    · exact plc_bound2 n hn (ps := r) (fun q hq => h q (List.mem_cons_of_mem _ hq)) (by omega) (by omega) (by omega) t e
theorem chok_app : ∀ {ps : List (Int × Int)} {b : Int} {p : Int × Int}, ChOk b ps → (∀ x, (b :: ps.map (·.1)).getLast? = some x → x < p.1 ∧ (0 < x → p.1 % x = 0)) → ChOk b (ps ++ [p]) := by
  intro ps b p h g
  rw [chok_up] at h ⊢
  rw [List.map_append]
  exact up_app h g
/-! The numbers of ways, digit place by digit place, as a law may count them. -/
theorem sum_parts {α : Type} (f g : α → Int) : ∀ xs : List α, (xs.map fun x => f x + g x).sum = (xs.map f).sum + (xs.map g).sum
  | [] => rfl
  | x :: r => by rw [List.map_cons, List.map_cons, List.map_cons, List.sum_cons, List.sum_cons, List.sum_cons, sum_parts f g r]; omega
theorem sum_hit (f : Int → Int) (c : Int) : ∀ L : Nat, ((List.range L).map fun (j : Nat) => if (j : Int) = c then f j else 0).sum = if 0 ≤ c ∧ c < L then f c else 0
  | 0 => by rw [if_neg (by omega)]; rfl
  | L + 1 => by
    rw [List.range_succ, List.map_append, List.sum_append, sum_hit f c L, List.map_singleton, List.sum_singleton]
    by_cases h : (L : Int) = c
    · rw [if_pos h, if_neg (by omega), if_pos (by omega), h]; omega
    · rw [if_neg h]
      by_cases h2 : 0 ≤ c ∧ c < L
      · rw [if_pos h2, if_pos (by omega)]; omega
      · rw [if_neg h2, if_neg (by omega)]; rfl
/-- what a row of sums holds at s behind i whole turns and d digits of the next one -/
def part (f : Int → Int) (m i d : Nat) (s : Nat) : Int := ((List.range i).map fun (j : Nat) => if (j : Int) ≤ s ∧ (s : Int) < j + m then f j else 0).sum + (if i ≤ s ∧ s < i + d then f i else 0)
theorem part_0 (f : Int → Int) (m s : Nat) : part f m 0 0 s = 0 := by
  unfold part
  rw [if_neg (by omega)]
  rfl
theorem part_up (f : Int → Int) (m i d s : Nat) : part f m i (d + 1) s = part f m i d s + if s = i + d then f i else 0 := by
  unfold part
  by_cases h : s = i + d
  · rw [if_pos h, if_pos (by omega), if_neg (by omega)]; omega
  · rw [if_neg h]
    by_cases h2 : i ≤ s ∧ s < i + d
    · rw [if_pos h2, if_pos (by omega)]; omega
    · rw [if_neg h2, if_neg (by omega)]; omega
theorem part_next (f : Int → Int) (m i s : Nat) : part f m i m s = part f m (i + 1) 0 s := by
  unfold part
  rw [List.range_succ, List.map_append, List.sum_append, List.map_singleton, List.sum_singleton, if_neg (show ¬ (i + 1 ≤ s ∧ s < i + 1 + 0) by omega), Int.add_zero]
  congr 1
  by_cases h : i ≤ s ∧ s < i + m
  · rw [if_pos h, if_pos (by omega)]
  · rw [if_neg h, if_neg (by omega)]
theorem part_all (f : Int → Int) (L s : Nat) (h0 : ∀ z : Int, z < 0 → f z = 0) (h1 : ∀ z : Int, (L : Int) ≤ z → f z = 0) : ∀ m : Nat, part f m L 0 s = ((List.range m).map fun (x : Nat) => f ((s : Int) - x)).sum
  | 0 => by
    unfold part
    rw [if_neg (by omega), Int.add_zero]
    exact sum_zero _ _ fun j _ => if_neg (by omega)
  | m + 1 => by
    have ih := part_all f L s h0 h1 m
    unfold part at ih ⊢
    rw [if_neg (show ¬ (L ≤ s ∧ s < L + 0) by omega), Int.add_zero] at ih ⊢
    rw [List.range_succ, List.map_append, List.sum_append, ← ih, List.map_singleton, List.sum_singleton]
    have e : ∀ j : Nat, (if (j : Int) ≤ s ∧ (s : Int) < j + (m + 1 : Nat) then f j else 0) = (if (j : Int) ≤ s ∧ (s : Int) < j + m then f j else 0) + (if (j : Int) = (s : Int) - m then f j else 0) := fun j => by
      by_cases a : (j : Int) = (s : Int) - m
      · rw [if_pos a, if_neg (show ¬ ((j : Int) ≤ s ∧ (s : Int) < j + m) by omega), if_pos (show (j : Int) ≤ s ∧ (s : Int) < j + (m + 1 : Nat) by push_cast; omega)]; omega
      · rw [if_neg a]
        by_cases b : (j : Int) ≤ s ∧ (s : Int) < j + m
        · rw [if_pos b, if_pos (show (j : Int) ≤ s ∧ (s : Int) < j + (m + 1 : Nat) by push_cast; omega)]; omega
        · rw [if_neg b, if_neg (show ¬ ((j : Int) ≤ s ∧ (s : Int) < j + (m + 1 : Nat)) by push_cast; omega)]; rfl
    rw [show (fun (j : Nat) => if (j : Int) ≤ s ∧ (s : Int) < j + (m + 1 : Nat) then f j else 0) = fun (j : Nat) => (if (j : Int) ≤ s ∧ (s : Int) < j + m then f j else 0) + (if (j : Int) = (s : Int) - m then f j else 0) from funext e, sum_parts, sum_hit]
    congr 1
    by_cases b : 0 ≤ (s : Int) - m ∧ (s : Int) - m < L
    · rw [if_pos b]
    · rw [if_neg b]
      by_cases c : (s : Int) - m < 0
      · rw [h0 _ c]
      · rw [h1 _ (by omega)]
/-- the numbers of lists of n digits below m, sum by sum -/
def rowW (m n : Nat) : List Int := (List.range (n * (m - 1) + 1)).map fun (s : Nat) => Bq m n s
theorem Bq_high {m n : Nat} {s : Int} (hm : 1 ≤ m) (h : ((n * (m - 1) + 1 : Nat) : Int) ≤ s) : Bq m n s = 0 := by
  refine bnd_high m ?_
  have e : ((n * (m - 1) : Nat) : Int) + n = (n : Int) * m := by
    obtain ⟨k, rfl⟩ : ∃ k, m = k + 1 := ⟨m - 1, by omega⟩
    rw [Nat.add_sub_cancel]; push_cast; rw [Int.mul_add, Int.mul_one]
  push_cast at h
  push_cast at e
  omega
theorem rowW_up {m n s : Nat} (hm : 1 ≤ m) : part (fun z => Bq m n z) m (n * (m - 1) + 1) 0 s = Bq m (n + 1) s := by
  rw [part_all (fun z => Bq m n z) _ s (fun z h => Bq_neg h) (fun z h => Bq_high hm h)]
  unfold Bq
  show _ = ((List.range m).map fun (x : Nat) => bnd m n ((s : Int) + (n + 1 : Nat) - ((x : Int) + 1))).sum
  congr 1
  refine List.map_congr_left fun x _ => ?_
  congr 1
  push_cast
  omega
theorem rowW_len (m n : Nat) : (rowW m n).length = n * (m - 1) + 1 := by unfold rowW; rw [List.length_map, List.length_range]
theorem rowW_0 (m : Nat) : rowW m 0 = [1] := by
  unfold rowW
  rw [Nat.zero_mul]
  rfl
theorem rowW_at {m n s : Nat} (h : s < n * (m - 1) + 1) : (rowW m n)[s]? = some (Bq m n s) := by
  unfold rowW
  rw [List.getElem?_map, List.getElem?_range h]
  rfl
theorem rowW_lst {n : Nat} {m t : Int} (hm : 1 ≤ m) (h0 : 0 ≤ t) (h1 : t ≤ (n : Int) * (m - 1)) : (rowW m.toNat n)[t.toNat]? = some (lstN n m t) := by
  have e : ((n * (m.toNat - 1) : Nat) : Int) = (n : Int) * (m - 1) := by
    push_cast
    congr 1
    omega
  rw [rowW_at (by omega), lstN_bnd hm]
  unfold Bq
  rw [show ((t.toNat : Nat) : Int) = t by omega]
/-- behind k whole turns and the spots below i of the next one -/
def rowA (k i T : Nat) : List Int := (List.range (T + 1)).map fun (s : Nat) => if s < i then An (k + 1) s else An k s
theorem An_0 (k : Nat) : An k 0 = 1 := by
  induction k with
  | zero => rfl
  | succ k ih => rw [An_step, An_neg (by decide), ih]; rfl
theorem An_00 {s : Nat} (h : 1 ≤ s) : An 0 s = 0 := by
  unfold An
  rw [cps_0, if_neg (by omega)]
theorem rowA_len (k i T : Nat) : (rowA k i T).length = T + 1 := by unfold rowA; rw [List.length_map, List.length_range]
theorem rowA_at {k i T s : Nat} (h : s ≤ T) : (rowA k i T)[s]? = some (if s < i then An (k + 1) s else An k s) := by
  unfold rowA
  rw [List.getElem?_map, List.getElem?_range (by omega)]
  rfl
theorem rowA_up {k i T : Nat} (h1 : 1 ≤ i) (hT : i ≤ T) : (rowA k i T).set i (An k i + An (k + 1) ((i : Int) - 1)) = rowA k (i + 1) T := by
  apply List.ext_getElem?
  intro s
  rw [List.getElem?_set, rowA_len]
  by_cases hs : s ≤ T
  · rw [rowA_at hs, rowA_at hs]
    by_cases e : i = s
    · subst e
      rw [if_pos rfl, if_pos (by omega), if_pos (by omega), An_step k (i : Int), Int.add_comm]
    · rw [if_neg e]
      by_cases l : s < i
      · rw [if_pos l, if_pos (by omega)]
      · rw [if_neg l, if_neg (by omega)]
  · rw [if_neg (by omega)]
    unfold rowA
    rw [List.getElem?_eq_none (by rw [List.length_map, List.length_range]; omega), List.getElem?_eq_none (by rw [List.length_map, List.length_range]; omega)]
theorem rowA_next (k T : Nat) : rowA k (T + 1) T = rowA (k + 1) 1 T := by
  unfold rowA
  refine List.map_congr_left fun s hs => ?_
  have := List.mem_range.mp hs
  rw [if_pos (by omega)]
  by_cases h : s < 1
  · rw [if_pos h, show s = 0 by omega]
    show An (k + 1) 0 = An (k + 1 + 1) 0
    rw [An_0, An_0]
  · rw [if_neg h]
theorem rowA_0 (T : Nat) : rowA 0 1 T = 1 :: List.replicate T 0 := by
  unfold rowA
  rw [List.range_succ_eq_map, List.map_cons, List.map_map]
  congr 1
  apply List.ext_getElem?
  intro s
  rw [List.getElem?_replicate, List.getElem?_map]
  by_cases h : s < T
  · rw [if_pos h, List.getElem?_range h]
    show some (if s + 1 < 1 then An 1 ((s + 1 : Nat) : Int) else An 0 ((s + 1 : Nat) : Int)) = _
    rw [if_neg (by omega), An_00 (by omega)]
  · rw [if_neg h, List.getElem?_eq_none (by rw [List.length_range]; omega)]
    rfl
/-- the product over the places: what is left of the lengths, the unit, the sizes -/
def dueV (n : Nat) : List Int → Int → List Int → Int
  | left, _, [] => lstN n (left.sum + 1) left.sum
  | left, u, w :: r => lstN n (w / u) (left.map (· % (w / u))).sum * dueV n (left.map (· / (w / u))) w r
theorem sum_mods (m : Int) : ∀ left : List Int, left.sum - m * (left.map (· / m)).sum = (left.map (· % m)).sum
  | [] => by simp
  | x :: r => by
    rw [List.map_cons, List.map_cons, List.sum_cons, List.sum_cons, List.sum_cons, ← sum_mods m r, Int.mul_add, Int.emod_def]
    omega
theorem mods_le {m : Int} (hm : 1 ≤ m) : ∀ left : List Int, 0 ≤ (left.map (· % m)).sum ∧ (left.map (· % m)).sum ≤ (left.length : Int) * (m - 1)
  | [] => by simp
  | x :: r => by
    have ih := mods_le hm r
    have h0 := Int.emod_nonneg x (show m ≠ 0 by omega)
    have h1 := Int.emod_lt_of_pos x (show 0 < m by omega)
    rw [List.map_cons, List.sum_cons, List.length_cons]
    push_cast
    rw [Int.add_mul, Int.one_mul]
    omega
/-- the lengths less 1, divided -/
def lessQ (ls : List Int) (u : Int) : List Int := ls.map fun x => (x - 1) / u
theorem lessQ_len (ls : List Int) (u : Int) : (lessQ ls u).length = ls.length := List.length_map _
theorem lessQ_nonneg {ls : List Int} {u : Int} (h : ∀ x ∈ ls, 1 ≤ x) (hu : 1 ≤ u) : ∀ y ∈ lessQ ls u, 0 ≤ y := fun y hy => by
  obtain ⟨x, hx, rfl⟩ := List.mem_map.mp hy
  exact Int.ediv_nonneg (by have := h x hx; omega) (by omega)
theorem lessQ_div {ls : List Int} {u w : Int} (hu : 1 ≤ u) (h : w % u = 0) : (lessQ ls u).map (· / (w / u)) = lessQ ls w := by
  unfold lessQ
  rw [List.map_map]
  refine List.map_congr_left fun x _ => ?_
  show (x - 1) / u / (w / u) = (x - 1) / w
  rw [Int.ediv_ediv_of_nonneg (by omega), Int.mul_ediv_cancel' (Int.dvd_of_emod_eq_zero h)]
theorem lessQ_count {ls : List Int} {w : Int} (hw : 1 ≤ w) : pcount ls w - ls.length = (lessQ ls w).sum := by
  induction ls with
  | nil => rfl
  | cons x r ih =>
    unfold lessQ at ih ⊢
    rw [pcount_cons, List.map_cons, List.sum_cons, ← ih, List.length_cons, show x + w - 1 = (x - 1) + w * 1 by omega, Int.add_mul_ediv_left _ _ (by omega)]
    push_cast
    omega
/-- the sizes go on from u -/
def Ups (u : Int) (xs : List Int) : Prop := Up u xs ∨ (u = 1 ∧ Up 0 xs)
theorem Ups.head {u w : Int} {r : List Int} (h : Ups u (w :: r)) (hu : 1 ≤ u) : u ≤ w ∧ w % u = 0 ∧ Ups w r := by
  rcases h with h | ⟨rfl, h⟩
  · have h' : u < w ∧ (0 < u → w % u = 0) ∧ Up w r := h
    exact ⟨by omega, h'.2.1 (by omega), .inl h'.2.2⟩
  · have h' : 0 < w ∧ ((0 : Int) < 0 → w % 0 = 0) ∧ Up w r := h
    exact ⟨by omega, Int.emod_one w, .inl h'.2.2⟩
theorem dueV_ways {ls : List Int} (hL : ∀ x ∈ ls, 1 ≤ x) : ∀ (xs : List Int) (u : Int), 1 ≤ u → Ups u xs → ways ls.length (plc ls.length u (lessQ ls u).sum (xs.map fun w => (w, pcount ls w))) = dueV ls.length (lessQ ls u) u xs
  | [], u, _, _ => by
    rw [List.map_nil, plc, ways_cons, dueV]
    exact Int.mul_one _
  | w :: r, u, hu, h => by
    obtain ⟨h1, h2, h3⟩ := h.head hu
    rw [List.map_cons, plc, ways_cons, dueV]
    show lstN _ (w / u) ((lessQ ls u).sum - w / u * (pcount ls w - ls.length)) * ways _ (plc _ w (pcount ls w - ls.length) _) = _
    rw [lessQ_count (by omega), dueV_ways hL r w (by omega) h3, lessQ_div hu h2, ← sum_mods, lessQ_div hu h2]
theorem quot_pos {u w : Int} (hu : 1 ≤ u) (h : u ≤ w) : 1 ≤ w / u := (Int.le_ediv_iff_mul_le (by omega)).mpr (by omega)
theorem dueV_pos {ls : List Int} (hL : ∀ x ∈ ls, 1 ≤ x) : ∀ (xs : List Int) (u : Int), 1 ≤ u → Ups u xs → 0 < dueV ls.length (lessQ ls u) u xs
  | [], u, hu, _ => by
    rw [dueV, lstN_last]
    have nn := lessQ_nonneg hL hu
    have s0 : 0 ≤ (lessQ ls u).sum := by
      generalize lessQ ls u = ys at nn
      induction ys with
      | nil => exact Int.le_refl 0
      | cons y t ih => rw [List.sum_cons]; have := nn y List.mem_cons_self; have := ih fun z hz => nn z (List.mem_cons_of_mem _ hz); omega
    cases ls with
    | nil => exact .inl rfl
    | cons a t =>
      rcases Int.lt_or_le 0 (lessQ (a :: t) u).sum with h | h
      · exact .inr ⟨h, by simp⟩
      · exact .inl (by omega)
  | w :: r, u, hu, h => by
    obtain ⟨h1, h2, h3⟩ := h.head hu
    rw [dueV, lessQ_div hu h2]
    have q := quot_pos hu h1
    have b := mods_le q (lessQ ls u)
    rw [lessQ_len] at b
    exact Int.mul_pos ((lstN_pos q).mpr b) (dueV_pos hL r w (by omega) h3)
theorem lstN_le {n : Nat} {m t : Int} (hm : 1 ≤ m) : lstN n m t ≤ m ^ n := by
  rw [lstN_bnd hm]
  have := bnd_le m.toNat n (t + n)
  rwa [show ((m.toNat : Nat) : Int) = m by omega] at this
theorem dueV_le {ls : List Int} (hL : ∀ x ∈ ls, 1 ≤ x) : ∀ (xs : List Int) (u W : Int), 1 ≤ u → Ups u xs → (u :: xs).getLast? = some W → dueV ls.length (lessQ ls u) u xs * u ^ ls.length ≤ W ^ ls.length * ((lessQ ls W).sum + 1) ^ ls.length
  | [], u, W, hu, _, e => by
    obtain rfl : u = W := Option.some.inj e
    rw [dueV, Int.mul_comm]
    refine Int.mul_le_mul_of_nonneg_left (lstN_le ?_) (Int.pow_nonneg (by omega))
    have nn := lessQ_nonneg hL hu
    generalize lessQ ls u = ys at nn
    have : ∀ zs : List Int, (∀ z ∈ zs, 0 ≤ z) → 0 ≤ zs.sum := fun zs => by
      induction zs with
      | nil => intro _; exact Int.le_refl 0
      | cons y t ih => intro h; rw [List.sum_cons]; have := h y List.mem_cons_self; have := ih fun z hz => h z (List.mem_cons_of_mem _ hz); omega
    have := this ys nn
    omega
  | w :: r, u, W, hu, h, e => by
    obtain ⟨h1, h2, h3⟩ := h.head hu
    have q := quot_pos hu h1
    have ih := dueV_le hL r w W (by omega) h3 (by rw [List.getLast?_cons_cons] at e; exact e)
    refine Int.le_trans ?_ ih
    have p := dueV_pos hL r w (by omega) h3
    rw [dueV, lessQ_div hu h2]
    have ew : w = w / u * u := by rw [Int.mul_comm]; exact (Int.mul_ediv_cancel' (Int.dvd_of_emod_eq_zero h2)).symm
    have l := lstN_le (n := ls.length) (t := ((lessQ ls u).map (· % (w / u))).sum) q
    generalize dueV ls.length (lessQ ls w) w r = D at p ⊢
    have e2 : w ^ ls.length = (w / u) ^ ls.length * u ^ ls.length := by
      conv => lhs; rw [ew]
      exact Int.mul_pow ..
    rw [e2]
    have u0 : 0 ≤ u ^ ls.length := Int.pow_nonneg (by omega)
    generalize lstN ls.length (w / u) ((lessQ ls u).map (· % (w / u))).sum = Z at l ⊢
    generalize (w / u) ^ ls.length = Y at l ⊢
    generalize u ^ ls.length = U at u0 ⊢
    have : Z * D ≤ Y * D := Int.mul_le_mul_of_nonneg_right l (by omega)
    calc Z * D * U ≤ Y * D * U := Int.mul_le_mul_of_nonneg_right this u0
      _ = D * (Y * U) := by rw [Int.mul_comm Y D, Int.mul_assoc]
theorem part_set {f : Int → Int} {m i d L : Nat} (h : i + d < L) : (((List.range L).map (part f m i d)).map V.int).set (i + d) (.int (part f m i d (i + d) + f i)) = ((List.range L).map (part f m i (d + 1))).map V.int := by
  rw [← List.map_set]
  congr 1
  apply List.ext_getElem?
  intro s
  rw [List.getElem?_set, List.length_map, List.length_range, List.getElem?_map, List.getElem?_map]
  by_cases hs : s < L
  · rw [List.getElem?_range hs]
    show _ = some (part f m i (d + 1) s)
    rw [part_up]
    by_cases e : i + d = s
    · subst e
      rw [if_pos rfl, if_pos h, if_pos rfl]
    · rw [if_neg e, if_neg (fun z => e z.symm), Int.add_zero]
      rfl
  · rw [if_neg (by omega), List.getElem?_eq_none (by rw [List.length_range]; omega)]
    rfl
theorem part_get {f : Int → Int} {m i d L s : Nat} (h : s < L) : ((List.range L).map (part f m i d))[s]? = some (part f m i d s) := by
  rw [List.getElem?_map, List.getElem?_range h]
  rfl
theorem part_row {m n : Nat} (hm : 1 ≤ m) : (List.range ((n + 1) * (m - 1) + 1)).map (part (fun z => Bq m n z) m (n * (m - 1) + 1) 0) = rowW m (n + 1) :=
  List.map_congr_left fun s _ => rowW_up hm
theorem part_new (f : Int → Int) (m L : Nat) : List.replicate L (V.int 0) = ((List.range L).map (part f m 0 0)).map V.int := by
  rw [List.map_map]
  apply List.ext_getElem?
  intro s
  rw [List.getElem?_replicate, List.getElem?_map]
  by_cases hs : s < L
  · rw [if_pos hs, List.getElem?_range hs]
    show _ = some (V.int (part f m 0 0 s))
    rw [part_0]
  · rw [if_neg hs, List.getElem?_eq_none (by rw [List.length_range]; omega)]
    rfl
theorem pow_le_up {a b : Int} (h0 : 0 ≤ a) (h : a ≤ b) : ∀ n : Nat, a ^ n ≤ b ^ n
  | 0 => by rw [Int.pow_zero, Int.pow_zero]; exact Int.le_refl 1
  | n + 1 => by
    rw [Int.pow_succ, Int.pow_succ]
    exact Int.mul_le_mul (pow_le_up h0 h n) h h0 (Int.pow_nonneg (Int.le_trans h0 h))
theorem due_log {ls xs : List Int} {V0 : Int} (hL : ∀ x ∈ ls, 1 ≤ x) (hU : Up 0 xs) (hV : ((1 : Int) :: xs).getLast? = some V0) (h0 : 1 ≤ V0) (h1 : V0 < 2 ^ 88) (hS0 : 0 ≤ (lessQ ls V0).sum) (hS : (lessQ ls V0).sum ≤ 1000) (hn : ls.length ≤ 50) :
    (dueV ls.length (lessQ ls 1) 1 xs).natAbs.log2 < 12900 := by
  have le := dueV_le hL xs 1 V0 (by decide) (.inr ⟨rfl, hU⟩) hV
  have pos := dueV_pos hL xs 1 (by decide) (.inr ⟨rfl, hU⟩)
  rw [Int.one_pow, Int.mul_one] at le
  generalize dueV ls.length (lessQ ls 1) 1 xs = D at le pos ⊢
  have a1 := pow_le_up (show 0 ≤ V0 by omega) (show V0 ≤ 2 ^ 88 by omega) ls.length
  have a2 := pow_le_up (show 0 ≤ (lessQ ls V0).sum + 1 by omega) (show (lessQ ls V0).sum + 1 ≤ 2 ^ 11 by omega) ls.length
  have a3 : V0 ^ ls.length * ((lessQ ls V0).sum + 1) ^ ls.length ≤ (2 ^ 88) ^ ls.length * (2 ^ 11) ^ ls.length := Int.mul_le_mul a1 a2 (Int.pow_nonneg (by omega)) (Int.pow_nonneg (by decide))
  rw [show ((2 : Int) ^ 88) ^ ls.length * (2 ^ 11) ^ ls.length = 2 ^ ((88 + 11) * ls.length) by rw [← Int.pow_mul, ← Int.pow_mul, ← Int.pow_add, ← Nat.add_mul]] at a3
  have a4 : (2 : Nat) ^ (99 * ls.length) ≤ 2 ^ 4950 := Nat.pow_le_pow_right (by decide) (by omega)
  have a5 : (2 : Nat) ^ 4950 < 2 ^ 12900 := Nat.pow_lt_pow_right (by decide) (by decide)
  have a6 : ((2 : Int) ^ (99 * ls.length)) = (((2 : Nat) ^ (99 * ls.length) : Nat) : Int) := by push_cast; rfl
  have a7 : (2 : Int) ^ ((88 + 11) * ls.length) = 2 ^ (99 * ls.length) := rfl
  rw [a7, a6] at a3
  refine (Nat.log2_lt (by omega)).mpr ?_
  omega
theorem lessQ_small {ls : List Int} {u c : Int} (h : ∀ x ∈ ls, 1 ≤ x ∧ x - 1 < (c + 1) * u) (hu : 1 ≤ u) (hc : 0 ≤ c) : 0 ≤ (lessQ ls u).sum ∧ (lessQ ls u).sum ≤ (ls.length : Int) * c := by
  induction ls with
  | nil => simp [lessQ]
  | cons x r ih =>
    have ih := ih fun y hy => h y (List.mem_cons_of_mem _ hy)
    have hx := h x List.mem_cons_self
    unfold lessQ at ih ⊢
    rw [List.map_cons, List.sum_cons, List.length_cons]
    have q0 : 0 ≤ (x - 1) / u := Int.ediv_nonneg (by omega) (by omega)
    have q1 : (x - 1) / u < c + 1 := Int.ediv_lt_of_lt_mul (by omega) hx.2
    push_cast
    rw [Int.add_mul, Int.one_mul]
    omega
theorem lessQ_all (ls : List Int) : (lessQ ls 1).sum = ls.sum - ls.length := by
  induction ls with
  | nil => rfl
  | cons x r ih =>
    unfold lessQ at ih ⊢
    rw [List.map_cons, List.sum_cons, ih, Int.ediv_one, List.sum_cons, List.length_cons]
    push_cast
    omega
theorem last_or {xs : List Int} (h : ∀ x ∈ xs, 1 ≤ x ∧ x < 2 ^ 88) : ∃ V0 w : Int, ((1 : Int) :: xs).getLast? = some V0 ∧ 1 ≤ V0 ∧ V0 < 2 ^ 88 ∧ 1 ≤ w ∧ w ≤ 3 * V0 ∧ atI (xs.map V.int ++ [V.int 3]) (-1 - (if (!decide (xs = [])) = true then 1 else 0)) = some (.int w) := by
  rcases List.eq_nil_or_concat xs with e | ⟨ys, y, e⟩
  · subst e
    exact ⟨1, 3, rfl, by decide, by decide, by decide, by decide, rfl⟩
  · rw [List.concat_eq_append] at e
    subst e
    have hy := h y (List.mem_append_right _ List.mem_cons_self)
    refine ⟨y, y, by rw [show (1 : Int) :: (ys ++ [y]) = (1 :: ys) ++ [y] from rfl, List.getLast?_concat], hy.1, hy.2, hy.1, by omega, ?_⟩
    rw [if_pos (by simp)]
    unfold atI ixN
    rw [List.length_append, List.length_map, List.length_append, List.length_singleton, List.length_singleton, if_neg (by decide), if_pos (by push_cast; omega)]
    show ((ys ++ [y]).map V.int ++ [V.int 3])[_]? = _
    rw [List.getElem?_append_left (by rw [List.length_map, List.length_append, List.length_singleton]; omega), List.getElem?_map, show ((-1 - 1 : Int) + ((ys.length + 1 + 1 : Nat) : Int)).toNat = ys.length by push_cast; omega, List.getElem?_append_right (Nat.le_refl _), Nat.sub_self]
    rfl
/-- each size is at most twenty times the one ahead -/
def Rat : Int → List Int → Prop
  | _, [] => True
  | u, w :: r => w ≤ 20 * u ∧ Rat w r
theorem rat_app : ∀ {xs : List Int} {u y : Int}, Rat u xs → (∀ x, (u :: xs).getLast? = some x → y ≤ 20 * x) → Rat u (xs ++ [y])
  | [], u, y, _, h => ⟨h u rfl, trivial⟩
  | x :: r, u, y, h, g => ⟨h.1, rat_app h.2 fun z e => g z (by rw [List.getLast?_cons_cons]; exact e)⟩
theorem neSy {x : Str} {H : Hp} {Q : VK} (q : Q (.bl false) H) : rNe (.str x) (.str x) H Q := ⟨rfl, by rw [decide_eq_true rfl]; exact q⟩
theorem ixN_nat {n j : Nat} (h : j < n) : ixN n (j : Int) = some j := by
  unfold ixN
  rw [if_pos (Int.natCast_nonneg j), if_pos (by omega)]
  rfl
theorem ways_same (n : Nat) : ∀ (xs : List Int) (u : Int), ways n (plc n u 0 (xs.map fun w => (w, (n : Int)))) = 1
  | [], u => by
    rw [List.map_nil, plc, ways_cons]
    rfl
  | w :: r, u => by
    rw [List.map_cons, plc, ways_cons]
    show lstN n (w / u) (0 - w / u * ((n : Int) - n)) * ways n (plc n w ((n : Int) - n) _) = 1
    rw [Int.sub_self, Int.mul_zero, Int.sub_self, ways_same n r w]
    rfl
end WK17
namespace WK17
open PySem PySem.Spec PyProof.Rows L2
local macro_rules | `(tactic| walk_at "ne") => `(tactic| first | assumption | (apply Ne.symm; assumption) | exact ne_of_none (by assumption) (by assumption) | exact (ne_of_none (by assumption) (by assumption)).symm | exact ne_of_none upd_same (by assumption) | exact (ne_of_none upd_same (by assumption)).symm)
local macro_rules | `(tactic| walk_at "hp") => `(tactic| first | assumption | exact upd_same | (rw [upd_ne (by walk_at "ne")]; walk_at "hp"))
local macro_rules | `(tactic| walk_at "side") => `(tactic| first | omega | decide | assumption | exact ⟨by decide, by decide⟩ | exact ⟨by omega, by omega⟩ | exact .inl (by omega) | exact .inr (by omega) | exact .inl (by decide) | exact .inr (by decide) | exact ⟨by decide, by decide, by decide⟩ | exact ⟨by decide, by decide, by omega⟩ | exact .inl ⟨by omega, by omega⟩ | exact .inr ⟨by omega, by omega⟩ | exact .inr ⟨by decide, by decide⟩ | exact .inl ⟨by decide, by decide⟩ | (show _ < _; omega))
local macro_rules | `(tactic| walk_at "len") => `(tactic| ((try simp only [List.length_map, List.length_append, List.length_cons, List.length_nil, List.length_set, List.length_replicate]); omega))
local macro_rules | `(tactic| walk_at "sq") => `(tactic| first | assumption | exact HS.sq (by walk_at "hp"))
local macro_rules | `(tactic| walk_at "st") => `(tactic| first | assumption | exact HS.st (by walk_at "hp"))
local macro_rules | `(tactic| walk_at "h1") => `(tactic| first
  | with_reducible refine HS.seq ?_
  | with_reducible refine HS.asg ?_
  | with_reducible refine HS.nm ?_
  | with_reducible refine HS.var rfl ?_
  | with_reducible refine HS.cst ?_
  | with_reducible refine HS.op ?_
  | with_reducible refine HS.i0 ?_
  | ((with_reducible refine HS.i1 ?_); first | refine ⟨by walk_at "side", ?_⟩ | skip)
  | with_reducible refine HS.u0 ?_
  | with_reducible refine HS.un ?_
  | with_reducible refine HS.eqI ?_
  | with_reducible refine HS.neI ?_
  | with_reducible refine HS.tst ?_
  | with_reducible refine HS.tb1 ?_
  | with_reducible refine HS.bex ?_
  | with_reducible refine HS.ifs ?_
  | with_reducible refine HS.ife ?_
  | with_reducible refine HS.and ?_
  | with_reducible refine HS.or ?_
  | with_reducible refine HS.not ?_
  | with_reducible refine HS.andV ?_
  | with_reducible refine HS.orV ?_
  | with_reducible refine HS.notV ?_
  | with_reducible refine HS.chn ?_
  | with_reducible refine HS.ret ?_
  | with_reducible refine HS.retN ?_
  | with_reducible refine HS.drp ?_
  | with_reducible refine HS.cb ?_
  | with_reducible refine HS.anil ?_
  | with_reducible refine HS.acons ?_
  | with_reducible refine HS.cal ?_
  | with_reducible refine HS.tup ?_
  | with_reducible refine HS.lst ?_
  | with_reducible refine HS.par ?_
  | with_reducible refine HS.ex2 ?_
  | with_reducible refine HS.aug rfl ?_
  | with_reducible refine HS.ipi ?_
  | with_reducible refine HS.addI ?_
  | with_reducible refine HS.nxt ?_
  | with_reducible refine HS.brk ?_
  | with_reducible refine HS.cnt ?_
  | with_reducible refine HS.sub ?_
  | with_reducible refine HS.pnx ?_
  | with_reducible refine HS.prt ?_
  | with_reducible refine HS.pbk ?_
  | with_reducible refine HS.pct ?_
  | with_reducible refine iteF ?_
  | with_reducible refine iteT ?_
  | with_reducible refine HS.ii ?_
  | with_reducible refine HS.bmL ?_
  | with_reducible refine HS.bmL0 ?_
  | ((with_reducible refine' HS.tyL ?e ?_); case e => walk_at "hp")
  | ((with_reducible refine' HS.app ?e ?_); (case e => walk_at "hp"))
  | ((with_reducible refine' HS.setL ?e ?f ?_); (case e => walk_at "hp"); (case f => rfl))
  | ((with_reducible refine' HS.wp ?e ?_); case e => rfl)
  | ((with_reducible refine' HS.szc ?e ?_); case e => walk_at "len")
  | ((with_reducible refine' HS.szd ?e ?_); case e => walk_at "len")
  | with_reducible refine HS.yes ?_
  | with_reducible refine HS.lc ?_
  | with_reducible refine HS.rng1 ?_
  | with_reducible refine HS.rng2 ?_
  | with_reducible refine HS.rng3 ?_
  | with_reducible refine HS.lis ?_
  | with_reducible refine HS.fr ?_
  | with_reducible refine HS.i1e ?_
  | with_reducible refine HS.gthen ?_
  | with_reducible refine HS.g0 ?_
  | with_reducible refine HS.gfr ?_
  | with_reducible refine HS.gpl ?_
  | with_reducible refine HS.gyl ?_
  | with_reducible refine HS.lgn ?_
  | with_reducible refine HS.calg ?_
  | with_reducible refine HS.revL ?_
  | with_reducible refine HS.sl ?_
  | with_reducible refine HS.noP ?_
  | with_reducible refine HS.part ?_
  | with_reducible refine HS.ie ?_
  | ((with_reducible refine' HS.slLs ?e ?_); case e => walk_at "sq")
  | ((with_reducible refine' HS.gtup ?e ?f ?_); (case e => walk_at "st"); (case f => rfl))
  | with_reducible refine HS.gcons ?_
  | with_reducible refine HS.gnil ?_
  | with_reducible refine HS.itup ?_
  | with_reducible refine HS.ienu ?_
  | ((with_reducible refine' HS.cat ?e ?f ?_); (case e => walk_at "hp"); (case f => walk_at "hp"))
  | ((with_reducible refine' HS.ext ?e ?f ?_); (case e => walk_at "hp"); (case f => walk_at "hp"))
  | ((with_reducible refine' HS.sumL ?e ?_); case e => walk_at "sq")
  | ((with_reducible refine' HS.lenL ?e ?_); case e => walk_at "sq")
  | ((with_reducible refine' HS.lenT ?e ?_); case e => walk_at "st")
  | with_reducible refine HS.ra ?_
  | ((with_reducible refine' HS.ixL ?e ?f ?_); (case e => walk_at "sq"); (case f => rfl))
  | ((with_reducible refine' HS.ixT ?e ?f ?_); (case e => walk_at "st"); (case f => rfl)))
local macro_rules | `(tactic| walk_at "hs") => `(tactic| repeat' (walk_at "h1"))
local macro_rules | `(tactic| walk_at "fold") => `(tactic| (walk_at "hs"; assumption))
local macro_rules | `(tactic| walk_at "ns") => `(tactic| first | exact (fun z => z) | assumption | exact HS.nS2 (by walk_at "ne") (by walk_at "ne") | exact HS.nS3 (by walk_at "ne") (by walk_at "ne") (by walk_at "ne"))
local macro_rules | `(tactic| walk_at "kp") => `(tactic| first
  | assumption
  | exact HS.Keep.refl
  | (refine HS.Keep.at ?_ (by first | exact .inl rfl | exact .inr rfl | exact .inr (.inl rfl) | exact .inr (.inr rfl)); walk_at "kp")
  | (refine HS.Keep.put ?_ (by assumption); walk_at "kp")
  | (refine HS.Keep.new' (by assumption) (by first | assumption | exact HS.Keep.refl) (by walk_at "ns") ?_; walk_at "kp"))
local macro_rules | `(tactic| walk_at "h1") => `(tactic| first
  | with_reducible refine HS.caln ?_
  | with_reducible refine HS.ckw ?_
  | with_reducible refine HS.izip ?_
  | with_reducible refine HS.orT ?_
  | with_reducible refine HS.srv ?_
  | with_reducible refine HS.nt ?_
  | with_reducible refine HS.nf ?_
  | ((with_reducible refine' HS.lnn ?e ?f ?_); (case e => rfl); (case f => rfl)))
local macro_rules | `(tactic| walk_at "kp") => `(tactic| (refine HS.Keep.at ?_ rfl; walk_at "kp"))
local macro_rules | `(tactic| walk_at "h1") => `(tactic| first
  | with_reducible refine HS.dget ?_
  | with_reducible refine HS.dput ?_
  | with_reducible refine HS.dnin ?_
  | with_reducible refine HS.dnk ?_)
local macro_rules | `(tactic| walk_at "sub") => `(tactic| repeat' (first | exact List.Sublist.slnil | exact List.nil_sublist _ | apply List.Sublist.cons₂ | apply List.Sublist.cons))
def topS (i : Nat) : Stmt := PySem.Challenge.pw_pagecounts_k17_great_numbers_of_fitting.main.body.getD i (.Pass ⟨0, 0, 0, 0⟩)
abbrev s__law_rng : Stmt := topS 17
abbrev N__law_rng : List Str := ["script", "digits", "seed", "cell", "size"]
theorem sc__law_rng : FnScope N__law_rng ["script"] (defScope s__law_rng) := ⟨rfl, rfl, rfl, by decide +kernel, rfl, by decide +kernel, by decide +kernel⟩
abbrev s__law_draw : Stmt := topS 18
abbrev N__law_draw : List Str := ["rng", "limit", "found", "mixed"]
theorem sc__law_draw : FnScope N__law_draw ["rng", "limit"] (defScope s__law_draw) := ⟨rfl, rfl, rfl, by decide +kernel, rfl, by decide +kernel, by decide +kernel⟩
abbrev s__law_counted : Stmt := topS 19
abbrev N__law_counted : List Str := ["some", "wide", "one"]
theorem sc__law_counted : FnScope N__law_counted ["some", "wide"] (defScope s__law_counted) := ⟨rfl, rfl, rfl, by decide +kernel, rfl, by decide +kernel, by decide +kernel⟩
abbrev s_check_not_negative : Stmt := topS 6
abbrev N_check_not_negative : List Str := ["number"]
theorem sc_check_not_negative : FnScope N_check_not_negative ["number"] (defScope s_check_not_negative) := ⟨rfl, rfl, rfl, by decide +kernel, rfl, by decide +kernel, by decide +kernel⟩
abbrev s_check_chain : Stmt := topS 7
abbrev N_check_chain : List Str := ["chain", "before", "index", "size", "_"]
theorem sc_check_chain : FnScope N_check_chain ["chain"] (defScope s_check_chain) := ⟨rfl, rfl, rfl, by decide +kernel, rfl, by decide +kernel, by decide +kernel⟩
abbrev s_check_demands : Stmt := topS 11
abbrev N_check_demands : List Str := ["chapters", "lines", "chain"]
theorem sc_check_demands : FnScope N_check_demands ["chapters", "lines", "chain"] (defScope s_check_demands) := ⟨rfl, rfl, rfl, by decide +kernel, rfl, by decide +kernel, by decide +kernel⟩
abbrev s_has_book : Stmt := topS 12
abbrev N_has_book : List Str := ["chapters", "many"]
theorem sc_has_book : FnScope N_has_book ["chapters", "many"] (defScope s_has_book) := ⟨rfl, rfl, rfl, by decide +kernel, rfl, by decide +kernel, by decide +kernel⟩
abbrev s_list_places : Stmt := topS 13
abbrev N_list_places : List Str := ["chapters", "lines", "chain", "places", "size", "rest", "larger", "many", "limit"]
theorem sc_list_places : FnScope N_list_places ["chapters", "lines", "chain"] (defScope s_list_places) := ⟨rfl, rfl, rfl, by decide +kernel, rfl, by decide +kernel, by decide +kernel⟩
abbrev s_count_lists : Stmt := topS 15
abbrev N_count_lists : List Str := ["terms", "limit", "total", "found", "sign", "chosen"]
theorem sc_count_lists : FnScope N_count_lists ["terms", "limit", "total"] (defScope s_count_lists) := ⟨rfl, rfl, rfl, by decide +kernel, rfl, by decide +kernel, by decide +kernel⟩
abbrev s_multiply_ways : Stmt := topS 14
abbrev N_multiply_ways : List Str := ["chapters", "places", "books", "_", "limit", "total"]
theorem sc_multiply_ways : FnScope N_multiply_ways ["chapters", "places"] (defScope s_multiply_ways) := ⟨rfl, rfl, rfl, by decide +kernel, rfl, by decide +kernel, by decide +kernel⟩
abbrev s_count_fitting : Stmt := topS 9
abbrev N_count_fitting : List Str := ["chapters", "lines", "chain"]
theorem sc_count_fitting : FnScope N_count_fitting ["chapters", "lines", "chain"] (defScope s_count_fitting) := ⟨rfl, rfl, rfl, by decide +kernel, rfl, by decide +kernel, by decide +kernel⟩
abbrev s_contradiction : Stmt := topS 10
abbrev N_contradiction : List Str := ["chapters", "lines", "chain", "places", "index", "_", "many", "limit", "total"]
theorem sc_contradiction : FnScope N_contradiction ["chapters", "lines", "chain"] (defScope s_contradiction) := ⟨rfl, rfl, rfl, by decide +kernel, rfl, by decide +kernel, by decide +kernel⟩
abbrev s__law_sizes : Stmt := topS 20
abbrev N__law_sizes : List Str := ["rng", "many", "most", "found", "wide", "turn"]
theorem sc__law_sizes : FnScope N__law_sizes ["rng", "many", "most"] (defScope s__law_sizes) := ⟨rfl, rfl, rfl, by decide +kernel, rfl, by decide +kernel, by decide +kernel⟩
abbrev s__law_ways : Stmt := topS 21
abbrev N__law_ways : List Str := ["many", "base", "found", "turn", "longer", "spot", "number", "digit"]
theorem sc__law_ways : FnScope N__law_ways ["many", "base"] (defScope s__law_ways) := ⟨rfl, rfl, rfl, by decide +kernel, rfl, by decide +kernel, by decide +kernel⟩
abbrev s__law_above : Stmt := topS 22
abbrev N__law_above : List Str := ["many", "total", "found", "turn", "spot"]
theorem sc__law_above : FnScope N__law_above ["many", "total"] (defScope s__law_above) := ⟨rfl, rfl, rfl, by decide +kernel, rfl, by decide +kernel, by decide +kernel⟩
abbrev s__law_due : Stmt := topS 23
abbrev N__law_due : List Str := ["some", "sizes_here", "left", "unit", "found", "known", "wide", "base", "ways", "one", "number"]
theorem sc__law_due : FnScope N__law_due ["some", "sizes_here"] (defScope s__law_due) := ⟨rfl, rfl, rfl, by decide +kernel, rfl, by decide +kernel, by decide +kernel⟩
abbrev s_law : Stmt := topS 24
abbrev N_law : List Str := ["script", "rng", "lap", "sizes_here", "many", "top", "some", "rows", "due", "same", "turn", "wide"]
theorem sc_law : FnScope N_law ["script"] (defScope s_law) := ⟨rfl, rfl, rfl, by decide +kernel, rfl, by decide +kernel, by decide +kernel⟩
structure Ad where
  a__law_rng : Addr
  d__law_rng : FuncData
  a__law_draw : Addr
  d__law_draw : FuncData
  a__law_counted : Addr
  d__law_counted : FuncData
  a_check_not_negative : Addr
  d_check_not_negative : FuncData
  a_check_chain : Addr
  d_check_chain : FuncData
  a_check_demands : Addr
  d_check_demands : FuncData
  a_has_book : Addr
  d_has_book : FuncData
  a_list_places : Addr
  d_list_places : FuncData
  a_count_lists : Addr
  d_count_lists : FuncData
  a_multiply_ways : Addr
  d_multiply_ways : FuncData
  a_count_fitting : Addr
  d_count_fitting : FuncData
  a_contradiction : Addr
  d_contradiction : FuncData
  a__law_sizes : Addr
  d__law_sizes : FuncData
  a__law_ways : Addr
  d__law_ways : FuncData
  a__law_above : Addr
  d__law_above : FuncData
  a__law_due : Addr
  d__law_due : FuncData
  a_law : Addr
  d_law : FuncData
structure Txt (K : PySem.W.Frag) (mg : Str → Option Value) (A : Ad) : Prop where
  F__law_rng : Fun K "_law_rng" "_law_rng" s__law_rng A.a__law_rng A.d__law_rng
  g__law_rng : mg "_law_rng" = some (.ref A.a__law_rng)
  b__law_rng : Binds K A.d__law_rng ["script"] []
  F__law_draw : Fun K "_law_draw" "_law_draw" s__law_draw A.a__law_draw A.d__law_draw
  g__law_draw : mg "_law_draw" = some (.ref A.a__law_draw)
  b__law_draw : Binds K A.d__law_draw ["rng", "limit"] []
  F__law_counted : Fun K "_law_counted" "_law_counted" s__law_counted A.a__law_counted A.d__law_counted
  g__law_counted : mg "_law_counted" = some (.ref A.a__law_counted)
  b__law_counted : Binds K A.d__law_counted ["some", "wide"] []
  F_check_not_negative : Fun K "check_not_negative" "check_not_negative" s_check_not_negative A.a_check_not_negative A.d_check_not_negative
  g_check_not_negative : mg "check_not_negative" = some (.ref A.a_check_not_negative)
  b_check_not_negative : Binds K A.d_check_not_negative ["number"] []
  F_check_chain : Fun K "check_chain" "check_chain" s_check_chain A.a_check_chain A.d_check_chain
  g_check_chain : mg "check_chain" = some (.ref A.a_check_chain)
  b_check_chain : Binds K A.d_check_chain ["chain"] []
  F_check_demands : Fun K "check_demands" "check_demands" s_check_demands A.a_check_demands A.d_check_demands
  g_check_demands : mg "check_demands" = some (.ref A.a_check_demands)
  b_check_demands : Binds K A.d_check_demands ["chapters", "lines", "chain"] []
  F_has_book : Fun K "has_book" "has_book" s_has_book A.a_has_book A.d_has_book
  g_has_book : mg "has_book" = some (.ref A.a_has_book)
  b_has_book : Binds K A.d_has_book ["chapters", "many"] []
  F_list_places : Fun K "list_places" "list_places" s_list_places A.a_list_places A.d_list_places
  g_list_places : mg "list_places" = some (.ref A.a_list_places)
  b_list_places : Binds K A.d_list_places ["chapters", "lines", "chain"] []
  F_count_lists : Fun K "count_lists" "count_lists" s_count_lists A.a_count_lists A.d_count_lists
  g_count_lists : mg "count_lists" = some (.ref A.a_count_lists)
  b_count_lists : Binds K A.d_count_lists ["terms", "limit", "total"] []
  F_multiply_ways : Fun K "multiply_ways" "multiply_ways" s_multiply_ways A.a_multiply_ways A.d_multiply_ways
  g_multiply_ways : mg "multiply_ways" = some (.ref A.a_multiply_ways)
  b_multiply_ways : Binds K A.d_multiply_ways ["chapters", "places"] []
  F_count_fitting : Fun K "count_fitting" "count_fitting" s_count_fitting A.a_count_fitting A.d_count_fitting
  g_count_fitting : mg "count_fitting" = some (.ref A.a_count_fitting)
  b_count_fitting : Binds K A.d_count_fitting ["chapters", "lines", "chain"] []
  F_contradiction : Fun K "contradiction" "contradiction" s_contradiction A.a_contradiction A.d_contradiction
  g_contradiction : mg "contradiction" = some (.ref A.a_contradiction)
  b_contradiction : Binds K A.d_contradiction ["chapters", "lines", "chain"] []
  F__law_sizes : Fun K "_law_sizes" "_law_sizes" s__law_sizes A.a__law_sizes A.d__law_sizes
  g__law_sizes : mg "_law_sizes" = some (.ref A.a__law_sizes)
  b__law_sizes : Binds K A.d__law_sizes ["rng", "many", "most"] []
  F__law_ways : Fun K "_law_ways" "_law_ways" s__law_ways A.a__law_ways A.d__law_ways
  g__law_ways : mg "_law_ways" = some (.ref A.a__law_ways)
  b__law_ways : Binds K A.d__law_ways ["many", "base"] []
  F__law_above : Fun K "_law_above" "_law_above" s__law_above A.a__law_above A.d__law_above
  g__law_above : mg "_law_above" = some (.ref A.a__law_above)
  b__law_above : Binds K A.d__law_above ["many", "total"] []
  F__law_due : Fun K "_law_due" "_law_due" s__law_due A.a__law_due A.d__law_due
  g__law_due : mg "_law_due" = some (.ref A.a__law_due)
  b__law_due : Binds K A.d__law_due ["some", "sizes_here"] []
  F_law : Fun K "law" "law" s_law A.a_law A.d_law
  g_law : mg "law" = some (.ref A.a_law)
  b_law : Binds K A.d_law ["script"] []
  z_abs : mg "abs" = none
  z_enumerate : mg "enumerate" = none
  z_int : mg "int" = none
  z_len : mg "len" = none
  z_min : mg "min" = none
  z_range : mg "range" = none
  z_repr : mg "repr" = none
  z_sum : mg "sum" = none
  y_comb : mg "comb" = some (.builtin "math.comb")
  nodig : HS.NoDig K

section
variable {P : Program} {w : World} {K : PySem.W.Frag} {mg : Str → Option Value} {base : Heap} {A : Ad}
def sp__law_rng (K : PySem.W.Frag) : Sp := fun vs H Q _ => ∃ (a : Addr) (ns : List Int), vs = [.ref a] ∧ (SqL K H a (ns.map V.int) ∧ ns.length ≤ 63 ∧ ∀ H' s, HS.Keep (fun _ => False) H H' → H s = none → Rng H' s 0 → Q (.ref s) H')
theorem ok__law_rng (T : Txt K mg A) : FnOk P w K mg base CX0 1 A.a__law_rng A.d__law_rng ["script"] (sp__law_rng K) := by
  refine T.F__law_rng.ok sc__law_rng (fun vs H Q E h => ?_) (fun cdv A0 outer s H vs Q E hr h => ?_)
  · obtain ⟨a, ns, rfl, hw⟩ := h
    rfl
  · obtain ⟨a, ns, rfl, hw⟩ := h
    refine ⟨_, (pss_cons (ps_asg (pe_tup (pa_cons pe_int (pa_cons pe_int pa_nil))) (HS.kgt K (pg_tup rfl (pgs_cons (pg_name (i := 1) sc__law_rng.nd rfl (.inl rfl)) (pgs_cons (pg_name (i := 2) sc__law_rng.nd rfl (.inl rfl)) pgs_nil)))))
    (pss_cons (ps_for PassesOwn.never rfl (HS.kil K (pi_list (pe_slice (HS.sll K) (pv 0) po_none (po_some pe_int)))) (pg_name (i := 3) sc__law_rng.nd rfl (.inl rfl))
      (pss_cons (ps_set (i := 4) sc__law_rng.nd rfl (.inl rfl) (pe_callB call_abs (by rfl) T.z_abs (by decide +kernel) (pa_cons (pv 3) pa_nil)))
    (pss_cons (ps_if (pt_cmpR op_ge (pv 4) (HS.pe_fold (1000000000000000000) (pe_op op_pow pe_int pe_int) (by intro σ H Q q; walk_at "fold")) (nomark _))
      (pss_one (ps_set (i := 1) sc__law_rng.nd rfl (.inl rfl) (pe_op op_add (pe_op op_mulW (pv 1) (HS.pe_fold (1000000000000000000000000000000000000000000000000000000000000) (pe_op op_pow pe_int pe_int) (by intro σ H Q q; walk_at "fold"))) (pe_op op_mod (pv 4) (HS.pe_fold (1000000000000000000000000000000000000000000000000000000000000) (pe_op op_pow pe_int pe_int) (by intro σ H Q q; walk_at "fold"))))))
      pss_nil)
    (pss_one (ps_set (i := 2) sc__law_rng.nd rfl (.inl rfl) (pe_op op_mod (pe_op op_add (pe_op op_add (pe_op op_mul (pv 2) pe_int) (pe_op op_mod (pv 3) pe_int)) pe_int) pe_int))))))
    (pss_one (ps_ret (pe_lst (pa_cons (pv 1) (pa_cons (pv 2) (pa_cons pe_int pa_nil)))))))), ?_⟩
    obtain ⟨hS, hl, k⟩ := hw
    walk_at "hs"
    intro t ht
    have hS2 := HS.Keep.sq (S := fun _ => False) (HS.Keep.new (o := .tup [.int 0, .int 88675123]) ht) hS id
    walk_at "hs"
    intro p hp
    have ec : cutV (ns.map V.int) none (some 63) = ns.map V.int := by
      rw [show (63 : Int) = ((63 : Nat) : Int) from rfl, HS.cut_to, List.take_of_length_le (by rw [List.length_map]; exact hl)]
    rw [ec]
    walk_at "hs"
    refine ⟨⟨_, HS.sq upd_same⟩, for_list (xs := ns.map V.int) (fun i σ H1 => H1 = upd (upd H t (.tup [.int 0, .int 88675123])) p (.lst (ns.map V.int)) ∧ i ≤ ns.length ∧ ∃ (dg m : Int) (x3 x4 : Option V), σ = [some (.ref a), some (.int dg), some (.int m), x3, x4] ∧ 0 ≤ dg ∧ dg < 2 ^ (200 * (i + 1)) ∧ 0 ≤ m ∧ m < 2 ^ 61) ?_ ?_ ?_ ?_⟩
    · exact ⟨rfl, Nat.zero_le _, _, _, _, _, rfl, by decide, by decide, by decide, by decide⟩
    · rintro i σ H1 _ ⟨rfl, _⟩
      exact HS.sq upd_same
    · rintro i x σ H1 hi ⟨rfl, _, dg, m, x3, x4, rfl, hd0, hd1, hm0, hm1⟩
      obtain ⟨z, rfl, _, hil⟩ := HS.get_int hi
      have hil' : i ≤ 63 := by omega
      walk_at "hs"
      have b0 : 0 ≤ (m * 1000003 + z % 2305843009213693921 + 7) % 2305843009213693951 := Int.emod_nonneg _ (by decide)
      have b1 : (m * 1000003 + z % 2305843009213693921 + 7) % 2305843009213693951 < 2 ^ 61 := Int.lt_trans (Int.emod_lt_of_pos _ (by decide)) (by decide)
      generalize (if z < 0 then -z else z) = y
      refine HS.itd (fun hy => ?_) (fun hy => ?_)
      · walk_at "hs"
        refine ⟨HS.mulW (200 * (i + 1)) 200 hd0 hd1 (by decide) (by decide) (by omega) (by decide) (by omega), ?_⟩
        walk_at "hs"
        have q0 : 0 ≤ y % 1000000000000000000000000000000000000000000000000000000000000 := Int.emod_nonneg _ (by decide)
        have q1 : y % 1000000000000000000000000000000000000000000000000000000000000 < 10 ^ 60 := Int.emod_lt_of_pos _ (by decide)
        obtain ⟨r0, r1⟩ := rng_step hd0 hd1 q0 q1
        exact ⟨rfl, hil, _, _, _, _, rfl, r0, r1, b0, b1⟩
      · walk_at "hs"
        exact ⟨rfl, hil, _, _, _, _, rfl, hd0, Int.lt_trans hd1 (pow_up i), b0, b1⟩
    · rintro σ H1 ⟨rfl, _, dg, m, x3, x4, rfl, hd0, hd1, hm0, hm1⟩
      walk_at "hs"
      intro s hs
      have K1 := (HS.Keep.new (S := fun _ => False) (o := .tup [.int 0, .int 88675123]) ht).trans (HS.Keep.new (o := .lst (ns.map V.int)) hp)
      exact k _ s (K1.trans (.new hs)) (K1.free hs id) ⟨dg, m, 0, upd_same, hd0, hm0, hm1, by decide, by decide⟩
def sp__law_draw (K : PySem.W.Frag) : Sp := fun vs H Q _ => ∃ (s : Addr) (many : Int) (n : Nat), vs = [.ref s, .int many] ∧ (Rng H s n ∧ 0 < many ∧ many < 2 ^ 200 ∧ n < 2 ^ 33 ∧ ∀ H' v, HS.Keep (fun a => a = s) H H' → Rng H' s (n + 1) → 0 ≤ v → v < many → Q (.int v) H')
theorem ok__law_draw (T : Txt K mg A) : FnOk P w K mg base CX0 1 A.a__law_draw A.d__law_draw ["rng", "limit"] (sp__law_draw K) := by
  refine T.F__law_draw.ok sc__law_draw (fun vs H Q E h => ?_) (fun cdv A0 outer s H vs Q E hr h => ?_)
  · obtain ⟨s, many, n, rfl, hw⟩ := h
    rfl
  · obtain ⟨s, many, n, rfl, hw⟩ := h
    refine ⟨_, (pss_cons (ps_if (pt_cmpR op_gt (pe_ix (HS.ixl K) (pv 0) pe_int (fun _ _ => rfl)) pe_int (nomark _))
      (pss_cons (ps_set (i := 2) sc__law_draw.nd rfl (.inl rfl) (pe_op op_mod (pe_ix (HS.ixl K) (pv 0) pe_int (fun _ _ => rfl)) (pv 1)))
    (pss_cons (ps_asg (pe_op op_fdivW (pe_ix (HS.ixl K) (pv 0) pe_int (fun _ _ => rfl)) (pv 1)) (pg_sub (pv 0) pe_int set_list))
    (pss_one (ps_ret (pv 2)))))
      pss_nil)
    (pss_cons (ps_asg (pe_op op_add (pe_ix (HS.ixl K) (pv 0) pe_int (fun _ _ => rfl)) pe_int) (pg_sub (pv 0) pe_int set_list))
    (pss_cons (ps_set (i := 3) sc__law_draw.nd rfl (.inl rfl) (pe_op op_mod (pe_op HS.op_powW (pe_op op_add (pe_ix (HS.ixl K) (pv 0) pe_int (fun _ _ => rfl)) (pe_op op_mul pe_int (pe_ix (HS.ixl K) (pv 0) pe_int (fun _ _ => rfl)))) pe_int) pe_int))
    (pss_cons (ps_set (i := 3) sc__law_draw.nd rfl (.inl rfl) (pe_op op_mod (pe_op HS.op_powW (pe_op op_add (pv 3) (pe_op op_mul pe_int (pe_ix (HS.ixl K) (pv 0) pe_int (fun _ _ => rfl)))) pe_int) pe_int))
    (pss_one (ps_ret (pe_op op_mod (pe_op op_fdivW (pv 3) pe_int) (pv 1)))))))), ?_⟩
    obtain ⟨⟨l, m, c, hs, hl0, hm0, hm1, hc0, hc1⟩, hn0, hn1, hn, k⟩ := hw
    walk_at "hs"
    refine HS.itd (fun hl => ?_) (fun hl => ?_)
    · walk_at "hs"
      refine ⟨HS.divW 200 hn0 hn1 (by decide) (by decide), ?_⟩
      walk_at "hs"
      exact k _ _ (by walk_at "kp") ⟨l / many, m, c, upd_same, Int.ediv_nonneg hl0 (by omega), hm0, hm1, hc0, by omega⟩ (Int.emod_nonneg _ (by omega)) (Int.emod_lt_of_pos _ hn0)
    · walk_at "hs"
      refine ⟨HS.powW 66 (by omega) (by omega) (by decide) (by decide), ?_⟩
      walk_at "hs"
      have m0 : 0 ≤ (m + 998244353 * (c + 1)) ^ Int.toNat 3 % 162259276829213363391578010288127 := Int.emod_nonneg _ (by decide)
      have m1 : (m + 998244353 * (c + 1)) ^ Int.toNat 3 % 162259276829213363391578010288127 < 162259276829213363391578010288127 := Int.emod_lt_of_pos _ (by decide)
      generalize (m + 998244353 * (c + 1)) ^ Int.toNat 3 % 162259276829213363391578010288127 = z at m0 m1 ⊢
      refine ⟨HS.powW 128 (by omega) (by omega) (by decide) (by decide), ?_⟩
      walk_at "hs"
      exact k _ _ (by walk_at "kp") ⟨l, m, c + 1, upd_same, hl0, hm0, hm1, by omega, by omega⟩ (Int.emod_nonneg _ (by omega)) (Int.emod_lt_of_pos _ hn0)
def sp__law_counted (K : PySem.W.Frag) : Sp := fun vs H Q _ => ∃ (b : Addr) (ls : List Int) (j : Int), vs = [.ref b, .int j] ∧ (SqL K H b (ls.map V.int) ∧ ls.length ≤ 50000 ∧ 1 ≤ j ∧ j < 2 ^ 200 ∧ ∀ H', HS.Keep (fun _ => False) H H' → Q (.int (pcount ls j)) H')
theorem ok__law_counted (T : Txt K mg A) : FnOk P w K mg base CX0 1 A.a__law_counted A.d__law_counted ["some", "wide"] (sp__law_counted K) := by
  refine T.F__law_counted.ok sc__law_counted (fun vs H Q E h => ?_) (fun cdv A0 outer s H vs Q E hr h => ?_)
  · obtain ⟨b, ls, j, rfl, hw⟩ := h
    rfl
  · obtain ⟨b, ls, j, rfl, hw⟩ := h
    refine ⟨_, (pss_one (ps_ret (pe_callB (HS.ksum K rfl) (by rfl) T.z_sum (by decide +kernel) (pa_cons (pe_lc (own := [("one", 2)]) (g := gName 2) (tt := tYes) rfl sc__law_counted.nd (HS.kil K (pi_list (pv 0))) (blkOk_by (own := [("one", 2)]) (N := N__law_counted) (sc := defScope s__law_counted) (by decide +kernel)) (fun _ _ _ _ _ => pg_name (i := 2) sc__law_counted.nd rfl (by first | exact .inl rfl | exact .inr rfl)) (fun _ _ _ _ _ => pts_nil) (fun _ _ _ _ _ => (pe_op op_add (pe_op op_fdivW (pe_op op_sub (pv 2) pe_int) (pv 1)) pe_int))) pa_nil)))), ?_⟩
    obtain ⟨hb, hl, h1, h2, k⟩ := hw
    walk_at "hs"
    refine ⟨⟨_, hb⟩, fun D hD => lc_list (xs := ls.map V.int) (fun i H' => HS.Keep (fun _ => False) H H' ∧ H' D = some (.lst (((ls.take i).map fun x => (x + j - 1) / j).map V.int))) ⟨.new hD, upd_same⟩ (fun i H' _ ⟨K', _⟩ => K'.sq hb id) ?_ ?_⟩
    · rintro i x H1 hi ⟨K1, h3⟩
      obtain ⟨z, rfl, hz, hil⟩ := HS.get_int hi
      walk_at "hs"
      refine ⟨HS.divW 200 (by omega) h2 (by decide) (by decide), ?_⟩
      walk_at "hs"
      rw [counted_eq h1]
      refine ⟨_, h3, HS.sz (by simp; omega), K1.put hD, ?_⟩
      rw [upd_same, List.take_add_one, hz, List.map_append, List.map_append]
      rfl
    · rintro H1 ⟨K1, h3⟩
      rw [List.length_map, List.take_length] at h3
      refine HS.sumL (HS.sq h3) ?_
      exact k _ K1
def sp_check_not_negative (K : PySem.W.Frag) : Sp := fun vs H Q _ => ∃ (j : Int), vs = [.int j] ∧ (0 ≤ j ∧ Q .non H)
theorem ok_check_not_negative (T : Txt K mg A) : FnOk P w K mg base CX0 1 A.a_check_not_negative A.d_check_not_negative ["number"] (sp_check_not_negative K) := by
  refine T.F_check_not_negative.ok sc_check_not_negative (fun vs H Q E h => ?_) (fun cdv A0 outer s H vs Q E hr h => ?_)
  · obtain ⟨j, rfl, hw⟩ := h
    rfl
  · obtain ⟨j, rfl, hw⟩ := h
    refine ⟨_, (pss_one (ps_if (pt_cmpR op_lt (pv 0) pe_int (nomark _))
      (pss_one ps_never)
      pss_nil)), ?_⟩
    obtain ⟨h, k⟩ := hw
    walk_at "hs"
    refine HS.it0 (by omega) ?_
    walk_at "hs"
    exact k
def sp_check_chain (K : PySem.W.Frag) : Sp := fun vs H Q _ => ∃ (b : Addr) (zs : List V) (ps : List (Int × Int)), vs = [.ref b] ∧ (SqL K H b zs ∧ HS.Prs H zs ps ∧ ChOk 0 ps ∧ (∀ p ∈ ps, p.1 < 2 ^ 150) ∧ ∀ H', HS.Keep (fun _ => False) H H' → Q .non H')
theorem ok_check_chain (T : Txt K mg A) : FnOk P w K mg base CX0 1 A.a_check_chain A.d_check_chain ["chain"] (sp_check_chain K) := by
  refine T.F_check_chain.ok sc_check_chain (fun vs H Q E h => ?_) (fun cdv A0 outer s H vs Q E hr h => ?_)
  · obtain ⟨b, zs, ps, rfl, hw⟩ := h
    rfl
  · obtain ⟨b, zs, ps, rfl, hw⟩ := h
    refine ⟨_, (pss_cons (ps_set (i := 1) sc_check_chain.nd rfl (.inl rfl) pe_int)
    (pss_one (ps_for PassesOwn.never rfl (HS.kien K (pi_enum (by rfl) T.z_enumerate (pa_cons (pv 0) pa_nil))) (HS.kgt K (pg_tup rfl (pgs_cons (pg_name (i := 2) sc_check_chain.nd rfl (.inl rfl)) (pgs_cons (HS.kgt K (pg_tup rfl (pgs_cons (pg_name (i := 3) sc_check_chain.nd rfl (.inl rfl)) (pgs_cons (pg_name (i := 4) sc_check_chain.nd rfl (.inl rfl)) pgs_nil)))) pgs_nil))))
      (pss_cons (ps_if (PW.pt (pw_or (pt_cmpR op_le (pv 3) (pv 1) (nomark _)) (pw_or1 (PW.pt (pw_and (pt_cmpR op_gt (pv 1) pe_int (nomark _)) (pw_and1 (pt_cmpR op_ne (pe_op op_mod (pv 3) (pv 1)) pe_int (nomark _))))))))
      (pss_one ps_never)
      pss_nil)
    (pss_one (ps_set (i := 1) sc_check_chain.nd rfl (.inl rfl) (pv 3))))))), ?_⟩
    obtain ⟨hb, hP, hc, hB, k⟩ := hw
    walk_at "hs"
    refine ⟨b, zs, rfl, hb, for_it walk_enum (fun i σ H' => HS.Keep (fun _ => False) H H' ∧ ∃ (bf : Int) (x2 x3 x4 : Option V), σ = [some (.ref b), some (.int bf), x2, x3, x4] ∧ 0 ≤ bf ∧ bf < 2 ^ 150 ∧ ChOk bf (ps.drop i)) ⟨.refl, 0, _, _, _, rfl, Int.le_refl 0, by decide, hc⟩ (fun i σ H' _ ⟨K', _⟩ => K'.sq hb id) ?_ ?_⟩
    · rintro i x σ H1 H2 hi ⟨K1, bf, x2, x3, x4, rfl, hb0, hb1, hch⟩ ⟨T1, u, v, rfl, hT1, rfl, e1, e2⟩
      cases e1
      obtain ⟨q, p, rfl, hp, hq⟩ := HS.Prs.at hP e2
      have hil := (List.getElem?_eq_some_iff.mp hp).1
      have hpB := hB p (List.mem_of_getElem? hp)
      have ed : ps.drop i = p :: ps.drop (i + 1) := by rw [List.drop_eq_getElem_cons hil]; congr 1; rw [List.getElem?_eq_getElem hil] at hp; exact Option.some.inj hp
      rw [ed] at hch
      obtain ⟨c1, c2, c3⟩ := hch
      have KT : HS.Keep (fun _ => False) H1 (upd H1 T1 (.tup [.int (i : Nat), .ref q])) := .new hT1
      have hq2 := KT _ _ (K1 _ _ hq id) id
      have hT2 := upd_same (H := H1) (a := T1) (o := .tup [.int (i : Nat), .ref q])
      have K2 := K1.trans KT
      generalize upd H1 T1 (.tup [.int (i : Nat), .ref q]) = H2 at KT hq2 hT2 K2 ⊢
      walk_at "hs"
      refine HS.it0 (by omega) ?_
      walk_at "hs"
      refine HS.itd (fun h => ?_) (fun h => ?_)
      · walk_at "hs"
        refine HS.in0 (c2 h) ?_
        walk_at "hs"
        exact ⟨K2, p.1, _, _, _, rfl, by omega, hpB, c3⟩
      · walk_at "hs"
        exact ⟨K2, p.1, _, _, _, rfl, by omega, hpB, c3⟩
    · rintro σ H1 ⟨K1, bf, x2, x3, x4, rfl, _⟩
      walk_at "hs"
      exact k _ K1
def sp_check_demands (K : PySem.W.Frag) : Sp := fun vs H Q _ => ∃ (b : Addr) (zs : List V) (ps : List (Int × Int)) (c l : Int), vs = [.int c, .int l, .ref b] ∧ (0 ≤ c ∧ 0 ≤ l ∧ SqL K H b zs ∧ HS.Prs H zs ps ∧ ChOk 0 ps ∧ (∀ p ∈ ps, p.1 < 2 ^ 150) ∧ ∀ H', HS.Keep (fun _ => False) H H' → Q .non H')
theorem ok_check_demands (T : Txt K mg A) : FnOk P w K mg base CX0 2 A.a_check_demands A.d_check_demands ["chapters", "lines", "chain"] (sp_check_demands K) := by
  have G_check_not_negative : FnOk P w K mg base CX0 1 A.a_check_not_negative A.d_check_not_negative ["number"] (sp_check_not_negative K) := ok_check_not_negative T
  have G_check_chain : FnOk P w K mg base CX0 1 A.a_check_chain A.d_check_chain ["chain"] (sp_check_chain K) := ok_check_chain T
  refine T.F_check_demands.ok sc_check_demands (fun vs H Q E h => ?_) (fun cdv A0 outer s H vs Q E hr h => ?_)
  · obtain ⟨b, zs, ps, c, l, rfl, hw⟩ := h
    rfl
  · obtain ⟨b, zs, ps, c, l, rfl, hw⟩ := h
    refine ⟨_, (pss_cons (ps_expr (pe_call G_check_not_negative hr (by rfl) T.g_check_not_negative T.F_check_not_negative.kp T.b_check_not_negative .nil pass0 (pa_cons (pv 0) pa_nil)))
    (pss_cons (ps_expr (pe_call G_check_not_negative hr (by rfl) T.g_check_not_negative T.F_check_not_negative.kp T.b_check_not_negative .nil pass0 (pa_cons (pv 1) pa_nil)))
    (pss_one (ps_expr (pe_call G_check_chain hr (by rfl) T.g_check_chain T.F_check_chain.kp T.b_check_chain .nil pass0 (pa_cons (pv 2) pa_nil)))))), ?_⟩
    obtain ⟨h1, h2, hb, hP, hc, hB, k⟩ := hw
    walk_at "hs"
    refine ⟨c, rfl, h1, ?_⟩
    walk_at "hs"
    refine ⟨l, rfl, h2, ?_⟩
    walk_at "hs"
    refine ⟨b, zs, ps, rfl, hb, hP, hc, hB, fun H1 K1 => ?_⟩
    walk_at "hs"
    exact k _ K1
def sp_has_book (K : PySem.W.Frag) : Sp := fun vs H Q _ => ∃ (n : Nat) (l : Int), vs = [.int n, .int l] ∧ (Q (.bl (decide (l - n = 0 ∨ (0 < l - n ∧ 0 < n)))) H)
theorem ok_has_book (T : Txt K mg A) : FnOk P w K mg base CX0 1 A.a_has_book A.d_has_book ["chapters", "many"] (sp_has_book K) := by
  refine T.F_has_book.ok sc_has_book (fun vs H Q E h => ?_) (fun cdv A0 outer s H vs Q E hr h => ?_)
  · obtain ⟨n, l, rfl, hw⟩ := h
    rfl
  · obtain ⟨n, l, rfl, hw⟩ := h
    refine ⟨_, (pss_one (ps_ret (pe_or (pe_cmpR op_eq (pv 1) (pv 0) (nomark _)) (pe_one (pe_chain op_gt op_gt (pv 1) (pv 0) pe_int))))), ?_⟩
    have k := hw
    walk_at "hs"
    refine HS.itd (fun h => ?_) (fun h => ?_)
    · rw [decide_eq_true (show l - n = 0 ∨ (0 < l - n ∧ 0 < n) by omega)] at k
      exact k
    · walk_at "hs"
      refine HS.itd (fun h2 => ?_) (fun h2 => ?_)
      · walk_at "hs"
        rw [show decide (l - n = 0 ∨ (0 < l - n ∧ 0 < n)) = decide ((n : Int) > 0) from decide_eq_decide.mpr (by omega)] at k
        exact k
      · rw [decide_eq_false (show ¬ (l - n = 0 ∨ (0 < l - n ∧ 0 < n)) by omega)] at k
        exact k
def sp_list_places (K : PySem.W.Frag) : Sp := fun vs H Q _ => ∃ (b : Addr) (zs : List V) (ps : List (Int × Int)) (c l : Int), vs = [.int c, .int l, .ref b] ∧ (SqL K H b zs ∧ HS.Prs H zs ps ∧ ChOk 0 ps ∧ ps.length ≤ 1000 ∧ (∀ p ∈ ps, p.1 < 2 ^ 150 ∧ -(2 ^ 150) < p.2 ∧ p.2 < 2 ^ 150) ∧ -(2 ^ 150) < c ∧ c < 2 ^ 150 ∧ ∀ H' p us, HS.Keep (fun _ => False) H H' → H p = none → H' p = some (.lst us) → HS.Tri H' us (plc c 1 (l - c) ps) → Q (.ref p) H')
theorem ok_list_places (T : Txt K mg A) : FnOk P w K mg base CX0 1 A.a_list_places A.d_list_places ["chapters", "lines", "chain"] (sp_list_places K) := by
  refine T.F_list_places.ok sc_list_places (fun vs H Q E h => ?_) (fun cdv A0 outer s H vs Q E hr h => ?_)
  · obtain ⟨b, zs, ps, c, l, rfl, hw⟩ := h
    rfl
  · obtain ⟨b, zs, ps, c, l, rfl, hw⟩ := h
    refine ⟨_, (pss_cons (ps_set (i := 3) sc_list_places.nd rfl (.inl rfl) (pe_lst pa_nil))
    (pss_cons (ps_set (i := 4) sc_list_places.nd rfl (.inl rfl) pe_int)
    (pss_cons (ps_set (i := 5) sc_list_places.nd rfl (.inl rfl) (pe_op op_sub (pv 1) (pv 0)))
    (pss_cons (ps_for PassesOwn.never rfl (HS.kil K (pi_list (pv 2))) (HS.kgt K (pg_tup rfl (pgs_cons (pg_name (i := 6) sc_list_places.nd rfl (.inl rfl)) (pgs_cons (pg_name (i := 7) sc_list_places.nd rfl (.inl rfl)) pgs_nil))))
      (pss_cons (ps_set (i := 8) sc_list_places.nd rfl (.inl rfl) (pe_op op_fdivW (pv 6) (pv 4)))
    (pss_cons (ps_expr (HS.kbm K (pe_bm PySem.F.plainAttrs_list PySem.F.slot_list_append PySem.F.type_list_append mt_append (pv 3) (pa_cons (pe_tup (pa_cons (pv 4) (pa_cons (pv 8) (pa_cons (pe_op op_sub (pv 5) (pe_op op_mulW (pv 8) (pe_op op_sub (pv 7) (pv 0)))) pa_nil)))) pa_nil))))
    (pss_cons (ps_set (i := 4) sc_list_places.nd rfl (.inl rfl) (pv 6))
    (pss_one (ps_set (i := 5) sc_list_places.nd rfl (.inl rfl) (pe_op op_sub (pv 7) (pv 0))))))))
    (pss_cons (ps_expr (HS.kbm K (pe_bm PySem.F.plainAttrs_list PySem.F.slot_list_append PySem.F.type_list_append mt_append (pv 3) (pa_cons (pe_tup (pa_cons (pv 4) (pa_cons (pe_op op_add (pv 5) pe_int) (pa_cons (pv 5) pa_nil)))) pa_nil))))
    (pss_one (ps_ret (pv 3)))))))), ?_⟩
    obtain ⟨hb, hP, hc, hl, hB, c0, c1, k⟩ := hw
    have hpos := chok_pos hc (Int.le_refl 0)
    walk_at "hs"
    intro P hPn
    generalize hG_P : upd _ P _ = H0
    have at_P := HS.upgs hG_P
    have Kn_P := HS.upgK hG_P hPn
    clear hG_P
    have hb0 := Kn_P.sq hb id
    walk_at "hs"
    refine ⟨⟨_, hb0⟩, for_list (xs := zs) (fun i σ H' => HS.Keep (fun _ => False) H H' ∧ ∃ (us : List V) (ts : List (Int × Int × Int)) (size rest : Int) (x6 x7 x8 : Option V), σ = [some (.int c), some (.int l), some (.ref b), some (.ref P), some (.int size), some (.int rest), x6, x7, x8] ∧ H' P = some (.lst us) ∧ HS.Tri H' us ts ∧ ts.length = i ∧ ts ++ plc c size rest (ps.drop i) = plc c 1 (l - c) ps ∧ 1 ≤ size ∧ size < 2 ^ 150) ⟨Kn_P, [], [], 1, l - c, _, _, _, rfl, at_P, trivial, rfl, rfl, by decide, by decide⟩ (fun i σ H' _ ⟨K', _⟩ => K'.sq hb id) ?_ ?_⟩
    · rintro i x σ H1 hi ⟨K1, us, ts, size, rest, x6, x7, x8, rfl, hP1, hT, htl, hpl, s1, s2⟩
      obtain ⟨q, p, rfl, hp, hq⟩ := HS.Prs.at hP hi
      have hil := (List.getElem?_eq_some_iff.mp hp).1
      have hpB := hB p (List.mem_of_getElem? hp)
      have hp0 := hpos p (List.mem_of_getElem? hp)
      have ed : ps.drop i = p :: ps.drop (i + 1) := by rw [List.drop_eq_getElem_cons hil]; congr 1; rw [List.getElem?_eq_getElem hil] at hp; exact Option.some.inj hp
      rw [ed, plc] at hpl
      have hq1 := K1 _ _ hq id
      have ul := hT.len
      have q0 : 0 ≤ p.1 / size := Int.ediv_nonneg (by omega) (by omega)
      have q1 : p.1 / size ≤ p.1 := Int.ediv_le_self _ (by omega)
      walk_at "hs"
      refine ⟨HS.divW 150 (by omega) s2 (by decide) (by decide), ?_⟩
      walk_at "hs"
      refine ⟨wide_mul (a := 151) (b := 152) (by omega) (by omega) (by decide) (by decide) (by decide), ?_⟩
      walk_at "hs"
      intro r hr1
      have hPr : P ≠ r := ne_of_none hP1 hr1
      have hP2 := HS.Keep.new (S := fun _ => False) (o := .tup [.int size, .int (p.1 / size), .int (rest - p.1 / size * (p.2 - c))]) hr1 _ _ hP1 id
      have hr2 := upd_same (H := H1) (a := r) (o := .tup [.int size, .int (p.1 / size), .int (rest - p.1 / size * (p.2 - c))])
      have hT2 := hT.same (HS.Keep.new (o := .tup [.int size, .int (p.1 / size), .int (rest - p.1 / size * (p.2 - c))]) hr1)
      have K2 := K1.trans (HS.Keep.new (o := .tup [.int size, .int (p.1 / size), .int (rest - p.1 / size * (p.2 - c))]) hr1)
      generalize upd H1 r (.tup [.int size, .int (p.1 / size), .int (rest - p.1 / size * (p.2 - c))]) = H2 at hP2 hr2 hT2 K2 ⊢
      walk_at "hs"
      refine ⟨K2.put hPn, us ++ [.ref r], ts ++ [(size, p.1 / size, rest - p.1 / size * (p.2 - c))], p.1, p.2 - c, _, _, _, rfl, upd_same, ?_, by rw [List.length_append, htl]; rfl, by rw [← hpl, List.append_assoc]; rfl, by omega, hpB.1⟩
      refine (HS.Tri.put hP2 hT2).app ⟨⟨r, rfl, ?_⟩, trivial⟩
      rw [upd_ne (Ne.symm hPr), hr2]
    · rintro σ H1 ⟨K1, us, ts, size, rest, x6, x7, x8, rfl, hP1, hT, htl, hpl, s1, s2⟩
      have ul := hT.len
      have vl := hP.len
      rw [vl, List.drop_length, plc] at hpl
      walk_at "hs"
      intro r hr1
      have hPr : P ≠ r := ne_of_none hP1 hr1
      have hP2 := HS.Keep.new (S := fun _ => False) (o := .tup [.int size, .int (rest + 1), .int rest]) hr1 _ _ hP1 id
      have hr2 := upd_same (H := H1) (a := r) (o := .tup [.int size, .int (rest + 1), .int rest])
      have hT2 := hT.same (HS.Keep.new (o := .tup [.int size, .int (rest + 1), .int rest]) hr1)
      have K2 := K1.trans (HS.Keep.new (o := .tup [.int size, .int (rest + 1), .int rest]) hr1)
      generalize upd H1 r (.tup [.int size, .int (rest + 1), .int rest]) = H2 at hP2 hr2 hT2 K2 ⊢
      walk_at "hs"
      refine k _ P (us ++ [.ref r]) (K2.put hPn) hPn upd_same ?_
      rw [← hpl]
      refine (HS.Tri.put hP2 hT2).app ⟨⟨r, rfl, ?_⟩, trivial⟩
      rw [upd_ne (Ne.symm hPr), hr2]
def sp_count_lists (K : PySem.W.Frag) : Sp := fun vs H Q _ => ∃ (n : Nat) (m t : Int), vs = [.int n, .int m, .int t] ∧ (n ≤ 50 ∧ m < 2 ^ 200 ∧ -(2 ^ 200) < m ∧ t < 2 ^ 200 ∧ Q (.int (lstN n m t)) H)
theorem ok_count_lists (T : Txt K mg A) : FnOk P w K mg base CX0 1 A.a_count_lists A.d_count_lists ["terms", "limit", "total"] (sp_count_lists K) := by
  refine T.F_count_lists.ok sc_count_lists (fun vs H Q E h => ?_) (fun cdv A0 outer s H vs Q E hr h => ?_)
  · obtain ⟨n, m, t, rfl, hw⟩ := h
    rfl
  · obtain ⟨n, m, t, rfl, hw⟩ := h
    refine ⟨_, (pss_cons (ps_if (pt_cmpR op_eq (pv 2) pe_int (nomark _))
      (pss_one (ps_ret pe_int))
      pss_nil)
    (pss_cons (ps_set (i := 2) sc_count_lists.nd rfl (.inl rfl) (pe_callB (call_min2 rfl) (by rfl) T.z_min (by decide +kernel) (pa_cons (pv 2) (pa_cons (pe_op op_sub (pe_op op_mulW (pv 0) (pe_op op_sub (pv 1) pe_int)) (pv 2)) pa_nil))))
    (pss_cons (ps_if (pt_cmpR op_lt (pv 2) pe_int (nomark _))
      (pss_one (ps_ret pe_int))
      pss_nil)
    (pss_cons (ps_set (i := 3) sc_count_lists.nd rfl (.inl rfl) (pe_callBfun HS.cr_comb (by rfl) T.y_comb (pa_cons (pe_op op_sub (pe_op op_add (pv 2) (pv 0)) pe_int) (pa_cons (pe_op op_sub (pv 0) pe_int) pa_nil))))
    (pss_cons (ps_set (i := 4) sc_count_lists.nd rfl (.inl rfl) (pe_un un_neg pe_int))
    (pss_cons (ps_for PassesOwn.never rfl (pi_range2 (by rfl) T.z_range (pa_cons pe_int (pa_cons (pe_op op_add (pe_op op_fdivW (pv 2) (pv 1)) pe_int) pa_nil))) (pg_name (i := 5) sc_count_lists.nd rfl (.inl rfl))
      (pss_cons (ps_set (i := 3) sc_count_lists.nd rfl (.inl rfl) (pe_op op_add (pv 3) (pe_op op_mulW (pe_op op_mulW (pv 4) (pe_callBfun HS.cr_comb (by rfl) T.y_comb (pa_cons (pv 0) (pa_cons (pv 5) pa_nil)))) (pe_callBfun HS.cr_comb (by rfl) T.y_comb (pa_cons (pe_op op_sub (pe_op op_add (pe_op op_sub (pv 2) (pe_op op_mulW (pv 5) (pv 1))) (pv 0)) pe_int) (pa_cons (pe_op op_sub (pv 0) pe_int) pa_nil))))))
    (pss_one (ps_set (i := 4) sc_count_lists.nd rfl (.inl rfl) (pe_un un_neg (pv 4))))))
    (pss_one (ps_ret (pv 3))))))))), ?_⟩
    obtain ⟨hn, hm1, hm0, ht, k⟩ := hw
    walk_at "hs"
    refine HS.itd (fun h0 => ?_) (fun h0 => ?_)
    · walk_at "hs"
      rw [show lstN n m t = 1 from if_pos h0] at k
      exact k
    walk_at "hs"
    refine ⟨wide_mul (a := 6) (b := 201) (by omega) (by omega) (by decide) (by decide) (by decide), ?_⟩
    walk_at "hs"
    obtain ⟨T, hT⟩ : ∃ T, min t ((n : Int) * (m - 1) - t) = T := ⟨_, rfl⟩
    rw [show (if (n : Int) * (m - 1) - t < t then (n : Int) * (m - 1) - t else t) = T by rw [← hT, Int.min_def]; split <;> split <;> omega]
    have hTt : T ≤ t := by rw [← hT]; exact Int.min_le_left _ _
    have hTn : T ≤ (n : Int) * (m - 1) - t := by rw [← hT]; exact Int.min_le_right _ _
    have hflip : T = t ∨ T = (n : Int) * (m - 1) - t := by rw [← hT, Int.min_def]; split <;> simp
    walk_at "hs"
    refine HS.itd (fun hneg => ?_) (fun hneg => ?_)
    · walk_at "hs"
      rw [show lstN n m t = 0 by unfold lstN; rw [if_neg h0, hT, if_pos hneg]] at k
      exact k
    have hn1 : 1 ≤ n := by
      rcases Nat.eq_zero_or_pos n with z | z
      · rw [z] at hTn; simp at hTn; omega
      · exact z
    obtain ⟨n', rfl⟩ : ∃ n', n = n' + 1 := ⟨n - 1, by omega⟩
    have hm2 : 2 ≤ m := by
      rcases Int.lt_or_le m 2 with g | g
      · exfalso
        have : ((n' + 1 : Nat) : Int) * (m - 1) ≤ 0 := by
          have := Int.mul_le_mul_of_nonneg_left (show m - 1 ≤ 0 by omega) (show 0 ≤ ((n' + 1 : Nat) : Int) by omega)
          rw [Int.mul_zero] at this
          exact this
        omega
      · exact g
    have hL : lstN (n' + 1) m t = bnd m.toNat (n' + 1) (T + (n' + 1 : Nat)) := by
      rw [lstN_bnd (by omega)]
      rcases hflip with g | g
      · rw [g]
      · rw [bnd_flip, g, show ((m.toNat : Nat) : Int) = m by omega]
        congr 1
        rw [Int.mul_add, Int.mul_sub]
        omega
    have hTm : T / m ≤ 50 := by
      have : T < 51 * m := by
        have : ((n' + 1 : Nat) : Int) * (m - 1) ≤ 50 * (m - 1) := Int.mul_le_mul_of_nonneg_right (by omega) (by omega)
        omega
      have := (Int.ediv_lt_iff_lt_mul (show 0 < m by omega)).mpr this
      omega
    have hT0 : 0 ≤ T / m := Int.ediv_nonneg (by omega) (by omega)
    have e1 : (((n' + 1 : Nat) : Int) - 1) = ((n' : Nat) : Int) := by omega
    have pw : ∀ j : Nat, j ≤ 50 → (2 : Nat) ^ (250 * j) < 2 ^ 12501 := fun j hj => Nat.pow_lt_pow_right (by decide) (by omega)
    have cb : ∀ a b : Nat, b ≤ 50 → a + 1 ≤ 2 ^ 250 → HS.binC a b < 2 ^ 12501 := fun a b hb ha => by
      have p1 := HS.binC_pow a b
      have p2 : (a + 1) ^ b ≤ (2 ^ 250) ^ b := Nat.pow_le_pow_left ha b
      rw [← Nat.pow_mul] at p2
      have := pw b hb
      omega
    walk_at "hs"
    refine ⟨(T + n').toNat, n', by rw [show (((T + n').toNat : Nat) : Int) = T + ((n' + 1 : Nat) : Int) - 1 by omega, e1], by omega, by omega, by omega, ?_⟩
    walk_at "hs"
    refine ⟨HS.divW 200 (by omega) (by omega) (by decide) (by decide), ?_⟩
    walk_at "hs"
    refine ⟨by omega, ?_⟩
    rw [show (T / m + 1 - 1).toNat = (T / m).toNat by omega]
    refine for_range (lo := 1) (n := (T / m).toNat) (fun i σ H' => H' = H ∧ ∃ x5 : Option V, σ = [some (.int ((n' + 1 : Nat) : Int)), some (.int m), some (.int T), some (.int ((List.range (i + 1)).map fun (j : Nat) => sgn j * (bin (n' + 1) j : Nat) * (bin (T - (j : Int) * m + n').toNat n' : Nat)).sum), some (.int (sgn (i + 1))), x5]) ⟨rfl, _, by
      rw [show (List.range (0 + 1)).map (fun (j : Nat) => sgn j * ((bin (n' + 1) j : Nat) : Int) * ((bin (T - (j : Int) * m + n').toNat n' : Nat) : Int)) = [sgn 0 * ((bin (n' + 1) 0 : Nat) : Int) * ((bin (T - ((0 : Nat) : Int) * m + n').toNat n' : Nat) : Int)] from rfl]
      rw [List.sum_singleton, bin_0, show T - ((0 : Nat) : Int) * m + n' = T + n' by omega, show sgn 0 = 1 from rfl, show sgn (0 + 1) = -1 from rfl, Int.one_mul]
      simp
      rfl⟩ ?_ ?_
    · rintro i σ H1 hi ⟨rfl, x5, rfl⟩
      have hjm : (1 + (i : Int)) * m ≤ T := by
        have := (Int.le_ediv_iff_mul_le (show 0 < m by omega)).mp (show (1 + (i : Int)) ≤ T / m by omega)
        exact this
      have hi50 : 1 + i ≤ n' + 1 := by
        have : T < ((n' + 1 : Nat) : Int) * m := by
          have e : ((n' + 1 : Nat) : Int) * (m - 1) = ((n' + 1 : Nat) : Int) * m - (n' + 1 : Nat) := by rw [Int.mul_sub, Int.mul_one]
          omega
        have := (Int.ediv_lt_iff_lt_mul (show 0 < m by omega)).mpr this
        omega
      have j0 : 0 ≤ (1 + (i : Int)) * m := Int.mul_nonneg (by omega) (by omega)
      have sg1 : (sgn (i + 1)).natAbs < 2 ^ 2 := by unfold sgn; split <;> decide
      walk_at "hs"
      refine ⟨n' + 1, 1 + i, by push_cast; rfl, hi50, by omega, by omega, ?_⟩
      walk_at "hs"
      have b1 := cb (n' + 1) (1 + i) (by omega) (by omega)
      refine ⟨wide_mul (a := 2) (b := 12501) sg1 (by rw [Int.natAbs_natCast]; exact b1) (by decide) (by decide) (by decide), ?_⟩
      walk_at "hs"
      refine ⟨HS.mulW 62 200 (by omega) (by omega) (by omega) hm1 (by decide) (by decide) (by decide), ?_⟩
      walk_at "hs"
      refine ⟨(T - (1 + (i : Int)) * m + n').toNat, n', by rw [show (((T - (1 + (i : Int)) * m + n').toNat : Nat) : Int) = T - (1 + (i : Int)) * m + ((n' + 1 : Nat) : Int) - 1 by omega, e1], by omega, by omega, by omega, ?_⟩
      walk_at "hs"
      have b2 := cb (T - (1 + (i : Int)) * m + n').toNat n' (by omega) (by omega)
      have mm : (sgn (i + 1) * ((HS.binC (n' + 1) (1 + i) : Nat) : Int)).natAbs < 2 ^ 12504 := by
        rw [Int.natAbs_mul, Int.natAbs_natCast]
        have : (sgn (i + 1)).natAbs ≤ 1 := by unfold sgn; split <;> decide
        have := Nat.mul_le_mul this (Nat.le_refl (HS.binC (n' + 1) (1 + i)))
        have q : (2 : Nat) ^ 12501 < 2 ^ 12504 := Nat.pow_lt_pow_right (by decide) (by decide)
        omega
      refine ⟨wide_mul (a := 12504) (b := 12501) mm (by rw [Int.natAbs_natCast]; exact b2) (by decide) (by decide) (by decide), ?_⟩
      walk_at "hs"
      refine ⟨rfl, some (.int (1 + (i : Nat))), ?_⟩
      rw [List.range_succ (n := i + 1), List.map_append, List.sum_append, List.map_singleton, List.sum_singleton, sgn_succ (i + 1), show ((i + 1 : Nat) : Int) = 1 + (i : Int) by omega, show i + 1 = 1 + i by omega]
      rfl
    · rintro σ H1 ⟨rfl, x5, rfl⟩
      walk_at "hs"
      rw [bnd_prog hm2 (by omega), ← hL]
      exact k
def sp_multiply_ways (K : PySem.W.Frag) : Sp := fun vs H Q _ => ∃ (b : Addr) (zs : List V) (ts : List (Int × Int × Int)) (n : Nat), vs = [.int n, .ref b] ∧ (SqL K H b zs ∧ HS.Tri H zs ts ∧ n ≤ 50 ∧ ts.length ≤ 30 ∧ (∀ t ∈ ts, t.2.1 < 2 ^ 200 ∧ -(2 ^ 200) < t.2.1 ∧ t.2.2 < 2 ^ 200) ∧ Q (.int (ways n ts)) H)
theorem ok_multiply_ways (T : Txt K mg A) : FnOk P w K mg base CX0 2 A.a_multiply_ways A.d_multiply_ways ["chapters", "places"] (sp_multiply_ways K) := by
  have G_count_lists : FnOk P w K mg base CX0 1 A.a_count_lists A.d_count_lists ["terms", "limit", "total"] (sp_count_lists K) := ok_count_lists T
  refine T.F_multiply_ways.ok sc_multiply_ways (fun vs H Q E h => ?_) (fun cdv A0 outer s H vs Q E hr h => ?_)
  · obtain ⟨b, zs, ts, n, rfl, hw⟩ := h
    rfl
  · obtain ⟨b, zs, ts, n, rfl, hw⟩ := h
    refine ⟨_, (pss_cons (ps_set (i := 2) sc_multiply_ways.nd rfl (.inl rfl) pe_int)
    (pss_cons (ps_for PassesOwn.never rfl (HS.kil K (pi_list (pv 1))) (HS.kgt K (pg_tup rfl (pgs_cons (pg_name (i := 3) sc_multiply_ways.nd rfl (.inl rfl)) (pgs_cons (pg_name (i := 4) sc_multiply_ways.nd rfl (.inl rfl)) (pgs_cons (pg_name (i := 5) sc_multiply_ways.nd rfl (.inl rfl)) pgs_nil)))))
      (pss_one (ps_set (i := 2) sc_multiply_ways.nd rfl (.inl rfl) (pe_op op_mulW (pv 2) (pe_call G_count_lists hr (by rfl) T.g_count_lists T.F_count_lists.kp T.b_count_lists .nil pass0 (pa_cons (pv 0) (pa_cons (pv 4) (pa_cons (pv 5) pa_nil))))))))
    (pss_one (ps_ret (pv 2))))), ?_⟩
    obtain ⟨hb, hT, hn, hl, hB, k⟩ := hw
    walk_at "hs"
    refine ⟨⟨_, hb⟩, for_list (xs := zs) (fun i σ H' => H' = H ∧ ∃ (x3 x4 x5 : Option V), σ = [some (.int n), some (.ref b), some (.int (ways n (ts.take i))), x3, x4, x5]) ⟨rfl, _, _, _, rfl⟩ (fun i σ H' _ ⟨e, _⟩ => e ▸ hb) ?_ ?_⟩
    · rintro i x σ H1 hi ⟨rfl, x3, x4, x5, rfl⟩
      obtain ⟨q, p, rfl, hp, hq⟩ := hT.at hi
      have hpB := hB p (List.mem_of_getElem? hp)
      have il := (List.getElem?_eq_some_iff.mp hp).1
      have w1 := ways_lt hn (ts := ts.take i) (fun t h => (hB t (List.mem_of_mem_take h)).1)
      rw [List.length_take, Nat.min_eq_left (by omega)] at w1
      have w2 := lstN_lt (t := p.2.2) hn hpB.1
      walk_at "hs"
      refine ⟨n, p.2.1, p.2.2, rfl, hn, hpB.1, hpB.2.1, hpB.2.2, ?_⟩
      walk_at "hs"
      refine ⟨wide_mul (a := 10001 * i + 1) (b := 10001) w1 w2 (by omega) (by decide) (by omega), ?_⟩
      walk_at "hs"
      refine ⟨rfl, some (.int p.1), some (.int p.2.1), some (.int p.2.2), ?_⟩
      rw [ways_take hp]
      rfl
    · rintro σ H1 ⟨rfl, x3, x4, x5, rfl⟩
      rw [hT.len, List.take_length]
      walk_at "hs"
      exact k
def sp_count_fitting (K : PySem.W.Frag) : Sp := fun vs H Q _ => ∃ (b : Addr) (zs : List V) (ps : List (Int × Int)) (n : Nat) (l : Int), vs = [.int n, .int l, .ref b] ∧ (0 ≤ l ∧ l < 2 ^ 150 ∧ n ≤ 50 ∧ SqL K H b zs ∧ HS.Prs H zs ps ∧ ChOk 0 ps ∧ ps.length ≤ 25 ∧ (∀ p ∈ ps, p.1 < 2 ^ 150 ∧ -(2 ^ 150) < p.2 ∧ p.2 < 2 ^ 150) ∧ (∀ t ∈ plc n 1 (l - n) ps, t.2.1 < 2 ^ 200 ∧ -(2 ^ 200) < t.2.1 ∧ t.2.2 < 2 ^ 200) ∧ ∀ H', HS.Keep (fun _ => False) H H' → Q (.int (ways n (plc n 1 (l - n) ps))) H')
theorem ok_count_fitting (T : Txt K mg A) : FnOk P w K mg base CX0 3 A.a_count_fitting A.d_count_fitting ["chapters", "lines", "chain"] (sp_count_fitting K) := by
  have G_check_demands : FnOk P w K mg base CX0 2 A.a_check_demands A.d_check_demands ["chapters", "lines", "chain"] (sp_check_demands K) := ok_check_demands T
  have G_multiply_ways : FnOk P w K mg base CX0 2 A.a_multiply_ways A.d_multiply_ways ["chapters", "places"] (sp_multiply_ways K) := ok_multiply_ways T
  have G_list_places : FnOk P w K mg base CX0 1 A.a_list_places A.d_list_places ["chapters", "lines", "chain"] (sp_list_places K) := ok_list_places T
  refine T.F_count_fitting.ok sc_count_fitting (fun vs H Q E h => ?_) (fun cdv A0 outer s H vs Q E hr h => ?_)
  · obtain ⟨b, zs, ps, n, l, rfl, hw⟩ := h
    rfl
  · obtain ⟨b, zs, ps, n, l, rfl, hw⟩ := h
    refine ⟨_, (pss_cons (ps_expr (pe_call G_check_demands hr (by rfl) T.g_check_demands T.F_check_demands.kp T.b_check_demands .nil pass0 (pa_cons (pv 0) (pa_cons (pv 1) (pa_cons (pv 2) pa_nil)))))
    (pss_one (ps_ret (pe_call G_multiply_ways hr (by rfl) T.g_multiply_ways T.F_multiply_ways.kp T.b_multiply_ways .nil pass0 (pa_cons (pv 0) (pa_cons (pe_call G_list_places (hr.mono (by decide)) (by rfl) T.g_list_places T.F_list_places.kp T.b_list_places .nil pass0 (pa_cons (pv 0) (pa_cons (pv 1) (pa_cons (pv 2) pa_nil)))) pa_nil)))))), ?_⟩
    obtain ⟨l0, l1, hn, hb, hP, hc, hl, hB, hB2, k⟩ := hw
    walk_at "hs"
    refine ⟨b, zs, ps, n, l, rfl, by omega, l0, hb, hP, hc, fun p h => (hB p h).1, fun H1 K1 => ?_⟩
    have hb1 := K1.sq hb id
    have hP1 := HS.Prs.same hP K1
    walk_at "hs"
    refine ⟨b, zs, ps, n, l, rfl, hb1, hP1, hc, by omega, hB, by omega, by omega, fun H2 p us K2 hp0 hp hT => ?_⟩
    walk_at "hs"
    refine ⟨p, us, _, n, rfl, HS.sq hp, hT, hn, by rw [plc_len]; omega, hB2, ?_⟩
    exact k _ (K1.trans K2)
def sp_contradiction (K : PySem.W.Frag) : Sp := fun vs H Q _ => ∃ (b : Addr) (zs : List V) (ps : List (Int × Int)) (n : Nat) (l : Int), vs = [.int n, .int l, .ref b] ∧ (0 ≤ l ∧ l < 2 ^ 150 ∧ n ≤ 50 ∧ SqL K H b zs ∧ HS.Prs H zs ps ∧ ChOk 0 ps ∧ ps.length ≤ 25 ∧ (∀ p ∈ ps, p.1 < 2 ^ 150 ∧ -(2 ^ 150) < p.2 ∧ p.2 < 2 ^ 150) ∧ (dueX n l ps = none → ∀ H', HS.Keep (fun _ => False) H H' → Q .non H') ∧
  (∀ i j, dueX n l ps = some (i, j) → ∀ H' p, HS.Keep (fun _ => False) H H' → H p = none → H' p = some (.tup [.int i, .int j]) → Q (.ref p) H'))
theorem ok_contradiction (T : Txt K mg A) : FnOk P w K mg base CX0 3 A.a_contradiction A.d_contradiction ["chapters", "lines", "chain"] (sp_contradiction K) := by
  have G_check_demands : FnOk P w K mg base CX0 2 A.a_check_demands A.d_check_demands ["chapters", "lines", "chain"] (sp_check_demands K) := ok_check_demands T
  have G_has_book : FnOk P w K mg base CX0 1 A.a_has_book A.d_has_book ["chapters", "many"] (sp_has_book K) := ok_has_book T
  have G_list_places : FnOk P w K mg base CX0 1 A.a_list_places A.d_list_places ["chapters", "lines", "chain"] (sp_list_places K) := ok_list_places T
  refine T.F_contradiction.ok sc_contradiction (fun vs H Q E h => ?_) (fun cdv A0 outer s H vs Q E hr h => ?_)
  · obtain ⟨b, zs, ps, n, l, rfl, hw⟩ := h
    rfl
  · obtain ⟨b, zs, ps, n, l, rfl, hw⟩ := h
    refine ⟨_, (pss_cons (ps_expr (pe_call G_check_demands hr (by rfl) T.g_check_demands T.F_check_demands.kp T.b_check_demands .nil pass0 (pa_cons (pv 0) (pa_cons (pv 1) (pa_cons (pv 2) pa_nil)))))
    (pss_cons (ps_if (pt_not (pt_val (pe_call G_has_book (hr.mono (by decide)) (by rfl) T.g_has_book T.F_has_book.kp T.b_has_book .nil pass0 (pa_cons (pv 0) (pa_cons (pv 1) pa_nil)))))
      (pss_one (ps_ret (pe_tup (pa_cons (pe_un un_neg pe_int) (pa_cons (pe_un un_neg pe_int) pa_nil)))))
      pss_nil)
    (pss_cons (ps_set (i := 3) sc_contradiction.nd rfl (.inl rfl) (pe_call G_list_places (hr.mono (by decide)) (by rfl) T.g_list_places T.F_list_places.kp T.b_list_places .nil pass0 (pa_cons (pv 0) (pa_cons (pv 1) (pa_cons (pv 2) pa_nil)))))
    (pss_cons (ps_for PassesOwn.never rfl (HS.kien K (pi_enum (by rfl) T.z_enumerate (pa_cons (pv 2) pa_nil))) (HS.kgt K (pg_tup rfl (pgs_cons (pg_name (i := 4) sc_contradiction.nd rfl (.inl rfl)) (pgs_cons (HS.kgt K (pg_tup rfl (pgs_cons (pg_name (i := 5) sc_contradiction.nd rfl (.inl rfl)) (pgs_cons (pg_name (i := 6) sc_contradiction.nd rfl (.inl rfl)) pgs_nil)))) pgs_nil))))
      (pss_cons (ps_asg (pe_ix (HS.ixl K) (pv 3) (pv 4) (fun _ _ => rfl)) (HS.kgt K (pg_tup rfl (pgs_cons (pg_name (i := 5) sc_contradiction.nd rfl (.inl rfl)) (pgs_cons (pg_name (i := 7) sc_contradiction.nd rfl (.inl rfl)) (pgs_cons (pg_name (i := 8) sc_contradiction.nd rfl (.inl rfl)) pgs_nil))))))
    (pss_one (ps_if (PW.pt (pw_or (pt_not (pt_chain op_le op_le pe_int (pv 8) (pe_op op_mulW (pv 0) (pe_op op_sub (pv 7) pe_int)))) (pw_or1 (pt_not (pt_val (pe_call G_has_book (hr.mono (by decide)) (by rfl) T.g_has_book T.F_has_book.kp T.b_has_book .nil pass0 (pa_cons (pv 0) (pa_cons (pv 6) pa_nil))))))))
      (pss_one (ps_ret (pe_tup (pa_cons (pe_op op_sub (pv 4) pe_int) (pa_cons (pv 4) pa_nil)))))
      pss_nil))))
    (pss_one (ps_ret pe_non)))))), ?_⟩
    obtain ⟨l0, l1, hn, hb, hP, hc, hl, hB, kN, kS⟩ := hw
    walk_at "hs"
    refine ⟨b, zs, ps, n, l, rfl, by omega, l0, hb, hP, hc, fun p h => (hB p h).1, fun H1 K1 => ?_⟩
    have hb1 := K1.sq hb id
    have hP1 := HS.Prs.same hP K1
    walk_at "hs"
    refine ⟨n, l, rfl, ?_⟩
    walk_at "hs"
    refine HS.itn (fun h => ?_) (fun h => ?_)
    · walk_at "hs"
      intro r hr1
      exact kS (-1) (-1) (if_neg h) _ r (K1.trans (.new hr1)) (K1.free hr1 id) upd_same
    have eX : dueX n l ps = dueC n 1 (l - n) ps 0 := if_pos h
    rw [eX] at kN kS
    walk_at "hs"
    refine ⟨b, zs, ps, n, l, rfl, hb1, hP1, hc, by omega, hB, by omega, by omega, fun H2 P us K2 hP0 hPl hT => ?_⟩
    have hb2 := K2.sq hb1 id
    have hP2 := HS.Prs.same hP1 K2
    walk_at "hs"
    refine ⟨b, zs, rfl, hb2, for_it walk_enum (fun i σ H' => HS.Keep (fun _ => False) H2 H' ∧ ∃ (size rest : Int) (x4 x5 x6 x7 x8 : Option V), σ = [some (.int n), some (.int l), some (.ref b), some (.ref P), x4, x5, x6, x7, x8] ∧ (plc n 1 (l - n) ps).drop i = plc n size rest (ps.drop i) ∧ dueC n size rest (ps.drop i) i = dueC n 1 (l - n) ps 0 ∧ 1 ≤ size ∧ size < 2 ^ 150 ∧ (n = 0 → rest = 0) ∧ (size = 1 ∨ ChOk size (ps.drop i))) ⟨.refl, 1, l - n, _, _, _, _, _, rfl, rfl, rfl, by decide, by decide, by omega, .inl rfl⟩ (fun i σ H' _ ⟨K', _⟩ => K'.sq hb2 id) ?_ ?_⟩
    · rintro i x σ H3 H4 hi ⟨K3, size, rest, x4, x5, x6, x7, x8, rfl, hpl, hdu, s1, s2, hn0, hch⟩ ⟨T1, u, v, rfl, hT1, rfl, e1, e2⟩
      cases e1
      obtain ⟨q, p, rfl, hp, hq⟩ := HS.Prs.at hP2 e2
      have hil := (List.getElem?_eq_some_iff.mp hp).1
      have hpB := hB p (List.mem_of_getElem? hp)
      have hp0 := chok_pos hc (Int.le_refl 0) p (List.mem_of_getElem? hp)
      have ed : ps.drop i = p :: ps.drop (i + 1) := by rw [List.drop_eq_getElem_cons hil]; congr 1; rw [List.getElem?_eq_getElem hil] at hp; exact Option.some.inj hp
      rw [ed, plc] at hpl
      rw [ed, dueC] at hdu
      have KT : HS.Keep (fun _ => False) H3 (upd H3 T1 (.tup [.int (i : Nat), .ref q])) := .new hT1
      have K4 := K3.trans KT
      have hq2 := K4 _ _ hq id
      have hT2 := upd_same (H := H3) (a := T1) (o := .tup [.int (i : Nat), .ref q])
      generalize upd H3 T1 (.tup [.int (i : Nat), .ref q]) = H4 at KT hq2 hT2 K4 ⊢
      have hpi : (plc n 1 (l - n) ps)[i]? = some (size, p.1 / size, rest - p.1 / size * (p.2 - n)) := by
        have := congrArg (fun z => z[0]?) hpl
        have e : ((plc n 1 (l - n) ps).drop i)[0]? = (plc n 1 (l - n) ps)[i]? := by rw [List.getElem?_drop]; rfl
        rw [← e, hpl]; rfl
      have hui : ∃ t, us[i]? = some (.ref t) ∧ H2 t = some (.tup [.int size, .int (p.1 / size), .int (rest - p.1 / size * (p.2 - n))]) := by
        have ul := hT.len
        have lt : i < us.length := by rw [ul]; exact (List.getElem?_eq_some_iff.mp hpi).1
        obtain ⟨t, z, e1, e2', e3⟩ := hT.at (i := i) (List.getElem?_eq_getElem lt)
        rw [hpi] at e2'
        have ez := Option.some.inj e2'
        subst ez
        exact ⟨t, by rw [List.getElem?_eq_getElem lt, e1], e3⟩
      obtain ⟨t, hut, ht⟩ := hui
      have ht2 := K4 _ _ ht id
      have hPl2 := K4 _ _ hPl id
      have q0 : 0 ≤ p.1 / size := Int.ediv_nonneg (by omega) (by omega)
      have q1 : p.1 / size ≤ p.1 := Int.ediv_le_self _ (by omega)
      walk_at "hs"
      refine ⟨P, us, (i : Nat), .ref t, rfl, rfl, HS.sq hPl2, at_of (j := i) rfl hut, ?_⟩
      have qq1 : 1 ≤ p.1 / size := by
        have : size ≤ p.1 := by
          rcases hch with h | h
          · omega
          · rw [ed] at h; have := h.1; omega
        exact (Int.le_ediv_iff_mul_le (by omega)).mpr (by omega)
      have cdr := chok_drop hc hp
      generalize hqq : p.1 / size = q' at hpl hdu ht2 q0 q1 qq1 ⊢
      generalize htt : rest - q' * (p.2 - n) = tt at hpl hdu ht2 ⊢
      have bad : (p.2 - n < 0 ∨ ¬ (0 ≤ tt ∧ tt ≤ (n : Int) * (q' - 1))) → ∀ r H', HS.Keep (fun _ => False) H4 H' → H4 r = none → H' r = some (.tup [.int ((i : Int) - 1), .int (i : Nat)]) → Q (.ref r) H' := fun hbad r H' K' hr0 hr1 => by
        rw [if_pos hbad] at hdu
        exact kS _ _ hdu.symm _ r ((K1.trans K2).trans (K4.trans K')) (((K1.trans K2).trans K4).free hr0 id) hr1
      walk_at "hs"
      refine HS.itd (fun h1 => ?_) (fun h1 => ?_)
      · walk_at "hs"
        refine ⟨wide_mul (a := 6) (b := 151) (by omega) (by omega) (by decide) (by decide) (by decide), ?_⟩
        walk_at "hs"
        refine HS.itn (fun h2 => ?_) (fun h2 => ?_)
        · walk_at "hs"
          intro r hr1
          exact bad (.inr fun z => h2 z.2) r _ (.new hr1) hr1 upd_same
        · walk_at "hs"
          refine ⟨n, p.2, rfl, ?_⟩
          walk_at "hs"
          have nb := no_book (n := n) (more := p.2 - n) qq1 hn0 (by omega)
          refine HS.itn (fun h3 => ?_) (fun h3 => ?_)
          · walk_at "hs"
            intro r hr1
            exact bad (.inl (nb.mp h3)) r _ (.new hr1) hr1 upd_same
          · have more0 : ¬ (p.2 - n < 0) := fun z => nb.mpr z h3
            rw [if_neg (by omega)] at hdu
            have hpl' : (plc n 1 (l - n) ps).drop (i + 1) = plc n p.1 (p.2 - n) (ps.drop (i + 1)) := by
              have := congrArg (fun z => z.drop 1) hpl
              have e : ((plc n 1 (l - n) ps).drop i).drop 1 = (plc n 1 (l - n) ps).drop (i + 1) := by rw [List.drop_drop]
              rw [← e, hpl]; rfl
            walk_at "hs"
            exact ⟨K4, p.1, p.2 - n, _, _, _, _, _, rfl, hpl', by push_cast; exact hdu, by omega, hpB.1, fun z => by rcases h3 with h | h <;> omega, .inr cdr⟩
      · walk_at "hs"
        intro r hr1
        exact bad (.inr fun z => h1 z.1) r _ (.new hr1) hr1 upd_same
    · rintro σ H3 ⟨K3, size, rest, x4, x5, x6, x7, x8, rfl, hpl, hdu, _⟩
      rw [hP.len, List.drop_length, dueC] at hdu
      walk_at "hs"
      exact kN hdu.symm _ ((K1.trans K2).trans K3)
def sp__law_sizes (K : PySem.W.Frag) : Sp := fun vs H Q _ => ∃ (s : Addr) (m q : Int) (n : Nat), vs = [.ref s, .int m, .int q] ∧ (Rng H s n ∧ 0 ≤ m ∧ m ≤ 20 ∧ 2 ≤ q ∧ q ≤ 20 ∧ n < 2 ^ 32 ∧ ∀ H' p (ls : List Int), HS.Keep (fun a => a = s) H H' → H p = none → p ≠ s → H' p = some (.lst (ls.map V.int)) → ls.length ≤ 20 → Up 0 ls → Rat 1 ls → (∀ x ∈ ls, 1 ≤ x ∧ x < 2 ^ 88) → Rng H' s (n + 30) → Q (.ref p) H')
theorem ok__law_sizes (T : Txt K mg A) : FnOk P w K mg base CX0 2 A.a__law_sizes A.d__law_sizes ["rng", "many", "most"] (sp__law_sizes K) := by
  have G__law_draw : FnOk P w K mg base CX0 1 A.a__law_draw A.d__law_draw ["rng", "limit"] (sp__law_draw K) := ok__law_draw T
  refine T.F__law_sizes.ok sc__law_sizes (fun vs H Q E h => ?_) (fun cdv A0 outer s H vs Q E hr h => ?_)
  · obtain ⟨s, m, q, n, rfl, hw⟩ := h
    rfl
  · obtain ⟨s, m, q, n, rfl, hw⟩ := h
    refine ⟨_, (pss_cons (ps_par (i := 3) (j := 4) rfl sc__law_sizes.nd rfl rfl (by decide) rfl rfl (pa_cons (pe_lst pa_nil) (pa_cons (pe_op op_add pe_int (pe_op op_mulW (pe_call G__law_draw hr (by rfl) T.g__law_draw T.F__law_draw.kp T.b__law_draw .nil pass0 (pa_cons (pv 0) (pa_cons (pv 2) pa_nil))) (pe_call G__law_draw hr (by rfl) T.g__law_draw T.F__law_draw.kp T.b__law_draw .nil pass0 (pa_cons (pv 0) (pa_cons pe_int pa_nil))))) pa_nil)) (by rfl))
    (pss_cons (ps_for PassesOwn.never rfl (pi_range1 (by rfl) T.z_range (pa_cons (pe_call G__law_draw hr (by rfl) T.g__law_draw T.F__law_draw.kp T.b__law_draw .nil pass0 (pa_cons (pv 0) (pa_cons (pe_op op_add (pv 1) pe_int) pa_nil))) pa_nil)) (pg_name (i := 5) sc__law_sizes.nd rfl (.inl rfl))
      (pss_cons (ps_expr (HS.kbm K (pe_bm PySem.F.plainAttrs_list PySem.F.slot_list_append PySem.F.type_list_append mt_append (pv 3) (pa_cons (pv 4) pa_nil))))
    (pss_one (ps_set (i := 4) sc__law_sizes.nd rfl (.inl rfl) (pe_op op_mulW (pv 4) (pe_op op_add pe_int (pe_call G__law_draw hr (by rfl) T.g__law_draw T.F__law_draw.kp T.b__law_draw .nil pass0 (pa_cons (pv 0) (pa_cons (pe_op op_sub (pv 2) pe_int) pa_nil)))))))))
    (pss_one (ps_ret (pv 3))))), ?_⟩
    obtain ⟨S0, m0, m1, q0, q1, hn, k⟩ := hw
    walk_at "hs"
    intro F hF
    have hFs := S0.ne hF
    walk_at "hs"
    refine ⟨s, q, n, rfl, S0.new hF, by omega, by omega, by omega, fun H1 d K1 S1 d0 d1 => ?_⟩
    walk_at "hs"
    refine ⟨s, 2, _, rfl, S1, by decide, by decide, by omega, fun H2 e K2 S2 e0 e1 => ?_⟩
    walk_at "hs"
    refine ⟨HS.mulW 62 62 d0 (by omega) e0 (by omega) (by decide) (by decide) (by decide), ?_⟩
    walk_at "hs"
    have de : 0 ≤ d * e ∧ d * e ≤ 19 := by
      have : e = 0 ∨ e = 1 := by omega
      rcases this with z | z
      · subst z; simp
      · subst z; rw [Int.mul_one]; omega
    have hF2 := K2 _ _ (K1 _ _ (upd_same (H := H) (a := F)) (by walk_at "ns")) (by walk_at "ns")
    have K02 : HS.Keep (fun a => a = s) H H2 := (HS.Keep.new hF).trans (K1.trans K2)
    refine ⟨s, m + 1, _, rfl, S2, by omega, by omega, by omega, fun H3 c K3 S3 c0 c1 => ?_⟩
    walk_at "hs"
    refine ⟨by omega, by omega, for_range (n := c.toNat) (fun i σ H' => HS.Keep (fun a => a = s) H H' ∧ Rng H' s (n + 3 + i) ∧ ∃ (ls : List Int) (wide : Int) (x5 : Option V), σ = [some (.ref s), some (.int m), some (.int q), some (.ref F), some (.int wide), x5] ∧ H' F = some (.lst (ls.map V.int)) ∧ ls.length = i ∧ Up 0 ls ∧ (∀ x, ((0 : Int) :: ls).getLast? = some x → x < wide ∧ (0 < x → wide % x = 0)) ∧ Rat 1 ls ∧ (∀ x, ((1 : Int) :: ls).getLast? = some x → wide ≤ 20 * x) ∧ (∀ x ∈ ls, 1 ≤ x ∧ x < 2 ^ 88) ∧ 1 ≤ wide ∧ wide ≤ 21 ^ (i + 1)) ⟨K02.trans K3, S3, [], 1 + d * e, _, rfl, K3 _ _ hF2 (by walk_at "ns"), rfl, trivial, fun x hx => by have hx' : (0 : Int) = x := Option.some.inj hx; omega, trivial, fun x hx => by have hx' : (1 : Int) = x := Option.some.inj hx; omega, fun x hx => absurd hx List.not_mem_nil, by omega, by show _ ≤ (21 : Int); omega⟩ ?_ ?_⟩
    · rintro i σ H4 hi ⟨K4, S4, ls, wide, x5, rfl, hF4, hll, hU, hL, hR, hW, hB, w1, w2⟩
      have p21 : (21 : Int) ^ (i + 1) ≤ 21 ^ 20 := by
        have : (21 : Nat) ^ (i + 1) ≤ 21 ^ 20 := Nat.pow_le_pow_right (by decide) (by omega)
        exact_mod_cast this
      have p88 : (21 : Int) ^ 20 < 2 ^ 88 := by decide
      walk_at "hs"
      refine ⟨s, q - 1, _, rfl, S4.put hFs, by omega, by omega, by omega, fun H5 f K5 S5 f0 f1 => ?_⟩
      have hF5 := K5 _ _ (upd_same (H := H4) (a := F)) (by walk_at "ns")
      walk_at "hs"
      refine ⟨HS.mulW 88 62 (by omega) (by omega) (by omega) (by omega) (by decide) (by decide) (by decide), ?_⟩
      walk_at "hs"
      have hw2 : wide ≤ wide * (2 + f) := by have := Int.mul_le_mul_of_nonneg_left (show (1 : Int) ≤ 2 + f by omega) (show 0 ≤ wide by omega); omega
      have hw3 : wide * 2 ≤ wide * (2 + f) := Int.mul_le_mul_of_nonneg_left (by omega) (by omega)
      refine ⟨(K4.put hF).trans K5, S5.up (by omega), ls ++ [wide], wide * (2 + f), _, rfl, by rw [hF5, List.map_append]; rfl, by rw [List.length_append, hll]; rfl, up_app hU hL, fun x hx => ?_, rat_app hR hW, fun x hx => ?_, fun x hx => ?_, by omega, ?_⟩
      · rw [show (0 : Int) :: (ls ++ [wide]) = ((0 : Int) :: ls) ++ [wide] from rfl, List.getLast?_concat] at hx
        have hx' := Option.some.inj hx
        subst hx'
        exact ⟨by omega, fun _ => Int.mul_emod_right wide (2 + f)⟩
      · rw [show (1 : Int) :: (ls ++ [wide]) = ((1 : Int) :: ls) ++ [wide] from rfl, List.getLast?_concat] at hx
        have hx' := Option.some.inj hx
        subst hx'
        have := Int.mul_le_mul_of_nonneg_left (show (2 : Int) + f ≤ 20 by omega) (show 0 ≤ wide by omega)
        omega
      · rcases List.mem_append.mp hx with hx | hx
        · exact hB x hx
        · rw [List.mem_singleton] at hx
          omega
      · rw [Int.pow_succ]
        exact Int.mul_le_mul w2 (by omega) (by omega) (Int.pow_nonneg (by decide))
    · rintro σ H4 ⟨K4, S4, ls, wide, x5, rfl, hF4, hll, hU, hL, hR, hW, hB, w1, w2⟩
      walk_at "hs"
      exact k _ F ls K4 hF hFs hF4 (by omega) hU hR hB (S4.up (by omega))
def sp__law_ways (K : PySem.W.Frag) : Sp := fun vs H Q _ => ∃ (n : Nat) (m : Int), vs = [.int n, .int m] ∧ (n ≤ 50 ∧ 1 ≤ m ∧ m ≤ 100 ∧ ∀ H' p, HS.Keep (fun _ => False) H H' → H p = none → H' p = some (.lst ((rowW m.toNat n).map V.int)) → Q (.ref p) H')
theorem ok__law_ways (T : Txt K mg A) : FnOk P w K mg base CX0 1 A.a__law_ways A.d__law_ways ["many", "base"] (sp__law_ways K) := by
  refine T.F__law_ways.ok sc__law_ways (fun vs H Q E h => ?_) (fun cdv A0 outer s H vs Q E hr h => ?_)
  · obtain ⟨n, m, rfl, hw⟩ := h
    rfl
  · obtain ⟨n, m, rfl, hw⟩ := h
    refine ⟨_, (pss_cons (ps_set (i := 2) sc__law_ways.nd rfl (.inl rfl) (pe_lst (pa_cons pe_int pa_nil)))
    (pss_cons (ps_for PassesOwn.never rfl (pi_range1 (by rfl) T.z_range (pa_cons (pv 0) pa_nil)) (pg_name (i := 3) sc__law_ways.nd rfl (.inl rfl))
      (pss_cons (ps_set (i := 4) sc__law_ways.nd rfl (.inl rfl) (pe_op op_rep (pe_lst (pa_cons pe_int pa_nil)) (pe_op op_sub (pe_op op_add (pe_callB (HS.klen K) (by rfl) T.z_len PySem.boot_len (pa_cons (pv 2) pa_nil)) (pv 1)) pe_int)))
    (pss_cons (ps_for PassesOwn.never rfl (HS.kien K (pi_enum (by rfl) T.z_enumerate (pa_cons (pv 2) pa_nil))) (HS.kgt K (pg_tup rfl (pgs_cons (pg_name (i := 5) sc__law_ways.nd rfl (.inl rfl)) (pgs_cons (pg_name (i := 6) sc__law_ways.nd rfl (.inl rfl)) pgs_nil))))
      (pss_one (ps_for PassesOwn.never rfl (pi_range1 (by rfl) T.z_range (pa_cons (pv 1) pa_nil)) (pg_name (i := 7) sc__law_ways.nd rfl (.inl rfl))
      (pss_one (ps_asg (pe_op op_add (pe_ix (HS.ixl K) (pv 4) (pe_op op_add (pv 5) (pv 7)) (fun _ _ => rfl)) (pv 6)) (pg_sub (pv 4) (pe_op op_add (pv 5) (pv 7)) set_list))))))
    (pss_one (ps_set (i := 2) sc__law_ways.nd rfl (.inl rfl) (pv 4))))))
    (pss_one (ps_ret (pv 2))))), ?_⟩
    obtain ⟨hn, m1, m2, k⟩ := hw
    obtain ⟨M, rfl⟩ := Int.eq_ofNat_of_zero_le (show 0 ≤ m by omega)
    rw [show (M : Int).toNat = M from rfl] at k
    have W := HS.Wd.nil (H := H) (S := fun _ => False)
    walk_at "hs"
    intro F hF
    generalize hG_F : upd _ F _ = H1
    have Kn_F := HS.upgK hG_F hF
    replace W := W.newG hG_F hF
    clear hG_F hF
    try dsimp only [List.set, List.cons_append, List.nil_append] at W
    walk_at "hs"
    refine ⟨by omega, by omega, for_range (n := n) (fun i σ H' => ∃ F, HS.Wd H H' (fun _ => False) [(F, Eq (.lst ((rowW M i).map V.int)))] ∧ ∃ x3 x4 x5 x6 x7, σ = [some (.int n), some (.int M), some (.ref F), x3, x4, x5, x6, x7]) ⟨F, by rw [rowW_0]; exact W, _, _, _, _, _, rfl⟩ ?_ ?_⟩
    · rintro i σ H2 hi ⟨F, W, x3, x4, x5, x6, x7, rfl⟩
      obtain ⟨f, hf⟩ : ∃ f : Int → Int, f = fun z => Bq M i z := ⟨_, rfl⟩
      have ML : (i + 1) * (M - 1) + 1 = i * (M - 1) + 1 + (M - 1) := by rw [Nat.add_mul, Nat.one_mul]; omega
      have Mi : i * (M - 1) ≤ 50 * 99 := Nat.mul_le_mul (by omega) (by omega)
      walk_at "hs"
      intro z hz
      generalize hG_z : upd _ z _ = H3
      have Kn_z := HS.upgK hG_z hz
      replace W := W.newG hG_z hz
      clear hG_z hz
      try dsimp only [List.set, List.cons_append, List.nil_append] at W
      walk_at "hs"
      refine HS.lenL (W.sq 0 rfl) ?_
      rw [List.length_map, rowW_len]
      walk_at "hs"
      refine HS.rep1 (W.at 1 rfl) (by omega) (by omega) ?_
      rw [show (((i * (M - 1) + 1 : Nat) : Int) + M - 1).toNat = (i + 1) * (M - 1) + 1 by omega, part_new f M]
      intro G hG
      generalize hG_G : upd _ G _ = H4
      have Kn_G := HS.upgK hG_G hG
      replace W := W.newG hG_G hG
      clear hG_G hG
      try dsimp only [List.set, List.cons_append, List.nil_append] at W
      have W := W.sub (l' := [(F, Eq (.lst ((rowW M i).map V.int))), (G, Eq (.lst (((List.range ((i + 1) * (M - 1) + 1)).map (part f M 0 0)).map V.int)))]) (by walk_at "sub")
      walk_at "hs"
      refine ⟨F, _, rfl, W.sq 0 rfl, for_it walk_enum (fun j σ H' => HS.Wd H H' (fun _ => False) [(F, Eq (.lst ((rowW M i).map V.int))), (G, Eq (.lst (((List.range ((i + 1) * (M - 1) + 1)).map (part f M j 0)).map V.int)))] ∧ ∃ x5 x6 x7, σ = [some (.int n), some (.int M), some (.ref F), some (.int (0 + (i : Int))), some (.ref G), x5, x6, x7]) ⟨W, _, _, _, rfl⟩ (fun j σ H' _ ⟨W, _⟩ => W.sq 0 rfl) ?_ ?_⟩
      · rintro j x σ H5 H6 hj ⟨W, x5, x6, x7, rfl⟩ ⟨T1, u, v, rfl, hT1, hG6, e1, e2⟩
        cases e1
        obtain ⟨y, rfl, hy, hjl⟩ := HS.get_int e2
        rw [rowW_len] at hjl
        rw [rowW_at hjl] at hy
        have hy2 : f j = y := by rw [hf]; exact Option.some.inj hy
        replace W := W.newG hG6.symm hT1
        dsimp only [List.cons_append, List.nil_append] at W
        have hT2 := W.at 2 rfl
        walk_at "hs"
        refine ⟨by omega, by omega, for_range (n := M) (fun d σ H' => HS.Wd H H' (fun _ => False) [(F, Eq (.lst ((rowW M i).map V.int))), (G, Eq (.lst (((List.range ((i + 1) * (M - 1) + 1)).map (part f M j d)).map V.int)))] ∧ ∃ x7, σ = [some (.int n), some (.int M), some (.ref F), some (.int (0 + (i : Int))), some (.ref G), some (.int (j : Nat)), some (.int y), x7]) ⟨W.take 2, _, rfl⟩ ?_ ?_⟩
        · rintro d σ H7 hd ⟨W, x7, rfl⟩
          have jd : j + d < (i + 1) * (M - 1) + 1 := by omega
          walk_at "hs"
          refine HS.ixZ (W.sq 1 rfl) (by omega) (by rw [show ((j : Int) + (0 + (d : Int))).toNat = j + d by omega]; exact part_get jd) ?_
          walk_at "hs"
          refine HS.setL (j := j + d) (W.at 1 rfl) (by rw [List.length_map, List.length_map, List.length_range, show (j : Int) + (0 + (d : Int)) = ((j + d : Nat) : Int) by omega]; exact ixN_nat jd) ?_
          have ps := part_set (f := f) (m := M) jd
          rw [hy2] at ps
          rw [ps]
          generalize hG_G : upd _ G _ = H8
          replace W := W.putG 1 rfl hG_G
          clear hG_G
          try dsimp only [List.set, List.cons_append, List.nil_append] at W
          exact ⟨W, _, rfl⟩
        · rintro σ H7 ⟨W, x7, rfl⟩
          walk_at "hs"
          have e : part f M j M = part f M (j + 1) 0 := funext fun s => part_next f M j s
          rw [e] at W
          exact ⟨W, _, _, _, rfl⟩
      · rintro σ H5 ⟨W, x5, x6, x7, rfl⟩
        walk_at "hs"
        rw [List.length_map, rowW_len, hf, part_row (by omega)] at W
        exact ⟨G, W.sub (by walk_at "sub"), _, _, _, _, _, rfl⟩
    · rintro σ H2 ⟨F, W, x3, x4, x5, x6, x7, rfl⟩
      walk_at "hs"
      exact k _ F W.kp ((W.fr _ (List.mem_of_getElem? (i := 0) rfl)).resolve_left id) (W.at 0 rfl)
def sp__law_above (K : PySem.W.Frag) : Sp := fun vs H Q _ => ∃ (n tt : Nat), vs = [.int n, .int tt] ∧ (n ≤ 50 ∧ tt ≤ 5000 ∧ ∀ H', HS.Keep (fun _ => False) H H' → Q (.int (lstN n ((tt : Int) + 1) tt)) H')
theorem ok__law_above (T : Txt K mg A) : FnOk P w K mg base CX0 1 A.a__law_above A.d__law_above ["many", "total"] (sp__law_above K) := by
  refine T.F__law_above.ok sc__law_above (fun vs H Q E h => ?_) (fun cdv A0 outer s H vs Q E hr h => ?_)
  · obtain ⟨n, tt, rfl, hw⟩ := h
    rfl
  · obtain ⟨n, tt, rfl, hw⟩ := h
    refine ⟨_, (pss_cons (ps_set (i := 2) sc__law_above.nd rfl (.inl rfl) (pe_op op_cat (pe_lst (pa_cons pe_int pa_nil)) (pe_op op_rep (pe_lst (pa_cons pe_int pa_nil)) (pv 1))))
    (pss_cons (ps_for PassesOwn.never rfl (pi_range1 (by rfl) T.z_range (pa_cons (pv 0) pa_nil)) (pg_name (i := 3) sc__law_above.nd rfl (.inl rfl))
      (pss_one (ps_for PassesOwn.never rfl (pi_range2 (by rfl) T.z_range (pa_cons pe_int (pa_cons (pe_op op_add (pv 1) pe_int) pa_nil))) (pg_name (i := 4) sc__law_above.nd rfl (.inl rfl))
      (pss_one (ps_asg (pe_op op_add (pe_ix (HS.ixl K) (pv 2) (pv 4) (fun _ _ => rfl)) (pe_ix (HS.ixl K) (pv 2) (pe_op op_sub (pv 4) pe_int) (fun _ _ => rfl))) (pg_sub (pv 2) (pv 4) set_list))))))
    (pss_one (ps_ret (pe_ix (HS.ixl K) (pv 2) (pv 1) (fun _ _ => rfl)))))), ?_⟩
    obtain ⟨hn, hT, k⟩ := hw
    have W := HS.Wd.nil (H := H) (S := fun _ => False)
    walk_at "hs"
    intro y hy
    generalize hG_y : upd _ y _ = H1
    have Kn_y := HS.upgK hG_y hy
    replace W := W.newG hG_y hy
    clear hG_y hy
    try dsimp only [List.set, List.cons_append, List.nil_append] at W
    walk_at "hs"
    intro z hz
    generalize hG_z : upd _ z _ = H2
    have Kn_z := HS.upgK hG_z hz
    replace W := W.newG hG_z hz
    clear hG_z hz
    try dsimp only [List.set, List.cons_append, List.nil_append] at W
    walk_at "hs"
    refine HS.rep1 (W.at 1 rfl) (by omega) (by omega) ?_
    intro R hR
    generalize hG_R : upd _ R _ = H3
    have Kn_R := HS.upgK hG_R hR
    replace W := W.newG hG_R hR
    clear hG_R hR
    try dsimp only [List.set, List.cons_append, List.nil_append] at W
    refine HS.cat (W.at 0 rfl) (W.at 2 rfl) ?_
    walk_at "hs"
    intro F hF
    generalize hG_F : upd _ F _ = H4
    have Kn_F := HS.upgK hG_F hF
    replace W := W.newG hG_F hF
    clear hG_F hF
    try dsimp only [List.set, List.cons_append, List.nil_append] at W
    have e0 : V.int 1 :: List.replicate (tt : Int).toNat (V.int 0) = (rowA 0 1 tt).map V.int := by
      rw [rowA_0, List.map_cons, List.map_replicate]
      rfl
    rw [e0] at W
    replace W := W.sub (l' := [(F, Eq (.lst ((rowA 0 1 tt).map V.int)))]) (by walk_at "sub")
    walk_at "hs"
    refine ⟨by omega, by omega, for_range (n := n) (fun i σ H' => HS.Wd H H' (fun _ => False) [(F, Eq (.lst ((rowA i 1 tt).map V.int)))] ∧ ∃ x3 x4, σ = [some (.int n), some (.int tt), some (.ref F), x3, x4]) ⟨W, _, _, rfl⟩ ?_ ?_⟩
    · rintro i σ H5 hi ⟨W, x3, x4, rfl⟩
      walk_at "hs"
      refine ⟨by omega, ?_⟩
      rw [show ((tt : Int) + 1 - 1).toNat = tt by omega]
      refine for_range (lo := 1) (n := tt) (fun j σ H' => HS.Wd H H' (fun _ => False) [(F, Eq (.lst ((rowA i (j + 1) tt).map V.int)))] ∧ ∃ x4, σ = [some (.int n), some (.int tt), some (.ref F), some (.int (0 + (i : Int))), x4]) ⟨W, _, rfl⟩ ?_ ?_
      · rintro j σ H6 hj ⟨W, x4, rfl⟩
        walk_at "hs"
        refine HS.ixZ (W.sq 0 rfl) (by omega) (by rw [show (1 + (j : Int)).toNat = j + 1 by omega, rowA_at (by omega), if_neg (by omega)]) ?_
        walk_at "hs"
        refine HS.ixZ (W.sq 0 rfl) (by omega) (by rw [show (1 + (j : Int) - 1).toNat = j by omega, rowA_at (by omega), if_pos (by omega)]) ?_
        walk_at "hs"
        refine HS.setL (j := j + 1) (W.at 0 rfl) (by rw [List.length_map, rowA_len, show 1 + (j : Int) = ((j + 1 : Nat) : Int) by omega]; exact ixN_nat (by omega)) ?_
        have e := rowA_up (k := i) (i := j + 1) (T := tt) (by omega) (by omega)
        rw [show ((j + 1 : Nat) : Int) - 1 = j by omega] at e
        rw [← List.map_set, e]
        generalize hG_F : upd _ F _ = H7
        replace W := W.putG 0 rfl hG_F
        clear hG_F
        try dsimp only [List.set, List.cons_append, List.nil_append] at W
        exact ⟨W, _, rfl⟩
      · rintro σ H6 ⟨W, x4, rfl⟩
        walk_at "hs"
        rw [rowA_next] at W
        exact ⟨W, _, _, rfl⟩
    · rintro σ H5 ⟨W, x3, x4, rfl⟩
      walk_at "hs"
      have e : (rowA n 1 tt)[tt]? = some (lstN n ((tt : Int) + 1) tt) := by
        rw [rowA_at (Nat.le_refl tt), lstN_free (by omega) (by omega)]
        by_cases h : tt < 1
        · obtain rfl : tt = 0 := by omega
          rw [if_pos (by decide)]
          show some (An (n + 1) 0) = some (An n 0)
          rw [An_0, An_0]
        · rw [if_neg h]
      refine HS.ixZ (W.sq 0 rfl) (by omega) (by rw [show (tt : Int).toNat = tt from rfl]; exact e) ?_
      exact k _ W.kp
theorem lessQ_one (ls : List Int) : lessQ ls 1 = ls.map fun x => x - 1 := List.map_congr_left fun x _ => Int.ediv_one _
theorem lessQ_sum {ls : List Int} {u : Int} (h : ∀ x ∈ ls, 1 ≤ x) (hu : 1 ≤ u) : 0 ≤ (lessQ ls u).sum := by
  have g := lessQ_nonneg h hu
  generalize lessQ ls u = ys at g
  induction ys with
  | nil => exact Int.le_refl 0
  | cons y t ih => rw [List.sum_cons]; have := g y List.mem_cons_self; have := ih fun z hz => g z (List.mem_cons_of_mem _ hz); omega
/-- the rows that the dict holds -/
def Known (H : Hp) (n : Nat) (kvs : List (Key × V)) : Prop := ∀ (k : Int) (v : V), valV kvs (.inl k) = some v → ∃ p, v = .ref p ∧ H p = some (.lst ((rowW k.toNat n).map V.int))
theorem Known.same {H H' : Hp} {n : Nat} {kvs : List (Key × V)} (h : Known H n kvs) (k : HS.Keep (fun _ => False) H H') : Known H' n kvs := fun j v e => by
  obtain ⟨p, e1, e2⟩ := h j v e
  exact ⟨p, e1, k _ _ e2 id⟩
theorem Known.at {H : Hp} {n : Nat} {kvs ks : List (Key × V)} {D : Addr} {o : HO} (h : Known H n kvs) (hD : H D = some (.dK ks)) : Known (upd H D o) n kvs := fun j v e => by
  obtain ⟨p, e1, e2⟩ := h j v e
  refine ⟨p, e1, ?_⟩
  rw [upd_ne (fun z => by rw [z, hD] at e2; cases e2)]
  exact e2
theorem Known.put {H : Hp} {n : Nat} {kvs : List (Key × V)} {q : Int} {p : Addr} (h : Known H n kvs) (hp : H p = some (.lst ((rowW q.toNat n).map V.int))) : Known H n (putK kvs (.inl q) (.ref p)) := fun j v e => by
  rw [valV_put] at e
  by_cases z : (Sum.inl j : Key) = .inl q
  · rw [if_pos z] at e
    cases e
    cases z
    exact ⟨p, rfl, hp⟩
  · rw [if_neg z] at e
    exact h j v e
def sp__law_due (K : PySem.W.Frag) : Sp := fun vs H Q _ => ∃ (b c : Addr) (ls xs : List Int) (V0 : Int), vs = [.ref b, .ref c] ∧ (SqL K H b (ls.map V.int) ∧ SqL K H c (xs.map V.int) ∧ ls.length ≤ 50 ∧ (∀ x ∈ ls, 1 ≤ x ∧ x < 2 ^ 100) ∧ Up 0 xs ∧ Rat 1 xs ∧ xs.length ≤ 25 ∧ (∀ x ∈ xs, x < 2 ^ 88) ∧ ((1 : Int) :: xs).getLast? = some V0 ∧ (lessQ ls V0).sum ≤ 1000 ∧
  ∀ H', HS.Keep (fun _ => False) H H' → Q (.int (dueV ls.length (lessQ ls 1) 1 xs)) H')
theorem ok__law_due (T : Txt K mg A) : FnOk P w K mg base CX0 2 A.a__law_due A.d__law_due ["some", "sizes_here"] (sp__law_due K) := by
  have G__law_ways : FnOk P w K mg base CX0 1 A.a__law_ways A.d__law_ways ["many", "base"] (sp__law_ways K) := ok__law_ways T
  have G__law_above : FnOk P w K mg base CX0 1 A.a__law_above A.d__law_above ["many", "total"] (sp__law_above K) := ok__law_above T
  refine T.F__law_due.ok sc__law_due (fun vs H Q E h => ?_) (fun cdv A0 outer s H vs Q E hr h => ?_)
  · obtain ⟨b, c, ls, xs, V0, rfl, hw⟩ := h
    rfl
  · obtain ⟨b, c, ls, xs, V0, rfl, hw⟩ := h
    refine ⟨_, (pss_cons (ps_asg (pe_tup (pa_cons (pe_lc (own := [("one", 9)]) (g := gName 9) (tt := tYes) rfl sc__law_due.nd (HS.kil K (pi_list (pv 0))) (blkOk_by (own := [("one", 9)]) (N := N__law_due) (sc := defScope s__law_due) (by decide +kernel)) (fun _ _ _ _ _ => pg_name (i := 9) sc__law_due.nd rfl (by first | exact .inl rfl | exact .inr rfl)) (fun _ _ _ _ _ => pts_nil) (fun _ _ _ _ _ => (pe_op op_sub (pv 9) pe_int))) (pa_cons pe_int (pa_cons pe_int (pa_cons pe_dnewK pa_nil))))) (HS.kgt K (pg_tup rfl (pgs_cons (pg_name (i := 2) sc__law_due.nd rfl (.inl rfl)) (pgs_cons (pg_name (i := 3) sc__law_due.nd rfl (.inl rfl)) (pgs_cons (pg_name (i := 4) sc__law_due.nd rfl (.inl rfl)) (pgs_cons (pg_name (i := 5) sc__law_due.nd rfl (.inl rfl)) pgs_nil)))))))
    (pss_cons (ps_for PassesOwn.never rfl (HS.kil K (pi_list (pv 1))) (pg_name (i := 6) sc__law_due.nd rfl (.inl rfl))
      (pss_cons (ps_set (i := 7) sc__law_due.nd rfl (.inr rfl) (pe_op op_fdivW (pv 6) (pv 3)))
    (Evl.pss_cut (ps_if (pt_cmp (pc_dnotin (hu_of hr) (pv 7) (pv 5)))
      (pss_one (ps_dput (hu_of hr) (pv 5) (pv 7) (pe_call G__law_ways hr (by rfl) T.g__law_ways T.F__law_ways.kp T.b__law_ways .nil pass0 (pa_cons (pe_callB (HS.klen K) (by rfl) T.z_len PySem.boot_len (pa_cons (pv 0) pa_nil)) (pa_cons (pv 7) pa_nil))) rfl))
      pss_nil)
    (pss_cons (ps_set (i := 8) sc__law_due.nd rfl (.inl rfl) (pe_dget (hu_of hr) (pv 5) (pv 7) (fun _ _ => rfl)))
    (pss_cons (ps_set (i := 4) sc__law_due.nd rfl (.inl rfl) (pe_op op_mulW (pv 4) (pe_ix (HS.ixl K) (pv 8) (pe_callB (HS.ksum K rfl) (by rfl) T.z_sum (by decide +kernel) (pa_cons (pe_lc (own := [("number", 10)]) (g := gName 10) (tt := tYes) rfl sc__law_due.nd (HS.kil K (pi_list (pv 2))) (blkOk_by (own := [("number", 10)]) (N := N__law_due) (sc := defScope s__law_due) (by decide +kernel)) (fun _ _ _ _ _ => pg_name (i := 10) sc__law_due.nd rfl (by first | exact .inl rfl | exact .inr rfl)) (fun _ _ _ _ _ => pts_nil) (fun _ _ _ _ _ => (pe_op op_mod (pv 10) (pv 7)))) pa_nil)) (fun _ _ => rfl))))
    (pss_one (ps_par (i := 2) (j := 3) rfl sc__law_due.nd rfl rfl (by decide) rfl rfl (pa_cons (pe_lc (own := [("number", 10)]) (g := gName 10) (tt := tYes) rfl sc__law_due.nd (HS.kil K (pi_list (pv 2))) (blkOk_by (own := [("number", 10)]) (N := N__law_due) (sc := defScope s__law_due) (by decide +kernel)) (fun _ _ _ _ _ => pg_name (i := 10) sc__law_due.nd rfl (by first | exact .inl rfl | exact .inr rfl)) (fun _ _ _ _ _ => pts_nil) (fun _ _ _ _ _ => (pe_op op_fdivW (pv 10) (pv 7)))) (pa_cons (pv 6) pa_nil)) (by rfl))))))))
    (pss_one (ps_ret (pe_op op_mulW (pv 4) (pe_call G__law_above hr (by rfl) T.g__law_above T.F__law_above.kp T.b__law_above .nil pass0 (pa_cons (pe_callB (HS.klen K) (by rfl) T.z_len PySem.boot_len (pa_cons (pv 0) pa_nil)) (pa_cons (pe_callB (HS.ksum K rfl) (by rfl) T.z_sum (by decide +kernel) (pa_cons (pv 2) pa_nil)) pa_nil)))))))), ?_⟩
    obtain ⟨hb, hc, hl, hL, hU, hR, hxl, hX, hV, hS, k⟩ := hw
    have hL1 := fun x hx => (hL x hx).1
    walk_at "hs"
    refine ⟨⟨_, hb⟩, fun L hL0 => lc_list (xs := ls.map V.int) (fun i H' => HS.Keep (fun _ => False) H H' ∧ H' L = some (.lst ((lessQ (ls.take i) 1).map V.int))) ⟨.new hL0, upd_same⟩ (fun i H' _ ⟨K', _⟩ => K'.sq hb id) ?_ ?_⟩
    · rintro i x H1 hi ⟨K1, h3⟩
      obtain ⟨z, rfl, hz, hil⟩ := HS.get_int hi
      walk_at "hs"
      refine ⟨_, h3, HS.sz (by rw [List.length_map, lessQ_len, List.length_take]; omega), K1.put hL0, ?_⟩
      rw [upd_same, List.take_add_one, hz, lessQ_one, lessQ_one, List.map_append, List.map_append]
      rfl
    rintro H1 ⟨K1, hL1'⟩
    rw [List.length_map, List.take_length] at hL1'
    walk_at "hs"
    intro D hD0
    have K2 := K1.put (o := .dK []) (K1.free hD0 id)
    have hL2 := HS.Keep.new (S := fun _ => False) (o := .dK []) hD0 _ _ hL1' id
    have hD2 : upd H1 D (.dK []) D = some (.dK []) := upd_same
    have hDH := K1.free hD0 id
    generalize upd H1 D (.dK []) = H2 at K2 hL2 hD2 ⊢
    walk_at "hs"
    intro t ht0
    have K3 := K2.put (o := .tup [.ref L, .int 1, .int 1, .ref D]) (K2.free ht0 id)
    have Kt := HS.Keep.new (S := fun _ => False) (o := .tup [.ref L, .int 1, .int 1, .ref D]) ht0
    have hL3 := Kt _ _ hL2 id
    have hD3 := Kt _ _ hD2 id
    have ht3 : upd H2 t (.tup [.ref L, .int 1, .int 1, .ref D]) t = some (.tup [.ref L, .int 1, .int 1, .ref D]) := upd_same
    generalize upd H2 t (.tup [.ref L, .int 1, .int 1, .ref D]) = H3 at K3 hL3 hD3 ht3 ⊢
    clear Kt K2 K1 hL2 hD2 hL1' ht0 hD0
    walk_at "hs"
    obtain ⟨n, hn⟩ : ∃ n, n = ls.length := ⟨_, rfl⟩
    rw [← hn] at hl
    refine ⟨⟨_, K3.sq hc id⟩, for_list (xs := xs.map V.int) (fun i σ H' => HS.Keep (fun _ => False) H H' ∧ ∃ (L : Addr) (kvs : List (Key × V)) (u F : Int) (x6 x7 x8 x9 x10 : Option V), σ = [some (.ref b), some (.ref c), some (.ref L), some (.int u), some (.int F), some (.ref D), x6, x7, x8, x9, x10] ∧ H' L = some (.lst ((lessQ ls u).map V.int)) ∧ H' D = some (.dK kvs) ∧ kvs.length ≤ i ∧ Known H' n kvs ∧ 1 ≤ u ∧ u < 2 ^ 88 ∧ Ups u (xs.drop i) ∧ Rat u (xs.drop i) ∧ (u :: xs.drop i).getLast? = some V0 ∧ F * dueV n (lessQ ls u) u (xs.drop i) = dueV n (lessQ ls 1) 1 xs ∧ F.natAbs < 2 ^ (10001 * i + 1)) ⟨K3, L, [], 1, 1, _, _, _, _, _, rfl, hL3, hD3, Nat.le_refl 0, (fun k v e => nomatch e), by decide, by decide, .inr ⟨rfl, hU⟩, hR, hV, Int.one_mul _, by decide⟩ (fun i σ H' _ ⟨K', _⟩ => K'.sq hc id) ?_ ?_⟩
    · rintro i x σ H4 hi ⟨K4, L, kvs, u, F, x6, x7, x8, x9, x10, rfl, hL4, hD4, hkl, hKn, u1, u2, hUp, hRt, hLa, hF, hFb⟩
      obtain ⟨w, rfl, hw, hil⟩ := HS.get_int hi
      have ed : xs.drop i = w :: xs.drop (i + 1) := by rw [List.drop_eq_getElem_cons hil]; congr 1; rw [List.getElem?_eq_getElem hil] at hw; exact Option.some.inj hw
      rw [ed] at hUp hRt hLa hF
      obtain ⟨w1, w2, hUp'⟩ := hUp.head u1
      have w3 := hX w (List.mem_of_getElem? hw)
      have q1 := quot_pos u1 w1
      have q2 : w / u ≤ 20 := Int.ediv_le_of_le_mul (by omega) (by have := hRt.1; omega)
      rw [dueV, lessQ_div u1 w2] at hF
      have hdiv : (lessQ ls u).map (· / (w / u)) = lessQ ls w := lessQ_div u1 w2
      have mods := mods_le q1 (lessQ ls u)
      rw [lessQ_len, ← hn] at mods
      clear hw hi
      walk_at "hs"
      refine ⟨HS.divW 88 (by omega) u2 (by decide) (by decide), ?_⟩
      generalize w / u = q at q1 q2 hF hdiv mods ⊢
      refine HS.cut (fun σ' H' => HS.Keep (fun _ => False) H H' ∧ ∃ (kvs : List (Key × V)) (p : Addr), σ' = [some (.ref b), some (.ref c), some (.ref L), some (.int u), some (.int F), some (.ref D), some (.int w), some (.int q), x8, x9, x10] ∧ H' L = some (.lst ((lessQ ls u).map V.int)) ∧ H' D = some (.dK kvs) ∧ kvs.length ≤ i + 1 ∧ Known H' n kvs ∧ valV kvs (.inl q) = some (.ref p) ∧ H' p = some (.lst ((rowW q.toNat n).map V.int))) ?_ ?_
      · walk_at "hs"
        refine ⟨D, _, rfl, DGet.k (k := .inl q) hD4, ?_⟩
        walk_at "hs"
        cases hv : valV kvs (.inl q) with
        | none =>
          have hb4 := K4.sq hb id
          refine HS.ifT rfl ?_
          walk_at "hs"
          rw [List.length_map, ← hn]
          refine ⟨n, q, rfl, hl, q1, by omega, fun H5 p K5 hp0 hp => ?_⟩
          have hL5 := K5 _ _ hL4 id
          have hD5 := K5 _ _ hD4 id
          have pD : p ≠ D := fun z => by rw [z, hD5] at hp; cases hp
          have LD : L ≠ D := fun z => by rw [z, hD5] at hL5; cases hL5
          walk_at "hs"
          refine ⟨D, _, rfl, DPut.k (k := .inl q) hD5 (HS.sz (by omega)), ?_⟩
          refine ⟨(K4.trans K5).put hDH, putK kvs (.inl q) (.ref p), p, rfl, by rw [upd_ne LD]; exact hL5, upd_same, Nat.le_trans (length_putK _ _ _) (by omega), ((hKn.same K5).at hD5).put (by rw [upd_ne pD]; exact hp), by rw [valV_put, if_pos rfl], by rw [upd_ne pD]; exact hp⟩
        | some v =>
          obtain ⟨p, rfl, hp⟩ := hKn q v hv
          refine HS.ifF rfl ?_
          walk_at "hs"
          exact ⟨K4, kvs, p, rfl, hL4, hD4, by omega, hKn, hv, hp⟩
      rintro σ' H5 ⟨K5, kvs, p, rfl, hL5, hD5, hkl, hKn, hv, hp⟩
      clear K4 hL4 hD4
      walk_at "hs"
      refine ⟨D, .ref p, rfl, by rw [← hv]; exact DGet.k (k := .inl q) hD5, ?_⟩
      walk_at "hs"
      refine ⟨⟨_, HS.sq hL5⟩, fun E1 hE1 => lc_list (xs := (lessQ ls u).map V.int) (fun j H' => HS.Keep (fun _ => False) H5 H' ∧ H' E1 = some (.lst ((((lessQ ls u).take j).map (· % q)).map V.int))) ⟨.new hE1, upd_same⟩ (fun j H' _ ⟨K', _⟩ => K'.sq (HS.sq hL5) id) ?_ ?_⟩
      · rintro j x H6 hj ⟨K6, h6⟩
        obtain ⟨z, rfl, hz, hjl⟩ := HS.get_int hj
        rw [lessQ_len] at hjl
        walk_at "hs"
        refine ⟨_, h6, HS.sz (by rw [List.length_map, List.length_map, List.length_take, lessQ_len]; omega), K6.put hE1, ?_⟩
        rw [upd_same, List.take_add_one, hz, List.map_append, List.map_append]
        rfl
      rintro H6 ⟨K6, hE6⟩
      rw [List.length_map, List.take_length] at hE6
      have hp6 := K6 _ _ hp id
      have hL6 := K6 _ _ hL5 id
      have hD6 := K6 _ _ hD5 id
      walk_at "hs"
      have row := rowW_lst q1 mods.1 mods.2
      refine HS.ixZ (HS.sq hp6) mods.1 row ?_
      walk_at "hs"
      have lb := lstN_lt (n := n) (t := ((lessQ ls u).map (· % q)).sum) hl (show q < 2 ^ 200 by omega)
      refine ⟨wide_mul (a := 10001 * i + 1) (b := 10001) hFb lb (by omega) (by decide) (by omega), ?_⟩
      walk_at "hs"
      refine ⟨⟨_, HS.sq hL6⟩, fun G hG => lc_list (xs := (lessQ ls u).map V.int) (fun j H' => HS.Keep (fun _ => False) H6 H' ∧ H' G = some (.lst ((((lessQ ls u).take j).map (· / q)).map V.int))) ⟨.new hG, upd_same⟩ (fun j H' _ ⟨K', _⟩ => K'.sq (HS.sq hL6) id) ?_ ?_⟩
      · rintro j x H7 hj ⟨K7, h7⟩
        obtain ⟨z, rfl, hz, hjl⟩ := HS.get_int hj
        rw [lessQ_len] at hjl
        walk_at "hs"
        refine ⟨HS.divW 88 (by omega) (by omega) (by decide) (by decide), ?_⟩
        refine ⟨_, h7, HS.sz (by rw [List.length_map, List.length_map, List.length_take, lessQ_len]; omega), K7.put hG, ?_⟩
        rw [upd_same, List.take_add_one, hz, List.map_append, List.map_append]
        rfl
      rintro H7 ⟨K7, hG7⟩
      rw [List.length_map, List.take_length, hdiv] at hG7
      walk_at "hs"
      refine ⟨K5.trans (K6.trans K7), G, kvs, w, F * lstN n q ((lessQ ls u).map (· % q)).sum, _, _, _, _, _, rfl, hG7, K7 _ _ hD6 id, hkl, hKn.same (K6.trans K7), by omega, w3, hUp', hRt.2, by rw [List.getLast?_cons_cons] at hLa; exact hLa, by rw [Int.mul_assoc]; exact hF, ?_⟩
      rw [Int.natAbs_mul, show 10001 * (i + 1) + 1 = 10001 * i + 1 + 10001 by omega, Nat.pow_add]
      exact Nat.mul_lt_mul'' hFb lb
    · rintro σ H4 ⟨K4, L, kvs, u, F, x6, x7, x8, x9, x10, rfl, hL4, hD4, hkl, hKn, u1, u2, hUp, hRt, hLa, hF, hFb⟩
      rw [List.length_map, List.drop_length] at hLa hF
      obtain rfl : u = V0 := Option.some.inj hLa
      rw [dueV] at hF
      obtain ⟨tt, htt⟩ := Int.eq_ofNat_of_zero_le (lessQ_sum hL1 u1)
      have hb4 := K4.sq hb id
      walk_at "hs"
      rw [List.length_map, htt, ← hn]
      refine ⟨n, tt, rfl, hl, by omega, fun H5 K5 => ?_⟩
      have lb := lstN_lt (n := n) (m := (tt : Int) + 1) (t := (tt : Int)) hl (by omega)
      walk_at "hs"
      refine ⟨wide_mul (a := 10001 * xs.length + 1) (b := 10001) (by rw [List.length_map] at hFb; exact hFb) lb (by omega) (by decide) (by omega), ?_⟩
      rw [htt] at hF
      rw [hF, hn]
      exact k _ (K4.trans K5)
def sp_law (K : PySem.W.Frag) : Sp := fun vs H Q _ => ∃ (a : Addr) (ns : List Int), vs = [.ref a] ∧ (SqL K H a (ns.map V.int) ∧ ns.length ≤ 63 ∧ ∀ H', Q (.bl true) H')
theorem ok_law (T : Txt K mg A) : FnOk P w K mg base CX0 5 A.a_law A.d_law ["script"] (sp_law K) := by
  have G__law_rng : FnOk P w K mg base CX0 1 A.a__law_rng A.d__law_rng ["script"] (sp__law_rng K) := ok__law_rng T
  have G__law_sizes : FnOk P w K mg base CX0 2 A.a__law_sizes A.d__law_sizes ["rng", "many", "most"] (sp__law_sizes K) := ok__law_sizes T
  have G__law_draw : FnOk P w K mg base CX0 1 A.a__law_draw A.d__law_draw ["rng", "limit"] (sp__law_draw K) := ok__law_draw T
  have G__law_counted : FnOk P w K mg base CX0 1 A.a__law_counted A.d__law_counted ["some", "wide"] (sp__law_counted K) := ok__law_counted T
  have G__law_due : FnOk P w K mg base CX0 2 A.a__law_due A.d__law_due ["some", "sizes_here"] (sp__law_due K) := ok__law_due T
  have G_count_fitting : FnOk P w K mg base CX0 3 A.a_count_fitting A.d_count_fitting ["chapters", "lines", "chain"] (sp_count_fitting K) := ok_count_fitting T
  have G_contradiction : FnOk P w K mg base CX0 3 A.a_contradiction A.d_contradiction ["chapters", "lines", "chain"] (sp_contradiction K) := ok_contradiction T
  refine T.F_law.ok sc_law (fun vs H Q E h => ?_) (fun cdv A0 outer s H vs Q E hr h => ?_)
  · obtain ⟨a, ns, rfl, hw⟩ := h
    rfl
  · obtain ⟨a, ns, rfl, hw⟩ := h
    refine ⟨_, (pss_cons (ps_set (i := 1) sc_law.nd rfl (.inr rfl) (pe_call G__law_rng (hr.mono (by decide)) (by rfl) T.g__law_rng T.F__law_rng.kp T.b__law_rng .nil pass0 (pa_cons (pv 0) pa_nil)))
    (pss_cons (ps_for PassesOwn.never rfl (pi_range1 (by rfl) T.z_range (pa_cons (pe_op op_add pe_int (pe_callB (call_min2 rfl) (by rfl) T.z_min (by decide +kernel) (pa_cons pe_int (pa_cons (pe_callB (HS.klen K) (by rfl) T.z_len PySem.boot_len (pa_cons (pv 0) pa_nil)) pa_nil)))) pa_nil)) (pg_name (i := 2) sc_law.nd rfl (.inl rfl))
      (pss_cons (ps_set (i := 3) sc_law.nd rfl (.inl rfl) (pe_call G__law_sizes (hr.mono (by decide)) (by rfl) T.g__law_sizes T.F__law_sizes.kp T.b__law_sizes .nil pass0 (pa_cons (pv 1) (pa_cons (pe_ix (HS.ixl K) (pe_lst (pa_cons pe_int (pa_cons pe_int pa_nil))) (pe_call G__law_draw (hr.mono (by decide)) (by rfl) T.g__law_draw T.F__law_draw.kp T.b__law_draw .nil pass0 (pa_cons (pv 1) (pa_cons pe_int pa_nil))) (fun _ _ => rfl)) (pa_cons pe_int pa_nil)))))
    (pss_cons (ps_set (i := 4) sc_law.nd rfl (.inr rfl) (pe_call G__law_draw (hr.mono (by decide)) (by rfl) T.g__law_draw T.F__law_draw.kp T.b__law_draw .nil pass0 (pa_cons (pv 1) (pa_cons (pe_ix (HS.ixl K) (pe_lst (pa_cons pe_int (pa_cons pe_int pa_nil))) (pe_call G__law_draw (hr.mono (by decide)) (by rfl) T.g__law_draw T.F__law_draw.kp T.b__law_draw .nil pass0 (pa_cons (pv 1) (pa_cons pe_int pa_nil))) (fun _ _ => rfl)) pa_nil))))
    (pss_cons (ps_set (i := 5) sc_law.nd rfl (.inr rfl) (pe_op op_mulW (pe_ix (HS.ixl K) (pe_op op_cat (pv 3) (pe_lst (pa_cons pe_int pa_nil))) (pe_op op_sub (pe_un un_neg pe_int) (pe_callTy call_int1 (by rfl) T.z_int (by decide +kernel) (pa_cons (pe_cmpR (HS.kne K (hu64 hr)) (pv 3) (pe_lst pa_nil) (nomark _)) pa_nil))) (fun _ _ => rfl)) (pe_op op_add pe_int (pe_call G__law_draw (hr.mono (by decide)) (by rfl) T.g__law_draw T.F__law_draw.kp T.b__law_draw .nil pass0 (pa_cons (pv 1) (pa_cons pe_int pa_nil))))))
    (pss_cons (ps_set (i := 6) sc_law.nd rfl (.inr rfl) (pe_lc (own := [("turn", 10)]) (g := gName 10) (tt := tYes) rfl sc_law.nd (pi_range1 (by rfl) T.z_range (pa_cons (pv 4) pa_nil)) (blkOk_by (own := [("turn", 10)]) (N := N_law) (sc := defScope s_law) (by decide +kernel)) (fun _ _ _ _ _ => pg_name (i := 10) sc_law.nd rfl (by first | exact .inl rfl | exact .inr rfl)) (fun _ _ _ _ _ => pts_nil) (fun _ _ _ _ _ => (pe_op op_add pe_int (pe_call G__law_draw (hr.mono (by decide)) (by rfl) T.g__law_draw T.F__law_draw.kp T.b__law_draw .nil pass0 (pa_cons (pv 1) (pa_cons (pv 5) pa_nil)))))))
    (pss_cons (ps_setLc (i := 7) (own := [("wide", 11)]) (g := gName 11) (tt := tYes) rfl sc_law.nd rfl rfl (sw_true rfl rfl rfl (by decide +kernel)) (HS.kil K (pi_list (pv 3))) (blkOk_by (own := [("wide", 11)]) (N := N_law) (sc := defScope s_law) (by decide +kernel)) (fun _ _ _ _ _ => pg_name (i := 11) sc_law.nd rfl (by first | exact .inl rfl | exact .inr rfl)) (fun _ _ _ _ _ => pts_nil) (fun _ _ _ _ _ => (pe_tup (pa_cons (pv 11) (pa_cons (pe_call G__law_counted (hr.mono (by decide)) (by rfl) T.g__law_counted T.F__law_counted.kp T.b__law_counted .nil pass0 (pa_cons (pv 6) (pa_cons (pv 11) pa_nil))) pa_nil)))))
    (pss_cons (ps_set (i := 8) sc_law.nd rfl (.inl rfl) (pe_call G__law_due (hr.mono (by decide)) (by rfl) T.g__law_due T.F__law_due.kp T.b__law_due .nil pass0 (pa_cons (pv 6) (pa_cons (pv 3) pa_nil))))
    (pss_cons (ps_if (pt_cmpR op_ne (pe_callB (HS.krepB K T.nodig) (by rfl) T.z_repr (by decide +kernel) (pa_cons (pe_call G_count_fitting (hr.mono (by decide)) (by rfl) T.g_count_fitting T.F_count_fitting.kp T.b_count_fitting .nil pass0 (pa_cons (pv 4) (pa_cons (pe_callB (HS.ksum K rfl) (by rfl) T.z_sum (by decide +kernel) (pa_cons (pv 6) pa_nil)) (pa_cons (pv 7) pa_nil)))) pa_nil)) (pe_callB (HS.krepB K T.nodig) (by rfl) T.z_repr (by decide +kernel) (pa_cons (pv 8) pa_nil)) (nomark _))
      (pss_one (ps_ret pe_bl))
      pss_nil)
    (pss_cons (ps_if (pt_cmpR op_notN (pe_call G_contradiction (hr.mono (by decide)) (by rfl) T.g_contradiction T.F_contradiction.kp T.b_contradiction .nil pass0 (pa_cons (pv 4) (pa_cons (pe_callB (HS.ksum K rfl) (by rfl) T.z_sum (by decide +kernel) (pa_cons (pv 6) pa_nil)) (pa_cons (pv 7) pa_nil)))) pe_non (nomark _))
      (pss_one (ps_ret pe_bl))
      pss_nil)
    (pss_cons (ps_setLc (i := 9) (own := [("wide", 11)]) (g := gName 11) (tt := tYes) rfl sc_law.nd rfl rfl (sw_true rfl rfl rfl (by decide +kernel)) (HS.kil K (pi_list (pv 3))) (blkOk_by (own := [("wide", 11)]) (N := N_law) (sc := defScope s_law) (by decide +kernel)) (fun _ _ _ _ _ => pg_name (i := 11) sc_law.nd rfl (by first | exact .inl rfl | exact .inr rfl)) (fun _ _ _ _ _ => pts_nil) (fun _ _ _ _ _ => (pe_tup (pa_cons (pv 11) (pa_cons (pv 4) pa_nil)))))
    (pss_one (ps_if (pt_cmpR op_ne (pe_call G_count_fitting (hr.mono (by decide)) (by rfl) T.g_count_fitting T.F_count_fitting.kp T.b_count_fitting .nil pass0 (pa_cons (pv 4) (pa_cons (pv 4) (pa_cons (pv 9) pa_nil)))) pe_int (nomark _))
      (pss_one (ps_ret pe_bl))
      pss_nil))))))))))))
    (pss_one (ps_ret (pe_and (pe_cmpR op_eq (pe_call G_count_fitting (hr.mono (by decide)) (by rfl) T.g_count_fitting T.F_count_fitting.kp T.b_count_fitting .nil pass0 (pa_cons pe_int (pa_cons pe_int (pa_cons (pe_lst (pa_cons (pe_tup (pa_cons pe_int (pa_cons pe_int pa_nil))) (pa_cons (pe_tup (pa_cons pe_int (pa_cons pe_int pa_nil))) pa_nil))) pa_nil)))) pe_int (nomark _)) (pe_one (pe_cmpR op_eq (pe_call G_count_fitting (hr.mono (by decide)) (by rfl) T.g_count_fitting T.F_count_fitting.kp T.b_count_fitting .nil pass0 (pa_cons pe_int (pa_cons pe_int (pa_cons (pe_lst pa_nil) pa_nil)))) pe_int (nomark _)))))))), ?_⟩
    obtain ⟨hS, hl, k⟩ := hw
    walk_at "hs"
    refine ⟨a, ns, rfl, hS, hl, fun H1 s K1 hs S1 => ?_⟩
    have hS1 := K1.sq hS id
    walk_at "hs"
    rw [List.length_map]
    refine ⟨by split <;> omega, by split <;> omega, for_range (n := _) (fun i σ H' => Rng H' s (100 * i) ∧ ∃ x2 x3 x4 x5 x6 x7 x8 x9 x10 x11, σ = [some (.ref a), some (.ref s), x2, x3, x4, x5, x6, x7, x8, x9, x10, x11]) ⟨S1, _, _, _, _, _, _, _, _, _, _, rfl⟩ ?_ ?_⟩
    · rintro i σ H2 hi ⟨S2, x2, x3, x4, x5, x6, x7, x8, x9, x10, x11, rfl⟩
      have hi' : i < 6 := by split at hi <;> omega
      walk_at "hs"
      intro p1 hp1
      have nS2_p1 := S2.ne hp1
      generalize hG_p1 : upd _ p1 _ = H4
      have at_p1 := HS.upgs hG_p1
      have Kn_p1 := HS.upgK hG_p1 hp1
      clear hG_p1
      replace S2 := S2.same Kn_p1
      walk_at "hs"
      refine ⟨s, 2, _, rfl, S2, by decide, by decide, by omega, fun H5 v K5 S5 v0 v1 => ?_⟩
      refine HS.ixI [3, 20] (HS.sq (K5 _ _ at_p1 nS2_p1)) v0 v1 fun mt _ hmt => ?_
      have hmt' : 3 ≤ mt ∧ mt ≤ 20 := by simp only [List.mem_cons, List.not_mem_nil, or_false] at hmt; omega
      walk_at "hs"
      refine ⟨s, mt, 9, _, rfl, S5, by omega, by omega, by decide, by decide, by omega, fun H6 z xs K6 hz0 hzs hz hxl hU hRt hXB S6 => ?_⟩
      clear S2 S5 K5 K6 at_p1 hmt
      walk_at "hs"
      intro p2 hp2
      have nS6_p2 := S6.ne hp2
      generalize hG_p2 : upd _ p2 _ = H7
      have at_p2 := HS.upgs hG_p2
      have Kn_p2 := HS.upgK hG_p2 hp2
      clear hG_p2
      replace hz := Kn_p2 _ _ hz id
      replace S6 := S6.same Kn_p2
      walk_at "hs"
      refine ⟨s, 2, _, rfl, S6, by decide, by decide, by omega, fun H8 w K8 S8 w0 w1 => ?_⟩
      replace hz := K8 _ _ hz hzs
      refine HS.ixI [5, 41] (HS.sq (K8 _ _ at_p2 nS6_p2)) w0 w1 fun mm _ hmm => ?_
      have hmm' : 5 ≤ mm ∧ mm ≤ 41 := by simp only [List.mem_cons, List.not_mem_nil, or_false] at hmm; omega
      walk_at "hs"
      refine ⟨s, mm, _, rfl, S8, by omega, by omega, by omega, fun H9 nI K9 S9 n0 n1 => ?_⟩
      obtain ⟨n, rfl⟩ := Int.eq_ofNat_of_zero_le n0
      have hn : n ≤ 40 := by omega
      replace hz := K9 _ _ hz hzs
      clear S6 S8 K8 K9 at_p2 hmm
      walk_at "hs"
      intro p3 hp3
      have nS9_p3 := S9.ne hp3
      generalize hG_p3 : upd _ p3 _ = Ha
      have at_p3 := HS.upgs hG_p3
      have Kn_p3 := HS.upgK hG_p3 hp3
      clear hG_p3
      replace hz := Kn_p3 _ _ hz id
      replace S9 := S9.same Kn_p3
      refine HS.cat hz at_p3 ?_
      walk_at "hs"
      intro p4 hp4
      have nS9_p4 := S9.ne hp4
      generalize hG_p4 : upd _ p4 _ = Hb
      have at_p4 := HS.upgs hG_p4
      have Kn_p4 := HS.upgK hG_p4 hp4
      clear hG_p4
      replace hz := Kn_p4 _ _ hz id
      replace S9 := S9.same Kn_p4
      walk_at "hs"
      intro p5 hp5
      have nS9_p5 := S9.ne hp5
      generalize hG_p5 : upd _ p5 _ = Hc
      have at_p5 := HS.upgs hG_p5
      have Kn_p5 := HS.upgK hG_p5 hp5
      clear hG_p5
      replace hz := Kn_p5 _ _ hz id
      replace at_p4 := Kn_p5 _ _ at_p4 id
      replace S9 := S9.same Kn_p5
      refine HS.neL (xs := xs) (ys := []) (HS.sq hz) (HS.sq at_p5) ?_
      refine .inr ⟨_, rfl, ?_⟩
      walk_at "hs"
      obtain ⟨V0, w', hV, V1, V2, w1', w2', hat⟩ := last_or hXB
      refine HS.ixL (HS.sq at_p4) hat ?_
      walk_at "hs"
      refine ⟨s, 4, _, rfl, S9, by decide, by decide, by omega, fun Hd d Kd Sd d0 d1 => ?_⟩
      replace hz := Kd _ _ hz hzs
      clear hat S9 Kd at_p4 at_p5 at_p3
      walk_at "hs"
      refine ⟨HS.mulW 90 62 (by omega) (by omega) (by omega) (by omega) (by decide) (by decide) (by decide), ?_⟩
      walk_at "hs"
      have tp1 : 1 ≤ w' * (1 + d) := by have := Int.mul_le_mul w1' (show (1 : Int) ≤ 1 + d by omega) (by decide) (by omega); omega
      have tp2 : w' * (1 + d) ≤ 12 * V0 := by
        have h1 : w' * (1 + d) ≤ w' * 4 := Int.mul_le_mul_of_nonneg_left (by omega) (by omega)
        omega
      generalize w' * (1 + d) = tp at tp1 tp2 ⊢
      walk_at "hs"
      refine ⟨by omega, by omega, fun D hD => ?_⟩
      have hDs := Sd.ne hD
      have zD : z ≠ D := ne_of_none hz hD
      refine lc_range (lo := 0) (n := n) (fun j H' => Rng H' s (100 * i + 40 + j) ∧ H' z = some (.lst (xs.map V.int)) ∧ ∃ ls : List Int, H' D = some (.lst (ls.map V.int)) ∧ ls.length = j ∧ Lens ls tp) ⟨(Sd.new hD).up (by omega), by rw [upd_ne zD]; exact hz, [], upd_same, rfl, fun x hx => absurd hx List.not_mem_nil⟩ ?_ ?_
      · rintro j H9 hj ⟨S9, hz9, ls, hD9, hll, hL⟩
        walk_at "hs"
        refine ⟨s, tp, _, rfl, S9, by omega, by omega, by omega, fun H10 e K10 S10 e0 e1 => ?_⟩
        have hD10 := K10 _ _ hD9 hDs
        walk_at "hs"
        refine ⟨_, hD10, HS.sz (by rw [List.length_map]; omega), (S10.put hDs).up (by omega), by rw [upd_ne zD]; exact K10 _ _ hz9 hzs, ls ++ [1 + e], by rw [upd_same, List.map_append]; rfl, by rw [List.length_append, hll]; rfl, fun x hx => ?_⟩
        rcases List.mem_append.mp hx with hx | hx
        · exact hL x hx
        · rw [List.mem_singleton] at hx; omega
      clear hz hD Sd
      rintro He ⟨Se, hz, ls, hDe, hll, hL⟩
      subst hll
      have sb := lens_sum hL
      have hsum : ls.sum ≤ 40 * (12 * V0) := by
        have a1 := Int.mul_le_mul_of_nonneg_left tp2 (show (0 : Int) ≤ (ls.length : Int) by omega)
        have a2 := Int.mul_le_mul_of_nonneg_right (show (ls.length : Int) ≤ 40 by omega) (show (0 : Int) ≤ 12 * V0 by omega)
        omega
      have Se := Se.up (show _ ≤ 100 * i + 90 by omega)
      have small := lessQ_small (ls := ls) (u := V0) (c := 11) (fun x hx => ⟨(hL x hx).1, by have := (hL x hx).2; omega⟩) V1 (by decide)
      have few : (ls.length : Int) * 11 ≤ 1000 := by omega
      walk_at "hs"
      refine ⟨⟨_, HS.sq hz⟩, fun R hR => ?_⟩
      have hRs := Se.ne hR
      refine lc_list (xs := xs.map V.int) (fun j H' => HS.Keep (fun _ => False) He H' ∧ ∃ zs, H' R = some (.lst zs) ∧ zs.length = j ∧ HS.Prs H' zs ((xs.take j).map fun x => (x, pcount ls x)) ∧ ∀ v ∈ zs, ∀ t, v = .ref t → t ≠ R) ⟨.new hR, [], upd_same, rfl, trivial, fun v hv => absurd hv List.not_mem_nil⟩ (fun j H' _ ⟨K', _⟩ => HS.sq (K' _ _ hz id)) ?_ ?_
      · rintro j x H15 hj ⟨K15, zs, hR15, hzl, hPr, hne⟩
        obtain ⟨y, rfl, hy, hjl⟩ := HS.get_int hj
        have hyB := hXB y (List.mem_of_getElem? hy)
        walk_at "hs"
        refine ⟨D, ls, y, rfl, HS.sq (K15 _ _ hDe id), by omega, hyB.1, by omega, fun H16 K16 => ?_⟩
        have hR16 := K16 _ _ hR15 id
        have hPr := HS.Prs.same hPr K16
        walk_at "hs"
        intro q hq
        have hqR : q ≠ R := (ne_of_none hR16 hq).symm
        have K17 := HS.Keep.new (S := fun _ => False) (o := .tup [.int y, .int (pcount ls y)]) hq
        have hR17 := K17 _ _ hR16 id
        have hq17 := upd_same (H := H16) (a := q) (o := .tup [.int y, .int (pcount ls y)])
        have hPr := HS.Prs.same hPr K17
        generalize upd H16 q (.tup [.int y, .int (pcount ls y)]) = H17 at K17 hR17 hq17 hPr ⊢
        refine ⟨zs, hR17, HS.sz (by omega), ((K15.trans K16).trans K17).put hR, zs ++ [.ref q], upd_same, by rw [List.length_append, hzl]; rfl, ?_, ?_⟩
        · rw [List.take_add_one, hy, List.map_append]
          exact HS.Prs.snoc (HS.Prs.put hR17 hPr) (by rw [upd_ne hqR]; exact hq17)
        · intro v hv t e
          rcases List.mem_append.mp hv with hv | hv
          · exact hne v hv t e
          · rw [List.mem_singleton] at hv
            subst hv
            cases e
            exact hqR
      rintro Hf ⟨Kf, zs, hRf, hzl, hPr, _⟩
      rw [List.length_map, List.take_length] at hPr
      rw [List.length_map] at hzl
      have Sf := Se.same Kf
      replace hz := Kf _ _ hz id
      have hDf := Kf _ _ hDe id
      clear Kf Se hDe hR
      have cB : ∀ p ∈ xs.map (fun x => (x, pcount ls x)), 1 ≤ p.1 ∧ p.1 < 2 ^ 88 ∧ -(2 ^ 98) < p.2 ∧ p.2 < 2 ^ 98 := fun p hp => by
        obtain ⟨x, hx, rfl⟩ := List.mem_map.mp hp
        have h1 := hXB x hx
        have h2 := pcount_pos hL.one h1.1
        have h3 := pcount_le_sum hL.one h1.1
        exact ⟨h1.1, h1.2, by show _ < pcount ls x; omega, by show pcount ls x < _; omega⟩
      have cU : ChOk 0 (xs.map fun x => (x, pcount ls x)) := chok_up.mpr (by rw [List.map_map]; exact (List.map_id' xs).symm ▸ hU)
      have pB : ∀ p ∈ xs.map (fun x => (x, pcount ls x)), p.1 < 2 ^ 150 ∧ -(2 ^ 150) < p.2 ∧ p.2 < 2 ^ 150 := fun p hp => by have := cB p hp; omega
      have plB := plc_bound ls.length (by omega) (size := 1) (rest := ls.sum - ls.length) cB (by decide) (by omega) (by omega)
      have eW : ways ls.length (plc ls.length 1 (ls.sum - ls.length) (xs.map fun x => (x, pcount ls x))) = dueV ls.length (lessQ ls 1) 1 xs := by
        rw [← lessQ_all]
        exact dueV_ways hL.one xs 1 (by decide) (.inr ⟨rfl, hU⟩)
      have dpos := dueV_pos hL.one xs 1 (by decide) (.inr ⟨rfl, hU⟩)
      have dlog := due_log hL.one hU hV V1 V2 small.1 (by omega) (by omega)
      have dnone : dueX ls.length ls.sum (xs.map fun x => (x, pcount ls x)) = none := (ways_due (by omega) cU).mp (by rw [eW]; exact dpos)
      walk_at "hs"
      refine ⟨D, z, ls, xs, V0, rfl, HS.sq hDf, HS.sq hz, by omega, fun x hx => ⟨(hL x hx).1, by have := (hL x hx).2; omega⟩, hU, hRt, by omega, fun x hx => (hXB x hx).2, hV, by omega, fun Hg Kg => ?_⟩
      replace hz := Kg _ _ hz id
      replace hDf := Kg _ _ hDf id
      replace hRf := Kg _ _ hRf id
      replace hPr := HS.Prs.same hPr Kg
      replace Sf := Sf.same Kg
      clear Kg
      walk_at "hs"
      refine ⟨R, zs, _, ls.length, ls.sum, rfl, by omega, by omega, by omega, HS.sq hRf, hPr, cU, by rw [List.length_map]; omega, pB, plB, fun Hh Kh => ?_⟩
      rw [eW]
      refine ⟨_, rfl, dlog, ?_⟩
      walk_at "hs"
      refine ⟨dlog, ?_⟩
      refine neSy ?_
      replace hz := Kh _ _ hz id
      replace hDf := Kh _ _ hDf id
      replace hRf := Kh _ _ hRf id
      replace hPr := HS.Prs.same hPr Kh
      replace Sf := Sf.same Kh
      clear Kh
      walk_at "hs"
      refine ⟨R, zs, _, ls.length, ls.sum, rfl, by omega, by omega, by omega, HS.sq hRf, hPr, cU, by rw [List.length_map]; omega, pB, fun _ Hi Ki => ?_, fun i1 j1 e => absurd (dnone.symm.trans e) (by simp)⟩
      replace hz := Ki _ _ hz id
      replace Sf := Sf.same Ki
      clear hPr hRf hDf Ki
      walk_at "hs"
      refine ⟨rfl, ?_⟩
      walk_at "hs"
      refine HS.in0 rfl ?_
      walk_at "hs"
      refine ⟨⟨_, HS.sq hz⟩, fun R2 hR2 => ?_⟩
      refine lc_list (xs := xs.map V.int) (fun j H' => HS.Keep (fun _ => False) Hi H' ∧ ∃ zs, H' R2 = some (.lst zs) ∧ zs.length = j ∧ HS.Prs H' zs ((xs.take j).map fun x => (x, (ls.length : Int))) ∧ ∀ v ∈ zs, ∀ t, v = .ref t → t ≠ R2) ⟨.new hR2, [], upd_same, rfl, trivial, fun v hv => absurd hv List.not_mem_nil⟩ (fun j H' _ ⟨K', _⟩ => HS.sq (K' _ _ hz id)) ?_ ?_
      · rintro j x H15 hj ⟨K15, zs, hR15, hzl, hPr, hne⟩
        obtain ⟨y, rfl, hy, hjl⟩ := HS.get_int hj
        walk_at "hs"
        intro q hq
        have hqR : q ≠ R2 := (ne_of_none hR15 hq).symm
        have K17 := HS.Keep.new (S := fun _ => False) (o := .tup [.int y, .int (ls.length : Int)]) hq
        have hR17 := K17 _ _ hR15 id
        have hq17 := upd_same (H := H15) (a := q) (o := .tup [.int y, .int (ls.length : Int)])
        have hPr := HS.Prs.same hPr K17
        generalize upd H15 q (.tup [.int y, .int (ls.length : Int)]) = H17 at K17 hR17 hq17 hPr ⊢
        refine ⟨zs, hR17, HS.sz (by omega), (K15.trans K17).put hR2, zs ++ [.ref q], upd_same, by rw [List.length_append, hzl]; rfl, ?_, ?_⟩
        · rw [List.take_add_one, hy, List.map_append]
          exact HS.Prs.snoc (HS.Prs.put hR17 hPr) (by rw [upd_ne hqR]; exact hq17)
        · intro v hv t e
          rcases List.mem_append.mp hv with hv | hv
          · exact hne v hv t e
          · rw [List.mem_singleton] at hv
            subst hv
            cases e
            exact hqR
      rintro Hj ⟨Kj, zs2, hR2j, hzl2, hPr2, _⟩
      rw [List.length_map, List.take_length] at hPr2
      have Sj := Sf.same Kj
      have cB2 : ∀ p ∈ xs.map (fun x => (x, (ls.length : Int))), 1 ≤ p.1 ∧ p.1 < 2 ^ 88 ∧ -(2 ^ 98) < p.2 ∧ p.2 < 2 ^ 98 := fun p hp => by
        obtain ⟨x, hx, rfl⟩ := List.mem_map.mp hp
        have h1 := hXB x hx
        exact ⟨h1.1, h1.2, by show _ < (ls.length : Int); omega, by show (ls.length : Int) < _; omega⟩
      have cU2 : ChOk 0 (xs.map fun x => (x, (ls.length : Int))) := chok_up.mpr (by rw [List.map_map]; exact (List.map_id' xs).symm ▸ hU)
      have plB2 := plc_bound ls.length (by omega) (size := 1) (rest := (ls.length : Int) - ls.length) cB2 (by decide) (by omega) (by omega)
      walk_at "hs"
      refine ⟨R2, zs2, _, ls.length, ls.length, rfl, by omega, by omega, by omega, HS.sq hR2j, hPr2, cU2, by rw [List.length_map]; omega, fun p hp => by have := cB2 p hp; omega, plB2, fun Hk Kk => ?_⟩
      rw [Int.sub_self, ways_same]
      walk_at "hs"
      refine HS.in0 rfl ?_
      walk_at "hs"
      exact ⟨(Sj.same Kk).up (by omega), _, _, _, _, _, _, _, _, _, _, rfl⟩
    · rintro σ H2 ⟨S2, x2, x3, x4, x5, x6, x7, x8, x9, x10, x11, rfl⟩
      walk_at "hs"
      intro q1 hq1
      generalize hG_q1 : upd _ q1 _ = H3
      have at_q1 := HS.upgs hG_q1
      have Kn_q1 := HS.upgK hG_q1 hq1
      clear hG_q1
      walk_at "hs"
      intro q2 hq2
      generalize hG_q2 : upd _ q2 _ = H4
      have at_q2 := HS.upgs hG_q2
      have Kn_q2 := HS.upgK hG_q2 hq2
      clear hG_q2
      replace at_q1 := Kn_q2 _ _ at_q1 id
      walk_at "hs"
      intro q3 hq3
      generalize hG_q3 : upd _ q3 _ = H5
      have at_q3 := HS.upgs hG_q3
      have Kn_q3 := HS.upgK hG_q3 hq3
      clear hG_q3
      replace at_q1 := Kn_q3 _ _ at_q1 id
      replace at_q2 := Kn_q3 _ _ at_q2 id
      have b3 : ∀ p ∈ [((2 : Int), (7 : Int)), (4, 4)], 1 ≤ p.1 ∧ p.1 < 2 ^ 88 ∧ -(2 ^ 98) < p.2 ∧ p.2 < 2 ^ 98 := fun p hp => by
        simp only [List.mem_cons, List.not_mem_nil, or_false] at hp
        rcases hp with h | h <;> subst h <;> decide
      have pl3 := plc_bound 3 (by decide) (size := 1) (rest := 11 - ((3 : Nat) : Int)) b3 (by decide) (by decide) (by decide)
      refine ⟨q3, _, [(2, 7), (4, 4)], 3, 11, rfl, by decide, by decide, by decide, HS.sq at_q3, ⟨⟨q1, rfl, at_q1⟩, ⟨q2, rfl, at_q2⟩, trivial⟩, ⟨by decide, fun h => absurd h (by decide), by decide, fun _ => by decide, trivial⟩, show 2 ≤ 25 by decide, fun p hp => by have := b3 p hp; omega, pl3, fun H6 K6 => ?_⟩
      have e9 : ways 3 (plc ((3 : Nat) : Int) 1 (11 - ((3 : Nat) : Int)) [(2, 7), (4, 4)]) = 9 := by decide +kernel
      rw [e9]
      walk_at "hs"
      refine HS.it1 rfl ?_
      walk_at "hs"
      intro q4 hq4
      generalize hG_q4 : upd _ q4 _ = H7
      have at_q4 := HS.upgs hG_q4
      have Kn_q4 := HS.upgK hG_q4 hq4
      clear hG_q4
      have pl4 := plc_bound 40 (by decide) (size := 1) (rest := 40 - ((40 : Nat) : Int)) (ps := []) (fun p hp => nomatch hp) (by decide) (by decide) (by decide)
      refine ⟨q4, [], [], 40, 40, rfl, by decide, by decide, by decide, HS.sq at_q4, trivial, trivial, by decide, (fun p hp => nomatch hp), pl4, fun H8 K8 => ?_⟩
      have e1 : ways 40 (plc ((40 : Nat) : Int) 1 (40 - ((40 : Nat) : Int)) []) = 1 := by decide +kernel
      rw [e1]
      walk_at "hs"
      exact k _
end
theorem all_mk {l : PySem.W.OpenLaw} {w : World} {K : PySem.W.Frag} {h : Heap} {mg : Str → Option Value} {fa f0 f1 f2 f3 f4 f5 f6 f7 f8 f9 f10 f11 f12 f13 f14 f15 f16 : Addr} (X : K.In h) (G : h.Ns mainGlobals mg) (hfa : mg "law" = some (.ref fa))
    {od0 an0 od1 an1 od2 an2 od3 an3 od4 an4 od5 an5 od6 an6 od7 an7 od8 an8 od9 an9 od10 an10 od11 an11 od12 an12 od13 an13 od14 an14 od15 an15 od16 an16 : Option Addr} {sl0 sl1 sl2 sl3 sl4 sl5 sl6 sl7 sl8 sl9 sl10 sl11 sl12 sl13 sl14 sl15 sl16 : Array (Option Value)} {oc0 kV0 dc0 pm0 cd0 ct0 oc1 kV1 dc1 pm1 cd1 ct1 oc2 kV2 dc2 pm2 cd2 ct2 oc3 kV3 dc3 pm3 cd3 ct3 oc4 kV4 dc4 pm4 cd4 ct4 oc5 kV5 dc5 pm5 cd5 ct5 oc6 kV6 dc6 pm6 cd6 ct6 oc7 kV7 dc7 pm7 cd7 ct7 oc8 kV8 dc8 pm8 cd8 ct8 oc9 kV9 dc9 pm9 cd9 ct9 oc10 kV10 dc10 pm10 cd10 ct10 oc11 kV11 dc11 pm11 cd11 ct11 oc12 kV12 dc12 pm12 cd12 ct12 oc13 kV13 dc13 pm13 cd13 ct13 oc14 kV14 dc14 pm14 cd14 ct14 oc15 kV15 dc15 pm15 cd15 ct15 oc16 kV16 dc16 pm16 cd16 ct16 : Value}
    (a0 : PySem.W.nsIn K mainGlobals "_law_rng" = some (some (.ref f0)))
    (l0 : K.lookup f0 = some ⟨oc0, od0, .func (PySem.W.fnOf "_law_rng" "_law_rng" (defArgs s__law_rng) (defBody s__law_rng) (defScope s__law_rng) .none kV0 dc0 pm0 an0 cd0 ct0), sl0⟩) (c0 : PySem.W.codeIn K cd0 "_law_rng" = true) (k0 : PySem.W.keepIn K (.ref f0) = true)
    (a1 : PySem.W.nsIn K mainGlobals "_law_draw" = some (some (.ref f1)))
    (l1 : K.lookup f1 = some ⟨oc1, od1, .func (PySem.W.fnOf "_law_draw" "_law_draw" (defArgs s__law_draw) (defBody s__law_draw) (defScope s__law_draw) .none kV1 dc1 pm1 an1 cd1 ct1), sl1⟩) (c1 : PySem.W.codeIn K cd1 "_law_draw" = true) (k1 : PySem.W.keepIn K (.ref f1) = true)
    (a2 : PySem.W.nsIn K mainGlobals "_law_counted" = some (some (.ref f2)))
    (l2 : K.lookup f2 = some ⟨oc2, od2, .func (PySem.W.fnOf "_law_counted" "_law_counted" (defArgs s__law_counted) (defBody s__law_counted) (defScope s__law_counted) .none kV2 dc2 pm2 an2 cd2 ct2), sl2⟩) (c2 : PySem.W.codeIn K cd2 "_law_counted" = true) (k2 : PySem.W.keepIn K (.ref f2) = true)
    (a3 : PySem.W.nsIn K mainGlobals "check_not_negative" = some (some (.ref f3)))
    (l3 : K.lookup f3 = some ⟨oc3, od3, .func (PySem.W.fnOf "check_not_negative" "check_not_negative" (defArgs s_check_not_negative) (defBody s_check_not_negative) (defScope s_check_not_negative) .none kV3 dc3 pm3 an3 cd3 ct3), sl3⟩) (c3 : PySem.W.codeIn K cd3 "check_not_negative" = true) (k3 : PySem.W.keepIn K (.ref f3) = true)
    (a4 : PySem.W.nsIn K mainGlobals "check_chain" = some (some (.ref f4)))
    (l4 : K.lookup f4 = some ⟨oc4, od4, .func (PySem.W.fnOf "check_chain" "check_chain" (defArgs s_check_chain) (defBody s_check_chain) (defScope s_check_chain) .none kV4 dc4 pm4 an4 cd4 ct4), sl4⟩) (c4 : PySem.W.codeIn K cd4 "check_chain" = true) (k4 : PySem.W.keepIn K (.ref f4) = true)
    (a5 : PySem.W.nsIn K mainGlobals "check_demands" = some (some (.ref f5)))
    (l5 : K.lookup f5 = some ⟨oc5, od5, .func (PySem.W.fnOf "check_demands" "check_demands" (defArgs s_check_demands) (defBody s_check_demands) (defScope s_check_demands) .none kV5 dc5 pm5 an5 cd5 ct5), sl5⟩) (c5 : PySem.W.codeIn K cd5 "check_demands" = true) (k5 : PySem.W.keepIn K (.ref f5) = true)
    (a6 : PySem.W.nsIn K mainGlobals "has_book" = some (some (.ref f6)))
    (l6 : K.lookup f6 = some ⟨oc6, od6, .func (PySem.W.fnOf "has_book" "has_book" (defArgs s_has_book) (defBody s_has_book) (defScope s_has_book) .none kV6 dc6 pm6 an6 cd6 ct6), sl6⟩) (c6 : PySem.W.codeIn K cd6 "has_book" = true) (k6 : PySem.W.keepIn K (.ref f6) = true)
    (a7 : PySem.W.nsIn K mainGlobals "list_places" = some (some (.ref f7)))
    (l7 : K.lookup f7 = some ⟨oc7, od7, .func (PySem.W.fnOf "list_places" "list_places" (defArgs s_list_places) (defBody s_list_places) (defScope s_list_places) .none kV7 dc7 pm7 an7 cd7 ct7), sl7⟩) (c7 : PySem.W.codeIn K cd7 "list_places" = true) (k7 : PySem.W.keepIn K (.ref f7) = true)
    (a8 : PySem.W.nsIn K mainGlobals "count_lists" = some (some (.ref f8)))
    (l8 : K.lookup f8 = some ⟨oc8, od8, .func (PySem.W.fnOf "count_lists" "count_lists" (defArgs s_count_lists) (defBody s_count_lists) (defScope s_count_lists) .none kV8 dc8 pm8 an8 cd8 ct8), sl8⟩) (c8 : PySem.W.codeIn K cd8 "count_lists" = true) (k8 : PySem.W.keepIn K (.ref f8) = true)
    (a9 : PySem.W.nsIn K mainGlobals "multiply_ways" = some (some (.ref f9)))
    (l9 : K.lookup f9 = some ⟨oc9, od9, .func (PySem.W.fnOf "multiply_ways" "multiply_ways" (defArgs s_multiply_ways) (defBody s_multiply_ways) (defScope s_multiply_ways) .none kV9 dc9 pm9 an9 cd9 ct9), sl9⟩) (c9 : PySem.W.codeIn K cd9 "multiply_ways" = true) (k9 : PySem.W.keepIn K (.ref f9) = true)
    (a10 : PySem.W.nsIn K mainGlobals "count_fitting" = some (some (.ref f10)))
    (l10 : K.lookup f10 = some ⟨oc10, od10, .func (PySem.W.fnOf "count_fitting" "count_fitting" (defArgs s_count_fitting) (defBody s_count_fitting) (defScope s_count_fitting) .none kV10 dc10 pm10 an10 cd10 ct10), sl10⟩) (c10 : PySem.W.codeIn K cd10 "count_fitting" = true) (k10 : PySem.W.keepIn K (.ref f10) = true)
    (a11 : PySem.W.nsIn K mainGlobals "contradiction" = some (some (.ref f11)))
    (l11 : K.lookup f11 = some ⟨oc11, od11, .func (PySem.W.fnOf "contradiction" "contradiction" (defArgs s_contradiction) (defBody s_contradiction) (defScope s_contradiction) .none kV11 dc11 pm11 an11 cd11 ct11), sl11⟩) (c11 : PySem.W.codeIn K cd11 "contradiction" = true) (k11 : PySem.W.keepIn K (.ref f11) = true)
    (a12 : PySem.W.nsIn K mainGlobals "_law_sizes" = some (some (.ref f12)))
    (l12 : K.lookup f12 = some ⟨oc12, od12, .func (PySem.W.fnOf "_law_sizes" "_law_sizes" (defArgs s__law_sizes) (defBody s__law_sizes) (defScope s__law_sizes) .none kV12 dc12 pm12 an12 cd12 ct12), sl12⟩) (c12 : PySem.W.codeIn K cd12 "_law_sizes" = true) (k12 : PySem.W.keepIn K (.ref f12) = true)
    (a13 : PySem.W.nsIn K mainGlobals "_law_ways" = some (some (.ref f13)))
    (l13 : K.lookup f13 = some ⟨oc13, od13, .func (PySem.W.fnOf "_law_ways" "_law_ways" (defArgs s__law_ways) (defBody s__law_ways) (defScope s__law_ways) .none kV13 dc13 pm13 an13 cd13 ct13), sl13⟩) (c13 : PySem.W.codeIn K cd13 "_law_ways" = true) (k13 : PySem.W.keepIn K (.ref f13) = true)
    (a14 : PySem.W.nsIn K mainGlobals "_law_above" = some (some (.ref f14)))
    (l14 : K.lookup f14 = some ⟨oc14, od14, .func (PySem.W.fnOf "_law_above" "_law_above" (defArgs s__law_above) (defBody s__law_above) (defScope s__law_above) .none kV14 dc14 pm14 an14 cd14 ct14), sl14⟩) (c14 : PySem.W.codeIn K cd14 "_law_above" = true) (k14 : PySem.W.keepIn K (.ref f14) = true)
    (a15 : PySem.W.nsIn K mainGlobals "_law_due" = some (some (.ref f15)))
    (l15 : K.lookup f15 = some ⟨oc15, od15, .func (PySem.W.fnOf "_law_due" "_law_due" (defArgs s__law_due) (defBody s__law_due) (defScope s__law_due) .none kV15 dc15 pm15 an15 cd15 ct15), sl15⟩) (c15 : PySem.W.codeIn K cd15 "_law_due" = true) (k15 : PySem.W.keepIn K (.ref f15) = true)
    (a16 : PySem.W.nsIn K mainGlobals "law" = some (some (.ref f16)))
    (l16 : K.lookup f16 = some ⟨oc16, od16, .func (PySem.W.fnOf "law" "law" (defArgs s_law) (defBody s_law) (defScope s_law) .none kV16 dc16 pm16 an16 cd16 ct16), sl16⟩) (c16 : PySem.W.codeIn K cd16 "law" = true) (k16 : PySem.W.keepIn K (.ref f16) = true)
    (z0 : PySem.W.nsIn K mainGlobals "abs" = some none)
    (z1 : PySem.W.nsIn K mainGlobals "enumerate" = some none)
    (z2 : PySem.W.nsIn K mainGlobals "int" = some none)
    (z3 : PySem.W.nsIn K mainGlobals "len" = some none)
    (z4 : PySem.W.nsIn K mainGlobals "min" = some none)
    (z5 : PySem.W.nsIn K mainGlobals "range" = some none)
    (z6 : PySem.W.nsIn K mainGlobals "repr" = some none)
    (z7 : PySem.W.nsIn K mainGlobals "sum" = some none)
    (y_comb : PySem.W.nsIn K mainGlobals "comb" = some (some (.builtin "math.comb")))
    (ims : PySem.W.nsIn K cStatics "sys.int_max_str_digits" = some none)
    : ∃ fd : FuncData, (∀ (s : Shared) (v : Value), BindsTo s fd ⟨[v], []⟩ [("script", v)]) ∧ ∀ base : Heap, K.In base → base.Ns mainGlobals mg → FnOk l.prog w K mg base CX0 5 fa fd ["script"] (sp_law K) := by
  have e := hfa.symm.trans (PySem.W.mg_of X G a16)
  cases e
  have F0 := fun_mk (st := s__law_rng) l0 c0 k0
  have F1 := fun_mk (st := s__law_draw) l1 c1 k1
  have F2 := fun_mk (st := s__law_counted) l2 c2 k2
  have F3 := fun_mk (st := s_check_not_negative) l3 c3 k3
  have F4 := fun_mk (st := s_check_chain) l4 c4 k4
  have F5 := fun_mk (st := s_check_demands) l5 c5 k5
  have F6 := fun_mk (st := s_has_book) l6 c6 k6
  have F7 := fun_mk (st := s_list_places) l7 c7 k7
  have F8 := fun_mk (st := s_count_lists) l8 c8 k8
  have F9 := fun_mk (st := s_multiply_ways) l9 c9 k9
  have F10 := fun_mk (st := s_count_fitting) l10 c10 k10
  have F11 := fun_mk (st := s_contradiction) l11 c11 k11
  have F12 := fun_mk (st := s__law_sizes) l12 c12 k12
  have F13 := fun_mk (st := s__law_ways) l13 c13 k13
  have F14 := fun_mk (st := s__law_above) l14 c14 k14
  have F15 := fun_mk (st := s__law_due) l15 c15 k15
  have F16 := fun_mk (st := s_law) l16 c16 k16
  have T : Txt K mg ⟨f0, PySem.W.fnOf "_law_rng" "_law_rng" (defArgs s__law_rng) (defBody s__law_rng) (defScope s__law_rng) .none kV0 dc0 pm0 an0 cd0 ct0, f1, PySem.W.fnOf "_law_draw" "_law_draw" (defArgs s__law_draw) (defBody s__law_draw) (defScope s__law_draw) .none kV1 dc1 pm1 an1 cd1 ct1, f2, PySem.W.fnOf "_law_counted" "_law_counted" (defArgs s__law_counted) (defBody s__law_counted) (defScope s__law_counted) .none kV2 dc2 pm2 an2 cd2 ct2, f3, PySem.W.fnOf "check_not_negative" "check_not_negative" (defArgs s_check_not_negative) (defBody s_check_not_negative) (defScope s_check_not_negative) .none kV3 dc3 pm3 an3 cd3 ct3, f4, PySem.W.fnOf "check_chain" "check_chain" (defArgs s_check_chain) (defBody s_check_chain) (defScope s_check_chain) .none kV4 dc4 pm4 an4 cd4 ct4, f5, PySem.W.fnOf "check_demands" "check_demands" (defArgs s_check_demands) (defBody s_check_demands) (defScope s_check_demands) .none kV5 dc5 pm5 an5 cd5 ct5, f6, PySem.W.fnOf "has_book" "has_book" (defArgs s_has_book) (defBody s_has_book) (defScope s_has_book) .none kV6 dc6 pm6 an6 cd6 ct6, f7, PySem.W.fnOf "list_places" "list_places" (defArgs s_list_places) (defBody s_list_places) (defScope s_list_places) .none kV7 dc7 pm7 an7 cd7 ct7, f8, PySem.W.fnOf "count_lists" "count_lists" (defArgs s_count_lists) (defBody s_count_lists) (defScope s_count_lists) .none kV8 dc8 pm8 an8 cd8 ct8, f9, PySem.W.fnOf "multiply_ways" "multiply_ways" (defArgs s_multiply_ways) (defBody s_multiply_ways) (defScope s_multiply_ways) .none kV9 dc9 pm9 an9 cd9 ct9, f10, PySem.W.fnOf "count_fitting" "count_fitting" (defArgs s_count_fitting) (defBody s_count_fitting) (defScope s_count_fitting) .none kV10 dc10 pm10 an10 cd10 ct10, f11, PySem.W.fnOf "contradiction" "contradiction" (defArgs s_contradiction) (defBody s_contradiction) (defScope s_contradiction) .none kV11 dc11 pm11 an11 cd11 ct11, f12, PySem.W.fnOf "_law_sizes" "_law_sizes" (defArgs s__law_sizes) (defBody s__law_sizes) (defScope s__law_sizes) .none kV12 dc12 pm12 an12 cd12 ct12, f13, PySem.W.fnOf "_law_ways" "_law_ways" (defArgs s__law_ways) (defBody s__law_ways) (defScope s__law_ways) .none kV13 dc13 pm13 an13 cd13 ct13, f14, PySem.W.fnOf "_law_above" "_law_above" (defArgs s__law_above) (defBody s__law_above) (defScope s__law_above) .none kV14 dc14 pm14 an14 cd14 ct14, f15, PySem.W.fnOf "_law_due" "_law_due" (defArgs s__law_due) (defBody s__law_due) (defScope s__law_due) .none kV15 dc15 pm15 an15 cd15 ct15, fa, PySem.W.fnOf "law" "law" (defArgs s_law) (defBody s_law) (defScope s_law) .none kV16 dc16 pm16 an16 cd16 ct16⟩ :=
    { F__law_rng := F0,
      g__law_rng := PySem.W.mg_of X G a0,
      b__law_rng := F0.binds (ps := ["script"]) fun _ _ _ _ _ _ us hl => match us, hl with | [_], _ => rfl,
      F__law_draw := F1,
      g__law_draw := PySem.W.mg_of X G a1,
      b__law_draw := F1.binds (ps := ["rng", "limit"]) fun _ _ _ _ _ _ us hl => match us, hl with | [_, _], _ => rfl,
      F__law_counted := F2,
      g__law_counted := PySem.W.mg_of X G a2,
      b__law_counted := F2.binds (ps := ["some", "wide"]) fun _ _ _ _ _ _ us hl => match us, hl with | [_, _], _ => rfl,
      F_check_not_negative := F3,
      g_check_not_negative := PySem.W.mg_of X G a3,
      b_check_not_negative := F3.binds (ps := ["number"]) fun _ _ _ _ _ _ us hl => match us, hl with | [_], _ => rfl,
      F_check_chain := F4,
      g_check_chain := PySem.W.mg_of X G a4,
      b_check_chain := F4.binds (ps := ["chain"]) fun _ _ _ _ _ _ us hl => match us, hl with | [_], _ => rfl,
      F_check_demands := F5,
      g_check_demands := PySem.W.mg_of X G a5,
      b_check_demands := F5.binds (ps := ["chapters", "lines", "chain"]) fun _ _ _ _ _ _ us hl => match us, hl with | [_, _, _], _ => rfl,
      F_has_book := F6,
      g_has_book := PySem.W.mg_of X G a6,
      b_has_book := F6.binds (ps := ["chapters", "many"]) fun _ _ _ _ _ _ us hl => match us, hl with | [_, _], _ => rfl,
      F_list_places := F7,
      g_list_places := PySem.W.mg_of X G a7,
      b_list_places := F7.binds (ps := ["chapters", "lines", "chain"]) fun _ _ _ _ _ _ us hl => match us, hl with | [_, _, _], _ => rfl,
      F_count_lists := F8,
      g_count_lists := PySem.W.mg_of X G a8,
      b_count_lists := F8.binds (ps := ["terms", "limit", "total"]) fun _ _ _ _ _ _ us hl => match us, hl with | [_, _, _], _ => rfl,
      F_multiply_ways := F9,
      g_multiply_ways := PySem.W.mg_of X G a9,
      b_multiply_ways := F9.binds (ps := ["chapters", "places"]) fun _ _ _ _ _ _ us hl => match us, hl with | [_, _], _ => rfl,
      F_count_fitting := F10,
      g_count_fitting := PySem.W.mg_of X G a10,
      b_count_fitting := F10.binds (ps := ["chapters", "lines", "chain"]) fun _ _ _ _ _ _ us hl => match us, hl with | [_, _, _], _ => rfl,
      F_contradiction := F11,
      g_contradiction := PySem.W.mg_of X G a11,
      b_contradiction := F11.binds (ps := ["chapters", "lines", "chain"]) fun _ _ _ _ _ _ us hl => match us, hl with | [_, _, _], _ => rfl,
      F__law_sizes := F12,
      g__law_sizes := PySem.W.mg_of X G a12,
      b__law_sizes := F12.binds (ps := ["rng", "many", "most"]) fun _ _ _ _ _ _ us hl => match us, hl with | [_, _, _], _ => rfl,
      F__law_ways := F13,
      g__law_ways := PySem.W.mg_of X G a13,
      b__law_ways := F13.binds (ps := ["many", "base"]) fun _ _ _ _ _ _ us hl => match us, hl with | [_, _], _ => rfl,
      F__law_above := F14,
      g__law_above := PySem.W.mg_of X G a14,
      b__law_above := F14.binds (ps := ["many", "total"]) fun _ _ _ _ _ _ us hl => match us, hl with | [_, _], _ => rfl,
      F__law_due := F15,
      g__law_due := PySem.W.mg_of X G a15,
      b__law_due := F15.binds (ps := ["some", "sizes_here"]) fun _ _ _ _ _ _ us hl => match us, hl with | [_, _], _ => rfl,
      F_law := F16,
      g_law := PySem.W.mg_of X G a16,
      b_law := F16.binds (ps := ["script"]) fun _ _ _ _ _ _ us hl => match us, hl with | [_], _ => rfl,
      z_abs := PySem.W.mg_none_of X G z0,
      z_enumerate := PySem.W.mg_none_of X G z1,
      z_int := PySem.W.mg_none_of X G z2,
      z_len := PySem.W.mg_none_of X G z3,
      z_min := PySem.W.mg_none_of X G z4,
      z_range := PySem.W.mg_none_of X G z5,
      z_repr := PySem.W.mg_none_of X G z6,
      z_sum := PySem.W.mg_none_of X G z7,
      y_comb := PySem.W.mg_of X G y_comb,
      nodig := ims }
  exact ⟨_, fun s v => .of_eq rfl, fun base _ _ => ok_law T⟩
end WK17
open PySem PySem.W PyProof.Rows
set_option maxHeartbeats 0 in
theorem PySem.Challenge.cw_pagecounts_k17_great_numbers_of_fitting_holds : PySem.Challenge.rw_pagecounts_k17_great_numbers_of_fitting.Holds := by
  w_on; o_law; k_head; (case hw => w_witness2)
  k_fill
  refine L2.walk_of (l := PySem.Challenge.rw_pagecounts_k17_great_numbers_of_fitting) (n := 63) (k := 5) (x := "script") (CX := fun _ => L2.CX0) (sp := fun w => WK17.sp_law _) rfl (by decide) rfl ⟨rfl, by decide, by decide⟩ (fun w h Y => PySem.W.kIn_of Y) ?F (fun _ _ a ns hl _ hS => ⟨a, ns, rfl, hS, hl, fun _ => rfl⟩) (fun _ _ _ _ _ h => h)
  case F =>
    intro w mg fa h KX G hmg
    refine' WK17.all_mk KX G hmg ?a0 ?l0 ?c0 ?k0 ?a1 ?l1 ?c1 ?k1 ?a2 ?l2 ?c2 ?k2 ?a3 ?l3 ?c3 ?k3 ?a4 ?l4 ?c4 ?k4 ?a5 ?l5 ?c5 ?k5 ?a6 ?l6 ?c6 ?k6 ?a7 ?l7 ?c7 ?k7 ?a8 ?l8 ?c8 ?k8 ?a9 ?l9 ?c9 ?k9 ?a10 ?l10 ?c10 ?k10 ?a11 ?l11 ?c11 ?k11 ?a12 ?l12 ?c12 ?k12 ?a13 ?l13 ?c13 ?k13 ?a14 ?l14 ?c14 ?k14 ?a15 ?l15 ?c15 ?k15 ?a16 ?l16 ?c16 ?k16 ?z0 ?z1 ?z2 ?z3 ?z4 ?z5 ?z6 ?z7 ?y_comb ?ims
    (case a0 => k_is); (case l0 => k_is); (case c0 => k_is); (case k0 => k_is); (case a1 => k_is); (case l1 => k_is); (case c1 => k_is); (case k1 => k_is); (case a2 => k_is); (case l2 => k_is); (case c2 => k_is); (case k2 => k_is); (case a3 => k_is); (case l3 => k_is); (case c3 => k_is); (case k3 => k_is); (case a4 => k_is); (case l4 => k_is); (case c4 => k_is); (case k4 => k_is); (case a5 => k_is); (case l5 => k_is); (case c5 => k_is); (case k5 => k_is); (case a6 => k_is); (case l6 => k_is); (case c6 => k_is); (case k6 => k_is); (case a7 => k_is); (case l7 => k_is); (case c7 => k_is); (case k7 => k_is); (case a8 => k_is); (case l8 => k_is); (case c8 => k_is); (case k8 => k_is); (case a9 => k_is); (case l9 => k_is); (case c9 => k_is); (case k9 => k_is); (case a10 => k_is); (case l10 => k_is); (case c10 => k_is); (case k10 => k_is); (case a11 => k_is); (case l11 => k_is); (case c11 => k_is); (case k11 => k_is); (case a12 => k_is); (case l12 => k_is); (case c12 => k_is); (case k12 => k_is); (case a13 => k_is); (case l13 => k_is); (case c13 => k_is); (case k13 => k_is); (case a14 => k_is); (case l14 => k_is); (case c14 => k_is); (case k14 => k_is); (case a15 => k_is); (case l15 => k_is); (case c15 => k_is); (case k15 => k_is); (case a16 => k_is); (case l16 => k_is); (case c16 => k_is); (case k16 => k_is); (case z0 => k_is); (case z1 => k_is); (case z2 => k_is); (case z3 => k_is); (case z4 => k_is); (case z5 => k_is); (case z6 => k_is); (case z7 => k_is); (case y_comb => k_is); (case ims => k_is)

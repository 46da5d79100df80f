import PyProof.Rows.All
import Wide.All
import OpenK.AllK
import Wide.FinOn
import HandS.Evl
import HandS.GenList
import HandS.Walk
import HandS.WordsExc
import HandS.ForMost
import HandS.Wide
import HandS.Style
import HandS.SortInts
import HandS.SortKw
import HandS.SetFor
import HandS.Flow
import HandS.Gcd
import HandS.Strs
import HandS.Property
import HandS.ExcInit
import HandS.ExcIs
import HandS.ExcField
import HandS.ExcOwn
import HandS.Deep
import HandS.NoneIn
import HandS.IsInst
import HandS.Defaults
import KE.KExcIs
import KE.KMathG
import HandS.RaiseMore
import PyProof.ReprRoads
import PyProof.ReprBulk
import PyProof.FitsInt
import PySem.Challenge.RW_pagecounts_k22_hidden_books_answer
set_option Elab.async false
set_option linter.all false
set_option maxRecDepth 100000
set_option maxHeartbeats 4000000
/-! Readings, step by step, from their heads (own lemmas over HandS). -/
namespace HS
open PySem PySem.Spec PyProof.Rows L2
section
variable {σ : L2.St} {H : Hp} {Q : VK} {t u : TS} {te ta tb tx : TE} {tt tv : TT} {n bk ct : L2.St → Hp → Prop} {rt : VK} {K : PySem.W.Frag}
theorem seq (h : t ⟨u ⟨n, rt, bk, ct⟩, rt, bk, ct⟩ σ H) : tSeq t u ⟨n, rt, bk, ct⟩ σ H := h
theorem nxt (h : n σ H) : tNext ⟨n, rt, bk, ct⟩ σ H := h
theorem brk (h : bk σ H) : tBreak ⟨n, rt, bk, ct⟩ σ H := h
theorem cnt (h : ct σ H) : tCont ⟨n, rt, bk, ct⟩ σ H := h
theorem asg {g : TG} (h : te σ H fun x H1 => g x σ H1 n) : tAsg te g ⟨n, rt, bk, ct⟩ σ H := h
theorem nm {v : V} {i : Nat} {q : L2.St → Hp → Prop} (h : q (σ.set i (some v)) H) : gName i v σ H q := h
theorem sub {to ti : TE} {ts : TSet} {v : V} {q : L2.St → Hp → Prop} (h : to σ H fun o H1 => ti σ H1 fun i H2 => ts o i v H2 fun H3 => q σ H3) : gSub to ti ts v σ H q := h
theorem var {i : Nat} {v : V} (h : σ[i]? = some (some v)) (q : Q v H) : tVar i σ H Q := ⟨v, h, q⟩
theorem cst {v : V} (q : Q v H) : tC v σ H Q := q
theorem op {r : R2} (h : ta σ H fun x H1 => tb σ H1 fun y H2 => r x y H2 Q) : tOp r ta tb σ H Q := h
theorem un {r : V → Hp → VK → Prop} (h : ta σ H fun x H1 => r x H1 Q) : tUn r ta σ H Q := h
theorem i0 {g : Int → Int → V} {i j : Int} (q : Q (g i j) H) : rI0 g (.int i) (.int j) H Q := ⟨i, j, rfl, rfl, q⟩
theorem i1 {C : Int → Int → Prop} {g : Int → Int → V} {i j : Int} (q : C i j ∧ Q (g i j) H) : rI C g (.int i) (.int j) H Q := ⟨i, j, rfl, rfl, q⟩
theorem u0 {g : Int → V} {i : Int} (q : Q (g i) H) : rU g (.int i) H Q := ⟨i, rfl, q⟩
theorem eqI {i j : Int} (q : Q (.bl (decide (i = j))) H) : rEq (.int i) (.int j) H Q := ⟨rfl, by
  have e : decide ((V.int i) = V.int j) = decide (i = j) := by
    by_cases h : i = j
    · rw [h]; simp
    · have h2 : ¬ (V.int i = V.int j) := fun z => h (V.int.inj z)
      rw [decide_eq_false h, decide_eq_false h2]
  rw [e]; exact q⟩
theorem neI {i j : Int} (q : Q (.bl (!decide (i = j))) H) : rNe (.int i) (.int j) H Q := ⟨rfl, by
  have e : decide ((V.int i) = V.int j) = decide (i = j) := by
    by_cases h : i = j
    · rw [h]; simp
    · have h2 : ¬ (V.int i = V.int j) := fun z => h (V.int.inj z)
      rw [decide_eq_false h, decide_eq_false h2]
  rw [e]; exact q⟩
theorem tst {q : Bool → Hp → Prop} (h : te σ H fun x H' => ∃ k, x = .bl k ∧ q k H') : tTest te σ H q := h
theorem tb1 {q : Bool → Hp → Prop} (h : te σ H fun x H' => ∃ k, x = .bl k ∧ q k H') : tB te σ H q := h
theorem bex {b : Bool} {q : Bool → Prop} (h : q b) : ∃ k, V.bl b = V.bl k ∧ q k := ⟨b, rfl, h⟩
theorem ifs (h : tt σ H fun b H1 => if b = true then t ⟨n, rt, bk, ct⟩ σ H1 else u ⟨n, rt, bk, ct⟩ σ H1) : tIfS tt t u ⟨n, rt, bk, ct⟩ σ H := h
theorem ife (h : tt σ H fun b H1 => if b = true then ta σ H1 Q else tb σ H1 Q) : tIf tt ta tb σ H Q := h
theorem and {q : Bool → Hp → Prop} (h : tt σ H fun c H1 => if c = true then tv σ H1 q else q false H1) : tAnd tt tv σ H q := h
theorem or {q : Bool → Hp → Prop} (h : tt σ H fun c H1 => if c = true then q true H1 else tv σ H1 q) : tOr tt tv σ H q := h
theorem not {q : Bool → Hp → Prop} (h : tt σ H fun c H1 => q (!c) H1) : tNot tt σ H q := h
theorem andV (h : ta σ H fun x H1 => ∃ c, x = .bl c ∧ if c = true then tb σ H1 Q else Q (.bl false) H1) : tAndV ta tb σ H Q := h
theorem orV (h : ta σ H fun x H1 => ∃ c, x = .bl c ∧ if c = true then Q (.bl true) H1 else tb σ H1 Q) : tOrV ta tb σ H Q := h
theorem notV (h : ta σ H fun x H1 => ∃ c, x = .bl c ∧ Q (.bl (!c)) H1) : tNotV ta σ H Q := h
theorem chn {r r' : R2} {tc : TE} (h : ta σ H fun x H1 => tb σ H1 fun y H2 => r x y H2 fun z H3 => ∃ k, z = .bl k ∧ if k = true then tc σ H3 fun w H4 => r' y w H4 Q else Q (.bl false) H3) : tChain r r' ta tb tc σ H Q := h
theorem ret (h : te σ H rt) : tRet te ⟨n, rt, bk, ct⟩ σ H := h
theorem retN (h : rt .non H) : tRetN ⟨n, rt, bk, ct⟩ σ H := h
theorem drp (h : te σ H fun _ H1 => n σ H1) : tDrop te ⟨n, rt, bk, ct⟩ σ H := h
theorem cb {r : List V → Hp → VK → Prop} {tl : TA} (h : tl σ H fun vs H1 => r vs H1 Q) : tCB r tl σ H Q := h
theorem anil {q : List V → Hp → Prop} (h : q [] H) : tNil σ H q := h
theorem acons {tl : TA} {q : List V → Hp → Prop} (h : te σ H fun x H1 => tl σ H1 fun xs H2 => q (x :: xs) H2) : tCons te tl σ H q := h
theorem cal {sp : Sp} {E : XK} {tl : TA} (h : tl σ H fun vs H1 => sp vs H1 Q E) : tCall sp [] E tl σ H Q := by
  show tl σ H fun vs H1 => sp (vs ++ []) H1 Q E
  simp only [List.append_nil]; exact h
theorem tup {tl : TA} (h : tl σ H fun xs H1 => xs.length ≤ sizeLine ∧ ∀ p, H1 p = none → Q (.ref p) (upd H1 p (.tup xs))) : tTup tl σ H Q := h
theorem lst {tl : TA} (h : tl σ H fun xs H1 => xs.length ≤ sizeLine ∧ ∀ p, H1 p = none → Q (.ref p) (upd H1 p (.lst xs))) : tLst tl σ H Q := h
theorem par {i j : Nat} {tl : TA} (h : tl σ H fun vs H1 => ∃ v w, vs = [v, w] ∧ n ((σ.set i (some v)).set j (some w)) H1) : tPar i j tl ⟨n, rt, bk, ct⟩ σ H := h
theorem ex2 {v w : V} {q : V → V → Prop} (h : q v w) : ∃ a b, [v, w] = [a, b] ∧ q a b := ⟨v, w, rfl, h⟩
theorem aug {i : Nat} {ti : TIp} {x : V} (e : σ[i]? = some (some x)) (h : te σ H fun y H1 => ti x y H1 fun z H2 => n (σ.set i (some z)) H2) : tAug i te ti ⟨n, rt, bk, ct⟩ σ H := ⟨x, e, h⟩
theorem ipi {f : Int → Int → Int} {i j : Int} (q : Q (.int (f i j)) H) : ipI f (.int i) (.int j) H Q := ⟨i, j, rfl, rfl, q⟩
theorem addI {i j : Int} (q : Q (.int (i + j)) H) : rAdd (.int i) (.int j) H Q := ⟨i, j, rfl, rfl, q⟩
theorem ixL {p : Addr} {xs : List V} {i : Int} {v : V} (h : SqL K H p xs) (e : atI xs i = some v) (q : Q v H) : rIxL K (.ref p) (.int i) H Q := ⟨p, xs, i, v, rfl, rfl, h, e, q⟩
theorem ixT {p : Addr} {xs : List V} {i : Int} {v : V} (h : SqT K H p xs) (e : atI xs i = some v) (q : Q v H) : rIxT K (.ref p) (.int i) H Q := ⟨p, xs, i, v, rfl, rfl, h, e, q⟩
/-- an if over a decided thing -/
theorem itd {c A B : Prop} [Decidable c] (h1 : c → A) (h2 : ¬ c → B) : if decide c = true then A else B := by
  by_cases h : c
  · rw [decide_eq_true h, if_pos rfl]; exact h1 h
  · rw [decide_eq_false h, if_neg Bool.false_ne_true]; exact h2 h
theorem itn {c A B : Prop} [Decidable c] (h1 : ¬ c → A) (h2 : c → B) : if (!decide c) = true then A else B := by
  by_cases h : c
  · rw [decide_eq_true h]; exact iteF (h2 h)
  · rw [decide_eq_false h]; exact iteT (h1 h)
theorem it1 {c A B : Prop} [Decidable c] (hc : c) (h : A) : if decide c = true then A else B := itd (fun _ => h) fun z => absurd hc z
theorem it0 {c A B : Prop} [Decidable c] (hc : ¬ c) (h : B) : if decide c = true then A else B := itd (fun z => absurd z hc) fun _ => h
theorem in1 {c A B : Prop} [Decidable c] (hc : ¬ c) (h : A) : if (!decide c) = true then A else B := itn (fun _ => h) fun z => absurd z hc
theorem in0 {c A B : Prop} [Decidable c] (hc : c) (h : B) : if (!decide c) = true then A else B := itn (fun z => absurd hc z) fun _ => h
end
/-! ### heaps: all but S stands -/
def Keep (S : Addr → Prop) (H H' : Hp) : Prop := ∀ a o, H a = some o → ¬ S a → H' a = some o
section
variable {S : Addr → Prop} {H H1 H2 : Hp} {p q : Addr} {o u : HO}
theorem Keep.refl : Keep S H H := fun _ _ h _ => h
theorem Keep.trans (a : Keep S H H1) (b : Keep S H1 H2) : Keep S H H2 := fun x o h n => b x o (a x o h n) n
theorem Keep.new (h : H p = none) : Keep S H (upd H p o) := fun a u e _ => by rw [upd_ne (ne_of_none e h)]; exact e
theorem Keep.put (k : Keep S H H1) (h : H p = none) : Keep S H (upd H1 p o) := fun a u e n => by rw [upd_ne (ne_of_none e h)]; exact k a u e n
theorem Keep.at (k : Keep S H H1) (h : S p) : Keep S H (upd H1 p o) := fun a u e n => by rw [upd_ne (fun z => n (by rw [z]; exact h))]; exact k a u e n
theorem Keep.free (k : Keep S H H1) (h : H1 p = none) (n : ¬ S p) : H p = none := by
  cases e : H p with
  | none => rfl
  | some o => have z := k p o e n; rw [h] at z; cases z
theorem Keep.sq {K : PySem.W.Frag} {xs : List V} (k : Keep S H H1) (h : SqL K H p xs) (n : ¬ S p) : SqL K H1 p xs := by
  rcases h with (h | ⟨o, h⟩) | h
  · exact .inl (.inl (k _ _ h n))
  · exact .inl (.inr ⟨o, k _ _ h n⟩)
  · exact .inr h
theorem Keep.st {K : PySem.W.Frag} {xs : List V} (k : Keep S H H1) (h : SqT K H p xs) (n : ¬ S p) : SqT K H1 p xs := by
  rcases h with (h | ⟨o, h⟩) | h
  · exact .inl (.inl (k _ _ h n))
  · exact .inl (.inr ⟨o, k _ _ h n⟩)
  · exact .inr h
theorem sq {K : PySem.W.Frag} {xs : List V} (h : H p = some (.lst xs)) : SqL K H p xs := .inl (.inl h)
theorem st {K : PySem.W.Frag} {xs : List V} (h : H p = some (.tup xs)) : SqT K H p xs := .inl (.inl h)
end
end HS
theorem hu64 {A : PySem.Around} {k : Nat} (hr : L2.Room k A) : A.units + 64 < PySem.cLine := hr.units
namespace HS
open PySem PySem.Spec PyProof.Rows L2
section
variable {σ : L2.St} {H : Hp} {Q : VK} {te ta tb tx : TE} {K : PySem.W.Frag} {X : Cx}
theorem sz {n : Nat} (h : n ≤ 100000) : n < sizeLine := Nat.lt_of_le_of_lt h (by decide)
theorem szl {n : Nat} (h : n ≤ 100000) : n ≤ sizeLine := Nat.le_of_lt (sz h)
theorem pe_fold {e : Expr} {t : TE} (z : Int) (h : PE X e t) (k : ∀ (σ : L2.St) (H : Hp) (Q : VK), Q (.int z) H → t σ H Q) : PE X e (tC (.int z)) :=
  ⟨fun pins s σ H Q I q => h.run pins s σ H Q I (k σ H Q q)⟩
theorem ii {a b : Int} {q : Int → Int → Prop} (h : q a b) : ∃ i j, [V.int a, V.int b] = [V.int i, V.int j] ∧ q i j := ⟨a, b, rfl, h⟩
theorem bmL {r : V → List V → Hp → VK → Prop} {tl : TA} (h : ta σ H fun x H1 => tyV K "list" x H1 ∧ tl σ H1 fun xs H2 => r x xs H2 Q) : tBM K "list" r ta tl σ H Q := h
theorem bmL0 {r : V → List V → Hp → VK → Prop} (h : ta σ H fun x H1 => tyV K "list" x H1 ∧ r x [] H1 Q) : tBM0 K "list" r ta σ H Q := h
theorem tyL {p : Addr} {xs : List V} {A : Prop} (h : H p = some (.lst xs)) (q : A) : tyV K "list" (.ref p) H ∧ A := ⟨.inl ⟨rfl, _, .inl (.inl h)⟩, q⟩
theorem app {l : Addr} {xs : List V} {y : V} (h : H l = some (.lst xs)) (q : xs.length < sizeLine ∧ Q .non (upd H l (.lst (xs ++ [y])))) : rAppend (.ref l) [y] H Q := ⟨l, xs, y, rfl, rfl, h, q⟩
theorem pop0 {l : Addr} {y : V} {ys : List V} (h : H l = some (.lst (y :: ys))) (q : Q y (upd H l (.lst ys))) : rPopAt (.ref l) [.int 0] H Q := ⟨l, y :: ys, 0, 0, y, rfl, rfl, h, by decide, by decide, by simp [seqIndex?], rfl, q⟩
theorem setL {p : Addr} {xs : List V} {k : Int} {j : Nat} {v : V} {q : Hp → Prop} (h : H p = some (.lst xs)) (e : ixN xs.length k = some j) (g : q (upd H p (.lst (xs.set j v)))) : rSetL (.ref p) (.int k) v H q := ⟨p, xs, _, j, rfl, rfl, h, e, g⟩
theorem mulW {i j : Int} (a b : Nat) (h0 : 0 ≤ i) (h1 : i < 2 ^ a) (g0 : 0 ≤ j) (g1 : j < 2 ^ b) (ha : 0 < a) (hb : 0 < b) (h : a + b ≤ 1000000) : CMulW i j := by
  refine wide_mul (a := a) (b := b) ?_ ?_ ha hb h
  · have : ((i.natAbs : Nat) : Int) < ((2 ^ a : Nat) : Int) := by rw [Int.natAbs_of_nonneg h0]; simpa using h1
    exact Int.ofNat_lt.mp this
  · have : ((j.natAbs : Nat) : Int) < ((2 ^ b : Nat) : Int) := by rw [Int.natAbs_of_nonneg g0]; simpa using g1
    exact Int.ofNat_lt.mp this
theorem divW {i j : Int} (b : Nat) (h : 0 < j) (h1 : j < 2 ^ b) (hb : 0 < b) (h9 : b ≤ 9000) : CDivW i j := by
  refine wide_div (b := b) h ?_ hb h9
  have : ((j.natAbs : Nat) : Int) < ((2 ^ b : Nat) : Int) := by rw [Int.natAbs_of_nonneg (by omega)]; simpa using h1
  exact Int.ofNat_lt.mp this
theorem get_int {ns : List Int} {i : Nat} {x : V} (hi : (ns.map V.int)[i]? = some x) : ∃ z, x = .int z ∧ ns[i]? = some z ∧ i < ns.length := by
  rw [List.getElem?_map] at hi
  cases e : ns[i]? with
  | none => rw [e] at hi; cases hi
  | some z => rw [e] at hi; exact ⟨z, (Option.some.inj hi).symm, rfl, (List.getElem?_eq_some_iff.mp e).1⟩
end
end HS
namespace HS
open PySem PySem.Spec PyProof.Rows L2
theorem Keep.new' {S : Addr → Prop} {H H0 H1 : Hp} {p : Addr} {o : HO} (h : H0 p = none) (k0 : Keep S H H0) (n : ¬ S p) (k : Keep S H H1) : Keep S H (upd H1 p o) := k.put (k0.free h n)
theorem nS2 {p a b : Addr} (h1 : p ≠ a) (h2 : p ≠ b) : ¬ (p = a ∨ p = b) := fun z => z.elim h1 h2
theorem nS3 {p a b c : Addr} (h1 : p ≠ a) (h2 : p ≠ b) (h3 : p ≠ c) : ¬ (p = a ∨ p = b ∨ p = c) := fun z => z.elim h1 fun z => z.elim h2 h3
end HS
namespace HS
open PySem PySem.Spec PyProof.Rows L2
section
variable {σ : L2.St} {H : Hp} {t u : TS} {n bk ct : L2.St → Hp → Prop} {rt : VK}
theorem pnx (h : n σ H) : Ends.nx ⟨n, rt, bk, ct⟩ σ H := h
theorem pbk (h : bk σ H) : Ends.bk ⟨n, rt, bk, ct⟩ σ H := h
theorem pct (h : ct σ H) : Ends.ct ⟨n, rt, bk, ct⟩ σ H := h
theorem prt {v : V} (h : rt v H) : Ends.rt ⟨n, rt, bk, ct⟩ v H := h
theorem cut (M : L2.St → Hp → Prop) (h : t ⟨M, rt, bk, ct⟩ σ H) (k : ∀ σ' H', M σ' H' → u ⟨n, rt, bk, ct⟩ σ' H') : Evl.tCut t u ⟨n, rt, bk, ct⟩ σ H := ⟨M, h, k⟩
theorem pow_lt {i : Int} {a : Nat} (k : Nat) (h0 : 0 ≤ i) (h : i < 2 ^ a) : 0 ≤ i ^ k ∧ (i ^ k < 2 ^ (a * k) ∨ k = 0) := by
  refine ⟨Int.pow_nonneg h0, ?_⟩
  cases k with
  | zero => exact .inr rfl
  | succ k =>
    refine .inl ?_
    obtain ⟨m, rfl⟩ := Int.eq_ofNat_of_zero_le h0
    have h' : m < 2 ^ a := by have : ((m : Nat) : Int) < ((2 ^ a : Nat) : Int) := by simpa using h
                              exact Int.ofNat_lt.mp this
    have := Nat.pow_lt_pow_left h' (Nat.succ_ne_zero k)
    rw [← Nat.pow_mul] at this
    have z : ((m ^ (k + 1) : Nat) : Int) < ((2 ^ (a * (k + 1)) : Nat) : Int) := Int.ofNat_lt.mpr this
    simpa using z
end
end HS
namespace HS
open PySem PySem.Spec PyProof.Rows L2
section
variable {σ : L2.St} {H : Hp} {Q : VK} {ta tb te : TE} {K : PySem.W.Frag}
theorem szc {n : Nat} {A : Prop} (h : n ≤ 100000) (q : A) : n ≤ sizeLine ∧ A := ⟨szl h, q⟩
theorem szd {n : Nat} {A : Prop} (h : n ≤ 100000) (q : A) : n < sizeLine ∧ A := ⟨sz h, q⟩
theorem wp {σ1 σ2 : L2.St} {vs : List Nat} {A : Prop} (e : wipe σ2 vs = wipe σ1 vs) (q : A) : wipe σ2 vs = wipe σ1 vs ∧ A := ⟨e, q⟩
theorem yes {q : Bool → Hp → Prop} (h : q true H) : tYes σ H q := h
theorem ixI {p : Addr} {i : Int} (ns : List Int) (h : SqL K H p (ns.map V.int)) (h0 : 0 ≤ i) (h1 : i < ns.length) (q : ∀ z, ns[i.toNat]? = some z → z ∈ ns → Q (.int z) H) : rIxL K (.ref p) (.int i) H Q := by
  have hi : i.toNat < ns.length := by omega
  have e : ns[i.toNat]? = some ns[i.toNat] := List.getElem?_eq_getElem hi
  refine ⟨p, ns.map V.int, i, .int ns[i.toNat], rfl, rfl, h, ?_, q _ e (List.getElem_mem hi)⟩
  exact at_of (j := i.toNat) (by omega) (by rw [List.getElem?_map, e]; rfl)
theorem ixV {p : Addr} {i : Int} {xs : List V} (h : SqL K H p xs) (h0 : 0 ≤ i) (h1 : i < xs.length) (q : ∀ v, xs[i.toNat]? = some v → v ∈ xs → Q v H) : rIxL K (.ref p) (.int i) H Q := by
  have hi : i.toNat < xs.length := by omega
  have e : xs[i.toNat]? = some xs[i.toNat] := List.getElem?_eq_getElem hi
  refine ⟨p, xs, i, xs[i.toNat], rfl, rfl, h, ?_, q _ e (List.getElem_mem hi)⟩
  exact at_of (j := i.toNat) (by omega) e
theorem ixVT {p : Addr} {i : Int} {xs : List V} (h : SqT K H p xs) (h0 : 0 ≤ i) (h1 : i < xs.length) (q : ∀ v, xs[i.toNat]? = some v → v ∈ xs → Q v H) : rIxT K (.ref p) (.int i) H Q := by
  have hi : i.toNat < xs.length := by omega
  have e : xs[i.toNat]? = some xs[i.toNat] := List.getElem?_eq_getElem hi
  refine ⟨p, xs, i, xs[i.toNat], rfl, rfl, h, ?_, q _ e (List.getElem_mem hi)⟩
  exact at_of (j := i.toNat) (by omega) e
theorem lc {wi : TI} {g : TG} {tt : TT} {vs : List Nat} (h : wi σ H fun J H1 => ∀ D, H1 D = none → ∃ W : Nat → Nat → Hp → Prop, (∃ m, W 0 m (upd H1 D (.lst []))) ∧ ∀ i m H, W i m H → (J.stop i H ∧ Q (.ref D) H) ∨ (J.go i H ∧ ∃ Nx : Hp → Prop, (∀ H', Nx H' → ∃ m', m' < m ∧ W (i + 1) m' H') ∧ ∀ x H', J.yld i H x H' → g x (wipe σ vs) H' fun σ2 H2 => wipe σ2 vs = wipe σ vs ∧ tt σ2 H2 fun b H3 => if b = true then te σ2 H3 fun y H4 => ∃ acc, H4 D = some (.lst acc) ∧ acc.length < sizeLine ∧ Nx (upd H4 D (.lst (acc ++ [y]))) else Nx H3)) : tLc wi g tt te vs σ H Q := h
theorem rng1 {tl : TA} {R : It → Hp → Prop} (h : tl σ H fun vs H1 => ∃ j : Int, vs = [.int j] ∧ -(2 ^ 62) ≤ j ∧ j < 2 ^ 62 ∧ R (Itr 0 j.toNat) H1) : iRng1 tl σ H R := h
theorem rng2 {tl : TA} {R : It → Hp → Prop} (h : tl σ H fun vs H1 => ∃ i j : Int, vs = [.int i, .int j] ∧ (-(2 ^ 62) ≤ i ∧ i < 2 ^ 62 ∧ -(2 ^ 62) ≤ j ∧ j < 2 ^ 62) ∧ R (Itr i (j - i).toNat) H1) : iRng2 tl σ H R := h
theorem lis {tl : TE} {R : It → Hp → Prop} (h : tl σ H fun x H1 => ∃ a, x = .ref a ∧ (∃ xs, SqL K H1 a xs) ∧ R (Itl K a) H1) : iList K tl σ H R := h
theorem ra {a : Addr} {q : Addr → Prop} (h : q a) : ∃ b, V.ref a = V.ref b ∧ q b := ⟨a, rfl, h⟩
theorem i1e {a : Int} {q : Int → Prop} (h : q a) : ∃ i, [V.int a] = [V.int i] ∧ q i := ⟨a, rfl, h⟩
theorem fr {wi : TI} {g : TG} {tb : TS} {D : Ends} (h : wi σ H fun J H1 => ∃ W : Nat → Nat → L2.St → Hp → Prop, (∃ m, W 0 m σ H1) ∧ ∀ i m σ H, W i m σ H →
    (J.stop i H ∧ D.nx σ H) ∨ (J.go i H ∧ ∃ N : L2.St → Hp → Prop, (∀ σ' H', N σ' H' → ∃ m', m' < m ∧ W (i + 1) m' σ' H') ∧ ∀ x H', J.yld i H x H' → g x σ H' fun σ2 H2 => tb { D with nx := N, ct := N, bk := D.nx } σ2 H2)) : tFor wi g tb D σ H := h
end
end HS
namespace HS
open PySem PySem.Spec PyProof.Rows L2
theorem iteM {c : Bool} {ta tb : TE} {σ : L2.St} {H1 : Hp} {Q : VK} (M : VK) (h : c = true → ∀ Q' : VK, (∀ v H', M v H' → Q' v H') → ta σ H1 Q') (g : c = false → ∀ Q' : VK, (∀ v H', M v H' → Q' v H') → tb σ H1 Q') (k : ∀ v H', M v H' → Q v H') :
    if c = true then ta σ H1 Q else tb σ H1 Q := by
  cases c with
  | true => rw [if_pos rfl]; exact h rfl Q k
  | false => rw [if_neg Bool.false_ne_true]; exact g rfl Q k
/-- ceilings -/
theorem ceil_eq {i j : Int} (hj : 1 ≤ j) : (i + j - 1) / j = i / j + (if 0 < i % j then 1 else 0) := by
  have h0 := Int.emod_nonneg i (by omega : j ≠ 0)
  have h1 := Int.emod_lt_of_pos i (by omega : 0 < j)
  have e := Int.mul_ediv_add_emod i j
  generalize i / j = q at e ⊢
  generalize i % j = r at e h0 h1 ⊢
  subst e
  split
  · rename_i h
    rw [show j * q + r + j - 1 = (r - 1) + j * (q + 1) by rw [Int.mul_add]; omega, Int.add_mul_ediv_left _ _ (by omega), Int.ediv_eq_zero_of_lt (by omega) (by omega)]
    omega
  · rename_i h
    rw [show j * q + r + j - 1 = (j - 1) + j * q by omega, Int.add_mul_ediv_left _ _ (by omega), Int.ediv_eq_zero_of_lt (by omega) (by omega)]
    omega
end HS
namespace HS
open PySem PySem.Spec PyProof.Rows L2
section
variable {σ : L2.St} {H : Hp} {te : TE} {t : TS} {tg ug : TGn} {n bk ct : List V → L2.St → Hp → Prop} {rt : List V → VK} {ys : List V} {Q : VK}
theorem gthen (h : tg ⟨fun ys' σ' H' => ug ⟨n, rt, bk, ct⟩ ys' σ' H', rt, bk, ct⟩ ys σ H) : tGThen tg ug ⟨n, rt, bk, ct⟩ ys σ H := h
theorem g0 (h : n ys σ H) : tG0 ⟨n, rt, bk, ct⟩ ys σ H := h
theorem gpl (h : t ⟨n ys, rt ys, bk ys, ct ys⟩ σ H) : tPlain t ⟨n, rt, bk, ct⟩ ys σ H := h
theorem gyl (h : ys.length < sizeLine ∧ te σ H fun x H1 => n (ys ++ [x]) σ H1) : tGYield te ⟨n, rt, bk, ct⟩ ys σ H := h
theorem lgn {tg : TGen} (h : tg σ H fun out H2 => ∀ p, H2 p = none → Q (.ref p) (upd H2 p (.lst out))) : tListG tg σ H Q := h
theorem calg {sp : SpG} {E : XK} {tl : TA} {q : List V → Hp → Prop} (h : tl σ H fun vs H1 => sp vs H1 q E) : tCallG sp [] E tl σ H q := by
  show tl σ H fun vs H1 => sp (vs ++ []) H1 q E
  simp only [List.append_nil]; exact h
end
end HS
namespace HS
open PySem PySem.Spec PyProof.Rows L2
section
variable {H : Hp} {Q : VK} {K : PySem.W.Frag}
theorem ixZ {p : Addr} {i z : Int} {ns : List Int} (h : SqL K H p (ns.map V.int)) (h0 : 0 ≤ i) (e : ns[i.toNat]? = some z) (q : Q (.int z) H) : rIxL K (.ref p) (.int i) H Q :=
  ⟨p, ns.map V.int, i, .int z, rfl, rfl, h, at_of (j := i.toNat) (by omega) (by rw [List.getElem?_map, e]; rfl), q⟩
theorem cut_to (xs : List V) (n : Nat) : cutV xs none (some (n : Int)) = xs.take n := by
  unfold cutV
  rw [HT.sIx_none, HT.sIx_nat, List.drop_zero, Nat.sub_zero]
  rw [List.take_eq_take_iff]
  omega
theorem cut_from (xs : List V) (n : Nat) : cutV xs (some (n : Int)) none = xs.drop n := by
  unfold cutV
  rw [HT.sIx_none, HT.sIx_nat]
  rw [List.take_of_length_le (by rw [List.length_drop]; omega)]
  by_cases h : n ≤ xs.length
  · rw [Nat.min_eq_left h]
  · rw [Nat.min_eq_right (by omega), List.drop_eq_nil_of_le (Nat.le_refl _), List.drop_eq_nil_of_le (by omega)]
end
end HS
namespace HS
open PySem PySem.Spec PyProof.Rows L2
theorem Keep.any {S : Addr → Prop} {H H1 : Hp} (k : Keep (fun _ => False) H H1) : Keep S H H1 := fun a o e _ => k a o e id
theorem Keep.mono {S T : Addr → Prop} {H H1 : Hp} (k : Keep S H H1) (h : ∀ a, S a → T a) : Keep T H H1 := fun a o e n => k a o e fun z => n (h a z)
end HS
namespace HS
open PySem PySem.Spec PyProof.Rows L2
theorem cut_toI {i : Int} (ls : List Int) (h : 0 ≤ i) : cutV (ls.map V.int) none (some i) = (ls.take i.toNat).map V.int := by
  obtain ⟨n, rfl⟩ := Int.eq_ofNat_of_zero_le h
  rw [cut_to, List.map_take]; simp
theorem cut_fromI {i : Int} (ls : List Int) (h : 0 ≤ i) : cutV (ls.map V.int) (some i) none = (ls.drop i.toNat).map V.int := by
  obtain ⟨n, rfl⟩ := Int.eq_ofNat_of_zero_le h
  rw [cut_from, List.map_drop]; simp
end HS
namespace HS
theorem ifT {c : Bool} {A B : Prop} (e : c = true) (h : A) : if c = true then A else B := by rw [if_pos e]; exact h
theorem ifF {c : Bool} {A B : Prop} (e : c = false) (h : B) : if c = true then A else B := by rw [if_neg (by rw [e]; exact Bool.false_ne_true)]; exact h
end HS
namespace HS
open PySem PySem.Spec PyProof.Rows L2
/-- a new object behind what stands -/
theorem Keep.nw {H H1 : Hp} {p : Addr} {o : HO} (k : Keep (fun _ => False) H H1) (h : H1 p = none) : Keep (fun _ => False) H (upd H1 p o) := k.put (k.free h id)
theorem Keep.nwS {S : Addr → Prop} {H H1 : Hp} {p : Addr} {o : HO} (k : Keep S H H1) (h : H1 p = none) (n : ¬ S p) : Keep S H (upd H1 p o) := k.put (k.free h n)
end HS
namespace HS
theorem nt {A B : Prop} (h : B) : if (!true) = true then A else B := by rw [if_neg (show ¬ ((!true) = true) from Bool.false_ne_true)]; exact h
theorem nf {A B : Prop} (h : A) : if (!false) = true then A else B := by rw [if_pos (show (!false) = true from rfl)]; exact h
end HS
namespace HS
open PySem PySem.Spec PyProof.Rows L2
section
variable {H H' : Hp} {p x : Addr} {o u : HO}
theorem upgs (e : upd H p o = H') : H' p = some o := by rw [← e]; exact upd_same
theorem upgK (e : upd H p o = H') (h : H p = none) : Keep (fun _ => False) H H' := by rw [← e]; exact Keep.new h
end
end HS
/-! Data of ints, lists and tuples, and == of such. -/
namespace HS
open PySem PySem.Spec PyProof.Rows L2
def dInts (ns : List Int) : PyData := .list (ns.map .int)
section
variable {K : PySem.W.Frag} {H : Hp}
theorem dpAll_ints : ∀ ns : List Int, DpAll K H (ns.map V.int) (ns.map .int)
  | [] => .nil
  | n :: r => .cons (.int n) (dpAll_ints r)
theorem dp_ints {a : Addr} {ns : List Int} (h : SqL K H a (ns.map V.int)) : Dp K H (.ref a) (dInts ns) := .lst h (dpAll_ints ns)
theorem lay_ints : ∀ ns : List Int, PyData.canLayAll0 (ns.map .int) = true
  | [] => rfl
  | n :: r => by rw [List.map_cons, PyData.canLayAll0, lay_ints r]; rfl
theorem dep_ints : ∀ ns : List Int, PyData.depthAll (ns.map .int) = 0
  | [] => rfl
  | n :: r => by rw [List.map_cons, PyData.depthAll, dep_ints r]; rfl
theorem sh_ints (ns : List Int) : SeqAt.shaped (dInts ns) = true := by
  unfold SeqAt.shaped dInts
  rw [PyData.canLay0, PyData.depth, lay_ints, dep_ints]; rfl
theorem eqv_int (i j : Int) : PyData.eqv (.int i) (.int j) = decide (i = j) := by
  rw [PyData.eqv]; exact Bool.beq_eq_decide_eq i j
theorem eqvAll_ints : ∀ xs ys : List Int, PyData.eqvAll (xs.map .int) (ys.map .int) = decide (xs = ys)
  | [], [] => rfl
  | [], y :: ys => rfl
  | x :: xs, [] => rfl
  | x :: xs, y :: ys => by
    rw [List.map_cons, List.map_cons, PyData.eqvAll, eqv_int, eqvAll_ints xs ys]
    by_cases h : x = y <;> by_cases g : xs = ys <;> simp [h, g]
theorem eqv_ints (xs ys : List Int) : PyData.eqv (dInts xs) (dInts ys) = decide (xs = ys) := by
  unfold dInts; rw [PyData.eqv]; exact eqvAll_ints xs ys
/-- == and != of two lists of ints -/
theorem eqL {a b : Addr} {xs ys : List Int} {Q : VK} (h1 : SqL K H a (xs.map V.int)) (h2 : SqL K H b (ys.map V.int)) (q : Q (.bl (decide (xs = ys))) H) : rEqD K (.ref a) (.ref b) H Q :=
  ⟨_, _, dp_ints h1, dp_ints h2, sh_ints _, sh_ints _, by rw [eqv_ints]; exact q⟩
theorem neL {a b : Addr} {xs ys : List Int} {Q : VK} (h1 : SqL K H a (xs.map V.int)) (h2 : SqL K H b (ys.map V.int)) (q : Q (.bl (!decide (xs = ys))) H) : rNeD K (.ref a) (.ref b) H Q :=
  ⟨_, _, dp_ints h1, dp_ints h2, sh_ints _, sh_ints _, by rw [eqv_ints]; exact q⟩
end
end HS
/-! Rules told with the written part K by its own letter. -/
namespace HS
open PySem PySem.Spec PyProof.Rows L2
section
variable {X : Cx} (K : PySem.W.Frag)
theorem ixl (h : X.K = K := by rfl) : IxR X (rIxL K) := h ▸ ix_list
theorem ixt (h : X.K = K := by rfl) : IxR X (rIxT K) := h ▸ ix_tup
theorem sll (h : X.K = K := by rfl) : SlR X (rSlL K) := h ▸ sl_list
theorem slt (h : X.K = K := by rfl) : SlR X (rSlT K) := h ▸ sl_tup
theorem kbm {E : Expr} {T : String} {r : V → List V → Hp → VK → Prop} {to : TE} {t : TA} (p : PE X E (tBM X.K T r to t)) (h : X.K = K := by rfl) : PE X E (tBM K T r to t) := h ▸ p
theorem kbm0 {E : Expr} {T : String} {r : V → List V → Hp → VK → Prop} {to : TE} (p : PE X E (tBM0 X.K T r to)) (h : X.K = K := by rfl) : PE X E (tBM0 K T r to) := h ▸ p
theorem kil {tg l : Expr} {tl : TE} (p : PI X tg l (iList X.K tl)) (h : X.K = K := by rfl) : PI X tg l (iList K tl) := h ▸ p
theorem kit {tg l : Expr} {tl : TE} (p : PI X tg l (iTup X.K tl)) (h : X.K = K := by rfl) : PI X tg l (iTup K tl) := h ▸ p
theorem kien {tg l : Expr} {tl : TA} (p : PI X tg l (iEnum X.K tl)) (h : X.K = K := by rfl) : PI X tg l (iEnum K tl) := h ▸ p
theorem kgt {tg : Expr} {n : Nat} {t : TGs} (p : PG X tg (gTup X.K n t)) (h : X.K = K := by rfl) : PG X tg (gTup K n t) := h ▸ p
theorem keq (hu : X.A.units + 64 < cLine) (h : X.K = K := by rfl) : OpR X (compareOp .Eq) (rEqD K) := h ▸ op_eqD hu
theorem kne (hu : X.A.units + 64 < cLine) (h : X.K = K := by rfl) : OpR X (compareOp .NotEq) (rNeD K) := h ▸ op_neD hu
theorem kin (h : X.K = K := by rfl) : OpR X (compareOp .In) (rIn K false) := h ▸ op_in_seq
theorem knin (h : X.K = K := by rfl) : OpR X (compareOp .NotIn) (rIn K true) := h ▸ op_notIn_seq
theorem kcatT (h : X.K = K := by rfl) : OpR X (binaryOp .Add) (rCatT K) := h ▸ op_catT
def rLen : List V → Hp → VK → Prop := fun xs H Q => ∃ p ys, xs = [.ref p] ∧ (SqL K H p ys ∨ SqT K H p ys) ∧ Q (.int ys.length) H
def rLst : List V → Hp → VK → Prop := fun xs H Q => ∃ p ys, xs = [.ref p] ∧ (SqL K H p ys ∨ SqT K H p ys) ∧ ∀ l, H l = none → Q (.ref l) (upd H l (.lst ys))
theorem klen (h : X.K = K := by rfl) : CallR X (.builtin "len") (rLen K) := h ▸ call_len_seq
theorem klst (h : X.K = K := by rfl) : CallR X (.type "list") (rLst K) := h ▸ call_list_of
theorem ksum (hc : X.calm = true) (h : X.K = K := by rfl) : CallR X (.builtin "sum") (rSum K) := h ▸ cr_sum hc
theorem kmax (hc : X.calm = true) (h : X.K = K := by rfl) : CallR X (.builtin "max") (rMax K) := h ▸ cr_max hc
theorem kmin (hc : X.calm = true) (h : X.K = K := by rfl) : CallR X (.builtin "min") (rMin K) := h ▸ cr_min hc
theorem krev {E : Expr} {te : TE} (p : PE X E (tRevL X.K te)) (h : X.K = K := by rfl) : PE X E (tRevL K te) := h ▸ p
/-- the names of a block within a block -/
def relab (scO sc : Scope) : Scope := { scO with names := scO.names.map fun (n, k) => if (k == .free && sc.kind == .function && sc.names.lookup n == some .cell) then (n, .cell) else (n, k) }
/-- a list comprehension within a comprehension's block -/
theorem pe_lcIn {X : Cx} {s0 : Shared} {H0 : Hp} {C0 : Addr} {cl0 : List (Str × Addr)} {fp0 : List Addr} {scO : Scope} {elt tg iter : Expr} {ifs : List Expr} {scope : Scope} {own : List (Str × Nat)} {pos : Pos} {wi : TI} {g : TG} {tt : TT} {te : TE} (hc : X.calm = true) (hN : X.N.Nodup) (hi : PI (X.blk s0 H0 scO (compEnvC scO cl0 C0 X.env) fp0) tg iter wi) (sc : Scope) (hsc : X.env.scope = sc) (ok : BlkOk X.N (relab scO sc) scope own)
    (hg : ∀ (s : Shared) (H : Hp) (C : Addr) (cl : List (Str × Addr)) (fp : List Addr), PG ((X.blk s0 H0 scO (compEnvC scO cl0 C0 X.env) fp0).blk s H scope (compEnvC scope cl C (compEnvC scO cl0 C0 X.env)) fp) tg g) (ht : ∀ (s : Shared) (H : Hp) (C : Addr) (cl : List (Str × Addr)) (fp : List Addr), PTs ((X.blk s0 H0 scO (compEnvC scO cl0 C0 X.env) fp0).blk s H scope (compEnvC scope cl C (compEnvC scO cl0 C0 X.env)) fp) ifs tt)
    (he : ∀ (s : Shared) (H : Hp) (C : Addr) (cl : List (Str × Addr)) (fp : List Addr), PE ((X.blk s0 H0 scO (compEnvC scO cl0 C0 X.env) fp0).blk s H scope (compEnvC scope cl C (compEnvC scO cl0 C0 X.env)) fp) elt te) (hs : ∀ x, foldedSetIterable iter (compEnvC scO cl0 C0 X.env) x = pure x := by intro _; rfl) :
    PE (X.blk s0 H0 scO (compEnvC scO cl0 C0 X.env) fp0) (.ListComp elt [⟨tg, iter, ifs, 0⟩] scope pos) (tLc wi g tt te (own.map (·.2))) :=
  by subst hsc; exact pe_lc (X := X.blk s0 H0 scO (compEnvC scO cl0 C0 X.env) fp0) hc hN hi ok hg ht he hs
end
section
variable {σ : L2.St} {H : Hp} {Q : VK} {te : TE} {K : PySem.W.Frag}
theorem lenL {p : Addr} {ys : List V} (h : SqL K H p ys) (q : Q (.int ys.length) H) : rLen K [.ref p] H Q := ⟨p, ys, rfl, .inl h, q⟩
theorem lenT {p : Addr} {ys : List V} (h : SqT K H p ys) (q : Q (.int ys.length) H) : rLen K [.ref p] H Q := ⟨p, ys, rfl, .inr h, q⟩
theorem sumL {p : Addr} {ns : List Int} (h : SqL K H p (ns.map V.int)) (q : Q (.int ns.sum) H) : rSum K [.ref p] H Q := ⟨p, ns, rfl, h, q⟩
theorem revL (h : te σ H fun x H1 => ∃ a xs, x = .ref a ∧ SqL K H1 a xs ∧ ∀ p, H1 p = none → Q (.ref p) (upd H1 p (.lst xs.reverse))) : tRevL K te σ H Q := h
theorem sl {r : V → Option Int → Option Int → Hp → VK → Prop} {tl th : TO} (h : te σ H fun x H1 => tl σ H1 fun l H2 => th σ H2 fun u H3 => r x l u H3 Q) : tSl r te tl th σ H Q := h
theorem noP {q : Option Int → Hp → Prop} (h : q none H) : tNoPart σ H q := h
theorem part {q : Option Int → Hp → Prop} (h : te σ H fun x H1 => ∃ i, x = .int i ∧ q (some i) H1) : tPart te σ H q := h
theorem ie {a : Int} {q : Int → Prop} (h : q a) : ∃ i, V.int a = V.int i ∧ q i := ⟨a, rfl, h⟩
theorem slLs {p : Addr} {xs : List V} {lo hi : Option Int} (h : SqL K H p xs) (q : ∀ p, H p = none → Q (.ref p) (upd H p (.lst (cutV xs lo hi)))) : rSlL K (.ref p) lo hi H Q := ⟨p, xs, rfl, h, q⟩
theorem gtup {n : Nat} {t : TGs} {a : Addr} {xs : List V} {q : L2.St → Hp → Prop} (h : SqT K H a xs) (e : xs.length = n) (k : t xs σ H q) : gTup K n t (.ref a) σ H q := ⟨a, xs, rfl, h, e, k⟩
theorem gcons {t : TG} {u : TGs} {v : V} {r : List V} {q : L2.St → Hp → Prop} (h : t v σ H fun σ' H' => u r σ' H' q) : gCons t u (v :: r) σ H q := ⟨v, r, rfl, h⟩
theorem gnil {q : L2.St → Hp → Prop} (h : q σ H) : gNil [] σ H q := ⟨rfl, h⟩
theorem itup {R : It → Hp → Prop} (h : te σ H fun x H1 => ∃ a, x = .ref a ∧ (∃ xs, SqT K H1 a xs) ∧ R (Itt K a) H1) : iTup K te σ H R := h
theorem ienu {tl : TA} {R : It → Hp → Prop} (h : tl σ H fun vs H1 => ∃ a xs, vs = [.ref a] ∧ SqL K H1 a xs ∧ R (Ite K a) H1) : iEnum K tl σ H R := h
theorem cat {l b : Addr} {xs zs : List V} (h1 : H l = some (.lst xs)) (h2 : H b = some (.lst zs)) (q : xs.length + zs.length ≤ sizeLine ∧ ∀ p, H p = none → Q (.ref p) (upd H p (.lst (xs ++ zs)))) : rCat (.ref l) (.ref b) H Q := ⟨l, b, xs, zs, rfl, rfl, h1, h2, q⟩
theorem ext {l b : Addr} {xs zs : List V} (h1 : H l = some (.lst xs)) (h2 : H b = some (.lst zs)) (q : xs.length + zs.length ≤ sizeLine ∧ Q .non (upd H l (.lst (xs ++ zs)))) : rExtend (.ref l) [.ref b] H Q := ⟨l, b, xs, zs, rfl, rfl, h1, h2, q⟩
end
end HS
/-! Lists of new pairs of ints, and == of such; ranges by steps. -/
namespace HS
open PySem PySem.Spec PyProof.Rows L2
/-- the refs of vs are tuples of these pairs -/
def Prs (H : Hp) : List V → List (Int × Int) → Prop
  | [], [] => True
  | v :: vs, p :: ps => (∃ t, v = .ref t ∧ H t = some (.tup [.int p.1, .int p.2])) ∧ Prs H vs ps
  | _, _ => False
theorem Prs.keep {S : Addr → Prop} {H H' : Hp} (k : Keep S H H') : ∀ {vs : List V} {ps : List (Int × Int)}, Prs H vs ps → (∀ v ∈ vs, ∀ t, v = .ref t → ¬ S t) → Prs H' vs ps
  | [], [], h, _ => h
  | _ :: _, _ :: _, ⟨⟨t, e, o⟩, h⟩, n => ⟨⟨t, e, k t _ o (n _ List.mem_cons_self t e)⟩, h.keep k fun v hv => n v (List.mem_cons_of_mem _ hv)⟩
theorem Prs.app {H : Hp} : ∀ {vs ws : List V} {ps qs : List (Int × Int)}, Prs H vs ps → Prs H ws qs → Prs H (vs ++ ws) (ps ++ qs)
  | [], _, [], _, _, g => g
  | _ :: _, _, _ :: _, _, ⟨a, h⟩, g => ⟨a, h.app g⟩
theorem Prs.len {H : Hp} : ∀ {vs : List V} {ps : List (Int × Int)}, Prs H vs ps → vs.length = ps.length
  | [], [], _ => rfl
  | _ :: _, _ :: _, ⟨_, h⟩ => by rw [List.length_cons, List.length_cons, h.len]
def dPr (p : Int × Int) : PyData := .tuple [.int p.1, .int p.2]
def dPrs (ps : List (Int × Int)) : PyData := .list (ps.map dPr)
section
variable {K : PySem.W.Frag} {H : Hp}
theorem dpAll_prs : ∀ {vs : List V} {ps : List (Int × Int)}, Prs H vs ps → DpAll K H vs (ps.map dPr)
  | [], [], _ => .nil
  | _ :: _, p :: _, ⟨⟨t, e, o⟩, h⟩ => .cons (by rw [e]; exact .tup (st o) (.cons (.int p.1) (.cons (.int p.2) .nil))) (dpAll_prs h)
theorem lay_prs : ∀ ps : List (Int × Int), PyData.canLayAll0 (ps.map dPr) = true
  | [] => rfl
  | p :: r => by rw [List.map_cons, PyData.canLayAll0, lay_prs r]; rfl
theorem dep_prs : ∀ ps : List (Int × Int), PyData.depthAll (ps.map dPr) ≤ 2
  | [] => by simp [PyData.depthAll]
  | p :: r => by
    have h := dep_prs r
    have h2 : (dPr p).depth ≤ 2 := by simp [dPr, PyData.depth, PyData.depthAll]
    rw [List.map_cons, PyData.depthAll]; omega
theorem sh_prs (ps : List (Int × Int)) : SeqAt.shaped (dPrs ps) = true := by
  have h1 := dep_prs ps
  have h2 : PyData.depth (dPrs ps) ≤ 64 := by unfold dPrs; rw [PyData.depth]; omega
  show (PyData.canLay0 (dPrs ps) && decide (PyData.depth (dPrs ps) ≤ 64)) = true
  rw [Bool.and_eq_true]
  exact ⟨by unfold dPrs; rw [PyData.canLay0]; exact lay_prs ps, decide_eq_true h2⟩
theorem eqv_pr (p q : Int × Int) : PyData.eqv (dPr p) (dPr q) = decide (p = q) := by
  unfold dPr
  rw [PyData.eqv, PyData.eqvAll, PyData.eqvAll, PyData.eqvAll, eqv_int, eqv_int]
  obtain ⟨a, b⟩ := p
  obtain ⟨c, d⟩ := q
  by_cases h : a = c <;> by_cases g : b = d <;> simp [h, g]
theorem eqvAll_prs : ∀ xs ys : List (Int × Int), PyData.eqvAll (xs.map dPr) (ys.map dPr) = decide (xs = ys)
  | [], [] => rfl
  | [], y :: ys => rfl
  | x :: xs, [] => rfl
  | x :: xs, y :: ys => by
    rw [List.map_cons, List.map_cons, PyData.eqvAll, eqv_pr, eqvAll_prs xs ys]
    by_cases h : x = y <;> by_cases g : xs = ys <;> simp [h, g]
/-- == of two lists of pairs of ints -/
theorem eqP {a b : Addr} {vs ws : List V} {xs ys : List (Int × Int)} {Q : VK} (h1 : SqL K H a vs) (g1 : Prs H vs xs) (h2 : SqL K H b ws) (g2 : Prs H ws ys) (q : Q (.bl (decide (xs = ys))) H) : rEqD K (.ref a) (.ref b) H Q := by
  refine ⟨dPrs xs, dPrs ys, .lst h1 (dpAll_prs g1), .lst h2 (dpAll_prs g2), sh_prs _, sh_prs _, ?_⟩
  rw [show PyData.eqv (dPrs xs) (dPrs ys) = decide (xs = ys) by unfold dPrs; rw [PyData.eqv]; exact eqvAll_prs xs ys]
  exact q
end
theorem RgC.up {j c : Int} (hc : 1 ≤ c) (hc2 : c < 2 ^ 30) (h0 : 0 ≤ j) (h1 : j < 2 ^ 61) : RgC 0 j c ((j + c - 1) / c).toNat := by
  have hn : 0 ≤ (j + c - 1) / c := Int.ediv_nonneg (by omega) (by omega)
  have e : Builtin.Range.rangeSize 0 j c = (j + c - 1) / c := by
    unfold Builtin.Range.rangeSize
    rw [if_pos (by omega)]
    split
    · rw [show j + c - 1 = (j - 0 - 1) + c * 1 by omega, Int.add_mul_ediv_left _ _ (by omega)]
    · rw [show j = 0 by omega, Int.ediv_eq_zero_of_lt (by omega) (by omega)]
  have hl : (j + c - 1) / c ≤ j + c := Int.le_trans (Int.ediv_le_self _ (by omega)) (by omega)
  refine ⟨by omega, by omega, ?_, by rw [e]; omega⟩
  unfold Builtin.Range.small
  rw [e]
  simp only [Builtin.Range.rangeFitsLong, Bool.and_eq_true, Bool.or_eq_true, decide_eq_true_eq, beq_iff_eq]
  rw [if_pos (show c > 0 by omega)]
  simp only [Bool.and_eq_true, decide_eq_true_eq]
  omega
end HS
namespace HS
open PySem PySem.Spec PyProof.Rows L2
section
variable {σ : L2.St} {H : Hp}
theorem rng3 {tl : TA} {R : It → Hp → Prop} (h : tl σ H fun vs H1 => ∃ (i j c : Int) (n : Nat), vs = [.int i, .int j, .int c] ∧ RgC i j c n ∧ R (Itc i c n) H1) : iRng3 tl σ H R := h
end
end HS
namespace HS
open PySem PySem.Spec PyProof.Rows L2
theorem Prs.new {H : Hp} {p : Addr} {o : HO} (hp : H p = none) {vs : List V} {ps : List (Int × Int)} (h : Prs H vs ps) : Prs (upd H p o) vs ps :=
  h.keep (S := fun _ => False) (Keep.new hp) fun _ _ _ _ z => z
theorem Prs.same {H H' : Hp} {vs : List V} {ps : List (Int × Int)} (h : Prs H vs ps) (k : Keep (fun _ => False) H H') : Prs H' vs ps :=
  h.keep (S := fun _ => False) k fun _ _ _ _ z => z
theorem Prs.lst {H : Hp} {L : Addr} {ws : List V} (hL : H L = some (.lst ws)) : ∀ {vs : List V} {ps : List (Int × Int)}, Prs H vs ps → ∀ v ∈ vs, ∀ t, v = .ref t → t ≠ L
  | [], [], _, _, hv, _, _ => absurd hv List.not_mem_nil
  | _ :: _, _ :: _, ⟨⟨t', e', o'⟩, h⟩, v, hv, t, e => by
    rcases List.mem_cons.mp hv with hv | hv
    · subst hv
      rw [e'] at e
      have := V.ref.inj e
      subst this
      intro z
      rw [z, hL] at o'
      cases o'
    · exact h.lst hL v hv t e
theorem Prs.put {H : Hp} {L : Addr} {ws : List V} {o : HO} (hL : H L = some (.lst ws)) {vs : List V} {ps : List (Int × Int)} (h : Prs H vs ps) : Prs (upd H L o) vs ps :=
  h.keep (S := fun a => a = L) (Keep.at Keep.refl rfl) (h.lst hL)
theorem Prs.snoc {H : Hp} {vs : List V} {ps : List (Int × Int)} {t : Addr} {a b : Int} (h : Prs H vs ps) (e : H t = some (.tup [.int a, .int b])) : Prs H (vs ++ [.ref t]) (ps ++ [(a, b)]) :=
  h.app ⟨⟨t, rfl, e⟩, trivial⟩
end HS
/-! Exceptions of own classes as values: made, asked, read (own rules over HandS). -/
namespace HS
open PySem PySem.Spec PyProof.Rows L2
/-- the j-th row of a class's block -/
def inS (s : Stmt) (j : Nat) : Stmt := match s with
  | .ClassDef _ _ _ body _ _ _ _ _ _ _ => body.getD j (.Pass ⟨0, 0, 0, 0⟩)
  | s => s
/-- an own exception that stands in the heap, with its fields -/
def Exv (H : Hp) (a C : Addr) (fs : List (Str × V)) : Prop := ∃ d, H a = some (exo a C (some d)) ∧ H d = some (exd d fs)
def rIsV (K : PySem.W.Frag) : List V → Hp → VK → Prop := fun xs H Q => ∃ (a D : Addr) (fs : List (Str × V)) (c : V) (cv : Value) (b : Bool), xs = [.ref a, c] ∧ ExcC K D ∧ Exv H a D fs ∧ ClsV c cv ∧ PySem.W.kitOne K (.ref D) cv = some b ∧ Q (.bl b) H
theorem call_isV {X : Cx} : CallR X (.builtin "isinstance") (rIsV X.K) := by
  intro pins s σ H xs us Q I r hw
  obtain ⟨a, D, fs, c, cv, b, e0, T, ⟨d, ea, ed⟩, hcv, hb, q⟩ := hw
  subst e0
  match us, r with
  | [_, _], .cons rx (.cons rt .nil) =>
    cases rx
    have e1 := hcv.eq rt
    subst e1
    obtain ⟨t1, ho⟩ := exo_at I.hok ea
    obtain ⟨mA, hns, _⟩ := exd_at I.hok ed
    obtain ⟨od, hod, _⟩ := lookIn_ns hns
    obtain ⟨cd, hcd, _⟩ := PySem.W.any_some T.hd
    have here : PySem.W.InstAt s.heap a _ D (some od) := ⟨ho, rfl, rfl, hod⟩
    exact PySem.W.kia_one (PySem.W.kitx_exc (by rw [hcd]; rfl) T.hg T.hk T.hs T.ha T.hn T.ht T.hm) I.kIn here hb (fun z => nomatch z) fun tk => ⟨.bl b, H, I.kept (t' := tk) fun _ _ z => z, rfl, q⟩
/-- e.f of such an exception -/
def tFldV (K : PySem.W.Frag) (f : Str) (te : TE) : TE := fun σ H Q => te σ H fun x H1 => ∃ (a C : Addr) (fs : List (Str × V)) (v : V), x = .ref a ∧ XfC K C ∧ PySem.W.findIn K (.ref C) f = some none ∧ Exv H1 a C fs ∧ fs.lookup f = some v ∧ Q v H1
theorem pe_fldV {X : Cx} {e : Expr} {te : TE} {pos : Pos} {f : Str} (he : PE X e te) (hb : attributeBase e f X.env (eval e X.env) = eval e X.env := by rfl) : PE X (.Attribute e f pos) (tFldV X.K f te) := by
  refine ⟨fun pins s σ H Q I hw => attr_of hb (thn (he.run pins s σ H _ I hw) fun u s1 ⟨x, H1, I1, rx, a, C, fs, v, e0, T, hno, ⟨d, ea, ed⟩, l, q⟩ => ?_)⟩
  subst e0
  cases rx
  obtain ⟨t1, ho⟩ := exo_at I1.hok ea
  obtain ⟨mA, hns, hr⟩ := exd_at I1.hok ed
  obtain ⟨od, hod, hl⟩ := lookIn_ns hns
  obtain ⟨w, hw, rw'⟩ := RelO.some_of (v := v) (o := mA f) (by rw [← l]; exact hr f)
  have here : PySem.W.InstAt s1.heap a _ C (some od) := ⟨ho, rfl, rfl, hod⟩
  exact HandSPX.exc_get I1.kIn here T.ga T.gg T.exC (PySem.W.findObj_own T.hdC hno rfl (by rw [hl, hw])) (handed_of rw') ⟨v, H1, I1.tok _, rw', q⟩
/-- C(e, ..) as a value -/
def tNewV (C : Addr) (sp : Sp) (ta : TA) : TE := fun σ H Q => ta σ H fun vs H1 => vs.length ≤ 1000 ∧ ∀ a, H1 a = none → sp (.ref a :: vs) (upd H1 a (exo a C none)) (fun v H2 => v = .non ∧ Q (.ref a) H2) (fun _ _ _ => False)
section
variable {X : Cx} {CX : CXT} {x : Str} {C fI : Addr} {k : Nat} {fd : FuncData} {ps : List Str} {sp : Sp} {e : Expr} {es : List Expr} {ta : TA} {p pos : Pos}
theorem pe_newV (T : OexC X.K C) (iC : PySem.W.findIn X.K (.ref C) "__init__" = some (some (.ref fI))) (tI : PySem.W.typeIn X.K (.ref fI) = some (.type "function"))
    (F1 : FnOk X.prog X.w X.K X.mg X.base CX k fI fd ps sp) (hr : Room (k + 1) X.A) (hb : Binds X.K fd ps []) (hx : Passes CX X (fun _ _ _ => False)) (hg : Gl X x) (hm : X.mg x = some (.ref C)) (ha : PA X (e :: es) ta)
    (hdb : (x == ("__debug__" : Str)) = false := by decide) (he : starEach (e :: es) X.env = (false, eval e X.env) :: starEach es X.env := by rfl) (hpl : (backTo pos (starEach es X.env)).any (·.1) = false := by rfl) :
    PE X (.Call (.Name x p) (e :: es) [] pos) (tNewV C sp ta) := by
  refine ⟨fun pins s σ H Q I hw => wpAny_Call_Name_kw (ld_glob I hg hm ?_ hdb)⟩
  obtain ⟨nm, qn, N, bs, bm, sn, sub, ab, col, dd, k0, k1, k2, k3, k5, hC, hbm⟩ := T.cls
  refine PySem.W.callWith_K (h₀ := X.base) I.ok.mod.kin T.kC (thn (ha.run pos pins s σ H _ I hw) fun us s1 ⟨vs, H1, I1, r1, hz, q1⟩ => ⟨I1.kIn, ?_⟩) he hpl
  show wpAny _ _ (call (.ref C) us) _ _ _
  obtain ⟨hp, g, dr, tk, os⟩ := s1
  have le1 : hp.objs.size ≤ hp.objs.size + 1 := by omega
  have kept : ∀ b o, hp.get? b = some o → ((hp.push (PySem.W.kdv_tup us)).push (PySem.HandSPX.excO C hp.objs.size)).get? b = some o := fun _ _ z => Heap.get?_push_of_some _ (Heap.get?_push_of_some _ z)
  have at1 : ((hp.push (PySem.W.kdv_tup us)).push (PySem.HandSPX.excO C hp.objs.size)).get? (hp.objs.size + 1) = some (PySem.HandSPX.excO C hp.objs.size) := by heap_get
  have J : Inv X pins σ (upd H1 (hp.objs.size + 1) (exo (hp.objs.size + 1) C none)) ⟨(hp.push (PySem.W.kdv_tup us)).push (PySem.HandSPX.excO C hp.objs.size), g, dr, tk, os⟩ := I1.laid (t' := tk) kept le1 (exo_ok at1)
  have q2 := q1 (hp.objs.size + 1) (I1.hok.fresh le1)
  have r2 : Vals (V.ref (hp.objs.size + 1) :: vs) (Value.ref (hp.objs.size + 1) :: us) := .cons rfl r1
  have len2 : (Value.ref (hp.objs.size + 1) :: us).length = ps.length := r2.length.symm.trans (F1.len _ _ _ _ q2)
  have small : us.length ≤ sizeLine := by have := Paired.length r1; rw [sizeLine_eq]; omega
  have bnd := hb _ (Value.ref (hp.objs.size + 1) :: us) J.kIn (by simpa using len2)
  refine wpAny_call (PySem.HandSPX.call_own F.excBase_ValueError (fun Y => PySem.HandSPX.refsVE_contains Y bm hbm) (I1.kIn _ _ hC) (PySem.W.looks_findIn I1.kIn iC) (fun self => PySem.W.bind_fn I1.kIn self tI) small
    (codeAny_mono (F1.run _ X.stack _ _ ⟨Value.ref (hp.objs.size + 1) :: us, []⟩ _ _ _ _ (hr.make C us []) (J.env0.make C us []) bnd (by simpa using r2) q2) fun r s' back => ?_))
  match r, back with
  | .error er, back => exact hx pins σ _ _ er s' J back
  | .ok (.ret u), back =>
    obtain ⟨v, H', J', rv, ev, q3⟩ := J.after back
    subst ev
    exact ⟨rv, ⟨V.ref (hp.objs.size + 1), H', J', rfl, q3⟩⟩
end
section
variable {σ : L2.St} {H : Hp} {Q : VK} {te to : TE} {ta : TA} {K : PySem.W.Frag} {n bk ct : L2.St → Hp → Prop} {rt : VK} {f : Str} {C : Addr} {sp : Sp}
theorem ost (h : te σ H fun y H1 => to σ H1 fun x H2 => ∃ a C : Addr, x = .ref a ∧ OexC K C ∧ PySem.W.findIn K (.ref C) f = some none ∧
  ((H2 a = some (exo a C none) ∧ ∀ dx, H2 dx = none → dx ≠ a → n σ (upd (upd H2 dx (exd dx [(f, y)])) a (exo a C (some dx)))) ∨
    ∃ (dx : Addr) (fs : List (Str × V)), H2 a = some (exo a C (some dx)) ∧ H2 dx = some (exd dx fs) ∧ fs.length ≤ 900 ∧ n σ (upd H2 dx (exd dx ((f, y) :: fs))))) : tOst K f to te ⟨n, rt, bk, ct⟩ σ H := h
theorem fldV (h : te σ H fun x H1 => ∃ (a C : Addr) (fs : List (Str × V)) (v : V), x = .ref a ∧ XfC K C ∧ PySem.W.findIn K (.ref C) f = some none ∧ Exv H1 a C fs ∧ fs.lookup f = some v ∧ Q v H1) : tFldV K f te σ H Q := h
theorem newV (h : ta σ H fun vs H1 => vs.length ≤ 1000 ∧ ∀ a, H1 a = none → sp (.ref a :: vs) (upd H1 a (exo a C none)) (fun v H2 => v = .non ∧ Q (.ref a) H2) (fun _ _ _ => False)) : tNewV C sp ta σ H Q := h
end
end HS
namespace HS
open PySem PySem.Spec PyProof.Rows L2
/-- the refs of vs are tuples of these two values -/
def PrV (H : Hp) : List V → List (V × V) → Prop
  | [], [] => True
  | v :: vs, p :: ps => (∃ t, v = .ref t ∧ H t = some (.tup [p.1, p.2])) ∧ PrV H vs ps
  | _, _ => False
theorem PrV.keep {S : Addr → Prop} {H H' : Hp} (k : Keep S H H') : ∀ {vs : List V} {ps : List (V × V)}, PrV H vs ps → (∀ v ∈ vs, ∀ t, v = .ref t → ¬ S t) → PrV H' vs ps
  | [], [], h, _ => h
  | _ :: _, _ :: _, ⟨⟨t, e, o⟩, h⟩, n => ⟨⟨t, e, k t _ o (n _ List.mem_cons_self t e)⟩, h.keep k fun v hv => n v (List.mem_cons_of_mem _ hv)⟩
theorem PrV.same {H H' : Hp} {vs : List V} {ps : List (V × V)} (h : PrV H vs ps) (k : Keep (fun _ => False) H H') : PrV H' vs ps :=
  h.keep k fun _ _ _ _ z => z
theorem PrV.len {H : Hp} : ∀ {vs : List V} {ps : List (V × V)}, PrV H vs ps → vs.length = ps.length
  | [], [], _ => rfl
  | _ :: _, _ :: _, ⟨_, h⟩ => by rw [List.length_cons, List.length_cons, h.len]
theorem PrV.at {H : Hp} : ∀ {vs : List V} {ps : List (V × V)} {i : Nat} {v : V}, PrV H vs ps → vs[i]? = some v → ∃ t p, v = .ref t ∧ ps[i]? = some p ∧ H t = some (.tup [p.1, p.2])
  | [], [], i, _, _, e => by cases i <;> cases e
  | x :: _, p :: _, 0, v, ⟨⟨t, e', o⟩, _⟩, e => ⟨t, p, by rw [← Option.some.inj e]; exact e', rfl, o⟩
  | _ :: vs, _ :: ps, i + 1, v, ⟨_, h⟩, e => h.at (i := i) (by rw [List.getElem?_cons_succ] at e; exact e)
end HS
namespace HS
open PySem PySem.Spec PyProof.Rows L2
theorem kisV {X : Cx} (K : PySem.W.Frag) (h : X.K = K := by rfl) : CallR X (.builtin "isinstance") (rIsV K) := h ▸ call_isV
theorem kisi {X : Cx} (K : PySem.W.Frag) (h : X.K = K := by rfl) : CallR X (.builtin "isinstance") (rIsi K) := h ▸ call_isi
section
variable {K : PySem.W.Frag} {H H' : Hp} {Q : VK} {a D C p : Addr} {fs : List (Str × V)} {b : Bool} {o : HO}
theorem Exv.same (h : Exv H a C fs) (k : Keep (fun _ => False) H H') : Exv H' a C fs := by
  obtain ⟨d, e1, e2⟩ := h
  exact ⟨d, k _ _ e1 id, k _ _ e2 id⟩
theorem Exv.new (h : Exv H a C fs) (hp : H p = none) : Exv (upd H p o) a C fs := h.same (Keep.new hp)
theorem isV (T : ExcC K D) (he : Exv H a D fs) (hq : PySem.W.kitOne K (.ref D) (.ref C) = some b) (q : Q (.bl b) H) : rIsV K [.ref a, .ref C] H Q := ⟨a, D, fs, _, _, b, rfl, T, he, .own C, hq, q⟩
theorem isVt {n : String} (T : ExcC K D) (he : Exv H a D fs) (hq : PySem.W.kitOne K (.ref D) (.type n) = some b) (q : Q (.bl b) H) : rIsV K [.ref a, .ty n] H Q := ⟨a, D, fs, _, _, b, rfl, T, he, .ty n, hq, q⟩
end
end HS
namespace HS
open PySem PySem.Spec PyProof.Rows L2
theorem PrV.app {H : Hp} : ∀ {vs ws : List V} {ps qs : List (V × V)}, PrV H vs ps → PrV H ws qs → PrV H (vs ++ ws) (ps ++ qs)
  | [], _, [], _, _, g => g
  | _ :: _, _, _ :: _, _, ⟨a, h⟩, g => ⟨a, h.app g⟩
theorem PrV.new {H : Hp} {p : Addr} {o : HO} {vs : List V} {ps : List (V × V)} (h : PrV H vs ps) (hp : H p = none) : PrV (upd H p o) vs ps := h.same (Keep.new hp)
section
variable {H : Hp} {t0 t1 l : Addr} {x0 y0 x1 y1 : V}
theorem pair2 (h0 : H t0 = none) (h1 : upd H t0 (.tup [x0, y0]) t1 = none) (h2 : upd (upd H t0 (.tup [x0, y0])) t1 (.tup [x1, y1]) l = none) :
    ∃ H1, upd (upd (upd H t0 (.tup [x0, y0])) t1 (.tup [x1, y1])) l (.lst [.ref t0, .ref t1]) = H1 ∧ Keep (fun _ => False) H H1 ∧ PrV H1 [.ref t0, .ref t1] [(x0, y0), (x1, y1)] ∧ H1 l = some (.lst [.ref t0, .ref t1]) := by
  have n1 : t0 ≠ t1 := ne_of_none upd_same h1
  have e0 : upd (upd H t0 (.tup [x0, y0])) t1 (.tup [x1, y1]) t0 = some (.tup [x0, y0]) := by rw [upd_ne n1]; exact upd_same
  have e1 : upd (upd H t0 (.tup [x0, y0])) t1 (.tup [x1, y1]) t1 = some (.tup [x1, y1]) := upd_same
  refine ⟨_, rfl, (Keep.new h0).trans ((Keep.new h1).trans (Keep.new h2)), ⟨⟨t0, rfl, ?_⟩, ⟨t1, rfl, ?_⟩, trivial⟩, upd_same⟩
  · rw [upd_ne (ne_of_none e0 h2)]; exact e0
  · rw [upd_ne (ne_of_none e1 h2)]; exact e1
theorem pair1 (h0 : H t0 = none) (h2 : upd H t0 (.tup [x0, y0]) l = none) :
    ∃ H1, upd (upd H t0 (.tup [x0, y0])) l (.lst [.ref t0]) = H1 ∧ Keep (fun _ => False) H H1 ∧ PrV H1 [.ref t0] [(x0, y0)] ∧ H1 l = some (.lst [.ref t0]) := by
  refine ⟨_, rfl, (Keep.new h0).trans (Keep.new h2), ⟨⟨t0, rfl, ?_⟩, trivial⟩, upd_same⟩
  rw [upd_ne (ne_of_none upd_same h2)]; exact upd_same
end
end HS
namespace HS
open PySem PySem.Spec PyProof.Rows L2
theorem Keep.over {H H' : Hp} {a : Addr} {o : HO} (k : Keep (fun x => x = a) (upd H a o) H') (h : H a = none) : Keep (fun _ => False) H H' := fun p u e _ => by
  have n := ne_of_none e h
  exact k p u (by rw [upd_ne n]; exact e) n
end HS
namespace HS
open PySem PySem.Spec PyProof.Rows L2
/-- the same by the law's own look: leaves, lists and tuples of such -/
inductive SmV (K : PySem.W.Frag) (H : Hp) : Nat → V → V → Prop
  | non {n : Nat} : SmV K H n .non .non
  | bl {n : Nat} (b : Bool) : SmV K H n (.bl b) (.bl b)
  | int {n : Nat} (i : Int) : SmV K H n (.int i) (.int i)
  | str {n : Nat} (x : Str) : SmV K H n (.str x) (.str x)
  | lst {n : Nat} {a b : Addr} {xs ys : List V} : H a = some (.lst xs) → H b = some (.lst ys) → xs.length = ys.length → xs.length ≤ 1000 → (∀ (i : Nat) (x y : V), xs[i]? = some x → ys[i]? = some y → SmV K H n x y) → SmV K H (n + 1) (.ref a) (.ref b)
  | tup {n : Nat} {a b : Addr} {xs ys : List V} : H a = some (.tup xs) → H b = some (.tup ys) → xs.length = ys.length → xs.length ≤ 1000 → (∀ (i : Nat) (x y : V), xs[i]? = some x → ys[i]? = some y → SmV K H n x y) → SmV K H (n + 1) (.ref a) (.ref b)
theorem SmV.same {K : PySem.W.Frag} {H H' : Hp} (k : Keep (fun _ => False) H H') : ∀ {n : Nat} {x y : V}, SmV K H n x y → SmV K H' n x y
  | _, _, _, .non => .non
  | _, _, _, .bl b => .bl b
  | _, _, _, .int i => .int i
  | _, _, _, .str x => .str x
  | _, _, _, .lst h1 h2 h3 h4 h => .lst (k _ _ h1 id) (k _ _ h2 id) h3 h4 fun i x y e1 e2 => (h i x y e1 e2).same k
  | _, _, _, .tup h1 h2 h3 h4 h => .tup (k _ _ h1 id) (k _ _ h2 id) h3 h4 fun i x y e1 e2 => (h i x y e1 e2).same k
/-- x[i] of a list or a tuple -/
def rIxA (K : PySem.W.Frag) : R2 := fun x y H Q => rIxL K x y H Q ∨ rIxT K x y H Q
theorem ixa {X : Cx} (K : PySem.W.Frag) (h : X.K = K := by rfl) : IxR X (rIxA K) := fun value slice pins s σ H x y v u Q I rx ry r =>
  r.elim (fun r => ixl K h value slice pins s σ H x y v u Q I rx ry r) fun r => ixt K h value slice pins s σ H x y v u Q I rx ry r
section
variable {K : PySem.W.Frag} {H : Hp} {Q : VK}
theorem isi {x : V} {m n : String} (b : Bool) (ty : TyX K H x (.type m)) (hq : kitB m n = some b) (q : Q (.bl b) H) : rIsi K [x, .ty n] H Q := ⟨x, _, _, _, b, rfl, .ty n, ty, kit_ty hq, q⟩
theorem isN {x : V} (q : Q (.bl (decide (x = .non))) H) : (fun x y H Q => y = V.non ∧ Q (.bl (decide (x = .non))) H : R2) x .non H Q := ⟨rfl, q⟩
theorem eqS {x y : V} (hs : scal x y = true) (e : x = y) (q : Q (.bl true) H) : rEq x y H Q := ⟨hs, by rw [decide_eq_true e]; exact q⟩
theorem neB {b c : Bool} (q : Q (.bl (!decide (b = c))) H) : rNe (.bl b) (.bl c) H Q := ⟨rfl, by
  have e : decide (V.bl b = V.bl c) = decide (b = c) := by cases b <;> cases c <;> rfl
  rw [e]; exact q⟩
theorem kb_bb : kitB "bool" "bool" = some true := by decide +kernel
theorem kb_ib : kitB "int" "bool" = some false := by decide +kernel
theorem kb_ii : kitB "int" "int" = some true := by decide +kernel
theorem kb_sb : kitB "str" "bool" = some false := by decide +kernel
theorem kb_si : kitB "str" "int" = some false := by decide +kernel
theorem kb_ss : kitB "str" "str" = some true := by decide +kernel
theorem kb_lb : kitB "list" "bool" = some false := by decide +kernel
theorem kb_li : kitB "list" "int" = some false := by decide +kernel
theorem kb_ls : kitB "list" "str" = some false := by decide +kernel
theorem kb_ll : kitB "list" "list" = some true := by decide +kernel
theorem kb_lt : kitB "list" "tuple" = some false := by decide +kernel
theorem kb_tb : kitB "tuple" "bool" = some false := by decide +kernel
theorem kb_ti : kitB "tuple" "int" = some false := by decide +kernel
theorem kb_ts : kitB "tuple" "str" = some false := by decide +kernel
theorem kb_tl : kitB "tuple" "list" = some false := by decide +kernel
theorem kb_tt : kitB "tuple" "tuple" = some true := by decide +kernel
end
end HS
/-! An own exception class called with keywords. -/
namespace PySem
namespace HSK
open HandSPX Builtin Builtin.ObjectAttr
section
variable {prog : Program} {w : World} {A : Around} {E : Value → Shared → Prop} {R : Result → Shared → Prop} {h : Heap} {g : Array GenState} {d : Drawn} {t : Nat} {os : OsState} {kw : List (Str × Value)} {fI : Addr}
variable {nm q : Str} {C N : Addr} {bs bm bmB : List Value} {hdct : Bool} {sn : List Str} {sub : List Value} {ab : Bool} {col : Option Bool} {dd : Option Addr} {k0 k1 k2 k3 k5 : Option Value} {B newId initId : String}
theorem kw_check_new {M : Model} (F : ExcBaseFacts B newId initId bmB) (hT : ∀ X : String, bm.contains (.type X) = bmB.contains (.type X)) {Q : Unit → Shared → Prop} (hC : h.get? C = some (excClassObj nm q C N bs bm hdct sn sub ab col dd k0 k1 k2 k3 k5 newId)) (z : Q () ⟨h, g, d, t, os⟩) :
    wpAny M A (checkBuiltinCall newId ⟨[.ref C], kw⟩) Q E ⟨h, g, d, t, os⟩ := by
  have inB : (Value.ref C :: bm).contains (.type B) = true := by rw [List.contains_cons, hT, F.hasB, Bool.or_true]
  have star := F.noStar
  simp only [checkBuiltinCall, F.newKind, F.newSplit, F.newRow]
  repeat (first | refine wpAny_loadPart_at hC ?_ | (refine wpAny_isSubtype_exc hC ?_; rw [inB]) | refine wpAny_staticBase_exc hC ?_ | refine wpAny_madeBy_exc hC ?_ | simp only [bne_self_eq_false, Bool.false_eq_true, if_false] | wp_step)
  exact z
theorem kw_new (F : ExcBaseFacts B newId initId bmB) (hT : ∀ X : String, bm.contains (.type X) = bmB.contains (.type X)) (hC : h.get? C = some (excClassObj nm q C N bs bm hdct sn sub ab col dd k0 k1 k2 k3 k5 newId))
    (z : R (.ok (.ret (.ref (h.objs.size + 1)))) ⟨(h.push (W.kdv_tup [])).push (excO C h.objs.size), g, d, t, os⟩) : codeAny (model prog w) A (.builtin newId ⟨[.ref C], kw⟩) R ⟨h, g, d, t, os⟩ := by
  have ends := F.ends
  have inB : (Value.ref C :: bm).contains (.type B) = true := by rw [List.contains_cons, hT, F.hasB, Bool.or_true]
  have noA : (Value.ref C :: bm).contains (.type "AttributeError") = false := by rw [List.contains_cons, hT, F.noAttr]; rfl
  have noN : (Value.ref C :: bm).contains (.type "NameError") = false := by rw [List.contains_cons, hT, F.noName]; rfl
  have tiny : ([] : List Value).length ≤ sizeLine := Nat.zero_le _
  refine codeAny_builtinAt F.entry ?_
  unfold Builtin.«BaseException.__new__»
  refine wpAt_bind ?_
  show wpAt _ _ _ (stack >>= _) _ _ _
  refine wpAt_bind (wpAt_stack fun p below => wpAt_of_wpAny ?_)
  wp_walk
  refine wpAt_of_wpAny ?_
  rw [F.owner]
  repeat (first | with_reducible refine wpAny_madeHere_exc F.canon hC ?_ | with_reducible refine wpAny_loadPart_at hC ?_ | (with_reducible refine wpAny_isSubtype_exc hC ?_; first | rw [inB] | rw [noA] | rw [noN]) | wp_step)
  show R _ _
  rw [Heap.size_push]
  exact z
theorem kw_type_call (F : ExcBaseFacts B newId initId bmB) (hT : ∀ X : String, bm.contains (.type X) = bmB.contains (.type X)) {Q : Fin → Shared → Prop} (hC : h.get? C = some (excClassObj nm q C N bs bm hdct sn sub ab col dd k0 k1 k2 k3 k5 newId))
    (li : W.Looks (model prog w) h (typeLookup (.ref C) "__init__") (some (.ref fI))) (lb : ∀ self, W.Looks (model prog w) h (bindSpecial (.ref fI) self) (.ref fI, [self]))
    (run : codeAny (model prog w) A (.call (.ref fI) ⟨[.ref (h.objs.size + 1)], kw⟩) (fun r s' => match r with | .ok (.ret v) => v = .none ∧ Q (.done (.ret (.ref (h.objs.size + 1)))) s' | .ok _ => False | .error e => E e s')
      ⟨(h.push (W.kdv_tup [])).push (excO C h.objs.size), g, d, t, os⟩) : wpAny (model prog w) A (Builtin.«type.__call__» ⟨[.ref C], kw⟩) Q E ⟨h, g, d, t, os⟩ := by
  repeat (first | with_reducible refine wpAny_loadPart_at hC ?_ | with_reducible refine wpAny_madeBy_exc hC ?_ | wp_step)
  refine codeAny_call_builtin_code (Code.quiet_builtin _ F.quiet) (kw_check_new F hT hC (kw_new F hT hC ?_))
  have up : ∀ b o, h.get? b = some o → ((h.push (W.kdv_tup [])).push (excO C h.objs.size)).get? b = some o := fun _ _ y => Heap.get?_push_of_some _ (Heap.get?_push_of_some _ y)
  have hC2 := up _ _ hC
  have hE : ((h.push (W.kdv_tup [])).push (excO C h.objs.size)).get? (h.objs.size + 1) = some (excO C h.objs.size) := by heap_get
  have isC : (Value.ref C :: bm).contains (.ref C) = true := by simp
  have li2 := li.keeps up
  have lb2 := (lb (.ref (h.objs.size + 1))).keeps up
  show wpAny _ _ _ _ _ _
  unfold isInstance
  repeat (first | with_reducible refine wpAny_loadPart_at hE ?_ | (with_reducible refine wpAny_isSubtype_exc hC2 ?_; rw [isC]) | wp_step)
  show wpAny _ _ (typeLookup (.ref C) _) _ _ _
  refine li2.at (wpAny_holding (wpAny_bind (lb2.at (wpAny_bind (wpAny_call (codeAny_mono run fun r s' y => ?_))))))
  rcases r with e | (v | _ | _ | _) <;> first | exact y | exact y.elim | skip
  obtain ⟨y0, y⟩ := y
  subst y0
  first
    | exact wpAny_pure (wpAny_pure y)
    | (wp_walk; exact y)
theorem kw_call (F : ExcBaseFacts B newId initId bmB) (hT : ∀ X : String, bm.contains (.type X) = bmB.contains (.type X)) (hC : h.get? C = some (excClassObj nm q C N bs bm hdct sn sub ab col dd k0 k1 k2 k3 k5 newId))
    (li : W.Looks (model prog w) h (typeLookup (.ref C) "__init__") (some (.ref fI))) (lb : ∀ self, W.Looks (model prog w) h (bindSpecial (.ref fI) self) (.ref fI, [self]))
    (run : codeAny (model prog w) (A.under (.builtin "type.__call__" ⟨[.ref C], kw⟩)) (.call (.ref fI) ⟨[.ref (h.objs.size + 1)], kw⟩) (W.InitBack (h.objs.size + 1) R) ⟨(h.push (W.kdv_tup [])).push (excO C h.objs.size), g, d, t, os⟩) :
    codeAny (model prog w) A (.call (.ref C) ⟨[], kw⟩) R ⟨h, g, d, t, os⟩ := by
  have c1 := tc_lookup
  have c2 := tc_bind (.ref C)
  have ty : (⟨h, g, d, t, os⟩ : Shared).TypeIs (.ref C) "type" := ⟨_, hC, rfl⟩
  refine codeAny_of_tree ?_
  show wpAny _ _ (callAny (.ref C) _) _ _ _
  repeat (any_goals (first | assumption | with_reducible refine wpAny_loadPart_at hC ?_ | wp_step))
  refine ⟨rfl, codeAny_call_builtin_at (Code.quiet_builtin _ (by decide +kernel)) entry_typeCall (wpAny_check_type_call_sub hC (kw_type_call F hT hC li lb ?_))⟩
  refine codeAny_mono run fun r s' y => ?_
  rcases r with e | (v | _ | _ | _) <;> exact y
end
end HSK
end PySem
namespace HS
open PySem PySem.Spec PyProof.Rows L2
/-- C(k = v) as a value -/
def tNewK (C : Addr) (n : Nat) (sp : Sp) (gV : List V → List V → List V) (tk : TA) : TE := fun σ H Q => tk σ H fun zs H1 => zs.length = n ∧ ∀ a, H1 a = none → sp (gV [.ref a] zs) (upd H1 a (exo a C none)) (fun v H2 => v = .non ∧ Q (.ref a) H2) (fun _ _ _ => False)
section
variable {X : Cx} {CX : CXT} {x : Str} {C fI : Addr} {k : Nat} {fd : FuncData} {ps ks : List Str} {sp : Sp} {kws : List Keyword} {tk : TA} {p pos : Pos} {g : List Value → List Value → List Value} {gV : List V → List V → List V}
theorem pe_newK (T : OexC X.K C) (iC : PySem.W.findIn X.K (.ref C) "__init__" = some (some (.ref fI))) (tI : PySem.W.typeIn X.K (.ref fI) = some (.type "function"))
    (F1 : FnOk X.prog X.w X.K X.mg X.base CX k fI fd ps sp) (hr : Room (k + 1) X.A) (hb : KBn X.K fd ps 1 ks g gV) (hx : Passes CX X (fun _ _ _ => False)) (hg : Gl X x) (hm : X.mg x = some (.ref C)) (hkw : PK X kws tk)
    (hall : (backToKw pos (keywordEach kws X.env)).all (·.1.isSome) = true := by rfl) (hks : (backToKw pos (keywordEach kws X.env)).filterMap (·.1) = ks := by rfl) (hdb : (x == ("__debug__" : Str)) = false := by decide)
    (hpl : ((backTo pos (starEach [] X.env)).any (·.1) || (backToKw pos (keywordEach kws X.env)).any (·.1.isNone)) = false := by rfl) : PE X (.Call (.Name x p) [] kws pos) (tNewK C ks.length sp gV tk) := by
  refine ⟨fun pins s σ H Q I hw => wpAny_Call_Name_kw (ld_glob I hg hm (PySem.W.callWith_KW0 (h₀ := X.base) I.ok.mod.kin T.kC hall (thn (hkw.run pos pins s σ H _ I hw) fun ws s1 ⟨zs, H1, I1, rz, lz, q1⟩ => ⟨I1.kIn, ?_⟩) hpl) hdb)⟩
  obtain ⟨nm, qn, N, bs, bm, sn, sub, ab, col, dd, k0, k1, k2, k3, k5, hC, hbm⟩ := T.cls
  rw [hks]
  obtain ⟨hp, g0, dr, t, os⟩ := s1
  have le1 : hp.objs.size ≤ hp.objs.size + 1 := by omega
  have kept : ∀ b o, hp.get? b = some o → ((hp.push (PySem.W.kdv_tup [])).push (PySem.HandSPX.excO C hp.objs.size)).get? b = some o := fun _ _ z => Heap.get?_push_of_some _ (Heap.get?_push_of_some _ z)
  have at1 : ((hp.push (PySem.W.kdv_tup [])).push (PySem.HandSPX.excO C hp.objs.size)).get? (hp.objs.size + 1) = some (PySem.HandSPX.excO C hp.objs.size) := by heap_get
  have J : Inv X pins σ (upd H1 (hp.objs.size + 1) (exo (hp.objs.size + 1) C none)) ⟨(hp.push (PySem.W.kdv_tup [])).push (PySem.HandSPX.excO C hp.objs.size), g0, dr, t, os⟩ := I1.laid (t' := t) kept le1 (exo_ok at1)
  have q2 := q1 (hp.objs.size + 1) (I1.hok.fresh le1)
  have r1 : Vals [V.ref (hp.objs.size + 1)] [Value.ref (hp.objs.size + 1)] := .cons rfl .nil
  have bnd := hb.to _ [Value.ref (hp.objs.size + 1)] ws J.kIn rfl (rz.length.symm.trans lz)
  refine wpAny_call (PySem.HSK.kw_call F.excBase_ValueError (fun Y => PySem.HandSPX.refsVE_contains Y bm hbm) (I1.kIn _ _ hC) (PySem.W.looks_findIn I1.kIn iC) (fun self => PySem.W.bind_fn I1.kIn self tI)
    (codeAny_mono (F1.run _ X.stack _ _ ⟨[Value.ref (hp.objs.size + 1)], ks.zip ws⟩ _ _ _ _ (hr.make C [] (ks.zip ws)) (J.env0.make C [] (ks.zip ws)) bnd (hb.rel r1 rz) q2) fun r s' back => ?_))
  match r, back with
  | .error er, back => exact hx pins σ _ _ er s' J back
  | .ok (.ret u), back =>
    obtain ⟨v, H', J', rv, ev, q3⟩ := J.after back
    subst ev
    exact ⟨rv, ⟨V.ref (hp.objs.size + 1), H', J', rfl, q3⟩⟩
end
section
variable {σ : L2.St} {H : Hp} {Q : VK} {C : Addr} {sp : Sp} {m : Nat} {gV : List V → List V → List V} {tk : TA}
theorem newK (h : tk σ H fun zs H1 => zs.length = m ∧ ∀ a, H1 a = none → sp (gV [.ref a] zs) (upd H1 a (exo a C none)) (fun v H2 => v = .non ∧ Q (.ref a) H2) (fun _ _ _ => False)) : tNewK C m sp gV tk σ H Q := h
end
end HS
namespace HS
open PySem PySem.Spec PyProof.Rows L2
/-! ### own exceptions that are raised and caught -/
section
variable {C a : Addr} {sp : Sp} {dvs : List V} {ta : TA} {te : TE} {σ : L2.St} {H H1 H2 : Hp} {R : XK} {Q : VK} {d : Addr} {u o : HO}
theorem mkO (h : ta σ H fun vs H1 => vs.length ≤ 1000 ∧ ∀ a, H1 a = none → sp (.ref a :: (vs ++ dvs)) (upd H1 a (exo a C none))
    (fun v H2 => v = .non ∧ ∃ (d : Addr) (fs : List (Str × V)), H2 a = some (exo a C (some d)) ∧ H2 d = some (exd d fs) ∧ H1 d = none ∧ R (.ref C) (some d) (upd (del H2 a) d (.xd fs))) (fun _ _ _ => False)) : tMkO C sp dvs ta σ H R := h
theorem callS {E : L2.St → XK} (h : ta σ H fun vs H1 => sp vs H1 Q (E σ)) : tCallS sp E ta σ H Q := h
theorem xf {cls : Value} {dx : Option Addr} {f : Str} (h : te σ H fun x H1 => x = .ref a ∧ cls = .ref C ∧ ∃ (dd : Addr) (fs : List (Str × V)) (v : V), dx = some dd ∧ H1 dd = some (.xd fs) ∧ fs.lookup f = some v ∧ Q v H1) : tXf a cls dx C f te σ H Q := h
/-- what stood ahead of the new exception a stands, and its dict at d besides -/
theorem Keep.exc (k : Keep (fun x => x = a) (upd H a o) H2) (ha : H a = none) (hd : H d = none) : Keep (fun _ => False) H (upd (del H2 a) d u) := fun b q e _ => by
  have hba : b ≠ a := ne_of_none e ha
  rw [upd_ne (ne_of_none e hd)]
  show (if b = a then none else H2 b) = some q
  rw [if_neg hba]
  exact k b q (by rw [upd_ne hba]; exact e) hba
/-- one value, put into a new exception whose maker holds the usual promise -/
theorem mk1 {K : PySem.W.Frag} {w : V}
    (hsp : ∀ (H' : Hp) (Q' : VK) (E' : XK) (b : Addr), OexC K C → PySem.W.findIn K (.ref C) "value" = some none → H' b = some (exo b C none) →
      (∀ H3 d, HS.Keep (fun x => x = b) H' H3 → H' d = none → d ≠ b → H3 b = some (exo b C (some d)) → H3 d = some (exd d [("value", w)]) → Q' .non H3) → sp [.ref b, w] H' Q' E')
    (T1 : OexC K C) (hv : PySem.W.findIn K (.ref C) "value" = some none)
    (h : ∀ H' d, Keep (fun _ => False) H H' → H d = none → H' d = some (.xd [("value", w)]) → R (.ref C) (some d) H') :
    [w].length ≤ 1000 ∧ ∀ a, H a = none → sp (.ref a :: ([w] ++ [])) (upd H a (exo a C none))
      (fun v H2 => v = .non ∧ ∃ (d : Addr) (fs : List (Str × V)), H2 a = some (exo a C (some d)) ∧ H2 d = some (exd d fs) ∧ H d = none ∧ R (.ref C) (some d) (upd (del H2 a) d (.xd fs))) (fun _ _ _ => False) :=
  ⟨show 1 ≤ 1000 by decide, fun a ha => hsp _ _ _ a T1 hv upd_same fun H3 d k hd hne e1 e2 =>
    have hd' : H d = none := by rw [upd_ne hne] at hd; exact hd
    ⟨rfl, d, _, e1, e2, hd', h _ d (k.exc ha hd') hd' upd_same⟩⟩
end
end HS
/-! Defs that are called while nothing is being shown (no repr stands on the stack), so that they may call repr of a list. -/
namespace HS
open PySem PySem.Spec PyProof.Rows L2
/-- a def's promise where no repr is under way -/
structure FnG (Pg : Program) (wd : World) (K : PySem.W.Frag) (mg : Str → Option Value) (base : Heap) (C : CXT) (n : Nat) (f : Addr) (fd : FuncData) (ps : List Str) (sp : Sp) : Prop where
  len : ∀ vs H Q E, sp vs H Q E → vs.length = ps.length
  go : ∀ (B : Around) (o : List Env) (s : Shared) (H : Hp) (ar : Args) (us : List Value) (vs : List V) (Q : VK) (E : XK), B.guards = some [] → Room n B → Env0 Pg wd K mg base B o s H →
    BindsTo s fd ar (ps.zip us) → Vals vs us → sp vs H Q E → codeAny (model Pg wd) B (.call (.ref f) ar) (CR C o Pg wd H s Q E) s
section
variable {Pg : Program} {wd : World} {K : PySem.W.Frag} {mg : Str → Option Value} {base : Heap} {C : CXT} {n : Nat} {f : Addr} {fd : FuncData} {ps : List Str} {sp : Sp}
/-- a finished body's end is the call's end -/
theorem g_end {N : List Str} {q : Str} {sc : Scope} {cd : Value} {B : Around} {o : List Env} {s : Shared} {H : Hp} {E : XK} {Q : VK} {x : Cx} (hx : x = cxOf C Pg wd K mg base N q sc f cd B o s H E) (fl : Flow) {s' : Shared} :
    SP x [] { nx := fun _ H' => Q .non H', rt := Q } fl s' → CR C o Pg wd H s Q E (.ok (.ret (match fl with | .ret v => v | _ => .none))) s' := by
  subst hx
  intro h
  cases fl
  case ret u => obtain ⟨v, st, H', J, rv, y⟩ := h; exact ⟨v, H', J.os, J.bare, J.base, J.hok, rv, y⟩
  case next => obtain ⟨st, H', J, y⟩ := h; exact ⟨.non, H', J.os, J.bare, J.base, J.hok, rfl, y⟩
  all_goals exact h.elim fun _ z => z.elim fun _ z => z.2.elim
theorem Fun.okG {x qn : Str} {st : Stmt} {N : List Str} (F : L2.Fun K x qn st f fd) (S : FnScope N ps (defScope st)) (len : ∀ vs H Q E, sp vs H Q E → vs.length = ps.length)
    (hb : ∀ (cd : Value) (B : Around) (o : List Env) (s : Shared) (H : Hp) (vs : List V) (Q : VK) (E : XK), B.guards = some [] → Room n (B.deeper (envOfC qn (defScope st) s.heap.objs.size f cd)) → sp vs H Q E →
      ∃ t, PSs (cxOf L2.CX0 Pg wd K mg base N qn (defScope st) f cd B o s H E).nox (defBody st) t ∧ t { nx := fun _ H' => Q .non H', rt := Q } (start N vs) H) : FnG Pg wd K mg base L2.CX0 (n + 1) f fd ps sp := by
  obtain ⟨_, _, _, _, _, _, cd, _, _, rfl, lk, hcd⟩ := F.ex
  refine ⟨len, fun B o s H ar us vs Q E hg hr e0 bd rv hs => ?_⟩
  have kin : K.In s.heap := e0.mod.kin.keeps fun b u e => (e0.bs b u e).1
  have kinds : ∀ y ∈ ps.zip us, (defScope st).names.lookup y.1 = some .local ∨ ((defScope st).names.lookup y.1 = some .cell ∧ ((cellsFrom (s.heap.objs.size + 1) (defScope st).names []).lookup y.1).isSome = true) := by
    rintro ⟨z, v⟩ hy
    exact (S.par z (List.of_mem_zip hy).1).elim .inl fun c => .inr ⟨c, PySem.W.cellsFrom_some _ _ _ (.inl c)⟩
  refine codeAny_call_function hr.depth (kin _ _ lk) rfl S.co S.gen rfl (PySem.W.codeRec_of kin hcd) (bd _ _ _ _ (wpAny_newFunctionEnv_cells S.kind kinds fun _ he s1 made => ?_))
  subst he
  obtain ⟨t, ht, hq⟩ := hb cd B o s H vs Q E hg (hr.deeper _) hs
  have start0 := inv_start (CX := L2.CX0) (E := E) (qual := qn) (cd := cd) (f := f) S hr.hd e0 (len _ _ _ _ hs) rv made
  exact ⟨(e0.mod.nolimit.keeps fun b u e => (e0.bs b u e).1).keeps made.toInCall.keep, codeAny_func (wpAny_mono (ht.nox.run [] s1 _ H _ start0 hq) (fun fl s' => g_end rfl fl) fun _ _ h => h)⟩
end
/-! ### calls -/
/-- the call of a def, whichever way its arguments come -/
theorem after_call {X : Cx} {C : CXT} {E : XK} {pins : List (Addr × Obj)} {σ : L2.St} {H : Hp} {s : Shared} {Q : VK} {f : Addr} {us : List Value} {kw : List (Str × Value)} (hx : Passes C X E) (I : Inv X pins σ H s)
    (h : codeAny (model X.prog X.w) X.A (.call (.ref f) ⟨us, kw⟩) (CR C X.stack X.prog X.w H s Q E) s) : wpAny (model X.prog X.w) X.A (call (.ref f) us kw) (EP X pins σ Q) X.xe s :=
  wpAny_call (codeAny_mono h fun r s' y => match r, y with
    | .error e, y => hx pins σ H s e s' I y
    | .ok (.ret _), y => I.after y)
/-- how a call with keywords binds, where the numbers of its arguments are written -/
structure KBX (K : PySem.W.Frag) (fd : FuncData) (ps : List Str) (n : Nat) (ks : List Str) (g : List Value → List Value → List Value) (gV : List V → List V → List V) : Prop where
  to : ∀ (s : Shared) (us ws : List Value), us.length = n → ws.length = ks.length → BindsTo s fd ⟨us, ks.zip ws⟩ (ps.zip (g us ws))
  rel : ∀ {vs : List V} {us : List Value} {zs : List V} {ws : List Value}, Vals vs us → Vals zs ws → Vals (gV vs zs) (g us ws)
def tCallN (n m : Nat) (sp : Sp) (gV : List V → List V → List V) (E : XK) (t tk : TA) : TE := fun σ H Q => t σ H fun vs H1 => tk σ H1 fun zs H2 => vs.length = n ∧ zs.length = m ∧ sp (gV vs zs) H2 Q E
theorem relAt : ∀ {vs : List V} {us : List Value} (_ : Vals vs us) (i : Nat), RelV (vs.getD i .non) (us.getD i .none)
  | [], _, r, i => by cases r; exact rfl
  | _ :: _, _, r, 0 => by cases r with | cons a _ => exact a
  | _ :: _, _, r, i + 1 => by cases r with | cons _ b => exact relAt b i
section
variable {X : Cx} {C : CXT} {n m : Nat} {f : Addr} {fd : FuncData} {ps ks : List Str} {sp : Sp} {E : XK} {x : Str} {p q : Pos} {e : Expr} {es : List Expr} {kws : List Keyword} {t tk : TA} {g : List Value → List Value → List Value} {gV : List V → List V → List V}
theorem pe_callG (hG : X.A.guards = some []) (F : FnG X.prog X.w X.K X.mg X.base C n f fd ps sp) (hr : Room n X.A) (gl : Gl X x) (mf : X.mg x = some (.ref f)) (kf : PySem.W.keepIn X.K (.ref f) = true) (bd : Binds X.K fd ps []) (hx : Passes C X E) (ha : PA X (e :: es) t)
    (h1 : (x == ("__debug__" : Str)) = false := by decide) (h2 : starEach (e :: es) X.env = (false, eval e X.env) :: starEach es X.env := by rfl) (h3 : (backTo q (starEach es X.env)).any (·.1) = false := by rfl) :
    PE X (.Call (.Name x p) (e :: es) [] q) (tCall sp [] E t) := by
  constructor
  intro pins s σ H Q I h
  refine wpAny_Call_Name_kw (ld_glob I gl mf (PySem.W.callWith_K (h₀ := X.base) I.ok.mod.kin kf (thn (ha.run q pins s σ H _ I h) fun us s1 ⟨vs, H1, I1, r, y⟩ => ⟨I1.kIn, ?_⟩) h2 h3) h1)
  have y : sp (vs ++ []) H1 Q E := y
  rw [List.append_nil] at y
  have hl : (us ++ []).length = ps.length := by rw [List.append_nil, ← r.length]; exact F.len _ _ _ _ y
  exact after_call hx I1 (F.go X.A X.stack s1 H1 _ (us ++ []) vs Q E hG hr I1.env0 (bd s1 us I1.kIn hl) (by rw [List.append_nil]; exact r) y)
/-- f(e, .., k = v, ..), f(k = v, ..) -/
theorem kw_to (hb : KBX X.K fd ps n ks g gV) {pins : List (Addr × Obj)} {σ : L2.St} {H : Hp} {s : Shared} {Q : VK} {vs zs : List V} {us ws : List Value}
    (run : ∀ (bs : List Value) (bv : List V), BindsTo s fd ⟨us, ks.zip ws⟩ (ps.zip bs) → Vals bv bs → sp bv H Q E → codeAny (model X.prog X.w) X.A (.call (.ref f) ⟨us, ks.zip ws⟩) (CR C X.stack X.prog X.w H s Q E) s)
    (hx : Passes C X E) (I : Inv X pins σ H s) (r : Vals vs us) (rz : Vals zs ws) (l1 : vs.length = n) (l2 : zs.length = ks.length) (y : sp (gV vs zs) H Q E) : wpAny (model X.prog X.w) X.A (call (.ref f) us (ks.zip ws)) (EP X pins σ Q) X.xe s :=
  after_call hx I (run _ _ (hb.to s us ws (by rw [← r.length]; exact l1) (by rw [← rz.length]; exact l2)) (hb.rel r rz) y)
theorem pe_kwG (hG : X.A.guards = some []) (F : FnG X.prog X.w X.K X.mg X.base C m f fd ps sp) (hr : Room m X.A) (gl : Gl X x) (mf : X.mg x = some (.ref f)) (kf : PySem.W.keepIn X.K (.ref f) = true) (hb : KBX X.K fd ps n ks g gV) (hx : Passes C X E) (ha : PA X (e :: es) t) (hk : PK X kws tk)
    (h0 : (backToKw q (keywordEach kws X.env)).all (·.1.isSome) = true := by rfl) (hks : (backToKw q (keywordEach kws X.env)).filterMap (·.1) = ks := by rfl) (h1 : (x == ("__debug__" : Str)) = false := by decide) (h2 : starEach (e :: es) X.env = (false, eval e X.env) :: starEach es X.env := by rfl)
    (h3 : ((backTo q (starEach (e :: es) X.env)).any (·.1) || (backToKw q (keywordEach kws X.env)).any (·.1.isNone)) = false := by rfl) : PE X (.Call (.Name x p) (e :: es) kws q) (tCallN n ks.length sp gV E t tk) := by
  constructor
  intro pins s σ H Q I h
  refine wpAny_Call_Name_kw (ld_glob I gl mf (PySem.W.callWith_KW (h₀ := X.base) I.ok.mod.kin kf h0 (thn (ha.run q pins s σ H _ I h) fun us s1 ⟨vs, H1, I1, r, y⟩ => thn (hk.run q pins s1 σ H1 _ I1 y) fun ws s2 ⟨zs, H2, I2, rz, l1, l2, y2⟩ => ⟨I2.kIn, ?_⟩) h3 h2) h1)
  rw [hks]
  exact kw_to hb (fun bs bv b1 b2 b3 => F.go X.A X.stack s2 H2 _ bs bv Q E hG hr I2.env0 b1 b2 b3) hx I2 r rz l1 l2 y2
theorem pe_kwG0 (hG : X.A.guards = some []) (F : FnG X.prog X.w X.K X.mg X.base C m f fd ps sp) (hr : Room m X.A) (gl : Gl X x) (mf : X.mg x = some (.ref f)) (kf : PySem.W.keepIn X.K (.ref f) = true) (hb : KBX X.K fd ps 0 ks g gV) (hx : Passes C X E) (hk : PK X kws tk)
    (h0 : (backToKw q (keywordEach kws X.env)).all (·.1.isSome) = true := by rfl) (hks : (backToKw q (keywordEach kws X.env)).filterMap (·.1) = ks := by rfl) (h1 : (x == ("__debug__" : Str)) = false := by decide)
    (h3 : ((backTo q (starEach [] X.env)).any (·.1) || (backToKw q (keywordEach kws X.env)).any (·.1.isNone)) = false := by rfl) : PE X (.Call (.Name x p) [] kws q) (tCallN 0 ks.length sp gV E tNil tk) := by
  constructor
  intro pins s σ H Q I h
  refine wpAny_Call_Name_kw (ld_glob I gl mf (PySem.W.callWith_KW0 (h₀ := X.base) I.ok.mod.kin kf h0 (thn (hk.run q pins s σ H _ I h) fun ws s2 ⟨zs, H2, I2, rz, l1, l2, y2⟩ => ⟨I2.kIn, ?_⟩) h3) h1)
  rw [hks]
  exact kw_to hb (fun bs bv b1 b2 b3 => F.go X.A X.stack s2 H2 _ bs bv Q E hG hr I2.env0 b1 b2 b3) hx I2 .nil rz rfl l2 y2
/-- the same of a def that may be called anywhere -/
theorem pe_kw (F : FnOk X.prog X.w X.K X.mg X.base C m f fd ps sp) (hr : Room m X.A) (gl : Gl X x) (mf : X.mg x = some (.ref f)) (kf : PySem.W.keepIn X.K (.ref f) = true) (hb : KBX X.K fd ps n ks g gV) (hx : Passes C X E) (ha : PA X (e :: es) t) (hk : PK X kws tk)
    (h0 : (backToKw q (keywordEach kws X.env)).all (·.1.isSome) = true := by rfl) (hks : (backToKw q (keywordEach kws X.env)).filterMap (·.1) = ks := by rfl) (h1 : (x == ("__debug__" : Str)) = false := by decide) (h2 : starEach (e :: es) X.env = (false, eval e X.env) :: starEach es X.env := by rfl)
    (h3 : ((backTo q (starEach (e :: es) X.env)).any (·.1) || (backToKw q (keywordEach kws X.env)).any (·.1.isNone)) = false := by rfl) : PE X (.Call (.Name x p) (e :: es) kws q) (tCallN n ks.length sp gV E t tk) := by
  constructor
  intro pins s σ H Q I h
  refine wpAny_Call_Name_kw (ld_glob I gl mf (PySem.W.callWith_KW (h₀ := X.base) I.ok.mod.kin kf h0 (thn (ha.run q pins s σ H _ I h) fun us s1 ⟨vs, H1, I1, r, y⟩ => thn (hk.run q pins s1 σ H1 _ I1 y) fun ws s2 ⟨zs, H2, I2, rz, l1, l2, y2⟩ => ⟨I2.kIn, ?_⟩) h3 h2) h1)
  rw [hks]
  exact kw_to hb (fun bs bv b1 b2 b3 => F.run X.A X.stack s2 H2 _ bs bv Q E hr I2.env0 b1 b2 b3) hx I2 r rz l1 l2 y2
theorem pe_kw0 (F : FnOk X.prog X.w X.K X.mg X.base C m f fd ps sp) (hr : Room m X.A) (gl : Gl X x) (mf : X.mg x = some (.ref f)) (kf : PySem.W.keepIn X.K (.ref f) = true) (hb : KBX X.K fd ps 0 ks g gV) (hx : Passes C X E) (hk : PK X kws tk)
    (h0 : (backToKw q (keywordEach kws X.env)).all (·.1.isSome) = true := by rfl) (hks : (backToKw q (keywordEach kws X.env)).filterMap (·.1) = ks := by rfl) (h1 : (x == ("__debug__" : Str)) = false := by decide)
    (h3 : ((backTo q (starEach [] X.env)).any (·.1) || (backToKw q (keywordEach kws X.env)).any (·.1.isNone)) = false := by rfl) : PE X (.Call (.Name x p) [] kws q) (tCallN 0 ks.length sp gV E tNil tk) := by
  constructor
  intro pins s σ H Q I h
  refine wpAny_Call_Name_kw (ld_glob I gl mf (PySem.W.callWith_KW0 (h₀ := X.base) I.ok.mod.kin kf h0 (thn (hk.run q pins s σ H _ I h) fun ws s2 ⟨zs, H2, I2, rz, l1, l2, y2⟩ => ⟨I2.kIn, ?_⟩) h3) h1)
  rw [hks]
  exact kw_to hb (fun bs bv b1 b2 b3 => F.run X.A X.stack s2 H2 _ bs bv Q E hr I2.env0 b1 b2 b3) hx I2 .nil rz rfl l2 y2
end
section
variable {σ : L2.St} {H : Hp} {Q : VK} {t tk : TA} {sp : Sp} {gV : List V → List V → List V} {E : XK} {n m : Nat}
theorem caln (h : t σ H fun vs H1 => tk σ H1 fun zs H2 => vs.length = n ∧ zs.length = m ∧ sp (gV vs zs) H2 Q E) : tCallN n m sp gV E t tk σ H Q := h
theorem lnn {a b c d : Nat} {A : Prop} (e : a = c) (f : b = d) (h : A) : a = c ∧ b = d ∧ A := ⟨e, f, h⟩
end
/-! ### repr -/
mutual
/-- data of ints below 2 ^ 200, bools, None, in lists and tuples -/
def tame : PyData → Bool
  | .none | .bool _ => true
  | .int i => decide (i.natAbs < 2 ^ 200)
  | .list ds | .tuple ds => tameAll ds
  | _ => false
def tameAll : List PyData → Bool
  | [] => true
  | d :: ds => tame d && tameAll ds
end
theorem tame_int {i : Int} (h : i.natAbs < 2 ^ 200) : i.natAbs.log2 < 200 := by
  by_cases z : i.natAbs = 0
  · rw [z]; decide
  · exact (Nat.log2_lt z).mpr h
mutual
theorem tame_ok : ∀ d : PyData, tame d = true → d.showable = true ∧ d.hasDict = false ∧ d.leavesShort 201 = true
  | .none, _ => ⟨rfl, rfl, rfl⟩
  | .bool _, _ => ⟨rfl, rfl, rfl⟩
  | .int i, h => by
    have h' := tame_int (of_decide_eq_true (by simpa only [tame] using h))
    refine ⟨by simp only [PyData.showable]; exact decide_eq_true (by omega), rfl, ?_⟩
    simp only [PyData.leavesShort]
    exact decide_eq_true (by show (Str.ofString (toString i)).length ≤ 201; rw [PySem.ofString_length]; exact PySem.int_text_length_le (by decide) h')
  | .str _, h => by simp [tame] at h
  | .dict _, h => by simp [tame] at h
  | .list ds, h => by
    have := tame_okAll ds (by simpa only [tame] using h)
    simpa only [PyData.showable, PyData.hasDict, PyData.leavesShort] using this
  | .tuple ds, h => by
    have := tame_okAll ds (by simpa only [tame] using h)
    simpa only [PyData.showable, PyData.hasDict, PyData.leavesShort] using this
theorem tame_okAll : ∀ ds : List PyData, tameAll ds = true → PyData.showableAll ds = true ∧ PyData.hasDictAll ds = false ∧ PyData.leavesShortAll 201 ds = true
  | [], _ => ⟨rfl, rfl, rfl⟩
  | d :: ds, h => by
    have h' : tame d = true ∧ tameAll ds = true := by simpa only [tameAll, Bool.and_eq_true] using h
    obtain ⟨a, b, c⟩ := tame_ok d h'.1
    obtain ⟨a', b', c'⟩ := tame_okAll ds h'.2
    simp only [PyData.showableAll, PyData.hasDictAll, PyData.leavesShortAll, a, b, c, a', b', c']
    decide
end
/-- repr of a list or a tuple -/
def rRepr (K : PySem.W.Frag) : List V → Hp → VK → Prop := fun vs H Q => ∃ a d, vs = [.ref a] ∧ Dp K H (.ref a) d ∧ tame d = true ∧ d.depth ≤ 60 ∧ d.bulk ≤ 60000 ∧ Q (.str d.shown) H
theorem krepr (K : PySem.W.Frag) {X : Cx} {k : Nat} (hG : X.A.guards = some []) (hr : Room k X.A) (h : X.K = K := by rfl) : CallR X (.builtin "repr") (rRepr K) := by
  subst h
  intro pins s σ H xs us Q I r hq
  obtain ⟨a, d, rfl, hd, ht, hdp, hb, q⟩ := hq
  obtain ⟨u, rfl, ru⟩ := vals1 r
  obtain rfl : u = Value.ref a := ru
  obtain ⟨as, rd⟩ := Dp.reads I d _ _ hd rfl
  obtain ⟨o1, o2, o3⟩ := tame_ok d ht
  have fits := PyData.shown_le_bulk 201 (by decide) d o3
  have un := hr.units
  refine repr_of_reads' rd o1 (PyData.noDict_hsm o2) hG (by omega) (fun _ _ e => e) (fun h' u tk hk => ⟨.str d.shown, H, ?_, ⟨u, rfl⟩, q⟩) (by rw [sizeLine_eq]; omega)
  exact I.kept hk
end HS
/-! sorted of ints; lists in descending order. -/
namespace HS
open PySem PySem.Spec PyProof.Rows L2
section
variable {X : Cx} (K : PySem.W.Frag)
end
/-- in descending order -/
def desc (ls : List Int) : List Int := ls.mergeSort fun a b => decide (b ≤ a)
theorem desc_perm (ls : List Int) : (desc ls).Perm ls := List.mergeSort_perm ls _
theorem desc_pair (ls : List Int) : (desc ls).Pairwise (· ≥ ·) := by
  have h := List.pairwise_mergeSort (le := fun a b : Int => decide (b ≤ a)) (fun a b c h1 h2 => by simp only [decide_eq_true_eq] at *; omega) (fun a b => by simp only [Bool.or_eq_true, decide_eq_true_eq]; omega) ls
  exact h.imp fun h => by simpa using h
theorem same_desc : ∀ {xs ys : List Int}, xs.Perm ys → xs.Pairwise (· ≥ ·) → ys.Pairwise (· ≥ ·) → xs = ys
  | [], ys, p, _, _ => (List.nil_perm.mp p).symm ▸ rfl
  | x :: xs, [], p, _, _ => absurd (List.perm_nil.mp p) (by simp)
  | x :: xs, y :: ys, p, h1, h2 => by
    rw [List.pairwise_cons] at h1 h2
    have e : x = y := by
      have a := p.mem_iff.mp List.mem_cons_self
      have b := p.mem_iff.mpr (List.mem_cons_self (a := y) (l := ys))
      rcases List.mem_cons.mp a with a | a
      · exact a
      · rcases List.mem_cons.mp b with b | b
        · exact b.symm
        · have := h1.1 y b
          have := h2.1 x a
          omega
    subst e
    rw [same_desc (List.Perm.cons_inv p) h1.2 h2.2]
theorem desc_of {xs ys : List Int} (p : xs.Perm ys) (h : xs.Pairwise (· ≥ ·)) : xs = desc ys := same_desc (p.trans (desc_perm ys).symm) h (desc_pair ys)
theorem desc_rev {xs ys : List Int} (p : xs.Perm ys) (h : xs.Pairwise (· ≤ ·)) : xs.reverse = desc ys := desc_of ((List.reverse_perm xs).trans p) (List.pairwise_reverse.mpr h)
theorem desc_same {xs ys : List Int} (p : xs.Perm ys) : desc xs = desc ys := desc_of ((desc_perm xs).trans p) (desc_pair xs)
theorem desc_len (ls : List Int) : (desc ls).length = ls.length := (desc_perm ls).length_eq
theorem desc_mem {ls : List Int} {x : Int} : x ∈ desc ls ↔ x ∈ ls := (desc_perm ls).mem_iff
theorem desc_count (ls : List Int) (x : Int) : (desc ls).count x = ls.count x := (desc_perm ls).count_eq x
theorem desc_desc (ls : List Int) : desc (desc ls) = desc ls := desc_same (desc_perm ls)
/-- those greater than v -/
def above (ls : List Int) (v : Int) : List Int := (desc ls).filter fun x => decide (v < x)
theorem filter_none {ls : List Int} {v : Int} (h : ∀ x ∈ ls, x ≤ v) : (ls.filter fun x => decide (v < x)) = [] := by
  rw [List.filter_eq_nil_iff]
  intro x hx
  have := h x hx
  simp; omega
theorem filter_step : ∀ {D : List Int} (v : Int), D.Pairwise (· ≥ ·) → (D.filter fun x => decide (v < x)) = (D.filter fun x => decide (v + 1 < x)) ++ List.replicate (D.count (v + 1)) (v + 1)
  | [], _, _ => rfl
  | x :: r, v, h => by
    rw [List.pairwise_cons] at h
    have ih := filter_step v h.2
    by_cases c1 : v + 1 < x
    · rw [List.filter_cons_of_pos (by simp; omega), List.filter_cons_of_pos (by simp; omega), List.count_cons_of_ne (by omega), ih]
      rfl
    · have c3 : (r.filter fun x => decide (v + 1 < x)) = [] := filter_none fun y hy => by have := h.1 y hy; omega
      rw [List.filter_cons_of_neg (a := x) (p := fun x => decide (v + 1 < x)) (by simp; omega), c3]
      rw [c3] at ih
      by_cases c2 : x = v + 1
      · subst c2
        rw [List.filter_cons_of_pos (p := fun x => decide (v < x)) (decide_eq_true (show v < v + 1 by omega)), List.count_cons_self, ih, List.replicate_succ]
        rfl
      · rw [List.filter_cons_of_neg (by simp; omega), List.count_cons_of_ne (by omega), ih]
theorem above_step (ls : List Int) (v : Int) : above ls v = above ls (v + 1) ++ List.replicate (ls.count (v + 1)) (v + 1) := by
  unfold above; rw [filter_step v (desc_pair ls), desc_count]
theorem above_top {ls : List Int} {v : Int} (h : ∀ x ∈ ls, x ≤ v) : above ls v = [] := filter_none fun x hx => h x (desc_mem.mp hx)
theorem above_all {ls : List Int} (h : ∀ x ∈ ls, 1 ≤ x) : above ls 0 = desc ls := by
  unfold above
  rw [List.filter_eq_self]
  intro x hx
  have := h x (desc_mem.mp hx)
  simp; omega
theorem above_le (ls : List Int) (v : Int) : (above ls v).length ≤ ls.length := by
  rw [← desc_len ls]; exact List.length_filter_le _ _
theorem at_last {xs ys : List V} {v : V} (h : xs = ys ++ [v]) : atI xs (-1) = some v := by
  rw [h]
  unfold atI ixN
  rw [if_neg (by omega), List.length_append, List.length_singleton]
  rw [if_pos (by push_cast; omega)]
  show (ys ++ [v])[_]? = _
  rw [show (-1 + ((ys.length + 1 : Nat) : Int)).toNat = ys.length by omega]
  simp
theorem desc_nil : desc [] = [] := by
  have := desc_perm []
  exact List.perm_nil.mp this
end HS
namespace HS
open PySem PySem.Spec PyProof.Rows L2
/-- sorted(b)[::-1] -/
def revQ (K : PySem.W.Frag) (Q : VK) : VK := fun x H1 => ∃ a xs, x = .ref a ∧ SqL K H1 a xs ∧ ∀ p, H1 p = none → Q (.ref p) (upd H1 p (.lst xs.reverse))
def srvQ (K : PySem.W.Frag) (Q : VK) : List V → Hp → Prop := fun vs H1 => ∃ b ls, vs = [.ref b] ∧ SqL K H1 b (ls.map V.int) ∧ ∀ H' p, Keep (fun _ => False) H1 H' → H1 p = none → H' p = some (.lst ((desc ls).map V.int)) → Q (.ref p) H'
def tSrv (K : PySem.W.Frag) (tl : TA) : TE := fun σ H Q => tl σ H (srvQ K Q)
theorem pe_srv (K : PySem.W.Frag) {X : Cx} {E C : Expr} {tl : TA} (h : ∀ r, CallR X (.builtin "sorted") r → PE X C (tCB r tl)) (rev : ∀ te, PE X C te → PE X E (tRevL X.K te)) (hK : X.K = K := by rfl) : PE X E (tSrv K tl) := by
  subst hK
  refine ⟨fun pins s σ H Q I hq => ?_⟩
  refine (rev _ (h (fun vs H1 Q' => srvQ X.K Q vs H1 ∧ Q' = revQ X.K Q) ?_)).run pins s σ H Q I ?_
  · intro pins s σ H xs us Q' I r h2
    obtain ⟨⟨b, ls, e, hs, k⟩, rfl⟩ := h2
    refine cr_sortedI pins s σ H xs us _ I r ⟨b, ls, e, hs, fun us p hperm hpair hp => ⟨_, _, rfl, HS.sq upd_same, fun q hq => ?_⟩⟩
    have K1 : Keep (fun _ => False) H (upd H p (.lst (us.map V.int))) := Keep.new hp
    rw [← List.map_reverse, desc_rev hperm hpair]
    exact k _ q (K1.nw hq) (K1.free hq id) upd_same
  · show tl σ H fun vs H1 => srvQ X.K Q vs H1 ∧ revQ X.K Q = revQ X.K Q
    have e : (fun vs H1 => srvQ X.K Q vs H1 ∧ revQ X.K Q = revQ X.K Q) = srvQ X.K Q := by
      funext vs H1
      exact propext ⟨fun z => z.1, fun z => ⟨z, rfl⟩⟩
    rw [e]
    exact hq
theorem srv {K : PySem.W.Frag} {tl : TA} {σ : L2.St} {H : Hp} {Q : VK} (h : tl σ H fun vs H1 => ∃ b ls, vs = [.ref b] ∧ SqL K H1 b (ls.map V.int) ∧ ∀ H' p, Keep (fun _ => False) H1 H' → H1 p = none → H' p = some (.lst ((desc ls).map V.int)) → Q (.ref p) H') : tSrv K tl σ H Q := h
end HS
namespace HS
open PySem PySem.Spec PyProof.Rows L2
/-- in ascending order -/
def asc (ls : List Int) : List Int := (desc ls).reverse
theorem asc_perm (ls : List Int) : (asc ls).Perm ls := (List.reverse_perm _).trans (desc_perm ls)
theorem asc_of {xs ys : List Int} (p : xs.Perm ys) (h : xs.Pairwise (· ≤ ·)) : xs = asc ys := by
  unfold asc; rw [← desc_rev p h, List.reverse_reverse]
theorem asc_pair (ls : List Int) : (asc ls).Pairwise (· ≤ ·) := by
  unfold asc
  rw [List.pairwise_reverse]
  exact desc_pair ls
theorem asc_len (ls : List Int) : (asc ls).length = ls.length := (asc_perm ls).length_eq
theorem asc_mem {ls : List Int} {x : Int} : x ∈ asc ls ↔ x ∈ ls := (asc_perm ls).mem_iff
theorem asc_inj {xs ys : List Int} : asc xs = asc ys ↔ desc xs = desc ys := List.reverse_inj
def rAsc (K : PySem.W.Frag) : List V → Hp → VK → Prop := fun vs H Q => ∃ b ls, vs = [.ref b] ∧ SqL K H b (ls.map V.int) ∧ ∀ H' p, Keep (fun _ => False) H H' → H p = none → H' p = some (.lst ((asc ls).map V.int)) → Q (.ref p) H'
def rDesc (K : PySem.W.Frag) : List V → List V → Hp → VK → Prop := fun vs zs H Q => ∃ b ls, vs = [.ref b] ∧ zs = [.bl true] ∧ SqL K H b (ls.map V.int) ∧ ∀ H' p, Keep (fun _ => False) H H' → H p = none → H' p = some (.lst ((desc ls).map V.int)) → Q (.ref p) H'
section
variable {X : Cx} (K : PySem.W.Frag)
theorem ksort (h : X.K = K := by rfl) : CallR X (.builtin "sorted") (rAsc K) := by
  subst h
  intro pins s σ H xs us Q I r ⟨b, ls, e, hs, k⟩
  exact cr_sortedI pins s σ H xs us Q I r ⟨b, ls, e, hs, fun us p hperm hpair hp => k _ p (Keep.new hp) hp (by rw [upd_same, asc_of hperm hpair])⟩
theorem ksortR (h : X.K = K := by rfl) : CallRK X (.builtin "sorted") [Str.ofString "reverse"] (rDesc K) := by
  subst h
  intro pins s σ H xs zs us ws Q I r rz ⟨b, ls, e, ez, hs, k⟩
  exact cr_sortedRev (b := true) pins s σ H xs zs us ws Q I r rz ⟨b, ls, e, ez, hs, fun us p hperm hpair hp => k _ p (Keep.new hp) hp (by rw [upd_same, desc_of hperm hpair])⟩
theorem kiz {tg l : Expr} {tl : TA} (p : PI X tg l (iZip X.K tl)) (h : X.K = K := by rfl) : PI X tg l (iZip K tl) := h ▸ p
theorem kcnt (h : X.K = K := by rfl) : MtR X "list.count" (rCntI K) := h ▸ mt_lcount
theorem korT {E : Expr} {ta tb : TE} (p : PE X E (tOrT X.K ta tb)) (h : X.K = K := by rfl) : PE X E (tOrT K ta tb) := h ▸ p
end
section
variable {σ : L2.St} {H : Hp} {Q : VK} {K : PySem.W.Frag}
theorem ckw {r : List V → List V → Hp → VK → Prop} {t tk : TA} (h : t σ H fun vs H1 => tk σ H1 fun zs H2 => r vs zs H2 Q) : tCKw r t tk σ H Q := h
theorem izip {tl : TA} {R : It → Hp → Prop} (h : tl σ H fun vs H1 => ∃ a b xs ys, vs = [.ref a, .ref b] ∧ SqL K H1 a xs ∧ SqL K H1 b ys ∧ R (Itz K a b) H1) : iZip K tl σ H R := h
theorem lcn {p : Addr} {ns : List Int} {k : Int} (h : SqL K H p (ns.map V.int)) (q : Q (.int (ns.count k : Nat)) H) : rCntI K (.ref p) [.int k] H Q := ⟨p, ns, k, rfl, rfl, h, q⟩
theorem orT {ta tb : TE} (h : ta σ H fun x H1 => ∃ k, TruV K x H1 k ∧ if k = true then Q x H1 else tb σ H1 Q) : tOrT K ta tb σ H Q := h
end
end HS
/-! set(xs) of a list of ints, len and sorted of it. -/
namespace HS
open PySem PySem.Spec PyProof.Rows L2
/-- a set just made -/
abbrev set0 (w : World) : Obj := { cls := .type "set", dict := none, data := .set #[] 0 (.fresh 0 0 (!w.params.followText "set-order")) }
section
variable {P : Program} {w : World} {A : Around} {E : Value → Shared → Prop} {s : Shared}
set_option maxHeartbeats 3200000 in
theorem set_of_list {l : Addr} {xs : Array Value} (ns : List Int) {Q : Value → Shared → Prop} (calm : A.handled = none) (isl : s.heap.IsList l xs) (jnts : IntsAre xs.toList ns) (few : ns.length + 1 < scanBound)
    (k : ∀ (g : Heap) (tk c : Nat), SetR w g s.heap.objs.size (fun j => decide (j ∈ ns)) c → (∀ b o, s.heap.get? b = some o → g.get? b = some o) → Q (.ref s.heap.objs.size) { s with heap := g, toks := tk }) :
    wpAny (model P w) A (call (.type "set") [.ref l]) Q E s := by
  have len : xs.size = ns.length := by rw [← Array.length_toList]; exact IntsAre.length jnts
  have m1 := F.called_set.mro
  have m2 := F.called_set.made
  have m3 := F.called_set.sub
  have m4 := F.called_set.notType
  have m5 := F.called_set.canCreate
  have m6 := F.typeCall_set_1 (.ref l)
  obtain ⟨_, _, m1⟩ := m1
  apply wpAny_call
  apply codeAny_of_tree
  show wpAny _ _ (callAny (.type "set") _) _ _ _
  refine wpAny_pure ⟨Code.quiet_builtin _ (by decide +kernel), codeAny_builtin F.entry_type_call ?_⟩
  rw [Around.under_plain (weight_type_call_type "set" [.ref l] []) rfl]
  repeat any_goals first | assumption | wp_step
  let h1 := s.heap.push (set0 w)
  refine codeAny_mono (code_set_led1 (.ref l) (E := E) (Q₁ := fun v t => v = .ref s.heap.objs.size ∧ t = { s with heap := h1 }) ⟨rfl, rfl⟩) ?_
  rintro (e | v | _ | _ | _) t ht <;> first | exact ht | exact ht.elim | skip
  obtain ⟨rfl, rfl⟩ := ht
  have at0 : h1.get? s.heap.objs.size = some (set0 w) := Heap.get?_push_size _ rfl
  have ty0 : Shared.TypeIs { s with heap := h1 } (.ref s.heap.objs.size) "set" := ⟨_, at0, rfl⟩
  have m7 := F.called_set.init.lookup
  have m8 := F.called_set.init.bind (.ref s.heap.objs.size)
  repeat any_goals first | assumption | wp_step
  refine codeAny_mono (codeAny_call_builtin (R := wants (fun v t => v = .none ∧ ∃ g tk c, t = { s with heap := g, toks := tk } ∧ SetR w g s.heap.objs.size (fun j => decide (j ∈ ns)) c ∧ ∀ b o, s.heap.get? b = some o → g.get? b = some o) E)
    F.called_set.init.plain F.entry_set_init (check_set_init_1 ty0 ?_)) ?_
  · obtain ⟨⟨c, d, dat, sl⟩, e1, e2, n1, e3⟩ := isl
    dsimp only at e2 e3
    subst e2 e3
    have e4 : h1.get? l = some { cls := .type "list", dict := d, data := .seq xs n1, slots := sl } := Heap.get?_push_of_some _ e1
    have s1 := F.sub_list_set
    have s2 := F.sub_list_frozenset
    have s3 : (Value.type "list" == Value.type "dict") = false := by decide
    have isl1 : h1.IsList l xs := ⟨_, e4, rfl, n1, rfl⟩
    have lo : l < s.heap.objs.size := Heap.lt_size e1
    have sz : h1.objs.size = s.heap.objs.size + 1 := Heap.size_push ..
    unfold Builtin.«set.__init__» noKeywords Builtin.Frozenset.updateFrom
    generalize hIt : pyIter = It
    wp_walk
    subst hIt
    refine wpAny_pyIter_list isl1 (wpAny_bind (wpAny_runValue ?_))
    have c3 : A.in1.in1.in1.handled = none := by simp [calm]
    have d1 : l ≠ h1.objs.size := by rw [sz]; exact Nat.ne_of_lt (Nat.lt_succ_of_lt lo)
    have d2 : s.heap.objs.size ∉ [h1.objs.size, l] := by
      intro z
      rcases List.mem_cons.mp z with z | z
      · rw [sz] at z; exact absurd z (Nat.ne_of_lt (Nat.lt_succ_self _))
      · rw [List.mem_singleton] at z; exact absurd z (Nat.ne_of_gt lo)
    have val : ∀ (i : Nat) (v : Value), xs[i]? = some v → ∃ x t, ns[i]? = some x ∧ v = .int x t := by
      intro i v hv
      have hi : i < ns.length := by rw [← len]; exact (Array.getElem?_eq_some_iff.mp hv).1
      obtain ⟨t, e⟩ := IntsAre.int_at jnts i v (by rw [Array.getElem?_toList]; exact hv)
      rw [List.getD_eq_getElem?_getD, List.getElem?_eq_getElem hi, Option.getD_some] at e
      exact ⟨_, t, List.getElem?_eq_getElem hi, e⟩
    refine set_update_ints ((Walks.list c3 _ l d1 xs).toS) s.heap.objs.size d2 ns len few val (xs.size - 0) 0 _ (by omega) (Nat.zero_le _) ⟨⟨_, Heap.get?_push_size _ rfl, rfl, rfl⟩, isl1.push _⟩ ⟨0, Nat.le_refl 0, setR_new_at (Heap.get?_push_of_some _ at0)⟩ ?_
    intro t c mv _ R
    obtain ⟨g, g2, g3, tk, g4⟩ := t
    have q1 : g2 = s.gens := mv.gens
    have q2 : g3 = s.drawn := mv.drawn
    have q3 : g4 = s.os := mv.os
    subst q1 q2 q3
    show wpAny _ _ _ _ _ _
    refine wpAny_pure ?_
    show wpAny _ _ (PySem.ret Value.none) _ _ _
    refine wpAny_pure ⟨rfl, g, tk, c, rfl, R, fun b o e => ?_⟩
    have bl : b < s.heap.objs.size := Heap.lt_size e
    refine mv.heap b o ?_ (Heap.get?_push_of_some _ (Heap.get?_push_of_some _ e))
    intro z
    rcases List.mem_cons.mp z with z | z
    · exact absurd z (Nat.ne_of_lt bl)
    · rw [List.mem_singleton] at z
      have z : b = h1.objs.size := z
      rw [sz] at z
      exact absurd z (Nat.ne_of_lt (Nat.lt_succ_of_lt bl))
  · rintro (e | v | _ | _ | _) t ht <;> first | exact ht | exact ht.elim | skip
    obtain ⟨rfl, g, tk, c, rfl, R, up⟩ := ht
    repeat any_goals first | assumption | wp_step
    exact k _ _ _ R up
theorem sorted_of_set {a : Addr} {S : Int → Bool} {n : Nat} {Q : Value → Shared → Prop} (R : SetR w s.heap a S n) (calm : A.handled = none)
    (k : ∀ t p (out : Array Value) (c : Nat) (ns : List Int), (∀ b o, s.heap.get? b = some o → t.heap.get? b = some o) → t.gens = s.gens → t.os = s.os → s.heap.objs.size ≤ p → t.heap.get? p = some (seqObj "list" out c) →
      IntsAre out.toList ns → ns.Pairwise (· ≤ ·) → ns.Nodup → (∀ j, j ∈ ns ↔ S j = true) → ns.length = n → Q (.ref p) t) : wpAny (model P w) A (call (.builtin "sorted") [.ref a]) Q E s := by
  obtain ⟨o, es, ep, tb, ho, ex, hd, good, nd, mem, few, fit, cnt, ris, led⟩ := R
  apply Calls.call_function_entry kind_sorted plain_sorted entry_sorted (args_sorted1 _)
  unfold Builtin.«sorted»
  refine wpAny_bind (m := checkCount "sorted" 1 1 _) (wpAny_pure (wpAny_bind (collect_set (A := A.in1) calm ⟨o, ho, ex.1, hd⟩ fit few ris led fun t vs up big eg eo pm => ?_)))
  have lv : vs.length = n := by rw [pm.length_eq, List.length_map, Array.length_toList]; exact cnt
  have jnts : IntsAre vs (vs.map Builtin.Re.reRawOf) := ints_of vs fun v hv => by
    obtain ⟨e, he, rfl⟩ := List.mem_map.mp (pm.mem_iff.mp hv)
    obtain ⟨x, tk, h1, _⟩ := good e he
    exact ⟨x, tk, h1⟩
  have pk : (vs.map Builtin.Re.reRawOf).Perm (es.toList.map keyOf) := by
    have := pm.map Builtin.Re.reRawOf
    rwa [List.map_map] at this
  have szv : vs.length ≤ sizeLine := by rw [lv, sizeLine_eq]; unfold scanBound at few; omega
  refine wpAny_bind (wpAny_newList ?_ szv)
  have atL : (t.heap.push (seqObj "list" vs.toArray 0)).get? t.heap.objs.size = some (seqObj "list" vs.toArray 0) := Heap.get?_push_size _ rfl
  refine wpAny_bind (wpAny_holding (wpAny_call_entry slot_list_sort ⟨_, atL, rfl⟩ entry_list_sort (SrtO.list_sort_ord SrtO.swo_int atL szv (fun h2 => SrtO.ints_sortable jnts h2) fun out h1 h2 => ⟨_, rfl, ?_⟩) (args_list_sort _)))
  obtain ⟨j1, j2, j3⟩ := SrtO.ints_out jnts h1 h2
  obtain ⟨c, hc⟩ := sortedHeap_at (vs := vs) (out := out.toArray) atL
  have pn := j2.trans pk
  refine wpAny_pure ⟨_, rfl, k _ t.heap.objs.size out.toArray c _ (fun b u e => ?_) eg eo big hc j1 j3 (pn.nodup_iff.mpr nd) (fun x => by rw [pn.mem_iff, ← mem x]) (by rw [pn.length_eq, List.length_map, Array.length_toList]; exact cnt)⟩
  have q := up b u e
  have lt := Heap.lt_size q
  show (sortedHeap (t.heap.push (seqObj "list" vs.toArray 0)) t.heap.objs.size vs out.toArray).get? b = some u
  rw [sortedHeap_old (Nat.ne_of_lt lt) (by rw [size_push']; exact Nat.lt_succ_of_lt lt)]
  exact Heap.get?_push_of_some _ q
end
/-- the different numbers, ascending -/
def dd : List Int → List Int
  | [] => []
  | x :: r => if x ∈ r then dd r else x :: dd r
theorem dd_mem {x : Int} : ∀ {l : List Int}, x ∈ dd l ↔ x ∈ l
  | [] => Iff.rfl
  | y :: r => by
    unfold dd
    by_cases c : y ∈ r
    · rw [if_pos c, dd_mem, List.mem_cons]
      exact ⟨.inr, fun h => h.elim (fun e => by rw [e]; exact c) id⟩
    · rw [if_neg c, List.mem_cons, List.mem_cons, dd_mem]
theorem dd_nodup : ∀ l : List Int, (dd l).Nodup
  | [] => List.nodup_nil
  | y :: r => by
    unfold dd
    by_cases c : y ∈ r
    · rw [if_pos c]; exact dd_nodup r
    · rw [if_neg c, List.nodup_cons]
      exact ⟨fun z => c (dd_mem.mp z), dd_nodup r⟩
def dst (l : List Int) : List Int := asc (dd l)
theorem dst_mem {l : List Int} {x : Int} : x ∈ dst l ↔ x ∈ l := by unfold dst; rw [asc_mem, dd_mem]
theorem dst_nodup (l : List Int) : (dst l).Nodup := (asc_perm (dd l)).nodup_iff.mpr (dd_nodup l)
theorem dd_len : ∀ l : List Int, (dd l).length ≤ l.length
  | [] => Nat.le_refl _
  | y :: r => by
    unfold dd
    have := dd_len r
    split
    · rw [List.length_cons]; omega
    · rw [List.length_cons, List.length_cons]; omega
theorem dst_len (l : List Int) : (dst l).length ≤ l.length := by unfold dst; rw [asc_len]; exact dd_len l
theorem perm_of_mem {xs ys : List Int} (h1 : xs.Nodup) (h2 : ys.Nodup) (h : ∀ x, x ∈ xs ↔ x ∈ ys) : xs.Perm ys := by
  rw [List.perm_iff_count]
  intro x
  rw [List.Nodup.count h1, List.Nodup.count h2]
  by_cases c : x ∈ xs
  · rw [if_pos c, if_pos ((h x).mp c)]
  · rw [if_neg c, if_neg fun z => c ((h x).mpr z)]
theorem dst_of {xs l : List Int} (h1 : xs.Nodup) (h2 : xs.Pairwise (· ≤ ·)) (h : ∀ x, x ∈ xs ↔ x ∈ l) : xs = dst l :=
  asc_of (perm_of_mem h1 (dd_nodup l) fun x => by rw [h, dd_mem]) h2
theorem dst_same {xs ys : List Int} (h : ∀ x, x ∈ xs ↔ x ∈ ys) : dst xs = dst ys := dst_of (dst_nodup xs) (asc_pair _) fun x => by rw [dst_mem, h]
/-- a set of the numbers of a list, by what it holds -/
def rSet (w : World) (K : PySem.W.Frag) : List V → Hp → VK → Prop := fun vs H Q => ∃ a ns, vs = [.ref a] ∧ SqL K H a (ns.map V.int) ∧ ns.length ≤ 4000 ∧ ∀ p, H p = none → Q (.ref p) (upd H p (SetO w p (fun j => decide (j ∈ ns)) (dst ns).length))
def rSortS (w : World) : List V → Hp → VK → Prop := fun vs H Q => ∃ a ns, vs = [.ref a] ∧ H a = some (SetO w a (fun j => decide (j ∈ ns)) (dst ns).length) ∧ ∀ H' p, Keep (fun _ => False) H H' → H p = none → H' p = some (.lst ((dst ns).map V.int)) → Q (.ref p) H'
def rLenS (w : World) : List V → Hp → VK → Prop := fun vs H Q => ∃ a S n, vs = [.ref a] ∧ H a = some (SetO w a S n) ∧ Q (.int (n : Nat)) H
theorem setR_count {w : World} {h : Heap} {a : Addr} {ns : List Int} {n : Nat} (R : SetR w h a (fun j => decide (j ∈ ns)) n) : n = (dst ns).length := by
  obtain ⟨o, es, ep, tb, ho, ex, hd, good, nd, mem, few, fit, cnt, ris, led⟩ := R
  have p : (es.toList.map keyOf).Perm (dst ns) := perm_of_mem nd (dst_nodup ns) fun x => by rw [← mem x, dst_mem]; simp
  rw [← p.length_eq, List.length_map, Array.length_toList]; exact cnt.symm
section
variable {X : Cx} (K : PySem.W.Frag)
theorem kset (w : World) (hc : X.calm = true) (h : X.K = K := by rfl) (hw : X.w = w := by rfl) : CallR X (.type "set") (rSet w K) := by
  subst h hw
  intro pins s σ H xs us Q I r ⟨a, ns, e, hs, hl, k⟩
  subst e
  rw [Vals.ref1 r]
  obtain ⟨its, rv, pl, hz⟩ := I.list hs
  refine set_of_list ns (I.ok.hd hc) pl.isList rv.ints (by unfold scanBound; omega) fun g tk c R up => ?_
  rw [setR_count R] at R
  exact ⟨.ref _, upd H s.heap.objs.size (SetO X.w s.heap.objs.size (fun j => decide (j ∈ ns)) (dst ns).length), I.laid (t' := tk) up (Nat.le_refl _) (setO_new R), rfl, k _ (I.hok.fresh (Nat.le_refl _))⟩
theorem ksortS (w : World) (hc : X.calm = true) (hw : X.w = w := by rfl) : CallR X (.builtin "sorted") (rSortS w) := by
  subst hw
  intro pins s σ H xs us Q I r ⟨a, ns, e, ha, k⟩
  subst e
  rw [Vals.ref1 r]
  refine sorted_of_set (setO_get I ha) (I.ok.hd hc) fun t p out c ms up eg eo big at1 jnts pw nd mem cnt => ?_
  have free : H p = none := I.hok.fresh big
  have em : ms = dst ns := dst_of nd pw fun x => by rw [mem x]; simp
  subst em
  have lz : ((dst ns).map V.int).length ≤ sizeLine := by
    rw [List.length_map, cnt, sizeLine_eq]
    obtain ⟨o, es, ep, tb, _, _, _, _, _, _, few, _, cnt2, _⟩ := setO_get I ha
    unfold scanBound at few
    omega
  have J : Inv X pins σ (upd H p (.lst ((dst ns).map V.int))) { s with heap := t.heap, gens := t.gens, drawn := t.drawn, toks := t.toks } :=
    I.call (ch := []) (Un.laid up big free) (I.hok.laid up big ⟨lz, out.toList, c, vals_of_ints jnts, at1⟩) (by rw [eg]; exact I.bare) nofun
  have et : t = { s with heap := t.heap, gens := t.gens, drawn := t.drawn, toks := t.toks } := by
    obtain ⟨_, _, _, _, _⟩ := t
    obtain ⟨_, _, _, _, _⟩ := s
    cases eo
    rfl
  rw [et]
  exact ⟨.ref p, _, J, rfl, k _ p (Keep.new free) free upd_same⟩
theorem klenS (w : World) (hw : X.w = w := by rfl) : CallR X (.builtin "len") (rLenS w) := by
  subst hw
  intro pins s σ H xs us Q I r ⟨a, S, n, e, ha, k⟩
  subst e
  rw [Vals.ref1 r]
  obtain ⟨o, es, ep, tb, ho, ex, hd, _, _, _, few, fit, cnt, _⟩ := setO_get I ha
  refine call_len_set ho ex hd fit (by unfold scanBound at few; omega) ⟨.int n, H, I.tok _, ⟨_, by rw [cnt]⟩, k⟩
end
end HS
/-! Powers of great numbers, [x] * n. -/
namespace HS
open PySem PySem.Spec PyProof.Rows L2
def CPowW (i j : Int) : Prop := 0 ≤ j ∧ (Builtin.Int.intBits i : Int) * j ≤ 2 ^ 27
section
variable {X : Cx} {σ : L2.St} {H : Hp} {Q : VK}
theorem op_powW : OpR X (binaryOp .Pow) (rI CPowW fun i j => .int (i ^ j.toNat)) := opI fun _ _ _ _ _ _ _ hc q => pow_int hc.1 hc.2 q
theorem bits_le {i : Int} (k : Nat) (h0 : 0 ≤ i) (h : i < 2 ^ k) : Builtin.Int.intBits i ≤ k := by
  unfold Builtin.Int.intBits
  by_cases z : i = 0
  · subst z; exact Nat.zero_le _
  · rw [if_neg (by simpa using z)]
    have z' : i.natAbs ≠ 0 := by omega
    have : i.natAbs.log2 < k := (Nat.log2_lt z').mpr (by
      have : ((i.natAbs : Nat) : Int) < ((2 ^ k : Nat) : Int) := by rw [Int.natAbs_of_nonneg h0]; simpa using h
      exact Int.ofNat_lt.mp this)
    omega
theorem powW {i : Int} (k : Nat) {j : Int} (h0 : 0 ≤ i) (h : i < 2 ^ k) (hj : 0 ≤ j) (hk : (k : Int) * j ≤ 2 ^ 27) : CPowW i j := by
  refine ⟨hj, Int.le_trans (Int.mul_le_mul_of_nonneg_right ?_ hj) hk⟩
  exact Int.ofNat_le.mpr (bits_le k h0 h)
theorem flat_one {v : V} : ∀ n : Nat, (List.replicate n [v]).flatten = List.replicate n v
  | 0 => rfl
  | n + 1 => by rw [List.replicate_succ, List.flatten_cons, flat_one n]; rfl
theorem rep1 {p : Addr} {v : V} {k : Int} (h : H p = some (.lst [v])) (hk : k ≤ 1000000) (h0 : 0 ≤ k) (q : ∀ p, H p = none → Q (.ref p) (upd H p (.lst (List.replicate k.toNat v)))) : rRep (.ref p) (.int k) H Q := by
  refine ⟨p, k, _, rfl, rfl, h, by omega, by omega, ?_, fun p hp => ?_⟩
  · rw [List.length_singleton, sizeLine_eq]; omega
  · rw [flat_one]; exact q p hp
end
end HS
/-! Own classes: a field, a stored field, a method, a property, a new object, from the head. -/
namespace HS
open PySem PySem.Spec PyProof.Rows L2
section
variable {σ : L2.St} {H : Hp} {Q : VK} {ta tv : TE} {t : TA} {K : PySem.W.Frag} {f : Str} {n bk ct : L2.St → Hp → Prop} {rt : VK} {C : Addr} {sp : Sp} {dvs : List V} {E : XK}
theorem ofld (h : ta σ H fun x H1 => ∃ a C dx fs v, x = .ref a ∧ H1 a = some (.ins C dx fs) ∧ Cls K C ∧ NoAttr K C f ∧ fs.lookup f = some v ∧ Q v H1) : tFld K ta f σ H Q := h
theorem osfl (h : tv σ H fun y H1 => ta σ H1 fun x H2 => ∃ a C dx fs, x = .ref a ∧ H2 a = some (.ins C dx fs) ∧ Cls K C ∧ NoAttr K C f ∧ fs.length < 1000 ∧ n σ (upd H2 a (.ins C dx (putF f y fs)))) : sFld K ta tv f ⟨n, rt, bk, ct⟩ σ H := h
theorem omet (h : ta σ H fun x H1 => ∃ a dx fs, x = .ref a ∧ H1 a = some (.ins C dx fs) ∧ fs.lookup f = none ∧ t σ H1 fun vs H2 => sp (x :: (vs ++ dvs)) H2 Q E) : tMeth C f sp dvs E ta t σ H Q := h
theorem opro (h : ta σ H fun x H1 => ∃ a dx fs, x = .ref a ∧ H1 a = some (.ins C dx fs) ∧ sp (.ref a :: dvs) H1 Q E) : tProp C sp dvs E ta σ H Q := h
theorem omak (h : t σ H fun vs H1 => ∀ x dx, H1 x = none → H1 dx = none → dx ≠ x → sp (.ref x :: (vs ++ dvs)) (upd (upd H1 dx (.own x)) x (.ins C dx [])) (fun v H2 => v = .non ∧ Q (.ref x) H2) E) : tMake C sp dvs E t σ H Q := h
end
end HS
/-! An exception that is kept behind its suite; methods and classes called where an exception may come. -/
namespace HS
open PySem PySem.Spec PyProof.Rows L2
/-- at a: an exception of this class that was caught -/
def exh (a : Addr) (cls : Value) (d : Option Addr) : HO := .ext fun h => ∃ (oe : Obj) (vs : Array Value), h.get? a = some oe ∧ oe.cls = cls ∧ oe.dict = d ∧ oe.data = .fields vs
theorem exh_ok {P : Program} {w : World} {H : Hp} {h : Heap} {a : Addr} {cls : Value} {d : Option Addr} {oe : Obj} {vs : Array Value} (e : h.get? a = some oe) (z : Zc cls d oe) (f : oe.data = .fields vs) : ObjOk P w H h a (exh a cls d) :=
  ⟨⟨oe, vs, e, z.1, z.2, f⟩, ⟨oe, e⟩, fun _ _ ⟨o, v, q, r⟩ k => ⟨o, v, k o q, r⟩⟩
/-- a caught exception that stands in the heap, with its fields -/
def Exh (H : Hp) (a C : Addr) (fs : List (Str × V)) : Prop := ∃ d, H a = some (exh a (.ref C) (some d)) ∧ H d = some (.xd fs)
theorem Exh.keep {S : Addr → Prop} {H H' : Hp} {a C : Addr} {fs : List (Str × V)} (h : Exh H a C fs) (k : Keep S H H') (ha : ¬ S a) (hd : ∀ d, H d = some (.xd fs) → ¬ S d) : Exh H' a C fs := by
  obtain ⟨d, e1, e2⟩ := h
  exact ⟨d, k _ _ e1 ha, k _ _ e2 (hd d e2)⟩
theorem Exh.same {H H' : Hp} {a C : Addr} {fs : List (Str × V)} (h : Exh H a C fs) (k : Keep (fun _ => False) H H') : Exh H' a C fs := h.keep k id fun _ _ => id
theorem Exh.new {H : Hp} {a C p : Addr} {fs : List (Str × V)} {o : HO} (h : Exh H a C fs) (hp : H p = none) : Exh (upd H p o) a C fs := h.same (Keep.new hp)
/-- an object that stands in the state, made behind the entry, is tracked from now on -/
theorem track {X : Cx} {pins : List (Addr × Obj)} {σ : L2.St} {H : Hp} {s : Shared} {a : Addr} {o : HO} (I : Inv X pins σ H s) (na : H a = none) (n0 : X.s_0.heap.get? a = none) (nL : a ≠ X.env.locals)
    (nC : ∀ x c, X.env.cells.lookup x = some c → c ≠ a) (nP : ∀ p ∈ X.pn ++ pins, p.1 ≠ a) (new : ObjOk X.prog X.w (upd H a o) s.heap a o) : Inv X pins σ (upd H a o) s := by
  refine ⟨I.ok, I.os, I.bare, ⟨I.base.keep, I.base.slot, fun b u e n hx => ?_, I.base.there, fun b xs e => ?_, fun b u xs e => ?_, fun b ps e => ?_⟩, I.loc, I.cell, ?_, fun x c e => ?_, fun p hp => ?_, fun b u e => ?_, I.len⟩
  · rw [upd_ne (fun z => by rw [z, n0] at e; cases e)]; exact I.base.free b u e n hx
  · have q := I.base.tups b xs e; rw [upd_ne (ne_of_none q na)]; exact q
  · have q := I.base.frzs b u xs e; rw [upd_ne (ne_of_none q na)]; exact q
  · obtain ⟨m, q⟩ := I.base.tbls b ps e; exact ⟨m, by rw [upd_ne (ne_of_none q na)]; exact q⟩
  · rw [upd_ne (Ne.symm nL)]; exact I.free
  · rw [upd_ne (nC x c e)]; exact I.freeC x c e
  · obtain ⟨e, n, r⟩ := I.pin p hp; exact ⟨e, by rw [upd_ne (nP p hp)]; exact n, r⟩
  · by_cases hb : b = a
    · subst hb; rw [upd_same] at e; cases e; exact new
    · rw [upd_ne hb] at e
      exact (I.hok b u e).stay (fun c v _ q => q) (fun c q => by rw [upd_ne (ne_of_none q na)]; exact q) fun c xs q => by rw [upd_ne (ne_of_none q na)]; exact q
theorem unsuite1 {X : Cx} {pins pn' : List (Addr × Obj)} {σ : L2.St} {H : Hp} {s : Shared} {a : Addr} {q : Addr × Obj} (I : Inv (X.suite a (q :: (X.pn ++ pins))) pn' σ H s) (ok : X.Ok) : Inv X (q :: pins) σ H s :=
  ⟨ok, I.os, I.bare, I.base, I.loc, I.cell, I.free, I.freeC, fun p hp => I.pin p (List.mem_append_left _ (by
    rcases List.mem_append.mp hp with h | h
    · exact List.mem_cons_of_mem _ (List.mem_append_left _ h)
    · rcases List.mem_cons.mp h with e | h
      · rw [e]; exact List.mem_cons_self
      · exact List.mem_cons_of_mem _ (List.mem_append_right _ h))), I.hok, I.len⟩
/-- what the clause wishes of an exception of the body: behind the suite's end the exception stands in the heap -/
def wKeep (K : PySem.W.Frag) (c : Value) (i : Nat) (ts : Addr → Value → Option Addr → TS) (Wout : WX) (D : Ends) : WX := fun cls d σ H =>
  ∃ b, PySem.W.exmOne K cls c = some b ∧ (b = true → ∀ a, H a = none → ts a cls d { nx := fun σ' H' => H' a = none → D.nx (σ'.set i none) (upd H' a (exh a cls d)), rt := D.rt, bk := fun σ' H' => D.bk (σ'.set i none) H', ct := fun σ' H' => D.ct (σ'.set i none) H' } (σ.set i (some (.ref a))) H) ∧
    (b = false → Wout cls d σ H)
section
variable {X : Cx} {x n : Str} {c : Value} {i : Nat} {body suite : List Stmt} {b₀ : Stmt} {np pos pos' : Pos} {tb : WX → TS} {ts : Addr → Value → Option Addr → TS} {Wout : WX}
theorem ps_try_keep (hs : X.stack = X.env :: X.outer) (hf : X.env.frame = some X.env.locals) (hN : X.N.Nodup) (hi : X.N[i]? = some n) (hln : X.env.kindOf n = some .local) (hc : Names X x c) (tk : Takes X Wout)
    (hb : ∀ (W : WX) (pn : List (Addr × Obj)) (xe : Value → Shared → Prop), Takes (X.tr pn xe) W → PassesOwn (model X.prog X.w) X.A X.env xe → PSs (X.tr pn xe) body (tb W))
    (hsu : ∀ (a : Addr) (oe : Obj) (cls : Value) (d : Option Addr) (pn : List (Addr × Obj)), Zc cls d oe → (∃ vs, oe.data = .fields vs) → PSs (X.suite a ((a, oe) :: pn)) (b₀ :: suite) (ts a cls d))
    (hex : X.ex = [] := by rfl) :
    PS X (.Try body [.ExceptHandler (some (.Name x np)) (some n) (b₀ :: suite) pos'] [] [] pos) (fun D σ H => tb (wKeep X.K c i ts Wout D) D σ H) := by
  refine ⟨fun pins s σ H D I hw => ?_⟩
  have ok := I.ok
  have fr0 : X.A.frames = some (X.env :: X.outer) := by rw [ok.frames, hs]
  have loc0 : Loc X.env.scope n := .inl hln
  refine wpAny_Try_except ?_
  refine wpAny_mono ((hb (wKeep X.K c i ts Wout D) (X.pn ++ pins) (fun e s₁ => wpAny (model X.prog X.w) X.A (noteFrame e X.env) (fun _ s₂ => wpAny (model X.prog X.w) X.A (setFlight e none) (fun _ s₃ =>
    wpAny (model X.prog X.w) X.A (handleBy e X.env [.ExceptHandler (some (.Name x np)) (some n) (b₀ :: suite) pos']) (SP X pins D) X.xe s₃) X.xe s₂) X.xe s₁) (fun u s' xx => ?_) PassesOwn.looking).run [] s σ H D (I.toTry _) hw) (fun f s1 hsp => ?_) (fun e s1 he => he)
  · obtain ⟨a, B, sI, pins', σ', H', cls, d, rfl, J', nb, up, sky, na, os, ag, b, hb1, hyes, hno⟩ := xx
    have J : Inv X pins σ' H' sI := J'.ofTry ok
    have sky' : Sky B (X.env :: X.outer) a (Zc cls d) X.env.locals s'.heap := by rw [← hs]; exact sky
    show wpAny (model X.prog X.w) X.A (noteFrame (.ref a) X.env) _ _ _
    refine Sky.land Zc.steady fr0 hf sky' fun h3 fl3 up3 => ?_
    have J3 : Inv X pins σ' H' { s' with heap := h3 } := J.landed nb fl3.1 (up.trans up3) os ag
    obtain ⟨oe3, vs3, he3, hz3, hd3⟩ := fl3.there
    have nfr : a ∉ frs (X.env :: X.outer) := fun hm => by
      obtain ⟨_, o', e', hnf⟩ := fl3.2.2.1.mem hm
      rw [he3] at e'; cases e'
      exact hnf _ hd3
    have nL : a ≠ X.env.locals := fun z => nfr (List.mem_filterMap.mpr ⟨X.env, List.mem_cons_self, by rw [hf, z]⟩)
    have nF : a ∉ X.fs := fun hm => by
      obtain ⟨e, he, q⟩ := List.mem_filterMap.mp hm
      exact nfr (List.mem_filterMap.mpr ⟨e, List.mem_cons_of_mem _ he, q⟩)
    have nI : sI.heap.get? a = none := by
      cases q : sI.heap.get? a with
      | none => rfl
      | some o =>
        have z := nb a o q (by rw [hs]; exact nfr)
        rw [fl3.2.1] at z; cases z
    have n0 : X.s_0.heap.get? a = none := by
      cases q : X.s_0.heap.get? a with
      | none => rfl
      | some o =>
        obtain ⟨o', z⟩ := J.base.there a o q (by rw [hex]; exact fun z => nomatch z)
        rw [nI] at z; cases z
    have S3 := J3.suite he3 hd3 na nL nF
    refine wpAny_handleBy_cons (codeAny_handlers_test ?_) (by intro q; cases q)
    have LT : PySem.W.Looks (model X.prog X.w) h3 (typeOf (.ref a)) cls := fun A Q E s k q => wpAny_typeOf_ref (k _ _ he3) (by rw [hz3.1]; exact q)
    have LM := PySem.W.exm_one (M := model X.prog X.w) (J3.kIn) LT hb1
    have test : ∀ {Q : Value → Shared → Prop} {E : Value → Shared → Prop}, Q c { s' with heap := h3 } → wpAny (model X.prog X.w) (X.A.mark (some (.ref a))) (eval (.Name x np) X.env) Q E { s' with heap := h3 } := fun {Q E} q => by
      obtain ⟨hg, hdbg, hm | ⟨hm, hv, hnn⟩⟩ := hc
      · exact ld_glob (X := X.suite a ((a, oe3) :: (X.pn ++ pins))) S3 hg hm q hdbg
      · exact ld_blt (X := X.suite a ((a, oe3) :: (X.pn ++ pins))) S3 hg hm hv q hnn hdbg
    refine test (LM.here ?_)
    cases b with
    | true =>
      refine codeAny_handlers_suite_as ?_
      refine HandSPX.lands_againZ fl3 fun h4 fl4 up4 => ?_
      have J4 : Inv X pins σ' H' { s' with heap := h4 } := J.landed nb fl4.1 ((up.trans up3).trans up4) os ag
      obtain ⟨oe4, vs4, he4, hz4, hd4⟩ := fl4.there
      have S4 := J4.suite he4 hd4 na nL nF
      refine store_ok (X := X.suite a ((a, oe4) :: (X.pn ++ pins))) (v := .ref a) S4 hN hi loc0 rfl (fun s5 S5 => ?_) (.inr hln)
      refine wpAny_mono ((hsu a oe4 cls d (X.pn ++ pins) hz4 ⟨_, hd4⟩).run [] s5 _ H' _ S5 (hyes rfl a na)) (fun f s6 hsp => ?_) (fun _ _ z => False.elim z)
      have fin : ∀ {σ6 : L2.St} {H6 : Hp} {Q : Shared → Prop}, Inv (X.suite a ((a, oe4) :: (X.pn ++ pins))) [] σ6 H6 s6 → (∀ s7, Inv X ((a, oe4) :: pins) (σ6.set i none) H6 s7 → Q s7) →
          wpAny (model X.prog X.w) X.A (do bindName X.env n .none; unbindBehindTheSuite X.env n pos') (fun _ s7 => Q s7) X.xe s6 := fun {σ6 H6 Q} S6 hq => gone_ok (unsuite1 S6 ok) hN hi hln hq
      have less : ∀ {σ7 : L2.St} {H7 : Hp} {s7 : Shared}, Inv X ((a, oe4) :: pins) σ7 H7 s7 → Inv X pins σ7 H7 s7 := fun J7 => ⟨J7.ok, J7.os, J7.bare, J7.base, J7.loc, J7.cell, J7.free, J7.freeC, fun p hp => J7.pin p (by
        rcases List.mem_append.mp hp with h | h
        · exact List.mem_append_left _ h
        · exact List.mem_append_right _ (List.mem_cons_of_mem _ h)), J7.hok, J7.len⟩
      cases f with
      | next =>
        obtain ⟨σ6, H6, S6, q6⟩ := hsp
        refine fin S6 fun s7 J7 => ?_
        obtain ⟨g1, g2, _⟩ := J7.pin (a, oe4) (List.mem_append_right _ List.mem_cons_self)
        refine ⟨_, _, track (less J7) g2 n0 nL (fun x c e z => ?_) (fun p hp z => ?_) (exh_ok g1 hz4 hd4), q6 g2⟩
        · obtain ⟨v, o, ho, hd⟩ := J7.cell x c e
          rw [z, g1] at ho; cases ho
          rw [hd4] at hd; cases hd
        · have P1 := (J.pin p hp).1
          rw [z, nI] at P1; cases P1
      | brk =>
        obtain ⟨σ6, H6, S6, q6⟩ := hsp
        exact fin S6 fun s7 J7 => ⟨_, _, less J7, q6⟩
      | cont =>
        obtain ⟨σ6, H6, S6, q6⟩ := hsp
        exact fin S6 fun s7 J7 => ⟨_, _, less J7, q6⟩
      | ret u =>
        obtain ⟨v6, σ6, H6, S6, r6, q6⟩ := hsp
        exact fin S6 fun s7 J7 => ⟨_, _, _, less J7, r6, q6⟩
    | false =>
      show wpAny _ X.A (handleBy (.ref a) X.env []) _ _ _
      refine wpAny_handleBy_nil ?_
      obtain ⟨k1, k2, k3, oe, vs, T, oT, ts', he, hz, hd, h1, hr⟩ := id fl3
      unfold PySem.passOn
      refine wpAny_bind (wpAny_field he hd h1 ?_)
      rw [if_neg (show ¬ ((Value.ref T == Value.none) = true) from by simp)]
      have gone : wpAny (model X.prog X.w) X.A (setFlight (.ref a) X.env.frame) (fun _ s4 => wpAny (model X.prog X.w) X.A (throw (.ref a) : Sem Flow) (SP X pins D) X.xe s4) X.xe { s' with heap := h3 } := by
        rw [hf]
        refine HandSPX.setFlight_upZ fl3 fun h4 hh4 up4 => wpAny_throw (tk _ _ ?_)
        exact ⟨a, B, sI, pins, σ', H', cls, d, rfl, J, nb, (up.trans up3).trans up4, .inr (.inr (by rw [hs]; exact hh4)), na, os, ag, hno rfl⟩
      first
        | exact wpAny_bind (wpAny_pure (wpAny_bind gone))
        | exact wpAny_bind gone
  · cases f with
    | next =>
      obtain ⟨σ', H', J', q⟩ := hsp
      exact wpAny_execs_nil ⟨σ', H', J'.ofTry ok, q⟩
    | brk =>
      obtain ⟨σ', H', J', q⟩ := hsp
      exact ⟨σ', H', J'.ofTry ok, q⟩
    | cont =>
      obtain ⟨σ', H', J', q⟩ := hsp
      exact ⟨σ', H', J'.ofTry ok, q⟩
    | ret u =>
      obtain ⟨v, σ', H', J', r, q⟩ := hsp
      exact ⟨v, σ', H', J'.ofTry ok, r, q⟩
end
/-! ### asked and read -/
theorem exh_at {X : Cx} {pins : List (Addr × Obj)} {σ : L2.St} {H : Hp} {s : Shared} {a D : Addr} {fs : List (Str × V)} (I : Inv X pins σ H s) (h : Exh H a D fs) :
    ∃ (oe : Obj) (od : Obj) (d : Addr) (mA : Str → Option Value), PySem.W.InstAt s.heap a oe D (some od) ∧ s.heap.Ns1 d mA ∧ (∀ f, RelO (fs.lookup f) (mA f)) := by
  obtain ⟨d, ea, ed⟩ := h
  have x1 : ObjOk X.prog X.w H s.heap a (.ext fun h => ∃ (oe : Obj) (vs : Array Value), h.get? a = some oe ∧ oe.cls = .ref D ∧ oe.dict = some d ∧ oe.data = .fields vs) := I.hok a _ ea
  obtain ⟨oe, vs, ho, hc, hdd, hv⟩ := x1.1
  have x2 : ObjOk X.prog X.w H s.heap d (.xd fs) := I.hok d _ ed
  obtain ⟨mA, hns, hr⟩ := x2
  obtain ⟨od, hod, _⟩ := lookIn_ns hns
  exact ⟨oe, od, d, mA, ⟨ho, hc, by unfold PySem.W.notCls; rw [hv] <;> rfl, by rw [hdd]; exact hod⟩, hns, hr⟩
def rIsX (K : PySem.W.Frag) : List V → Hp → VK → Prop := fun xs H Q => ∃ (a D : Addr) (fs : List (Str × V)) (c : V) (cv : Value) (b : Bool), xs = [.ref a, c] ∧ ExcC K D ∧ Exh H a D fs ∧ ClsV c cv ∧ PySem.W.kitOne K (.ref D) cv = some b ∧ Q (.bl b) H
theorem call_isX {X : Cx} : CallR X (.builtin "isinstance") (rIsX X.K) := by
  intro pins s σ H xs us Q I r hw
  obtain ⟨a, D, fs, c, cv, b, e0, T, hE, hcv, hb, q⟩ := hw
  subst e0
  match us, r with
  | [_, _], .cons rx (.cons rt .nil) =>
    cases rx
    have e1 := hcv.eq rt
    subst e1
    obtain ⟨oe, od, d, mA, here, _⟩ := exh_at I hE
    obtain ⟨cd, hcd, _⟩ := PySem.W.any_some T.hd
    exact PySem.W.kia_one (PySem.W.kitx_exc (by rw [hcd]; rfl) T.hg T.hk T.hs T.ha T.hn T.ht T.hm) I.kIn here hb (fun z => nomatch z) fun tk => ⟨.bl b, H, I.kept (t' := tk) fun _ _ z => z, rfl, q⟩
theorem kisX {X : Cx} (K : PySem.W.Frag) (h : X.K = K := by rfl) : CallR X (.builtin "isinstance") (rIsX K) := h ▸ call_isX
def tFldX (K : PySem.W.Frag) (f : Str) (te : TE) : TE := fun σ H Q => te σ H fun x H1 => ∃ (a C : Addr) (fs : List (Str × V)) (v : V), x = .ref a ∧ XfC K C ∧ PySem.W.findIn K (.ref C) f = some none ∧ Exh H1 a C fs ∧ fs.lookup f = some v ∧ Q v H1
theorem pe_fldX {X : Cx} {e : Expr} {te : TE} {pos : Pos} {f : Str} (he : PE X e te) (hb : attributeBase e f X.env (eval e X.env) = eval e X.env := by rfl) : PE X (.Attribute e f pos) (tFldX X.K f te) := by
  refine ⟨fun pins s σ H Q I hw => attr_of hb (thn (he.run pins s σ H _ I hw) fun u s1 ⟨x, H1, I1, rx, a, C, fs, v, e0, T, hno, ⟨d, ea, ed⟩, l, q⟩ => ?_)⟩
  subst e0
  cases rx
  have x1 : ObjOk X.prog X.w H1 s1.heap a (.ext fun h => ∃ (oe : Obj) (vs : Array Value), h.get? a = some oe ∧ oe.cls = .ref C ∧ oe.dict = some d ∧ oe.data = .fields vs) := I1.hok a _ ea
  obtain ⟨oe, vs, ho, hc, hdd, hv⟩ := x1.1
  have x2 : ObjOk X.prog X.w H1 s1.heap d (.xd fs) := I1.hok d _ ed
  obtain ⟨mA, hns, hr⟩ := x2
  obtain ⟨od, hod, hl⟩ := lookIn_ns hns
  obtain ⟨w, hw, rw'⟩ := RelO.some_of (v := v) (o := mA f) (by rw [← l]; exact hr f)
  have here : PySem.W.InstAt s1.heap a oe C (some od) := ⟨ho, hc, by unfold PySem.W.notCls; rw [hv] <;> rfl, by rw [hdd]; exact hod⟩
  exact HandSPX.exc_get I1.kIn here T.ga T.gg T.exC (PySem.W.findObj_own T.hdC hno rfl (by rw [hl, hw])) (handed_of rw') ⟨v, H1, I1.tok _, rw', q⟩
section
variable {K : PySem.W.Frag} {σ : L2.St} {H : Hp} {Q : VK} {a D C : Addr} {fs : List (Str × V)} {b : Bool} {te : TE} {f : Str}
theorem isX (T : ExcC K D) (he : Exh H a D fs) (hq : PySem.W.kitOne K (.ref D) (.ref C) = some b) (q : Q (.bl b) H) : rIsX K [.ref a, .ref C] H Q := ⟨a, D, fs, _, _, b, rfl, T, he, .own C, hq, q⟩
theorem isXt {n : String} (T : ExcC K D) (he : Exh H a D fs) (hq : PySem.W.kitOne K (.ref D) (.type n) = some b) (q : Q (.bl b) H) : rIsX K [.ref a, .ty n] H Q := ⟨a, D, fs, _, _, b, rfl, T, he, .ty n, hq, q⟩
theorem fldX (h : te σ H fun x H1 => ∃ (a C : Addr) (fs : List (Str × V)) (v : V), x = .ref a ∧ XfC K C ∧ PySem.W.findIn K (.ref C) f = some none ∧ Exh H1 a C fs ∧ fs.lookup f = some v ∧ Q v H1) : tFldX K f te σ H Q := h
end
end HS
namespace HS
open PySem PySem.Spec PyProof.Rows L2
/-! ### methods and classes that may raise, called where the slots are known -/
def tMethS (C : Addr) (m : Str) (sp : Sp) (E : L2.St → XK) (ta : TE) (t : TA) : TE := fun σ H Q => ta σ H fun x H1 => ∃ a dx fs, x = .ref a ∧ H1 a = some (.ins C dx fs) ∧ fs.lookup m = none ∧ t σ H1 fun vs H2 => sp (x :: vs) H2 Q (E σ)
def tMethN (C : Addr) (m : Str) (n k : Nat) (gV : List V → List V → List V) (sp : Sp) (E : L2.St → XK) (ta : TE) (t tk : TA) : TE := fun σ H Q => ta σ H fun x H1 => ∃ a dx fs, x = .ref a ∧ H1 a = some (.ins C dx fs) ∧ fs.lookup m = none ∧ t σ H1 fun vs H2 => tk σ H2 fun zs H3 => (x :: vs).length = n ∧ zs.length = k ∧ sp (gV (x :: vs) zs) H3 Q (E σ)
def tMakeS (C : Addr) (sp : Sp) (E : L2.St → XK) (t : TA) : TE := fun σ H Q => t σ H fun vs H1 => ∀ x dx, H1 x = none → H1 dx = none → dx ≠ x → sp (.ref x :: vs) (upd (upd H1 dx (.own x)) x (.ins C dx [])) (fun v H2 => v = .non ∧ Q (.ref x) H2) (E σ)
def tMakeN (C : Addr) (n k : Nat) (gV : List V → List V → List V) (sp : Sp) (E : L2.St → XK) (t tk : TA) : TE := fun σ H Q => t σ H fun vs H1 => tk σ H1 fun zs H2 => ∀ x dx, H2 x = none → H2 dx = none → dx ≠ x → (V.ref x :: vs).length = n ∧ zs.length = k ∧ sp (gV (.ref x :: vs) zs) (upd (upd H2 dx (.own x)) x (.ins C dx [])) (fun v H3 => v = .non ∧ Q (.ref x) H3) (E σ)
section
variable {X : Cx} {CX : CXT} {k n : Nat} {f C : Addr} {fd : FuncData} {ps ks : List Str} {sp : Sp} {E : L2.St → XK} {E0 : XK} {x m : Str} {p pos apos : Pos} {e o : Expr} {es : List Expr} {kws : List Keyword} {ta : TE} {t tk : TA} {g : List Value → List Value → List Value} {gV : List V → List V → List V}
theorem passSt (h : Passes CX X E0) (σ : L2.St) : PassesAt CX X σ E0 := fun pins H s e s' I c => h pins σ H s e s' I c
theorem runK {pins : List (Addr × Obj)} {σ : L2.St} {H : Hp} {s : Shared} {Q : VK} {us ws : List Value} {vs zs : List V} (F : FnOk X.prog X.w X.K X.mg X.base CX k f fd ps sp) (hr : Room k X.A) (hb : KBX X.K fd ps n ks g gV) (hx : PassesAt CX X σ (E σ))
    (I : Inv X pins σ H s) (r : Vals vs us) (rz : Vals zs ws) (l1 : vs.length = n) (l2 : zs.length = ks.length) (h : sp (gV vs zs) H Q (E σ)) : wpAny (model X.prog X.w) X.A (call (.ref f) us (ks.zip ws)) (EP X pins σ Q) X.xe s := by
  have l3 : us.length = n := by rw [← r.length]; exact l1
  have l4 : ws.length = ks.length := by rw [← rz.length]; exact l2
  refine wpAny_call (codeAny_mono (F.run X.A X.stack s H ⟨us, ks.zip ws⟩ (g us ws) (gV vs zs) Q (E σ) hr I.env0 (hb.to s us ws l3 l4) (hb.rel r rz) h) fun r s' hq => ?_)
  match r, hq with
  | .error e, hq => exact hx pins H s e s' I hq
  | .ok (.ret u), hq => exact I.after hq
theorem pe_methS {pl : Sem Bool} (he : PE X o ta) (c : Cls X.K C) (hm : Meth X.K C m f) (F : FnOk X.prog X.w X.K X.mg X.base CX k f fd ps sp) (hr : Room k X.A) (hb : Binds X.K fd ps []) (hx : ∀ σ, PassesAt CX X σ (E σ)) (ha : PA X (e :: es) t)
    (hst : starEach (e :: es) X.env = (false, eval e X.env) :: starEach es X.env := by rfl) (hpl : (backTo pos (starEach es X.env)).any (·.1) = false := by rfl)
    (ht : eval (.Call (.Attribute o m apos) (e :: es) [] pos) X.env = (do
      let ov ← eval o X.env
      standAt apos.atName
      let (f, first) ← holding [ov] (getMethod ov m pl)
      callWith pos f first (backTo pos (starEach (e :: es) X.env)) (backToKw pos (keywordEach [] X.env))) := by rfl) :
    PE X (.Call (.Attribute o m apos) (e :: es) [] pos) (tMethS C m sp E ta t) := by
  refine ⟨fun pins s σ H Q I hw => ?_⟩
  refine PySem.W.methodCall_KW (pl := pl) (thn (he.run pins s σ H _ I hw) fun u s1 ⟨x, H1, I1, rx, a, dx, fs, ex, ea, l, q⟩ => ?_) ht
  subst ex
  cases rx
  refine getmeth_ok I1 ea c hm l ?_
  refine PySem.W.callWith_K (first := [.ref a]) (h₀ := X.base) I.ok.mod.kin hm.kp (thn (ha.run pos pins s1 σ H1 _ I1 q) fun us s2 ⟨vs, H2, I2, r, q2⟩ => ⟨I2.kIn, ?_⟩) hst hpl
  exact run_fnS (us := .ref a :: us) (vs := .ref a :: vs) F hr hb (hx σ) I2 (.cons rfl r) q2
theorem pe_methS0 {pl : Sem Bool} (he : PE X o ta) (c : Cls X.K C) (hm : Meth X.K C m f) (F : FnOk X.prog X.w X.K X.mg X.base CX k f fd ps sp) (hr : Room k X.A) (hb : Binds X.K fd ps []) (hx : ∀ σ, PassesAt CX X σ (E σ))
    (ht : eval (.Call (.Attribute o m apos) [] [] pos) X.env = (do
      let ov ← eval o X.env
      standAt apos.atName
      let (f, first) ← holding [ov] (getMethod ov m pl)
      callWith pos f first (backTo pos (starEach [] X.env)) (backToKw pos (keywordEach [] X.env))) := by rfl) :
    PE X (.Call (.Attribute o m apos) [] [] pos) (tMethS C m sp E ta tNil) := by
  refine ⟨fun pins s σ H Q I hw => ?_⟩
  refine PySem.W.methodCall_KW (pl := pl) (thn (he.run pins s σ H _ I hw) fun u s1 ⟨x, H1, I1, rx, a, dx, fs, ex, ea, l, q⟩ => ?_) ht
  subst ex
  cases rx
  refine getmeth_ok I1 ea c hm l ?_
  exact PySem.W.callWith_K0 (first := [.ref a]) I1.kIn hm.kp (run_fnS (us := [.ref a]) (vs := [.ref a]) F hr hb (hx σ) I1 (.cons rfl .nil) q)
/-- o.m(k = v, ..) -/
theorem pe_methN0 {pl : Sem Bool} (he : PE X o ta) (c : Cls X.K C) (hm : Meth X.K C m f) (F : FnOk X.prog X.w X.K X.mg X.base CX k f fd ps sp) (hr : Room k X.A) (hb : KBX X.K fd ps n ks g gV) (hx : ∀ σ, PassesAt CX X σ (E σ)) (hkw : PK X kws tk)
    (h0 : (backToKw pos (keywordEach kws X.env)).all (·.1.isSome) = true := by rfl) (hks : (backToKw pos (keywordEach kws X.env)).filterMap (·.1) = ks := by rfl)
    (h3 : ((backTo pos (starEach [] X.env)).any (·.1) || (backToKw pos (keywordEach kws X.env)).any (·.1.isNone)) = false := by rfl)
    (ht : eval (.Call (.Attribute o m apos) [] kws pos) X.env = (do
      let ov ← eval o X.env
      standAt apos.atName
      let (f, first) ← holding [ov] (getMethod ov m pl)
      callWith pos f first (backTo pos (starEach [] X.env)) (backToKw pos (keywordEach kws X.env))) := by rfl) :
    PE X (.Call (.Attribute o m apos) [] kws pos) (tMethN C m n ks.length gV sp E ta tNil tk) := by
  refine ⟨fun pins s σ H Q I hw => ?_⟩
  refine PySem.W.methodCall_KW (pl := pl) (thn (he.run pins s σ H _ I hw) fun u s1 ⟨x, H1, I1, rx, a, dx, fs, ex, ea, l, q⟩ => ?_) ht
  subst ex
  cases rx
  refine getmeth_ok I1 ea c hm l ?_
  refine PySem.W.callWith_KW0 (first := [.ref a]) (h₀ := X.base) I.ok.mod.kin hm.kp h0 (thn (hkw.run pos pins s1 σ H1 _ I1 q) fun ws s2 ⟨zs, H2, I2, rz, l1, l2, y2⟩ => ⟨I2.kIn, ?_⟩) h3
  rw [hks]
  exact runK (us := [.ref a]) (vs := [.ref a]) F hr hb (hx σ) I2 (.cons rfl .nil) rz l1 l2 y2
/-- a new instance whose maker may raise -/
theorem runMk {pins : List (Addr × Obj)} {σ : L2.St} {H : Hp} {s : Shared} {Q : VK} {us ws : List Value} (M : Mk X.K C f) (F : FnOk X.prog X.w X.K X.mg X.base CX k f fd ps sp) (hr : Room (k + 1) X.A)
    (hx : PassesAt CX X σ (E σ)) (I : Inv X pins σ H s) {args : List V} {as' : List Value} (ra : ∀ x, Vals (.ref x :: args) (.ref x :: as')) (hbt : ∀ s', X.K.In s'.heap → BindsTo s' fd ⟨Value.ref (s.heap.objs.size + 1) :: us, ks.zip ws⟩ (ps.zip (Value.ref (s.heap.objs.size + 1) :: as')))
    (h : ∀ x dx, H x = none → H dx = none → dx ≠ x → sp (.ref x :: args) (upd (upd H dx (.own x)) x (.ins C dx [])) (fun v H2 => v = .non ∧ Q (.ref x) H2) (E σ)) :
    wpAny (model X.prog X.w) X.A (call (.ref C) us (ks.zip ws)) (EP X pins σ Q) X.xe s := by
  have hq := h (s.heap.objs.size + 1) s.heap.objs.size (I.hok.fresh (Nat.le_succ _)) (I.hok.fresh (Nat.le_refl _)) (Nat.ne_of_lt (Nat.lt_succ_self _))
  have I2 := Inv.made (C := C) I
  refine wpAny_call (make_map (f := f) I.kIn M.makes M.init (beq_iff_eq.mp M.fn) (codeAny_mono (F.run _ X.stack _ _ ⟨Value.ref (s.heap.objs.size + 1) :: us, ks.zip ws⟩ (Value.ref (s.heap.objs.size + 1) :: as') _ _ (E σ) (hr.make C us (ks.zip ws))
    (I2.env0.make C us (ks.zip ws)) (hbt _ I2.kIn) (ra _) hq) fun r s' hq' => ?_))
  match r, hq' with
  | .error e, hq' => exact hx pins _ _ e s' I2 hq'
  | .ok (.ret u), hq' =>
    obtain ⟨v, H', I3, rv, ev, q3⟩ := I2.after hq'
    subst ev
    exact ⟨rv, ⟨V.ref (s.heap.objs.size + 1), H', I3, rfl, q3⟩⟩
theorem pe_makeS (M : Mk X.K C f) (F : FnOk X.prog X.w X.K X.mg X.base CX k f fd ps sp) (hr : Room (k + 1) X.A) (hg : Gl X x) (hm : X.mg x = some (.ref C)) (hb : Binds X.K fd ps []) (hx : ∀ σ, PassesAt CX X σ (E σ))
    (ha : PA X (e :: es) t) (hdb : (x == ("__debug__" : Str)) = false := by decide) (he : starEach (e :: es) X.env = (false, eval e X.env) :: starEach es X.env := by rfl) (hpl : (backTo pos (starEach es X.env)).any (·.1) = false := by rfl) :
    PE X (.Call (.Name x p) (e :: es) [] pos) (tMakeS C sp E t) := by
  refine ⟨fun pins s σ H Q I hw => ?_⟩
  refine wpAny_Call_Name_kw (ld_glob I hg hm ?_ hdb)
  refine PySem.W.callWith_K (h₀ := X.base) I.ok.mod.kin M.kp (thn (ha.run pos pins s σ H _ I hw) fun us s1 ⟨vs, H1, I1, r, q⟩ => ⟨I1.kIn, ?_⟩) he hpl
  have q0 := q (s1.heap.objs.size + 1) s1.heap.objs.size (I1.hok.fresh (Nat.le_succ _)) (I1.hok.fresh (Nat.le_refl _)) (Nat.ne_of_lt (Nat.lt_succ_self _))
  have hl : (Value.ref (s1.heap.objs.size + 1) :: us).length = ps.length := by
    have r2 : Vals (V.ref (s1.heap.objs.size + 1) :: vs) (Value.ref (s1.heap.objs.size + 1) :: us) := .cons rfl r
    rw [← r2.length]; exact F.len _ _ _ _ q0
  refine runMk (us := us) (ks := []) (ws := []) M F hr (hx σ) I1 (fun x => .cons rfl r) (fun s' k' => ?_) q
  have b := hb s' (Value.ref (s1.heap.objs.size + 1) :: us) k' (by rw [List.append_nil]; exact hl)
  rw [List.append_nil] at b
  exact b
/-- C(k = v, ..) -/
theorem pe_makeN0 (M : Mk X.K C f) (F : FnOk X.prog X.w X.K X.mg X.base CX k f fd ps sp) (hr : Room (k + 1) X.A) (hg : Gl X x) (hm : X.mg x = some (.ref C)) (hb : KBX X.K fd ps n ks g gV) (hx : ∀ σ, PassesAt CX X σ (E σ)) (hkw : PK X kws tk) (hg1 : ∀ (a : Value) (ws : List Value), ∃ as', g [a] ws = a :: as' ∧ ∀ b, g [b] ws = b :: as')
    (hg2 : ∀ (a : V) (zs : List V), ∃ as', gV [a] zs = a :: as' ∧ ∀ b, gV [b] zs = b :: as')
    (h0 : (backToKw pos (keywordEach kws X.env)).all (·.1.isSome) = true := by rfl) (hks : (backToKw pos (keywordEach kws X.env)).filterMap (·.1) = ks := by rfl)
    (hdb : (x == ("__debug__" : Str)) = false := by decide) (h3 : ((backTo pos (starEach [] X.env)).any (·.1) || (backToKw pos (keywordEach kws X.env)).any (·.1.isNone)) = false := by rfl) :
    PE X (.Call (.Name x p) [] kws pos) (tMakeN C n ks.length gV sp E tNil tk) := by
  refine ⟨fun pins s σ H Q I hw => ?_⟩
  refine wpAny_Call_Name_kw (ld_glob I hg hm ?_ hdb)
  refine PySem.W.callWith_KW0 (h₀ := X.base) I.ok.mod.kin M.kp h0 (thn (hkw.run pos pins s σ H _ I hw) fun ws s1 ⟨zs, H1, I1, rz, q⟩ => ⟨I1.kIn, ?_⟩) h3
  rw [hks]
  have q0 := q (s1.heap.objs.size + 1) s1.heap.objs.size (I1.hok.fresh (Nat.le_succ _)) (I1.hok.fresh (Nat.le_refl _)) (Nat.ne_of_lt (Nat.lt_succ_self _))
  obtain ⟨l1, l2, _⟩ := q0
  obtain ⟨as', e1, e2⟩ := hg1 (.ref (s1.heap.objs.size + 1)) ws
  obtain ⟨av, f1, f2⟩ := hg2 (.ref (s1.heap.objs.size + 1)) zs
  refine runMk (us := []) (ks := ks) (ws := ws) (args := av) (as' := as') M F hr (hx σ) I1 (fun x => ?_) (fun s' k' => ?_) (fun x dx n1 n2 n3 => ?_)
  · have r := hb.rel (vs := [.ref x]) (us := [.ref x]) (.cons rfl .nil) rz
    rw [f2, e2] at r
    exact r
  · have b := hb.to s' [Value.ref (s1.heap.objs.size + 1)] ws l1 (by rw [← rz.length]; exact l2)
    rw [e1] at b
    exact b
  · have q1 := (q x dx n1 n2 n3).2.2
    rw [f2] at q1
    exact q1
end
section
variable {σ : L2.St} {H : Hp} {Q : VK} {C : Addr} {m : Str} {n k : Nat} {gV : List V → List V → List V} {sp : Sp} {E : L2.St → XK} {ta : TE} {t tk : TA}
theorem omtS (h : ta σ H fun x H1 => ∃ a dx fs, x = .ref a ∧ H1 a = some (.ins C dx fs) ∧ fs.lookup m = none ∧ t σ H1 fun vs H2 => sp (x :: vs) H2 Q (E σ)) : tMethS C m sp E ta t σ H Q := h
theorem omtN (h : ta σ H fun x H1 => ∃ a dx fs, x = .ref a ∧ H1 a = some (.ins C dx fs) ∧ fs.lookup m = none ∧ t σ H1 fun vs H2 => tk σ H2 fun zs H3 => (x :: vs).length = n ∧ zs.length = k ∧ sp (gV (x :: vs) zs) H3 Q (E σ)) : tMethN C m n k gV sp E ta t tk σ H Q := h
theorem omkS (h : t σ H fun vs H1 => ∀ x dx, H1 x = none → H1 dx = none → dx ≠ x → sp (.ref x :: vs) (upd (upd H1 dx (.own x)) x (.ins C dx [])) (fun v H2 => v = .non ∧ Q (.ref x) H2) (E σ)) : tMakeS C sp E t σ H Q := h
theorem omkN (h : t σ H fun vs H1 => tk σ H1 fun zs H2 => ∀ x dx, H2 x = none → H2 dx = none → dx ≠ x → (V.ref x :: vs).length = n ∧ zs.length = k ∧ sp (gV (.ref x :: vs) zs) (upd (upd H2 dx (.own x)) x (.ins C dx [])) (fun v H3 => v = .non ∧ Q (.ref x) H3) (E σ)) : tMakeN C n k gV sp E t tk σ H Q := h
end
end HS
namespace HS
open PySem PySem.Spec PyProof.Rows L2
/-! ### xs.count(y) of plain data -/
def rCntD (K : PySem.W.Frag) : V → List V → Hp → VK → Prop := fun x xs H Q => ∃ (a : Addr) (y : V) (d : PyData) (ds : List PyData), x = V.ref a ∧ xs = [y] ∧ Dp K H (V.ref a) (.list ds) ∧ Dp K H y d ∧ SeqAt.shaped (.list ds) = true ∧ SeqAt.shaped d = true ∧ Q (.int (ds.countP fun z => PyData.eqv z d : Nat)) H
theorem mt_countD {X : Cx} (hu : X.A.units + 65 < cLine) : MtR X "list.count" (rCntD X.K) := by
  intro pins s σ H x xs v us Q I rx rxs h
  obtain ⟨a, y, d, ds, rfl, rfl, hl, hy, sl, sd, q⟩ := h
  cases rx
  match us, rxs with
  | [uy], .cons ry .nil =>
    obtain ⟨bs, r1⟩ := Dp.reads I d y uy hy ry
    have hxs : PyData.canLayAll0 ds = true := SeqAt.canLay_of_shaped sl
    have hroom : X.A.units + 1 + min (PyData.depthAll ds) d.depth < cLine := room_in_shaped sd hu
    match hl with
    | .lst hs ha =>
      obtain ⟨its, rv, ⟨⟨cls, dd, data, sls⟩, n, ho, hc, hdn, hdt⟩, hlen⟩ := I.list hs
      simp only at hc hdt
      subst hc hdt
      obtain ⟨as, h4⟩ := Dp.readsAll I ds _ its ha rv
      have hmap : its.map (SeqAt.readOf s.heap) = ds := SeqAt.readsAll_map ds its as hxs h4
      have ec : its.toArray.toList.countP (fun u => PyData.eqv (SeqAt.readOf s.heap u) d) = ds.countP fun z => PyData.eqv z d := by
        rw [← hmap, List.countP_map]; rfl
      refine call_meets PySem.F.slot_list_count ⟨_, ho, rfl⟩ PySem.F.entry_list_count (PySem.F.args_list_count_2 _ _)
        (SeqAt.list_countAt a its.toArray n dd sls uy (fun u => PyData.eqv (SeqAt.readOf s.heap u) d)) ⟨ho, SeqAt.items_eqAt (vs := its.toArray) (show ReadsAll s.heap its.toArray.toList ds as from h4) r1 hxs (SeqAt.canLay_of_shaped sd) hroom, ?_⟩
      refine ⟨.int (ds.countP fun z => PyData.eqv z d : Nat), H, I.tok _, ⟨s.toks, ?_⟩, q⟩
      show Value.int ((its.toArray.toList.countP (fun u => PyData.eqv (SeqAt.readOf s.heap u) d) : Nat) : Int) s.toks = Value.int ((ds.countP fun z => PyData.eqv z d : Nat) : Int) s.toks
      rw [ec]
end HS
namespace HS
open PySem PySem.Spec PyProof.Rows L2
theorem hu65 {A : PySem.Around} {k : Nat} (hr : L2.Room k A) : A.units + 65 < PySem.cLine := by have := hr.un; omega
section
variable {X : Cx} (K : PySem.W.Frag)
theorem kcountD (hu : X.A.units + 65 < cLine) (h : X.K = K := by rfl) : MtR X "list.count" (rCntD K) := h ▸ mt_countD hu
theorem kindexD (hu : X.A.units + 65 < cLine) (h : X.K = K := by rfl) : MtR X "list.index" (rIndexD K) := h ▸ mt_indexD hu
theorem kunl {tg : Expr} {n : Nat} {t : TGs} (p : PG X tg (gUnl X.K n t)) (h : X.K = K := by rfl) : PG X tg (gUnl K n t) := h ▸ p
end
section
variable {K : PySem.W.Frag} {σ : L2.St} {H : Hp} {Q : VK}
theorem gunl {n : Nat} {t : TGs} {a : Addr} {xs : List V} {q : L2.St → Hp → Prop} (h : SqL K H a xs) (e : xs.length = n) (k : t xs σ H q) : gUnl K n t (.ref a) σ H q := ⟨a, xs, rfl, h, e, k⟩
end
end HS
/-! What stands in a heap, told as one list: addresses that differ, each with what is known of its object. -/
namespace HS
open PySem PySem.Spec PyProof.Rows L2
abbrev WdL := List (Addr × (HO → Prop))
/-- H0: the heap at the entry; S: what may have changed there; l: what is known now -/
structure Wd (H0 H : Hp) (S : Addr → Prop) (l : WdL) : Prop where
  nd : (l.map (·.1)).Nodup
  at_ : ∀ x ∈ l, ∃ o, H x.1 = some o ∧ x.2 o
  kp : Keep S H0 H
  fr : ∀ x ∈ l, S x.1 ∨ H0 x.1 = none
section
variable {H0 H H' : Hp} {S : Addr → Prop} {l l' : WdL} {p q : Addr} {o : HO} {P P' : HO → Prop} {i j : Nat}
theorem Wd.nil : Wd H H S [] := ⟨.nil, fun _ h => absurd h List.not_mem_nil, .refl, fun _ h => absurd h List.not_mem_nil⟩
theorem nd_snoc {l : WdL} {P : HO → Prop} (nd : (l.map (·.1)).Nodup) (n : ∀ x ∈ l, x.1 ≠ p) : ((l ++ [(p, P)]).map (·.1)).Nodup := by
  rw [List.map_append, List.nodup_append]
  refine ⟨nd, List.nodup_cons.mpr ⟨List.not_mem_nil, .nil⟩, fun a ha b hb e => ?_⟩
  obtain ⟨x, hx, rfl⟩ := List.mem_map.mp ha
  have hb' : b = p := List.mem_singleton.mp hb
  exact n x hx (e.trans hb')
theorem mem_snoc {l : WdL} {x y : Addr × (HO → Prop)} (h : x ∈ l ++ [y]) : x ∈ l ∨ x = y := by
  rcases List.mem_append.mp h with h | h
  · exact .inl h
  · exact .inr (List.mem_singleton.mp h)
/-- what stood at the entry and may change -/
theorem Wd.old (W : Wd H0 H S l) (h : H p = some o) (hp : P o) (s : S p) (n : ∀ x ∈ l, x.1 ≠ p) : Wd H0 H S (l ++ [(p, P)]) := by
  refine ⟨nd_snoc W.nd n, fun x hx => ?_, W.kp, fun x hx => ?_⟩
  · rcases mem_snoc hx with hx | e
    · exact W.at_ x hx
    · subst e; exact ⟨o, h, hp⟩
  · rcases mem_snoc hx with hx | e
    · exact W.fr x hx
    · subst e; exact .inl s
theorem Wd.one (h : H p = some o) (hp : P o) (s : S p) : Wd H H S [(p, P)] := Wd.nil.old h hp s fun _ h => absurd h List.not_mem_nil
theorem Wd.get (W : Wd H0 H S l) (i : Nat) (e : l[i]? = some (p, P)) : ∃ o, H p = some o ∧ P o := W.at_ _ (List.mem_of_getElem? e)
theorem Wd.at (W : Wd H0 H S l) (i : Nat) (e : l[i]? = some (p, Eq o)) : H p = some o := by
  obtain ⟨o', h, e'⟩ := W.get i e
  cases e'; exact h
theorem Wd.sq {K : PySem.W.Frag} {xs : List V} (W : Wd H0 H S l) (i : Nat) (e : l[i]? = some (p, Eq (.lst xs))) : SqL K H p xs := HS.sq (W.at i e)
theorem Wd.same (W : Wd H0 H S l) (k : Keep (fun _ => False) H H') : Wd H0 H' S l :=
  ⟨W.nd, fun x hx => let ⟨o, h, z⟩ := W.at_ x hx; ⟨o, k _ _ h id, z⟩, W.kp.trans k.any, W.fr⟩
theorem Wd.miss (W : Wd H0 H S l) (h : H p = none) : ∀ x ∈ l, x.1 ≠ p := fun x hx e => by
  obtain ⟨o', h', _⟩ := W.at_ x hx
  rw [e, h] at h'; cases h'
/-- an object that some call has made: it was not there before the call -/
theorem Wd.made (W : Wd H0 H S l) {H1 : Hp} (k : Keep (fun _ => False) H H1) (h0 : H p = none) (h : H1 p = some o) (z : P o) : Wd H0 H1 S (l ++ [(p, P)]) := by
  have W1 := W.same k
  refine ⟨nd_snoc W.nd (W.miss h0), fun x hx => ?_, W1.kp, fun x hx => ?_⟩
  · rcases mem_snoc hx with hx | e
    · exact W1.at_ x hx
    · subst e; exact ⟨o, h, z⟩
  · rcases mem_snoc hx with hx | e
    · exact W.fr x hx
    · subst e
      by_cases s : S p
      · exact .inl s
      · exact .inr (W.kp.free h0 s)
theorem Wd.new (W : Wd H0 H S l) (h : H p = none) (z : P o) : Wd H0 (upd H p o) S (l ++ [(p, P)]) := W.made (Keep.new h) h upd_same z
/-- the same, the new heap by its name -/
theorem Wd.newG (W : Wd H0 H S l) (e : upd H p o = H') (h : H p = none) : Wd H0 H' S (l ++ [(p, Eq o)]) := e ▸ W.new h rfl
theorem nd_ne {l : WdL} (nd : (l.map (·.1)).Nodup) (e1 : l[i]? = some (p, P)) (e2 : l[j]? = some (q, P')) (h : i ≠ j) : p ≠ q := fun z => by
  have f1 : (l.map (·.1))[i]? = some p := by rw [List.getElem?_map, e1]; rfl
  have f2 : (l.map (·.1))[j]? = some q := by rw [List.getElem?_map, e2]; rfl
  have hl : i < (l.map (·.1)).length := (List.getElem?_eq_some_iff.mp f1).1
  exact h ((List.getElem?_inj hl nd).mp (by rw [f1, f2, z]))
theorem Wd.ne (W : Wd H0 H S l) (i j : Nat) (e1 : l[i]? = some (p, P)) (e2 : l[j]? = some (q, P')) (h : i ≠ j := by decide) : p ≠ q := nd_ne W.nd e1 e2 h
theorem Wd.no (W : Wd H0 H S l) (i : Nat) (e : l[i]? = some (p, P)) (h : H q = none) : q ≠ p := fun z => by
  obtain ⟨o, h', _⟩ := W.get i e
  rw [z, h'] at h; cases h
/-- the i-th object changes, all else stands -/
theorem Wd.chg (W : Wd H0 H S l) (i : Nat) (e : l[i]? = some (p, P)) (k : Keep (fun a => a = p) H H') (h : H' p = some o) (z : P' o) : Wd H0 H' S (l.set i (p, P')) := by
  have hi : i < l.length := (List.getElem?_eq_some_iff.mp e).1
  have em : (l.set i (p, P')).map (·.1) = l.map (·.1) := by
    apply List.ext_getElem?
    intro j
    rw [List.getElem?_map, List.getElem?_map, List.getElem?_set]
    by_cases hj : i = j
    · subst hj; rw [if_pos rfl, if_pos hi, e]; rfl
    · rw [if_neg hj]
  have hm : ∀ x ∈ l.set i (p, P'), x = (p, P') ∨ (x ∈ l ∧ x.1 ≠ p) := fun x hx => by
    obtain ⟨j, hj⟩ := List.getElem?_of_mem hx
    rw [List.getElem?_set] at hj
    by_cases hij : i = j
    · rw [if_pos hij, if_pos hi] at hj
      exact .inl (Option.some.inj hj).symm
    · rw [if_neg hij] at hj
      exact .inr ⟨List.mem_of_getElem? hj, fun y => nd_ne W.nd e (show l[j]? = some (x.1, x.2) from hj) hij y.symm⟩
  have sp := W.fr _ (List.mem_of_getElem? e)
  refine ⟨by rw [em]; exact W.nd, fun x hx => ?_, fun a u ha n => ?_, fun x hx => ?_⟩
  · rcases hm x hx with rfl | ⟨hx, n⟩
    · exact ⟨o, h, z⟩
    · obtain ⟨u, hu, y⟩ := W.at_ x hx
      exact ⟨u, k _ _ hu n, y⟩
  · refine k _ _ (W.kp _ _ ha n) fun y => ?_
    subst y
    rcases sp with sp | sp
    · exact n sp
    · rw [sp] at ha; cases ha
  · rcases hm x hx with rfl | ⟨hx, n⟩
    · exact sp
    · exact W.fr x hx
theorem Wd.chgE (W : Wd H0 H S l) (i : Nat) (e : l[i]? = some (p, P)) (k : Keep (fun a => a = p) H H') (h : H' p = some o) : Wd H0 H' S (l.set i (p, Eq o)) := W.chg i e k h rfl
theorem Wd.put (W : Wd H0 H S l) (i : Nat) (e : l[i]? = some (p, P)) (z : P' o) : Wd H0 (upd H p o) S (l.set i (p, P')) := W.chg i e (Keep.refl.at rfl) upd_same z
theorem Wd.putG (W : Wd H0 H S l) (i : Nat) (e : l[i]? = some (p, P)) (g : upd H p o = H') : Wd H0 H' S (l.set i (p, Eq o)) := g ▸ W.put i e rfl
/-- only some of it is told further -/
theorem Wd.sub (W : Wd H0 H S l) (h : l'.Sublist l) : Wd H0 H S l' := ⟨W.nd.sublist (h.map _), fun x hx => W.at_ x (h.subset hx), W.kp, fun x hx => W.fr x (h.subset hx)⟩
theorem Wd.take (W : Wd H0 H S l) (n : Nat) : Wd H0 H S (l.take n) := W.sub (List.take_sublist n l)
theorem Wd.weak (W : Wd H0 H S l) (i : Nat) (e : l[i]? = some (p, P)) (z : ∀ o, P o → P' o) : Wd H0 H S (l.set i (p, P')) := by
  obtain ⟨o, h, y⟩ := W.get i e
  exact W.chg i e .refl h (z o y)
/-- an object that a call has made which changed told objects besides: W before it, W' behind it -/
theorem Wd.madeT {H1 : Hp} (W : Wd H0 H S l) (W' : Wd H0 H1 S l') (e : l'.map (·.1) = l.map (·.1)) (h0 : H p = none) (h : H1 p = some o) (z : P o) : Wd H0 H1 S (l' ++ [(p, P)]) := by
  have n : ∀ x ∈ l', x.1 ≠ p := fun x hx y => by
    have hm : p ∈ l.map (·.1) := by rw [← e, ← y]; exact List.mem_map_of_mem hx
    obtain ⟨u, hu, eu⟩ := List.mem_map.mp hm
    exact W.miss h0 u hu eu
  refine ⟨nd_snoc W'.nd n, fun x hx => ?_, W'.kp, fun x hx => ?_⟩
  · rcases mem_snoc hx with hx | e
    · exact W'.at_ x hx
    · subst e; exact ⟨o, h, z⟩
  · rcases mem_snoc hx with hx | e
    · exact W'.fr x hx
    · subst e
      by_cases s : S p
      · exact .inl s
      · exact .inr (W.kp.free h0 s)
theorem Wd.keep (W : Wd H0 H S l) : Keep S H0 H := W.kp
/-- a change of several told objects and of nothing else -/
theorem Wd.chgs {T : Addr → Prop} (W : Wd H0 H S l) (k : Keep T H H') (hT : ∀ a, T a → S a ∨ H0 a = none) (f : ∀ x ∈ l, ¬ T x.1 ∨ ∃ o, H' x.1 = some o ∧ x.2 o) : Wd H0 H' S l := by
  refine ⟨W.nd, fun x hx => ?_, fun a u ha n => k _ _ (W.kp _ _ ha n) fun y => ?_, W.fr⟩
  · rcases f x hx with n | y
    · obtain ⟨u, hu, y⟩ := W.at_ x hx
      exact ⟨u, k _ _ hu n, y⟩
    · exact y
  · rcases hT a y with z | z
    · exact n z
    · rw [z] at ha; cases ha
theorem Wd.chgO (W : Wd H0 H S l) (k : Keep (fun a => a = p) H H') (hp : ∀ x ∈ l, x.1 ≠ p) (s : S p ∨ H0 p = none) : Wd H0 H' S l :=
  W.chgs k (fun a e => by cases (show a = p from e); exact s) fun x hx => .inl (hp x hx)
end
end HS
/-! Equal plain data. -/
namespace HS
open PySem PySem.Spec PyProof.Rows L2
section
variable {K : PySem.W.Frag} {H : Hp} {Q : VK} {x y : V} {d : PyData}
theorem neSame (h1 : Dp K H x d) (h2 : Dp K H y d) (sh : SeqAt.shaped d = true) (e : PyData.eqv d d = true) (q : Q (.bl false) H) : rNeD K x y H Q := ⟨d, d, h1, h2, sh, sh, by rw [e]; exact q⟩
theorem eqSame (h1 : Dp K H x d) (h2 : Dp K H y d) (sh : SeqAt.shaped d = true) (e : PyData.eqv d d = true) (q : Q (.bl true) H) : rEqD K x y H Q := ⟨d, d, h1, h2, sh, sh, by rw [e]; exact q⟩
def dSI (s : Str) (i : Int) : PyData := .list [.str s, .int i]
theorem dp_SI {a : Addr} {s : Str} {i : Int} (h : SqL K H a [.str s, .int i]) : Dp K H (.ref a) (dSI s i) := .lst h (.cons (.str s) (.cons (.int i) .nil))
theorem sh_SI (s : Str) (i : Int) (h : PyData.strOk s = true := by decide +kernel) : SeqAt.shaped (dSI s i) = true := by simp [h, SeqAt.shaped, dSI, PyData.canLay0, PyData.canLayAll0, PyData.depth, PyData.depthAll]
theorem eqv_SI (s : Str) (i : Int) : PyData.eqv (dSI s i) (dSI s i) = true := by simp [dSI, PyData.eqv, PyData.eqvAll]
def dSN (s : Str) : PyData := .list [.str s, .none]
theorem dp_SN {a : Addr} {s : Str} (h : SqL K H a [.str s, .non]) : Dp K H (.ref a) (dSN s) := .lst h (.cons (.str s) (.cons .non .nil))
theorem sh_SN (s : Str) (h : PyData.strOk s = true := by decide +kernel) : SeqAt.shaped (dSN s) = true := by simp [h, SeqAt.shaped, dSN, PyData.canLay0, PyData.canLayAll0, PyData.depth, PyData.depthAll]
theorem eqv_SN (s : Str) : PyData.eqv (dSN s) (dSN s) = true := by simp [dSN, PyData.eqv, PyData.eqvAll]
def dII (a b : List Int) : PyData := .list [dInts a, dInts b]
theorem dp_II {p a b : Addr} {xs ys : List Int} (h : SqL K H p [.ref a, .ref b]) (h1 : SqL K H a (xs.map V.int)) (h2 : SqL K H b (ys.map V.int)) : Dp K H (.ref p) (dII xs ys) := .lst h (.cons (dp_ints h1) (.cons (dp_ints h2) .nil))
theorem sh_II (a b : List Int) : SeqAt.shaped (dII a b) = true := by simp [SeqAt.shaped, dII, dInts, PyData.canLay0, PyData.canLayAll0, PyData.depth, PyData.depthAll, lay_ints, dep_ints]
theorem eqv_II (a b : List Int) : PyData.eqv (dII a b) (dII a b) = true := by simp [dII, PyData.eqv, PyData.eqvAll, eqv_ints]
end
end HS
namespace WK22
open PySem PySem.Spec PyProof.Rows L2
local macro_rules | `(tactic| walk_at "ne") => `(tactic| first | assumption | (apply Ne.symm; assumption) | exact ne_of_none (by assumption) (by assumption) | exact (ne_of_none (by assumption) (by assumption)).symm | exact ne_of_none upd_same (by assumption) | exact (ne_of_none upd_same (by assumption)).symm)
local macro_rules | `(tactic| walk_at "hp") => `(tactic| first | assumption | exact upd_same | (rw [upd_ne (by walk_at "ne")]; walk_at "hp"))
local macro_rules | `(tactic| walk_at "side") => `(tactic| first | omega | decide | assumption | exact ⟨by decide, by decide⟩ | exact ⟨by omega, by omega⟩ | exact .inl (by omega) | exact .inr (by omega) | exact .inl (by decide) | exact .inr (by decide) | exact ⟨by decide, by decide, by decide⟩ | exact ⟨by decide, by decide, by omega⟩ | exact .inl ⟨by omega, by omega⟩ | exact .inr ⟨by omega, by omega⟩ | exact .inr ⟨by decide, by decide⟩ | exact .inl ⟨by decide, by decide⟩ | (show _ < _; omega))
local macro_rules | `(tactic| walk_at "len") => `(tactic| ((try simp only [List.length_map, List.length_append, List.length_cons, List.length_nil, List.length_set, List.length_replicate]); omega))
local macro_rules | `(tactic| walk_at "sq") => `(tactic| first | assumption | exact HS.sq (by walk_at "hp"))
local macro_rules | `(tactic| walk_at "st") => `(tactic| first | assumption | exact HS.st (by walk_at "hp"))
local macro_rules | `(tactic| walk_at "h1") => `(tactic| first
  | with_reducible refine HS.seq ?_
  | with_reducible refine HS.asg ?_
  | with_reducible refine HS.nm ?_
  | with_reducible refine HS.var rfl ?_
  | with_reducible refine HS.cst ?_
  | with_reducible refine HS.op ?_
  | with_reducible refine HS.i0 ?_
  | ((with_reducible refine HS.i1 ?_); first | refine ⟨by walk_at "side", ?_⟩ | skip)
  | with_reducible refine HS.u0 ?_
  | with_reducible refine HS.un ?_
  | with_reducible refine HS.eqI ?_
  | with_reducible refine HS.neI ?_
  | with_reducible refine HS.tst ?_
  | with_reducible refine HS.tb1 ?_
  | with_reducible refine HS.bex ?_
  | with_reducible refine HS.ifs ?_
  | with_reducible refine HS.ife ?_
  | with_reducible refine HS.and ?_
  | with_reducible refine HS.or ?_
  | with_reducible refine HS.not ?_
  | with_reducible refine HS.andV ?_
  | with_reducible refine HS.orV ?_
  | with_reducible refine HS.notV ?_
  | with_reducible refine HS.chn ?_
  | with_reducible refine HS.ret ?_
  | with_reducible refine HS.retN ?_
  | with_reducible refine HS.drp ?_
  | with_reducible refine HS.cb ?_
  | with_reducible refine HS.anil ?_
  | with_reducible refine HS.acons ?_
  | with_reducible refine HS.cal ?_
  | with_reducible refine HS.tup ?_
  | with_reducible refine HS.lst ?_
  | with_reducible refine HS.par ?_
  | with_reducible refine HS.ex2 ?_
  | with_reducible refine HS.aug rfl ?_
  | with_reducible refine HS.ipi ?_
  | with_reducible refine HS.addI ?_
  | with_reducible refine HS.nxt ?_
  | with_reducible refine HS.brk ?_
  | with_reducible refine HS.cnt ?_
  | with_reducible refine HS.sub ?_
  | with_reducible refine HS.pnx ?_
  | with_reducible refine HS.prt ?_
  | with_reducible refine HS.pbk ?_
  | with_reducible refine HS.pct ?_
  | with_reducible refine iteF ?_
  | with_reducible refine iteT ?_
  | with_reducible refine HS.ii ?_
  | with_reducible refine HS.bmL ?_
  | with_reducible refine HS.bmL0 ?_
  | ((with_reducible refine' HS.tyL ?e ?_); case e => walk_at "hp")
  | ((with_reducible refine' HS.app ?e ?_); (case e => walk_at "hp"))
  | ((with_reducible refine' HS.setL ?e ?f ?_); (case e => walk_at "hp"); (case f => rfl))
  | ((with_reducible refine' HS.wp ?e ?_); case e => rfl)
  | ((with_reducible refine' HS.szc ?e ?_); case e => walk_at "len")
  | ((with_reducible refine' HS.szd ?e ?_); case e => walk_at "len")
  | with_reducible refine HS.yes ?_
  | with_reducible refine HS.lc ?_
  | with_reducible refine HS.rng1 ?_
  | with_reducible refine HS.rng2 ?_
  | with_reducible refine HS.rng3 ?_
  | with_reducible refine HS.lis ?_
  | with_reducible refine HS.fr ?_
  | with_reducible refine HS.i1e ?_
  | with_reducible refine HS.gthen ?_
  | with_reducible refine HS.g0 ?_
  | with_reducible refine HS.gfr ?_
  | with_reducible refine HS.gpl ?_
  | with_reducible refine HS.gyl ?_
  | with_reducible refine HS.lgn ?_
  | with_reducible refine HS.calg ?_
  | with_reducible refine HS.revL ?_
  | with_reducible refine HS.sl ?_
  | with_reducible refine HS.noP ?_
  | with_reducible refine HS.part ?_
  | with_reducible refine HS.ie ?_
  | ((with_reducible refine' HS.slLs ?e ?_); case e => walk_at "sq")
  | ((with_reducible refine' HS.gtup ?e ?f ?_); (case e => walk_at "st"); (case f => rfl))
  | with_reducible refine HS.gcons ?_
  | with_reducible refine HS.gnil ?_
  | with_reducible refine HS.itup ?_
  | with_reducible refine HS.ienu ?_
  | ((with_reducible refine' HS.cat ?e ?f ?_); (case e => walk_at "hp"); (case f => walk_at "hp"))
  | ((with_reducible refine' HS.ext ?e ?f ?_); (case e => walk_at "hp"); (case f => walk_at "hp"))
  | ((with_reducible refine' HS.sumL ?e ?_); case e => walk_at "sq")
  | ((with_reducible refine' HS.lenL ?e ?_); case e => walk_at "sq")
  | ((with_reducible refine' HS.lenT ?e ?_); case e => walk_at "st")
  | with_reducible refine HS.ra ?_
  | ((with_reducible refine' HS.ixL ?e ?f ?_); (case e => walk_at "sq"); (case f => rfl))
  | ((with_reducible refine' HS.ixT ?e ?f ?_); (case e => walk_at "st"); (case f => rfl)))
local macro_rules | `(tactic| walk_at "hs") => `(tactic| repeat' (walk_at "h1"))
local macro_rules | `(tactic| walk_at "fold") => `(tactic| (walk_at "hs"; assumption))
local macro_rules | `(tactic| walk_at "ns") => `(tactic| first | exact (fun z => z) | assumption | exact HS.nS2 (by walk_at "ne") (by walk_at "ne") | exact HS.nS3 (by walk_at "ne") (by walk_at "ne") (by walk_at "ne"))
local macro_rules | `(tactic| walk_at "kp") => `(tactic| first
  | assumption
  | exact HS.Keep.refl
  | (refine HS.Keep.at ?_ (by first | exact .inl rfl | exact .inr rfl | exact .inr (.inl rfl) | exact .inr (.inr rfl)); walk_at "kp")
  | (refine HS.Keep.put ?_ (by assumption); walk_at "kp")
  | (refine HS.Keep.new' (by assumption) (by first | assumption | exact HS.Keep.refl) (by walk_at "ns") ?_; walk_at "kp"))
local macro_rules | `(tactic| walk_at "ev") => `(tactic| first | assumption | exact HS.Exv.new (by walk_at "ev") (by assumption))
local macro_rules | `(tactic| walk_at "h1") => `(tactic| first
  | with_reducible refine HS.ost ?_
  | with_reducible refine HS.fldV ?_
  | with_reducible refine HS.newV ?_
  | with_reducible refine HS.newK ?_
  | ((with_reducible refine' HS.isV ?T ?he ?hq ?_); (case T => assumption); (case he => walk_at "ev"); (case hq => assumption))
  | ((with_reducible refine' HS.isVt ?T ?he ?hq ?_); (case T => assumption); (case he => walk_at "ev"); (case hq => assumption)))
local macro_rules | `(tactic| walk_at "h1") => `(tactic| first
  | with_reducible refine HS.caln ?_
  | with_reducible refine HS.ckw ?_
  | with_reducible refine HS.izip ?_
  | with_reducible refine HS.orT ?_
  | with_reducible refine HS.srv ?_
  | with_reducible refine HS.nt ?_
  | with_reducible refine HS.nf ?_
  | ((with_reducible refine' HS.lnn ?e ?f ?_); (case e => rfl); (case f => rfl)))
local macro_rules | `(tactic| walk_at "kp") => `(tactic| (refine HS.Keep.at ?_ rfl; walk_at "kp"))
local macro_rules | `(tactic| walk_at "h1") => `(tactic| first
  | with_reducible refine HS.mkO ?_
  | with_reducible refine HS.callS ?_
  | with_reducible refine HS.xf ?_)
local macro_rules | `(tactic| walk_at "h1") => `(tactic| first
  | with_reducible refine HS.ofld ?_
  | with_reducible refine HS.osfl ?_
  | with_reducible refine HS.omet ?_
  | with_reducible refine HS.opro ?_
  | with_reducible refine HS.omak ?_)
local macro_rules | `(tactic| walk_at "h1") => `(tactic| first
  | with_reducible refine HS.omtS ?_
  | with_reducible refine HS.omtN ?_
  | with_reducible refine HS.omkS ?_
  | with_reducible refine HS.omkN ?_
  | with_reducible refine HS.fldX ?_
  | ((with_reducible refine' HS.gunl ?e ?f ?_); (case e => walk_at "sq"); (case f => rfl)))
local macro_rules | `(tactic| walk_at "sub") => `(tactic| repeat' (first | exact List.Sublist.slnil | exact List.nil_sublist _ | apply List.Sublist.cons₂ | apply List.Sublist.cons))
def topS (i : Nat) : Stmt := PySem.Challenge.pw_pagecounts_k22_hidden_books_answer.main.body.getD i (.Pass ⟨0, 0, 0, 0⟩)
abbrev s_InvalidBook___init__ : Stmt := HS.inS (topS 2) 0
abbrev N_InvalidBook___init__ : List Str := ["self", "value"]
theorem sc_InvalidBook___init__ : FnScope N_InvalidBook___init__ ["self", "value"] (defScope s_InvalidBook___init__) := ⟨rfl, rfl, rfl, by decide +kernel, rfl, by decide +kernel, by decide +kernel⟩
abbrev s_InvalidSize___init__ : Stmt := HS.inS (topS 3) 0
abbrev N_InvalidSize___init__ : List Str := ["self", "value"]
theorem sc_InvalidSize___init__ : FnScope N_InvalidSize___init__ ["self", "value"] (defScope s_InvalidSize___init__) := ⟨rfl, rfl, rfl, by decide +kernel, rfl, by decide +kernel, by decide +kernel⟩
abbrev s_check_book : Stmt := topS 10
abbrev N_check_book : List Str := ["book", "index", "length"]
theorem sc_check_book : FnScope N_check_book ["book"] (defScope s_check_book) := ⟨rfl, rfl, rfl, by decide +kernel, rfl, by decide +kernel, by decide +kernel⟩
abbrev s_check_size : Stmt := topS 11
abbrev N_check_size : List Str := ["size"]
theorem sc_check_size : FnScope N_check_size ["size"] (defScope s_check_size) := ⟨rfl, rfl, rfl, by decide +kernel, rfl, by decide +kernel, by decide +kernel⟩
abbrev s_count_pages : Stmt := topS 13
abbrev N_count_pages : List Str := ["book", "size", "length"]
theorem sc_count_pages : FnScope N_count_pages ["book", "size"] (defScope s_count_pages) := ⟨rfl, rfl, rfl, by decide +kernel, rfl, by decide +kernel, by decide +kernel⟩
abbrev s_HiddenBook___init__ : Stmt := HS.inS (topS 15) 0
abbrev N_HiddenBook___init__ : List Str := ["self", "book"]
theorem sc_HiddenBook___init__ : FnScope N_HiddenBook___init__ ["self", "book"] (defScope s_HiddenBook___init__) := ⟨rfl, rfl, rfl, by decide +kernel, rfl, by decide +kernel, by decide +kernel⟩
abbrev s_HiddenBook_ask : Stmt := HS.inS (topS 15) 1
abbrev N_HiddenBook_ask : List Str := ["self", "size", "answer"]
theorem sc_HiddenBook_ask : FnScope N_HiddenBook_ask ["self", "size"] (defScope s_HiddenBook_ask) := ⟨rfl, rfl, rfl, by decide +kernel, rfl, by decide +kernel, by decide +kernel⟩
abbrev s_HiddenBook_questions : Stmt := HS.inS (topS 15) 2
abbrev N_HiddenBook_questions : List Str := ["self"]
theorem sc_HiddenBook_questions : FnScope N_HiddenBook_questions ["self"] (defScope s_HiddenBook_questions) := ⟨rfl, rfl, rfl, by decide +kernel, rfl, by decide +kernel, by decide +kernel⟩
abbrev s__law_pool : Stmt := topS 17
abbrev N__law_pool : List Str := ["script", "at", "cell"]
theorem sc__law_pool : FnScope N__law_pool ["script", "at"] (defScope s__law_pool) := ⟨rfl, rfl, rfl, by decide +kernel, rfl, by decide +kernel, by decide +kernel⟩
abbrev s__law_draw : Stmt := topS 18
abbrev N__law_draw : List Str := ["pool", "many", "drawn", "mixed"]
theorem sc__law_draw : FnScope N__law_draw ["pool", "many"] (defScope s__law_draw) := ⟨rfl, rfl, rfl, by decide +kernel, rfl, by decide +kernel, by decide +kernel⟩
abbrev s__law_length : Stmt := topS 19
abbrev N__law_length : List Str := ["pool", "far"]
theorem sc__law_length : FnScope N__law_length ["pool", "far"] (defScope s__law_length) := ⟨rfl, rfl, rfl, by decide +kernel, rfl, by decide +kernel, by decide +kernel⟩
abbrev s__law_book : Stmt := topS 20
abbrev N__law_book : List Str := ["pool", "most", "far", "found", "turn"]
theorem sc__law_book : FnScope N__law_book ["pool", "most", "far"] (defScope s__law_book) := ⟨rfl, rfl, rfl, by decide +kernel, rfl, by decide +kernel, by decide +kernel⟩
abbrev s__law_pages : Stmt := topS 21
abbrev N__law_pages : List Str := ["lengths", "lines_here", "one"]
theorem sc__law_pages : FnScope N__law_pages ["lengths", "lines_here"] (defScope s__law_pages) := ⟨rfl, rfl, rfl, by decide +kernel, rfl, by decide +kernel, by decide +kernel⟩
abbrev s__law_kind : Stmt := topS 22
abbrev N__law_kind : List Str := ["caught", "some"]
theorem sc__law_kind : FnScope N__law_kind ["caught"] (defScope s__law_kind) := ⟨rfl, rfl, rfl, by decide +kernel, rfl, by decide +kernel, by decide +kernel⟩
abbrev s__law_bad_book : Stmt := topS 23
abbrev N__law_bad_book : List Str := ["pool", "lengths", "found", "turn", "one", "at"]
theorem sc__law_bad_book : FnScope N__law_bad_book ["pool", "lengths"] (defScope s__law_bad_book) := ⟨rfl, rfl, rfl, by decide +kernel, rfl, by decide +kernel, by decide +kernel⟩
abbrev s__law_made : Stmt := topS 24
abbrev N__law_made : List Str := ["lengths", "caught", "e"]
theorem sc__law_made : FnScope N__law_made ["lengths"] (defScope s__law_made) := ⟨rfl, rfl, rfl, by decide +kernel, rfl, by decide +kernel, by decide +kernel⟩
abbrev s__law_asked : Stmt := topS 25
abbrev N__law_asked : List Str := ["secret", "lines_here", "by_name", "caught", "e"]
theorem sc__law_asked : FnScope N__law_asked ["secret", "lines_here", "by_name"] (defScope s__law_asked) := ⟨rfl, rfl, rfl, by decide +kernel, rfl, by decide +kernel, by decide +kernel⟩
abbrev s__law_size : Stmt := topS 26
abbrev N__law_size : List Str := ["pool", "lengths", "far", "one"]
theorem sc__law_size : FnScope N__law_size ["pool", "lengths", "far"] (defScope s__law_size) := ⟨rfl, rfl, rfl, by decide +kernel, rfl, by decide +kernel, by decide +kernel⟩
abbrev s__law_right : Stmt := topS 27
abbrev N__law_right : List Str := ["pool", "far", "kept", "passed", "secrets", "counts_here", "turn", "which", "lines_here", "due", "bad", "wrong", "one"]
theorem sc__law_right : FnScope N__law_right ["pool"] (defScope s__law_right) := ⟨rfl, rfl, rfl, by decide +kernel, rfl, by decide +kernel, by decide +kernel⟩
abbrev s_law : Stmt := topS 28
abbrev N_law : List Str := ["script", "at", "pool", "turn"]
theorem sc_law : FnScope N_law ["script"] (defScope s_law) := ⟨rfl, rfl, rfl, by decide +kernel, rfl, by decide +kernel, by decide +kernel⟩
structure Ad where
  a_InvalidBook___init__ : Addr
  d_InvalidBook___init__ : FuncData
  a_InvalidSize___init__ : Addr
  d_InvalidSize___init__ : FuncData
  a_check_book : Addr
  d_check_book : FuncData
  a_check_size : Addr
  d_check_size : FuncData
  a_count_pages : Addr
  d_count_pages : FuncData
  a_HiddenBook___init__ : Addr
  d_HiddenBook___init__ : FuncData
  a_HiddenBook_ask : Addr
  d_HiddenBook_ask : FuncData
  a_HiddenBook_questions : Addr
  d_HiddenBook_questions : FuncData
  a__law_pool : Addr
  d__law_pool : FuncData
  a__law_draw : Addr
  d__law_draw : FuncData
  a__law_length : Addr
  d__law_length : FuncData
  a__law_book : Addr
  d__law_book : FuncData
  a__law_pages : Addr
  d__law_pages : FuncData
  a__law_kind : Addr
  d__law_kind : FuncData
  a__law_bad_book : Addr
  d__law_bad_book : FuncData
  a__law_made : Addr
  d__law_made : FuncData
  a__law_asked : Addr
  d__law_asked : FuncData
  a__law_size : Addr
  d__law_size : FuncData
  a__law_right : Addr
  d__law_right : FuncData
  a_law : Addr
  d_law : FuncData
  c_BookError : Addr
  c_InvalidBook : Addr
  c_InvalidSize : Addr
  c_InvalidTable : Addr
  c_InvalidChain : Addr
  c_InvalidNumber : Addr
  c_NothingToUndo : Addr
  c_Unreadable : Addr
  c_HiddenBook : Addr
  p_HiddenBook_questions : Addr
structure Txt (K : PySem.W.Frag) (mg : Str → Option Value) (A : Ad) : Prop where
  F_InvalidBook___init__ : Fun K "__init__" "InvalidBook.__init__" s_InvalidBook___init__ A.a_InvalidBook___init__ A.d_InvalidBook___init__
  b_InvalidBook___init__ : Binds K A.d_InvalidBook___init__ ["self", "value"] []
  F_InvalidSize___init__ : Fun K "__init__" "InvalidSize.__init__" s_InvalidSize___init__ A.a_InvalidSize___init__ A.d_InvalidSize___init__
  b_InvalidSize___init__ : Binds K A.d_InvalidSize___init__ ["self", "value"] []
  F_check_book : Fun K "check_book" "check_book" s_check_book A.a_check_book A.d_check_book
  g_check_book : mg "check_book" = some (.ref A.a_check_book)
  b_check_book : Binds K A.d_check_book ["book"] []
  F_check_size : Fun K "check_size" "check_size" s_check_size A.a_check_size A.d_check_size
  g_check_size : mg "check_size" = some (.ref A.a_check_size)
  b_check_size : Binds K A.d_check_size ["size"] []
  F_count_pages : Fun K "count_pages" "count_pages" s_count_pages A.a_count_pages A.d_count_pages
  g_count_pages : mg "count_pages" = some (.ref A.a_count_pages)
  b_count_pages : Binds K A.d_count_pages ["book", "size"] []
  F_HiddenBook___init__ : Fun K "__init__" "HiddenBook.__init__" s_HiddenBook___init__ A.a_HiddenBook___init__ A.d_HiddenBook___init__
  b_HiddenBook___init__ : Binds K A.d_HiddenBook___init__ ["self", "book"] []
  F_HiddenBook_ask : Fun K "ask" "HiddenBook.ask" s_HiddenBook_ask A.a_HiddenBook_ask A.d_HiddenBook_ask
  b_HiddenBook_ask : Binds K A.d_HiddenBook_ask ["self", "size"] []
  F_HiddenBook_questions : Fun K "questions" "HiddenBook.questions" s_HiddenBook_questions A.a_HiddenBook_questions A.d_HiddenBook_questions
  b_HiddenBook_questions : Binds K A.d_HiddenBook_questions ["self"] []
  F__law_pool : Fun K "_law_pool" "_law_pool" s__law_pool A.a__law_pool A.d__law_pool
  g__law_pool : mg "_law_pool" = some (.ref A.a__law_pool)
  b__law_pool : Binds K A.d__law_pool ["script", "at"] []
  F__law_draw : Fun K "_law_draw" "_law_draw" s__law_draw A.a__law_draw A.d__law_draw
  g__law_draw : mg "_law_draw" = some (.ref A.a__law_draw)
  b__law_draw : Binds K A.d__law_draw ["pool", "many"] []
  F__law_length : Fun K "_law_length" "_law_length" s__law_length A.a__law_length A.d__law_length
  g__law_length : mg "_law_length" = some (.ref A.a__law_length)
  b__law_length : Binds K A.d__law_length ["pool", "far"] []
  F__law_book : Fun K "_law_book" "_law_book" s__law_book A.a__law_book A.d__law_book
  g__law_book : mg "_law_book" = some (.ref A.a__law_book)
  b__law_book : Binds K A.d__law_book ["pool", "most", "far"] []
  F__law_pages : Fun K "_law_pages" "_law_pages" s__law_pages A.a__law_pages A.d__law_pages
  g__law_pages : mg "_law_pages" = some (.ref A.a__law_pages)
  b__law_pages : Binds K A.d__law_pages ["lengths", "lines_here"] []
  F__law_kind : Fun K "_law_kind" "_law_kind" s__law_kind A.a__law_kind A.d__law_kind
  g__law_kind : mg "_law_kind" = some (.ref A.a__law_kind)
  b__law_kind : Binds K A.d__law_kind ["caught"] []
  F__law_bad_book : Fun K "_law_bad_book" "_law_bad_book" s__law_bad_book A.a__law_bad_book A.d__law_bad_book
  g__law_bad_book : mg "_law_bad_book" = some (.ref A.a__law_bad_book)
  b__law_bad_book : Binds K A.d__law_bad_book ["pool", "lengths"] []
  F__law_made : Fun K "_law_made" "_law_made" s__law_made A.a__law_made A.d__law_made
  g__law_made : mg "_law_made" = some (.ref A.a__law_made)
  b__law_made : Binds K A.d__law_made ["lengths"] []
  F__law_asked : Fun K "_law_asked" "_law_asked" s__law_asked A.a__law_asked A.d__law_asked
  g__law_asked : mg "_law_asked" = some (.ref A.a__law_asked)
  b__law_asked : Binds K A.d__law_asked ["secret", "lines_here", "by_name"] []
  F__law_size : Fun K "_law_size" "_law_size" s__law_size A.a__law_size A.d__law_size
  g__law_size : mg "_law_size" = some (.ref A.a__law_size)
  b__law_size : Binds K A.d__law_size ["pool", "lengths", "far"] []
  F__law_right : Fun K "_law_right" "_law_right" s__law_right A.a__law_right A.d__law_right
  g__law_right : mg "_law_right" = some (.ref A.a__law_right)
  b__law_right : Binds K A.d__law_right ["pool"] []
  F_law : Fun K "law" "law" s_law A.a_law A.d_law
  g_law : mg "law" = some (.ref A.a_law)
  b_law : Binds K A.d_law ["script"] []
  z_ValueError : mg "ValueError" = none
  z_abs : mg "abs" = none
  z_enumerate : mg "enumerate" = none
  z_isinstance : mg "isinstance" = none
  z_len : mg "len" = none
  z_list : mg "list" = none
  z_max : mg "max" = none
  z_min : mg "min" = none
  z_range : mg "range" = none
  z_sum : mg "sum" = none
  kb_HiddenBook___init___1_book : HS.KBX K A.d_HiddenBook___init__ ["self", "book"] 1 ["book"] (fun us ws => [us.getD 0 .none, ws.getD 0 .none]) (fun vs zs => [vs.getD 0 .non, zs.getD 0 .non])
  kb_HiddenBook_ask_1_size : HS.KBX K A.d_HiddenBook_ask ["self", "size"] 1 ["size"] (fun us ws => [us.getD 0 .none, ws.getD 0 .none]) (fun vs zs => [vs.getD 0 .non, zs.getD 0 .non])
  m_BookError : mg "BookError" = some (.ref A.c_BookError)
  m_InvalidBook : mg "InvalidBook" = some (.ref A.c_InvalidBook)
  m_InvalidSize : mg "InvalidSize" = some (.ref A.c_InvalidSize)
  m_InvalidTable : mg "InvalidTable" = some (.ref A.c_InvalidTable)
  m_InvalidChain : mg "InvalidChain" = some (.ref A.c_InvalidChain)
  m_InvalidNumber : mg "InvalidNumber" = some (.ref A.c_InvalidNumber)
  m_NothingToUndo : mg "NothingToUndo" = some (.ref A.c_NothingToUndo)
  m_Unreadable : mg "Unreadable" = some (.ref A.c_Unreadable)
  m_HiddenBook : mg "HiddenBook" = some (.ref A.c_HiddenBook)
  C_HiddenBook : Cls K A.c_HiddenBook
  n_HiddenBook__lengths : NoAttr K A.c_HiddenBook "_lengths"
  n_HiddenBook__asked : NoAttr K A.c_HiddenBook "_asked"
  K_HiddenBook : Mk K A.c_HiddenBook A.a_HiddenBook___init__
  M_HiddenBook_ask : Meth K A.c_HiddenBook "ask" A.a_HiddenBook_ask
  P_HiddenBook_questions : PropOf K A.c_HiddenBook "questions" A.p_HiddenBook_questions A.a_HiddenBook_questions
  C_InvalidBook : OexC K A.c_InvalidBook
  V_InvalidBook : ExcC K A.c_InvalidBook
  X_InvalidBook : XfC K A.c_InvalidBook
  n_InvalidBook : PySem.W.findIn K (.ref A.c_InvalidBook) "value" = some none
  i_InvalidBook : PySem.W.findIn K (.ref A.c_InvalidBook) "__init__" = some (some (.ref A.a_InvalidBook___init__))
  t_InvalidBook : PySem.W.typeIn K (.ref A.a_InvalidBook___init__) = some (.type "function")
  k_InvalidBook : KBn K A.d_InvalidBook___init__ ["self", "value"] 1 ["value"] (fun us ws => us ++ ws) (fun vs zs => vs ++ zs)
  q_InvalidBook_BookError : PySem.W.kitOne K (.ref A.c_InvalidBook) (.ref A.c_BookError) = some true
  q_InvalidBook_InvalidBook : PySem.W.kitOne K (.ref A.c_InvalidBook) (.ref A.c_InvalidBook) = some true
  q_InvalidBook_InvalidSize : PySem.W.kitOne K (.ref A.c_InvalidBook) (.ref A.c_InvalidSize) = some false
  q_InvalidBook_InvalidTable : PySem.W.kitOne K (.ref A.c_InvalidBook) (.ref A.c_InvalidTable) = some false
  q_InvalidBook_InvalidChain : PySem.W.kitOne K (.ref A.c_InvalidBook) (.ref A.c_InvalidChain) = some false
  q_InvalidBook_InvalidNumber : PySem.W.kitOne K (.ref A.c_InvalidBook) (.ref A.c_InvalidNumber) = some false
  q_InvalidBook_NothingToUndo : PySem.W.kitOne K (.ref A.c_InvalidBook) (.ref A.c_NothingToUndo) = some false
  q_InvalidBook_Unreadable : PySem.W.kitOne K (.ref A.c_InvalidBook) (.ref A.c_Unreadable) = some false
  q_InvalidBook_ValueError : PySem.W.kitOne K (.ref A.c_InvalidBook) (.type "ValueError") = some true
  C_InvalidSize : OexC K A.c_InvalidSize
  V_InvalidSize : ExcC K A.c_InvalidSize
  X_InvalidSize : XfC K A.c_InvalidSize
  n_InvalidSize : PySem.W.findIn K (.ref A.c_InvalidSize) "value" = some none
  i_InvalidSize : PySem.W.findIn K (.ref A.c_InvalidSize) "__init__" = some (some (.ref A.a_InvalidSize___init__))
  t_InvalidSize : PySem.W.typeIn K (.ref A.a_InvalidSize___init__) = some (.type "function")
  k_InvalidSize : KBn K A.d_InvalidSize___init__ ["self", "value"] 1 ["value"] (fun us ws => us ++ ws) (fun vs zs => vs ++ zs)
  q_InvalidSize_BookError : PySem.W.kitOne K (.ref A.c_InvalidSize) (.ref A.c_BookError) = some true
  q_InvalidSize_InvalidBook : PySem.W.kitOne K (.ref A.c_InvalidSize) (.ref A.c_InvalidBook) = some false
  q_InvalidSize_InvalidSize : PySem.W.kitOne K (.ref A.c_InvalidSize) (.ref A.c_InvalidSize) = some true
  q_InvalidSize_InvalidTable : PySem.W.kitOne K (.ref A.c_InvalidSize) (.ref A.c_InvalidTable) = some false
  q_InvalidSize_InvalidChain : PySem.W.kitOne K (.ref A.c_InvalidSize) (.ref A.c_InvalidChain) = some false
  q_InvalidSize_InvalidNumber : PySem.W.kitOne K (.ref A.c_InvalidSize) (.ref A.c_InvalidNumber) = some false
  q_InvalidSize_NothingToUndo : PySem.W.kitOne K (.ref A.c_InvalidSize) (.ref A.c_NothingToUndo) = some false
  q_InvalidSize_Unreadable : PySem.W.kitOne K (.ref A.c_InvalidSize) (.ref A.c_Unreadable) = some false
  q_InvalidSize_ValueError : PySem.W.kitOne K (.ref A.c_InvalidSize) (.type "ValueError") = some true
  e_InvalidBook_BookError : PySem.W.exmOne K (.ref A.c_InvalidBook) (.ref A.c_BookError) = some true
  e_InvalidSize_BookError : PySem.W.exmOne K (.ref A.c_InvalidSize) (.ref A.c_BookError) = some true
/-- the source of draws at s, its digits at d; n: at most so many mixed draws so far -/
def Src (H : Hp) (s d : Addr) (n : Nat) : Prop := s ≠ d ∧ ∃ (gs : List Int) (l m c : Int), H s = some (.lst [.ref d, .int l, .int m, .int c]) ∧ H d = some (.lst (gs.map V.int)) ∧ (∀ x ∈ gs, 0 ≤ x) ∧ gs.length ≤ 63 ∧ 0 ≤ l ∧ 0 ≤ m ∧ m < 2 ^ 61 ∧ 0 ≤ c ∧ c ≤ n
/-- lengths of chapters -/
def Book (ls : List Int) : Prop := ∀ x ∈ ls, 1 ≤ x ∧ x < 10 ^ 30
theorem Src.keep {H H' : Hp} {s d : Addr} {n : Nat} (h : Src H s d n) (e1 : H' s = H s) (e2 : H' d = H d) : Src H' s d n := by
  obtain ⟨hsd, gs, l, m, c, h1, h2, h3⟩ := h
  exact ⟨hsd, gs, l, m, c, by rw [e1]; exact h1, by rw [e2]; exact h2, h3⟩
theorem Src.new {H : Hp} {s d p : Addr} {n : Nat} {o : HO} (h : Src H s d n) (hp : H p = none) : Src (upd H p o) s d n := by
  obtain ⟨hsd, gs, l, m, c, h1, h2, h3⟩ := h
  exact ⟨hsd, gs, l, m, c, by rw [upd_ne (ne_of_none h1 hp)]; exact h1, by rw [upd_ne (ne_of_none h2 hp)]; exact h2, h3⟩
theorem Src.put {H : Hp} {s d p : Addr} {n : Nat} {o : HO} (h : Src H s d n) (e1 : p ≠ s) (e2 : p ≠ d) : Src (upd H p o) s d n := by
  obtain ⟨hsd, gs, l, m, c, h1, h2, h3⟩ := h
  exact ⟨hsd, gs, l, m, c, by rw [upd_ne e1.symm]; exact h1, by rw [upd_ne e2.symm]; exact h2, h3⟩
theorem Src.ne1 {H : Hp} {s d p : Addr} {n : Nat} (h : Src H s d n) (hp : H p = none) : p ≠ s := by
  obtain ⟨hsd, gs, l, m, c, h1, h2, h3⟩ := h
  exact (ne_of_none h1 hp).symm
theorem Src.ne2 {H : Hp} {s d p : Addr} {n : Nat} (h : Src H s d n) (hp : H p = none) : p ≠ d := by
  obtain ⟨hsd, gs, l, m, c, h1, h2, h3⟩ := h
  exact (ne_of_none h2 hp).symm
theorem Src.up {H : Hp} {s d : Addr} {n m : Nat} (h : Src H s d n) (e : n ≤ m) : Src H s d m := by
  obtain ⟨hsd, gs, l, m', c, h1, h2, h3, h4, h5, h6, h7, h8, h9⟩ := h
  exact ⟨hsd, gs, l, m', c, h1, h2, h3, h4, h5, h6, h7, h8, by omega⟩
/-- the page count of an edition -/
def pcount (ls : List Int) (j : Int) : Int := (ls.map fun x => (x + j - 1) / j).sum
theorem pcount_nil (j : Int) : pcount [] j = 0 := rfl
theorem pcount_cons (x : Int) (ls : List Int) (j : Int) : pcount (x :: ls) j = (x + j - 1) / j + pcount ls j := by unfold pcount; rw [List.map_cons, List.sum_cons]
theorem pcount_append (xs ys : List Int) (j : Int) : pcount (xs ++ ys) j = pcount xs j + pcount ys j := by unfold pcount; rw [List.map_append, List.sum_append]
/-- a page for each chapter, and one more for each full page of its other lines -/
theorem pcount_less1 {j : Int} (hj : 1 ≤ j) : ∀ ls : List Int, (ls.length : Int) + (ls.map fun x => (x - 1) / j).sum = pcount ls j
  | [] => rfl
  | x :: r => by
    have e : (x + j - 1) / j = (x - 1) / j + 1 := by rw [show x + j - 1 = (x - 1) + j * 1 by omega, Int.add_mul_ediv_left _ _ (by omega)]
    rw [pcount_cons, ← pcount_less1 hj r, e, List.length_cons, List.map_cons, List.sum_cons]
    push_cast
    omega
theorem pcount_take {ls : List Int} {i : Nat} {x : Int} (j : Int) (h : ls[i]? = some x) : pcount (ls.take (i + 1)) j = pcount (ls.take i) j + (x + j - 1) / j := by
  obtain ⟨h1, h2⟩ := List.getElem?_eq_some_iff.mp h
  rw [List.take_add_one, h, pcount_append]
  show _ + pcount [x] j = _
  rw [pcount_cons, pcount_nil]; omega
theorem ceil_pos {x j : Int} (hx : 1 ≤ x) (hj : 1 ≤ j) : 1 ≤ (x + j - 1) / j := by
  rw [Int.le_ediv_iff_mul_le (by omega)]; omega
theorem pcount_len {ls : List Int} {j : Int} (hp : ∀ x ∈ ls, 1 ≤ x) (hj : 1 ≤ j) : (ls.length : Int) ≤ pcount ls j := by
  induction ls with
  | nil => exact Int.le_refl 0
  | cons x r ih =>
    rw [pcount_cons, List.length_cons]
    have := ceil_pos (hp x List.mem_cons_self) hj
    have := ih fun y hy => hp y (List.mem_cons_of_mem _ hy)
    omega
theorem pcount_pos {ls : List Int} {j : Int} (hp : ∀ x ∈ ls, 1 ≤ x) (hj : 1 ≤ j) : 0 ≤ pcount ls j := by
  have := pcount_len hp hj; omega
theorem take_all {ls : List Int} {P : Int → Prop} (h : ∀ x ∈ ls, P x) (n : Nat) : ∀ x ∈ ls.take n, P x := fun x hx => h x (List.mem_of_mem_take hx)
theorem Src.same {H H' : Hp} {s d : Addr} {n : Nat} (h : Src H s d n) (k : HS.Keep (fun _ => False) H H') : Src H' s d n := by
  obtain ⟨hsd, gs, l, m, c, h1, h2, h3⟩ := h
  exact ⟨hsd, gs, l, m, c, k _ _ h1 id, k _ _ h2 id, h3⟩
theorem sum_book {ls : List Int} (h : Book ls) : (ls.length : Int) ≤ ls.sum ∧ ls.sum ≤ ls.length * (10 ^ 30) := by
  induction ls with
  | nil => exact ⟨Int.le_refl _, Int.le_refl _⟩
  | cons x r ih =>
    have := ih fun y hy => h y (List.mem_cons_of_mem _ hy)
    have := h x List.mem_cons_self
    rw [List.sum_cons, List.length_cons]
    push_cast
    omega
/-! Sums of ceilings. -/
theorem ceil_le {x j q : Int} (hj : 1 ≤ j) : (x + j - 1) / j ≤ q ↔ x ≤ q * j := by
  rw [← Int.lt_add_one_iff, Int.ediv_lt_iff_lt_mul (by omega), Int.add_mul]
  omega
theorem ceil_up {x j : Int} (hj : 1 ≤ j) : x ≤ (x + j - 1) / j * j := (ceil_le hj).mp (Int.le_refl _)
theorem ceil_dn {x j : Int} (hj : 1 ≤ j) : (x + j - 1) / j * j ≤ x + j - 1 := Int.ediv_mul_le _ (by omega)
theorem ceil_nonneg {x j : Int} (hx : 0 ≤ x) (hj : 1 ≤ j) : 0 ≤ (x + j - 1) / j := Int.ediv_nonneg (by omega) (by omega)
theorem pcount_up (ls : List Int) {j : Int} (hj : 1 ≤ j) : ls.sum ≤ pcount ls j * j := by
  induction ls with
  | nil => rw [pcount_nil]; simp
  | cons x r ih =>
    rw [pcount_cons, List.sum_cons, Int.add_mul]
    have := ceil_up (x := x) hj
    omega
theorem pcount_ceil (ls : List Int) {j : Int} (hj : 1 ≤ j) : (ls.sum + j - 1) / j ≤ pcount ls j := (ceil_le hj).mpr (pcount_up ls hj)
theorem pcount_dn (ls : List Int) {j : Int} (hj : 1 ≤ j) : (pcount ls j - ls.length) * j ≤ ls.sum - ls.length := by
  induction ls with
  | nil => rw [pcount_nil]; simp
  | cons x r ih =>
    rw [pcount_cons, List.sum_cons, List.length_cons]
    have := ceil_dn (x := x) hj
    have e : ((x + j - 1) / j + pcount r j - ((r.length + 1 : Nat) : Int)) * j = (x + j - 1) / j * j - j + (pcount r j - r.length) * j := by
      rw [show ((x + j - 1) / j + pcount r j - ((r.length + 1 : Nat) : Int)) = ((x + j - 1) / j - 1) + (pcount r j - r.length) by push_cast; omega, Int.add_mul, Int.sub_mul, Int.one_mul]
    rw [e]
    push_cast
    omega
theorem pcount_most (ls : List Int) {j : Int} (hj : 1 ≤ j) : pcount ls j ≤ ls.length + (ls.sum - ls.length) / j := by
  have := (Int.le_ediv_iff_mul_le (by omega : 0 < j)).mpr (pcount_dn ls hj)
  omega
theorem pcount_anti {ls : List Int} {j k : Int} (hp : ∀ x ∈ ls, 1 ≤ x) (hj : 1 ≤ j) (hk : j ≤ k) : pcount ls k ≤ pcount ls j := by
  induction ls with
  | nil => exact Int.le_refl _
  | cons x r ih =>
    rw [pcount_cons, pcount_cons]
    have h1 := ih fun y hy => hp y (List.mem_cons_of_mem _ hy)
    have hx := hp x List.mem_cons_self
    have h2 : (x + k - 1) / k ≤ (x + j - 1) / j := (ceil_le (by omega)).mpr (Int.le_trans (ceil_up hj) (Int.mul_le_mul_of_nonneg_left hk (ceil_nonneg (by omega) hj)))
    omega
theorem pcount_mult {ls : List Int} {j m : Int} (hj : 1 ≤ j) (hm : 1 ≤ m) : pcount ls j ≤ m * pcount ls (j * m) := by
  have hjm : 1 ≤ j * m := by have := Int.mul_le_mul hj hm (by omega) (by omega); omega
  induction ls with
  | nil => rw [pcount_nil, pcount_nil, Int.mul_zero]; exact Int.le_refl _
  | cons x r ih =>
    rw [pcount_cons, pcount_cons, Int.mul_add]
    have h2 : (x + j - 1) / j ≤ m * ((x + j * m - 1) / (j * m)) := (ceil_le hj).mpr (by
      have := ceil_up (x := x) hjm
      rw [show m * ((x + j * m - 1) / (j * m)) * j = (x + j * m - 1) / (j * m) * (j * m) by rw [Int.mul_comm m, Int.mul_assoc, Int.mul_comm m j]]
      exact this)
    omega
theorem pcount_reverse (ls : List Int) (j : Int) : pcount ls.reverse j = pcount ls j := by
  induction ls with
  | nil => rfl
  | cons x r ih => rw [List.reverse_cons, pcount_append, ih, pcount_cons, pcount_cons, pcount_nil]; omega
theorem pcount_cut (ls : List Int) (n : Nat) (j : Int) : pcount (ls.take n) j + pcount (ls.drop n) j = pcount ls j := by
  rw [← pcount_append, List.take_append_drop]
theorem ceil_join {x y j : Int} (hj : 1 ≤ j) : (x + y + j - 1) / j ≤ (x + j - 1) / j + (y + j - 1) / j ∧ (x + j - 1) / j + (y + j - 1) / j ≤ (x + y + j - 1) / j + 1 := by
  have a1 := ceil_up (x := x) hj
  have a2 := ceil_dn (x := x) hj
  have b1 := ceil_up (x := y) hj
  have b2 := ceil_dn (x := y) hj
  have c1 := ceil_up (x := x + y) hj
  refine ⟨(ceil_le hj).mpr (by rw [Int.add_mul]; omega), ?_⟩
  generalize (x + j - 1) / j = p at *
  generalize (y + j - 1) / j = q at *
  generalize (x + y + j - 1) / j = r at *
  apply Int.le_of_lt_add_one
  apply Int.lt_of_not_ge
  intro h
  have h1 : (r + 2) * j ≤ (p + q) * j := Int.mul_le_mul_of_nonneg_right (by omega) (by omega)
  rw [Int.add_mul, Int.add_mul] at h1
  omega
theorem pcount_sum {ls : List Int} {j : Int} (hp : ∀ x ∈ ls, 1 ≤ x) (hl : (ls.length : Int) ≤ ls.sum) (hj : 1 ≤ j) : pcount ls j ≤ ls.sum := by
  have := pcount_most ls hj
  have := Int.ediv_le_self j (show 0 ≤ ls.sum - ls.length by omega)
  omega
/-- the law's draws: three numbers in a list at s; n: at most so many mixed draws so far -/
def Rng (H : Hp) (s : Addr) (n : Nat) : Prop := ∃ l m c : Int, H s = some (.lst [.int l, .int m, .int c]) ∧ 0 ≤ l ∧ 0 ≤ m ∧ m < 2 ^ 62 ∧ 0 ≤ c ∧ c ≤ n
section
variable {H H' : Hp} {s p : Addr} {n m : Nat} {o : HO}
theorem Rng.keep (h : Rng H s n) (e : H' s = H s) : Rng H' s n := by
  obtain ⟨l, m, c, h1, h2⟩ := h
  exact ⟨l, m, c, by rw [e]; exact h1, h2⟩
theorem Rng.new (h : Rng H s n) (hp : H p = none) : Rng (upd H p o) s n := by
  obtain ⟨l, m, c, h1, h2⟩ := h
  exact ⟨l, m, c, by rw [upd_ne (ne_of_none h1 hp)]; exact h1, h2⟩
theorem Rng.put (h : Rng H s n) (e : p ≠ s) : Rng (upd H p o) s n := by
  obtain ⟨l, m, c, h1, h2⟩ := h
  exact ⟨l, m, c, by rw [upd_ne e.symm]; exact h1, h2⟩
theorem Rng.ne (h : Rng H s n) (hp : H p = none) : p ≠ s := by
  obtain ⟨l, m, c, h1, h2⟩ := h
  exact (ne_of_none h1 hp).symm
theorem Rng.up (h : Rng H s n) (e : n ≤ m) : Rng H s m := by
  obtain ⟨l, m', c, h1, h2, h3, h4, h5, h6⟩ := h
  exact ⟨l, m', c, h1, h2, h3, h4, h5, by omega⟩
theorem Rng.same (h : Rng H s n) (k : HS.Keep (fun _ => False) H H') : Rng H' s n := by
  obtain ⟨l, m', c, h1, h2⟩ := h
  exact ⟨l, m', c, k _ _ h1 id, h2⟩
end
/-- lengths of chapters, up to T -/
def Lens (ls : List Int) (T : Int) : Prop := ∀ x ∈ ls, 1 ≤ x ∧ x ≤ T
theorem Lens.one {ls : List Int} {T : Int} (h : Lens ls T) : ∀ x ∈ ls, 1 ≤ x := fun x hx => (h x hx).1
theorem pow_up (i : Nat) : (2 : Int) ^ (200 * (i + 1)) < 2 ^ (200 * (i + 1 + 1)) := by
  have e : (2 : Int) ^ (200 * (i + 1 + 1)) = 2 ^ (200 * (i + 1)) * 2 ^ 200 := by rw [← Int.pow_add, show 200 * (i + 1) + 200 = 200 * (i + 1 + 1) by omega]
  have z : (0 : Int) < 2 ^ (200 * (i + 1)) := Int.pow_pos (by decide)
  rw [e]
  generalize (2 : Int) ^ (200 * (i + 1)) = P at z ⊢
  omega
theorem rng_step {d s : Int} {i : Nat} (h0 : 0 ≤ d) (h : d < 2 ^ (200 * (i + 1))) (s0 : 0 ≤ s) (s1 : s < 10 ^ 60) : 0 ≤ d * 10 ^ 60 + s ∧ d * 10 ^ 60 + s < 2 ^ (200 * (i + 1 + 1)) := by
  have e : (2 : Int) ^ (200 * (i + 1 + 1)) = 2 ^ (200 * (i + 1)) * 2 ^ 200 := by rw [← Int.pow_add, show 200 * (i + 1) + 200 = 200 * (i + 1 + 1) by omega]
  rw [e]
  generalize (2 : Int) ^ (200 * (i + 1)) = P at h ⊢
  omega
/-- some chapters -/
def Ls (H : Hp) (p : Addr) (ls : List Int) : Prop := H p = some (.lst (ls.map V.int))
/-- the law's draws as one of the objects told -/
def RngO (n : Nat) : HO → Prop := fun o => ∃ l m c : Int, o = .lst [.int l, .int m, .int c] ∧ 0 ≤ l ∧ 0 ≤ m ∧ m < 2 ^ 62 ∧ 0 ≤ c ∧ c ≤ n
section
variable {H0 H H' : Hp} {S : Addr → Prop} {l : HS.WdL} {s : Addr} {n m : Nat}
theorem rng_o (h : Rng H s n) : ∃ o, H s = some o ∧ RngO n o := by
  obtain ⟨a, b, c, h1, h2⟩ := h
  exact ⟨_, h1, a, b, c, rfl, h2⟩
theorem wd_rng (h : Rng H s n) : HS.Wd H H (fun a => a = s) [(s, RngO n)] := by
  obtain ⟨o, h1, h2⟩ := rng_o h
  exact HS.Wd.one h1 h2 rfl
theorem wd_rngs {S : Addr → Prop} (h : Rng H s n) (hs : S s) : HS.Wd H H S [(s, RngO n)] := by
  obtain ⟨o, h1, h2⟩ := rng_o h
  exact HS.Wd.one h1 h2 hs
theorem _root_.HS.Wd.rng (W : HS.Wd H0 H S l) (i : Nat) (e : l[i]? = some (s, RngO n)) : Rng H s n := by
  obtain ⟨o, h, a, b, c, rfl, h2⟩ := W.get i e
  exact ⟨a, b, c, h, h2⟩
theorem _root_.HS.Wd.drawn (W : HS.Wd H0 H S l) (i : Nat) (e : l[i]? = some (s, RngO n)) (k : HS.Keep (fun a => a = s) H H') (r : Rng H' s m) : HS.Wd H0 H' S (l.set i (s, RngO m)) := by
  obtain ⟨o, h1, h2⟩ := rng_o r
  exact W.chg i e k h1 h2
theorem _root_.HS.Wd.rup (W : HS.Wd H0 H S l) (i : Nat) (e : l[i]? = some (s, RngO n)) (h : n ≤ m) : HS.Wd H0 H S (l.set i (s, RngO m)) :=
  W.weak i e fun o ⟨a, b, c, h1, h2, h3, h4, h5, h6⟩ => ⟨a, b, c, h1, h2, h3, h4, h5, by omega⟩
end
theorem none_ahead {ds : List PyData} {d : PyData} {j : Nat} (h : ∀ m < j, (ds[m]?.map fun z => PyData.eqv z d) = some false) : ∀ (m : Nat) (z : PyData), m < j → ds[m]? = some z → PyData.eqv z d = false := fun m z hm hz => by
  have e := h m hm
  rw [hz] at e
  exact Option.some.inj e
/-- the first place of a length below 1 -/
def badAt : List Int → Option Nat
  | [] => none
  | x :: r => if x < 1 then some 0 else (badAt r).map (· + 1)
theorem badAt_none : ∀ {ls : List Int}, (∀ x ∈ ls, 1 ≤ x) → badAt ls = none
  | [], _ => rfl
  | x :: r, h => by
    have h1 := h x List.mem_cons_self
    rw [badAt, if_neg (by omega), badAt_none fun y hy => h y (List.mem_cons_of_mem _ hy)]; rfl
theorem badAt_some : ∀ {ls : List Int}, (∃ x ∈ ls, x < 1) → ∃ i, badAt ls = some i
  | [], h => by obtain ⟨x, hx, _⟩ := h; cases hx
  | x :: r, h => by
    rw [badAt]
    by_cases h1 : x < 1
    · exact ⟨0, by rw [if_pos h1]⟩
    · obtain ⟨y, hy, h2⟩ := h
      rcases List.mem_cons.mp hy with e | hy
      · subst e; exact absurd h2 h1
      · obtain ⟨i, e⟩ := badAt_some ⟨y, hy, h2⟩
        exact ⟨i + 1, by rw [if_neg h1, e]; rfl⟩
/-- the places of the lengths below 1 -/
def badsFrom : Nat → List Int → List Int
  | _, [] => []
  | k, x :: r => if x < 1 then (k : Int) :: badsFrom (k + 1) r else badsFrom (k + 1) r
theorem badsFrom_snoc : ∀ (k : Nat) (ls : List Int) (x : Int), badsFrom k (ls ++ [x]) = badsFrom k ls ++ (if x < 1 then [((k + ls.length : Nat) : Int)] else [])
  | k, [], x => by
    show badsFrom k [x] = _
    rw [badsFrom, badsFrom, badsFrom]
    show _ = if x < 1 then [((k + 0 : Nat) : Int)] else []
    rw [Nat.add_zero]
  | k, y :: r, x => by
    rw [List.cons_append, badsFrom, badsFrom, badsFrom_snoc (k + 1) r x, List.length_cons, show k + 1 + r.length = k + (r.length + 1) by omega]
    split <;> rfl
theorem badsFrom_len (k : Nat) : ∀ ls : List Int, (badsFrom k ls).length ≤ ls.length
  | [] => Nat.le_refl _
  | x :: r => by
    have := badsFrom_len (k + 1) r
    rw [badsFrom]
    split
    · rw [List.length_cons, List.length_cons]; omega
    · rw [List.length_cons]; omega
theorem badsFrom_head : ∀ (k : Nat) (ls : List Int) (i : Nat), badAt ls = some i → (badsFrom k ls)[0]? = some ((k + i : Nat) : Int)
  | k, x :: r, i, h => by
    rw [badAt] at h
    rw [badsFrom]
    by_cases h1 : x < 1
    · rw [if_pos h1] at h ⊢
      injection h with h; subst h; rfl
    · rw [if_neg h1] at h ⊢
      obtain ⟨j, e, rfl⟩ := Option.map_eq_some_iff.mp h
      rw [badsFrom_head (k + 1) r j e, show k + 1 + j = k + (j + 1) by omega]
/-- what a hidden book keeps: its own list at b, and how many questions it has answered -/
def hf (b : Addr) (n : Int) : List (Str × V) := [("_lengths", V.ref b), ("_asked", V.int n)]
theorem hf_ne : (("_asked" : Str) == "_lengths") = false := by decide +kernel
theorem hf_ne2 : ¬ (("_lengths" : Str) = "_asked") := by decide +kernel
theorem hf_lengths (b : Addr) (n : Int) : (hf b n).lookup ("_lengths" : Str) = some (.ref b) := by
  unfold hf; rw [List.lookup_cons, beq_self_eq_true]
theorem hf_asked (b : Addr) (n : Int) : (hf b n).lookup ("_asked" : Str) = some (.int n) := by
  unfold hf; rw [List.lookup_cons, hf_ne, List.lookup_cons, beq_self_eq_true]
theorem hf_no {b : Addr} {n : Int} {m : Str} (h1 : (m == "_lengths") = false) (h2 : (m == "_asked") = false) : (hf b n).lookup m = none := by
  unfold hf; rw [List.lookup_cons, h1, List.lookup_cons, h2]; rfl
theorem hf_put (b : Addr) (n t : Int) : putF "_asked" (.int t) (hf b n) = hf b t := by
  unfold hf putF
  rw [if_neg hf_ne2]
  unfold putF
  rw [if_pos rfl]
theorem hf_new (b : Addr) (n : Int) : putF "_asked" (.int n) (putF "_lengths" (.ref b) []) = hf b n := by
  show (if ("_lengths" : Str) = "_asked" then _ else (("_lengths" : Str), V.ref b) :: putF "_asked" (V.int n) []) = _
  rw [if_neg hf_ne2]
  rfl
/-- a hidden book at o: the object of the class at C, its list at b, the lengths ls, n questions answered -/
def HidAt (C : Addr) (H : Hp) (o b dx : Addr) (ls : List Int) (n : Int) : Prop := H o = some (.ins C dx (hf b n)) ∧ H b = some (.lst (ls.map V.int))
section
variable {C o b dx p : Addr} {H H' : Hp} {ls : List Int} {n : Int}
theorem HidAt.same (h : HidAt C H o b dx ls n) (k : HS.Keep (fun _ => False) H H') : HidAt C H' o b dx ls n := ⟨k _ _ h.1 id, k _ _ h.2 id⟩
theorem HidAt.nob (h : HidAt C H o b dx ls n) : b ≠ o := fun e => by have h1 := h.1; rw [← e, h.2] at h1; cases h1
theorem HidAt.ne (h : HidAt C H o b dx ls n) (hp : H p = none) : p ≠ o := (ne_of_none h.1 hp).symm
theorem HidAt.put {u : HO} (h : HidAt C H o b dx ls n) (e1 : p ≠ o) (e2 : p ≠ b) : HidAt C (upd H p u) o b dx ls n := ⟨by rw [upd_ne e1.symm]; exact h.1, by rw [upd_ne e2.symm]; exact h.2⟩
theorem HidAt.new {u : HO} (h : HidAt C H o b dx ls n) (hp : H p = none) : HidAt C (upd H p u) o b dx ls n := h.same (.new hp)
end
section
variable {C o b dx s : Addr} {H H1 H' : Hp} {ls : List Int} {n : Int} {m : Nat} {S : Addr → Prop}
theorem HidAt.sameS (h : HidAt C H o b dx ls n) (k : HS.Keep (fun a => a = s) H H') (e1 : o ≠ s) (e2 : b ≠ s) : HidAt C H' o b dx ls n := ⟨k _ _ h.1 e1, k _ _ h.2 e2⟩
theorem Rng.sameO (h : Rng H s m) (k : HS.Keep (fun a => a = o) H H') (e : s ≠ o) : Rng H' s m := by
  obtain ⟨l, m', c, h1, h2⟩ := h
  exact ⟨l, m', c, k _ _ h1 e, h2⟩
theorem keep_tro (k : HS.Keep S H H1) (k2 : HS.Keep (fun a => a = o) H1 H') (h : H o = none) : HS.Keep S H H' := fun a u e n => k2 a u (k a u e n) (fun z => by rw [z, h] at e; cases e)
end
theorem pcount_law (ls : List Int) (j : Int) : (ls.map fun x => (x + j - 1) / j).sum = pcount ls j := rfl
/-- a new hidden book, told -/
theorem wd_hid {C o dx b : Addr} {H0 H H' : Hp} {S : Addr → Prop} {l : HS.WdL} {ls : List Int} {n : Int} (W : HS.Wd H0 H S l) (ho : H o = none) (hdx : H dx = none) (hne : dx ≠ o)
    (k : HS.Keep (fun a => a = o) (upd (upd H dx (.own o)) o (.ins C dx [])) H') (hb : upd (upd H dx (.own o)) o (.ins C dx []) b = none) (h : HidAt C H' o b dx ls n) :
    HS.Wd H0 H' S (l ++ [(dx, fun _ => True)] ++ [(o, Eq (.ins C dx (hf b n)))] ++ [(b, Eq (.lst (ls.map V.int)))]) := by
  have W1 := W.new (o := .own o) (P := fun _ => True) hdx trivial
  have W2 := W1.new (o := .ins C dx []) (P := fun _ => True) (by rw [upd_ne hne.symm]; exact ho) trivial
  have W1' : HS.Wd H0 (upd (upd H dx (.own o)) o (.ins C dx [])) S (l ++ [(dx, fun _ => True)]) := W1.same (.new (by rw [upd_ne hne.symm]; exact ho))
  have n1 : ∀ x ∈ l ++ [(dx, fun _ => True)], x.1 ≠ o := W1.miss (by rw [upd_ne hne.symm]; exact ho)
  have so : S o ∨ H0 o = none := by
    by_cases s : S o
    · exact .inl s
    · exact .inr (W.kp.free ho s)
  have W3 := W1'.chgO k n1 so
  have W4 := W1.madeT (H := upd H dx (.own o)) (P := Eq (.ins C dx (hf b n))) W3 rfl (by rw [upd_ne hne.symm]; exact ho) h.1 rfl
  exact W2.madeT (P := Eq (.lst (ls.map V.int))) W4 (by simp) hb h.2 rfl
theorem wd_at {C o dx b : Addr} {H0 H : Hp} {S : Addr → Prop} {l : HS.WdL} {ls : List Int} {n : Int} (W : HS.Wd H0 H S l) (i j : Nat) (e : l[i]? = some (o, Eq (.ins C dx (hf b n)))) (f : l[j]? = some (b, Eq (.lst (ls.map V.int)))) : HidAt C H o b dx ls n := ⟨W.at i e, W.at j f⟩
structure KindOf (K : PySem.W.Frag) (A : Ad) (D : Addr) (c : Nat) : Prop where
  lt : c < 7
  e0 : PySem.W.kitOne K (.ref D) (.ref A.c_InvalidBook) = some (decide (c = 0))
  e1 : PySem.W.kitOne K (.ref D) (.ref A.c_InvalidSize) = some (decide (c = 1))
  e2 : PySem.W.kitOne K (.ref D) (.ref A.c_InvalidTable) = some (decide (c = 2))
  e3 : PySem.W.kitOne K (.ref D) (.ref A.c_InvalidChain) = some (decide (c = 3))
  e4 : PySem.W.kitOne K (.ref D) (.ref A.c_InvalidNumber) = some (decide (c = 4))
  e5 : PySem.W.kitOne K (.ref D) (.ref A.c_NothingToUndo) = some (decide (c = 5))
  e6 : PySem.W.kitOne K (.ref D) (.ref A.c_Unreadable) = some (decide (c = 6))
  eb : PySem.W.kitOne K (.ref D) (.ref A.c_BookError) = some true
  ev : PySem.W.kitOne K (.ref D) (.type "ValueError") = some true
def kword : Nat → Str
  | 0 => "book"
  | 1 => "size"
  | 2 => "table"
  | 3 => "chain"
  | 4 => "number"
  | 5 => "undo"
  | _ => "read"
abbrev L22 (A : Ad) (s : Addr) (m : Nat) (q1 q2 p3 o1 o2 b1 b2 dx1 dx2 ps pc : Addr) (l1 l2 : List Int) (c1 c2 : Int) : HS.WdL := [(s, RngO m), (q1, Eq (.lst (l1.map V.int))), (q2, Eq (.lst (l2.map V.int))), (p3, Eq (.lst [.ref q1, .ref q2])),
  (o1, Eq (.ins A.c_HiddenBook dx1 (hf b1 c1))), (b1, Eq (.lst (l1.map V.int))), (o2, Eq (.ins A.c_HiddenBook dx2 (hf b2 c2))), (b2, Eq (.lst (l2.map V.int))), (ps, Eq (.lst [.ref o1, .ref o2])), (pc, Eq (.lst [.int c1, .int c2]))]

section
variable {P : Program} {w : World} {K : PySem.W.Frag} {mg : Str → Option Value} {base : Heap} {A : Ad}
def sp_InvalidBook___init__ (K : PySem.W.Frag) : Sp := fun vs H Q _ => ∃ (a C : Addr) (w : V), vs = [.ref a, w] ∧ (OexC K C ∧ PySem.W.findIn K (.ref C) "value" = some none ∧ H a = some (exo a C none) ∧ ∀ H' d, HS.Keep (fun x => x = a) H H' → H d = none → d ≠ a → H' a = some (exo a C (some d)) → H' d = some (exd d [("value", w)]) → Q .non H')
theorem ok_InvalidBook___init__ (T : Txt K mg A) : FnOk P w K mg base CX0 1 A.a_InvalidBook___init__ A.d_InvalidBook___init__ ["self", "value"] (sp_InvalidBook___init__ K) := by
  refine T.F_InvalidBook___init__.ok sc_InvalidBook___init__ (fun vs H Q E h => ?_) (fun cdv A0 outer s H vs Q E hr h => ?_)
  · obtain ⟨a, C, w, rfl, hw⟩ := h
    rfl
  · obtain ⟨a, C, w, rfl, hw⟩ := h
    refine ⟨_, (pss_one (ps_ost (pv 0) (pv 1))), ?_⟩
    obtain ⟨T1, hv, ha, k⟩ := hw
    walk_at "hs"
    refine ⟨a, C, rfl, T1, hv, .inl ⟨ha, fun d hd hne => ?_⟩⟩
    walk_at "hs"
    exact k _ d ((HS.Keep.new hd).at rfl) hd (by first | exact hne | exact Ne.symm hne) upd_same (by rw [upd_ne hne]; exact upd_same)
def sp_InvalidSize___init__ (K : PySem.W.Frag) : Sp := fun vs H Q _ => ∃ (a C : Addr) (w : V), vs = [.ref a, w] ∧ (OexC K C ∧ PySem.W.findIn K (.ref C) "value" = some none ∧ H a = some (exo a C none) ∧ ∀ H' d, HS.Keep (fun x => x = a) H H' → H d = none → d ≠ a → H' a = some (exo a C (some d)) → H' d = some (exd d [("value", w)]) → Q .non H')
theorem ok_InvalidSize___init__ (T : Txt K mg A) : FnOk P w K mg base CX0 1 A.a_InvalidSize___init__ A.d_InvalidSize___init__ ["self", "value"] (sp_InvalidSize___init__ K) := by
  refine T.F_InvalidSize___init__.ok sc_InvalidSize___init__ (fun vs H Q E h => ?_) (fun cdv A0 outer s H vs Q E hr h => ?_)
  · obtain ⟨a, C, w, rfl, hw⟩ := h
    rfl
  · obtain ⟨a, C, w, rfl, hw⟩ := h
    refine ⟨_, (pss_one (ps_ost (pv 0) (pv 1))), ?_⟩
    obtain ⟨T1, hv, ha, k⟩ := hw
    walk_at "hs"
    refine ⟨a, C, rfl, T1, hv, .inl ⟨ha, fun d hd hne => ?_⟩⟩
    walk_at "hs"
    exact k _ d ((HS.Keep.new hd).at rfl) hd (by first | exact hne | exact Ne.symm hne) upd_same (by rw [upd_ne hne]; exact upd_same)
def sp_check_book (K : PySem.W.Frag) (A : Ad) : Sp := fun vs H Q E => ∃ (b : Addr) (ls : List Int), vs = [.ref b] ∧ (SqL K H b (ls.map V.int) ∧ (∀ i, badAt ls = some i → ∀ H' d, HS.Keep (fun _ => False) H H' → H d = none → H' d = some (.xd [("value", .int (i : Nat))]) → E (.ref A.c_InvalidBook) (some d) H') ∧
  (badAt ls = none → ∀ H', HS.Keep (fun _ => False) H H' → Q .non H'))
theorem ok_check_book (T : Txt K mg A) : FnOk P w K mg base (L2.CX P w) 3 A.a_check_book A.d_check_book ["book"] (sp_check_book K A) := by
  have G_InvalidBook___init__ : FnOk P w K mg base CX0 1 A.a_InvalidBook___init__ A.d_InvalidBook___init__ ["self", "value"] (sp_InvalidBook___init__ K) := ok_InvalidBook___init__ T
  refine L2.Fun.okX T.F_check_book sc_check_book (fun vs H Q E h => ?_) (fun cdv A0 outer s H vs Q E hr h => ?_)
  · obtain ⟨b, ls, rfl, hw⟩ := h
    rfl
  · obtain ⟨b, ls, rfl, hw⟩ := h
    refine ⟨_, (pss_one (ps_for (passes_of rfl) rfl (HS.kien K (pi_enum (by rfl) T.z_enumerate (pa_cons (pv 0) pa_nil))) (HS.kgt K (pg_tup rfl (pgs_cons (pg_name (i := 1) sc_check_book.nd rfl (.inl rfl)) (pgs_cons (pg_name (i := 2) sc_check_book.nd rfl (.inl rfl)) pgs_nil))))
      (pss_one (ps_if (pt_cmpR op_lt (pv 2) pe_int (nomark _))
      (pss_one (ps_raise rfl (takes_of rfl rfl rfl rfl) (pmk_oex T.C_InvalidBook T.i_InvalidBook T.t_InvalidBook G_InvalidBook___init__ hr T.b_InvalidBook___init__ .nil pass0 (by rfl) T.m_InvalidBook (pa_cons (pv 1) pa_nil))))
      pss_nil)))), ?_⟩
    obtain ⟨hb, kE, k⟩ := hw
    walk_at "hs"
    refine ⟨b, ls.map V.int, rfl, hb, for_it walk_enum (fun i σ H' => HS.Keep (fun _ => False) H H' ∧ badAt ls = (badAt (ls.drop i)).map (· + i) ∧ ∃ x1 x2, σ = [some (.ref b), x1, x2]) ⟨.refl, by rw [List.drop_zero]; cases badAt ls <;> rfl, _, _, rfl⟩ (fun i σ H' _ ⟨K', _⟩ => K'.sq hb id) ?_ ?_⟩
    · rintro i x σ H1 H2 hi ⟨K1, hd, x1, x2, rfl⟩ ⟨T1, u, v, rfl, hT, rfl, e1, e2⟩
      cases e1
      obtain ⟨z, rfl, hz, hil⟩ := HS.get_int e2
      have ez : ls.drop i = z :: ls.drop (i + 1) := by rw [List.drop_eq_getElem_cons hil]; rw [List.getElem?_eq_getElem hil] at hz; injection hz with hz; rw [hz]
      rw [ez, badAt] at hd
      have K2 := K1.put (o := .tup [V.int (i : Nat), V.int z]) (K1.free hT id)
      walk_at "hs"
      refine HS.itd (fun h1 => ?_) (fun h1 => ?_)
      · rw [if_pos h1] at hd
        have e0 : badAt ls = some i := by rw [hd, Option.map_some, Nat.zero_add]
        walk_at "hs"
        exact HS.mk1 (fun H' Q' E' b h1 h2 h3 h4 => ⟨b, _, _, rfl, h1, h2, h3, h4⟩) T.C_InvalidBook T.n_InvalidBook fun H' d k' hd' e => kE i e0 H' d (K2.trans k') (K2.free hd' id) e
      · rw [if_neg h1, Option.map_map] at hd
        walk_at "hs"
        refine ⟨K2, ?_, _, _, rfl⟩
        rw [hd]
        congr 1
        funext y
        show y + 1 + i = y + (i + 1)
        omega
    · rintro σ H1 ⟨K1, hd, x1, x2, rfl⟩
      rw [List.length_map, List.drop_length] at hd
      walk_at "hs"
      exact k hd _ K1
def sp_check_size (K : PySem.W.Frag) (A : Ad) : Sp := fun vs H Q E => ∃ (j : Int), vs = [.int j] ∧ ((j < 1 → ∀ H' d, HS.Keep (fun _ => False) H H' → H d = none → H' d = some (.xd [("value", .int j)]) → E (.ref A.c_InvalidSize) (some d) H') ∧ (1 ≤ j → Q .non H))
theorem ok_check_size (T : Txt K mg A) : FnOk P w K mg base (L2.CX P w) 3 A.a_check_size A.d_check_size ["size"] (sp_check_size K A) := by
  have G_InvalidSize___init__ : FnOk P w K mg base CX0 1 A.a_InvalidSize___init__ A.d_InvalidSize___init__ ["self", "value"] (sp_InvalidSize___init__ K) := ok_InvalidSize___init__ T
  refine L2.Fun.okX T.F_check_size sc_check_size (fun vs H Q E h => ?_) (fun cdv A0 outer s H vs Q E hr h => ?_)
  · obtain ⟨j, rfl, hw⟩ := h
    rfl
  · obtain ⟨j, rfl, hw⟩ := h
    refine ⟨_, (pss_one (ps_if (pt_cmpR op_lt (pv 0) pe_int (nomark _))
      (pss_one (ps_raise rfl (takes_of rfl rfl rfl rfl) (pmk_oex T.C_InvalidSize T.i_InvalidSize T.t_InvalidSize G_InvalidSize___init__ hr T.b_InvalidSize___init__ .nil pass0 (by rfl) T.m_InvalidSize (pa_cons (pv 0) pa_nil))))
      pss_nil)), ?_⟩
    obtain ⟨kE, k⟩ := hw
    walk_at "hs"
    refine HS.itd (fun h1 => ?_) (fun h1 => ?_)
    · walk_at "hs"
      exact HS.mk1 (fun H' Q' E' b h1 h2 h3 h4 => ⟨b, _, _, rfl, h1, h2, h3, h4⟩) T.C_InvalidSize T.n_InvalidSize fun H' d k' hd' e => kE h1 H' d k' hd' e
    · walk_at "hs"
      exact k (by omega)
def sp_count_pages (K : PySem.W.Frag) : Sp := fun vs H Q _ => ∃ (b : Addr) (ls : List Int) (j : Int), vs = [.ref b, .int j] ∧ (SqL K H b (ls.map V.int) ∧ ls.length ≤ 50000 ∧ 1 ≤ j ∧ j < 2 ^ 200 ∧ ∀ H', HS.Keep (fun _ => False) H H' → Q (.int (pcount ls j)) H')
theorem ok_count_pages (T : Txt K mg A) : FnOk P w K mg base CX0 2 A.a_count_pages A.d_count_pages ["book", "size"] (sp_count_pages K) := by
  refine T.F_count_pages.ok sc_count_pages (fun vs H Q E h => ?_) (fun cdv A0 outer s H vs Q E hr h => ?_)
  · obtain ⟨b, ls, j, rfl, hw⟩ := h
    rfl
  · obtain ⟨b, ls, j, rfl, hw⟩ := h
    refine ⟨_, (pss_one (ps_ret (pe_op op_add (pe_callB (HS.klen K) (by rfl) T.z_len PySem.boot_len (pa_cons (pv 0) pa_nil)) (pe_callB (HS.ksum K rfl) (by rfl) T.z_sum (by decide +kernel) (pa_cons (pe_lc (own := [("length", 2)]) (g := gName 2) (tt := tYes) rfl sc_count_pages.nd (HS.kil K (pi_list (pv 0))) (blkOk_by (own := [("length", 2)]) (N := N_count_pages) (sc := defScope s_count_pages) (by decide +kernel)) (fun _ _ _ _ _ => pg_name (i := 2) sc_count_pages.nd rfl (by first | exact .inl rfl | exact .inr rfl)) (fun _ _ _ _ _ => pts_nil) (fun _ _ _ _ _ => (pe_op op_fdivW (pe_op op_sub (pv 2) pe_int) (pv 1)))) pa_nil))))), ?_⟩
    obtain ⟨hb, hl, h1, h2, k⟩ := hw
    walk_at "hs"
    rw [List.length_map]
    refine ⟨⟨_, hb⟩, fun D hD => lc_list (xs := ls.map V.int) (fun i H' => HS.Keep (fun _ => False) H H' ∧ H' D = some (.lst (((ls.take i).map fun x => (x - 1) / j).map V.int))) ⟨.new hD, upd_same⟩ (fun i H' _ ⟨K', _⟩ => K'.sq hb id) ?_ ?_⟩
    · rintro i x H1 hi ⟨K1, h3⟩
      obtain ⟨z, rfl, hz, hil⟩ := HS.get_int hi
      walk_at "hs"
      refine ⟨HS.divW 200 (by omega) h2 (by decide) (by decide), ?_⟩
      refine ⟨_, h3, HS.sz (by simp; omega), K1.put hD, ?_⟩
      rw [upd_same, List.take_add_one, hz, List.map_append, List.map_append]
      rfl
    · rintro H1 ⟨K1, h3⟩
      rw [List.length_map, List.take_length] at h3
      walk_at "hs"
      rw [pcount_less1 h1]
      exact k _ K1
def sp_HiddenBook___init__ (K : PySem.W.Frag) (A : Ad) : Sp := fun vs H Q E => ∃ (x dx bk : Addr) (ls : List Int), vs = [.ref x, .ref bk] ∧ (H x = some (.ins A.c_HiddenBook dx []) ∧ SqL K H bk (ls.map V.int) ∧ ls.length ≤ 1000 ∧
  (∀ i, badAt ls = some i → ∀ H' d, HS.Keep (fun _ => False) H H' → H d = none → H' d = some (.xd [("value", .int (i : Nat))]) → E (.ref A.c_InvalidBook) (some d) H') ∧
  (badAt ls = none → ∀ H' b, HS.Keep (fun a => a = x) H H' → H b = none → HidAt A.c_HiddenBook H' x b dx ls 0 → Q .non H'))
theorem ok_HiddenBook___init__ (T : Txt K mg A) : FnOk P w K mg base (L2.CX P w) 4 A.a_HiddenBook___init__ A.d_HiddenBook___init__ ["self", "book"] (sp_HiddenBook___init__ K A) := by
  have G_check_book : FnOk P w K mg base (L2.CX P w) 3 A.a_check_book A.d_check_book ["book"] (sp_check_book K A) := ok_check_book T
  refine L2.Fun.okX T.F_HiddenBook___init__ sc_HiddenBook___init__ (fun vs H Q E h => ?_) (fun cdv A0 outer s H vs Q E hr h => ?_)
  · obtain ⟨x, dx, bk, ls, rfl, hw⟩ := h
    rfl
  · obtain ⟨x, dx, bk, ls, rfl, hw⟩ := h
    refine ⟨_, (pss_cons (ps_expr (pe_call G_check_book hr (by rfl) T.g_check_book T.F_check_book.kp T.b_check_book .nil (passes_call (takes_of rfl rfl rfl rfl) (fun _ _ _ _ h => h)) (pa_cons (pv 1) pa_nil)))
    (pss_cons (ps_fld (pv 0) (pe_callTy (HS.klst K) (by rfl) T.z_list (by decide +kernel) (pa_cons (pv 1) pa_nil)) rfl)
    (pss_one (ps_fld (pv 0) pe_int rfl)))), ?_⟩
    obtain ⟨hx, hb, hn, kE, k⟩ := hw
    walk_at "hs"
    refine ⟨bk, ls, rfl, hb, kE, fun hl H1 K1 => ?_⟩
    have k := k hl
    have hx1 := K1 _ _ hx id
    have hb1 := K1.sq hb id
    walk_at "hs"
    refine ⟨bk, _, rfl, .inl hb1, fun q hq => ?_⟩
    have hq0 := K1.free hq id
    have nq := ne_of_none hx1 hq
    walk_at "hs"
    refine ⟨x, _, dx, [], rfl, by rw [upd_ne nq]; exact hx1, T.C_HiddenBook, T.n_HiddenBook__lengths, (show (0 : Nat) < 1000 by decide), ?_⟩
    walk_at "hs"
    refine ⟨x, _, dx, _, rfl, upd_same, T.C_HiddenBook, T.n_HiddenBook__asked, (show (1 : Nat) < 1000 by decide), ?_⟩
    walk_at "hs"
    rw [hf_new]
    have K2 : HS.Keep (fun a => a = x) H (upd (upd (upd H1 q (HO.lst (ls.map V.int))) x (.ins A.c_HiddenBook dx (putF "_lengths" (V.ref q) []))) x (.ins A.c_HiddenBook dx (hf q 0))) := HS.Keep.at (HS.Keep.at (HS.Keep.put (HS.Keep.any K1) hq0) rfl) rfl
    exact k _ q K2 hq0 ⟨upd_same, by rw [upd_ne nq.symm, upd_ne nq.symm, upd_same]⟩
def sp_HiddenBook_ask (K : PySem.W.Frag) (A : Ad) : Sp := fun vs H Q E => ∃ (o b dx : Addr) (ls : List Int) (n j : Int), vs = [.ref o, .int j] ∧ (HidAt A.c_HiddenBook H o b dx ls n ∧ ls.length ≤ 1000 ∧ j < 2 ^ 200 ∧
  (j < 1 → ∀ H' d, HS.Keep (fun _ => False) H H' → H d = none → H' d = some (.xd [("value", .int j)]) → E (.ref A.c_InvalidSize) (some d) H') ∧
  (1 ≤ j → ∀ H', HS.Keep (fun a => a = o) H H' → HidAt A.c_HiddenBook H' o b dx ls (n + 1) → Q (.int (pcount ls j)) H'))
theorem ok_HiddenBook_ask (T : Txt K mg A) : FnOk P w K mg base (L2.CX P w) 4 A.a_HiddenBook_ask A.d_HiddenBook_ask ["self", "size"] (sp_HiddenBook_ask K A) := by
  have G_check_size : FnOk P w K mg base (L2.CX P w) 3 A.a_check_size A.d_check_size ["size"] (sp_check_size K A) := ok_check_size T
  have G_count_pages : FnOk P w K mg base CX0 2 A.a_count_pages A.d_count_pages ["book", "size"] (sp_count_pages K) := ok_count_pages T
  refine L2.Fun.okX T.F_HiddenBook_ask sc_HiddenBook_ask (fun vs H Q E h => ?_) (fun cdv A0 outer s H vs Q E hr h => ?_)
  · obtain ⟨o, b, dx, ls, n, j, rfl, hw⟩ := h
    rfl
  · obtain ⟨o, b, dx, ls, n, j, rfl, hw⟩ := h
    refine ⟨_, (pss_cons (ps_expr (pe_call G_check_size hr (by rfl) T.g_check_size T.F_check_size.kp T.b_check_size .nil (passes_call (takes_of rfl rfl rfl rfl) (fun _ _ _ _ h => h)) (pa_cons (pv 1) pa_nil)))
    (pss_cons (ps_set (i := 2) sc_HiddenBook_ask.nd rfl (.inl rfl) (pe_call G_count_pages (hr.mono (by decide)) (by rfl) T.g_count_pages T.F_count_pages.kp T.b_count_pages .nil pass0 (pa_cons (pe_fld (pv 0) rfl) (pa_cons (pv 1) pa_nil))))
    (pss_cons (ps_fld (pv 0) (pe_op op_add (pe_fld (pv 0) rfl) pe_int) rfl)
    (pss_one (ps_ret (pv 2)))))), ?_⟩
    obtain ⟨h0, hn, h2, kE, k⟩ := hw
    walk_at "hs"
    refine ⟨j, rfl, kE, fun h1 => ?_⟩
    walk_at "hs"
    refine ⟨o, _, dx, _, _, rfl, h0.1, T.C_HiddenBook, T.n_HiddenBook__lengths, hf_lengths _ _, ?_⟩
    walk_at "hs"
    refine ⟨b, ls, j, rfl, HS.sq h0.2, by omega, h1, h2, fun H1 K1 => ?_⟩
    have h3 := h0.same K1
    walk_at "hs"
    refine ⟨o, _, dx, _, _, rfl, h3.1, T.C_HiddenBook, T.n_HiddenBook__asked, hf_asked _ _, ?_⟩
    walk_at "hs"
    refine ⟨o, _, dx, _, rfl, h3.1, T.C_HiddenBook, T.n_HiddenBook__asked, (show (2 : Nat) < 1000 by decide), ?_⟩
    walk_at "hs"
    rw [hf_put]
    exact k h1 _ (K1.any.at rfl) ⟨upd_same, by rw [upd_ne h3.nob]; exact h3.2⟩
def sp_HiddenBook_questions (K : PySem.W.Frag) (A : Ad) : Sp := fun vs H Q _ => ∃ (o b dx : Addr) (ls : List Int) (n : Int), vs = [.ref o] ∧ (HidAt A.c_HiddenBook H o b dx ls n ∧ Q (.int n) H)
theorem ok_HiddenBook_questions (T : Txt K mg A) : FnOk P w K mg base CX0 1 A.a_HiddenBook_questions A.d_HiddenBook_questions ["self"] (sp_HiddenBook_questions K A) := by
  refine T.F_HiddenBook_questions.ok sc_HiddenBook_questions (fun vs H Q E h => ?_) (fun cdv A0 outer s H vs Q E hr h => ?_)
  · obtain ⟨o, b, dx, ls, n, rfl, hw⟩ := h
    rfl
  · obtain ⟨o, b, dx, ls, n, rfl, hw⟩ := h
    refine ⟨_, (pss_one (ps_ret (pe_fld (pv 0) rfl))), ?_⟩
    obtain ⟨h0, k⟩ := hw
    walk_at "hs"
    refine ⟨o, _, dx, _, _, rfl, h0.1, T.C_HiddenBook, T.n_HiddenBook__asked, hf_asked _ _, k⟩
def sp__law_pool (K : PySem.W.Frag) : Sp := fun vs H Q _ => ∃ (a : Addr) (ns : List Int) (at0 : Int), vs = [.ref a, .int at0] ∧ (SqL K H a (ns.map V.int) ∧ 0 ≤ at0 ∧ at0 ≤ 100 ∧ ∀ H' s, HS.Keep (fun _ => False) H H' → H s = none → Rng H' s 0 → Q (.ref s) H')
theorem ok__law_pool (T : Txt K mg A) : FnOk P w K mg base CX0 1 A.a__law_pool A.d__law_pool ["script", "at"] (sp__law_pool K) := by
  refine T.F__law_pool.ok sc__law_pool (fun vs H Q E h => ?_) (fun cdv A0 outer s H vs Q E hr h => ?_)
  · obtain ⟨a, ns, at0, rfl, hw⟩ := h
    rfl
  · obtain ⟨a, ns, at0, rfl, hw⟩ := h
    refine ⟨_, (pss_cons (ps_set (i := 2) sc__law_pool.nd rfl (.inl rfl) pe_int)
    (pss_cons (ps_if (pt_cmpR op_lt (pv 1) (pe_callB (HS.klen K) (by rfl) T.z_len PySem.boot_len (pa_cons (pv 0) pa_nil)) (nomark _))
      (pss_one (ps_set (i := 2) sc__law_pool.nd rfl (.inl rfl) (pe_ix (HS.ixl K) (pv 0) (pv 1) (fun _ _ => rfl))))
      pss_nil)
    (pss_one (ps_ret (pe_lst (pa_cons (pe_callB (call_max2 rfl) (by rfl) T.z_max (by decide +kernel) (pa_cons pe_int (pa_cons (pe_op op_sub (pe_callB call_abs (by rfl) T.z_abs (by decide +kernel) (pa_cons (pv 2) pa_nil)) (HS.pe_fold (1000000000000000000) (pe_op op_pow pe_int pe_int) (by intro σ H Q q; walk_at "fold"))) pa_nil))) (pa_cons (pe_op op_add (pe_op op_mod (pv 2) pe_int) (pe_op op_mul pe_int (pe_op op_add (pv 1) pe_int))) (pa_cons pe_int pa_nil)))))))), ?_⟩
    obtain ⟨hS, a0, a1, k⟩ := hw
    have go : ∀ (z : Int) (s : Addr) (H' : Hp), H' s = none → HS.Keep (fun _ => False) H H' → Q (.ref s) (upd H' s (.lst [.int (if (if z < 0 then -z else z) - 1000000000000000000 > 0 then (if z < 0 then -z else z) - 1000000000000000000 else 0), .int (z % 2305843009213693951 + 3367900313 * (at0 + 1)), .int 0])) := fun z s H' h K1 => by
      have b0 : 0 ≤ z % 2305843009213693951 := Int.emod_nonneg _ (by decide)
      have b1 : z % 2305843009213693951 < 2305843009213693951 := Int.emod_lt_of_pos _ (by decide)
      refine k _ s (K1.put (K1.free h id)) (K1.free h id) ⟨_, _, 0, upd_same, ?_, by omega, by omega, by decide, by decide⟩
      split <;> omega
    walk_at "hs"
    rw [List.length_map]
    refine HS.itd (fun hd => ?_) (fun hd => ?_)
    · walk_at "hs"
      refine HS.ixI ns hS a0 hd fun z _ _ => ?_
      walk_at "hs"
      exact fun s hs => go z s _ hs .refl
    · walk_at "hs"
      exact fun s hs => go 0 s _ hs .refl
def sp__law_draw (K : PySem.W.Frag) : Sp := fun vs H Q _ => ∃ (s : Addr) (many : Int) (n : Nat), vs = [.ref s, .int many] ∧ (Rng H s n ∧ 0 < many ∧ many < 2 ^ 200 ∧ n < 2 ^ 33 ∧ ∀ H' v, HS.Keep (fun a => a = s) H H' → Rng H' s (n + 1) → 0 ≤ v → v < many → Q (.int v) H')
theorem ok__law_draw (T : Txt K mg A) : FnOk P w K mg base CX0 1 A.a__law_draw A.d__law_draw ["pool", "many"] (sp__law_draw K) := by
  refine T.F__law_draw.ok sc__law_draw (fun vs H Q E h => ?_) (fun cdv A0 outer s H vs Q E hr h => ?_)
  · obtain ⟨s, many, n, rfl, hw⟩ := h
    rfl
  · obtain ⟨s, many, n, rfl, hw⟩ := h
    refine ⟨_, (pss_cons (ps_if (pt_cmpR op_gt (pe_ix (HS.ixl K) (pv 0) pe_int (fun _ _ => rfl)) pe_int (nomark _))
      (pss_cons (ps_set (i := 2) sc__law_draw.nd rfl (.inl rfl) (pe_op op_mod (pe_ix (HS.ixl K) (pv 0) pe_int (fun _ _ => rfl)) (pv 1)))
    (pss_cons (ps_asg (pe_op op_fdivW (pe_ix (HS.ixl K) (pv 0) pe_int (fun _ _ => rfl)) (pv 1)) (pg_sub (pv 0) pe_int set_list))
    (pss_one (ps_ret (pv 2)))))
      pss_nil)
    (pss_cons (ps_asg (pe_op op_add (pe_ix (HS.ixl K) (pv 0) pe_int (fun _ _ => rfl)) pe_int) (pg_sub (pv 0) pe_int set_list))
    (pss_cons (ps_set (i := 3) sc__law_draw.nd rfl (.inl rfl) (pe_op op_mod (pe_op HS.op_powW (pe_op op_add (pe_ix (HS.ixl K) (pv 0) pe_int (fun _ _ => rfl)) (pe_op op_mul pe_int (pe_ix (HS.ixl K) (pv 0) pe_int (fun _ _ => rfl)))) pe_int) pe_int))
    (pss_cons (ps_set (i := 3) sc__law_draw.nd rfl (.inl rfl) (pe_op op_mod (pe_op HS.op_powW (pe_op op_add (pv 3) (pe_op op_mul pe_int (pe_ix (HS.ixl K) (pv 0) pe_int (fun _ _ => rfl)))) pe_int) pe_int))
    (pss_one (ps_ret (pe_op op_mod (pe_op op_fdivW (pv 3) pe_int) (pv 1)))))))), ?_⟩
    obtain ⟨⟨l, m, c, hs, hl0, hm0, hm1, hc0, hc1⟩, hn0, hn1, hn, k⟩ := hw
    walk_at "hs"
    refine HS.itd (fun hl => ?_) (fun hl => ?_)
    · walk_at "hs"
      refine ⟨HS.divW 200 hn0 hn1 (by decide) (by decide), ?_⟩
      walk_at "hs"
      exact k _ _ (by walk_at "kp") ⟨l / many, m, c, upd_same, Int.ediv_nonneg hl0 (by omega), hm0, hm1, hc0, by omega⟩ (Int.emod_nonneg _ (by omega)) (Int.emod_lt_of_pos _ hn0)
    · walk_at "hs"
      refine ⟨HS.powW 66 (by omega) (by omega) (by decide) (by decide), ?_⟩
      walk_at "hs"
      have m0 : 0 ≤ (m + 15492367 * (c + 1)) ^ Int.toNat 3 % 162259276829213363391578010288127 := Int.emod_nonneg _ (by decide)
      have m1 : (m + 15492367 * (c + 1)) ^ Int.toNat 3 % 162259276829213363391578010288127 < 162259276829213363391578010288127 := Int.emod_lt_of_pos _ (by decide)
      generalize (m + 15492367 * (c + 1)) ^ Int.toNat 3 % 162259276829213363391578010288127 = z at m0 m1 ⊢
      refine ⟨HS.powW 128 (by omega) (by omega) (by decide) (by decide), ?_⟩
      walk_at "hs"
      exact k _ _ (by walk_at "kp") ⟨l, m, c + 1, upd_same, hl0, hm0, hm1, by omega, by omega⟩ (Int.emod_nonneg _ (by omega)) (Int.emod_lt_of_pos _ hn0)
def sp__law_length (K : PySem.W.Frag) : Sp := fun vs H Q _ => ∃ (s : Addr) (far : Int) (n : Nat), vs = [.ref s, .int far] ∧ (Rng H s n ∧ 1 ≤ far ∧ far < 10 ^ 30 ∧ n < 2 ^ 32 ∧ ∀ H' v, HS.Keep (fun a => a = s) H H' → Rng H' s (n + 2) → 1 ≤ v → v < 10 ^ 30 → Q (.int v) H')
theorem ok__law_length (T : Txt K mg A) : FnOk P w K mg base CX0 2 A.a__law_length A.d__law_length ["pool", "far"] (sp__law_length K) := by
  have G__law_draw : FnOk P w K mg base CX0 1 A.a__law_draw A.d__law_draw ["pool", "many"] (sp__law_draw K) := ok__law_draw T
  refine T.F__law_length.ok sc__law_length (fun vs H Q E h => ?_) (fun cdv A0 outer s H vs Q E hr h => ?_)
  · obtain ⟨s, far, n, rfl, hw⟩ := h
    rfl
  · obtain ⟨s, far, n, rfl, hw⟩ := h
    refine ⟨_, (pss_one (ps_ret (pe_op op_add pe_int (pe_call G__law_draw hr (by rfl) T.g__law_draw T.F__law_draw.kp T.b__law_draw .nil pass0 (pa_cons (pv 0) (pa_cons (pe_ix (HS.ixl K) (pe_lst (pa_cons pe_int (pa_cons pe_int (pa_cons pe_int (pa_cons (pv 1) pa_nil))))) (pe_call G__law_draw hr (by rfl) T.g__law_draw T.F__law_draw.kp T.b__law_draw .nil pass0 (pa_cons (pv 0) (pa_cons pe_int pa_nil))) (fun _ _ => rfl)) pa_nil)))))), ?_⟩
    obtain ⟨S0, f0, f1, hn, k⟩ := hw
    walk_at "hs"
    intro p hp
    have e1 := S0.ne hp
    walk_at "hs"
    refine ⟨s, 4, _, rfl, S0.new hp, by decide, by decide, by omega, fun H1 d K1 S1 d0 d1 => ?_⟩
    have hp1 := K1 _ _ upd_same e1
    refine HS.ixI [6, 30, 200, far] (HS.sq hp1) d0 d1 fun z _ hz => ?_
    have hz' : 1 ≤ z ∧ z < 10 ^ 30 := by
      simp only [List.mem_cons, List.not_mem_nil, or_false] at hz
      rcases hz with rfl | rfl | rfl | rfl <;> omega
    walk_at "hs"
    refine ⟨s, z, _, rfl, S1, by omega, by omega, by omega, fun H2 e K2 S2 e0 e1 => ?_⟩
    walk_at "hs"
    exact k _ _ (((HS.Keep.new hp).trans K1).trans K2) S2 (by omega) (by omega)
def sp__law_book (K : PySem.W.Frag) : Sp := fun vs H Q _ => ∃ (s : Addr) (most far : Int) (n : Nat), vs = [.ref s, .int most, .int far] ∧ (Rng H s n ∧ 0 ≤ most ∧ most ≤ 100 ∧ 1 ≤ far ∧ far < 10 ^ 30 ∧ n < 2 ^ 31 ∧ ∀ H' p (ls : List Int), HS.Keep (fun a => a = s) H H' → H p = none → p ≠ s → H' p = some (.lst (ls.map V.int)) → (ls.length : Int) ≤ most → Lens ls (10 ^ 30 - 1) → Rng H' s (n + 401) → Q (.ref p) H')
theorem ok__law_book (T : Txt K mg A) : FnOk P w K mg base CX0 3 A.a__law_book A.d__law_book ["pool", "most", "far"] (sp__law_book K) := by
  have G__law_draw : FnOk P w K mg base CX0 1 A.a__law_draw A.d__law_draw ["pool", "many"] (sp__law_draw K) := ok__law_draw T
  have G__law_length : FnOk P w K mg base CX0 2 A.a__law_length A.d__law_length ["pool", "far"] (sp__law_length K) := ok__law_length T
  refine T.F__law_book.ok sc__law_book (fun vs H Q E h => ?_) (fun cdv A0 outer s H vs Q E hr h => ?_)
  · obtain ⟨s, most, far, n, rfl, hw⟩ := h
    rfl
  · obtain ⟨s, most, far, n, rfl, hw⟩ := h
    refine ⟨_, (pss_cons (ps_set (i := 3) sc__law_book.nd rfl (.inl rfl) (pe_lst pa_nil))
    (pss_cons (ps_for PassesOwn.never rfl (pi_range1 (by rfl) T.z_range (pa_cons (pe_call G__law_draw (hr.mono (by decide)) (by rfl) T.g__law_draw T.F__law_draw.kp T.b__law_draw .nil pass0 (pa_cons (pv 0) (pa_cons (pe_op op_add (pv 1) pe_int) pa_nil))) pa_nil)) (pg_name (i := 4) sc__law_book.nd rfl (.inl rfl))
      (pss_one (ps_if (PW.pt (pw_and (pt_cmpR (HS.kne K (hu64 hr)) (pv 3) (pe_lst pa_nil) (nomark _)) (pw_and1 (pt_cmpR op_eq (pe_call G__law_draw (hr.mono (by decide)) (by rfl) T.g__law_draw T.F__law_draw.kp T.b__law_draw .nil pass0 (pa_cons (pv 0) (pa_cons pe_int pa_nil))) pe_int (nomark _)))))
      (pss_one (ps_expr (HS.kbm K (pe_bm PySem.F.plainAttrs_list PySem.F.slot_list_append PySem.F.type_list_append mt_append (pv 3) (pa_cons (pe_ix (HS.ixl K) (pv 3) (pe_call G__law_draw (hr.mono (by decide)) (by rfl) T.g__law_draw T.F__law_draw.kp T.b__law_draw .nil pass0 (pa_cons (pv 0) (pa_cons (pe_callB (HS.klen K) (by rfl) T.z_len PySem.boot_len (pa_cons (pv 3) pa_nil)) pa_nil))) (fun _ _ => rfl)) pa_nil)))))
      (pss_one (ps_expr (HS.kbm K (pe_bm PySem.F.plainAttrs_list PySem.F.slot_list_append PySem.F.type_list_append mt_append (pv 3) (pa_cons (pe_call G__law_length hr (by rfl) T.g__law_length T.F__law_length.kp T.b__law_length .nil pass0 (pa_cons (pv 0) (pa_cons (pv 2) pa_nil))) pa_nil))))))))
    (pss_one (ps_ret (pv 3))))), ?_⟩
    obtain ⟨S0, m0, m1, f0, f1, hn, k⟩ := hw
    walk_at "hs"
    intro D hD
    have hDs := S0.ne hD
    walk_at "hs"
    refine ⟨s, _, _, rfl, S0.new hD, by omega, by omega, by omega, fun H1 cnt K1 S1 c0 c1 => ?_⟩
    have KK1 : HS.Keep (fun a => a = s) H H1 := (HS.Keep.new hD).trans K1
    walk_at "hs"
    refine ⟨by omega, by omega, for_range (n := cnt.toNat) (fun i σ H' => HS.Keep (fun a => a = s) H H' ∧ (∃ ls : List Int, H' D = some (.lst (ls.map V.int)) ∧ ls.length = i ∧ Lens ls (10 ^ 30 - 1)) ∧ Rng H' s (n + 1 + 4 * i) ∧ ∃ x4, σ = [some (.ref s), some (.int most), some (.int far), some (.ref D), x4]) ?_ ?_ ?_⟩
    · exact ⟨KK1, ⟨[], K1 _ _ upd_same hDs, rfl, fun x hx => absurd hx List.not_mem_nil⟩, S1, _, rfl⟩
    · rintro i σ H3 hi ⟨K3, ⟨ls, hls, hll, hL⟩, S3, x4, rfl⟩
      walk_at "hs"
      intro p hp
      have e1 := S3.ne hp
      have e2 : D ≠ p := ne_of_none hls hp
      refine HS.neL (xs := ls) (ys := []) (HS.sq (by rw [upd_ne e2]; exact hls)) (HS.sq upd_same) ?_
      have hls4 : upd H3 p (.lst []) D = some (.lst (ls.map V.int)) := by rw [upd_ne e2]; exact hls
      have K4 : HS.Keep (fun a => a = s) H3 (upd H3 p (.lst [])) := .new hp
      have S4 := S3.new (o := .lst []) hp
      generalize upd H3 p (.lst []) = H4 at hls4 K4 S4 ⊢
      have K34 := K3.trans K4
      walk_at "hs"
      refine HS.itn (fun hc => ?_) (fun hc => ?_)
      · have hl0 : 0 < ls.length := List.length_pos_iff.mpr hc
        walk_at "hs"
        refine ⟨s, 3, _, rfl, S4, by decide, by decide, by omega, fun H5 a K5 S5 a0 a1 => ?_⟩
        have hls5 := K5 _ _ hls4 hDs
        walk_at "hs"
        refine HS.itd (fun ha => ?_) (fun ha => ?_)
        · walk_at "hs"
          rw [List.length_map]
          refine ⟨s, _, _, rfl, S5, by omega, by omega, by omega, fun H6 b K6 S6 b0 b1 => ?_⟩
          have hls6 := K6 _ _ hls5 hDs
          refine HS.ixI ls (HS.sq hls6) b0 b1 fun z _ hz => ?_
          walk_at "hs"
          refine ⟨((K34.trans K5).trans K6).put hD, ⟨ls ++ [z], by rw [upd_same, List.map_append]; rfl, by walk_at "len", fun x hx => ?_⟩, (S6.put hDs).up (by omega), _, rfl⟩
          rcases List.mem_append.mp hx with hx | hx
          · exact hL x hx
          · rw [List.mem_singleton] at hx
            exact hx ▸ hL z hz
        · walk_at "hs"
          refine ⟨s, far, _, rfl, S5, f0, f1, by omega, fun H6 b K6 S6 b0 b1 => ?_⟩
          have hls6 := K6 _ _ hls5 hDs
          walk_at "hs"
          refine ⟨((K34.trans K5).trans K6).put hD, ⟨ls ++ [b], by rw [upd_same, List.map_append]; rfl, by walk_at "len", fun x hx => ?_⟩, (S6.put hDs).up (by omega), _, rfl⟩
          rcases List.mem_append.mp hx with hx | hx
          · exact hL x hx
          · rw [List.mem_singleton] at hx
            subst hx
            omega
      · walk_at "hs"
        refine ⟨s, far, _, rfl, S4, f0, f1, by omega, fun H6 b K6 S6 b0 b1 => ?_⟩
        have hls6 := K6 _ _ hls4 hDs
        walk_at "hs"
        refine ⟨(K34.trans K6).put hD, ⟨ls ++ [b], by rw [upd_same, List.map_append]; rfl, by walk_at "len", fun x hx => ?_⟩, (S6.put hDs).up (by omega), _, rfl⟩
        rcases List.mem_append.mp hx with hx | hx
        · exact hL x hx
        · rw [List.mem_singleton] at hx
          subst hx
          omega
    · rintro σ H3 ⟨K3, ⟨ls, hls, hll, hL⟩, S3, x4, rfl⟩
      walk_at "hs"
      exact k _ D ls K3 hD hDs hls (by omega) hL (S3.up (by omega))
def sp__law_pages (K : PySem.W.Frag) : Sp := fun vs H Q _ => ∃ (b : Addr) (ls : List Int) (j : Int), vs = [.ref b, .int j] ∧ (SqL K H b (ls.map V.int) ∧ ls.length ≤ 50000 ∧ 1 ≤ j ∧ j < 2 ^ 200 ∧ ∀ H', HS.Keep (fun _ => False) H H' → Q (.int (pcount ls j)) H')
theorem ok__law_pages (T : Txt K mg A) : FnOk P w K mg base CX0 1 A.a__law_pages A.d__law_pages ["lengths", "lines_here"] (sp__law_pages K) := by
  refine T.F__law_pages.ok sc__law_pages (fun vs H Q E h => ?_) (fun cdv A0 outer s H vs Q E hr h => ?_)
  · obtain ⟨b, ls, j, rfl, hw⟩ := h
    rfl
  · obtain ⟨b, ls, j, rfl, hw⟩ := h
    refine ⟨_, (pss_one (ps_ret (pe_callB (HS.ksum K rfl) (by rfl) T.z_sum (by decide +kernel) (pa_cons (pe_lc (own := [("one", 2)]) (g := gName 2) (tt := tYes) rfl sc__law_pages.nd (HS.kil K (pi_list (pv 0))) (blkOk_by (own := [("one", 2)]) (N := N__law_pages) (sc := defScope s__law_pages) (by decide +kernel)) (fun _ _ _ _ _ => pg_name (i := 2) sc__law_pages.nd rfl (by first | exact .inl rfl | exact .inr rfl)) (fun _ _ _ _ _ => pts_nil) (fun _ _ _ _ _ => (pe_op op_fdivW (pe_op op_sub (pe_op op_add (pv 2) (pv 1)) pe_int) (pv 1)))) pa_nil)))), ?_⟩
    obtain ⟨hb, hl, h1, h2, k⟩ := hw
    walk_at "hs"
    refine ⟨⟨_, hb⟩, fun D hD => lc_list (xs := ls.map V.int) (fun i H' => HS.Keep (fun _ => False) H H' ∧ H' D = some (.lst (((ls.take i).map fun x => (x + j - 1) / j).map V.int))) ⟨.new hD, upd_same⟩ (fun i H' _ ⟨K', _⟩ => K'.sq hb id) ?_ ?_⟩
    · rintro i x H1 hi ⟨K1, h3⟩
      obtain ⟨z, rfl, hz, hil⟩ := HS.get_int hi
      walk_at "hs"
      refine ⟨HS.divW 200 (by omega) h2 (by decide) (by decide), ?_⟩
      walk_at "hs"
      refine ⟨_, h3, HS.sz (by simp; omega), K1.put hD, ?_⟩
      rw [upd_same, List.take_add_one, hz, List.map_append, List.map_append]
      rfl
    · rintro H1 ⟨K1, h3⟩
      rw [List.length_map, List.take_length] at h3
      refine HS.sumL (HS.sq h3) ?_
      exact k _ K1
def sp__law_kind (K : PySem.W.Frag) (A : Ad) : Sp := fun vs H Q _ => ∃ (e D : Addr) (fs : List (Str × V)) (c : Nat), vs = [.ref e] ∧ (HS.Exh H e D fs ∧ ExcC K D ∧ KindOf K A D c ∧ ∀ H', HS.Keep (fun _ => False) H H' → Q (.str (kword c)) H')
theorem ok__law_kind (T : Txt K mg A) : FnOk P w K mg base CX0 1 A.a__law_kind A.d__law_kind ["caught"] (sp__law_kind K A) := by
  refine T.F__law_kind.ok sc__law_kind (fun vs H Q E h => ?_) (fun cdv A0 outer s H vs Q E hr h => ?_)
  · obtain ⟨e, D, fs, c, rfl, hw⟩ := h
    rfl
  · obtain ⟨e, D, fs, c, rfl, hw⟩ := h
    refine ⟨_, (pss_cons (ps_set (i := 1) sc__law_kind.nd rfl (.inl rfl) (pe_lst (pa_cons (pe_callB (HS.kisX K) (by rfl) T.z_isinstance (by decide +kernel) (pa_cons (pv 0) (pa_cons (pe_glob (v := .ref A.c_InvalidBook) (by rfl) T.m_InvalidBook rfl) pa_nil))) (pa_cons (pe_callB (HS.kisX K) (by rfl) T.z_isinstance (by decide +kernel) (pa_cons (pv 0) (pa_cons (pe_glob (v := .ref A.c_InvalidSize) (by rfl) T.m_InvalidSize rfl) pa_nil))) (pa_cons (pe_callB (HS.kisX K) (by rfl) T.z_isinstance (by decide +kernel) (pa_cons (pv 0) (pa_cons (pe_glob (v := .ref A.c_InvalidTable) (by rfl) T.m_InvalidTable rfl) pa_nil))) pa_nil)))))
    (pss_cons (ps_set (i := 1) sc__law_kind.nd rfl (.inl rfl) (pe_op op_cat (pv 1) (pe_lst (pa_cons (pe_callB (HS.kisX K) (by rfl) T.z_isinstance (by decide +kernel) (pa_cons (pv 0) (pa_cons (pe_glob (v := .ref A.c_InvalidChain) (by rfl) T.m_InvalidChain rfl) pa_nil))) (pa_cons (pe_callB (HS.kisX K) (by rfl) T.z_isinstance (by decide +kernel) (pa_cons (pv 0) (pa_cons (pe_glob (v := .ref A.c_InvalidNumber) (by rfl) T.m_InvalidNumber rfl) pa_nil))) pa_nil)))))
    (pss_cons (ps_set (i := 1) sc__law_kind.nd rfl (.inl rfl) (pe_op op_cat (pv 1) (pe_lst (pa_cons (pe_callB (HS.kisX K) (by rfl) T.z_isinstance (by decide +kernel) (pa_cons (pv 0) (pa_cons (pe_glob (v := .ref A.c_NothingToUndo) (by rfl) T.m_NothingToUndo rfl) pa_nil))) (pa_cons (pe_callB (HS.kisX K) (by rfl) T.z_isinstance (by decide +kernel) (pa_cons (pv 0) (pa_cons (pe_glob (v := .ref A.c_Unreadable) (by rfl) T.m_Unreadable rfl) pa_nil))) pa_nil)))))
    (pss_cons (ps_if (PW.pt (pw_or (pt_not (pt_val (pe_callB (HS.kisX K) (by rfl) T.z_isinstance (by decide +kernel) (pa_cons (pv 0) (pa_cons (pe_glob (v := .ref A.c_BookError) (by rfl) T.m_BookError rfl) pa_nil))))) (pw_or (pt_not (pt_val (pe_callB (HS.kisX K) (by rfl) T.z_isinstance (by decide +kernel) (pa_cons (pv 0) (pa_cons (pe_bltn (v := .ty "ValueError") (by rfl) T.z_ValueError (by decide +kernel) rfl) pa_nil))))) (pw_or1 (pt_cmpR op_ne (HS.kbm K (pe_bm PySem.F.plainAttrs_list PySem.F.slot_list_count PySem.F.type_list_count (HS.kcountD K (HS.hu65 hr)) (pv 1) (pa_cons pe_bl pa_nil))) pe_int (nomark _))))))
      (pss_one (ps_ret pe_str))
      pss_nil)
    (pss_one (ps_ret (pe_ix (HS.ixl K) (pe_lst (pa_cons pe_str (pa_cons pe_str (pa_cons pe_str (pa_cons pe_str (pa_cons pe_str (pa_cons pe_str (pa_cons pe_str pa_nil)))))))) (HS.kbm K (pe_bm PySem.F.plainAttrs_list PySem.F.slot_list_index PySem.F.type_list_index (HS.kindexD K (HS.hu65 hr)) (pv 1) (pa_cons pe_bl pa_nil))) (fun _ _ => rfl)))))))), ?_⟩
    obtain ⟨hE, T1, ⟨hc, q0, q1, q2, q3, q4, q5, q6, qb, qv⟩, k⟩ := hw
    have W := HS.Wd.nil (H := H) (S := fun _ => False)
    walk_at "hs"
    refine HS.isX T1 hE q0 ?_
    walk_at "hs"
    refine HS.isX T1 hE q1 ?_
    walk_at "hs"
    refine HS.isX T1 hE q2 ?_
    walk_at "hs"
    intro p0 h0
    generalize hG_p0 : upd _ p0 _ = H1
    replace W := W.newG hG_p0 h0
    clear hG_p0 h0
    try dsimp only [List.set, List.cons_append, List.nil_append] at W
    walk_at "hs"
    refine HS.isX T1 (hE.same W.kp) q3 ?_
    walk_at "hs"
    refine HS.isX T1 (hE.same W.kp) q4 ?_
    walk_at "hs"
    intro p1 h1
    generalize hG_p1 : upd _ p1 _ = H2
    replace W := W.newG hG_p1 h1
    clear hG_p1 h1
    try dsimp only [List.set, List.cons_append, List.nil_append] at W
    refine HS.cat (W.at 0 rfl) (W.at 1 rfl) ?_
    walk_at "hs"
    intro p2 h2
    generalize hG_p2 : upd _ p2 _ = H3
    replace W := W.newG hG_p2 h2
    clear hG_p2 h2
    try dsimp only [List.set, List.cons_append, List.nil_append] at W
    walk_at "hs"
    refine HS.isX T1 (hE.same W.kp) q5 ?_
    walk_at "hs"
    refine HS.isX T1 (hE.same W.kp) q6 ?_
    walk_at "hs"
    intro p3 h3
    generalize hG_p3 : upd _ p3 _ = H4
    replace W := W.newG hG_p3 h3
    clear hG_p3 h3
    try dsimp only [List.set, List.cons_append, List.nil_append] at W
    refine HS.cat (W.at 2 rfl) (W.at 3 rfl) ?_
    walk_at "hs"
    intro p4 h4
    generalize hG_p4 : upd _ p4 _ = H5
    replace W := W.newG hG_p4 h4
    clear hG_p4 h4
    try dsimp only [List.set, List.cons_append, List.nil_append] at W
    walk_at "hs"
    refine HS.isX T1 (hE.same W.kp) qb ?_
    walk_at "hs"
    refine HS.isXt T1 (hE.same W.kp) qv ?_
    walk_at "hs"
    refine HS.tyL (W.at 4 rfl) ?_
    walk_at "hs"
    have cc : c = 0 ∨ c = 1 ∨ c = 2 ∨ c = 3 ∨ c = 4 ∨ c = 5 ∨ c = 6 := by omega
    have hD := fun (H : Hp) (h : H p4 = _) => Dp.lst (K := K) (HS.sq h) (.cons (.bl (decide (c = 0))) (.cons (.bl (decide (c = 1))) (.cons (.bl (decide (c = 2))) (.cons (.bl (decide (c = 3))) (.cons (.bl (decide (c = 4))) (.cons (.bl (decide (c = 5))) (.cons (.bl (decide (c = 6))) .nil)))))))
    rcases cc with rfl | rfl | rfl | rfl | rfl | rfl | rfl
    all_goals
      refine ⟨p4, _, .bool true, _, rfl, rfl, hD _ (W.at 4 rfl), .bl true, by decide +kernel, by decide +kernel, ?_⟩
      rw [show (List.countP _ _ : Nat) = 1 from by decide +kernel]
      walk_at "hs"
      refine HS.in0 rfl ?_
      walk_at "hs"
      intro u hu
      have W2 := W.new (o := .lst [V.str "book", V.str "size", V.str "table", V.str "chain", V.str "number", V.str "undo", V.str "read"]) (P := fun _ => True) hu trivial
      walk_at "hs"
      refine HS.tyL (W2.at 4 rfl) ?_
      walk_at "hs"
    · refine ⟨p4, _, .bool true, _, 0, .bool true, rfl, rfl, hD _ (W2.at 4 rfl), .bl true, by decide +kernel, by decide +kernel, rfl, by decide +kernel, none_ahead (by decide +kernel), ?_⟩
      walk_at "hs"
      exact k _ W2.kp
    · refine ⟨p4, _, .bool true, _, 1, .bool true, rfl, rfl, hD _ (W2.at 4 rfl), .bl true, by decide +kernel, by decide +kernel, rfl, by decide +kernel, none_ahead (by decide +kernel), ?_⟩
      walk_at "hs"
      exact k _ W2.kp
    · refine ⟨p4, _, .bool true, _, 2, .bool true, rfl, rfl, hD _ (W2.at 4 rfl), .bl true, by decide +kernel, by decide +kernel, rfl, by decide +kernel, none_ahead (by decide +kernel), ?_⟩
      walk_at "hs"
      exact k _ W2.kp
    · refine ⟨p4, _, .bool true, _, 3, .bool true, rfl, rfl, hD _ (W2.at 4 rfl), .bl true, by decide +kernel, by decide +kernel, rfl, by decide +kernel, none_ahead (by decide +kernel), ?_⟩
      walk_at "hs"
      exact k _ W2.kp
    · refine ⟨p4, _, .bool true, _, 4, .bool true, rfl, rfl, hD _ (W2.at 4 rfl), .bl true, by decide +kernel, by decide +kernel, rfl, by decide +kernel, none_ahead (by decide +kernel), ?_⟩
      walk_at "hs"
      exact k _ W2.kp
    · refine ⟨p4, _, .bool true, _, 5, .bool true, rfl, rfl, hD _ (W2.at 4 rfl), .bl true, by decide +kernel, by decide +kernel, rfl, by decide +kernel, none_ahead (by decide +kernel), ?_⟩
      walk_at "hs"
      exact k _ W2.kp
    · refine ⟨p4, _, .bool true, _, 6, .bool true, rfl, rfl, hD _ (W2.at 4 rfl), .bl true, by decide +kernel, by decide +kernel, rfl, by decide +kernel, none_ahead (by decide +kernel), ?_⟩
      walk_at "hs"
      exact k _ W2.kp
def sp__law_bad_book (K : PySem.W.Frag) : Sp := fun vs H Q _ => ∃ (s b : Addr) (ls : List Int) (n : Nat), vs = [.ref s, .ref b] ∧ (Rng H s n ∧ SqL K H b (ls.map V.int) ∧ ls.length ≤ 40 ∧ n < 2 ^ 32 ∧ ∀ H' r p (ms : List Int) (i : Nat), HS.Keep (fun a => a = s) H H' → H r = none → H p = none → r ≠ p → H' r = some (.lst [.ref p, .int i]) → H' p = some (.lst (ms.map V.int)) → badAt ms = some i → ms.length ≤ 42 → Rng H' s (n + 7) → Q (.ref r) H')
theorem ok__law_bad_book (T : Txt K mg A) : FnOk P w K mg base CX0 3 A.a__law_bad_book A.d__law_bad_book ["pool", "lengths"] (sp__law_bad_book K) := by
  have G__law_draw : FnOk P w K mg base CX0 1 A.a__law_draw A.d__law_draw ["pool", "many"] (sp__law_draw K) := ok__law_draw T
  refine T.F__law_bad_book.ok sc__law_bad_book (fun vs H Q E h => ?_) (fun cdv A0 outer s H vs Q E hr h => ?_)
  · obtain ⟨s, b, ls, n, rfl, hw⟩ := h
    rfl
  · obtain ⟨s, b, ls, n, rfl, hw⟩ := h
    refine ⟨_, (pss_cons (ps_set (i := 2) sc__law_bad_book.nd rfl (.inl rfl) (pe_callTy (HS.klst K) (by rfl) T.z_list (by decide +kernel) (pa_cons (pv 1) pa_nil)))
    (pss_cons (ps_for PassesOwn.never rfl (pi_range1 (by rfl) T.z_range (pa_cons (pe_op op_add pe_int (pe_call G__law_draw (hr.mono (by decide)) (by rfl) T.g__law_draw T.F__law_draw.kp T.b__law_draw .nil pass0 (pa_cons (pv 0) (pa_cons pe_int pa_nil)))) pa_nil)) (pg_name (i := 3) sc__law_bad_book.nd rfl (.inl rfl))
      (pss_cons (ps_set (i := 4) sc__law_bad_book.nd rfl (.inl rfl) (pe_ix (HS.ixl K) (pe_lst (pa_cons pe_int (pa_cons (pe_un un_neg pe_int) (pa_cons (pe_op op_sub (pe_un un_neg pe_int) (pe_call G__law_draw (hr.mono (by decide)) (by rfl) T.g__law_draw T.F__law_draw.kp T.b__law_draw .nil pass0 (pa_cons (pv 0) (pa_cons (HS.pe_fold (100000000000000000000000000000) (pe_op op_pow pe_int pe_int) (by intro σ H Q q; walk_at "fold")) pa_nil)))) pa_nil)))) (pe_call G__law_draw (hr.mono (by decide)) (by rfl) T.g__law_draw T.F__law_draw.kp T.b__law_draw .nil pass0 (pa_cons (pv 0) (pa_cons pe_int pa_nil))) (fun _ _ => rfl)))
    (pss_one (ps_expr (HS.kbm K (pe_bm PySem.F.plainAttrs_list PySem.F.slot_list_insert PySem.F.type_list_insert mt_insert (pv 2) (pa_cons (pe_call G__law_draw (hr.mono (by decide)) (by rfl) T.g__law_draw T.F__law_draw.kp T.b__law_draw .nil pass0 (pa_cons (pv 0) (pa_cons (pe_op op_add (pe_callB (HS.klen K) (by rfl) T.z_len PySem.boot_len (pa_cons (pv 2) pa_nil)) pe_int) pa_nil))) (pa_cons (pv 4) pa_nil))))))))
    (pss_one (ps_ret (pe_lst (pa_cons (pv 2) (pa_cons (pe_ix (HS.ixl K) (pe_lc (own := [("at", 5), ("one", 4)]) (g := gTup K 2 (gCons (gName 5) (gCons (gName 4) gNil))) rfl sc__law_bad_book.nd (HS.kien K (pi_enum (by rfl) T.z_enumerate (pa_cons (pv 2) pa_nil))) (blkOk_by (own := [("at", 5), ("one", 4)]) (N := N__law_bad_book) (sc := defScope s__law_bad_book) (by decide +kernel)) (fun _ _ _ _ _ => HS.kgt K (pg_tup rfl (pgs_cons (pg_name (i := 5) sc__law_bad_book.nd rfl (by first | exact .inl rfl | exact .inr rfl)) (pgs_cons (pg_name (i := 4) sc__law_bad_book.nd rfl (by first | exact .inl rfl | exact .inr rfl)) pgs_nil)))) (fun _ _ _ _ _ => (pts_one (pt_cmpR op_lt (pv 4) pe_int (nomark _)))) (fun _ _ _ _ _ => (pv 5))) pe_int (fun _ _ => rfl)) pa_nil))))))), ?_⟩
    obtain ⟨S0, hb, hl, hn, k⟩ := hw
    walk_at "hs"
    refine ⟨b, _, rfl, .inl hb, ?_⟩
    have W := wd_rng S0
    intro p hp
    generalize hG_p : upd _ p _ = H1
    replace W := W.newG hG_p hp
    clear hG_p hp
    try dsimp only [List.set, List.cons_append, List.nil_append] at W
    walk_at "hs"
    refine ⟨s, 2, _, rfl, W.rng 0 rfl, by decide, by decide, by omega, fun H2 d K2 S2 d0 d1 => ?_⟩
    replace W := W.drawn 0 rfl K2 S2
    walk_at "hs"
    refine ⟨by omega, by omega, for_range (n := (1 + d).toNat) (fun i σ H' => ∃ ms : List Int, HS.Wd H H' (fun a => a = s) [(s, RngO (n + 1 + 3 * i)), (p, Eq (.lst (ms.map V.int)))] ∧ ms.length = ls.length + i ∧ (1 ≤ i → ∃ x ∈ ms, x < 1) ∧ ∃ x3 x4, σ = [some (.ref s), some (.ref b), some (.ref p), x3, x4, none]) ?_ ?_ ?_⟩
    · exact ⟨ls, W, rfl, fun z => absurd z (by decide), _, _, rfl⟩
    · rintro i σ H3 hi ⟨ms, W, hm, hx, x3, x4, rfl⟩
      have hi2 : i < 2 := by omega
      walk_at "hs"
      refine ⟨s, _, _, rfl, W.rng 0 rfl, by decide, by decide, by omega, fun H4 e K4 S4 e0 e1 => ?_⟩
      replace W := W.drawn 0 rfl K4 S4
      walk_at "hs"
      intro q hq
      generalize hG_q : upd _ q _ = H5
      replace W := W.newG hG_q hq
      clear hG_q hq
      try dsimp only [List.set, List.cons_append, List.nil_append] at W
      walk_at "hs"
      refine ⟨s, 3, _, rfl, W.rng 0 rfl, by decide, by decide, by omega, fun H6 f K6 S6 f0 f1 => ?_⟩
      replace W := W.drawn 0 rfl K6 S6
      refine HS.ixI [0, -1, -1 - e] (W.sq 2 rfl) f0 f1 fun z _ hz => ?_
      have hz1 : z < 1 := by
        simp only [List.mem_cons, List.not_mem_nil, or_false] at hz
        rcases hz with rfl | rfl | rfl <;> omega
      walk_at "hs"
      refine HS.tyL (W.at 1 rfl) ?_
      walk_at "hs"
      refine HS.lenL (W.sq 1 rfl) ?_
      rw [List.length_map]
      walk_at "hs"
      refine ⟨s, _, _, rfl, W.rng 0 rfl, by omega, by omega, by omega, fun H7 g K7 S7 g0 g1 => ?_⟩
      replace W := W.drawn 0 rfl K7 S7
      walk_at "hs"
      refine ⟨p, _, g, _, rfl, rfl, W.at 1 rfl, HS.sz (by rw [List.length_map]; omega), g0, by omega, ?_⟩
      have em : (ms.map V.int).take g.toNat ++ [V.int z] ++ (ms.map V.int).drop g.toNat = (ms.take g.toNat ++ [z] ++ ms.drop g.toNat).map V.int := by
        rw [List.map_append, List.map_append, List.map_take, List.map_drop]; rfl
      rw [em]
      replace W := (W.put 1 rfl (P' := Eq (HO.lst ((ms.take g.toNat ++ [z] ++ ms.drop g.toNat).map V.int))) rfl).take 2
      walk_at "hs"
      refine ⟨_, W.rup 0 rfl (by omega), ?_, fun _ => ⟨z, List.mem_append_left _ (List.mem_append_right _ List.mem_cons_self), hz1⟩, _, _, rfl⟩
      rw [List.length_append, List.length_append, List.length_take, List.length_drop, List.length_singleton]
      omega
    · rintro σ H3 ⟨ms, W, hm, hx, x3, x4, rfl⟩
      obtain ⟨i0, ei⟩ := badAt_some (hx (by omega))
      walk_at "hs"
      refine ⟨p, _, rfl, W.sq 1 rfl, fun D hD => lc_it walk_enum (fun j H' => HS.Keep (fun _ => False) H3 H' ∧ H' D = some (.lst ((badsFrom 0 (ms.take j)).map V.int))) ⟨.new hD, upd_same⟩ (fun j H' _ ⟨K', _⟩ => K'.sq (W.sq 1 rfl) id) ?_ ?_⟩
      · rintro j x H4 H5 hj ⟨K4, h4⟩ ⟨T1, u, v, rfl, hT, rfl, e1, e2⟩
        cases e1
        obtain ⟨z, rfl, hz, hjl⟩ := HS.get_int e2
        have et : ms.take (j + 1) = ms.take j ++ [z] := by rw [List.take_add_one, hz]; rfl
        have nd : D ≠ T1 := ne_of_none h4 hT
        have K5 := K4.put (o := .tup [V.int (j : Nat), V.int z]) (K4.free hT id)
        have h5 : upd H4 T1 (.tup [V.int (j : Nat), V.int z]) D = some (.lst ((badsFrom 0 (ms.take j)).map V.int)) := by rw [upd_ne nd]; exact h4
        have bl := badsFrom_len 0 (ms.take j)
        rw [List.length_take] at bl
        walk_at "hs"
        refine HS.itd (fun c1 => ?_) (fun c1 => ?_)
        · walk_at "hs"
          refine ⟨_, h5, HS.sz (by rw [List.length_map]; omega), K5.put hD, ?_⟩
          rw [upd_same, et, badsFrom_snoc, if_pos c1, List.map_append, List.length_take, Nat.min_eq_left (by omega), Nat.zero_add]
          rfl
        · refine ⟨K5, ?_⟩
          rw [h5, et, badsFrom_snoc, if_neg c1, List.append_nil]
      · rintro H4 ⟨K4, h4⟩
        rw [List.length_map, List.take_length] at h4
        replace W := W.made K4 hD h4 (P := Eq _) rfl
        have b0 := badsFrom_head 0 ms i0 ei
        rw [Nat.zero_add] at b0
        walk_at "hs"
        refine HS.ixZ (W.sq 2 rfl) (by decide) b0 ?_
        walk_at "hs"
        intro r hr
        generalize hG_r : upd _ r _ = H5
        replace W := W.newG hG_r hr
        clear hG_r hr
        try dsimp only [List.set, List.cons_append, List.nil_append] at W
        refine k _ r p ms i0 W.kp ?_ ?_ (W.ne 3 1 rfl rfl) (W.at 3 rfl) (W.at 1 rfl) ei (by omega) ((W.rng 0 rfl).up (by omega))
        · exact (W.fr _ (List.mem_of_getElem? (i := 3) rfl)).resolve_left (W.ne 3 0 rfl rfl)
        · exact (W.fr _ (List.mem_of_getElem? (i := 1) rfl)).resolve_left (W.ne 1 0 rfl rfl)
def sp__law_made (K : PySem.W.Frag) (A : Ad) : Sp := fun vs H Q _ => ∃ (b : Addr) (ls : List Int), vs = [.ref b] ∧ (SqL K H b (ls.map V.int) ∧ ls.length ≤ 1000 ∧ (∀ i, badAt ls = some i → ∀ H' r, HS.Keep (fun _ => False) H H' → H r = none → H' r = some (.lst [.str "book", .int (i : Nat)]) → Q (.ref r) H') ∧
  (badAt ls = none → ∀ H' r, HS.Keep (fun _ => False) H H' → H r = none → H' r = some (.lst [.str "none", .non]) → Q (.ref r) H'))
theorem ok__law_made (T : Txt K mg A) : FnOk P w K mg base CX0 6 A.a__law_made A.d__law_made ["lengths"] (sp__law_made K A) := by
  have G_HiddenBook___init__ : FnOk P w K mg base (L2.CX P w) 4 A.a_HiddenBook___init__ A.d_HiddenBook___init__ ["self", "book"] (sp_HiddenBook___init__ K A) := ok_HiddenBook___init__ T
  have G__law_kind : FnOk P w K mg base CX0 1 A.a__law_kind A.d__law_kind ["caught"] (sp__law_kind K A) := ok__law_kind T
  refine T.F__law_made.ok sc__law_made (fun vs H Q E h => ?_) (fun cdv A0 outer s H vs Q E hr h => ?_)
  · obtain ⟨b, ls, rfl, hw⟩ := h
    rfl
  · obtain ⟨b, ls, rfl, hw⟩ := h
    refine ⟨_, (pss_cons (ps_set (i := 1) sc__law_made.nd rfl (.inl rfl) pe_non)
    (pss_cons (HS.ps_try_keep (i := 2) rfl rfl sc__law_made.nd rfl rfl ⟨rfl, by decide, Or.inl T.m_BookError⟩ takes0
      (fun W pn xe tk po => (pss_one (ps_expr (HS.pe_makeS T.K_HiddenBook G_HiddenBook___init__ hr (by rfl) T.m_HiddenBook T.b_HiddenBook___init__ (fun σ => passAt tk σ) (pa_cons (pv 0) pa_nil)))))
      (fun a oe cls d pn hz hf => (pss_one (ps_set (i := 1) sc__law_made.nd rfl (.inl rfl) (pv 2)))))
    (pss_one (ps_ret (pe_ifExp (pt_cmpR op_isN (pv 1) pe_non (nomark _)) (pe_lst (pa_cons pe_str (pa_cons pe_non pa_nil))) (pe_lst (pa_cons (pe_call G__law_kind (hr.mono (by decide)) (by rfl) T.g__law_kind T.F__law_kind.kp T.b__law_kind .nil pass0 (pa_cons (pv 1) pa_nil)) (pa_cons (HS.pe_fldX (pv 1)) pa_nil)))))))), ?_⟩
    obtain ⟨hb, hl, kE, k⟩ := hw
    walk_at "hs"
    intro x dx hx hdx hne
    have K1 : HS.Keep (fun _ => False) H (upd (upd H dx (.own x)) x (.ins A.c_HiddenBook dx [])) := (HS.Keep.new hdx).trans (HS.Keep.new (by rw [upd_ne hne.symm]; exact hx))
    have hb2 := K1.sq hb id
    generalize hG : upd (upd H dx (.own x)) x (.ins A.c_HiddenBook dx []) = H1 at hb2 K1 ⊢
    refine ⟨x, dx, b, ls, rfl, by rw [← hG]; exact upd_same, hb2, hl, fun i hi H' d K2 hd e => ?_, fun hi H' b2 K2 hb3 h0 => ⟨rfl, ?_⟩⟩
    · refine ⟨true, T.e_InvalidBook_BookError, fun _ a ha => ?_, fun z => by cases z⟩
      walk_at "hs"
      intro ha2
      have hX : HS.Exh (upd H' a (HS.exh a (.ref A.c_InvalidBook) (some d))) a A.c_InvalidBook [("value", .int (i : Nat))] := ⟨d, upd_same, by rw [upd_ne (ne_of_none e ha)]; exact e⟩
      have K3 := (K1.trans K2).nw (o := HS.exh a (.ref A.c_InvalidBook) (some d)) ha
      generalize upd H' a (HS.exh a (.ref A.c_InvalidBook) (some d)) = H2 at hX K3 ⊢
      walk_at "hs"
      refine ⟨rfl, ?_⟩
      walk_at "hs"
      refine HS.it0 (fun z => by cases z) ?_
      walk_at "hs"
      refine ⟨a, A.c_InvalidBook, _, 0, rfl, hX, T.V_InvalidBook, ⟨by decide, T.q_InvalidBook_InvalidBook, T.q_InvalidBook_InvalidSize, T.q_InvalidBook_InvalidTable, T.q_InvalidBook_InvalidChain, T.q_InvalidBook_InvalidNumber, T.q_InvalidBook_NothingToUndo, T.q_InvalidBook_Unreadable, T.q_InvalidBook_BookError, T.q_InvalidBook_ValueError⟩, fun H3 K4 => ?_⟩
      walk_at "hs"
      refine ⟨a, _, _, _, rfl, T.X_InvalidBook, T.n_InvalidBook, hX.same K4, rfl, ?_⟩
      walk_at "hs"
      intro r hr
      exact kE i hi _ r ((K3.trans K4).nw hr) ((K3.trans K4).free hr id) upd_same
    · walk_at "hs"
      refine ⟨rfl, ?_⟩
      walk_at "hs"
      refine HS.it1 rfl ?_
      walk_at "hs"
      intro r hr
      have K3 := keep_tro K1 K2 hx
      exact k hi _ r (K3.nw hr) (K3.free hr id) upd_same
def sp__law_asked (K : PySem.W.Frag) (A : Ad) : Sp := fun vs H Q _ => ∃ (o b dx : Addr) (ls : List Int) (n j : Int) (y : Bool), vs = [.ref o, .int j, .bl y] ∧ (HidAt A.c_HiddenBook H o b dx ls n ∧ ls.length ≤ 1000 ∧ j < 2 ^ 200 ∧
  (j < 1 → ∀ H' r, HS.Keep (fun _ => False) H H' → H r = none → H' r = some (.lst [.str "size", .int j]) → Q (.ref r) H') ∧
  (1 ≤ j → ∀ H' r, HS.Keep (fun a => a = o) H H' → H r = none → HidAt A.c_HiddenBook H' o b dx ls (n + 1) → H' r = some (.lst [.int (pcount ls j)]) → Q (.ref r) H'))
theorem ok__law_asked (T : Txt K mg A) : FnOk P w K mg base CX0 5 A.a__law_asked A.d__law_asked ["secret", "lines_here", "by_name"] (sp__law_asked K A) := by
  have G_HiddenBook_ask : FnOk P w K mg base (L2.CX P w) 4 A.a_HiddenBook_ask A.d_HiddenBook_ask ["self", "size"] (sp_HiddenBook_ask K A) := ok_HiddenBook_ask T
  have G__law_kind : FnOk P w K mg base CX0 1 A.a__law_kind A.d__law_kind ["caught"] (sp__law_kind K A) := ok__law_kind T
  refine T.F__law_asked.ok sc__law_asked (fun vs H Q E h => ?_) (fun cdv A0 outer s H vs Q E hr h => ?_)
  · obtain ⟨o, b, dx, ls, n, j, y, rfl, hw⟩ := h
    rfl
  · obtain ⟨o, b, dx, ls, n, j, y, rfl, hw⟩ := h
    refine ⟨_, (pss_cons (ps_set (i := 3) sc__law_asked.nd rfl (.inl rfl) pe_non)
    (pss_cons (HS.ps_try_keep (i := 4) rfl rfl sc__law_asked.nd rfl rfl ⟨rfl, by decide, Or.inl T.m_BookError⟩ takes0
      (fun W pn xe tk po => (pss_one (ps_ret (pe_lst (pa_cons (pe_ifExp (pt_val (pv 2)) (HS.pe_methN0 (pv 0) T.C_HiddenBook T.M_HiddenBook_ask G_HiddenBook_ask hr T.kb_HiddenBook_ask_1_size (fun σ => passAt tk σ) (pk_cons (pv 1) pk_nil)) (HS.pe_methS (pv 0) T.C_HiddenBook T.M_HiddenBook_ask G_HiddenBook_ask hr T.b_HiddenBook_ask (fun σ => passAt tk σ) (pa_cons (pv 1) pa_nil))) pa_nil)))))
      (fun a oe cls d pn hz hf => (pss_one (ps_set (i := 3) sc__law_asked.nd rfl (.inl rfl) (pv 4)))))
    (pss_one (ps_ret (pe_lst (pa_cons (pe_call G__law_kind (hr.mono (by decide)) (by rfl) T.g__law_kind T.F__law_kind.kp T.b__law_kind .nil pass0 (pa_cons (pv 3) pa_nil)) (pa_cons (HS.pe_fldX (pv 3)) pa_nil))))))), ?_⟩
    obtain ⟨h0, hl, hj, kE, k⟩ := hw
    walk_at "hs"
    cases y with
    | true =>
      walk_at "hs"
      refine ⟨o, dx, _, rfl, h0.1, hf_no (by decide +kernel) (by decide +kernel), ?_⟩
      walk_at "hs"
      refine ⟨o, b, dx, ls, n, j, rfl, h0, hl, hj, fun h1 H' d K1 hd e => ?_, fun h1 H' K1 h2 => ?_⟩
      · refine ⟨true, T.e_InvalidSize_BookError, fun _ a ha => ?_, fun z => by cases z⟩
        walk_at "hs"
        intro ha2
        have hX : HS.Exh (upd H' a (HS.exh a (.ref A.c_InvalidSize) (some d))) a A.c_InvalidSize [("value", .int j)] := ⟨d, upd_same, by rw [upd_ne (ne_of_none e ha)]; exact e⟩
        have K3 := K1.nw (o := HS.exh a (.ref A.c_InvalidSize) (some d)) ha
        generalize upd H' a (HS.exh a (.ref A.c_InvalidSize) (some d)) = H2 at hX K3 ⊢
        walk_at "hs"
        refine ⟨a, A.c_InvalidSize, _, 1, rfl, hX, T.V_InvalidSize, ⟨by decide, T.q_InvalidSize_InvalidBook, T.q_InvalidSize_InvalidSize, T.q_InvalidSize_InvalidTable, T.q_InvalidSize_InvalidChain, T.q_InvalidSize_InvalidNumber, T.q_InvalidSize_NothingToUndo, T.q_InvalidSize_Unreadable, T.q_InvalidSize_BookError, T.q_InvalidSize_ValueError⟩, fun H3 K4 => ?_⟩
        walk_at "hs"
        refine ⟨a, _, _, _, rfl, T.X_InvalidSize, T.n_InvalidSize, hX.same K4, rfl, ?_⟩
        walk_at "hs"
        intro r hr
        exact kE h1 _ r ((K3.trans K4).nw hr) ((K3.trans K4).free hr id) upd_same
      · walk_at "hs"
        intro r hr
        exact k h1 _ r (K1.nwS hr (h2.ne hr)) (K1.free hr (h2.ne hr)) (h2.new hr) upd_same
    | false =>
      walk_at "hs"
      refine ⟨o, dx, _, rfl, h0.1, hf_no (by decide +kernel) (by decide +kernel), ?_⟩
      walk_at "hs"
      refine ⟨o, b, dx, ls, n, j, rfl, h0, hl, hj, fun h1 H' d K1 hd e => ?_, fun h1 H' K1 h2 => ?_⟩
      · refine ⟨true, T.e_InvalidSize_BookError, fun _ a ha => ?_, fun z => by cases z⟩
        walk_at "hs"
        intro ha2
        have hX : HS.Exh (upd H' a (HS.exh a (.ref A.c_InvalidSize) (some d))) a A.c_InvalidSize [("value", .int j)] := ⟨d, upd_same, by rw [upd_ne (ne_of_none e ha)]; exact e⟩
        have K3 := K1.nw (o := HS.exh a (.ref A.c_InvalidSize) (some d)) ha
        generalize upd H' a (HS.exh a (.ref A.c_InvalidSize) (some d)) = H2 at hX K3 ⊢
        walk_at "hs"
        refine ⟨a, A.c_InvalidSize, _, 1, rfl, hX, T.V_InvalidSize, ⟨by decide, T.q_InvalidSize_InvalidBook, T.q_InvalidSize_InvalidSize, T.q_InvalidSize_InvalidTable, T.q_InvalidSize_InvalidChain, T.q_InvalidSize_InvalidNumber, T.q_InvalidSize_NothingToUndo, T.q_InvalidSize_Unreadable, T.q_InvalidSize_BookError, T.q_InvalidSize_ValueError⟩, fun H3 K4 => ?_⟩
        walk_at "hs"
        refine ⟨a, _, _, _, rfl, T.X_InvalidSize, T.n_InvalidSize, hX.same K4, rfl, ?_⟩
        walk_at "hs"
        intro r hr
        exact kE h1 _ r ((K3.trans K4).nw hr) ((K3.trans K4).free hr id) upd_same
      · walk_at "hs"
        intro r hr
        exact k h1 _ r (K1.nwS hr (h2.ne hr)) (K1.free hr (h2.ne hr)) (h2.new hr) upd_same
def sp__law_size (K : PySem.W.Frag) : Sp := fun vs H Q _ => ∃ (s b : Addr) (ls : List Int) (far : Int) (n : Nat), vs = [.ref s, .ref b, .int far] ∧ (Rng H s n ∧ SqL K H b (ls.map V.int) ∧ b ≠ s ∧ ls.length ≤ 40 ∧ (∀ x ∈ ls, 1 ≤ x ∧ x < 10 ^ 30) ∧ 1 ≤ far ∧ far < 10 ^ 30 ∧ n < 2 ^ 31 ∧ ∀ H' v, HS.Keep (fun a => a = s) H H' → Rng H' s (n + 4) → 1 ≤ v → v < 10 ^ 30 → Q (.int v) H')
theorem ok__law_size (T : Txt K mg A) : FnOk P w K mg base CX0 3 A.a__law_size A.d__law_size ["pool", "lengths", "far"] (sp__law_size K) := by
  have G__law_draw : FnOk P w K mg base CX0 1 A.a__law_draw A.d__law_draw ["pool", "many"] (sp__law_draw K) := ok__law_draw T
  have G__law_length : FnOk P w K mg base CX0 2 A.a__law_length A.d__law_length ["pool", "far"] (sp__law_length K) := ok__law_length T
  refine T.F__law_size.ok sc__law_size (fun vs H Q E h => ?_) (fun cdv A0 outer s H vs Q E hr h => ?_)
  · obtain ⟨s, b, ls, far, n, rfl, hw⟩ := h
    rfl
  · obtain ⟨s, b, ls, far, n, rfl, hw⟩ := h
    refine ⟨_, (pss_cons (ps_if (PW.pt (pw_or (pt_cmpR (HS.keq K (hu64 hr)) (pv 1) (pe_lst pa_nil) (nomark _)) (pw_or1 (pt_cmpR op_eq (pe_call G__law_draw (hr.mono (by decide)) (by rfl) T.g__law_draw T.F__law_draw.kp T.b__law_draw .nil pass0 (pa_cons (pv 0) (pa_cons pe_int pa_nil))) pe_int (nomark _)))))
      (pss_one (ps_ret (pe_call G__law_length hr (by rfl) T.g__law_length T.F__law_length.kp T.b__law_length .nil pass0 (pa_cons (pv 0) (pa_cons (pv 2) pa_nil)))))
      pss_nil)
    (pss_cons (ps_set (i := 3) sc__law_size.nd rfl (.inl rfl) (pe_ix (HS.ixl K) (pv 1) (pe_call G__law_draw (hr.mono (by decide)) (by rfl) T.g__law_draw T.F__law_draw.kp T.b__law_draw .nil pass0 (pa_cons (pv 0) (pa_cons (pe_callB (HS.klen K) (by rfl) T.z_len PySem.boot_len (pa_cons (pv 1) pa_nil)) pa_nil))) (fun _ _ => rfl)))
    (pss_one (ps_ret (pe_callB (call_min2 rfl) (by rfl) T.z_min (by decide +kernel) (pa_cons (HS.pe_fold (999999999999999999999999999999) (pe_op op_sub (pe_op op_pow pe_int pe_int) pe_int) (by intro σ H Q q; walk_at "fold")) (pa_cons (pe_callB (call_max2 rfl) (by rfl) T.z_max (by decide +kernel) (pa_cons pe_int (pa_cons (pe_op op_sub (pe_op op_add (pe_op op_fdivW (pv 3) (pe_op op_add pe_int (pe_call G__law_draw (hr.mono (by decide)) (by rfl) T.g__law_draw T.F__law_draw.kp T.b__law_draw .nil pass0 (pa_cons (pv 0) (pa_cons pe_int pa_nil))))) (pe_call G__law_draw (hr.mono (by decide)) (by rfl) T.g__law_draw T.F__law_draw.kp T.b__law_draw .nil pass0 (pa_cons (pv 0) (pa_cons pe_int pa_nil)))) pe_int) pa_nil))) pa_nil))))))), ?_⟩
    obtain ⟨S0, hb, hbs, hl, hL, f0, f1, hn, k⟩ := hw
    walk_at "hs"
    intro p hp
    have K0 : HS.Keep (fun a => a = s) H (upd H p (.lst [])) := .new hp
    have S1 := S0.new (o := .lst []) hp
    have hb1 := (HS.Keep.new (S := fun _ => False) (o := .lst []) hp).sq hb id
    refine HS.eqL (ys := []) hb1 (HS.sq upd_same) ?_
    generalize upd H p (.lst []) = H1 at K0 S1 hb1 ⊢
    have near : ∀ H2, HS.Keep (fun a => a = s) H H2 → Rng H2 s (n + 2) → ∀ v, 1 ≤ v → v < 10 ^ 30 → Q (.int v) H2 := fun H2 K2 S2 v v0 v1 => k H2 v K2 (S2.up (by omega)) v0 v1
    walk_at "hs"
    refine HS.itd (fun h0 => ?_) (fun h0 => ?_)
    · walk_at "hs"
      refine ⟨s, far, _, rfl, S1, f0, f1, by omega, fun H2 v K2 S2 v0 v1 => ?_⟩
      exact near _ (K0.trans K2) S2 v v0 v1
    · walk_at "hs"
      refine ⟨s, 3, _, rfl, S1, by decide, by decide, by omega, fun H2 d K2 S2 d0 d1 => ?_⟩
      walk_at "hs"
      refine HS.itd (fun h1 => ?_) (fun h1 => ?_)
      · walk_at "hs"
        refine ⟨s, far, _, rfl, S2, f0, f1, by omega, fun H3 v K3 S3 v0 v1 => ?_⟩
        exact k _ v ((K0.trans K2).trans K3) (S3.up (by omega)) v0 v1
      · have l0 : 0 < ls.length := List.length_pos_iff.mpr h0
        have hb2 := K2.sq hb1 hbs
        walk_at "hs"
        rw [List.length_map]
        refine ⟨s, _, _, rfl, S2, by omega, by omega, by omega, fun H3 e K3 S3 e0 e1 => ?_⟩
        refine HS.ixI ls (K3.sq hb2 hbs) e0 e1 fun z _ hz => ?_
        have hz' := hL z hz
        walk_at "hs"
        refine ⟨s, 4, _, rfl, S3, by decide, by decide, by omega, fun H4 f K4 S4 f0 f1 => ?_⟩
        walk_at "hs"
        refine ⟨HS.divW 62 (by omega) (by omega) (by decide) (by decide), ?_⟩
        walk_at "hs"
        refine ⟨s, 3, _, rfl, S4, by decide, by decide, by omega, fun H5 g K5 S5 g0 g1 => ?_⟩
        walk_at "hs"
        refine k _ _ ((((K0.trans K2).trans K3).trans K4).trans K5) (S5.up (by omega)) ?_ ?_
        · split <;> (split <;> omega)
        · split <;> (split <;> omega)
def sp__law_right (K : PySem.W.Frag) : Sp := fun vs H Q _ => ∃ (s : Addr) (n : Nat), vs = [.ref s] ∧ (Rng H s n ∧ n < 2 ^ 30 ∧ ∀ H', HS.Keep (fun a => a = s) H H' → Rng H' s (n + 1200) → Q (.bl true) H')
theorem ok__law_right (T : Txt K mg A) : FnOk P w K mg base CX0 7 A.a__law_right A.d__law_right ["pool"] (sp__law_right K) := by
  have G__law_draw : FnOk P w K mg base CX0 1 A.a__law_draw A.d__law_draw ["pool", "many"] (sp__law_draw K) := ok__law_draw T
  have G__law_book : FnOk P w K mg base CX0 3 A.a__law_book A.d__law_book ["pool", "most", "far"] (sp__law_book K) := ok__law_book T
  have G_HiddenBook___init__ : FnOk P w K mg base (L2.CX P w) 4 A.a_HiddenBook___init__ A.d_HiddenBook___init__ ["self", "book"] (sp_HiddenBook___init__ K A) := ok_HiddenBook___init__ T
  have G__law_size : FnOk P w K mg base CX0 3 A.a__law_size A.d__law_size ["pool", "lengths", "far"] (sp__law_size K) := ok__law_size T
  have G__law_pages : FnOk P w K mg base CX0 1 A.a__law_pages A.d__law_pages ["lengths", "lines_here"] (sp__law_pages K) := ok__law_pages T
  have G__law_asked : FnOk P w K mg base CX0 5 A.a__law_asked A.d__law_asked ["secret", "lines_here", "by_name"] (sp__law_asked K A) := ok__law_asked T
  have G_HiddenBook_questions : FnOk P w K mg base CX0 1 A.a_HiddenBook_questions A.d_HiddenBook_questions ["self"] (sp_HiddenBook_questions K A) := ok_HiddenBook_questions T
  have G__law_bad_book : FnOk P w K mg base CX0 3 A.a__law_bad_book A.d__law_bad_book ["pool", "lengths"] (sp__law_bad_book K) := ok__law_bad_book T
  have G__law_made : FnOk P w K mg base CX0 6 A.a__law_made A.d__law_made ["lengths"] (sp__law_made K A) := ok__law_made T
  refine T.F__law_right.ok sc__law_right (fun vs H Q E h => ?_) (fun cdv A0 outer s H vs Q E hr h => ?_)
  · obtain ⟨s, n, rfl, hw⟩ := h
    rfl
  · obtain ⟨s, n, rfl, hw⟩ := h
    refine ⟨_, (pss_cons (ps_set (i := 1) sc__law_right.nd rfl (.inl rfl) (pe_ix (HS.ixl K) (pe_lst (pa_cons pe_int (pa_cons (HS.pe_fold (999999999999999999999999999999) (pe_op op_sub (pe_op op_pow pe_int pe_int) pe_int) (by intro σ H Q q; walk_at "fold")) pa_nil))) (pe_call G__law_draw (hr.mono (by decide)) (by rfl) T.g__law_draw T.F__law_draw.kp T.b__law_draw .nil pass0 (pa_cons (pv 0) (pa_cons pe_int pa_nil))) (fun _ _ => rfl)))
    (pss_cons (ps_set (i := 2) sc__law_right.nd rfl (.inl rfl) (pe_lst (pa_cons (pe_call G__law_book (hr.mono (by decide)) (by rfl) T.g__law_book T.F__law_book.kp T.b__law_book .nil pass0 (pa_cons (pv 0) (pa_cons pe_int (pa_cons (pv 1) pa_nil)))) (pa_cons (pe_call G__law_book (hr.mono (by decide)) (by rfl) T.g__law_book T.F__law_book.kp T.b__law_book .nil pass0 (pa_cons (pv 0) (pa_cons pe_int (pa_cons (pv 1) pa_nil)))) pa_nil))))
    (pss_cons (ps_setLc (i := 3) (own := [("one", 12)]) (g := gName 12) (tt := tYes) rfl sc__law_right.nd rfl rfl (sw_true rfl rfl rfl (by decide +kernel)) (HS.kil K (pi_list (pv 2))) (blkOk_by (own := [("one", 12)]) (N := N__law_right) (sc := defScope s__law_right) (by decide +kernel)) (fun _ _ _ _ _ => pg_name (i := 12) sc__law_right.nd rfl (by first | exact .inl rfl | exact .inr rfl)) (fun _ _ _ _ _ => pts_nil) (fun _ _ _ _ _ => (pe_callTy (HS.klst K) (by rfl) T.z_list (by decide +kernel) (pa_cons (pv 12) pa_nil))))
    (pss_cons (ps_set (i := 4) sc__law_right.nd rfl (.inl rfl) (pe_lst (pa_cons (HS.pe_makeS T.K_HiddenBook G_HiddenBook___init__ (hr.mono (by decide)) (by rfl) T.m_HiddenBook T.b_HiddenBook___init__ (fun σ => HS.passSt passL σ) (pa_cons (pe_ix (HS.ixl K) (pv 3) pe_int (fun _ _ => rfl)) pa_nil)) (pa_cons (HS.pe_makeN0 T.K_HiddenBook G_HiddenBook___init__ (hr.mono (by decide)) (by rfl) T.m_HiddenBook T.kb_HiddenBook___init___1_book (fun σ => HS.passSt passL σ) (pk_cons (pe_ix (HS.ixl K) (pv 3) pe_int (fun _ _ => rfl)) pk_nil) (fun _ _ => ⟨_, rfl, fun _ => rfl⟩) (fun _ _ => ⟨_, rfl, fun _ => rfl⟩)) pa_nil))))
    (pss_cons (ps_if (pt_cmpR (HS.kne K (hu64 hr)) (pv 3) (pv 2) (nomark _))
      (pss_one (ps_ret pe_bl))
      pss_nil)
    (pss_cons (ps_expr (HS.kbm0 K (pe_bm0 PySem.F.plainAttrs_list PySem.F.slot_list_clear PySem.F.type_list_clear mt_clear (pe_ix (HS.ixl K) (pv 3) pe_int (fun _ _ => rfl)))))
    (pss_cons (ps_expr (HS.kbm K (pe_bm PySem.F.plainAttrs_list PySem.F.slot_list_append PySem.F.type_list_append mt_append (pe_ix (HS.ixl K) (pv 3) pe_int (fun _ _ => rfl)) (pa_cons pe_int pa_nil))))
    (pss_cons (ps_set (i := 5) sc__law_right.nd rfl (.inl rfl) (pe_lst (pa_cons pe_int (pa_cons pe_int pa_nil))))
    (pss_cons (ps_for PassesOwn.never rfl (pi_range1 (by rfl) T.z_range (pa_cons (pe_call G__law_draw (hr.mono (by decide)) (by rfl) T.g__law_draw T.F__law_draw.kp T.b__law_draw .nil pass0 (pa_cons (pv 0) (pa_cons pe_int pa_nil))) pa_nil)) (pg_name (i := 6) sc__law_right.nd rfl (.inl rfl))
      (pss_cons (ps_set (i := 7) sc__law_right.nd rfl (.inl rfl) (pe_call G__law_draw (hr.mono (by decide)) (by rfl) T.g__law_draw T.F__law_draw.kp T.b__law_draw .nil pass0 (pa_cons (pv 0) (pa_cons pe_int pa_nil))))
    (pss_cons (ps_set (i := 8) sc__law_right.nd rfl (.inl rfl) (pe_call G__law_size (hr.mono (by decide)) (by rfl) T.g__law_size T.F__law_size.kp T.b__law_size .nil pass0 (pa_cons (pv 0) (pa_cons (pe_ix (HS.ixl K) (pv 2) (pv 7) (fun _ _ => rfl)) (pa_cons (pv 1) pa_nil)))))
    (Evl.pss_cut (ps_if (pt_cmpR op_eq (pe_call G__law_draw (hr.mono (by decide)) (by rfl) T.g__law_draw T.F__law_draw.kp T.b__law_draw .nil pass0 (pa_cons (pv 0) (pa_cons pe_int pa_nil))) pe_int (nomark _))
      (pss_one (ps_set (i := 8) sc__law_right.nd rfl (.inl rfl) (pe_op op_sub pe_int (pe_ix (HS.ixl K) (pe_lst (pa_cons pe_int (pa_cons pe_int (pa_cons (pe_call G__law_draw (hr.mono (by decide)) (by rfl) T.g__law_draw T.F__law_draw.kp T.b__law_draw .nil pass0 (pa_cons (pv 0) (pa_cons (HS.pe_fold (1000000000000000000000000000000) (pe_op op_pow pe_int pe_int) (by intro σ H Q q; walk_at "fold")) pa_nil))) pa_nil)))) (pe_call G__law_draw (hr.mono (by decide)) (by rfl) T.g__law_draw T.F__law_draw.kp T.b__law_draw .nil pass0 (pa_cons (pv 0) (pa_cons pe_int pa_nil))) (fun _ _ => rfl)))))
      pss_nil)
    (pss_cons (ps_set (i := 9) sc__law_right.nd rfl (.inl rfl) (pe_lst (pa_cons pe_str (pa_cons (pv 8) pa_nil))))
    (Evl.pss_cut (ps_if (pt_cmpR op_gt (pv 8) pe_int (nomark _))
      (pss_cons (ps_set (i := 9) sc__law_right.nd rfl (.inl rfl) (pe_lst (pa_cons (pe_call G__law_pages (hr.mono (by decide)) (by rfl) T.g__law_pages T.F__law_pages.kp T.b__law_pages .nil pass0 (pa_cons (pe_ix (HS.ixl K) (pv 2) (pv 7) (fun _ _ => rfl)) (pa_cons (pv 8) pa_nil))) pa_nil)))
    (pss_one (ps_asg (pe_op op_add (pe_ix (HS.ixl K) (pv 5) (pv 7) (fun _ _ => rfl)) pe_int) (pg_sub (pv 5) (pv 7) set_list))))
      pss_nil)
    (Evl.pss_cut (ps_if (pt_cmpR (HS.kne K (hu64 hr)) (pe_call G__law_asked (hr.mono (by decide)) (by rfl) T.g__law_asked T.F__law_asked.kp T.b__law_asked .nil pass0 (pa_cons (pe_ix (HS.ixl K) (pv 4) (pv 7) (fun _ _ => rfl)) (pa_cons (pv 8) (pa_cons (pe_cmpR op_eq (pe_call G__law_draw (hr.mono (by decide)) (by rfl) T.g__law_draw T.F__law_draw.kp T.b__law_draw .nil pass0 (pa_cons (pv 0) (pa_cons pe_int pa_nil))) pe_int (nomark _)) pa_nil)))) (pv 9) (nomark _))
      (pss_one (ps_ret pe_bl))
      pss_nil)
    (pss_one (ps_if (pt_cmpR (HS.kne K (hu64 hr)) (pe_lc (own := [("one", 12)]) (g := gName 12) (tt := tYes) rfl sc__law_right.nd (HS.kil K (pi_list (pv 4))) (blkOk_by (own := [("one", 12)]) (N := N__law_right) (sc := defScope s__law_right) (by decide +kernel)) (fun _ _ _ _ _ => pg_name (i := 12) sc__law_right.nd rfl (by first | exact .inl rfl | exact .inr rfl)) (fun _ _ _ _ _ => pts_nil) (fun _ _ _ _ _ => (pe_prop (pv 12) T.C_HiddenBook T.P_HiddenBook_questions G_HiddenBook_questions (hr.mono (by decide)) T.b_HiddenBook_questions .nil pass0 rfl))) (pv 5) (nomark _))
      (pss_one (ps_ret pe_bl))
      pss_nil)))))))))
    (pss_cons (ps_asg (pe_call G__law_bad_book (hr.mono (by decide)) (by rfl) T.g__law_bad_book T.F__law_bad_book.kp T.b__law_bad_book .nil pass0 (pa_cons (pv 0) (pa_cons (pe_ix (HS.ixl K) (pv 2) pe_int (fun _ _ => rfl)) pa_nil))) (HS.kunl K (pg_unl rfl (pgs_cons (pg_name (i := 10) sc__law_right.nd rfl (.inl rfl)) (pgs_cons (pg_name (i := 11) sc__law_right.nd rfl (.inl rfl)) pgs_nil)))))
    (pss_one (ps_ret (pe_and (pe_cmpR (HS.keq K (hu64 hr)) (pe_call G__law_made hr (by rfl) T.g__law_made T.F__law_made.kp T.b__law_made .nil pass0 (pa_cons (pv 10) pa_nil)) (pe_lst (pa_cons pe_str (pa_cons (pv 11) pa_nil))) (nomark _)) (pe_one (pe_cmpR (HS.keq K (hu64 hr)) (pe_call G__law_made hr (by rfl) T.g__law_made T.F__law_made.kp T.b__law_made .nil pass0 (pa_cons (pe_ix (HS.ixl K) (pv 2) pe_int (fun _ _ => rfl)) pa_nil)) (pe_lst (pa_cons pe_str (pa_cons pe_non pa_nil))) (nomark _)))))))))))))))), ?_⟩
    obtain ⟨S0, hn, k⟩ := hw
    have W := wd_rng S0
    walk_at "hs"
    intro p hp
    generalize hG_p : upd _ p _ = H1
    replace W := W.newG hG_p hp
    clear hG_p hp
    try dsimp only [List.set, List.cons_append, List.nil_append] at W
    walk_at "hs"
    refine ⟨s, 2, _, rfl, W.rng 0 rfl, by decide, by decide, by omega, fun H2 a K1 S1 a0 a1 => ?_⟩
    replace W := W.drawn 0 rfl K1 S1
    refine HS.ixI [60, 999999999999999999999999999999] (W.sq 1 rfl) a0 a1 fun far _ hz => ?_
    have hfar : 1 ≤ far ∧ far < 10 ^ 30 := by
      simp only [List.mem_cons, List.not_mem_nil, or_false] at hz
      rcases hz with rfl | rfl <;> omega
    clear hz
    replace W := W.take 1
    walk_at "hs"
    refine ⟨s, 40, far, _, rfl, W.rng 0 rfl, by decide, by decide, hfar.1, hfar.2, by omega, fun H3 q1 l1 K3 hq10 hq1s hq1 hl1 L1 S3 => ?_⟩
    replace W := W.madeT (P := Eq _) (W.drawn 0 rfl K3 S3) rfl hq10 hq1 rfl
    walk_at "hs"
    refine ⟨s, 4, far, _, rfl, W.rng 0 rfl, by decide, by decide, hfar.1, hfar.2, by omega, fun H4 q2 l2 K4 hq20 hq2s hq2 hl2 L2 S4 => ?_⟩
    replace W := W.madeT (P := Eq _) (W.drawn 0 rfl K4 S4) rfl hq20 hq2 rfl
    clear hq10 hq1s hq1 hq20 hq2s hq2 S1 S3 S4 K1 K3 K4
    walk_at "hs"
    intro p3 hp3
    generalize hG_p3 : upd _ p3 _ = H5
    replace W := W.newG hG_p3 hp3
    clear hG_p3 hp3
    try dsimp only [List.set, List.cons_append, List.nil_append] at W
    walk_at "hs"
    refine ⟨⟨_, W.sq 3 rfl⟩, fun D hD => lc_list (xs := [.ref q1, .ref q2]) (fun i H' => (i = 0 ∧ HS.Wd H H' (fun a => a = s) [(s, RngO (n + 803)), (q1, Eq (.lst (l1.map V.int))), (q2, Eq (.lst (l2.map V.int))), (p3, Eq (.lst [.ref q1, .ref q2])), (D, Eq (.lst []))]) ∨
      (i = 1 ∧ ∃ a1, HS.Wd H H' (fun a => a = s) [(s, RngO (n + 803)), (q1, Eq (.lst (l1.map V.int))), (q2, Eq (.lst (l2.map V.int))), (p3, Eq (.lst [.ref q1, .ref q2])), (D, Eq (.lst [.ref a1])), (a1, Eq (.lst (l1.map V.int)))]) ∨
      (i = 2 ∧ ∃ a1 a2, HS.Wd H H' (fun a => a = s) [(s, RngO (n + 803)), (q1, Eq (.lst (l1.map V.int))), (q2, Eq (.lst (l2.map V.int))), (p3, Eq (.lst [.ref q1, .ref q2])), (D, Eq (.lst [.ref a1, .ref a2])), (a1, Eq (.lst (l1.map V.int))), (a2, Eq (.lst (l2.map V.int)))])) ?_ ?_ ?_ ?_⟩
    · exact .inl ⟨rfl, W.new hD rfl⟩
    · rintro i H6 hi (⟨_, W⟩ | ⟨_, a1, W⟩ | ⟨_, a1, a2, W⟩) <;> exact W.sq 3 rfl
    · rintro i x H6 hi (⟨rfl, W⟩ | ⟨rfl, a1, W⟩ | ⟨rfl, a1, a2, W⟩)
      · cases hi
        walk_at "hs"
        refine ⟨q1, _, rfl, .inl (W.sq 1 rfl), ?_⟩
        intro a1 ha1
        generalize hG_a1 : upd _ a1 _ = H7
        replace W := W.newG hG_a1 ha1
        clear hG_a1 ha1
        try dsimp only [List.set, List.cons_append, List.nil_append] at W
        refine ⟨_, W.at 4 rfl, HS.sz (show _ ≤ 100000 from by simp), .inr (.inl ⟨rfl, a1, W.put 4 rfl rfl⟩)⟩
      · cases hi
        walk_at "hs"
        refine ⟨q2, _, rfl, .inl (W.sq 2 rfl), ?_⟩
        intro a2 ha2
        generalize hG_a2 : upd _ a2 _ = H7
        replace W := W.newG hG_a2 ha2
        clear hG_a2 ha2
        try dsimp only [List.set, List.cons_append, List.nil_append] at W
        refine ⟨_, W.at 4 rfl, HS.sz (show _ ≤ 100000 from by simp), .inr (.inr ⟨rfl, a1, a2, W.put 4 rfl rfl⟩)⟩
      · cases hi
    rintro H6 (⟨e, W⟩ | ⟨e, a1, W⟩ | ⟨_, a1, a2, W⟩)
    · exact absurd (show 2 = 0 from e) (by decide)
    · exact absurd (show 2 = 1 from e) (by decide)
    have g1 := badAt_none L1.one
    have g2 := badAt_none L2.one
    walk_at "hs"
    refine HS.ixL (W.sq 4 rfl) rfl ?_
    walk_at "hs"
    intro o1 dx1 ho1 hdx1 hne1
    have Wa := (W.new (o := .own o1) (P := fun _ => True) hdx1 trivial).new (o := .ins A.c_HiddenBook dx1 []) (P := fun _ => True) (by rw [upd_ne hne1.symm]; exact ho1) trivial
    refine ⟨o1, dx1, a1, l1, rfl, upd_same, Wa.sq 5 rfl, by omega, fun i hi => absurd (g1.symm.trans hi) (by simp), fun _ H7 b1 K7 hb1 h1 => ⟨rfl, ?_⟩⟩
    replace W := wd_hid W ho1 hdx1 hne1 K7 hb1 h1
    dsimp only [List.set, List.cons_append, List.nil_append] at W
    clear Wa
    walk_at "hs"
    refine HS.ixL (W.sq 4 rfl) rfl ?_
    walk_at "hs"
    intro o2 dx2 ho2 hdx2 hne2
    have Wa := (W.new (o := .own o2) (P := fun _ => True) hdx2 trivial).new (o := .ins A.c_HiddenBook dx2 []) (P := fun _ => True) (by rw [upd_ne hne2.symm]; exact ho2) trivial
    refine ⟨rfl, rfl, o2, dx2, a2, l2, rfl, upd_same, Wa.sq 6 rfl, by omega, fun i hi => absurd (g2.symm.trans hi) (by simp), fun _ H8 b2 K8 hb2 h2 => ⟨rfl, ?_⟩⟩
    replace W := wd_hid W ho2 hdx2 hne2 K8 hb2 h2
    dsimp only [List.set, List.cons_append, List.nil_append] at W
    clear Wa
    walk_at "hs"
    intro ps hps
    generalize hG_ps : upd _ ps _ = H9
    replace W := W.newG hG_ps hps
    clear hG_ps hps
    try dsimp only [List.set, List.cons_append, List.nil_append] at W
    walk_at "hs"
    refine HS.neSame (HS.dp_II (W.sq 4 rfl) (W.sq 5 rfl) (W.sq 6 rfl)) (HS.dp_II (W.sq 3 rfl) (W.sq 1 rfl) (W.sq 2 rfl)) (HS.sh_II _ _) (HS.eqv_II _ _) ?_
    walk_at "hs"
    refine HS.ixL (W.sq 4 rfl) rfl ?_
    refine HS.tyL (W.at 5 rfl) ?_
    refine ⟨a1, _, rfl, rfl, W.at 5 rfl, ?_⟩
    generalize hG_a1 : upd _ a1 _ = HA
    replace W := W.putG 5 rfl hG_a1
    clear hG_a1
    try dsimp only [List.set, List.cons_append, List.nil_append] at W
    walk_at "hs"
    refine HS.ixL (W.sq 4 rfl) rfl ?_
    refine HS.tyL (W.at 6 rfl) ?_
    walk_at "hs"
    refine HS.app (W.at 6 rfl) ⟨HS.sz (by rw [List.length_map]; omega), ?_⟩
    generalize hG_a2 : upd _ a2 _ = HB
    replace W := W.putG 6 rfl hG_a2
    clear hG_a2
    try dsimp only [List.set, List.cons_append, List.nil_append] at W
    walk_at "hs"
    intro pc hpc
    generalize hG_pc : upd _ pc _ = HC
    replace W := W.newG hG_pc hpc
    clear hG_pc hpc
    try dsimp only [List.set, List.cons_append, List.nil_append] at W
    walk_at "hs"
    refine ⟨s, 31, _, rfl, W.rng 0 rfl, by decide, by decide, by omega, fun HD t K9 S9 t0 t1 => ?_⟩
    replace W := W.drawn 0 rfl K9 S9
    replace W : HS.Wd H HD (fun a => a = s) (L22 A s (n + 804) q1 q2 p3 o1 o2 b1 b2 dx1 dx2 ps pc l1 l2 0 0) := W.sub (by walk_at "sub")
    clear hb1 hb2 ho1 ho2 hdx1 hdx2 h1 h2 K7 K8 K9 S9 hD g1
    walk_at "hs"
    refine ⟨by omega, by omega, for_range (n := t.toNat) (fun i σ H' => ∃ c1 c2 : Int, HS.Wd H H' (fun a => a = s) (L22 A s (n + 804 + 12 * i) q1 q2 p3 o1 o2 b1 b2 dx1 dx2 ps pc l1 l2 c1 c2) ∧ ∃ x6 x7 x8 x9, σ = [some (.ref s), some (.int far), some (.ref p3), some (.ref D), some (.ref ps), some (.ref pc), x6, x7, x8, x9, none, none, none]) ?_ ?_ ?_⟩
    · exact ⟨0, 0, W, _, _, _, _, rfl⟩
    · rintro i σ H7 hi ⟨c1, c2, W, x6, x7, x8, x9, rfl⟩
      walk_at "hs"
      refine ⟨s, 2, _, rfl, W.rng 0 rfl, by decide, by decide, by omega, fun H8 d K8 S8 d0 d1 => ?_⟩
      replace W := W.drawn 0 rfl K8 S8
      have hd : d = 0 ∨ d = 1 := by omega
      rcases hd with rfl | rfl
      · walk_at "hs"
        refine HS.ixL (W.sq 3 rfl) rfl ?_
        walk_at "hs"
        refine ⟨s, q1, l1, far, _, rfl, W.rng 0 rfl, W.sq 1 rfl, W.ne 1 0 rfl rfl, by omega, fun x hx => ⟨(L1 x hx).1, by have := (L1 x hx).2; omega⟩, hfar.1, hfar.2, by omega, fun H9 j0 K9 S9 j1 j2 => ?_⟩
        replace W := W.drawn 0 rfl K9 S9
        walk_at "hs"
        refine HS.cut (fun σ' H' => ∃ j : Int, j < 2 ^ 200 ∧ HS.Wd H H' (fun a => a = s) (L22 A s (n + 804 + 12 * i + 8) q1 q2 p3 o1 o2 b1 b2 dx1 dx2 ps pc l1 l2 c1 c2) ∧ σ' = [some (.ref s), some (.int far), some (.ref p3), some (.ref D), some (.ref ps), some (.ref pc), some (.int (0 + (i : Nat))), some (.int 0), some (.int j), x9, none, none, none]) ?_ ?_
        · walk_at "hs"
          refine ⟨s, 5, _, rfl, W.rng 0 rfl, by decide, by decide, by omega, fun HA e KA SA e0 e1 => ?_⟩
          replace W := W.drawn 0 rfl KA SA
          walk_at "hs"
          refine HS.itd (fun z0 => ?_) (fun z0 => ?_)
          · walk_at "hs"
            refine ⟨s, _, _, rfl, W.rng 0 rfl, by decide, by decide, by omega, fun HB f KB SB f0 f1 => ?_⟩
            replace W := W.drawn 0 rfl KB SB
            walk_at "hs"
            intro v hv
            generalize hG_v : upd _ v _ = HC2
            replace W := W.newG hG_v hv
            clear hG_v hv
            try dsimp only [List.set, List.cons_append, List.nil_append] at W
            walk_at "hs"
            refine ⟨s, 3, _, rfl, W.rng 0 rfl, by decide, by decide, by omega, fun HE g KE SE g0 g1 => ?_⟩
            replace W := W.drawn 0 rfl KE SE
            refine HS.ixI [0, 1, f] (W.sq 10 rfl) g0 g1 fun z _ hz => ?_
            have hz1 : 0 ≤ z := by
              simp only [List.mem_cons, List.not_mem_nil, or_false] at hz
              rcases hz with rfl | rfl | rfl <;> omega
            walk_at "hs"
            exact ⟨0 - z, by omega, (W.rup 0 rfl (by omega)).take 10, rfl⟩
          · walk_at "hs"
            exact ⟨j0, by omega, W.rup 0 rfl (by omega), rfl⟩
        rintro σ8 H10 ⟨j, hj, W, rfl⟩
        walk_at "hs"
        intro u hu
        generalize hG_u : upd _ u _ = H11
        replace W := W.newG hG_u hu
        clear hG_u hu
        try dsimp only [List.set, List.cons_append, List.nil_append] at W
        refine HS.cut (fun σ' H' => ∃ u, σ' = [some (.ref s), some (.int far), some (.ref p3), some (.ref D), some (.ref ps), some (.ref pc), some (.int (0 + (i : Nat))), some (.int 0), some (.int j), some (.ref u), none, none, none] ∧ ((1 ≤ j ∧ HS.Wd H H' (fun a => a = s) ((L22 A s (n + 804 + 12 * i + 8) q1 q2 p3 o1 o2 b1 b2 dx1 dx2 ps pc l1 l2 c1 c2).set 9 (pc, Eq (.lst [.int (c1 + 1), .int c2])) ++ [(u, Eq (.lst [.int (pcount l1 j)]))])) ∨ (j < 1 ∧ HS.Wd H H' (fun a => a = s) ((L22 A s (n + 804 + 12 * i + 8) q1 q2 p3 o1 o2 b1 b2 dx1 dx2 ps pc l1 l2 c1 c2) ++ [(u, Eq (.lst [.str "size", .int j]))])))) ?_ ?_
        · walk_at "hs"
          refine HS.itd (fun z0 => ?_) (fun z0 => ?_)
          · replace W := W.take 10
            walk_at "hs"
            refine HS.ixL (W.sq 3 rfl) rfl ?_
            walk_at "hs"
            refine ⟨q1, l1, j, rfl, W.sq 1 rfl, by omega, by omega, hj, fun H12 K12 => ?_⟩
            replace W := W.same K12
            walk_at "hs"
            intro u2 hu2
            generalize hG_u2 : upd _ u2 _ = H13
            replace W := W.newG hG_u2 hu2
            clear hG_u2 hu2
            try dsimp only [List.set, List.cons_append, List.nil_append] at W
            walk_at "hs"
            refine HS.ixL (W.sq 9 rfl) rfl ?_
            walk_at "hs"
            refine HS.setL (W.at 9 rfl) (by rfl) ?_
            generalize hG_pc : upd _ pc _ = H14
            replace W := W.putG 9 rfl hG_pc
            clear hG_pc
            try dsimp only [List.set, List.cons_append, List.nil_append] at W
            exact ⟨u2, rfl, .inl ⟨by omega, W⟩⟩
          · walk_at "hs"
            exact ⟨u, rfl, .inr ⟨by omega, W⟩⟩
        rintro σ9 H12 ⟨u, rfl, hcase⟩
        refine HS.cut (fun σ' H' => σ' = [some (.ref s), some (.int far), some (.ref p3), some (.ref D), some (.ref ps), some (.ref pc), some (.int (0 + (i : Nat))), some (.int 0), some (.int j), some (.ref u), none, none, none] ∧ ∃ c1 c2 : Int, HS.Wd H H' (fun a => a = s) (L22 A s (n + 804 + 12 * i + 9) q1 q2 p3 o1 o2 b1 b2 dx1 dx2 ps pc l1 l2 c1 c2)) ?_ ?_
        · rcases hcase with ⟨hj1, W⟩ | ⟨hj1, W⟩
          · try dsimp only [List.set, List.cons_append, List.nil_append] at W
            walk_at "hs"
            refine HS.ixL (W.sq 8 rfl) rfl ?_
            walk_at "hs"
            refine ⟨s, 2, _, rfl, W.rng 0 rfl, by decide, by decide, by omega, fun H13 g K13 S13 g0 g1 => ?_⟩
            replace W := W.drawn 0 rfl K13 S13
            walk_at "hs"
            refine ⟨o1, b1, dx1, l1, c1, j, decide (g = 0), rfl, wd_at W 4 5 rfl rfl, by omega, hj, fun z => absurd hj1 (by omega), fun _ H14 r K14 hr hA hr2 => ?_⟩
            replace W := W.madeT (W.chgE 4 rfl K14 hA.1) rfl hr hr2 (P := Eq _) rfl
            walk_at "hs"
            refine HS.neL (xs := [pcount l1 j]) (ys := [pcount l1 j]) (W.sq 11 rfl) (W.sq 10 rfl) ?_
            rw [decide_eq_true rfl]
            walk_at "hs"
            exact ⟨rfl, _, _, (W.rup 0 rfl (by omega)).take 10⟩
          · try dsimp only [List.set, List.cons_append, List.nil_append] at W
            walk_at "hs"
            refine HS.ixL (W.sq 8 rfl) rfl ?_
            walk_at "hs"
            refine ⟨s, 2, _, rfl, W.rng 0 rfl, by decide, by decide, by omega, fun H13 g K13 S13 g0 g1 => ?_⟩
            replace W := W.drawn 0 rfl K13 S13
            walk_at "hs"
            refine ⟨o1, b1, dx1, l1, c1, j, decide (g = 0), rfl, wd_at W 4 5 rfl rfl, by omega, hj, fun _ H14 r K14 hr hr2 => ?_, fun z => absurd hj1 (by omega)⟩
            replace W := W.made K14 hr hr2 (P := Eq _) rfl
            walk_at "hs"
            refine HS.neSame (HS.dp_SI (W.sq 11 rfl)) (HS.dp_SI (W.sq 10 rfl)) (HS.sh_SI _ _) (HS.eqv_SI _ _) ?_
            walk_at "hs"
            exact ⟨rfl, _, _, (W.rup 0 rfl (by omega)).take 10⟩
        rintro σ10 H13 ⟨rfl, d1, d2, W⟩
        walk_at "hs"
        refine ⟨⟨_, W.sq 8 rfl⟩, fun G hG => lc_list (xs := [.ref o1, .ref o2]) (fun i' H' => (i' = 0 ∧ HS.Wd H H' (fun a => a = s) ((L22 A s (n + 804 + 12 * i + 9) q1 q2 p3 o1 o2 b1 b2 dx1 dx2 ps pc l1 l2 d1 d2) ++ [(G, Eq (.lst []))])) ∨ (i' = 1 ∧ HS.Wd H H' (fun a => a = s) ((L22 A s (n + 804 + 12 * i + 9) q1 q2 p3 o1 o2 b1 b2 dx1 dx2 ps pc l1 l2 d1 d2) ++ [(G, Eq (.lst [.int d1]))])) ∨ (i' = 2 ∧ HS.Wd H H' (fun a => a = s) ((L22 A s (n + 804 + 12 * i + 9) q1 q2 p3 o1 o2 b1 b2 dx1 dx2 ps pc l1 l2 d1 d2) ++ [(G, Eq (.lst [.int d1, .int d2]))]))) ?_ ?_ ?_ ?_⟩
        · exact .inl ⟨rfl, W.new hG rfl⟩
        · rintro i' H6 _ (⟨_, W⟩ | ⟨_, W⟩ | ⟨_, W⟩) <;> exact W.sq 8 rfl
        · rintro i' x H6 hi (⟨rfl, W⟩ | ⟨rfl, W⟩ | ⟨rfl, W⟩)
          · cases hi
            walk_at "hs"
            refine ⟨o1, dx1, _, rfl, W.at 4 rfl, o1, b1, dx1, l1, d1, rfl, wd_at W 4 5 rfl rfl, ?_⟩
            exact ⟨_, W.at 10 rfl, HS.sz (show _ ≤ 100000 from by simp), .inr (.inl ⟨rfl, W.put 10 rfl rfl⟩)⟩
          · cases hi
            walk_at "hs"
            refine ⟨o2, dx2, _, rfl, W.at 6 rfl, o2, b2, dx2, l2, d2, rfl, wd_at W 6 7 rfl rfl, ?_⟩
            exact ⟨_, W.at 10 rfl, HS.sz (show _ ≤ 100000 from by simp), .inr (.inr ⟨rfl, W.put 10 rfl rfl⟩)⟩
          · cases hi
        rintro H14 (⟨e, W⟩ | ⟨e, W⟩ | ⟨_, W⟩)
        · exact absurd (show 2 = 0 from e) (by decide)
        · exact absurd (show 2 = 1 from e) (by decide)
        walk_at "hs"
        refine HS.neL (xs := [d1, d2]) (ys := [d1, d2]) (W.sq 10 rfl) (W.sq 9 rfl) ?_
        rw [decide_eq_true rfl]
        walk_at "hs"
        exact ⟨d1, d2, (W.rup 0 rfl (by omega)).take 10, _, _, _, _, rfl⟩
      · walk_at "hs"
        refine HS.ixL (W.sq 3 rfl) rfl ?_
        walk_at "hs"
        refine ⟨s, q2, l2, far, _, rfl, W.rng 0 rfl, W.sq 2 rfl, W.ne 2 0 rfl rfl, by omega, fun x hx => ⟨(L2 x hx).1, by have := (L2 x hx).2; omega⟩, hfar.1, hfar.2, by omega, fun H9 j0 K9 S9 j1 j2 => ?_⟩
        replace W := W.drawn 0 rfl K9 S9
        walk_at "hs"
        refine HS.cut (fun σ' H' => ∃ j : Int, j < 2 ^ 200 ∧ HS.Wd H H' (fun a => a = s) (L22 A s (n + 804 + 12 * i + 8) q1 q2 p3 o1 o2 b1 b2 dx1 dx2 ps pc l1 l2 c1 c2) ∧ σ' = [some (.ref s), some (.int far), some (.ref p3), some (.ref D), some (.ref ps), some (.ref pc), some (.int (0 + (i : Nat))), some (.int 1), some (.int j), x9, none, none, none]) ?_ ?_
        · walk_at "hs"
          refine ⟨s, 5, _, rfl, W.rng 0 rfl, by decide, by decide, by omega, fun HA e KA SA e0 e1 => ?_⟩
          replace W := W.drawn 0 rfl KA SA
          walk_at "hs"
          refine HS.itd (fun z0 => ?_) (fun z0 => ?_)
          · walk_at "hs"
            refine ⟨s, _, _, rfl, W.rng 0 rfl, by decide, by decide, by omega, fun HB f KB SB f0 f1 => ?_⟩
            replace W := W.drawn 0 rfl KB SB
            walk_at "hs"
            intro v hv
            generalize hG_v : upd _ v _ = HC2
            replace W := W.newG hG_v hv
            clear hG_v hv
            try dsimp only [List.set, List.cons_append, List.nil_append] at W
            walk_at "hs"
            refine ⟨s, 3, _, rfl, W.rng 0 rfl, by decide, by decide, by omega, fun HE g KE SE g0 g1 => ?_⟩
            replace W := W.drawn 0 rfl KE SE
            refine HS.ixI [0, 1, f] (W.sq 10 rfl) g0 g1 fun z _ hz => ?_
            have hz1 : 0 ≤ z := by
              simp only [List.mem_cons, List.not_mem_nil, or_false] at hz
              rcases hz with rfl | rfl | rfl <;> omega
            walk_at "hs"
            exact ⟨0 - z, by omega, (W.rup 0 rfl (by omega)).take 10, rfl⟩
          · walk_at "hs"
            exact ⟨j0, by omega, W.rup 0 rfl (by omega), rfl⟩
        rintro σ8 H10 ⟨j, hj, W, rfl⟩
        walk_at "hs"
        intro u hu
        generalize hG_u : upd _ u _ = H11
        replace W := W.newG hG_u hu
        clear hG_u hu
        try dsimp only [List.set, List.cons_append, List.nil_append] at W
        refine HS.cut (fun σ' H' => ∃ u, σ' = [some (.ref s), some (.int far), some (.ref p3), some (.ref D), some (.ref ps), some (.ref pc), some (.int (0 + (i : Nat))), some (.int 1), some (.int j), some (.ref u), none, none, none] ∧ ((1 ≤ j ∧ HS.Wd H H' (fun a => a = s) ((L22 A s (n + 804 + 12 * i + 8) q1 q2 p3 o1 o2 b1 b2 dx1 dx2 ps pc l1 l2 c1 c2).set 9 (pc, Eq (.lst [.int c1, .int (c2 + 1)])) ++ [(u, Eq (.lst [.int (pcount l2 j)]))])) ∨ (j < 1 ∧ HS.Wd H H' (fun a => a = s) ((L22 A s (n + 804 + 12 * i + 8) q1 q2 p3 o1 o2 b1 b2 dx1 dx2 ps pc l1 l2 c1 c2) ++ [(u, Eq (.lst [.str "size", .int j]))])))) ?_ ?_
        · walk_at "hs"
          refine HS.itd (fun z0 => ?_) (fun z0 => ?_)
          · replace W := W.take 10
            walk_at "hs"
            refine HS.ixL (W.sq 3 rfl) rfl ?_
            walk_at "hs"
            refine ⟨q2, l2, j, rfl, W.sq 2 rfl, by omega, by omega, hj, fun H12 K12 => ?_⟩
            replace W := W.same K12
            walk_at "hs"
            intro u2 hu2
            generalize hG_u2 : upd _ u2 _ = H13
            replace W := W.newG hG_u2 hu2
            clear hG_u2 hu2
            try dsimp only [List.set, List.cons_append, List.nil_append] at W
            walk_at "hs"
            refine HS.ixL (W.sq 9 rfl) rfl ?_
            walk_at "hs"
            refine HS.setL (W.at 9 rfl) (by rfl) ?_
            generalize hG_pc : upd _ pc _ = H14
            replace W := W.putG 9 rfl hG_pc
            clear hG_pc
            try dsimp only [List.set, List.cons_append, List.nil_append] at W
            exact ⟨u2, rfl, .inl ⟨by omega, W⟩⟩
          · walk_at "hs"
            exact ⟨u, rfl, .inr ⟨by omega, W⟩⟩
        rintro σ9 H12 ⟨u, rfl, hcase⟩
        refine HS.cut (fun σ' H' => σ' = [some (.ref s), some (.int far), some (.ref p3), some (.ref D), some (.ref ps), some (.ref pc), some (.int (0 + (i : Nat))), some (.int 1), some (.int j), some (.ref u), none, none, none] ∧ ∃ c1 c2 : Int, HS.Wd H H' (fun a => a = s) (L22 A s (n + 804 + 12 * i + 9) q1 q2 p3 o1 o2 b1 b2 dx1 dx2 ps pc l1 l2 c1 c2)) ?_ ?_
        · rcases hcase with ⟨hj1, W⟩ | ⟨hj1, W⟩
          · try dsimp only [List.set, List.cons_append, List.nil_append] at W
            walk_at "hs"
            refine HS.ixL (W.sq 8 rfl) rfl ?_
            walk_at "hs"
            refine ⟨s, 2, _, rfl, W.rng 0 rfl, by decide, by decide, by omega, fun H13 g K13 S13 g0 g1 => ?_⟩
            replace W := W.drawn 0 rfl K13 S13
            walk_at "hs"
            refine ⟨o2, b2, dx2, l2, c2, j, decide (g = 0), rfl, wd_at W 6 7 rfl rfl, by omega, hj, fun z => absurd hj1 (by omega), fun _ H14 r K14 hr hA hr2 => ?_⟩
            replace W := W.madeT (W.chgE 6 rfl K14 hA.1) rfl hr hr2 (P := Eq _) rfl
            walk_at "hs"
            refine HS.neL (xs := [pcount l2 j]) (ys := [pcount l2 j]) (W.sq 11 rfl) (W.sq 10 rfl) ?_
            rw [decide_eq_true rfl]
            walk_at "hs"
            exact ⟨rfl, _, _, (W.rup 0 rfl (by omega)).take 10⟩
          · try dsimp only [List.set, List.cons_append, List.nil_append] at W
            walk_at "hs"
            refine HS.ixL (W.sq 8 rfl) rfl ?_
            walk_at "hs"
            refine ⟨s, 2, _, rfl, W.rng 0 rfl, by decide, by decide, by omega, fun H13 g K13 S13 g0 g1 => ?_⟩
            replace W := W.drawn 0 rfl K13 S13
            walk_at "hs"
            refine ⟨o2, b2, dx2, l2, c2, j, decide (g = 0), rfl, wd_at W 6 7 rfl rfl, by omega, hj, fun _ H14 r K14 hr hr2 => ?_, fun z => absurd hj1 (by omega)⟩
            replace W := W.made K14 hr hr2 (P := Eq _) rfl
            walk_at "hs"
            refine HS.neSame (HS.dp_SI (W.sq 11 rfl)) (HS.dp_SI (W.sq 10 rfl)) (HS.sh_SI _ _) (HS.eqv_SI _ _) ?_
            walk_at "hs"
            exact ⟨rfl, _, _, (W.rup 0 rfl (by omega)).take 10⟩
        rintro σ10 H13 ⟨rfl, d1, d2, W⟩
        walk_at "hs"
        refine ⟨⟨_, W.sq 8 rfl⟩, fun G hG => lc_list (xs := [.ref o1, .ref o2]) (fun i' H' => (i' = 0 ∧ HS.Wd H H' (fun a => a = s) ((L22 A s (n + 804 + 12 * i + 9) q1 q2 p3 o1 o2 b1 b2 dx1 dx2 ps pc l1 l2 d1 d2) ++ [(G, Eq (.lst []))])) ∨ (i' = 1 ∧ HS.Wd H H' (fun a => a = s) ((L22 A s (n + 804 + 12 * i + 9) q1 q2 p3 o1 o2 b1 b2 dx1 dx2 ps pc l1 l2 d1 d2) ++ [(G, Eq (.lst [.int d1]))])) ∨ (i' = 2 ∧ HS.Wd H H' (fun a => a = s) ((L22 A s (n + 804 + 12 * i + 9) q1 q2 p3 o1 o2 b1 b2 dx1 dx2 ps pc l1 l2 d1 d2) ++ [(G, Eq (.lst [.int d1, .int d2]))]))) ?_ ?_ ?_ ?_⟩
        · exact .inl ⟨rfl, W.new hG rfl⟩
        · rintro i' H6 _ (⟨_, W⟩ | ⟨_, W⟩ | ⟨_, W⟩) <;> exact W.sq 8 rfl
        · rintro i' x H6 hi (⟨rfl, W⟩ | ⟨rfl, W⟩ | ⟨rfl, W⟩)
          · cases hi
            walk_at "hs"
            refine ⟨o1, dx1, _, rfl, W.at 4 rfl, o1, b1, dx1, l1, d1, rfl, wd_at W 4 5 rfl rfl, ?_⟩
            exact ⟨_, W.at 10 rfl, HS.sz (show _ ≤ 100000 from by simp), .inr (.inl ⟨rfl, W.put 10 rfl rfl⟩)⟩
          · cases hi
            walk_at "hs"
            refine ⟨o2, dx2, _, rfl, W.at 6 rfl, o2, b2, dx2, l2, d2, rfl, wd_at W 6 7 rfl rfl, ?_⟩
            exact ⟨_, W.at 10 rfl, HS.sz (show _ ≤ 100000 from by simp), .inr (.inr ⟨rfl, W.put 10 rfl rfl⟩)⟩
          · cases hi
        rintro H14 (⟨e, W⟩ | ⟨e, W⟩ | ⟨_, W⟩)
        · exact absurd (show 2 = 0 from e) (by decide)
        · exact absurd (show 2 = 1 from e) (by decide)
        walk_at "hs"
        refine HS.neL (xs := [d1, d2]) (ys := [d1, d2]) (W.sq 10 rfl) (W.sq 9 rfl) ?_
        rw [decide_eq_true rfl]
        walk_at "hs"
        exact ⟨d1, d2, (W.rup 0 rfl (by omega)).take 10, _, _, _, _, rfl⟩
    · rintro σ H7 ⟨c1, c2, W, x6, x7, x8, x9, rfl⟩
      walk_at "hs"
      refine HS.ixL (W.sq 3 rfl) rfl ?_
      walk_at "hs"
      refine ⟨s, q2, l2, _, rfl, W.rng 0 rfl, W.sq 2 rfl, by omega, by omega, fun H8 r pb ms i0 K8 hr0 hpb0 hrp hr hpb hb0 hml S8 => ?_⟩
      replace W := (W.madeT (W.drawn 0 rfl K8 S8) rfl hr0 hr (P := Eq _) rfl)
      have WB : HS.Wd H H8 (fun a => a = s) _ := W.take 4
      walk_at "hs"
      refine ⟨pb, ms, rfl, HS.sq hpb, by omega, fun i hi H9 u K9 hu0 hu => ?_, fun hi => absurd (hb0.symm.trans hi) (by simp)⟩
      have ei : i = i0 := Option.some.inj (hi.symm.trans hb0)
      subst ei
      replace W := W.made K9 hu0 hu (P := Eq _) rfl
      walk_at "hs"
      intro u2 hu2
      generalize hG_u2 : upd _ u2 _ = H10
      replace W := W.newG hG_u2 hu2
      clear hG_u2 hu2
      try dsimp only [List.set, List.cons_append, List.nil_append] at W
      refine HS.eqSame (HS.dp_SI (W.sq 11 rfl)) (HS.dp_SI (W.sq 12 rfl)) (HS.sh_SI _ _) (HS.eqv_SI _ _) ?_
      walk_at "hs"
      refine HS.ixL (W.sq 3 rfl) rfl ?_
      walk_at "hs"
      refine ⟨q1, l1, rfl, W.sq 1 rfl, by omega, fun i hi => absurd ((badAt_none L1.one).symm.trans hi) (by simp), fun _ H11 u3 K11 hu30 hu3 => ?_⟩
      replace W := W.made K11 hu30 hu3 (P := Eq _) rfl
      walk_at "hs"
      intro u4 hu4
      generalize hG_u4 : upd _ u4 _ = H12
      replace W := W.newG hG_u4 hu4
      clear hG_u4 hu4
      try dsimp only [List.set, List.cons_append, List.nil_append] at W
      refine HS.eqSame (HS.dp_SN (W.sq 13 rfl)) (HS.dp_SN (W.sq 14 rfl)) (HS.sh_SN _) (HS.eqv_SN _) ?_
      exact k _ W.kp ((W.rng 0 rfl).up (by omega))
def sp_law (K : PySem.W.Frag) : Sp := fun vs H Q _ => ∃ (a : Addr) (ns : List Int), vs = [.ref a] ∧ (SqL K H a (ns.map V.int) ∧ ns.length ≤ 63 ∧ ∀ H', Q (.bl true) H')
theorem ok_law (T : Txt K mg A) : FnOk P w K mg base CX0 8 A.a_law A.d_law ["script"] (sp_law K) := by
  have G__law_pool : FnOk P w K mg base CX0 1 A.a__law_pool A.d__law_pool ["script", "at"] (sp__law_pool K) := ok__law_pool T
  have G__law_right : FnOk P w K mg base CX0 7 A.a__law_right A.d__law_right ["pool"] (sp__law_right K) := ok__law_right T
  have G_HiddenBook_ask : FnOk P w K mg base (L2.CX P w) 4 A.a_HiddenBook_ask A.d_HiddenBook_ask ["self", "size"] (sp_HiddenBook_ask K A) := ok_HiddenBook_ask T
  have G_HiddenBook___init__ : FnOk P w K mg base (L2.CX P w) 4 A.a_HiddenBook___init__ A.d_HiddenBook___init__ ["self", "book"] (sp_HiddenBook___init__ K A) := ok_HiddenBook___init__ T
  refine T.F_law.ok sc_law (fun vs H Q E h => ?_) (fun cdv A0 outer s H vs Q E hr h => ?_)
  · obtain ⟨a, ns, rfl, hw⟩ := h
    rfl
  · obtain ⟨a, ns, rfl, hw⟩ := h
    refine ⟨_, (pss_cons (ps_for PassesOwn.never rfl (pi_range1 (by rfl) T.z_range (pa_cons (pe_callB (call_max2 rfl) (by rfl) T.z_max (by decide +kernel) (pa_cons pe_int (pa_cons (pe_callB (call_min2 rfl) (by rfl) T.z_min (by decide +kernel) (pa_cons pe_int (pa_cons (pe_callB (HS.klen K) (by rfl) T.z_len PySem.boot_len (pa_cons (pv 0) pa_nil)) pa_nil))) pa_nil))) pa_nil)) (pg_name (i := 1) sc_law.nd rfl (.inl rfl))
      (pss_cons (ps_set (i := 2) sc_law.nd rfl (.inl rfl) (pe_call G__law_pool (hr.mono (by decide)) (by rfl) T.g__law_pool T.F__law_pool.kp T.b__law_pool .nil pass0 (pa_cons (pv 0) (pa_cons (pv 1) pa_nil))))
    (pss_one (ps_for PassesOwn.never rfl (pi_range1 (by rfl) T.z_range (pa_cons pe_int pa_nil)) (pg_name (i := 3) sc_law.nd rfl (.inl rfl))
      (pss_one (ps_if (pt_not (pt_val (pe_call G__law_right hr (by rfl) T.g__law_right T.F__law_right.kp T.b__law_right .nil pass0 (pa_cons (pv 2) pa_nil))))
      (pss_one (ps_ret pe_bl))
      pss_nil))))))
    (pss_one (ps_ret (pe_cmpR op_eq (HS.pe_methS (HS.pe_makeS T.K_HiddenBook G_HiddenBook___init__ (hr.mono (by decide)) (by rfl) T.m_HiddenBook T.b_HiddenBook___init__ (fun σ => HS.passSt passL σ) (pa_cons (pe_lst pa_nil) pa_nil)) T.C_HiddenBook T.M_HiddenBook_ask G_HiddenBook_ask (hr.mono (by decide)) T.b_HiddenBook_ask (fun σ => HS.passSt passL σ) (pa_cons (HS.pe_fold (100000000000000000000000000000) (pe_op op_pow pe_int pe_int) (by intro σ H Q q; walk_at "fold")) pa_nil)) pe_int (nomark _))))), ?_⟩
    obtain ⟨hS, hl, k⟩ := hw
    walk_at "hs"
    rw [List.length_map]
    generalize hcc : (if (if (ns.length : Int) < 8 then (ns.length : Int) else 8) > 1 then (if (ns.length : Int) < 8 then (ns.length : Int) else 8) else 1) = c
    have c1 : 1 ≤ c ∧ c ≤ 8 := by
      rw [← hcc]
      constructor <;> (repeat' split) <;> omega
    refine ⟨by omega, by omega, for_range (n := c.toNat) (fun i σ H' => HS.Keep (fun _ => False) H H' ∧ ∃ x1 x2 x3, σ = [some (.ref a), x1, x2, x3]) ⟨.refl, _, _, _, rfl⟩ ?_ ?_⟩
    · rintro i σ H1 hi ⟨K1, x1, x2, x3, rfl⟩
      walk_at "hs"
      refine ⟨a, ns, _, rfl, K1.sq hS id, by omega, by omega, fun H2 s K2 hs0 S2 => ?_⟩
      have s0 := K1.free hs0 id
      walk_at "hs"
      refine ⟨by decide, by decide, for_range (n := Int.toNat 2) (fun j σ H' => HS.Keep (fun _ => False) H H' ∧ Rng H' s (1200 * j) ∧ ∃ x3, σ = [some (.ref a), some (.int (0 + (i : Int))), some (.ref s), x3]) ⟨K1.trans K2, S2, _, rfl⟩ ?_ ?_⟩
      · rintro j σ H3 hj ⟨K3, S3, x3, rfl⟩
        have hj3 : j < 2 := hj
        walk_at "hs"
        refine ⟨s, _, rfl, S3, by omega, fun H4 K4 S4 => ?_⟩
        walk_at "hs"
        exact ⟨keep_tro K3 K4 s0, S4.up (by omega), _, rfl⟩
      · rintro σ H3 ⟨K3, S3, x3, rfl⟩
        walk_at "hs"
        exact ⟨K3, _, _, _, rfl⟩
    · rintro σ H1 ⟨K1, x1, x2, x3, rfl⟩
      clear K1
      walk_at "hs"
      intro p1 hp1
      generalize hG_p1 : upd _ p1 _ = G1
      have at_p1 := HS.upgs hG_p1
      have Kn_p1 := HS.upgK hG_p1 hp1
      clear hG_p1
      walk_at "hs"
      intro o1 dx1 ho1 hdx1 hne1
      refine ⟨o1, dx1, p1, [], rfl, upd_same, HS.sq (by rw [upd_ne (ne_of_none at_p1 ho1), upd_ne (ne_of_none at_p1 hdx1)]; exact at_p1), by decide, fun i hi => (by cases hi), fun _ H3 b K3 hb3 h3 => ⟨rfl, ?_⟩⟩
      clear hb3 K3
      walk_at "hs"
      refine ⟨o1, dx1, _, rfl, h3.1, hf_no (by decide +kernel) (by decide +kernel), ?_⟩
      walk_at "hs"
      refine ⟨o1, b, dx1, [], 0, _, rfl, h3, by decide, by decide, fun z => absurd z (by decide), fun _ H4 K4 h4 => ?_⟩
      walk_at "hs"
      exact k _
end
theorem all_mk {l : PySem.W.OpenLaw} {w : World} {K : PySem.W.Frag} {h : Heap} {mg : Str → Option Value} {fa f0 f1 f2 f3 f4 f5 f6 f7 f8 f9 f10 f11 f12 f13 f14 f15 f16 f17 f18 f19 c_BookError c_InvalidBook c_InvalidSize c_InvalidTable c_InvalidChain c_InvalidNumber c_NothingToUndo c_Unreadable c_HiddenBook p_HiddenBook_questions : Addr} (X : K.In h) (G : h.Ns mainGlobals mg) (hfa : mg "law" = some (.ref fa))
    {od0 an0 od1 an1 od2 an2 od3 an3 od4 an4 od5 an5 od6 an6 od7 an7 od8 an8 od9 an9 od10 an10 od11 an11 od12 an12 od13 an13 od14 an14 od15 an15 od16 an16 od17 an17 od18 an18 od19 an19 : Option Addr} {sl0 sl1 sl2 sl3 sl4 sl5 sl6 sl7 sl8 sl9 sl10 sl11 sl12 sl13 sl14 sl15 sl16 sl17 sl18 sl19 : Array (Option Value)} {oc0 kV0 dc0 pm0 cd0 ct0 oc1 kV1 dc1 pm1 cd1 ct1 oc2 kV2 dc2 pm2 cd2 ct2 oc3 kV3 dc3 pm3 cd3 ct3 oc4 kV4 dc4 pm4 cd4 ct4 oc5 kV5 dc5 pm5 cd5 ct5 oc6 kV6 dc6 pm6 cd6 ct6 oc7 kV7 dc7 pm7 cd7 ct7 oc8 kV8 dc8 pm8 cd8 ct8 oc9 kV9 dc9 pm9 cd9 ct9 oc10 kV10 dc10 pm10 cd10 ct10 oc11 kV11 dc11 pm11 cd11 ct11 oc12 kV12 dc12 pm12 cd12 ct12 oc13 kV13 dc13 pm13 cd13 ct13 oc14 kV14 dc14 pm14 cd14 ct14 oc15 kV15 dc15 pm15 cd15 ct15 oc16 kV16 dc16 pm16 cd16 ct16 oc17 kV17 dc17 pm17 cd17 ct17 oc18 kV18 dc18 pm18 cd18 ct18 oc19 kV19 dc19 pm19 cd19 ct19 : Value}
    (m_BookError : PySem.W.nsIn K mainGlobals "BookError" = some (some (.ref c_BookError)))
    (m_InvalidBook : PySem.W.nsIn K mainGlobals "InvalidBook" = some (some (.ref c_InvalidBook)))
    (m_InvalidSize : PySem.W.nsIn K mainGlobals "InvalidSize" = some (some (.ref c_InvalidSize)))
    (m_InvalidTable : PySem.W.nsIn K mainGlobals "InvalidTable" = some (some (.ref c_InvalidTable)))
    (m_InvalidChain : PySem.W.nsIn K mainGlobals "InvalidChain" = some (some (.ref c_InvalidChain)))
    (m_InvalidNumber : PySem.W.nsIn K mainGlobals "InvalidNumber" = some (some (.ref c_InvalidNumber)))
    (m_NothingToUndo : PySem.W.nsIn K mainGlobals "NothingToUndo" = some (some (.ref c_NothingToUndo)))
    (m_Unreadable : PySem.W.nsIn K mainGlobals "Unreadable" = some (some (.ref c_Unreadable)))
    (m_HiddenBook : PySem.W.nsIn K mainGlobals "HiddenBook" = some (some (.ref c_HiddenBook)))
    (pg_HiddenBook : PySem.W.plainGet K c_HiddenBook Str.empty = true)
    (hd_HiddenBook : PySem.W.hasDictIn K c_HiddenBook = true)
    (po_HiddenBook : PySem.W.plainOver K c_HiddenBook = true)
    (sa_HiddenBook : PySem.W.findIn K (.ref c_HiddenBook) "__setattr__" = some (some (.builtin "object.__setattr__")))
    (mk_HiddenBook : PySem.W.makesIn K c_HiddenBook = true)
    (kc_HiddenBook : PySem.W.keepIn K (.ref c_HiddenBook) = true)
    (na_HiddenBook__lengths : PySem.W.findIn K (.ref c_HiddenBook) "_lengths" = some none)
    (na_HiddenBook__asked : PySem.W.findIn K (.ref c_HiddenBook) "_asked" = some none)
    (in_InvalidBook : PySem.W.findIn K (.ref c_InvalidBook) "__init__" = some (some (.ref f0)))
    (l0 : K.lookup f0 = some ⟨oc0, od0, .func (PySem.W.fnOf "__init__" "InvalidBook.__init__" (defArgs s_InvalidBook___init__) (defBody s_InvalidBook___init__) (defScope s_InvalidBook___init__) .none kV0 dc0 pm0 an0 cd0 ct0), sl0⟩) (c0 : PySem.W.codeIn K cd0 "InvalidBook.__init__" = true) (k0 : PySem.W.keepIn K (.ref f0) = true)
    (in_InvalidSize : PySem.W.findIn K (.ref c_InvalidSize) "__init__" = some (some (.ref f1)))
    (l1 : K.lookup f1 = some ⟨oc1, od1, .func (PySem.W.fnOf "__init__" "InvalidSize.__init__" (defArgs s_InvalidSize___init__) (defBody s_InvalidSize___init__) (defScope s_InvalidSize___init__) .none kV1 dc1 pm1 an1 cd1 ct1), sl1⟩) (c1 : PySem.W.codeIn K cd1 "InvalidSize.__init__" = true) (k1 : PySem.W.keepIn K (.ref f1) = true)
    (a2 : PySem.W.nsIn K mainGlobals "check_book" = some (some (.ref f2)))
    (l2 : K.lookup f2 = some ⟨oc2, od2, .func (PySem.W.fnOf "check_book" "check_book" (defArgs s_check_book) (defBody s_check_book) (defScope s_check_book) .none kV2 dc2 pm2 an2 cd2 ct2), sl2⟩) (c2 : PySem.W.codeIn K cd2 "check_book" = true) (k2 : PySem.W.keepIn K (.ref f2) = true)
    (a3 : PySem.W.nsIn K mainGlobals "check_size" = some (some (.ref f3)))
    (l3 : K.lookup f3 = some ⟨oc3, od3, .func (PySem.W.fnOf "check_size" "check_size" (defArgs s_check_size) (defBody s_check_size) (defScope s_check_size) .none kV3 dc3 pm3 an3 cd3 ct3), sl3⟩) (c3 : PySem.W.codeIn K cd3 "check_size" = true) (k3 : PySem.W.keepIn K (.ref f3) = true)
    (a4 : PySem.W.nsIn K mainGlobals "count_pages" = some (some (.ref f4)))
    (l4 : K.lookup f4 = some ⟨oc4, od4, .func (PySem.W.fnOf "count_pages" "count_pages" (defArgs s_count_pages) (defBody s_count_pages) (defScope s_count_pages) .none kV4 dc4 pm4 an4 cd4 ct4), sl4⟩) (c4 : PySem.W.codeIn K cd4 "count_pages" = true) (k4 : PySem.W.keepIn K (.ref f4) = true)
    (in_HiddenBook___init__ : PySem.W.findIn K (.ref c_HiddenBook) "__init__" = some (some (.ref f5)))
    (fn_HiddenBook___init__ : PySem.W.isFn K (.ref f5) = true)
    (l5 : K.lookup f5 = some ⟨oc5, od5, .func (PySem.W.fnOf "__init__" "HiddenBook.__init__" (defArgs s_HiddenBook___init__) (defBody s_HiddenBook___init__) (defScope s_HiddenBook___init__) .none kV5 dc5 pm5 an5 cd5 ct5), sl5⟩) (c5 : PySem.W.codeIn K cd5 "HiddenBook.__init__" = true) (k5 : PySem.W.keepIn K (.ref f5) = true)
    (in_HiddenBook_ask : PySem.W.findIn K (.ref c_HiddenBook) "ask" = some (some (.ref f6)))
    (fn_HiddenBook_ask : PySem.W.isFn K (.ref f6) = true)
    (l6 : K.lookup f6 = some ⟨oc6, od6, .func (PySem.W.fnOf "ask" "HiddenBook.ask" (defArgs s_HiddenBook_ask) (defBody s_HiddenBook_ask) (defScope s_HiddenBook_ask) .none kV6 dc6 pm6 an6 cd6 ct6), sl6⟩) (c6 : PySem.W.codeIn K cd6 "HiddenBook.ask" = true) (k6 : PySem.W.keepIn K (.ref f6) = true)
    {rs_HiddenBook_questions : List Value}
    (pq_HiddenBook_questions : PySem.W.findIn K (.ref c_HiddenBook) "questions" = some (some (.ref p_HiddenBook_questions)))
    (ps_HiddenBook_questions : PySem.W.specialIn K (.ref p_HiddenBook_questions) "__get__" = some (some (.builtin "property.__get__")))
    (pt_HiddenBook_questions : PySem.W.takesIn K (.ref p_HiddenBook_questions) = some true)
    (pr_HiddenBook_questions : PySem.W.recIn K p_HiddenBook_questions "property" = some (.ref f7 :: rs_HiddenBook_questions))
    (l7 : K.lookup f7 = some ⟨oc7, od7, .func (PySem.W.fnOf "questions" "HiddenBook.questions" (defArgs s_HiddenBook_questions) (defBody s_HiddenBook_questions) (defScope s_HiddenBook_questions) .none kV7 dc7 pm7 an7 cd7 ct7), sl7⟩) (c7 : PySem.W.codeIn K cd7 "HiddenBook.questions" = true) (k7 : PySem.W.keepIn K (.ref f7) = true)
    (a8 : PySem.W.nsIn K mainGlobals "_law_pool" = some (some (.ref f8)))
    (l8 : K.lookup f8 = some ⟨oc8, od8, .func (PySem.W.fnOf "_law_pool" "_law_pool" (defArgs s__law_pool) (defBody s__law_pool) (defScope s__law_pool) .none kV8 dc8 pm8 an8 cd8 ct8), sl8⟩) (c8 : PySem.W.codeIn K cd8 "_law_pool" = true) (k8 : PySem.W.keepIn K (.ref f8) = true)
    (a9 : PySem.W.nsIn K mainGlobals "_law_draw" = some (some (.ref f9)))
    (l9 : K.lookup f9 = some ⟨oc9, od9, .func (PySem.W.fnOf "_law_draw" "_law_draw" (defArgs s__law_draw) (defBody s__law_draw) (defScope s__law_draw) .none kV9 dc9 pm9 an9 cd9 ct9), sl9⟩) (c9 : PySem.W.codeIn K cd9 "_law_draw" = true) (k9 : PySem.W.keepIn K (.ref f9) = true)
    (a10 : PySem.W.nsIn K mainGlobals "_law_length" = some (some (.ref f10)))
    (l10 : K.lookup f10 = some ⟨oc10, od10, .func (PySem.W.fnOf "_law_length" "_law_length" (defArgs s__law_length) (defBody s__law_length) (defScope s__law_length) .none kV10 dc10 pm10 an10 cd10 ct10), sl10⟩) (c10 : PySem.W.codeIn K cd10 "_law_length" = true) (k10 : PySem.W.keepIn K (.ref f10) = true)
    (a11 : PySem.W.nsIn K mainGlobals "_law_book" = some (some (.ref f11)))
    (l11 : K.lookup f11 = some ⟨oc11, od11, .func (PySem.W.fnOf "_law_book" "_law_book" (defArgs s__law_book) (defBody s__law_book) (defScope s__law_book) .none kV11 dc11 pm11 an11 cd11 ct11), sl11⟩) (c11 : PySem.W.codeIn K cd11 "_law_book" = true) (k11 : PySem.W.keepIn K (.ref f11) = true)
    (a12 : PySem.W.nsIn K mainGlobals "_law_pages" = some (some (.ref f12)))
    (l12 : K.lookup f12 = some ⟨oc12, od12, .func (PySem.W.fnOf "_law_pages" "_law_pages" (defArgs s__law_pages) (defBody s__law_pages) (defScope s__law_pages) .none kV12 dc12 pm12 an12 cd12 ct12), sl12⟩) (c12 : PySem.W.codeIn K cd12 "_law_pages" = true) (k12 : PySem.W.keepIn K (.ref f12) = true)
    (a13 : PySem.W.nsIn K mainGlobals "_law_kind" = some (some (.ref f13)))
    (l13 : K.lookup f13 = some ⟨oc13, od13, .func (PySem.W.fnOf "_law_kind" "_law_kind" (defArgs s__law_kind) (defBody s__law_kind) (defScope s__law_kind) .none kV13 dc13 pm13 an13 cd13 ct13), sl13⟩) (c13 : PySem.W.codeIn K cd13 "_law_kind" = true) (k13 : PySem.W.keepIn K (.ref f13) = true)
    (a14 : PySem.W.nsIn K mainGlobals "_law_bad_book" = some (some (.ref f14)))
    (l14 : K.lookup f14 = some ⟨oc14, od14, .func (PySem.W.fnOf "_law_bad_book" "_law_bad_book" (defArgs s__law_bad_book) (defBody s__law_bad_book) (defScope s__law_bad_book) .none kV14 dc14 pm14 an14 cd14 ct14), sl14⟩) (c14 : PySem.W.codeIn K cd14 "_law_bad_book" = true) (k14 : PySem.W.keepIn K (.ref f14) = true)
    (a15 : PySem.W.nsIn K mainGlobals "_law_made" = some (some (.ref f15)))
    (l15 : K.lookup f15 = some ⟨oc15, od15, .func (PySem.W.fnOf "_law_made" "_law_made" (defArgs s__law_made) (defBody s__law_made) (defScope s__law_made) .none kV15 dc15 pm15 an15 cd15 ct15), sl15⟩) (c15 : PySem.W.codeIn K cd15 "_law_made" = true) (k15 : PySem.W.keepIn K (.ref f15) = true)
    (a16 : PySem.W.nsIn K mainGlobals "_law_asked" = some (some (.ref f16)))
    (l16 : K.lookup f16 = some ⟨oc16, od16, .func (PySem.W.fnOf "_law_asked" "_law_asked" (defArgs s__law_asked) (defBody s__law_asked) (defScope s__law_asked) .none kV16 dc16 pm16 an16 cd16 ct16), sl16⟩) (c16 : PySem.W.codeIn K cd16 "_law_asked" = true) (k16 : PySem.W.keepIn K (.ref f16) = true)
    (a17 : PySem.W.nsIn K mainGlobals "_law_size" = some (some (.ref f17)))
    (l17 : K.lookup f17 = some ⟨oc17, od17, .func (PySem.W.fnOf "_law_size" "_law_size" (defArgs s__law_size) (defBody s__law_size) (defScope s__law_size) .none kV17 dc17 pm17 an17 cd17 ct17), sl17⟩) (c17 : PySem.W.codeIn K cd17 "_law_size" = true) (k17 : PySem.W.keepIn K (.ref f17) = true)
    (a18 : PySem.W.nsIn K mainGlobals "_law_right" = some (some (.ref f18)))
    (l18 : K.lookup f18 = some ⟨oc18, od18, .func (PySem.W.fnOf "_law_right" "_law_right" (defArgs s__law_right) (defBody s__law_right) (defScope s__law_right) .none kV18 dc18 pm18 an18 cd18 ct18), sl18⟩) (c18 : PySem.W.codeIn K cd18 "_law_right" = true) (k18 : PySem.W.keepIn K (.ref f18) = true)
    (a19 : PySem.W.nsIn K mainGlobals "law" = some (some (.ref f19)))
    (l19 : K.lookup f19 = some ⟨oc19, od19, .func (PySem.W.fnOf "law" "law" (defArgs s_law) (defBody s_law) (defScope s_law) .none kV19 dc19 pm19 an19 cd19 ct19), sl19⟩) (c19 : PySem.W.codeIn K cd19 "law" = true) (k19 : PySem.W.keepIn K (.ref f19) = true)
    (z0 : PySem.W.nsIn K mainGlobals "ValueError" = some none)
    (z1 : PySem.W.nsIn K mainGlobals "abs" = some none)
    (z2 : PySem.W.nsIn K mainGlobals "enumerate" = some none)
    (z3 : PySem.W.nsIn K mainGlobals "isinstance" = some none)
    (z4 : PySem.W.nsIn K mainGlobals "len" = some none)
    (z5 : PySem.W.nsIn K mainGlobals "list" = some none)
    (z6 : PySem.W.nsIn K mainGlobals "max" = some none)
    (z7 : PySem.W.nsIn K mainGlobals "min" = some none)
    (z8 : PySem.W.nsIn K mainGlobals "range" = some none)
    (z9 : PySem.W.nsIn K mainGlobals "sum" = some none)
    {nm_InvalidBook qn_InvalidBook : Str} {N_InvalidBook : Addr} {bs_InvalidBook bm_InvalidBook : List Value} {sn_InvalidBook : List Str} {sub_InvalidBook : List Value} {ab_InvalidBook : Bool} {col_InvalidBook : Option Bool} {dd_InvalidBook : Option Addr} {k0_InvalidBook k1_InvalidBook k2_InvalidBook k3_InvalidBook k5_InvalidBook : Option Value}
    (l_InvalidBook : K.lookup c_InvalidBook = some (excClassObj nm_InvalidBook qn_InvalidBook c_InvalidBook N_InvalidBook bs_InvalidBook bm_InvalidBook true sn_InvalidBook sub_InvalidBook ab_InvalidBook col_InvalidBook dd_InvalidBook k0_InvalidBook k1_InvalidBook k2_InvalidBook k3_InvalidBook k5_InvalidBook "ValueError.__new__"))
    (r_InvalidBook : PySem.HandSPX.refsVE bm_InvalidBook = true)
    (sa_InvalidBook : PySem.W.findIn K (.ref c_InvalidBook) "__setattr__" = some (some (.builtin "object.__setattr__")))
    (ex_InvalidBook : PySem.W.subIn K (.ref c_InvalidBook) (.type "BaseException") = some true)
    (ty_InvalidBook : PySem.W.typeIn K (.ref c_InvalidBook) = some (.type "type"))
    (kc_InvalidBook : PySem.W.keepIn K (.ref c_InvalidBook) = true)
    (ga_InvalidBook : PySem.W.findIn K (.ref c_InvalidBook) "__getattribute__" = some (some (.builtin "BaseException.__getattribute__")))
    (gg_InvalidBook : PySem.W.findIn K (.ref c_InvalidBook) "__getattr__" = some none)
    (hd_InvalidBook : PySem.W.hasDictIn K c_InvalidBook = true)
    (ha_InvalidBook : PySem.W.findIn K (.ref c_InvalidBook) "__class__" = some (some (.builtin "object.__class__")))
    (hn_InvalidBook : PySem.W.specialIn K (.builtin "object.__class__") "__get__" = some (some (.builtin "getset_descriptor.__get__")))
    (ht_InvalidBook : PySem.W.takesIn K (.builtin "object.__class__") = some true)
    (hm_InvalidBook : PySem.W.mroIn K c_InvalidBook (.type "object") = some true)
    (nv_InvalidBook : PySem.W.findIn K (.ref c_InvalidBook) "value" = some none)
    (ti_InvalidBook : PySem.W.typeIn K (.ref f0) = some (.type "function"))
    (kq_InvalidBook_BookError : PySem.W.kitOne K (.ref c_InvalidBook) (.ref c_BookError) = some true)
    (kq_InvalidBook_InvalidBook : PySem.W.kitOne K (.ref c_InvalidBook) (.ref c_InvalidBook) = some true)
    (kq_InvalidBook_InvalidSize : PySem.W.kitOne K (.ref c_InvalidBook) (.ref c_InvalidSize) = some false)
    (kq_InvalidBook_InvalidTable : PySem.W.kitOne K (.ref c_InvalidBook) (.ref c_InvalidTable) = some false)
    (kq_InvalidBook_InvalidChain : PySem.W.kitOne K (.ref c_InvalidBook) (.ref c_InvalidChain) = some false)
    (kq_InvalidBook_InvalidNumber : PySem.W.kitOne K (.ref c_InvalidBook) (.ref c_InvalidNumber) = some false)
    (kq_InvalidBook_NothingToUndo : PySem.W.kitOne K (.ref c_InvalidBook) (.ref c_NothingToUndo) = some false)
    (kq_InvalidBook_Unreadable : PySem.W.kitOne K (.ref c_InvalidBook) (.ref c_Unreadable) = some false)
    (kq_InvalidBook_ValueError : PySem.W.kitOne K (.ref c_InvalidBook) (.type "ValueError") = some true)
    {nm_InvalidSize qn_InvalidSize : Str} {N_InvalidSize : Addr} {bs_InvalidSize bm_InvalidSize : List Value} {sn_InvalidSize : List Str} {sub_InvalidSize : List Value} {ab_InvalidSize : Bool} {col_InvalidSize : Option Bool} {dd_InvalidSize : Option Addr} {k0_InvalidSize k1_InvalidSize k2_InvalidSize k3_InvalidSize k5_InvalidSize : Option Value}
    (l_InvalidSize : K.lookup c_InvalidSize = some (excClassObj nm_InvalidSize qn_InvalidSize c_InvalidSize N_InvalidSize bs_InvalidSize bm_InvalidSize true sn_InvalidSize sub_InvalidSize ab_InvalidSize col_InvalidSize dd_InvalidSize k0_InvalidSize k1_InvalidSize k2_InvalidSize k3_InvalidSize k5_InvalidSize "ValueError.__new__"))
    (r_InvalidSize : PySem.HandSPX.refsVE bm_InvalidSize = true)
    (sa_InvalidSize : PySem.W.findIn K (.ref c_InvalidSize) "__setattr__" = some (some (.builtin "object.__setattr__")))
    (ex_InvalidSize : PySem.W.subIn K (.ref c_InvalidSize) (.type "BaseException") = some true)
    (ty_InvalidSize : PySem.W.typeIn K (.ref c_InvalidSize) = some (.type "type"))
    (kc_InvalidSize : PySem.W.keepIn K (.ref c_InvalidSize) = true)
    (ga_InvalidSize : PySem.W.findIn K (.ref c_InvalidSize) "__getattribute__" = some (some (.builtin "BaseException.__getattribute__")))
    (gg_InvalidSize : PySem.W.findIn K (.ref c_InvalidSize) "__getattr__" = some none)
    (hd_InvalidSize : PySem.W.hasDictIn K c_InvalidSize = true)
    (ha_InvalidSize : PySem.W.findIn K (.ref c_InvalidSize) "__class__" = some (some (.builtin "object.__class__")))
    (hn_InvalidSize : PySem.W.specialIn K (.builtin "object.__class__") "__get__" = some (some (.builtin "getset_descriptor.__get__")))
    (ht_InvalidSize : PySem.W.takesIn K (.builtin "object.__class__") = some true)
    (hm_InvalidSize : PySem.W.mroIn K c_InvalidSize (.type "object") = some true)
    (nv_InvalidSize : PySem.W.findIn K (.ref c_InvalidSize) "value" = some none)
    (ti_InvalidSize : PySem.W.typeIn K (.ref f1) = some (.type "function"))
    (kq_InvalidSize_BookError : PySem.W.kitOne K (.ref c_InvalidSize) (.ref c_BookError) = some true)
    (kq_InvalidSize_InvalidBook : PySem.W.kitOne K (.ref c_InvalidSize) (.ref c_InvalidBook) = some false)
    (kq_InvalidSize_InvalidSize : PySem.W.kitOne K (.ref c_InvalidSize) (.ref c_InvalidSize) = some true)
    (kq_InvalidSize_InvalidTable : PySem.W.kitOne K (.ref c_InvalidSize) (.ref c_InvalidTable) = some false)
    (kq_InvalidSize_InvalidChain : PySem.W.kitOne K (.ref c_InvalidSize) (.ref c_InvalidChain) = some false)
    (kq_InvalidSize_InvalidNumber : PySem.W.kitOne K (.ref c_InvalidSize) (.ref c_InvalidNumber) = some false)
    (kq_InvalidSize_NothingToUndo : PySem.W.kitOne K (.ref c_InvalidSize) (.ref c_NothingToUndo) = some false)
    (kq_InvalidSize_Unreadable : PySem.W.kitOne K (.ref c_InvalidSize) (.ref c_Unreadable) = some false)
    (kq_InvalidSize_ValueError : PySem.W.kitOne K (.ref c_InvalidSize) (.type "ValueError") = some true)
    (ks_InvalidBook_BookError : PySem.W.subIn K (.ref c_InvalidBook) (.ref c_BookError) = some true)
    (ex_BookError : PySem.W.subIn K (.ref c_BookError) (.type "BaseException") = some true)
    (ty_BookError : PySem.W.typeIn K (.ref c_BookError) = some (.type "type"))
    (hd_BookError : PySem.W.hasDictIn K c_BookError = true)
    (ks_InvalidSize_BookError : PySem.W.subIn K (.ref c_InvalidSize) (.ref c_BookError) = some true)
    : ∃ fd : FuncData, (∀ (s : Shared) (v : Value), BindsTo s fd ⟨[v], []⟩ [("script", v)]) ∧ ∀ base : Heap, K.In base → base.Ns mainGlobals mg → FnOk l.prog w K mg base CX0 8 fa fd ["script"] (sp_law K) := by
  have e := hfa.symm.trans (PySem.W.mg_of X G a19)
  cases e
  have F0 := fun_mk (st := s_InvalidBook___init__) l0 c0 k0
  have F1 := fun_mk (st := s_InvalidSize___init__) l1 c1 k1
  have F2 := fun_mk (st := s_check_book) l2 c2 k2
  have F3 := fun_mk (st := s_check_size) l3 c3 k3
  have F4 := fun_mk (st := s_count_pages) l4 c4 k4
  have F5 := fun_mk (st := s_HiddenBook___init__) l5 c5 k5
  have F6 := fun_mk (st := s_HiddenBook_ask) l6 c6 k6
  have F7 := fun_mk (st := s_HiddenBook_questions) l7 c7 k7
  have F8 := fun_mk (st := s__law_pool) l8 c8 k8
  have F9 := fun_mk (st := s__law_draw) l9 c9 k9
  have F10 := fun_mk (st := s__law_length) l10 c10 k10
  have F11 := fun_mk (st := s__law_book) l11 c11 k11
  have F12 := fun_mk (st := s__law_pages) l12 c12 k12
  have F13 := fun_mk (st := s__law_kind) l13 c13 k13
  have F14 := fun_mk (st := s__law_bad_book) l14 c14 k14
  have F15 := fun_mk (st := s__law_made) l15 c15 k15
  have F16 := fun_mk (st := s__law_asked) l16 c16 k16
  have F17 := fun_mk (st := s__law_size) l17 c17 k17
  have F18 := fun_mk (st := s__law_right) l18 c18 k18
  have F19 := fun_mk (st := s_law) l19 c19 k19
  have T : Txt K mg ⟨f0, PySem.W.fnOf "__init__" "InvalidBook.__init__" (defArgs s_InvalidBook___init__) (defBody s_InvalidBook___init__) (defScope s_InvalidBook___init__) .none kV0 dc0 pm0 an0 cd0 ct0, f1, PySem.W.fnOf "__init__" "InvalidSize.__init__" (defArgs s_InvalidSize___init__) (defBody s_InvalidSize___init__) (defScope s_InvalidSize___init__) .none kV1 dc1 pm1 an1 cd1 ct1, f2, PySem.W.fnOf "check_book" "check_book" (defArgs s_check_book) (defBody s_check_book) (defScope s_check_book) .none kV2 dc2 pm2 an2 cd2 ct2, f3, PySem.W.fnOf "check_size" "check_size" (defArgs s_check_size) (defBody s_check_size) (defScope s_check_size) .none kV3 dc3 pm3 an3 cd3 ct3, f4, PySem.W.fnOf "count_pages" "count_pages" (defArgs s_count_pages) (defBody s_count_pages) (defScope s_count_pages) .none kV4 dc4 pm4 an4 cd4 ct4, f5, PySem.W.fnOf "__init__" "HiddenBook.__init__" (defArgs s_HiddenBook___init__) (defBody s_HiddenBook___init__) (defScope s_HiddenBook___init__) .none kV5 dc5 pm5 an5 cd5 ct5, f6, PySem.W.fnOf "ask" "HiddenBook.ask" (defArgs s_HiddenBook_ask) (defBody s_HiddenBook_ask) (defScope s_HiddenBook_ask) .none kV6 dc6 pm6 an6 cd6 ct6, f7, PySem.W.fnOf "questions" "HiddenBook.questions" (defArgs s_HiddenBook_questions) (defBody s_HiddenBook_questions) (defScope s_HiddenBook_questions) .none kV7 dc7 pm7 an7 cd7 ct7, f8, PySem.W.fnOf "_law_pool" "_law_pool" (defArgs s__law_pool) (defBody s__law_pool) (defScope s__law_pool) .none kV8 dc8 pm8 an8 cd8 ct8, f9, PySem.W.fnOf "_law_draw" "_law_draw" (defArgs s__law_draw) (defBody s__law_draw) (defScope s__law_draw) .none kV9 dc9 pm9 an9 cd9 ct9, f10, PySem.W.fnOf "_law_length" "_law_length" (defArgs s__law_length) (defBody s__law_length) (defScope s__law_length) .none kV10 dc10 pm10 an10 cd10 ct10, f11, PySem.W.fnOf "_law_book" "_law_book" (defArgs s__law_book) (defBody s__law_book) (defScope s__law_book) .none kV11 dc11 pm11 an11 cd11 ct11, f12, PySem.W.fnOf "_law_pages" "_law_pages" (defArgs s__law_pages) (defBody s__law_pages) (defScope s__law_pages) .none kV12 dc12 pm12 an12 cd12 ct12, f13, PySem.W.fnOf "_law_kind" "_law_kind" (defArgs s__law_kind) (defBody s__law_kind) (defScope s__law_kind) .none kV13 dc13 pm13 an13 cd13 ct13, f14, PySem.W.fnOf "_law_bad_book" "_law_bad_book" (defArgs s__law_bad_book) (defBody s__law_bad_book) (defScope s__law_bad_book) .none kV14 dc14 pm14 an14 cd14 ct14, f15, PySem.W.fnOf "_law_made" "_law_made" (defArgs s__law_made) (defBody s__law_made) (defScope s__law_made) .none kV15 dc15 pm15 an15 cd15 ct15, f16, PySem.W.fnOf "_law_asked" "_law_asked" (defArgs s__law_asked) (defBody s__law_asked) (defScope s__law_asked) .none kV16 dc16 pm16 an16 cd16 ct16, f17, PySem.W.fnOf "_law_size" "_law_size" (defArgs s__law_size) (defBody s__law_size) (defScope s__law_size) .none kV17 dc17 pm17 an17 cd17 ct17, f18, PySem.W.fnOf "_law_right" "_law_right" (defArgs s__law_right) (defBody s__law_right) (defScope s__law_right) .none kV18 dc18 pm18 an18 cd18 ct18, fa, PySem.W.fnOf "law" "law" (defArgs s_law) (defBody s_law) (defScope s_law) .none kV19 dc19 pm19 an19 cd19 ct19, c_BookError, c_InvalidBook, c_InvalidSize, c_InvalidTable, c_InvalidChain, c_InvalidNumber, c_NothingToUndo, c_Unreadable, c_HiddenBook, p_HiddenBook_questions⟩ :=
    { F_InvalidBook___init__ := F0,
      b_InvalidBook___init__ := F0.binds (ps := ["self", "value"]) fun _ _ _ _ _ _ us hl => match us, hl with | [_, _], _ => rfl,
      F_InvalidSize___init__ := F1,
      b_InvalidSize___init__ := F1.binds (ps := ["self", "value"]) fun _ _ _ _ _ _ us hl => match us, hl with | [_, _], _ => rfl,
      F_check_book := F2,
      g_check_book := PySem.W.mg_of X G a2,
      b_check_book := F2.binds (ps := ["book"]) fun _ _ _ _ _ _ us hl => match us, hl with | [_], _ => rfl,
      F_check_size := F3,
      g_check_size := PySem.W.mg_of X G a3,
      b_check_size := F3.binds (ps := ["size"]) fun _ _ _ _ _ _ us hl => match us, hl with | [_], _ => rfl,
      F_count_pages := F4,
      g_count_pages := PySem.W.mg_of X G a4,
      b_count_pages := F4.binds (ps := ["book", "size"]) fun _ _ _ _ _ _ us hl => match us, hl with | [_, _], _ => rfl,
      F_HiddenBook___init__ := F5,
      b_HiddenBook___init__ := F5.binds (ps := ["self", "book"]) fun _ _ _ _ _ _ us hl => match us, hl with | [_, _], _ => rfl,
      F_HiddenBook_ask := F6,
      b_HiddenBook_ask := F6.binds (ps := ["self", "size"]) fun _ _ _ _ _ _ us hl => match us, hl with | [_, _], _ => rfl,
      F_HiddenBook_questions := F7,
      b_HiddenBook_questions := F7.binds (ps := ["self"]) fun _ _ _ _ _ _ us hl => match us, hl with | [_], _ => rfl,
      F__law_pool := F8,
      g__law_pool := PySem.W.mg_of X G a8,
      b__law_pool := F8.binds (ps := ["script", "at"]) fun _ _ _ _ _ _ us hl => match us, hl with | [_, _], _ => rfl,
      F__law_draw := F9,
      g__law_draw := PySem.W.mg_of X G a9,
      b__law_draw := F9.binds (ps := ["pool", "many"]) fun _ _ _ _ _ _ us hl => match us, hl with | [_, _], _ => rfl,
      F__law_length := F10,
      g__law_length := PySem.W.mg_of X G a10,
      b__law_length := F10.binds (ps := ["pool", "far"]) fun _ _ _ _ _ _ us hl => match us, hl with | [_, _], _ => rfl,
      F__law_book := F11,
      g__law_book := PySem.W.mg_of X G a11,
      b__law_book := F11.binds (ps := ["pool", "most", "far"]) fun _ _ _ _ _ _ us hl => match us, hl with | [_, _, _], _ => rfl,
      F__law_pages := F12,
      g__law_pages := PySem.W.mg_of X G a12,
      b__law_pages := F12.binds (ps := ["lengths", "lines_here"]) fun _ _ _ _ _ _ us hl => match us, hl with | [_, _], _ => rfl,
      F__law_kind := F13,
      g__law_kind := PySem.W.mg_of X G a13,
      b__law_kind := F13.binds (ps := ["caught"]) fun _ _ _ _ _ _ us hl => match us, hl with | [_], _ => rfl,
      F__law_bad_book := F14,
      g__law_bad_book := PySem.W.mg_of X G a14,
      b__law_bad_book := F14.binds (ps := ["pool", "lengths"]) fun _ _ _ _ _ _ us hl => match us, hl with | [_, _], _ => rfl,
      F__law_made := F15,
      g__law_made := PySem.W.mg_of X G a15,
      b__law_made := F15.binds (ps := ["lengths"]) fun _ _ _ _ _ _ us hl => match us, hl with | [_], _ => rfl,
      F__law_asked := F16,
      g__law_asked := PySem.W.mg_of X G a16,
      b__law_asked := F16.binds (ps := ["secret", "lines_here", "by_name"]) fun _ _ _ _ _ _ us hl => match us, hl with | [_, _, _], _ => rfl,
      F__law_size := F17,
      g__law_size := PySem.W.mg_of X G a17,
      b__law_size := F17.binds (ps := ["pool", "lengths", "far"]) fun _ _ _ _ _ _ us hl => match us, hl with | [_, _, _], _ => rfl,
      F__law_right := F18,
      g__law_right := PySem.W.mg_of X G a18,
      b__law_right := F18.binds (ps := ["pool"]) fun _ _ _ _ _ _ us hl => match us, hl with | [_], _ => rfl,
      F_law := F19,
      g_law := PySem.W.mg_of X G a19,
      b_law := F19.binds (ps := ["script"]) fun _ _ _ _ _ _ us hl => match us, hl with | [_], _ => rfl,
      z_ValueError := PySem.W.mg_none_of X G z0,
      z_abs := PySem.W.mg_none_of X G z1,
      z_enumerate := PySem.W.mg_none_of X G z2,
      z_isinstance := PySem.W.mg_none_of X G z3,
      z_len := PySem.W.mg_none_of X G z4,
      z_list := PySem.W.mg_none_of X G z5,
      z_max := PySem.W.mg_none_of X G z6,
      z_min := PySem.W.mg_none_of X G z7,
      z_range := PySem.W.mg_none_of X G z8,
      z_sum := PySem.W.mg_none_of X G z9,
      kb_HiddenBook___init___1_book := ⟨fun s us ws h1 h2 => match us, ws, h1, h2 with | [_], [_], _, _ => .of_eq rfl, fun r1 r2 => .cons (HS.relAt r1 0) (.cons (HS.relAt r2 0) (.nil))⟩,
      kb_HiddenBook_ask_1_size := ⟨fun s us ws h1 h2 => match us, ws, h1, h2 with | [_], [_], _, _ => .of_eq rfl, fun r1 r2 => .cons (HS.relAt r1 0) (.cons (HS.relAt r2 0) (.nil))⟩,
      m_BookError := PySem.W.mg_of X G m_BookError,
      m_InvalidBook := PySem.W.mg_of X G m_InvalidBook,
      m_InvalidSize := PySem.W.mg_of X G m_InvalidSize,
      m_InvalidTable := PySem.W.mg_of X G m_InvalidTable,
      m_InvalidChain := PySem.W.mg_of X G m_InvalidChain,
      m_InvalidNumber := PySem.W.mg_of X G m_InvalidNumber,
      m_NothingToUndo := PySem.W.mg_of X G m_NothingToUndo,
      m_Unreadable := PySem.W.mg_of X G m_Unreadable,
      m_HiddenBook := PySem.W.mg_of X G m_HiddenBook,
      C_HiddenBook := ⟨pg_HiddenBook, hd_HiddenBook, po_HiddenBook, sa_HiddenBook⟩,
      n_HiddenBook__lengths := na_HiddenBook__lengths,
      n_HiddenBook__asked := na_HiddenBook__asked,
      K_HiddenBook := ⟨mk_HiddenBook, in_HiddenBook___init__, fn_HiddenBook___init__, kc_HiddenBook⟩,
      M_HiddenBook_ask := ⟨in_HiddenBook_ask, fn_HiddenBook_ask, k6⟩,
      P_HiddenBook_questions := ⟨pq_HiddenBook_questions, ps_HiddenBook_questions, pt_HiddenBook_questions, ⟨_, pr_HiddenBook_questions⟩⟩,
      C_InvalidBook := ⟨⟨_, _, _, _, _, _, _, _, _, _, _, _, _, _, _, l_InvalidBook, r_InvalidBook⟩, sa_InvalidBook, ex_InvalidBook, ty_InvalidBook, kc_InvalidBook⟩,
      V_InvalidBook := ⟨ga_InvalidBook, gg_InvalidBook, ex_InvalidBook, hd_InvalidBook, ha_InvalidBook, hn_InvalidBook, ht_InvalidBook, hm_InvalidBook⟩,
      X_InvalidBook := ⟨ga_InvalidBook, gg_InvalidBook, ex_InvalidBook, hd_InvalidBook⟩,
      n_InvalidBook := nv_InvalidBook,
      i_InvalidBook := in_InvalidBook,
      t_InvalidBook := ti_InvalidBook,
      k_InvalidBook := ⟨fun s us ws _ h1 h2 => match us, ws, h1, h2 with | [_], [_], _, _ => .of_eq rfl, fun r1 r2 => r1.append r2⟩,
      q_InvalidBook_BookError := kq_InvalidBook_BookError,
      q_InvalidBook_InvalidBook := kq_InvalidBook_InvalidBook,
      q_InvalidBook_InvalidSize := kq_InvalidBook_InvalidSize,
      q_InvalidBook_InvalidTable := kq_InvalidBook_InvalidTable,
      q_InvalidBook_InvalidChain := kq_InvalidBook_InvalidChain,
      q_InvalidBook_InvalidNumber := kq_InvalidBook_InvalidNumber,
      q_InvalidBook_NothingToUndo := kq_InvalidBook_NothingToUndo,
      q_InvalidBook_Unreadable := kq_InvalidBook_Unreadable,
      q_InvalidBook_ValueError := kq_InvalidBook_ValueError,
      C_InvalidSize := ⟨⟨_, _, _, _, _, _, _, _, _, _, _, _, _, _, _, l_InvalidSize, r_InvalidSize⟩, sa_InvalidSize, ex_InvalidSize, ty_InvalidSize, kc_InvalidSize⟩,
      V_InvalidSize := ⟨ga_InvalidSize, gg_InvalidSize, ex_InvalidSize, hd_InvalidSize, ha_InvalidSize, hn_InvalidSize, ht_InvalidSize, hm_InvalidSize⟩,
      X_InvalidSize := ⟨ga_InvalidSize, gg_InvalidSize, ex_InvalidSize, hd_InvalidSize⟩,
      n_InvalidSize := nv_InvalidSize,
      i_InvalidSize := in_InvalidSize,
      t_InvalidSize := ti_InvalidSize,
      k_InvalidSize := ⟨fun s us ws _ h1 h2 => match us, ws, h1, h2 with | [_], [_], _, _ => .of_eq rfl, fun r1 r2 => r1.append r2⟩,
      q_InvalidSize_BookError := kq_InvalidSize_BookError,
      q_InvalidSize_InvalidBook := kq_InvalidSize_InvalidBook,
      q_InvalidSize_InvalidSize := kq_InvalidSize_InvalidSize,
      q_InvalidSize_InvalidTable := kq_InvalidSize_InvalidTable,
      q_InvalidSize_InvalidChain := kq_InvalidSize_InvalidChain,
      q_InvalidSize_InvalidNumber := kq_InvalidSize_InvalidNumber,
      q_InvalidSize_NothingToUndo := kq_InvalidSize_NothingToUndo,
      q_InvalidSize_Unreadable := kq_InvalidSize_Unreadable,
      q_InvalidSize_ValueError := kq_InvalidSize_ValueError,
      e_InvalidBook_BookError := PySem.W.exm_ref ex_BookError hd_BookError ty_BookError ks_InvalidBook_BookError,
      e_InvalidSize_BookError := PySem.W.exm_ref ex_BookError hd_BookError ty_BookError ks_InvalidSize_BookError }
  exact ⟨_, fun s v => .of_eq rfl, fun base _ _ => ok_law T⟩
end WK22
open PySem PySem.W PyProof.Rows
set_option maxHeartbeats 0 in
theorem PySem.Challenge.cw_pagecounts_k22_hidden_books_answer_holds : PySem.Challenge.rw_pagecounts_k22_hidden_books_answer.Holds := by
  w_on; o_law; k_head; (case hw => w_witness2)
  k_fill
  refine L2.walk_of (l := PySem.Challenge.rw_pagecounts_k22_hidden_books_answer) (n := 63) (k := 8) (x := "script") (CX := fun _ => L2.CX0) (sp := fun w => WK22.sp_law _) rfl (by decide) rfl ⟨rfl, by decide, by decide⟩ (fun w h Y => PySem.W.kIn_of Y) ?F (fun _ _ a ns hl _ hS => ⟨a, ns, rfl, hS, hl, fun _ => rfl⟩) (fun _ _ _ _ _ h => h)
  case F =>
    intro w mg fa h KX G hmg
    refine' WK22.all_mk KX G hmg ?m_BookError ?m_InvalidBook ?m_InvalidSize ?m_InvalidTable ?m_InvalidChain ?m_InvalidNumber ?m_NothingToUndo ?m_Unreadable ?m_HiddenBook ?pg_HiddenBook ?hd_HiddenBook ?po_HiddenBook ?sa_HiddenBook ?mk_HiddenBook ?kc_HiddenBook ?na_HiddenBook__lengths ?na_HiddenBook__asked ?in_InvalidBook ?l0 ?c0 ?k0 ?in_InvalidSize ?l1 ?c1 ?k1 ?a2 ?l2 ?c2 ?k2 ?a3 ?l3 ?c3 ?k3 ?a4 ?l4 ?c4 ?k4 ?in_HiddenBook___init__ ?fn_HiddenBook___init__ ?l5 ?c5 ?k5 ?in_HiddenBook_ask ?fn_HiddenBook_ask ?l6 ?c6 ?k6 ?pq_HiddenBook_questions ?ps_HiddenBook_questions ?pt_HiddenBook_questions ?pr_HiddenBook_questions ?l7 ?c7 ?k7 ?a8 ?l8 ?c8 ?k8 ?a9 ?l9 ?c9 ?k9 ?a10 ?l10 ?c10 ?k10 ?a11 ?l11 ?c11 ?k11 ?a12 ?l12 ?c12 ?k12 ?a13 ?l13 ?c13 ?k13 ?a14 ?l14 ?c14 ?k14 ?a15 ?l15 ?c15 ?k15 ?a16 ?l16 ?c16 ?k16 ?a17 ?l17 ?c17 ?k17 ?a18 ?l18 ?c18 ?k18 ?a19 ?l19 ?c19 ?k19 ?z0 ?z1 ?z2 ?z3 ?z4 ?z5 ?z6 ?z7 ?z8 ?z9 ?l_InvalidBook ?r_InvalidBook ?sa_InvalidBook ?ex_InvalidBook ?ty_InvalidBook ?kc_InvalidBook ?ga_InvalidBook ?gg_InvalidBook ?hd_InvalidBook ?ha_InvalidBook ?hn_InvalidBook ?ht_InvalidBook ?hm_InvalidBook ?nv_InvalidBook ?ti_InvalidBook ?kq_InvalidBook_BookError ?kq_InvalidBook_InvalidBook ?kq_InvalidBook_InvalidSize ?kq_InvalidBook_InvalidTable ?kq_InvalidBook_InvalidChain ?kq_InvalidBook_InvalidNumber ?kq_InvalidBook_NothingToUndo ?kq_InvalidBook_Unreadable ?kq_InvalidBook_ValueError ?l_InvalidSize ?r_InvalidSize ?sa_InvalidSize ?ex_InvalidSize ?ty_InvalidSize ?kc_InvalidSize ?ga_InvalidSize ?gg_InvalidSize ?hd_InvalidSize ?ha_InvalidSize ?hn_InvalidSize ?ht_InvalidSize ?hm_InvalidSize ?nv_InvalidSize ?ti_InvalidSize ?kq_InvalidSize_BookError ?kq_InvalidSize_InvalidBook ?kq_InvalidSize_InvalidSize ?kq_InvalidSize_InvalidTable ?kq_InvalidSize_InvalidChain ?kq_InvalidSize_InvalidNumber ?kq_InvalidSize_NothingToUndo ?kq_InvalidSize_Unreadable ?kq_InvalidSize_ValueError ?ks_InvalidBook_BookError ?ex_BookError ?ty_BookError ?hd_BookError ?ks_InvalidSize_BookError
    (case m_BookError => k_is); (case m_InvalidBook => k_is); (case m_InvalidSize => k_is); (case m_InvalidTable => k_is); (case m_InvalidChain => k_is); (case m_InvalidNumber => k_is); (case m_NothingToUndo => k_is); (case m_Unreadable => k_is); (case m_HiddenBook => k_is); (case pg_HiddenBook => k_is); (case hd_HiddenBook => k_is); (case po_HiddenBook => k_is); (case sa_HiddenBook => k_is); (case mk_HiddenBook => k_is); (case kc_HiddenBook => k_is); (case na_HiddenBook__lengths => k_is); (case na_HiddenBook__asked => k_is); (case in_InvalidBook => k_is); (case l0 => k_is); (case c0 => k_is); (case k0 => k_is); (case in_InvalidSize => k_is); (case l1 => k_is); (case c1 => k_is); (case k1 => k_is); (case a2 => k_is); (case l2 => k_is); (case c2 => k_is); (case k2 => k_is); (case a3 => k_is); (case l3 => k_is); (case c3 => k_is); (case k3 => k_is); (case a4 => k_is); (case l4 => k_is); (case c4 => k_is); (case k4 => k_is); (case in_HiddenBook___init__ => k_is); (case fn_HiddenBook___init__ => k_is); (case l5 => k_is); (case c5 => k_is); (case k5 => k_is); (case in_HiddenBook_ask => k_is); (case fn_HiddenBook_ask => k_is); (case l6 => k_is); (case c6 => k_is); (case k6 => k_is); (case pq_HiddenBook_questions => k_is); (case ps_HiddenBook_questions => k_is); (case pt_HiddenBook_questions => k_is); (case pr_HiddenBook_questions => k_is); (case l7 => k_is); (case c7 => k_is); (case k7 => k_is); (case a8 => k_is); (case l8 => k_is); (case c8 => k_is); (case k8 => k_is); (case a9 => k_is); (case l9 => k_is); (case c9 => k_is); (case k9 => k_is); (case a10 => k_is); (case l10 => k_is); (case c10 => k_is); (case k10 => k_is); (case a11 => k_is); (case l11 => k_is); (case c11 => k_is); (case k11 => k_is); (case a12 => k_is); (case l12 => k_is); (case c12 => k_is); (case k12 => k_is); (case a13 => k_is); (case l13 => k_is); (case c13 => k_is); (case k13 => k_is); (case a14 => k_is); (case l14 => k_is); (case c14 => k_is); (case k14 => k_is); (case a15 => k_is); (case l15 => k_is); (case c15 => k_is); (case k15 => k_is); (case a16 => k_is); (case l16 => k_is); (case c16 => k_is); (case k16 => k_is); (case a17 => k_is); (case l17 => k_is); (case c17 => k_is); (case k17 => k_is); (case a18 => k_is); (case l18 => k_is); (case c18 => k_is); (case k18 => k_is); (case a19 => k_is); (case l19 => k_is); (case c19 => k_is); (case k19 => k_is); (case z0 => k_is); (case z1 => k_is); (case z2 => k_is); (case z3 => k_is); (case z4 => k_is); (case z5 => k_is); (case z6 => k_is); (case z7 => k_is); (case z8 => k_is); (case z9 => k_is); (case l_InvalidBook => k_is); (case r_InvalidBook => rfl); (case sa_InvalidBook => k_is); (case ex_InvalidBook => k_is); (case ty_InvalidBook => k_is); (case kc_InvalidBook => k_is); (case ga_InvalidBook => k_is); (case gg_InvalidBook => k_is); (case hd_InvalidBook => k_is); (case ha_InvalidBook => k_is); (case hn_InvalidBook => k_is); (case ht_InvalidBook => k_is); (case hm_InvalidBook => k_is); (case nv_InvalidBook => k_is); (case ti_InvalidBook => k_is); (case kq_InvalidBook_BookError => kit_is); (case kq_InvalidBook_InvalidBook => kit_is); (case kq_InvalidBook_InvalidSize => kit_is); (case kq_InvalidBook_InvalidTable => kit_is); (case kq_InvalidBook_InvalidChain => kit_is); (case kq_InvalidBook_InvalidNumber => kit_is); (case kq_InvalidBook_NothingToUndo => kit_is); (case kq_InvalidBook_Unreadable => kit_is); (case kq_InvalidBook_ValueError => kit_is); (case l_InvalidSize => k_is); (case r_InvalidSize => rfl); (case sa_InvalidSize => k_is); (case ex_InvalidSize => k_is); (case ty_InvalidSize => k_is); (case kc_InvalidSize => k_is); (case ga_InvalidSize => k_is); (case gg_InvalidSize => k_is); (case hd_InvalidSize => k_is); (case ha_InvalidSize => k_is); (case hn_InvalidSize => k_is); (case ht_InvalidSize => k_is); (case hm_InvalidSize => k_is); (case nv_InvalidSize => k_is); (case ti_InvalidSize => k_is); (case kq_InvalidSize_BookError => kit_is); (case kq_InvalidSize_InvalidBook => kit_is); (case kq_InvalidSize_InvalidSize => kit_is); (case kq_InvalidSize_InvalidTable => kit_is); (case kq_InvalidSize_InvalidChain => kit_is); (case kq_InvalidSize_InvalidNumber => kit_is); (case kq_InvalidSize_NothingToUndo => kit_is); (case kq_InvalidSize_Unreadable => kit_is); (case kq_InvalidSize_ValueError => kit_is); (case ks_InvalidBook_BookError => k_is); (case ex_BookError => k_is); (case ty_BookError => k_is); (case hd_BookError => k_is); (case ks_InvalidSize_BookError => k_is)

import PyProof.Rows.All
import Wide.All
import OpenK.AllK
import Wide.FinOn
import HandS.Evl
import HandS.GenList
import HandS.Walk
import HandS.WordsExc
import HandS.ForMost
import HandS.Wide
import HandS.Style
import HandS.SortInts
import HandS.SortKw
import HandS.ExcInit
import HandS.ExcIs
import HandS.ExcField
import HandS.IsInst
import HandS.Defaults
import KE.KExcIs
import HandS.SetFor
import HandS.Flow
import HandS.Gcd
import HandS.Strs
import KE.KMathG
import HandS.RaiseMore
import PyProof.ReprRoads
import PyProof.ReprBulk
import PyProof.FitsInt
import PySem.Challenge.RW_pagecounts_k11_tables_that_contradict
set_option Elab.async false
set_option linter.all false
set_option maxRecDepth 100000
set_option maxHeartbeats 4000000
/-! Readings, step by step, from their heads (own lemmas over HandS). -/
namespace HS
open PySem PySem.Spec PyProof.Rows L2
section
variable {σ : L2.St} {H : Hp} {Q : VK} {t u : TS} {te ta tb tx : TE} {tt tv : TT} {n bk ct : L2.St → Hp → Prop} {rt : VK} {K : PySem.W.Frag}
theorem seq (h : t ⟨u ⟨n, rt, bk, ct⟩, rt, bk, ct⟩ σ H) : tSeq t u ⟨n, rt, bk, ct⟩ σ H := h
theorem nxt (h : n σ H) : tNext ⟨n, rt, bk, ct⟩ σ H := h
theorem brk (h : bk σ H) : tBreak ⟨n, rt, bk, ct⟩ σ H := h
theorem cnt (h : ct σ H) : tCont ⟨n, rt, bk, ct⟩ σ H := h
theorem asg {g : TG} (h : te σ H fun x H1 => g x σ H1 n) : tAsg te g ⟨n, rt, bk, ct⟩ σ H := h
theorem nm {v : V} {i : Nat} {q : L2.St → Hp → Prop} (h : q (σ.set i (some v)) H) : gName i v σ H q := h
theorem sub {to ti : TE} {ts : TSet} {v : V} {q : L2.St → Hp → Prop} (h : to σ H fun o H1 => ti σ H1 fun i H2 => ts o i v H2 fun H3 => q σ H3) : gSub to ti ts v σ H q := h
theorem var {i : Nat} {v : V} (h : σ[i]? = some (some v)) (q : Q v H) : tVar i σ H Q := ⟨v, h, q⟩
theorem cst {v : V} (q : Q v H) : tC v σ H Q := q
theorem op {r : R2} (h : ta σ H fun x H1 => tb σ H1 fun y H2 => r x y H2 Q) : tOp r ta tb σ H Q := h
theorem un {r : V → Hp → VK → Prop} (h : ta σ H fun x H1 => r x H1 Q) : tUn r ta σ H Q := h
theorem i0 {g : Int → Int → V} {i j : Int} (q : Q (g i j) H) : rI0 g (.int i) (.int j) H Q := ⟨i, j, rfl, rfl, q⟩
theorem i1 {C : Int → Int → Prop} {g : Int → Int → V} {i j : Int} (q : C i j ∧ Q (g i j) H) : rI C g (.int i) (.int j) H Q := ⟨i, j, rfl, rfl, q⟩
theorem u0 {g : Int → V} {i : Int} (q : Q (g i) H) : rU g (.int i) H Q := ⟨i, rfl, q⟩
theorem eqI {i j : Int} (q : Q (.bl (decide (i = j))) H) : rEq (.int i) (.int j) H Q := ⟨rfl, by
  have e : decide ((V.int i) = V.int j) = decide (i = j) := by
    by_cases h : i = j
    · rw [h]; simp
    · have h2 : ¬ (V.int i = V.int j) := fun z => h (V.int.inj z)
      rw [decide_eq_false h, decide_eq_false h2]
  rw [e]; exact q⟩
theorem neI {i j : Int} (q : Q (.bl (!decide (i = j))) H) : rNe (.int i) (.int j) H Q := ⟨rfl, by
  have e : decide ((V.int i) = V.int j) = decide (i = j) := by
    by_cases h : i = j
    · rw [h]; simp
    · have h2 : ¬ (V.int i = V.int j) := fun z => h (V.int.inj z)
      rw [decide_eq_false h, decide_eq_false h2]
  rw [e]; exact q⟩
theorem tst {q : Bool → Hp → Prop} (h : te σ H fun x H' => ∃ k, x = .bl k ∧ q k H') : tTest te σ H q := h
theorem tb1 {q : Bool → Hp → Prop} (h : te σ H fun x H' => ∃ k, x = .bl k ∧ q k H') : tB te σ H q := h
theorem bex {b : Bool} {q : Bool → Prop} (h : q b) : ∃ k, V.bl b = V.bl k ∧ q k := ⟨b, rfl, h⟩
theorem ifs (h : tt σ H fun b H1 => if b = true then t ⟨n, rt, bk, ct⟩ σ H1 else u ⟨n, rt, bk, ct⟩ σ H1) : tIfS tt t u ⟨n, rt, bk, ct⟩ σ H := h
theorem ife (h : tt σ H fun b H1 => if b = true then ta σ H1 Q else tb σ H1 Q) : tIf tt ta tb σ H Q := h
theorem and {q : Bool → Hp → Prop} (h : tt σ H fun c H1 => if c = true then tv σ H1 q else q false H1) : tAnd tt tv σ H q := h
theorem or {q : Bool → Hp → Prop} (h : tt σ H fun c H1 => if c = true then q true H1 else tv σ H1 q) : tOr tt tv σ H q := h
theorem not {q : Bool → Hp → Prop} (h : tt σ H fun c H1 => q (!c) H1) : tNot tt σ H q := h
theorem andV (h : ta σ H fun x H1 => ∃ c, x = .bl c ∧ if c = true then tb σ H1 Q else Q (.bl false) H1) : tAndV ta tb σ H Q := h
theorem orV (h : ta σ H fun x H1 => ∃ c, x = .bl c ∧ if c = true then Q (.bl true) H1 else tb σ H1 Q) : tOrV ta tb σ H Q := h
theorem notV (h : ta σ H fun x H1 => ∃ c, x = .bl c ∧ Q (.bl (!c)) H1) : tNotV ta σ H Q := h
theorem chn {r r' : R2} {tc : TE} (h : ta σ H fun x H1 => tb σ H1 fun y H2 => r x y H2 fun z H3 => ∃ k, z = .bl k ∧ if k = true then tc σ H3 fun w H4 => r' y w H4 Q else Q (.bl false) H3) : tChain r r' ta tb tc σ H Q := h
theorem ret (h : te σ H rt) : tRet te ⟨n, rt, bk, ct⟩ σ H := h
theorem retN (h : rt .non H) : tRetN ⟨n, rt, bk, ct⟩ σ H := h
theorem drp (h : te σ H fun _ H1 => n σ H1) : tDrop te ⟨n, rt, bk, ct⟩ σ H := h
theorem cb {r : List V → Hp → VK → Prop} {tl : TA} (h : tl σ H fun vs H1 => r vs H1 Q) : tCB r tl σ H Q := h
theorem anil {q : List V → Hp → Prop} (h : q [] H) : tNil σ H q := h
theorem acons {tl : TA} {q : List V → Hp → Prop} (h : te σ H fun x H1 => tl σ H1 fun xs H2 => q (x :: xs) H2) : tCons te tl σ H q := h
theorem cal {sp : Sp} {E : XK} {tl : TA} (h : tl σ H fun vs H1 => sp vs H1 Q E) : tCall sp [] E tl σ H Q := by
  show tl σ H fun vs H1 => sp (vs ++ []) H1 Q E
  simp only [List.append_nil]; exact h
theorem tup {tl : TA} (h : tl σ H fun xs H1 => xs.length ≤ sizeLine ∧ ∀ p, H1 p = none → Q (.ref p) (upd H1 p (.tup xs))) : tTup tl σ H Q := h
theorem lst {tl : TA} (h : tl σ H fun xs H1 => xs.length ≤ sizeLine ∧ ∀ p, H1 p = none → Q (.ref p) (upd H1 p (.lst xs))) : tLst tl σ H Q := h
theorem par {i j : Nat} {tl : TA} (h : tl σ H fun vs H1 => ∃ v w, vs = [v, w] ∧ n ((σ.set i (some v)).set j (some w)) H1) : tPar i j tl ⟨n, rt, bk, ct⟩ σ H := h
theorem ex2 {v w : V} {q : V → V → Prop} (h : q v w) : ∃ a b, [v, w] = [a, b] ∧ q a b := ⟨v, w, rfl, h⟩
theorem aug {i : Nat} {ti : TIp} {x : V} (e : σ[i]? = some (some x)) (h : te σ H fun y H1 => ti x y H1 fun z H2 => n (σ.set i (some z)) H2) : tAug i te ti ⟨n, rt, bk, ct⟩ σ H := ⟨x, e, h⟩
theorem ipi {f : Int → Int → Int} {i j : Int} (q : Q (.int (f i j)) H) : ipI f (.int i) (.int j) H Q := ⟨i, j, rfl, rfl, q⟩
theorem addI {i j : Int} (q : Q (.int (i + j)) H) : rAdd (.int i) (.int j) H Q := ⟨i, j, rfl, rfl, q⟩
theorem ixL {p : Addr} {xs : List V} {i : Int} {v : V} (h : SqL K H p xs) (e : atI xs i = some v) (q : Q v H) : rIxL K (.ref p) (.int i) H Q := ⟨p, xs, i, v, rfl, rfl, h, e, q⟩
theorem ixT {p : Addr} {xs : List V} {i : Int} {v : V} (h : SqT K H p xs) (e : atI xs i = some v) (q : Q v H) : rIxT K (.ref p) (.int i) H Q := ⟨p, xs, i, v, rfl, rfl, h, e, q⟩
/-- an if over a decided thing -/
theorem itd {c A B : Prop} [Decidable c] (h1 : c → A) (h2 : ¬ c → B) : if decide c = true then A else B := by
  by_cases h : c
  · rw [decide_eq_true h, if_pos rfl]; exact h1 h
  · rw [decide_eq_false h, if_neg Bool.false_ne_true]; exact h2 h
theorem itn {c A B : Prop} [Decidable c] (h1 : ¬ c → A) (h2 : c → B) : if (!decide c) = true then A else B := by
  by_cases h : c
  · rw [decide_eq_true h]; exact iteF (h2 h)
  · rw [decide_eq_false h]; exact iteT (h1 h)
theorem it1 {c A B : Prop} [Decidable c] (hc : c) (h : A) : if decide c = true then A else B := itd (fun _ => h) fun z => absurd hc z
theorem it0 {c A B : Prop} [Decidable c] (hc : ¬ c) (h : B) : if decide c = true then A else B := itd (fun z => absurd z hc) fun _ => h
theorem in1 {c A B : Prop} [Decidable c] (hc : ¬ c) (h : A) : if (!decide c) = true then A else B := itn (fun _ => h) fun z => absurd z hc
theorem in0 {c A B : Prop} [Decidable c] (hc : c) (h : B) : if (!decide c) = true then A else B := itn (fun z => absurd hc z) fun _ => h
end
/-! ### heaps: all but S stands -/
def Keep (S : Addr → Prop) (H H' : Hp) : Prop := ∀ a o, H a = some o → ¬ S a → H' a = some o
section
variable {S : Addr → Prop} {H H1 H2 : Hp} {p q : Addr} {o u : HO}
theorem Keep.refl : Keep S H H := fun _ _ h _ => h
theorem Keep.trans (a : Keep S H H1) (b : Keep S H1 H2) : Keep S H H2 := fun x o h n => b x o (a x o h n) n
theorem Keep.new (h : H p = none) : Keep S H (upd H p o) := fun a u e _ => by rw [upd_ne (ne_of_none e h)]; exact e
theorem Keep.put (k : Keep S H H1) (h : H p = none) : Keep S H (upd H1 p o) := fun a u e n => by rw [upd_ne (ne_of_none e h)]; exact k a u e n
theorem Keep.at (k : Keep S H H1) (h : S p) : Keep S H (upd H1 p o) := fun a u e n => by rw [upd_ne (fun z => n (by rw [z]; exact h))]; exact k a u e n
theorem Keep.free (k : Keep S H H1) (h : H1 p = none) (n : ¬ S p) : H p = none := by
  cases e : H p with
  | none => rfl
  | some o => have z := k p o e n; rw [h] at z; cases z
theorem Keep.sq {K : PySem.W.Frag} {xs : List V} (k : Keep S H H1) (h : SqL K H p xs) (n : ¬ S p) : SqL K H1 p xs := by
  rcases h with (h | ⟨o, h⟩) | h
  · exact .inl (.inl (k _ _ h n))
  · exact .inl (.inr ⟨o, k _ _ h n⟩)
  · exact .inr h
theorem Keep.st {K : PySem.W.Frag} {xs : List V} (k : Keep S H H1) (h : SqT K H p xs) (n : ¬ S p) : SqT K H1 p xs := by
  rcases h with (h | ⟨o, h⟩) | h
  · exact .inl (.inl (k _ _ h n))
  · exact .inl (.inr ⟨o, k _ _ h n⟩)
  · exact .inr h
theorem sq {K : PySem.W.Frag} {xs : List V} (h : H p = some (.lst xs)) : SqL K H p xs := .inl (.inl h)
theorem st {K : PySem.W.Frag} {xs : List V} (h : H p = some (.tup xs)) : SqT K H p xs := .inl (.inl h)
end
end HS
theorem hu64 {A : PySem.Around} {k : Nat} (hr : L2.Room k A) : A.units + 64 < PySem.cLine := hr.units
namespace HS
open PySem PySem.Spec PyProof.Rows L2
section
variable {σ : L2.St} {H : Hp} {Q : VK} {te ta tb tx : TE} {K : PySem.W.Frag} {X : Cx}
theorem sz {n : Nat} (h : n ≤ 100000) : n < sizeLine := Nat.lt_of_le_of_lt h (by decide)
theorem szl {n : Nat} (h : n ≤ 100000) : n ≤ sizeLine := Nat.le_of_lt (sz h)
theorem pe_fold {e : Expr} {t : TE} (z : Int) (h : PE X e t) (k : ∀ (σ : L2.St) (H : Hp) (Q : VK), Q (.int z) H → t σ H Q) : PE X e (tC (.int z)) :=
  ⟨fun pins s σ H Q I q => h.run pins s σ H Q I (k σ H Q q)⟩
theorem ii {a b : Int} {q : Int → Int → Prop} (h : q a b) : ∃ i j, [V.int a, V.int b] = [V.int i, V.int j] ∧ q i j := ⟨a, b, rfl, h⟩
theorem bmL {r : V → List V → Hp → VK → Prop} {tl : TA} (h : ta σ H fun x H1 => tyV K "list" x H1 ∧ tl σ H1 fun xs H2 => r x xs H2 Q) : tBM K "list" r ta tl σ H Q := h
theorem bmL0 {r : V → List V → Hp → VK → Prop} (h : ta σ H fun x H1 => tyV K "list" x H1 ∧ r x [] H1 Q) : tBM0 K "list" r ta σ H Q := h
theorem tyL {p : Addr} {xs : List V} {A : Prop} (h : H p = some (.lst xs)) (q : A) : tyV K "list" (.ref p) H ∧ A := ⟨.inl ⟨rfl, _, .inl (.inl h)⟩, q⟩
theorem app {l : Addr} {xs : List V} {y : V} (h : H l = some (.lst xs)) (q : xs.length < sizeLine ∧ Q .non (upd H l (.lst (xs ++ [y])))) : rAppend (.ref l) [y] H Q := ⟨l, xs, y, rfl, rfl, h, q⟩
theorem pop0 {l : Addr} {y : V} {ys : List V} (h : H l = some (.lst (y :: ys))) (q : Q y (upd H l (.lst ys))) : rPopAt (.ref l) [.int 0] H Q := ⟨l, y :: ys, 0, 0, y, rfl, rfl, h, by decide, by decide, by simp [seqIndex?], rfl, q⟩
theorem setL {p : Addr} {xs : List V} {k : Int} {j : Nat} {v : V} {q : Hp → Prop} (h : H p = some (.lst xs)) (e : ixN xs.length k = some j) (g : q (upd H p (.lst (xs.set j v)))) : rSetL (.ref p) (.int k) v H q := ⟨p, xs, _, j, rfl, rfl, h, e, g⟩
theorem mulW {i j : Int} (a b : Nat) (h0 : 0 ≤ i) (h1 : i < 2 ^ a) (g0 : 0 ≤ j) (g1 : j < 2 ^ b) (ha : 0 < a) (hb : 0 < b) (h : a + b ≤ 1000000) : CMulW i j := by
  refine wide_mul (a := a) (b := b) ?_ ?_ ha hb h
  · have : ((i.natAbs : Nat) : Int) < ((2 ^ a : Nat) : Int) := by rw [Int.natAbs_of_nonneg h0]; simpa using h1
    exact Int.ofNat_lt.mp this
  · have : ((j.natAbs : Nat) : Int) < ((2 ^ b : Nat) : Int) := by rw [Int.natAbs_of_nonneg g0]; simpa using g1
    exact Int.ofNat_lt.mp this
theorem divW {i j : Int} (b : Nat) (h : 0 < j) (h1 : j < 2 ^ b) (hb : 0 < b) (h9 : b ≤ 9000) : CDivW i j := by
  refine wide_div (b := b) h ?_ hb h9
  have : ((j.natAbs : Nat) : Int) < ((2 ^ b : Nat) : Int) := by rw [Int.natAbs_of_nonneg (by omega)]; simpa using h1
  exact Int.ofNat_lt.mp this
theorem get_int {ns : List Int} {i : Nat} {x : V} (hi : (ns.map V.int)[i]? = some x) : ∃ z, x = .int z ∧ ns[i]? = some z ∧ i < ns.length := by
  rw [List.getElem?_map] at hi
  cases e : ns[i]? with
  | none => rw [e] at hi; cases hi
  | some z => rw [e] at hi; exact ⟨z, (Option.some.inj hi).symm, rfl, (List.getElem?_eq_some_iff.mp e).1⟩
end
end HS
namespace HS
open PySem PySem.Spec PyProof.Rows L2
theorem Keep.new' {S : Addr → Prop} {H H0 H1 : Hp} {p : Addr} {o : HO} (h : H0 p = none) (k0 : Keep S H H0) (n : ¬ S p) (k : Keep S H H1) : Keep S H (upd H1 p o) := k.put (k0.free h n)
theorem nS2 {p a b : Addr} (h1 : p ≠ a) (h2 : p ≠ b) : ¬ (p = a ∨ p = b) := fun z => z.elim h1 h2
theorem nS3 {p a b c : Addr} (h1 : p ≠ a) (h2 : p ≠ b) (h3 : p ≠ c) : ¬ (p = a ∨ p = b ∨ p = c) := fun z => z.elim h1 fun z => z.elim h2 h3
end HS
namespace HS
open PySem PySem.Spec PyProof.Rows L2
section
variable {σ : L2.St} {H : Hp} {t u : TS} {n bk ct : L2.St → Hp → Prop} {rt : VK}
theorem pnx (h : n σ H) : Ends.nx ⟨n, rt, bk, ct⟩ σ H := h
theorem pbk (h : bk σ H) : Ends.bk ⟨n, rt, bk, ct⟩ σ H := h
theorem pct (h : ct σ H) : Ends.ct ⟨n, rt, bk, ct⟩ σ H := h
theorem prt {v : V} (h : rt v H) : Ends.rt ⟨n, rt, bk, ct⟩ v H := h
theorem cut (M : L2.St → Hp → Prop) (h : t ⟨M, rt, bk, ct⟩ σ H) (k : ∀ σ' H', M σ' H' → u ⟨n, rt, bk, ct⟩ σ' H') : Evl.tCut t u ⟨n, rt, bk, ct⟩ σ H := ⟨M, h, k⟩
theorem pow_lt {i : Int} {a : Nat} (k : Nat) (h0 : 0 ≤ i) (h : i < 2 ^ a) : 0 ≤ i ^ k ∧ (i ^ k < 2 ^ (a * k) ∨ k = 0) := by
  refine ⟨Int.pow_nonneg h0, ?_⟩
  cases k with
  | zero => exact .inr rfl
  | succ k =>
    refine .inl ?_
    obtain ⟨m, rfl⟩ := Int.eq_ofNat_of_zero_le h0
    have h' : m < 2 ^ a := by have : ((m : Nat) : Int) < ((2 ^ a : Nat) : Int) := by simpa using h
                              exact Int.ofNat_lt.mp this
    have := Nat.pow_lt_pow_left h' (Nat.succ_ne_zero k)
    rw [← Nat.pow_mul] at this
    have z : ((m ^ (k + 1) : Nat) : Int) < ((2 ^ (a * (k + 1)) : Nat) : Int) := Int.ofNat_lt.mpr this
    simpa using z
end
end HS
namespace HS
open PySem PySem.Spec PyProof.Rows L2
section
variable {σ : L2.St} {H : Hp} {Q : VK} {ta tb te : TE} {K : PySem.W.Frag}
theorem szc {n : Nat} {A : Prop} (h : n ≤ 100000) (q : A) : n ≤ sizeLine ∧ A := ⟨szl h, q⟩
theorem szd {n : Nat} {A : Prop} (h : n ≤ 100000) (q : A) : n < sizeLine ∧ A := ⟨sz h, q⟩
theorem wp {σ1 σ2 : L2.St} {vs : List Nat} {A : Prop} (e : wipe σ2 vs = wipe σ1 vs) (q : A) : wipe σ2 vs = wipe σ1 vs ∧ A := ⟨e, q⟩
theorem yes {q : Bool → Hp → Prop} (h : q true H) : tYes σ H q := h
theorem ixI {p : Addr} {i : Int} (ns : List Int) (h : SqL K H p (ns.map V.int)) (h0 : 0 ≤ i) (h1 : i < ns.length) (q : ∀ z, ns[i.toNat]? = some z → z ∈ ns → Q (.int z) H) : rIxL K (.ref p) (.int i) H Q := by
  have hi : i.toNat < ns.length := by omega
  have e : ns[i.toNat]? = some ns[i.toNat] := List.getElem?_eq_getElem hi
  refine ⟨p, ns.map V.int, i, .int ns[i.toNat], rfl, rfl, h, ?_, q _ e (List.getElem_mem hi)⟩
  exact at_of (j := i.toNat) (by omega) (by rw [List.getElem?_map, e]; rfl)
theorem ixV {p : Addr} {i : Int} {xs : List V} (h : SqL K H p xs) (h0 : 0 ≤ i) (h1 : i < xs.length) (q : ∀ v, xs[i.toNat]? = some v → v ∈ xs → Q v H) : rIxL K (.ref p) (.int i) H Q := by
  have hi : i.toNat < xs.length := by omega
  have e : xs[i.toNat]? = some xs[i.toNat] := List.getElem?_eq_getElem hi
  refine ⟨p, xs, i, xs[i.toNat], rfl, rfl, h, ?_, q _ e (List.getElem_mem hi)⟩
  exact at_of (j := i.toNat) (by omega) e
theorem ixVT {p : Addr} {i : Int} {xs : List V} (h : SqT K H p xs) (h0 : 0 ≤ i) (h1 : i < xs.length) (q : ∀ v, xs[i.toNat]? = some v → v ∈ xs → Q v H) : rIxT K (.ref p) (.int i) H Q := by
  have hi : i.toNat < xs.length := by omega
  have e : xs[i.toNat]? = some xs[i.toNat] := List.getElem?_eq_getElem hi
  refine ⟨p, xs, i, xs[i.toNat], rfl, rfl, h, ?_, q _ e (List.getElem_mem hi)⟩
  exact at_of (j := i.toNat) (by omega) e
theorem lc {wi : TI} {g : TG} {tt : TT} {vs : List Nat} (h : wi σ H fun J H1 => ∀ D, H1 D = none → ∃ W : Nat → Nat → Hp → Prop, (∃ m, W 0 m (upd H1 D (.lst []))) ∧ ∀ i m H, W i m H → (J.stop i H ∧ Q (.ref D) H) ∨ (J.go i H ∧ ∃ Nx : Hp → Prop, (∀ H', Nx H' → ∃ m', m' < m ∧ W (i + 1) m' H') ∧ ∀ x H', J.yld i H x H' → g x (wipe σ vs) H' fun σ2 H2 => wipe σ2 vs = wipe σ vs ∧ tt σ2 H2 fun b H3 => if b = true then te σ2 H3 fun y H4 => ∃ acc, H4 D = some (.lst acc) ∧ acc.length < sizeLine ∧ Nx (upd H4 D (.lst (acc ++ [y]))) else Nx H3)) : tLc wi g tt te vs σ H Q := h
theorem rng1 {tl : TA} {R : It → Hp → Prop} (h : tl σ H fun vs H1 => ∃ j : Int, vs = [.int j] ∧ -(2 ^ 62) ≤ j ∧ j < 2 ^ 62 ∧ R (Itr 0 j.toNat) H1) : iRng1 tl σ H R := h
theorem rng2 {tl : TA} {R : It → Hp → Prop} (h : tl σ H fun vs H1 => ∃ i j : Int, vs = [.int i, .int j] ∧ (-(2 ^ 62) ≤ i ∧ i < 2 ^ 62 ∧ -(2 ^ 62) ≤ j ∧ j < 2 ^ 62) ∧ R (Itr i (j - i).toNat) H1) : iRng2 tl σ H R := h
theorem lis {tl : TE} {R : It → Hp → Prop} (h : tl σ H fun x H1 => ∃ a, x = .ref a ∧ (∃ xs, SqL K H1 a xs) ∧ R (Itl K a) H1) : iList K tl σ H R := h
theorem ra {a : Addr} {q : Addr → Prop} (h : q a) : ∃ b, V.ref a = V.ref b ∧ q b := ⟨a, rfl, h⟩
theorem i1e {a : Int} {q : Int → Prop} (h : q a) : ∃ i, [V.int a] = [V.int i] ∧ q i := ⟨a, rfl, h⟩
theorem fr {wi : TI} {g : TG} {tb : TS} {D : Ends} (h : wi σ H fun J H1 => ∃ W : Nat → Nat → L2.St → Hp → Prop, (∃ m, W 0 m σ H1) ∧ ∀ i m σ H, W i m σ H →
    (J.stop i H ∧ D.nx σ H) ∨ (J.go i H ∧ ∃ N : L2.St → Hp → Prop, (∀ σ' H', N σ' H' → ∃ m', m' < m ∧ W (i + 1) m' σ' H') ∧ ∀ x H', J.yld i H x H' → g x σ H' fun σ2 H2 => tb { D with nx := N, ct := N, bk := D.nx } σ2 H2)) : tFor wi g tb D σ H := h
end
end HS
namespace HS
open PySem PySem.Spec PyProof.Rows L2
theorem iteM {c : Bool} {ta tb : TE} {σ : L2.St} {H1 : Hp} {Q : VK} (M : VK) (h : c = true → ∀ Q' : VK, (∀ v H', M v H' → Q' v H') → ta σ H1 Q') (g : c = false → ∀ Q' : VK, (∀ v H', M v H' → Q' v H') → tb σ H1 Q') (k : ∀ v H', M v H' → Q v H') :
    if c = true then ta σ H1 Q else tb σ H1 Q := by
  cases c with
  | true => rw [if_pos rfl]; exact h rfl Q k
  | false => rw [if_neg Bool.false_ne_true]; exact g rfl Q k
/-- ceilings -/
theorem ceil_eq {i j : Int} (hj : 1 ≤ j) : (i + j - 1) / j = i / j + (if 0 < i % j then 1 else 0) := by
  have h0 := Int.emod_nonneg i (by omega : j ≠ 0)
  have h1 := Int.emod_lt_of_pos i (by omega : 0 < j)
  have e := Int.mul_ediv_add_emod i j
  generalize i / j = q at e ⊢
  generalize i % j = r at e h0 h1 ⊢
  subst e
  split
  · rename_i h
    rw [show j * q + r + j - 1 = (r - 1) + j * (q + 1) by rw [Int.mul_add]; omega, Int.add_mul_ediv_left _ _ (by omega), Int.ediv_eq_zero_of_lt (by omega) (by omega)]
    omega
  · rename_i h
    rw [show j * q + r + j - 1 = (j - 1) + j * q by omega, Int.add_mul_ediv_left _ _ (by omega), Int.ediv_eq_zero_of_lt (by omega) (by omega)]
    omega
end HS
namespace HS
open PySem PySem.Spec PyProof.Rows L2
section
variable {σ : L2.St} {H : Hp} {te : TE} {t : TS} {tg ug : TGn} {n bk ct : List V → L2.St → Hp → Prop} {rt : List V → VK} {ys : List V} {Q : VK}
theorem gthen (h : tg ⟨fun ys' σ' H' => ug ⟨n, rt, bk, ct⟩ ys' σ' H', rt, bk, ct⟩ ys σ H) : tGThen tg ug ⟨n, rt, bk, ct⟩ ys σ H := h
theorem g0 (h : n ys σ H) : tG0 ⟨n, rt, bk, ct⟩ ys σ H := h
theorem gpl (h : t ⟨n ys, rt ys, bk ys, ct ys⟩ σ H) : tPlain t ⟨n, rt, bk, ct⟩ ys σ H := h
theorem gyl (h : ys.length < sizeLine ∧ te σ H fun x H1 => n (ys ++ [x]) σ H1) : tGYield te ⟨n, rt, bk, ct⟩ ys σ H := h
theorem lgn {tg : TGen} (h : tg σ H fun out H2 => ∀ p, H2 p = none → Q (.ref p) (upd H2 p (.lst out))) : tListG tg σ H Q := h
theorem calg {sp : SpG} {E : XK} {tl : TA} {q : List V → Hp → Prop} (h : tl σ H fun vs H1 => sp vs H1 q E) : tCallG sp [] E tl σ H q := by
  show tl σ H fun vs H1 => sp (vs ++ []) H1 q E
  simp only [List.append_nil]; exact h
end
end HS
namespace HS
open PySem PySem.Spec PyProof.Rows L2
section
variable {H : Hp} {Q : VK} {K : PySem.W.Frag}
theorem ixZ {p : Addr} {i z : Int} {ns : List Int} (h : SqL K H p (ns.map V.int)) (h0 : 0 ≤ i) (e : ns[i.toNat]? = some z) (q : Q (.int z) H) : rIxL K (.ref p) (.int i) H Q :=
  ⟨p, ns.map V.int, i, .int z, rfl, rfl, h, at_of (j := i.toNat) (by omega) (by rw [List.getElem?_map, e]; rfl), q⟩
theorem cut_to (xs : List V) (n : Nat) : cutV xs none (some (n : Int)) = xs.take n := by
  unfold cutV
  rw [HT.sIx_none, HT.sIx_nat, List.drop_zero, Nat.sub_zero]
  rw [List.take_eq_take_iff]
  omega
theorem cut_from (xs : List V) (n : Nat) : cutV xs (some (n : Int)) none = xs.drop n := by
  unfold cutV
  rw [HT.sIx_none, HT.sIx_nat]
  rw [List.take_of_length_le (by rw [List.length_drop]; omega)]
  by_cases h : n ≤ xs.length
  · rw [Nat.min_eq_left h]
  · rw [Nat.min_eq_right (by omega), List.drop_eq_nil_of_le (Nat.le_refl _), List.drop_eq_nil_of_le (by omega)]
end
end HS
namespace HS
open PySem PySem.Spec PyProof.Rows L2
theorem Keep.any {S : Addr → Prop} {H H1 : Hp} (k : Keep (fun _ => False) H H1) : Keep S H H1 := fun a o e _ => k a o e id
theorem Keep.mono {S T : Addr → Prop} {H H1 : Hp} (k : Keep S H H1) (h : ∀ a, S a → T a) : Keep T H H1 := fun a o e n => k a o e fun z => n (h a z)
end HS
namespace HS
open PySem PySem.Spec PyProof.Rows L2
theorem cut_toI {i : Int} (ls : List Int) (h : 0 ≤ i) : cutV (ls.map V.int) none (some i) = (ls.take i.toNat).map V.int := by
  obtain ⟨n, rfl⟩ := Int.eq_ofNat_of_zero_le h
  rw [cut_to, List.map_take]; simp
theorem cut_fromI {i : Int} (ls : List Int) (h : 0 ≤ i) : cutV (ls.map V.int) (some i) none = (ls.drop i.toNat).map V.int := by
  obtain ⟨n, rfl⟩ := Int.eq_ofNat_of_zero_le h
  rw [cut_from, List.map_drop]; simp
end HS
namespace HS
theorem ifT {c : Bool} {A B : Prop} (e : c = true) (h : A) : if c = true then A else B := by rw [if_pos e]; exact h
theorem ifF {c : Bool} {A B : Prop} (e : c = false) (h : B) : if c = true then A else B := by rw [if_neg (by rw [e]; exact Bool.false_ne_true)]; exact h
end HS
namespace HS
open PySem PySem.Spec PyProof.Rows L2
/-- a new object behind what stands -/
theorem Keep.nw {H H1 : Hp} {p : Addr} {o : HO} (k : Keep (fun _ => False) H H1) (h : H1 p = none) : Keep (fun _ => False) H (upd H1 p o) := k.put (k.free h id)
theorem Keep.nwS {S : Addr → Prop} {H H1 : Hp} {p : Addr} {o : HO} (k : Keep S H H1) (h : H1 p = none) (n : ¬ S p) : Keep S H (upd H1 p o) := k.put (k.free h n)
end HS
namespace HS
theorem nt {A B : Prop} (h : B) : if (!true) = true then A else B := by rw [if_neg (show ¬ ((!true) = true) from Bool.false_ne_true)]; exact h
theorem nf {A B : Prop} (h : A) : if (!false) = true then A else B := by rw [if_pos (show (!false) = true from rfl)]; exact h
end HS
namespace HS
open PySem PySem.Spec PyProof.Rows L2
section
variable {H H' : Hp} {p x : Addr} {o u : HO}
theorem upgs (e : upd H p o = H') : H' p = some o := by rw [← e]; exact upd_same
theorem upgK (e : upd H p o = H') (h : H p = none) : Keep (fun _ => False) H H' := by rw [← e]; exact Keep.new h
end
end HS
/-! Data of ints, lists and tuples, and == of such. -/
namespace HS
open PySem PySem.Spec PyProof.Rows L2
def dInts (ns : List Int) : PyData := .list (ns.map .int)
section
variable {K : PySem.W.Frag} {H : Hp}
theorem dpAll_ints : ∀ ns : List Int, DpAll K H (ns.map V.int) (ns.map .int)
  | [] => .nil
  | n :: r => .cons (.int n) (dpAll_ints r)
theorem dp_ints {a : Addr} {ns : List Int} (h : SqL K H a (ns.map V.int)) : Dp K H (.ref a) (dInts ns) := .lst h (dpAll_ints ns)
theorem lay_ints : ∀ ns : List Int, PyData.canLayAll0 (ns.map .int) = true
  | [] => rfl
  | n :: r => by rw [List.map_cons, PyData.canLayAll0, lay_ints r]; rfl
theorem dep_ints : ∀ ns : List Int, PyData.depthAll (ns.map .int) = 0
  | [] => rfl
  | n :: r => by rw [List.map_cons, PyData.depthAll, dep_ints r]; rfl
theorem sh_ints (ns : List Int) : SeqAt.shaped (dInts ns) = true := by
  unfold SeqAt.shaped dInts
  rw [PyData.canLay0, PyData.depth, lay_ints, dep_ints]; rfl
theorem eqv_int (i j : Int) : PyData.eqv (.int i) (.int j) = decide (i = j) := by
  rw [PyData.eqv]; exact Bool.beq_eq_decide_eq i j
theorem eqvAll_ints : ∀ xs ys : List Int, PyData.eqvAll (xs.map .int) (ys.map .int) = decide (xs = ys)
  | [], [] => rfl
  | [], y :: ys => rfl
  | x :: xs, [] => rfl
  | x :: xs, y :: ys => by
    rw [List.map_cons, List.map_cons, PyData.eqvAll, eqv_int, eqvAll_ints xs ys]
    by_cases h : x = y <;> by_cases g : xs = ys <;> simp [h, g]
theorem eqv_ints (xs ys : List Int) : PyData.eqv (dInts xs) (dInts ys) = decide (xs = ys) := by
  unfold dInts; rw [PyData.eqv]; exact eqvAll_ints xs ys
/-- == and != of two lists of ints -/
theorem eqL {a b : Addr} {xs ys : List Int} {Q : VK} (h1 : SqL K H a (xs.map V.int)) (h2 : SqL K H b (ys.map V.int)) (q : Q (.bl (decide (xs = ys))) H) : rEqD K (.ref a) (.ref b) H Q :=
  ⟨_, _, dp_ints h1, dp_ints h2, sh_ints _, sh_ints _, by rw [eqv_ints]; exact q⟩
theorem neL {a b : Addr} {xs ys : List Int} {Q : VK} (h1 : SqL K H a (xs.map V.int)) (h2 : SqL K H b (ys.map V.int)) (q : Q (.bl (!decide (xs = ys))) H) : rNeD K (.ref a) (.ref b) H Q :=
  ⟨_, _, dp_ints h1, dp_ints h2, sh_ints _, sh_ints _, by rw [eqv_ints]; exact q⟩
end
end HS
/-! Rules told with the written part K by its own letter. -/
namespace HS
open PySem PySem.Spec PyProof.Rows L2
section
variable {X : Cx} (K : PySem.W.Frag)
theorem ixl (h : X.K = K := by rfl) : IxR X (rIxL K) := h ▸ ix_list
theorem ixt (h : X.K = K := by rfl) : IxR X (rIxT K) := h ▸ ix_tup
theorem sll (h : X.K = K := by rfl) : SlR X (rSlL K) := h ▸ sl_list
theorem slt (h : X.K = K := by rfl) : SlR X (rSlT K) := h ▸ sl_tup
theorem kbm {E : Expr} {T : String} {r : V → List V → Hp → VK → Prop} {to : TE} {t : TA} (p : PE X E (tBM X.K T r to t)) (h : X.K = K := by rfl) : PE X E (tBM K T r to t) := h ▸ p
theorem kbm0 {E : Expr} {T : String} {r : V → List V → Hp → VK → Prop} {to : TE} (p : PE X E (tBM0 X.K T r to)) (h : X.K = K := by rfl) : PE X E (tBM0 K T r to) := h ▸ p
theorem kil {tg l : Expr} {tl : TE} (p : PI X tg l (iList X.K tl)) (h : X.K = K := by rfl) : PI X tg l (iList K tl) := h ▸ p
theorem kit {tg l : Expr} {tl : TE} (p : PI X tg l (iTup X.K tl)) (h : X.K = K := by rfl) : PI X tg l (iTup K tl) := h ▸ p
theorem kien {tg l : Expr} {tl : TA} (p : PI X tg l (iEnum X.K tl)) (h : X.K = K := by rfl) : PI X tg l (iEnum K tl) := h ▸ p
theorem kgt {tg : Expr} {n : Nat} {t : TGs} (p : PG X tg (gTup X.K n t)) (h : X.K = K := by rfl) : PG X tg (gTup K n t) := h ▸ p
theorem keq (hu : X.A.units + 64 < cLine) (h : X.K = K := by rfl) : OpR X (compareOp .Eq) (rEqD K) := h ▸ op_eqD hu
theorem kne (hu : X.A.units + 64 < cLine) (h : X.K = K := by rfl) : OpR X (compareOp .NotEq) (rNeD K) := h ▸ op_neD hu
theorem kin (h : X.K = K := by rfl) : OpR X (compareOp .In) (rIn K false) := h ▸ op_in_seq
theorem knin (h : X.K = K := by rfl) : OpR X (compareOp .NotIn) (rIn K true) := h ▸ op_notIn_seq
theorem kcatT (h : X.K = K := by rfl) : OpR X (binaryOp .Add) (rCatT K) := h ▸ op_catT
def rLen : List V → Hp → VK → Prop := fun xs H Q => ∃ p ys, xs = [.ref p] ∧ (SqL K H p ys ∨ SqT K H p ys) ∧ Q (.int ys.length) H
def rLst : List V → Hp → VK → Prop := fun xs H Q => ∃ p ys, xs = [.ref p] ∧ (SqL K H p ys ∨ SqT K H p ys) ∧ ∀ l, H l = none → Q (.ref l) (upd H l (.lst ys))
theorem klen (h : X.K = K := by rfl) : CallR X (.builtin "len") (rLen K) := h ▸ call_len_seq
theorem klst (h : X.K = K := by rfl) : CallR X (.type "list") (rLst K) := h ▸ call_list_of
theorem ksum (hc : X.calm = true) (h : X.K = K := by rfl) : CallR X (.builtin "sum") (rSum K) := h ▸ cr_sum hc
theorem kmax (hc : X.calm = true) (h : X.K = K := by rfl) : CallR X (.builtin "max") (rMax K) := h ▸ cr_max hc
theorem kmin (hc : X.calm = true) (h : X.K = K := by rfl) : CallR X (.builtin "min") (rMin K) := h ▸ cr_min hc
theorem krev {E : Expr} {te : TE} (p : PE X E (tRevL X.K te)) (h : X.K = K := by rfl) : PE X E (tRevL K te) := h ▸ p
/-- the names of a block within a block -/
def relab (scO sc : Scope) : Scope := { scO with names := scO.names.map fun (n, k) => if (k == .free && sc.kind == .function && sc.names.lookup n == some .cell) then (n, .cell) else (n, k) }
/-- a list comprehension within a comprehension's block -/
theorem pe_lcIn {X : Cx} {s0 : Shared} {H0 : Hp} {C0 : Addr} {cl0 : List (Str × Addr)} {fp0 : List Addr} {scO : Scope} {elt tg iter : Expr} {ifs : List Expr} {scope : Scope} {own : List (Str × Nat)} {pos : Pos} {wi : TI} {g : TG} {tt : TT} {te : TE} (hc : X.calm = true) (hN : X.N.Nodup) (hi : PI (X.blk s0 H0 scO (compEnvC scO cl0 C0 X.env) fp0) tg iter wi) (sc : Scope) (hsc : X.env.scope = sc) (ok : BlkOk X.N (relab scO sc) scope own)
    (hg : ∀ (s : Shared) (H : Hp) (C : Addr) (cl : List (Str × Addr)) (fp : List Addr), PG ((X.blk s0 H0 scO (compEnvC scO cl0 C0 X.env) fp0).blk s H scope (compEnvC scope cl C (compEnvC scO cl0 C0 X.env)) fp) tg g) (ht : ∀ (s : Shared) (H : Hp) (C : Addr) (cl : List (Str × Addr)) (fp : List Addr), PTs ((X.blk s0 H0 scO (compEnvC scO cl0 C0 X.env) fp0).blk s H scope (compEnvC scope cl C (compEnvC scO cl0 C0 X.env)) fp) ifs tt)
    (he : ∀ (s : Shared) (H : Hp) (C : Addr) (cl : List (Str × Addr)) (fp : List Addr), PE ((X.blk s0 H0 scO (compEnvC scO cl0 C0 X.env) fp0).blk s H scope (compEnvC scope cl C (compEnvC scO cl0 C0 X.env)) fp) elt te) (hs : ∀ x, foldedSetIterable iter (compEnvC scO cl0 C0 X.env) x = pure x := by intro _; rfl) :
    PE (X.blk s0 H0 scO (compEnvC scO cl0 C0 X.env) fp0) (.ListComp elt [⟨tg, iter, ifs, 0⟩] scope pos) (tLc wi g tt te (own.map (·.2))) :=
  by subst hsc; exact pe_lc (X := X.blk s0 H0 scO (compEnvC scO cl0 C0 X.env) fp0) hc hN hi ok hg ht he hs
end
section
variable {σ : L2.St} {H : Hp} {Q : VK} {te : TE} {K : PySem.W.Frag}
theorem lenL {p : Addr} {ys : List V} (h : SqL K H p ys) (q : Q (.int ys.length) H) : rLen K [.ref p] H Q := ⟨p, ys, rfl, .inl h, q⟩
theorem lenT {p : Addr} {ys : List V} (h : SqT K H p ys) (q : Q (.int ys.length) H) : rLen K [.ref p] H Q := ⟨p, ys, rfl, .inr h, q⟩
theorem sumL {p : Addr} {ns : List Int} (h : SqL K H p (ns.map V.int)) (q : Q (.int ns.sum) H) : rSum K [.ref p] H Q := ⟨p, ns, rfl, h, q⟩
theorem revL (h : te σ H fun x H1 => ∃ a xs, x = .ref a ∧ SqL K H1 a xs ∧ ∀ p, H1 p = none → Q (.ref p) (upd H1 p (.lst xs.reverse))) : tRevL K te σ H Q := h
theorem sl {r : V → Option Int → Option Int → Hp → VK → Prop} {tl th : TO} (h : te σ H fun x H1 => tl σ H1 fun l H2 => th σ H2 fun u H3 => r x l u H3 Q) : tSl r te tl th σ H Q := h
theorem noP {q : Option Int → Hp → Prop} (h : q none H) : tNoPart σ H q := h
theorem part {q : Option Int → Hp → Prop} (h : te σ H fun x H1 => ∃ i, x = .int i ∧ q (some i) H1) : tPart te σ H q := h
theorem ie {a : Int} {q : Int → Prop} (h : q a) : ∃ i, V.int a = V.int i ∧ q i := ⟨a, rfl, h⟩
theorem slLs {p : Addr} {xs : List V} {lo hi : Option Int} (h : SqL K H p xs) (q : ∀ p, H p = none → Q (.ref p) (upd H p (.lst (cutV xs lo hi)))) : rSlL K (.ref p) lo hi H Q := ⟨p, xs, rfl, h, q⟩
theorem gtup {n : Nat} {t : TGs} {a : Addr} {xs : List V} {q : L2.St → Hp → Prop} (h : SqT K H a xs) (e : xs.length = n) (k : t xs σ H q) : gTup K n t (.ref a) σ H q := ⟨a, xs, rfl, h, e, k⟩
theorem gcons {t : TG} {u : TGs} {v : V} {r : List V} {q : L2.St → Hp → Prop} (h : t v σ H fun σ' H' => u r σ' H' q) : gCons t u (v :: r) σ H q := ⟨v, r, rfl, h⟩
theorem gnil {q : L2.St → Hp → Prop} (h : q σ H) : gNil [] σ H q := ⟨rfl, h⟩
theorem itup {R : It → Hp → Prop} (h : te σ H fun x H1 => ∃ a, x = .ref a ∧ (∃ xs, SqT K H1 a xs) ∧ R (Itt K a) H1) : iTup K te σ H R := h
theorem ienu {tl : TA} {R : It → Hp → Prop} (h : tl σ H fun vs H1 => ∃ a xs, vs = [.ref a] ∧ SqL K H1 a xs ∧ R (Ite K a) H1) : iEnum K tl σ H R := h
theorem cat {l b : Addr} {xs zs : List V} (h1 : H l = some (.lst xs)) (h2 : H b = some (.lst zs)) (q : xs.length + zs.length ≤ sizeLine ∧ ∀ p, H p = none → Q (.ref p) (upd H p (.lst (xs ++ zs)))) : rCat (.ref l) (.ref b) H Q := ⟨l, b, xs, zs, rfl, rfl, h1, h2, q⟩
theorem ext {l b : Addr} {xs zs : List V} (h1 : H l = some (.lst xs)) (h2 : H b = some (.lst zs)) (q : xs.length + zs.length ≤ sizeLine ∧ Q .non (upd H l (.lst (xs ++ zs)))) : rExtend (.ref l) [.ref b] H Q := ⟨l, b, xs, zs, rfl, rfl, h1, h2, q⟩
end
end HS
/-! Lists of new pairs of ints, and == of such; ranges by steps. -/
namespace HS
open PySem PySem.Spec PyProof.Rows L2
/-- the refs of vs are tuples of these pairs -/
def Prs (H : Hp) : List V → List (Int × Int) → Prop
  | [], [] => True
  | v :: vs, p :: ps => (∃ t, v = .ref t ∧ H t = some (.tup [.int p.1, .int p.2])) ∧ Prs H vs ps
  | _, _ => False
theorem Prs.keep {S : Addr → Prop} {H H' : Hp} (k : Keep S H H') : ∀ {vs : List V} {ps : List (Int × Int)}, Prs H vs ps → (∀ v ∈ vs, ∀ t, v = .ref t → ¬ S t) → Prs H' vs ps
  | [], [], h, _ => h
  | _ :: _, _ :: _, ⟨⟨t, e, o⟩, h⟩, n => ⟨⟨t, e, k t _ o (n _ List.mem_cons_self t e)⟩, h.keep k fun v hv => n v (List.mem_cons_of_mem _ hv)⟩
theorem Prs.app {H : Hp} : ∀ {vs ws : List V} {ps qs : List (Int × Int)}, Prs H vs ps → Prs H ws qs → Prs H (vs ++ ws) (ps ++ qs)
  | [], _, [], _, _, g => g
  | _ :: _, _, _ :: _, _, ⟨a, h⟩, g => ⟨a, h.app g⟩
theorem Prs.len {H : Hp} : ∀ {vs : List V} {ps : List (Int × Int)}, Prs H vs ps → vs.length = ps.length
  | [], [], _ => rfl
  | _ :: _, _ :: _, ⟨_, h⟩ => by rw [List.length_cons, List.length_cons, h.len]
def dPr (p : Int × Int) : PyData := .tuple [.int p.1, .int p.2]
def dPrs (ps : List (Int × Int)) : PyData := .list (ps.map dPr)
section
variable {K : PySem.W.Frag} {H : Hp}
theorem dpAll_prs : ∀ {vs : List V} {ps : List (Int × Int)}, Prs H vs ps → DpAll K H vs (ps.map dPr)
  | [], [], _ => .nil
  | _ :: _, p :: _, ⟨⟨t, e, o⟩, h⟩ => .cons (by rw [e]; exact .tup (st o) (.cons (.int p.1) (.cons (.int p.2) .nil))) (dpAll_prs h)
theorem lay_prs : ∀ ps : List (Int × Int), PyData.canLayAll0 (ps.map dPr) = true
  | [] => rfl
  | p :: r => by rw [List.map_cons, PyData.canLayAll0, lay_prs r]; rfl
theorem dep_prs : ∀ ps : List (Int × Int), PyData.depthAll (ps.map dPr) ≤ 2
  | [] => by simp [PyData.depthAll]
  | p :: r => by
    have h := dep_prs r
    have h2 : (dPr p).depth ≤ 2 := by simp [dPr, PyData.depth, PyData.depthAll]
    rw [List.map_cons, PyData.depthAll]; omega
theorem sh_prs (ps : List (Int × Int)) : SeqAt.shaped (dPrs ps) = true := by
  have h1 := dep_prs ps
  have h2 : PyData.depth (dPrs ps) ≤ 64 := by unfold dPrs; rw [PyData.depth]; omega
  show (PyData.canLay0 (dPrs ps) && decide (PyData.depth (dPrs ps) ≤ 64)) = true
  rw [Bool.and_eq_true]
  exact ⟨by unfold dPrs; rw [PyData.canLay0]; exact lay_prs ps, decide_eq_true h2⟩
theorem eqv_pr (p q : Int × Int) : PyData.eqv (dPr p) (dPr q) = decide (p = q) := by
  unfold dPr
  rw [PyData.eqv, PyData.eqvAll, PyData.eqvAll, PyData.eqvAll, eqv_int, eqv_int]
  obtain ⟨a, b⟩ := p
  obtain ⟨c, d⟩ := q
  by_cases h : a = c <;> by_cases g : b = d <;> simp [h, g]
theorem eqvAll_prs : ∀ xs ys : List (Int × Int), PyData.eqvAll (xs.map dPr) (ys.map dPr) = decide (xs = ys)
  | [], [] => rfl
  | [], y :: ys => rfl
  | x :: xs, [] => rfl
  | x :: xs, y :: ys => by
    rw [List.map_cons, List.map_cons, PyData.eqvAll, eqv_pr, eqvAll_prs xs ys]
    by_cases h : x = y <;> by_cases g : xs = ys <;> simp [h, g]
/-- == of two lists of pairs of ints -/
theorem eqP {a b : Addr} {vs ws : List V} {xs ys : List (Int × Int)} {Q : VK} (h1 : SqL K H a vs) (g1 : Prs H vs xs) (h2 : SqL K H b ws) (g2 : Prs H ws ys) (q : Q (.bl (decide (xs = ys))) H) : rEqD K (.ref a) (.ref b) H Q := by
  refine ⟨dPrs xs, dPrs ys, .lst h1 (dpAll_prs g1), .lst h2 (dpAll_prs g2), sh_prs _, sh_prs _, ?_⟩
  rw [show PyData.eqv (dPrs xs) (dPrs ys) = decide (xs = ys) by unfold dPrs; rw [PyData.eqv]; exact eqvAll_prs xs ys]
  exact q
end
theorem RgC.up {j c : Int} (hc : 1 ≤ c) (hc2 : c < 2 ^ 30) (h0 : 0 ≤ j) (h1 : j < 2 ^ 61) : RgC 0 j c ((j + c - 1) / c).toNat := by
  have hn : 0 ≤ (j + c - 1) / c := Int.ediv_nonneg (by omega) (by omega)
  have e : Builtin.Range.rangeSize 0 j c = (j + c - 1) / c := by
    unfold Builtin.Range.rangeSize
    rw [if_pos (by omega)]
    split
    · rw [show j + c - 1 = (j - 0 - 1) + c * 1 by omega, Int.add_mul_ediv_left _ _ (by omega)]
    · rw [show j = 0 by omega, Int.ediv_eq_zero_of_lt (by omega) (by omega)]
  have hl : (j + c - 1) / c ≤ j + c := Int.le_trans (Int.ediv_le_self _ (by omega)) (by omega)
  refine ⟨by omega, by omega, ?_, by rw [e]; omega⟩
  unfold Builtin.Range.small
  rw [e]
  simp only [Builtin.Range.rangeFitsLong, Bool.and_eq_true, Bool.or_eq_true, decide_eq_true_eq, beq_iff_eq]
  rw [if_pos (show c > 0 by omega)]
  simp only [Bool.and_eq_true, decide_eq_true_eq]
  omega
end HS
namespace HS
open PySem PySem.Spec PyProof.Rows L2
section
variable {σ : L2.St} {H : Hp}
theorem rng3 {tl : TA} {R : It → Hp → Prop} (h : tl σ H fun vs H1 => ∃ (i j c : Int) (n : Nat), vs = [.int i, .int j, .int c] ∧ RgC i j c n ∧ R (Itc i c n) H1) : iRng3 tl σ H R := h
end
end HS
namespace HS
open PySem PySem.Spec PyProof.Rows L2
theorem Prs.new {H : Hp} {p : Addr} {o : HO} (hp : H p = none) {vs : List V} {ps : List (Int × Int)} (h : Prs H vs ps) : Prs (upd H p o) vs ps :=
  h.keep (S := fun _ => False) (Keep.new hp) fun _ _ _ _ z => z
theorem Prs.same {H H' : Hp} {vs : List V} {ps : List (Int × Int)} (h : Prs H vs ps) (k : Keep (fun _ => False) H H') : Prs H' vs ps :=
  h.keep (S := fun _ => False) k fun _ _ _ _ z => z
theorem Prs.lst {H : Hp} {L : Addr} {ws : List V} (hL : H L = some (.lst ws)) : ∀ {vs : List V} {ps : List (Int × Int)}, Prs H vs ps → ∀ v ∈ vs, ∀ t, v = .ref t → t ≠ L
  | [], [], _, _, hv, _, _ => absurd hv List.not_mem_nil
  | _ :: _, _ :: _, ⟨⟨t', e', o'⟩, h⟩, v, hv, t, e => by
    rcases List.mem_cons.mp hv with hv | hv
    · subst hv
      rw [e'] at e
      have := V.ref.inj e
      subst this
      intro z
      rw [z, hL] at o'
      cases o'
    · exact h.lst hL v hv t e
theorem Prs.put {H : Hp} {L : Addr} {ws : List V} {o : HO} (hL : H L = some (.lst ws)) {vs : List V} {ps : List (Int × Int)} (h : Prs H vs ps) : Prs (upd H L o) vs ps :=
  h.keep (S := fun a => a = L) (Keep.at Keep.refl rfl) (h.lst hL)
theorem Prs.snoc {H : Hp} {vs : List V} {ps : List (Int × Int)} {t : Addr} {a b : Int} (h : Prs H vs ps) (e : H t = some (.tup [.int a, .int b])) : Prs H (vs ++ [.ref t]) (ps ++ [(a, b)]) :=
  h.app ⟨⟨t, rfl, e⟩, trivial⟩
end HS
/-! Exceptions of own classes as values: made, asked, read (own rules over HandS). -/
namespace HS
open PySem PySem.Spec PyProof.Rows L2
/-- the j-th row of a class's block -/
def inS (s : Stmt) (j : Nat) : Stmt := match s with
  | .ClassDef _ _ _ body _ _ _ _ _ _ _ => body.getD j (.Pass ⟨0, 0, 0, 0⟩)
  | s => s
/-- an own exception that stands in the heap, with its fields -/
def Exv (H : Hp) (a C : Addr) (fs : List (Str × V)) : Prop := ∃ d, H a = some (exo a C (some d)) ∧ H d = some (exd d fs)
def rIsV (K : PySem.W.Frag) : List V → Hp → VK → Prop := fun xs H Q => ∃ (a D : Addr) (fs : List (Str × V)) (c : V) (cv : Value) (b : Bool), xs = [.ref a, c] ∧ ExcC K D ∧ Exv H a D fs ∧ ClsV c cv ∧ PySem.W.kitOne K (.ref D) cv = some b ∧ Q (.bl b) H
theorem call_isV {X : Cx} : CallR X (.builtin "isinstance") (rIsV X.K) := by
  intro pins s σ H xs us Q I r hw
  obtain ⟨a, D, fs, c, cv, b, e0, T, ⟨d, ea, ed⟩, hcv, hb, q⟩ := hw
  subst e0
  match us, r with
  | [_, _], .cons rx (.cons rt .nil) =>
    cases rx
    have e1 := hcv.eq rt
    subst e1
    obtain ⟨t1, ho⟩ := exo_at I.hok ea
    obtain ⟨mA, hns, _⟩ := exd_at I.hok ed
    obtain ⟨od, hod, _⟩ := lookIn_ns hns
    obtain ⟨cd, hcd, _⟩ := PySem.W.any_some T.hd
    have here : PySem.W.InstAt s.heap a _ D (some od) := ⟨ho, rfl, rfl, hod⟩
    exact PySem.W.kia_one (PySem.W.kitx_exc (by rw [hcd]; rfl) T.hg T.hk T.hs T.ha T.hn T.ht T.hm) I.kIn here hb (fun z => nomatch z) fun tk => ⟨.bl b, H, I.kept (t' := tk) fun _ _ z => z, rfl, q⟩
/-- e.f of such an exception -/
def tFldV (K : PySem.W.Frag) (f : Str) (te : TE) : TE := fun σ H Q => te σ H fun x H1 => ∃ (a C : Addr) (fs : List (Str × V)) (v : V), x = .ref a ∧ XfC K C ∧ PySem.W.findIn K (.ref C) f = some none ∧ Exv H1 a C fs ∧ fs.lookup f = some v ∧ Q v H1
theorem pe_fldV {X : Cx} {e : Expr} {te : TE} {pos : Pos} {f : Str} (he : PE X e te) (hb : attributeBase e f X.env (eval e X.env) = eval e X.env := by rfl) : PE X (.Attribute e f pos) (tFldV X.K f te) := by
  refine ⟨fun pins s σ H Q I hw => attr_of hb (thn (he.run pins s σ H _ I hw) fun u s1 ⟨x, H1, I1, rx, a, C, fs, v, e0, T, hno, ⟨d, ea, ed⟩, l, q⟩ => ?_)⟩
  subst e0
  cases rx
  obtain ⟨t1, ho⟩ := exo_at I1.hok ea
  obtain ⟨mA, hns, hr⟩ := exd_at I1.hok ed
  obtain ⟨od, hod, hl⟩ := lookIn_ns hns
  obtain ⟨w, hw, rw'⟩ := RelO.some_of (v := v) (o := mA f) (by rw [← l]; exact hr f)
  have here : PySem.W.InstAt s1.heap a _ C (some od) := ⟨ho, rfl, rfl, hod⟩
  exact HandSPX.exc_get I1.kIn here T.ga T.gg T.exC (PySem.W.findObj_own T.hdC hno rfl (by rw [hl, hw])) (handed_of rw') ⟨v, H1, I1.tok _, rw', q⟩
/-- C(e, ..) as a value -/
def tNewV (C : Addr) (sp : Sp) (ta : TA) : TE := fun σ H Q => ta σ H fun vs H1 => vs.length ≤ 1000 ∧ ∀ a, H1 a = none → sp (.ref a :: vs) (upd H1 a (exo a C none)) (fun v H2 => v = .non ∧ Q (.ref a) H2) (fun _ _ _ => False)
section
variable {X : Cx} {CX : CXT} {x : Str} {C fI : Addr} {k : Nat} {fd : FuncData} {ps : List Str} {sp : Sp} {e : Expr} {es : List Expr} {ta : TA} {p pos : Pos}
theorem pe_newV (T : OexC X.K C) (iC : PySem.W.findIn X.K (.ref C) "__init__" = some (some (.ref fI))) (tI : PySem.W.typeIn X.K (.ref fI) = some (.type "function"))
    (F1 : FnOk X.prog X.w X.K X.mg X.base CX k fI fd ps sp) (hr : Room (k + 1) X.A) (hb : Binds X.K fd ps []) (hx : Passes CX X (fun _ _ _ => False)) (hg : Gl X x) (hm : X.mg x = some (.ref C)) (ha : PA X (e :: es) ta)
    (hdb : (x == ("__debug__" : Str)) = false := by decide) (he : starEach (e :: es) X.env = (false, eval e X.env) :: starEach es X.env := by rfl) (hpl : (backTo pos (starEach es X.env)).any (·.1) = false := by rfl) :
    PE X (.Call (.Name x p) (e :: es) [] pos) (tNewV C sp ta) := by
  refine ⟨fun pins s σ H Q I hw => wpAny_Call_Name_kw (ld_glob I hg hm ?_ hdb)⟩
  obtain ⟨nm, qn, N, bs, bm, sn, sub, ab, col, dd, k0, k1, k2, k3, k5, hC, hbm⟩ := T.cls
  refine PySem.W.callWith_K (h₀ := X.base) I.ok.mod.kin T.kC (thn (ha.run pos pins s σ H _ I hw) fun us s1 ⟨vs, H1, I1, r1, hz, q1⟩ => ⟨I1.kIn, ?_⟩) he hpl
  show wpAny _ _ (call (.ref C) us) _ _ _
  obtain ⟨hp, g, dr, tk, os⟩ := s1
  have le1 : hp.objs.size ≤ hp.objs.size + 1 := by omega
  have kept : ∀ b o, hp.get? b = some o → ((hp.push (PySem.W.kdv_tup us)).push (PySem.HandSPX.excO C hp.objs.size)).get? b = some o := fun _ _ z => Heap.get?_push_of_some _ (Heap.get?_push_of_some _ z)
  have at1 : ((hp.push (PySem.W.kdv_tup us)).push (PySem.HandSPX.excO C hp.objs.size)).get? (hp.objs.size + 1) = some (PySem.HandSPX.excO C hp.objs.size) := by heap_get
  have J : Inv X pins σ (upd H1 (hp.objs.size + 1) (exo (hp.objs.size + 1) C none)) ⟨(hp.push (PySem.W.kdv_tup us)).push (PySem.HandSPX.excO C hp.objs.size), g, dr, tk, os⟩ := I1.laid (t' := tk) kept le1 (exo_ok at1)
  have q2 := q1 (hp.objs.size + 1) (I1.hok.fresh le1)
  have r2 : Vals (V.ref (hp.objs.size + 1) :: vs) (Value.ref (hp.objs.size + 1) :: us) := .cons rfl r1
  have len2 : (Value.ref (hp.objs.size + 1) :: us).length = ps.length := r2.length.symm.trans (F1.len _ _ _ _ q2)
  have small : us.length ≤ sizeLine := by have := Paired.length r1; rw [sizeLine_eq]; omega
  have bnd := hb _ (Value.ref (hp.objs.size + 1) :: us) J.kIn (by simpa using len2)
  refine wpAny_call (PySem.HandSPX.call_own F.excBase_ValueError (fun Y => PySem.HandSPX.refsVE_contains Y bm hbm) (I1.kIn _ _ hC) (PySem.W.looks_findIn I1.kIn iC) (fun self => PySem.W.bind_fn I1.kIn self tI) small
    (codeAny_mono (F1.run _ X.stack _ _ ⟨Value.ref (hp.objs.size + 1) :: us, []⟩ _ _ _ _ (hr.make C us []) (J.env0.make C us []) bnd (by simpa using r2) q2) fun r s' back => ?_))
  match r, back with
  | .error er, back => exact hx pins σ _ _ er s' J back
  | .ok (.ret u), back =>
    obtain ⟨v, H', J', rv, ev, q3⟩ := J.after back
    subst ev
    exact ⟨rv, ⟨V.ref (hp.objs.size + 1), H', J', rfl, q3⟩⟩
end
section
variable {σ : L2.St} {H : Hp} {Q : VK} {te to : TE} {ta : TA} {K : PySem.W.Frag} {n bk ct : L2.St → Hp → Prop} {rt : VK} {f : Str} {C : Addr} {sp : Sp}
theorem ost (h : te σ H fun y H1 => to σ H1 fun x H2 => ∃ a C : Addr, x = .ref a ∧ OexC K C ∧ PySem.W.findIn K (.ref C) f = some none ∧
  ((H2 a = some (exo a C none) ∧ ∀ dx, H2 dx = none → dx ≠ a → n σ (upd (upd H2 dx (exd dx [(f, y)])) a (exo a C (some dx)))) ∨
    ∃ (dx : Addr) (fs : List (Str × V)), H2 a = some (exo a C (some dx)) ∧ H2 dx = some (exd dx fs) ∧ fs.length ≤ 900 ∧ n σ (upd H2 dx (exd dx ((f, y) :: fs))))) : tOst K f to te ⟨n, rt, bk, ct⟩ σ H := h
theorem fldV (h : te σ H fun x H1 => ∃ (a C : Addr) (fs : List (Str × V)) (v : V), x = .ref a ∧ XfC K C ∧ PySem.W.findIn K (.ref C) f = some none ∧ Exv H1 a C fs ∧ fs.lookup f = some v ∧ Q v H1) : tFldV K f te σ H Q := h
theorem newV (h : ta σ H fun vs H1 => vs.length ≤ 1000 ∧ ∀ a, H1 a = none → sp (.ref a :: vs) (upd H1 a (exo a C none)) (fun v H2 => v = .non ∧ Q (.ref a) H2) (fun _ _ _ => False)) : tNewV C sp ta σ H Q := h
end
end HS
namespace HS
open PySem PySem.Spec PyProof.Rows L2
/-- the refs of vs are tuples of these two values -/
def PrV (H : Hp) : List V → List (V × V) → Prop
  | [], [] => True
  | v :: vs, p :: ps => (∃ t, v = .ref t ∧ H t = some (.tup [p.1, p.2])) ∧ PrV H vs ps
  | _, _ => False
theorem PrV.keep {S : Addr → Prop} {H H' : Hp} (k : Keep S H H') : ∀ {vs : List V} {ps : List (V × V)}, PrV H vs ps → (∀ v ∈ vs, ∀ t, v = .ref t → ¬ S t) → PrV H' vs ps
  | [], [], h, _ => h
  | _ :: _, _ :: _, ⟨⟨t, e, o⟩, h⟩, n => ⟨⟨t, e, k t _ o (n _ List.mem_cons_self t e)⟩, h.keep k fun v hv => n v (List.mem_cons_of_mem _ hv)⟩
theorem PrV.same {H H' : Hp} {vs : List V} {ps : List (V × V)} (h : PrV H vs ps) (k : Keep (fun _ => False) H H') : PrV H' vs ps :=
  h.keep k fun _ _ _ _ z => z
theorem PrV.len {H : Hp} : ∀ {vs : List V} {ps : List (V × V)}, PrV H vs ps → vs.length = ps.length
  | [], [], _ => rfl
  | _ :: _, _ :: _, ⟨_, h⟩ => by rw [List.length_cons, List.length_cons, h.len]
theorem PrV.at {H : Hp} : ∀ {vs : List V} {ps : List (V × V)} {i : Nat} {v : V}, PrV H vs ps → vs[i]? = some v → ∃ t p, v = .ref t ∧ ps[i]? = some p ∧ H t = some (.tup [p.1, p.2])
  | [], [], i, _, _, e => by cases i <;> cases e
  | x :: _, p :: _, 0, v, ⟨⟨t, e', o⟩, _⟩, e => ⟨t, p, by rw [← Option.some.inj e]; exact e', rfl, o⟩
  | _ :: vs, _ :: ps, i + 1, v, ⟨_, h⟩, e => h.at (i := i) (by rw [List.getElem?_cons_succ] at e; exact e)
end HS
namespace HS
open PySem PySem.Spec PyProof.Rows L2
theorem kisV {X : Cx} (K : PySem.W.Frag) (h : X.K = K := by rfl) : CallR X (.builtin "isinstance") (rIsV K) := h ▸ call_isV
theorem kisi {X : Cx} (K : PySem.W.Frag) (h : X.K = K := by rfl) : CallR X (.builtin "isinstance") (rIsi K) := h ▸ call_isi
section
variable {K : PySem.W.Frag} {H H' : Hp} {Q : VK} {a D C p : Addr} {fs : List (Str × V)} {b : Bool} {o : HO}
theorem Exv.same (h : Exv H a C fs) (k : Keep (fun _ => False) H H') : Exv H' a C fs := by
  obtain ⟨d, e1, e2⟩ := h
  exact ⟨d, k _ _ e1 id, k _ _ e2 id⟩
theorem Exv.new (h : Exv H a C fs) (hp : H p = none) : Exv (upd H p o) a C fs := h.same (Keep.new hp)
theorem isV (T : ExcC K D) (he : Exv H a D fs) (hq : PySem.W.kitOne K (.ref D) (.ref C) = some b) (q : Q (.bl b) H) : rIsV K [.ref a, .ref C] H Q := ⟨a, D, fs, _, _, b, rfl, T, he, .own C, hq, q⟩
theorem isVt {n : String} (T : ExcC K D) (he : Exv H a D fs) (hq : PySem.W.kitOne K (.ref D) (.type n) = some b) (q : Q (.bl b) H) : rIsV K [.ref a, .ty n] H Q := ⟨a, D, fs, _, _, b, rfl, T, he, .ty n, hq, q⟩
end
end HS
namespace HS
open PySem PySem.Spec PyProof.Rows L2
theorem PrV.app {H : Hp} : ∀ {vs ws : List V} {ps qs : List (V × V)}, PrV H vs ps → PrV H ws qs → PrV H (vs ++ ws) (ps ++ qs)
  | [], _, [], _, _, g => g
  | _ :: _, _, _ :: _, _, ⟨a, h⟩, g => ⟨a, h.app g⟩
theorem PrV.new {H : Hp} {p : Addr} {o : HO} {vs : List V} {ps : List (V × V)} (h : PrV H vs ps) (hp : H p = none) : PrV (upd H p o) vs ps := h.same (Keep.new hp)
section
variable {H : Hp} {t0 t1 l : Addr} {x0 y0 x1 y1 : V}
theorem pair2 (h0 : H t0 = none) (h1 : upd H t0 (.tup [x0, y0]) t1 = none) (h2 : upd (upd H t0 (.tup [x0, y0])) t1 (.tup [x1, y1]) l = none) :
    ∃ H1, upd (upd (upd H t0 (.tup [x0, y0])) t1 (.tup [x1, y1])) l (.lst [.ref t0, .ref t1]) = H1 ∧ Keep (fun _ => False) H H1 ∧ PrV H1 [.ref t0, .ref t1] [(x0, y0), (x1, y1)] ∧ H1 l = some (.lst [.ref t0, .ref t1]) := by
  have n1 : t0 ≠ t1 := ne_of_none upd_same h1
  have e0 : upd (upd H t0 (.tup [x0, y0])) t1 (.tup [x1, y1]) t0 = some (.tup [x0, y0]) := by rw [upd_ne n1]; exact upd_same
  have e1 : upd (upd H t0 (.tup [x0, y0])) t1 (.tup [x1, y1]) t1 = some (.tup [x1, y1]) := upd_same
  refine ⟨_, rfl, (Keep.new h0).trans ((Keep.new h1).trans (Keep.new h2)), ⟨⟨t0, rfl, ?_⟩, ⟨t1, rfl, ?_⟩, trivial⟩, upd_same⟩
  · rw [upd_ne (ne_of_none e0 h2)]; exact e0
  · rw [upd_ne (ne_of_none e1 h2)]; exact e1
theorem pair1 (h0 : H t0 = none) (h2 : upd H t0 (.tup [x0, y0]) l = none) :
    ∃ H1, upd (upd H t0 (.tup [x0, y0])) l (.lst [.ref t0]) = H1 ∧ Keep (fun _ => False) H H1 ∧ PrV H1 [.ref t0] [(x0, y0)] ∧ H1 l = some (.lst [.ref t0]) := by
  refine ⟨_, rfl, (Keep.new h0).trans (Keep.new h2), ⟨⟨t0, rfl, ?_⟩, trivial⟩, upd_same⟩
  rw [upd_ne (ne_of_none upd_same h2)]; exact upd_same
end
end HS
namespace HS
open PySem PySem.Spec PyProof.Rows L2
theorem Keep.over {H H' : Hp} {a : Addr} {o : HO} (k : Keep (fun x => x = a) (upd H a o) H') (h : H a = none) : Keep (fun _ => False) H H' := fun p u e _ => by
  have n := ne_of_none e h
  exact k p u (by rw [upd_ne n]; exact e) n
end HS
namespace HS
open PySem PySem.Spec PyProof.Rows L2
/-- the same by the law's own look: leaves, lists and tuples of such -/
inductive SmV (K : PySem.W.Frag) (H : Hp) : Nat → V → V → Prop
  | non {n : Nat} : SmV K H n .non .non
  | bl {n : Nat} (b : Bool) : SmV K H n (.bl b) (.bl b)
  | int {n : Nat} (i : Int) : SmV K H n (.int i) (.int i)
  | str {n : Nat} (x : Str) : SmV K H n (.str x) (.str x)
  | lst {n : Nat} {a b : Addr} {xs ys : List V} : H a = some (.lst xs) → H b = some (.lst ys) → xs.length = ys.length → xs.length ≤ 1000 → (∀ (i : Nat) (x y : V), xs[i]? = some x → ys[i]? = some y → SmV K H n x y) → SmV K H (n + 1) (.ref a) (.ref b)
  | tup {n : Nat} {a b : Addr} {xs ys : List V} : H a = some (.tup xs) → H b = some (.tup ys) → xs.length = ys.length → xs.length ≤ 1000 → (∀ (i : Nat) (x y : V), xs[i]? = some x → ys[i]? = some y → SmV K H n x y) → SmV K H (n + 1) (.ref a) (.ref b)
theorem SmV.same {K : PySem.W.Frag} {H H' : Hp} (k : Keep (fun _ => False) H H') : ∀ {n : Nat} {x y : V}, SmV K H n x y → SmV K H' n x y
  | _, _, _, .non => .non
  | _, _, _, .bl b => .bl b
  | _, _, _, .int i => .int i
  | _, _, _, .str x => .str x
  | _, _, _, .lst h1 h2 h3 h4 h => .lst (k _ _ h1 id) (k _ _ h2 id) h3 h4 fun i x y e1 e2 => (h i x y e1 e2).same k
  | _, _, _, .tup h1 h2 h3 h4 h => .tup (k _ _ h1 id) (k _ _ h2 id) h3 h4 fun i x y e1 e2 => (h i x y e1 e2).same k
/-- x[i] of a list or a tuple -/
def rIxA (K : PySem.W.Frag) : R2 := fun x y H Q => rIxL K x y H Q ∨ rIxT K x y H Q
theorem ixa {X : Cx} (K : PySem.W.Frag) (h : X.K = K := by rfl) : IxR X (rIxA K) := fun value slice pins s σ H x y v u Q I rx ry r =>
  r.elim (fun r => ixl K h value slice pins s σ H x y v u Q I rx ry r) fun r => ixt K h value slice pins s σ H x y v u Q I rx ry r
section
variable {K : PySem.W.Frag} {H : Hp} {Q : VK}
theorem isi {x : V} {m n : String} (b : Bool) (ty : TyX K H x (.type m)) (hq : kitB m n = some b) (q : Q (.bl b) H) : rIsi K [x, .ty n] H Q := ⟨x, _, _, _, b, rfl, .ty n, ty, kit_ty hq, q⟩
theorem isN {x : V} (q : Q (.bl (decide (x = .non))) H) : (fun x y H Q => y = V.non ∧ Q (.bl (decide (x = .non))) H : R2) x .non H Q := ⟨rfl, q⟩
theorem eqS {x y : V} (hs : scal x y = true) (e : x = y) (q : Q (.bl true) H) : rEq x y H Q := ⟨hs, by rw [decide_eq_true e]; exact q⟩
theorem neB {b c : Bool} (q : Q (.bl (!decide (b = c))) H) : rNe (.bl b) (.bl c) H Q := ⟨rfl, by
  have e : decide (V.bl b = V.bl c) = decide (b = c) := by cases b <;> cases c <;> rfl
  rw [e]; exact q⟩
theorem kb_bb : kitB "bool" "bool" = some true := by decide +kernel
theorem kb_ib : kitB "int" "bool" = some false := by decide +kernel
theorem kb_ii : kitB "int" "int" = some true := by decide +kernel
theorem kb_sb : kitB "str" "bool" = some false := by decide +kernel
theorem kb_si : kitB "str" "int" = some false := by decide +kernel
theorem kb_ss : kitB "str" "str" = some true := by decide +kernel
theorem kb_lb : kitB "list" "bool" = some false := by decide +kernel
theorem kb_li : kitB "list" "int" = some false := by decide +kernel
theorem kb_ls : kitB "list" "str" = some false := by decide +kernel
theorem kb_ll : kitB "list" "list" = some true := by decide +kernel
theorem kb_lt : kitB "list" "tuple" = some false := by decide +kernel
theorem kb_tb : kitB "tuple" "bool" = some false := by decide +kernel
theorem kb_ti : kitB "tuple" "int" = some false := by decide +kernel
theorem kb_ts : kitB "tuple" "str" = some false := by decide +kernel
theorem kb_tl : kitB "tuple" "list" = some false := by decide +kernel
theorem kb_tt : kitB "tuple" "tuple" = some true := by decide +kernel
end
end HS
/-! An own exception class called with keywords. -/
namespace PySem
namespace HSK
open HandSPX Builtin Builtin.ObjectAttr
section
variable {prog : Program} {w : World} {A : Around} {E : Value → Shared → Prop} {R : Result → Shared → Prop} {h : Heap} {g : Array GenState} {d : Drawn} {t : Nat} {os : OsState} {kw : List (Str × Value)} {fI : Addr}
variable {nm q : Str} {C N : Addr} {bs bm bmB : List Value} {hdct : Bool} {sn : List Str} {sub : List Value} {ab : Bool} {col : Option Bool} {dd : Option Addr} {k0 k1 k2 k3 k5 : Option Value} {B newId initId : String}
theorem kw_check_new {M : Model} (F : ExcBaseFacts B newId initId bmB) (hT : ∀ X : String, bm.contains (.type X) = bmB.contains (.type X)) {Q : Unit → Shared → Prop} (hC : h.get? C = some (excClassObj nm q C N bs bm hdct sn sub ab col dd k0 k1 k2 k3 k5 newId)) (z : Q () ⟨h, g, d, t, os⟩) :
    wpAny M A (checkBuiltinCall newId ⟨[.ref C], kw⟩) Q E ⟨h, g, d, t, os⟩ := by
  have inB : (Value.ref C :: bm).contains (.type B) = true := by rw [List.contains_cons, hT, F.hasB, Bool.or_true]
  have star := F.noStar
  simp only [checkBuiltinCall, F.newKind, F.newSplit, F.newRow]
  repeat (first | refine wpAny_loadPart_at hC ?_ | (refine wpAny_isSubtype_exc hC ?_; rw [inB]) | refine wpAny_staticBase_exc hC ?_ | refine wpAny_madeBy_exc hC ?_ | simp only [bne_self_eq_false, Bool.false_eq_true, if_false] | wp_step)
  exact z
theorem kw_new (F : ExcBaseFacts B newId initId bmB) (hT : ∀ X : String, bm.contains (.type X) = bmB.contains (.type X)) (hC : h.get? C = some (excClassObj nm q C N bs bm hdct sn sub ab col dd k0 k1 k2 k3 k5 newId))
    (z : R (.ok (.ret (.ref (h.objs.size + 1)))) ⟨(h.push (W.kdv_tup [])).push (excO C h.objs.size), g, d, t, os⟩) : codeAny (model prog w) A (.builtin newId ⟨[.ref C], kw⟩) R ⟨h, g, d, t, os⟩ := by
  have ends := F.ends
  have inB : (Value.ref C :: bm).contains (.type B) = true := by rw [List.contains_cons, hT, F.hasB, Bool.or_true]
  have noA : (Value.ref C :: bm).contains (.type "AttributeError") = false := by rw [List.contains_cons, hT, F.noAttr]; rfl
  have noN : (Value.ref C :: bm).contains (.type "NameError") = false := by rw [List.contains_cons, hT, F.noName]; rfl
  have tiny : ([] : List Value).length ≤ sizeLine := Nat.zero_le _
  refine codeAny_builtinAt F.entry ?_
  unfold Builtin.«BaseException.__new__»
  refine wpAt_bind ?_
  show wpAt _ _ _ (stack >>= _) _ _ _
  refine wpAt_bind (wpAt_stack fun p below => wpAt_of_wpAny ?_)
  wp_walk
  refine wpAt_of_wpAny ?_
  rw [F.owner]
  repeat (first | with_reducible refine wpAny_madeHere_exc F.canon hC ?_ | with_reducible refine wpAny_loadPart_at hC ?_ | (with_reducible refine wpAny_isSubtype_exc hC ?_; first | rw [inB] | rw [noA] | rw [noN]) | wp_step)
  show R _ _
  rw [Heap.size_push]
  exact z
theorem kw_type_call (F : ExcBaseFacts B newId initId bmB) (hT : ∀ X : String, bm.contains (.type X) = bmB.contains (.type X)) {Q : Fin → Shared → Prop} (hC : h.get? C = some (excClassObj nm q C N bs bm hdct sn sub ab col dd k0 k1 k2 k3 k5 newId))
    (li : W.Looks (model prog w) h (typeLookup (.ref C) "__init__") (some (.ref fI))) (lb : ∀ self, W.Looks (model prog w) h (bindSpecial (.ref fI) self) (.ref fI, [self]))
    (run : codeAny (model prog w) A (.call (.ref fI) ⟨[.ref (h.objs.size + 1)], kw⟩) (fun r s' => match r with | .ok (.ret v) => v = .none ∧ Q (.done (.ret (.ref (h.objs.size + 1)))) s' | .ok _ => False | .error e => E e s')
      ⟨(h.push (W.kdv_tup [])).push (excO C h.objs.size), g, d, t, os⟩) : wpAny (model prog w) A (Builtin.«type.__call__» ⟨[.ref C], kw⟩) Q E ⟨h, g, d, t, os⟩ := by
  repeat (first | with_reducible refine wpAny_loadPart_at hC ?_ | with_reducible refine wpAny_madeBy_exc hC ?_ | wp_step)
  refine codeAny_call_builtin_code (Code.quiet_builtin _ F.quiet) (kw_check_new F hT hC (kw_new F hT hC ?_))
  have up : ∀ b o, h.get? b = some o → ((h.push (W.kdv_tup [])).push (excO C h.objs.size)).get? b = some o := fun _ _ y => Heap.get?_push_of_some _ (Heap.get?_push_of_some _ y)
  have hC2 := up _ _ hC
  have hE : ((h.push (W.kdv_tup [])).push (excO C h.objs.size)).get? (h.objs.size + 1) = some (excO C h.objs.size) := by heap_get
  have isC : (Value.ref C :: bm).contains (.ref C) = true := by simp
  have li2 := li.keeps up
  have lb2 := (lb (.ref (h.objs.size + 1))).keeps up
  show wpAny _ _ _ _ _ _
  unfold isInstance
  repeat (first | with_reducible refine wpAny_loadPart_at hE ?_ | (with_reducible refine wpAny_isSubtype_exc hC2 ?_; rw [isC]) | wp_step)
  show wpAny _ _ (typeLookup (.ref C) _) _ _ _
  refine li2.at (wpAny_holding (wpAny_bind (lb2.at (wpAny_bind (wpAny_call (codeAny_mono run fun r s' y => ?_))))))
  rcases r with e | (v | _ | _ | _) <;> first | exact y | exact y.elim | skip
  obtain ⟨y0, y⟩ := y
  subst y0
  first
    | exact wpAny_pure (wpAny_pure y)
    | (wp_walk; exact y)
theorem kw_call (F : ExcBaseFacts B newId initId bmB) (hT : ∀ X : String, bm.contains (.type X) = bmB.contains (.type X)) (hC : h.get? C = some (excClassObj nm q C N bs bm hdct sn sub ab col dd k0 k1 k2 k3 k5 newId))
    (li : W.Looks (model prog w) h (typeLookup (.ref C) "__init__") (some (.ref fI))) (lb : ∀ self, W.Looks (model prog w) h (bindSpecial (.ref fI) self) (.ref fI, [self]))
    (run : codeAny (model prog w) (A.under (.builtin "type.__call__" ⟨[.ref C], kw⟩)) (.call (.ref fI) ⟨[.ref (h.objs.size + 1)], kw⟩) (W.InitBack (h.objs.size + 1) R) ⟨(h.push (W.kdv_tup [])).push (excO C h.objs.size), g, d, t, os⟩) :
    codeAny (model prog w) A (.call (.ref C) ⟨[], kw⟩) R ⟨h, g, d, t, os⟩ := by
  have c1 := tc_lookup
  have c2 := tc_bind (.ref C)
  have ty : (⟨h, g, d, t, os⟩ : Shared).TypeIs (.ref C) "type" := ⟨_, hC, rfl⟩
  refine codeAny_of_tree ?_
  show wpAny _ _ (callAny (.ref C) _) _ _ _
  repeat (any_goals (first | assumption | with_reducible refine wpAny_loadPart_at hC ?_ | wp_step))
  refine ⟨rfl, codeAny_call_builtin_at (Code.quiet_builtin _ (by decide +kernel)) entry_typeCall (wpAny_check_type_call_sub hC (kw_type_call F hT hC li lb ?_))⟩
  refine codeAny_mono run fun r s' y => ?_
  rcases r with e | (v | _ | _ | _) <;> exact y
end
end HSK
end PySem
namespace HS
open PySem PySem.Spec PyProof.Rows L2
/-- C(k = v) as a value -/
def tNewK (C : Addr) (n : Nat) (sp : Sp) (gV : List V → List V → List V) (tk : TA) : TE := fun σ H Q => tk σ H fun zs H1 => zs.length = n ∧ ∀ a, H1 a = none → sp (gV [.ref a] zs) (upd H1 a (exo a C none)) (fun v H2 => v = .non ∧ Q (.ref a) H2) (fun _ _ _ => False)
section
variable {X : Cx} {CX : CXT} {x : Str} {C fI : Addr} {k : Nat} {fd : FuncData} {ps ks : List Str} {sp : Sp} {kws : List Keyword} {tk : TA} {p pos : Pos} {g : List Value → List Value → List Value} {gV : List V → List V → List V}
theorem pe_newK (T : OexC X.K C) (iC : PySem.W.findIn X.K (.ref C) "__init__" = some (some (.ref fI))) (tI : PySem.W.typeIn X.K (.ref fI) = some (.type "function"))
    (F1 : FnOk X.prog X.w X.K X.mg X.base CX k fI fd ps sp) (hr : Room (k + 1) X.A) (hb : KBn X.K fd ps 1 ks g gV) (hx : Passes CX X (fun _ _ _ => False)) (hg : Gl X x) (hm : X.mg x = some (.ref C)) (hkw : PK X kws tk)
    (hall : (backToKw pos (keywordEach kws X.env)).all (·.1.isSome) = true := by rfl) (hks : (backToKw pos (keywordEach kws X.env)).filterMap (·.1) = ks := by rfl) (hdb : (x == ("__debug__" : Str)) = false := by decide)
    (hpl : ((backTo pos (starEach [] X.env)).any (·.1) || (backToKw pos (keywordEach kws X.env)).any (·.1.isNone)) = false := by rfl) : PE X (.Call (.Name x p) [] kws pos) (tNewK C ks.length sp gV tk) := by
  refine ⟨fun pins s σ H Q I hw => wpAny_Call_Name_kw (ld_glob I hg hm (PySem.W.callWith_KW0 (h₀ := X.base) I.ok.mod.kin T.kC hall (thn (hkw.run pos pins s σ H _ I hw) fun ws s1 ⟨zs, H1, I1, rz, lz, q1⟩ => ⟨I1.kIn, ?_⟩) hpl) hdb)⟩
  obtain ⟨nm, qn, N, bs, bm, sn, sub, ab, col, dd, k0, k1, k2, k3, k5, hC, hbm⟩ := T.cls
  rw [hks]
  obtain ⟨hp, g0, dr, t, os⟩ := s1
  have le1 : hp.objs.size ≤ hp.objs.size + 1 := by omega
  have kept : ∀ b o, hp.get? b = some o → ((hp.push (PySem.W.kdv_tup [])).push (PySem.HandSPX.excO C hp.objs.size)).get? b = some o := fun _ _ z => Heap.get?_push_of_some _ (Heap.get?_push_of_some _ z)
  have at1 : ((hp.push (PySem.W.kdv_tup [])).push (PySem.HandSPX.excO C hp.objs.size)).get? (hp.objs.size + 1) = some (PySem.HandSPX.excO C hp.objs.size) := by heap_get
  have J : Inv X pins σ (upd H1 (hp.objs.size + 1) (exo (hp.objs.size + 1) C none)) ⟨(hp.push (PySem.W.kdv_tup [])).push (PySem.HandSPX.excO C hp.objs.size), g0, dr, t, os⟩ := I1.laid (t' := t) kept le1 (exo_ok at1)
  have q2 := q1 (hp.objs.size + 1) (I1.hok.fresh le1)
  have r1 : Vals [V.ref (hp.objs.size + 1)] [Value.ref (hp.objs.size + 1)] := .cons rfl .nil
  have bnd := hb.to _ [Value.ref (hp.objs.size + 1)] ws J.kIn rfl (rz.length.symm.trans lz)
  refine wpAny_call (PySem.HSK.kw_call F.excBase_ValueError (fun Y => PySem.HandSPX.refsVE_contains Y bm hbm) (I1.kIn _ _ hC) (PySem.W.looks_findIn I1.kIn iC) (fun self => PySem.W.bind_fn I1.kIn self tI)
    (codeAny_mono (F1.run _ X.stack _ _ ⟨[Value.ref (hp.objs.size + 1)], ks.zip ws⟩ _ _ _ _ (hr.make C [] (ks.zip ws)) (J.env0.make C [] (ks.zip ws)) bnd (hb.rel r1 rz) q2) fun r s' back => ?_))
  match r, back with
  | .error er, back => exact hx pins σ _ _ er s' J back
  | .ok (.ret u), back =>
    obtain ⟨v, H', J', rv, ev, q3⟩ := J.after back
    subst ev
    exact ⟨rv, ⟨V.ref (hp.objs.size + 1), H', J', rfl, q3⟩⟩
end
section
variable {σ : L2.St} {H : Hp} {Q : VK} {C : Addr} {sp : Sp} {m : Nat} {gV : List V → List V → List V} {tk : TA}
theorem newK (h : tk σ H fun zs H1 => zs.length = m ∧ ∀ a, H1 a = none → sp (gV [.ref a] zs) (upd H1 a (exo a C none)) (fun v H2 => v = .non ∧ Q (.ref a) H2) (fun _ _ _ => False)) : tNewK C m sp gV tk σ H Q := h
end
end HS
namespace HS
open PySem PySem.Spec PyProof.Rows L2
/-! ### own exceptions that are raised and caught -/
section
variable {C a : Addr} {sp : Sp} {dvs : List V} {ta : TA} {te : TE} {σ : L2.St} {H H1 H2 : Hp} {R : XK} {Q : VK} {d : Addr} {u o : HO}
theorem mkO (h : ta σ H fun vs H1 => vs.length ≤ 1000 ∧ ∀ a, H1 a = none → sp (.ref a :: (vs ++ dvs)) (upd H1 a (exo a C none))
    (fun v H2 => v = .non ∧ ∃ (d : Addr) (fs : List (Str × V)), H2 a = some (exo a C (some d)) ∧ H2 d = some (exd d fs) ∧ H1 d = none ∧ R (.ref C) (some d) (upd (del H2 a) d (.xd fs))) (fun _ _ _ => False)) : tMkO C sp dvs ta σ H R := h
theorem callS {E : L2.St → XK} (h : ta σ H fun vs H1 => sp vs H1 Q (E σ)) : tCallS sp E ta σ H Q := h
theorem xf {cls : Value} {dx : Option Addr} {f : Str} (h : te σ H fun x H1 => x = .ref a ∧ cls = .ref C ∧ ∃ (dd : Addr) (fs : List (Str × V)) (v : V), dx = some dd ∧ H1 dd = some (.xd fs) ∧ fs.lookup f = some v ∧ Q v H1) : tXf a cls dx C f te σ H Q := h
/-- what stood ahead of the new exception a stands, and its dict at d besides -/
theorem Keep.exc (k : Keep (fun x => x = a) (upd H a o) H2) (ha : H a = none) (hd : H d = none) : Keep (fun _ => False) H (upd (del H2 a) d u) := fun b q e _ => by
  have hba : b ≠ a := ne_of_none e ha
  rw [upd_ne (ne_of_none e hd)]
  show (if b = a then none else H2 b) = some q
  rw [if_neg hba]
  exact k b q (by rw [upd_ne hba]; exact e) hba
/-- one value, put into a new exception whose maker holds the usual promise -/
theorem mk1 {K : PySem.W.Frag} {w : V}
    (hsp : ∀ (H' : Hp) (Q' : VK) (E' : XK) (b : Addr), OexC K C → PySem.W.findIn K (.ref C) "value" = some none → H' b = some (exo b C none) →
      (∀ H3 d, HS.Keep (fun x => x = b) H' H3 → H' d = none → d ≠ b → H3 b = some (exo b C (some d)) → H3 d = some (exd d [("value", w)]) → Q' .non H3) → sp [.ref b, w] H' Q' E')
    (T1 : OexC K C) (hv : PySem.W.findIn K (.ref C) "value" = some none)
    (h : ∀ H' d, Keep (fun _ => False) H H' → H d = none → H' d = some (.xd [("value", w)]) → R (.ref C) (some d) H') :
    [w].length ≤ 1000 ∧ ∀ a, H a = none → sp (.ref a :: ([w] ++ [])) (upd H a (exo a C none))
      (fun v H2 => v = .non ∧ ∃ (d : Addr) (fs : List (Str × V)), H2 a = some (exo a C (some d)) ∧ H2 d = some (exd d fs) ∧ H d = none ∧ R (.ref C) (some d) (upd (del H2 a) d (.xd fs))) (fun _ _ _ => False) :=
  ⟨show 1 ≤ 1000 by decide, fun a ha => hsp _ _ _ a T1 hv upd_same fun H3 d k hd hne e1 e2 =>
    have hd' : H d = none := by rw [upd_ne hne] at hd; exact hd
    ⟨rfl, d, _, e1, e2, hd', h _ d (k.exc ha hd') hd' upd_same⟩⟩
end
end HS
/-! Defs that are called while nothing is being shown (no repr stands on the stack), so that they may call repr of a list. -/
namespace HS
open PySem PySem.Spec PyProof.Rows L2
/-- a def's promise where no repr is under way -/
structure FnG (Pg : Program) (wd : World) (K : PySem.W.Frag) (mg : Str → Option Value) (base : Heap) (C : CXT) (n : Nat) (f : Addr) (fd : FuncData) (ps : List Str) (sp : Sp) : Prop where
  len : ∀ vs H Q E, sp vs H Q E → vs.length = ps.length
  go : ∀ (B : Around) (o : List Env) (s : Shared) (H : Hp) (ar : Args) (us : List Value) (vs : List V) (Q : VK) (E : XK), B.guards = some [] → Room n B → Env0 Pg wd K mg base B o s H →
    BindsTo s fd ar (ps.zip us) → Vals vs us → sp vs H Q E → codeAny (model Pg wd) B (.call (.ref f) ar) (CR C o Pg wd H s Q E) s
section
variable {Pg : Program} {wd : World} {K : PySem.W.Frag} {mg : Str → Option Value} {base : Heap} {C : CXT} {n : Nat} {f : Addr} {fd : FuncData} {ps : List Str} {sp : Sp}
/-- a finished body's end is the call's end -/
theorem g_end {N : List Str} {q : Str} {sc : Scope} {cd : Value} {B : Around} {o : List Env} {s : Shared} {H : Hp} {E : XK} {Q : VK} {x : Cx} (hx : x = cxOf C Pg wd K mg base N q sc f cd B o s H E) (fl : Flow) {s' : Shared} :
    SP x [] { nx := fun _ H' => Q .non H', rt := Q } fl s' → CR C o Pg wd H s Q E (.ok (.ret (match fl with | .ret v => v | _ => .none))) s' := by
  subst hx
  intro h
  cases fl
  case ret u => obtain ⟨v, st, H', J, rv, y⟩ := h; exact ⟨v, H', J.os, J.bare, J.base, J.hok, rv, y⟩
  case next => obtain ⟨st, H', J, y⟩ := h; exact ⟨.non, H', J.os, J.bare, J.base, J.hok, rfl, y⟩
  all_goals exact h.elim fun _ z => z.elim fun _ z => z.2.elim
theorem Fun.okG {x qn : Str} {st : Stmt} {N : List Str} (F : L2.Fun K x qn st f fd) (S : FnScope N ps (defScope st)) (len : ∀ vs H Q E, sp vs H Q E → vs.length = ps.length)
    (hb : ∀ (cd : Value) (B : Around) (o : List Env) (s : Shared) (H : Hp) (vs : List V) (Q : VK) (E : XK), B.guards = some [] → Room n (B.deeper (envOfC qn (defScope st) s.heap.objs.size f cd)) → sp vs H Q E →
      ∃ t, PSs (cxOf L2.CX0 Pg wd K mg base N qn (defScope st) f cd B o s H E).nox (defBody st) t ∧ t { nx := fun _ H' => Q .non H', rt := Q } (start N vs) H) : FnG Pg wd K mg base L2.CX0 (n + 1) f fd ps sp := by
  obtain ⟨_, _, _, _, _, _, cd, _, _, rfl, lk, hcd⟩ := F.ex
  refine ⟨len, fun B o s H ar us vs Q E hg hr e0 bd rv hs => ?_⟩
  have kin : K.In s.heap := e0.mod.kin.keeps fun b u e => (e0.bs b u e).1
  have kinds : ∀ y ∈ ps.zip us, (defScope st).names.lookup y.1 = some .local ∨ ((defScope st).names.lookup y.1 = some .cell ∧ ((cellsFrom (s.heap.objs.size + 1) (defScope st).names []).lookup y.1).isSome = true) := by
    rintro ⟨z, v⟩ hy
    exact (S.par z (List.of_mem_zip hy).1).elim .inl fun c => .inr ⟨c, PySem.W.cellsFrom_some _ _ _ (.inl c)⟩
  refine codeAny_call_function hr.depth (kin _ _ lk) rfl S.co S.gen rfl (PySem.W.codeRec_of kin hcd) (bd _ _ _ _ (wpAny_newFunctionEnv_cells S.kind kinds fun _ he s1 made => ?_))
  subst he
  obtain ⟨t, ht, hq⟩ := hb cd B o s H vs Q E hg (hr.deeper _) hs
  have start0 := inv_start (CX := L2.CX0) (E := E) (qual := qn) (cd := cd) (f := f) S hr.hd e0 (len _ _ _ _ hs) rv made
  exact ⟨(e0.mod.nolimit.keeps fun b u e => (e0.bs b u e).1).keeps made.toInCall.keep, codeAny_func (wpAny_mono (ht.nox.run [] s1 _ H _ start0 hq) (fun fl s' => g_end rfl fl) fun _ _ h => h)⟩
end
/-! ### calls -/
/-- the call of a def, whichever way its arguments come -/
theorem after_call {X : Cx} {C : CXT} {E : XK} {pins : List (Addr × Obj)} {σ : L2.St} {H : Hp} {s : Shared} {Q : VK} {f : Addr} {us : List Value} {kw : List (Str × Value)} (hx : Passes C X E) (I : Inv X pins σ H s)
    (h : codeAny (model X.prog X.w) X.A (.call (.ref f) ⟨us, kw⟩) (CR C X.stack X.prog X.w H s Q E) s) : wpAny (model X.prog X.w) X.A (call (.ref f) us kw) (EP X pins σ Q) X.xe s :=
  wpAny_call (codeAny_mono h fun r s' y => match r, y with
    | .error e, y => hx pins σ H s e s' I y
    | .ok (.ret _), y => I.after y)
/-- how a call with keywords binds, where the numbers of its arguments are written -/
structure KBX (K : PySem.W.Frag) (fd : FuncData) (ps : List Str) (n : Nat) (ks : List Str) (g : List Value → List Value → List Value) (gV : List V → List V → List V) : Prop where
  to : ∀ (s : Shared) (us ws : List Value), us.length = n → ws.length = ks.length → BindsTo s fd ⟨us, ks.zip ws⟩ (ps.zip (g us ws))
  rel : ∀ {vs : List V} {us : List Value} {zs : List V} {ws : List Value}, Vals vs us → Vals zs ws → Vals (gV vs zs) (g us ws)
def tCallN (n m : Nat) (sp : Sp) (gV : List V → List V → List V) (E : XK) (t tk : TA) : TE := fun σ H Q => t σ H fun vs H1 => tk σ H1 fun zs H2 => vs.length = n ∧ zs.length = m ∧ sp (gV vs zs) H2 Q E
theorem relAt : ∀ {vs : List V} {us : List Value} (_ : Vals vs us) (i : Nat), RelV (vs.getD i .non) (us.getD i .none)
  | [], _, r, i => by cases r; exact rfl
  | _ :: _, _, r, 0 => by cases r with | cons a _ => exact a
  | _ :: _, _, r, i + 1 => by cases r with | cons _ b => exact relAt b i
section
variable {X : Cx} {C : CXT} {n m : Nat} {f : Addr} {fd : FuncData} {ps ks : List Str} {sp : Sp} {E : XK} {x : Str} {p q : Pos} {e : Expr} {es : List Expr} {kws : List Keyword} {t tk : TA} {g : List Value → List Value → List Value} {gV : List V → List V → List V}
theorem pe_callG (hG : X.A.guards = some []) (F : FnG X.prog X.w X.K X.mg X.base C n f fd ps sp) (hr : Room n X.A) (gl : Gl X x) (mf : X.mg x = some (.ref f)) (kf : PySem.W.keepIn X.K (.ref f) = true) (bd : Binds X.K fd ps []) (hx : Passes C X E) (ha : PA X (e :: es) t)
    (h1 : (x == ("__debug__" : Str)) = false := by decide) (h2 : starEach (e :: es) X.env = (false, eval e X.env) :: starEach es X.env := by rfl) (h3 : (backTo q (starEach es X.env)).any (·.1) = false := by rfl) :
    PE X (.Call (.Name x p) (e :: es) [] q) (tCall sp [] E t) := by
  constructor
  intro pins s σ H Q I h
  refine wpAny_Call_Name_kw (ld_glob I gl mf (PySem.W.callWith_K (h₀ := X.base) I.ok.mod.kin kf (thn (ha.run q pins s σ H _ I h) fun us s1 ⟨vs, H1, I1, r, y⟩ => ⟨I1.kIn, ?_⟩) h2 h3) h1)
  have y : sp (vs ++ []) H1 Q E := y
  rw [List.append_nil] at y
  have hl : (us ++ []).length = ps.length := by rw [List.append_nil, ← r.length]; exact F.len _ _ _ _ y
  exact after_call hx I1 (F.go X.A X.stack s1 H1 _ (us ++ []) vs Q E hG hr I1.env0 (bd s1 us I1.kIn hl) (by rw [List.append_nil]; exact r) y)
/-- f(e, .., k = v, ..), f(k = v, ..) -/
theorem kw_to (hb : KBX X.K fd ps n ks g gV) {pins : List (Addr × Obj)} {σ : L2.St} {H : Hp} {s : Shared} {Q : VK} {vs zs : List V} {us ws : List Value}
    (run : ∀ (bs : List Value) (bv : List V), BindsTo s fd ⟨us, ks.zip ws⟩ (ps.zip bs) → Vals bv bs → sp bv H Q E → codeAny (model X.prog X.w) X.A (.call (.ref f) ⟨us, ks.zip ws⟩) (CR C X.stack X.prog X.w H s Q E) s)
    (hx : Passes C X E) (I : Inv X pins σ H s) (r : Vals vs us) (rz : Vals zs ws) (l1 : vs.length = n) (l2 : zs.length = ks.length) (y : sp (gV vs zs) H Q E) : wpAny (model X.prog X.w) X.A (call (.ref f) us (ks.zip ws)) (EP X pins σ Q) X.xe s :=
  after_call hx I (run _ _ (hb.to s us ws (by rw [← r.length]; exact l1) (by rw [← rz.length]; exact l2)) (hb.rel r rz) y)
theorem pe_kwG (hG : X.A.guards = some []) (F : FnG X.prog X.w X.K X.mg X.base C m f fd ps sp) (hr : Room m X.A) (gl : Gl X x) (mf : X.mg x = some (.ref f)) (kf : PySem.W.keepIn X.K (.ref f) = true) (hb : KBX X.K fd ps n ks g gV) (hx : Passes C X E) (ha : PA X (e :: es) t) (hk : PK X kws tk)
    (h0 : (backToKw q (keywordEach kws X.env)).all (·.1.isSome) = true := by rfl) (hks : (backToKw q (keywordEach kws X.env)).filterMap (·.1) = ks := by rfl) (h1 : (x == ("__debug__" : Str)) = false := by decide) (h2 : starEach (e :: es) X.env = (false, eval e X.env) :: starEach es X.env := by rfl)
    (h3 : ((backTo q (starEach (e :: es) X.env)).any (·.1) || (backToKw q (keywordEach kws X.env)).any (·.1.isNone)) = false := by rfl) : PE X (.Call (.Name x p) (e :: es) kws q) (tCallN n ks.length sp gV E t tk) := by
  constructor
  intro pins s σ H Q I h
  refine wpAny_Call_Name_kw (ld_glob I gl mf (PySem.W.callWith_KW (h₀ := X.base) I.ok.mod.kin kf h0 (thn (ha.run q pins s σ H _ I h) fun us s1 ⟨vs, H1, I1, r, y⟩ => thn (hk.run q pins s1 σ H1 _ I1 y) fun ws s2 ⟨zs, H2, I2, rz, l1, l2, y2⟩ => ⟨I2.kIn, ?_⟩) h3 h2) h1)
  rw [hks]
  exact kw_to hb (fun bs bv b1 b2 b3 => F.go X.A X.stack s2 H2 _ bs bv Q E hG hr I2.env0 b1 b2 b3) hx I2 r rz l1 l2 y2
theorem pe_kwG0 (hG : X.A.guards = some []) (F : FnG X.prog X.w X.K X.mg X.base C m f fd ps sp) (hr : Room m X.A) (gl : Gl X x) (mf : X.mg x = some (.ref f)) (kf : PySem.W.keepIn X.K (.ref f) = true) (hb : KBX X.K fd ps 0 ks g gV) (hx : Passes C X E) (hk : PK X kws tk)
    (h0 : (backToKw q (keywordEach kws X.env)).all (·.1.isSome) = true := by rfl) (hks : (backToKw q (keywordEach kws X.env)).filterMap (·.1) = ks := by rfl) (h1 : (x == ("__debug__" : Str)) = false := by decide)
    (h3 : ((backTo q (starEach [] X.env)).any (·.1) || (backToKw q (keywordEach kws X.env)).any (·.1.isNone)) = false := by rfl) : PE X (.Call (.Name x p) [] kws q) (tCallN 0 ks.length sp gV E tNil tk) := by
  constructor
  intro pins s σ H Q I h
  refine wpAny_Call_Name_kw (ld_glob I gl mf (PySem.W.callWith_KW0 (h₀ := X.base) I.ok.mod.kin kf h0 (thn (hk.run q pins s σ H _ I h) fun ws s2 ⟨zs, H2, I2, rz, l1, l2, y2⟩ => ⟨I2.kIn, ?_⟩) h3) h1)
  rw [hks]
  exact kw_to hb (fun bs bv b1 b2 b3 => F.go X.A X.stack s2 H2 _ bs bv Q E hG hr I2.env0 b1 b2 b3) hx I2 .nil rz rfl l2 y2
/-- the same of a def that may be called anywhere -/
theorem pe_kw (F : FnOk X.prog X.w X.K X.mg X.base C m f fd ps sp) (hr : Room m X.A) (gl : Gl X x) (mf : X.mg x = some (.ref f)) (kf : PySem.W.keepIn X.K (.ref f) = true) (hb : KBX X.K fd ps n ks g gV) (hx : Passes C X E) (ha : PA X (e :: es) t) (hk : PK X kws tk)
    (h0 : (backToKw q (keywordEach kws X.env)).all (·.1.isSome) = true := by rfl) (hks : (backToKw q (keywordEach kws X.env)).filterMap (·.1) = ks := by rfl) (h1 : (x == ("__debug__" : Str)) = false := by decide) (h2 : starEach (e :: es) X.env = (false, eval e X.env) :: starEach es X.env := by rfl)
    (h3 : ((backTo q (starEach (e :: es) X.env)).any (·.1) || (backToKw q (keywordEach kws X.env)).any (·.1.isNone)) = false := by rfl) : PE X (.Call (.Name x p) (e :: es) kws q) (tCallN n ks.length sp gV E t tk) := by
  constructor
  intro pins s σ H Q I h
  refine wpAny_Call_Name_kw (ld_glob I gl mf (PySem.W.callWith_KW (h₀ := X.base) I.ok.mod.kin kf h0 (thn (ha.run q pins s σ H _ I h) fun us s1 ⟨vs, H1, I1, r, y⟩ => thn (hk.run q pins s1 σ H1 _ I1 y) fun ws s2 ⟨zs, H2, I2, rz, l1, l2, y2⟩ => ⟨I2.kIn, ?_⟩) h3 h2) h1)
  rw [hks]
  exact kw_to hb (fun bs bv b1 b2 b3 => F.run X.A X.stack s2 H2 _ bs bv Q E hr I2.env0 b1 b2 b3) hx I2 r rz l1 l2 y2
theorem pe_kw0 (F : FnOk X.prog X.w X.K X.mg X.base C m f fd ps sp) (hr : Room m X.A) (gl : Gl X x) (mf : X.mg x = some (.ref f)) (kf : PySem.W.keepIn X.K (.ref f) = true) (hb : KBX X.K fd ps 0 ks g gV) (hx : Passes C X E) (hk : PK X kws tk)
    (h0 : (backToKw q (keywordEach kws X.env)).all (·.1.isSome) = true := by rfl) (hks : (backToKw q (keywordEach kws X.env)).filterMap (·.1) = ks := by rfl) (h1 : (x == ("__debug__" : Str)) = false := by decide)
    (h3 : ((backTo q (starEach [] X.env)).any (·.1) || (backToKw q (keywordEach kws X.env)).any (·.1.isNone)) = false := by rfl) : PE X (.Call (.Name x p) [] kws q) (tCallN 0 ks.length sp gV E tNil tk) := by
  constructor
  intro pins s σ H Q I h
  refine wpAny_Call_Name_kw (ld_glob I gl mf (PySem.W.callWith_KW0 (h₀ := X.base) I.ok.mod.kin kf h0 (thn (hk.run q pins s σ H _ I h) fun ws s2 ⟨zs, H2, I2, rz, l1, l2, y2⟩ => ⟨I2.kIn, ?_⟩) h3) h1)
  rw [hks]
  exact kw_to hb (fun bs bv b1 b2 b3 => F.run X.A X.stack s2 H2 _ bs bv Q E hr I2.env0 b1 b2 b3) hx I2 .nil rz rfl l2 y2
end
section
variable {σ : L2.St} {H : Hp} {Q : VK} {t tk : TA} {sp : Sp} {gV : List V → List V → List V} {E : XK} {n m : Nat}
theorem caln (h : t σ H fun vs H1 => tk σ H1 fun zs H2 => vs.length = n ∧ zs.length = m ∧ sp (gV vs zs) H2 Q E) : tCallN n m sp gV E t tk σ H Q := h
theorem lnn {a b c d : Nat} {A : Prop} (e : a = c) (f : b = d) (h : A) : a = c ∧ b = d ∧ A := ⟨e, f, h⟩
end
/-! ### repr -/
mutual
/-- data of ints below 2 ^ 200, bools, None, in lists and tuples -/
def tame : PyData → Bool
  | .none | .bool _ => true
  | .int i => decide (i.natAbs < 2 ^ 200)
  | .list ds | .tuple ds => tameAll ds
  | _ => false
def tameAll : List PyData → Bool
  | [] => true
  | d :: ds => tame d && tameAll ds
end
theorem tame_int {i : Int} (h : i.natAbs < 2 ^ 200) : i.natAbs.log2 < 200 := by
  by_cases z : i.natAbs = 0
  · rw [z]; decide
  · exact (Nat.log2_lt z).mpr h
mutual
theorem tame_ok : ∀ d : PyData, tame d = true → d.showable = true ∧ d.hasDict = false ∧ d.leavesShort 201 = true
  | .none, _ => ⟨rfl, rfl, rfl⟩
  | .bool _, _ => ⟨rfl, rfl, rfl⟩
  | .int i, h => by
    have h' := tame_int (of_decide_eq_true (by simpa only [tame] using h))
    refine ⟨by simp only [PyData.showable]; exact decide_eq_true (by omega), rfl, ?_⟩
    simp only [PyData.leavesShort]
    exact decide_eq_true (by show (Str.ofString (toString i)).length ≤ 201; rw [PySem.ofString_length]; exact PySem.int_text_length_le (by decide) h')
  | .str _, h => by simp [tame] at h
  | .dict _, h => by simp [tame] at h
  | .list ds, h => by
    have := tame_okAll ds (by simpa only [tame] using h)
    simpa only [PyData.showable, PyData.hasDict, PyData.leavesShort] using this
  | .tuple ds, h => by
    have := tame_okAll ds (by simpa only [tame] using h)
    simpa only [PyData.showable, PyData.hasDict, PyData.leavesShort] using this
theorem tame_okAll : ∀ ds : List PyData, tameAll ds = true → PyData.showableAll ds = true ∧ PyData.hasDictAll ds = false ∧ PyData.leavesShortAll 201 ds = true
  | [], _ => ⟨rfl, rfl, rfl⟩
  | d :: ds, h => by
    have h' : tame d = true ∧ tameAll ds = true := by simpa only [tameAll, Bool.and_eq_true] using h
    obtain ⟨a, b, c⟩ := tame_ok d h'.1
    obtain ⟨a', b', c'⟩ := tame_okAll ds h'.2
    simp only [PyData.showableAll, PyData.hasDictAll, PyData.leavesShortAll, a, b, c, a', b', c']
    decide
end
/-- repr of a list or a tuple -/
def rRepr (K : PySem.W.Frag) : List V → Hp → VK → Prop := fun vs H Q => ∃ a d, vs = [.ref a] ∧ Dp K H (.ref a) d ∧ tame d = true ∧ d.depth ≤ 60 ∧ d.bulk ≤ 60000 ∧ Q (.str d.shown) H
theorem krepr (K : PySem.W.Frag) {X : Cx} {k : Nat} (hG : X.A.guards = some []) (hr : Room k X.A) (h : X.K = K := by rfl) : CallR X (.builtin "repr") (rRepr K) := by
  subst h
  intro pins s σ H xs us Q I r hq
  obtain ⟨a, d, rfl, hd, ht, hdp, hb, q⟩ := hq
  obtain ⟨u, rfl, ru⟩ := vals1 r
  obtain rfl : u = Value.ref a := ru
  obtain ⟨as, rd⟩ := Dp.reads I d _ _ hd rfl
  obtain ⟨o1, o2, o3⟩ := tame_ok d ht
  have fits := PyData.shown_le_bulk 201 (by decide) d o3
  have un := hr.units
  refine repr_of_reads' rd o1 (PyData.noDict_hsm o2) hG (by omega) (fun _ _ e => e) (fun h' u tk hk => ⟨.str d.shown, H, ?_, ⟨u, rfl⟩, q⟩) (by rw [sizeLine_eq]; omega)
  exact I.kept hk
end HS
/-! The end of a proof whose law def is called while nothing is being shown. -/
namespace HS
open PySem PySem.Spec PyProof.Rows L2
section
variable {Pg : Program} {wd : World} {K : PySem.W.Frag} {mg mb : Str → Option Value} {C : CXT} {n : Nat} {fa a : Addr} {fd : FuncData} {x : Str} {sp : Sp} {s1 : Shared} {vs : List Value} {ns : List Int}
/-- what the caller's heap holds where the abstract heap tracks the script alone, or nothing -/
structure AtTop (Pg : Program) (wd : World) (K : PySem.W.Frag) (a : Addr) (ns : List Int) (s1 : Shared) (H : Hp) : Prop where
  only : Only H
  here : SqL K H a (ns.map V.int)
  hok : HOk Pg wd H s1.heap
  one : ∀ b, b ≠ a → H b = none
  out : H a = none ∨ K.lookup a = none
theorem top_run (T : AtTop Pg wd K a ns s1 H) (KX : K.In s1.heap) (g : s1.heap.Ns mainGlobals mg) (gb : s1.heap.Ns builtinsNs mb) (hb : ∀ y : Str, y ≠ "__name__" → mb y = bootBuiltins y) (lim : s1.heap.NoLimit) (hg : s1.gens = #[])
    (seq : ∃ o, s1.heap.get? a = some o ∧ ∃ us m, o.data = .seq us m) (hr : Room n callerA) (F : ∀ base : Heap, K.In base → base.Ns mainGlobals mg → FnG Pg wd K mg base C n fa fd [x] sp) (bd : ∀ (s : Shared) (u : Value), BindsTo s fd ⟨[u], []⟩ [(x, u)])
    (want : ∀ H : Hp, Only H → SqL K H a (ns.map V.int) → sp [.ref a] H (fun v _ => v = .bl true) fun _ _ _ => False) (noX : ∀ H e s', C [] H s1 (fun _ _ _ => False) e s' → False) :
    codeAny (model Pg wd) callerA (.call (.ref fa) ⟨[.ref a], []⟩) (fun r s' => r = .ok (.ret (.bool true)) ∧ OldK s1.heap s'.heap ∧ s'.os = s1.os ∧ AllBare s'.gens) s1 := by
  obtain ⟨oa, ea, us, m, da⟩ := seq
  -- the base: all but what is tracked
  have stays : ∀ {b : Addr} {o : Obj}, s1.heap.get? b = some o → (b = a → H a = none) → (hidT s1.heap H).get? b = some o := fun {b o} e h =>
    hidT_get e (by by_cases q : b = a; · subst q; exact h rfl
                   · exact T.one b q)
  have dict : ∀ {b : Addr} {f : Str → Option Value}, s1.heap.Ns b f → (hidT s1.heap H).Ns b f := by
    rintro b f ⟨o, es, ep, e, d, r⟩
    refine ⟨o, es, ep, stays e fun q => ?_, d, r⟩
    subst q
    rw [ea] at e
    cases e
    rw [da] at d
    cases d
  have kin : K.In (hidT s1.heap H) := fun b o e => stays (KX b o e) fun q => by
    subst q
    rcases T.out with h | h
    · exact h
    · rw [h] at e; cases e
  have md : Mod K mg (hidT s1.heap H) := ⟨kin, dict g, ⟨mb, dict gb, hb⟩, by obtain ⟨mc, l1, l2⟩ := lim; exact ⟨mc, dict l1, l2⟩⟩
  have e0 : Env0 Pg wd K mg (hidT s1.heap H) callerA [] s1 H := ⟨rfl, md, fun _ _ e => of_hidT e, Nat.le_of_eq (hidT_size _ _), trivial, nofun, T.hok, .of_eq hg⟩
  refine codeAny_mono ((F _ kin (dict g)).go callerA [] s1 H ⟨[.ref a], []⟩ [.ref a] [.ref a] _ _ rfl hr e0 (bd s1 (.ref a)) (.cons rfl .nil) (want H T.only T.here)) fun r s' y => ?_
  match r, y with
  | .error e, y => exact (noX H e s' y).elim
  | .ok (.ret u), y =>
    obtain ⟨v, H', os, bare, un, ok', rv, rfl⟩ := y
    obtain rfl : u = Value.bool true := rv
    refine ⟨rfl, OldK.of_keep fun b o e => ?_, os, bare⟩
    rcases T.only b with z | ⟨ob, xs, z⟩
    · exact un.keep b o e z nofun nofun
    · have t1 := (T.hok b _ z).1
      rw [e] at t1
      rw [Option.some.inj t1]
      exact (ok' b _ (un.frzs b ob _ z)).1
theorem top_at (KX : K.In s1.heap) (ha : s1.heap.get? a = some { cls := .type "list", data := .seq vs.toArray }) (hi : IntsAre vs ns) (hl : ns.length ≤ sizeLine) : ∃ H, AtTop Pg wd K a ns s1 H := by
  have rv := vals_ints hi
  by_cases hk : K.lookup a = none
  · refine ⟨fun b => if b = a then some (.frz { cls := .type "list", data := .seq vs.toArray } (.lst (ns.map V.int))) else none, fun b => ?_, .inl (.inr ⟨_, if_pos rfl⟩), fun b u z => ?_, fun b q => if_neg q, .inr hk⟩
    · by_cases q : b = a
      · exact .inr ⟨_, _, if_pos q⟩
      · exact .inl (if_neg q)
    · by_cases q : b = a
      · subst q
        rw [if_pos rfl] at z
        cases z
        exact ⟨ha, by rw [List.length_map]; exact hl, vs, _, rv, ha⟩
      · rw [if_neg q] at z
        cases z
  · obtain ⟨o, ho⟩ := Option.ne_none_iff_exists'.mp hk
    have e := KX a o ho
    rw [ha] at e
    cases e
    exact ⟨fun _ => none, fun _ => .inl rfl, .inr ⟨_, vs.toArray, _, ho, rfl, rfl, rfl, by rw [List.size_toArray, hi.length]; exact hl, by simpa using rv⟩, (fun _ _ z => nomatch z), fun _ _ => rfl, .inl rfl⟩
end
theorem walk_ofG {l : PySem.W.OpenLaw} {n k : Nat} {q : Program} {loose : List Str} {XP : (Str → Option Value) → Heap → Prop} {YP : World → Heap → Prop} {d : DefRec} {K : Params → PySem.W.Frag} {CX : World → CXT} {sp : World → Sp} {x : Str}
    (h1 : l.most = some n) (h2 : n ≤ sizeLine) (h3 : d.params.defaults = []) (hr : Room k callerA) (hY : ∀ (w : World) (h : Heap), YP w h → (K w.params).In h)
    (F : ∀ (w : World) (mg : Str → Option Value) (fa : Addr) (h : Heap), (K w.params).In h → h.Ns mainGlobals mg → mg d.name = some (.ref fa) → ∃ fd : FuncData, (∀ (s : Shared) (u : Value), BindsTo s fd ⟨[u], []⟩ [(x, u)]) ∧
      ∀ base : Heap, (K w.params).In base → base.Ns mainGlobals mg → FnG l.prog w (K w.params) mg base (CX w) k fa fd [x] (sp w))
    (want : ∀ (w : World) (H : Hp) (a : Addr) (ns : List Int), ns.length ≤ n → Only H → SqL (K w.params) H a (ns.map V.int) → sp w [.ref a] H (fun v _ => v = .bl true) fun _ _ _ => False)
    (noX : ∀ (w : World) (H : Hp) (s : Shared) (e : Value) (s' : Shared), CX w [] H s (fun _ _ _ => False) e s' → False) : PySem.W.WalkO q loose XP YP l.row.toRowW d [] (fun f vs => PySem.call f vs) :=
  Att.attach_call h1 h3 fun w _ s1 mg _ fa _ _ _ _ a vs ns G Y _ _ _ hm ho hi hl hg => by
    obtain ⟨fd, bd, hF⟩ := F w mg fa _ (hY w _ Y) G.T.g hm
    obtain ⟨H, T⟩ := top_at (Pg := l.prog) (wd := w) (hY w _ Y) ho hi (Nat.le_trans hl h2)
    exact top_run T (hY w _ Y) G.T.g G.T.b G.T.builtins G.T.nolimit hg ⟨_, ho, _, _, rfl⟩ hr hF bd (fun H o => want w H a ns hl o) fun H e s' => noX w H s1 e s'
end HS
/-! sorted of ints; lists in descending order. -/
namespace HS
open PySem PySem.Spec PyProof.Rows L2
section
variable {X : Cx} (K : PySem.W.Frag)
end
/-- in descending order -/
def desc (ls : List Int) : List Int := ls.mergeSort fun a b => decide (b ≤ a)
theorem desc_perm (ls : List Int) : (desc ls).Perm ls := List.mergeSort_perm ls _
theorem desc_pair (ls : List Int) : (desc ls).Pairwise (· ≥ ·) := by
  have h := List.pairwise_mergeSort (le := fun a b : Int => decide (b ≤ a)) (fun a b c h1 h2 => by simp only [decide_eq_true_eq] at *; omega) (fun a b => by simp only [Bool.or_eq_true, decide_eq_true_eq]; omega) ls
  exact h.imp fun h => by simpa using h
theorem same_desc : ∀ {xs ys : List Int}, xs.Perm ys → xs.Pairwise (· ≥ ·) → ys.Pairwise (· ≥ ·) → xs = ys
  | [], ys, p, _, _ => (List.nil_perm.mp p).symm ▸ rfl
  | x :: xs, [], p, _, _ => absurd (List.perm_nil.mp p) (by simp)
  | x :: xs, y :: ys, p, h1, h2 => by
    rw [List.pairwise_cons] at h1 h2
    have e : x = y := by
      have a := p.mem_iff.mp List.mem_cons_self
      have b := p.mem_iff.mpr (List.mem_cons_self (a := y) (l := ys))
      rcases List.mem_cons.mp a with a | a
      · exact a
      · rcases List.mem_cons.mp b with b | b
        · exact b.symm
        · have := h1.1 y b
          have := h2.1 x a
          omega
    subst e
    rw [same_desc (List.Perm.cons_inv p) h1.2 h2.2]
theorem desc_of {xs ys : List Int} (p : xs.Perm ys) (h : xs.Pairwise (· ≥ ·)) : xs = desc ys := same_desc (p.trans (desc_perm ys).symm) h (desc_pair ys)
theorem desc_rev {xs ys : List Int} (p : xs.Perm ys) (h : xs.Pairwise (· ≤ ·)) : xs.reverse = desc ys := desc_of ((List.reverse_perm xs).trans p) (List.pairwise_reverse.mpr h)
theorem desc_same {xs ys : List Int} (p : xs.Perm ys) : desc xs = desc ys := desc_of ((desc_perm xs).trans p) (desc_pair xs)
theorem desc_len (ls : List Int) : (desc ls).length = ls.length := (desc_perm ls).length_eq
theorem desc_mem {ls : List Int} {x : Int} : x ∈ desc ls ↔ x ∈ ls := (desc_perm ls).mem_iff
theorem desc_count (ls : List Int) (x : Int) : (desc ls).count x = ls.count x := (desc_perm ls).count_eq x
theorem desc_desc (ls : List Int) : desc (desc ls) = desc ls := desc_same (desc_perm ls)
/-- those greater than v -/
def above (ls : List Int) (v : Int) : List Int := (desc ls).filter fun x => decide (v < x)
theorem filter_none {ls : List Int} {v : Int} (h : ∀ x ∈ ls, x ≤ v) : (ls.filter fun x => decide (v < x)) = [] := by
  rw [List.filter_eq_nil_iff]
  intro x hx
  have := h x hx
  simp; omega
theorem filter_step : ∀ {D : List Int} (v : Int), D.Pairwise (· ≥ ·) → (D.filter fun x => decide (v < x)) = (D.filter fun x => decide (v + 1 < x)) ++ List.replicate (D.count (v + 1)) (v + 1)
  | [], _, _ => rfl
  | x :: r, v, h => by
    rw [List.pairwise_cons] at h
    have ih := filter_step v h.2
    by_cases c1 : v + 1 < x
    · rw [List.filter_cons_of_pos (by simp; omega), List.filter_cons_of_pos (by simp; omega), List.count_cons_of_ne (by omega), ih]
      rfl
    · have c3 : (r.filter fun x => decide (v + 1 < x)) = [] := filter_none fun y hy => by have := h.1 y hy; omega
      rw [List.filter_cons_of_neg (a := x) (p := fun x => decide (v + 1 < x)) (by simp; omega), c3]
      rw [c3] at ih
      by_cases c2 : x = v + 1
      · subst c2
        rw [List.filter_cons_of_pos (p := fun x => decide (v < x)) (decide_eq_true (show v < v + 1 by omega)), List.count_cons_self, ih, List.replicate_succ]
        rfl
      · rw [List.filter_cons_of_neg (by simp; omega), List.count_cons_of_ne (by omega), ih]
theorem above_step (ls : List Int) (v : Int) : above ls v = above ls (v + 1) ++ List.replicate (ls.count (v + 1)) (v + 1) := by
  unfold above; rw [filter_step v (desc_pair ls), desc_count]
theorem above_top {ls : List Int} {v : Int} (h : ∀ x ∈ ls, x ≤ v) : above ls v = [] := filter_none fun x hx => h x (desc_mem.mp hx)
theorem above_all {ls : List Int} (h : ∀ x ∈ ls, 1 ≤ x) : above ls 0 = desc ls := by
  unfold above
  rw [List.filter_eq_self]
  intro x hx
  have := h x (desc_mem.mp hx)
  simp; omega
theorem above_le (ls : List Int) (v : Int) : (above ls v).length ≤ ls.length := by
  rw [← desc_len ls]; exact List.length_filter_le _ _
theorem at_last {xs ys : List V} {v : V} (h : xs = ys ++ [v]) : atI xs (-1) = some v := by
  rw [h]
  unfold atI ixN
  rw [if_neg (by omega), List.length_append, List.length_singleton]
  rw [if_pos (by push_cast; omega)]
  show (ys ++ [v])[_]? = _
  rw [show (-1 + ((ys.length + 1 : Nat) : Int)).toNat = ys.length by omega]
  simp
theorem desc_nil : desc [] = [] := by
  have := desc_perm []
  exact List.perm_nil.mp this
end HS
namespace HS
open PySem PySem.Spec PyProof.Rows L2
/-- sorted(b)[::-1] -/
def revQ (K : PySem.W.Frag) (Q : VK) : VK := fun x H1 => ∃ a xs, x = .ref a ∧ SqL K H1 a xs ∧ ∀ p, H1 p = none → Q (.ref p) (upd H1 p (.lst xs.reverse))
def srvQ (K : PySem.W.Frag) (Q : VK) : List V → Hp → Prop := fun vs H1 => ∃ b ls, vs = [.ref b] ∧ SqL K H1 b (ls.map V.int) ∧ ∀ H' p, Keep (fun _ => False) H1 H' → H1 p = none → H' p = some (.lst ((desc ls).map V.int)) → Q (.ref p) H'
def tSrv (K : PySem.W.Frag) (tl : TA) : TE := fun σ H Q => tl σ H (srvQ K Q)
theorem pe_srv (K : PySem.W.Frag) {X : Cx} {E C : Expr} {tl : TA} (h : ∀ r, CallR X (.builtin "sorted") r → PE X C (tCB r tl)) (rev : ∀ te, PE X C te → PE X E (tRevL X.K te)) (hK : X.K = K := by rfl) : PE X E (tSrv K tl) := by
  subst hK
  refine ⟨fun pins s σ H Q I hq => ?_⟩
  refine (rev _ (h (fun vs H1 Q' => srvQ X.K Q vs H1 ∧ Q' = revQ X.K Q) ?_)).run pins s σ H Q I ?_
  · intro pins s σ H xs us Q' I r h2
    obtain ⟨⟨b, ls, e, hs, k⟩, rfl⟩ := h2
    refine cr_sortedI pins s σ H xs us _ I r ⟨b, ls, e, hs, fun us p hperm hpair hp => ⟨_, _, rfl, HS.sq upd_same, fun q hq => ?_⟩⟩
    have K1 : Keep (fun _ => False) H (upd H p (.lst (us.map V.int))) := Keep.new hp
    rw [← List.map_reverse, desc_rev hperm hpair]
    exact k _ q (K1.nw hq) (K1.free hq id) upd_same
  · show tl σ H fun vs H1 => srvQ X.K Q vs H1 ∧ revQ X.K Q = revQ X.K Q
    have e : (fun vs H1 => srvQ X.K Q vs H1 ∧ revQ X.K Q = revQ X.K Q) = srvQ X.K Q := by
      funext vs H1
      exact propext ⟨fun z => z.1, fun z => ⟨z, rfl⟩⟩
    rw [e]
    exact hq
theorem srv {K : PySem.W.Frag} {tl : TA} {σ : L2.St} {H : Hp} {Q : VK} (h : tl σ H fun vs H1 => ∃ b ls, vs = [.ref b] ∧ SqL K H1 b (ls.map V.int) ∧ ∀ H' p, Keep (fun _ => False) H1 H' → H1 p = none → H' p = some (.lst ((desc ls).map V.int)) → Q (.ref p) H') : tSrv K tl σ H Q := h
end HS
namespace HS
open PySem PySem.Spec PyProof.Rows L2
/-- in ascending order -/
def asc (ls : List Int) : List Int := (desc ls).reverse
theorem asc_perm (ls : List Int) : (asc ls).Perm ls := (List.reverse_perm _).trans (desc_perm ls)
theorem asc_of {xs ys : List Int} (p : xs.Perm ys) (h : xs.Pairwise (· ≤ ·)) : xs = asc ys := by
  unfold asc; rw [← desc_rev p h, List.reverse_reverse]
theorem asc_pair (ls : List Int) : (asc ls).Pairwise (· ≤ ·) := by
  unfold asc
  rw [List.pairwise_reverse]
  exact desc_pair ls
theorem asc_len (ls : List Int) : (asc ls).length = ls.length := (asc_perm ls).length_eq
theorem asc_mem {ls : List Int} {x : Int} : x ∈ asc ls ↔ x ∈ ls := (asc_perm ls).mem_iff
theorem asc_inj {xs ys : List Int} : asc xs = asc ys ↔ desc xs = desc ys := List.reverse_inj
def rAsc (K : PySem.W.Frag) : List V → Hp → VK → Prop := fun vs H Q => ∃ b ls, vs = [.ref b] ∧ SqL K H b (ls.map V.int) ∧ ∀ H' p, Keep (fun _ => False) H H' → H p = none → H' p = some (.lst ((asc ls).map V.int)) → Q (.ref p) H'
def rDesc (K : PySem.W.Frag) : List V → List V → Hp → VK → Prop := fun vs zs H Q => ∃ b ls, vs = [.ref b] ∧ zs = [.bl true] ∧ SqL K H b (ls.map V.int) ∧ ∀ H' p, Keep (fun _ => False) H H' → H p = none → H' p = some (.lst ((desc ls).map V.int)) → Q (.ref p) H'
section
variable {X : Cx} (K : PySem.W.Frag)
theorem ksort (h : X.K = K := by rfl) : CallR X (.builtin "sorted") (rAsc K) := by
  subst h
  intro pins s σ H xs us Q I r ⟨b, ls, e, hs, k⟩
  exact cr_sortedI pins s σ H xs us Q I r ⟨b, ls, e, hs, fun us p hperm hpair hp => k _ p (Keep.new hp) hp (by rw [upd_same, asc_of hperm hpair])⟩
theorem ksortR (h : X.K = K := by rfl) : CallRK X (.builtin "sorted") [Str.ofString "reverse"] (rDesc K) := by
  subst h
  intro pins s σ H xs zs us ws Q I r rz ⟨b, ls, e, ez, hs, k⟩
  exact cr_sortedRev (b := true) pins s σ H xs zs us ws Q I r rz ⟨b, ls, e, ez, hs, fun us p hperm hpair hp => k _ p (Keep.new hp) hp (by rw [upd_same, desc_of hperm hpair])⟩
theorem kiz {tg l : Expr} {tl : TA} (p : PI X tg l (iZip X.K tl)) (h : X.K = K := by rfl) : PI X tg l (iZip K tl) := h ▸ p
theorem kcnt (h : X.K = K := by rfl) : MtR X "list.count" (rCntI K) := h ▸ mt_lcount
theorem korT {E : Expr} {ta tb : TE} (p : PE X E (tOrT X.K ta tb)) (h : X.K = K := by rfl) : PE X E (tOrT K ta tb) := h ▸ p
end
section
variable {σ : L2.St} {H : Hp} {Q : VK} {K : PySem.W.Frag}
theorem ckw {r : List V → List V → Hp → VK → Prop} {t tk : TA} (h : t σ H fun vs H1 => tk σ H1 fun zs H2 => r vs zs H2 Q) : tCKw r t tk σ H Q := h
theorem izip {tl : TA} {R : It → Hp → Prop} (h : tl σ H fun vs H1 => ∃ a b xs ys, vs = [.ref a, .ref b] ∧ SqL K H1 a xs ∧ SqL K H1 b ys ∧ R (Itz K a b) H1) : iZip K tl σ H R := h
theorem lcn {p : Addr} {ns : List Int} {k : Int} (h : SqL K H p (ns.map V.int)) (q : Q (.int (ns.count k : Nat)) H) : rCntI K (.ref p) [.int k] H Q := ⟨p, ns, k, rfl, rfl, h, q⟩
theorem orT {ta tb : TE} (h : ta σ H fun x H1 => ∃ k, TruV K x H1 k ∧ if k = true then Q x H1 else tb σ H1 Q) : tOrT K ta tb σ H Q := h
end
end HS
/-! Powers of great numbers, [x] * n. -/
namespace HS
open PySem PySem.Spec PyProof.Rows L2
def CPowW (i j : Int) : Prop := 0 ≤ j ∧ (Builtin.Int.intBits i : Int) * j ≤ 2 ^ 27
section
variable {X : Cx} {σ : L2.St} {H : Hp} {Q : VK}
theorem op_powW : OpR X (binaryOp .Pow) (rI CPowW fun i j => .int (i ^ j.toNat)) := opI fun _ _ _ _ _ _ _ hc q => pow_int hc.1 hc.2 q
theorem bits_le {i : Int} (k : Nat) (h0 : 0 ≤ i) (h : i < 2 ^ k) : Builtin.Int.intBits i ≤ k := by
  unfold Builtin.Int.intBits
  by_cases z : i = 0
  · subst z; exact Nat.zero_le _
  · rw [if_neg (by simpa using z)]
    have z' : i.natAbs ≠ 0 := by omega
    have : i.natAbs.log2 < k := (Nat.log2_lt z').mpr (by
      have : ((i.natAbs : Nat) : Int) < ((2 ^ k : Nat) : Int) := by rw [Int.natAbs_of_nonneg h0]; simpa using h
      exact Int.ofNat_lt.mp this)
    omega
theorem powW {i : Int} (k : Nat) {j : Int} (h0 : 0 ≤ i) (h : i < 2 ^ k) (hj : 0 ≤ j) (hk : (k : Int) * j ≤ 2 ^ 27) : CPowW i j := by
  refine ⟨hj, Int.le_trans (Int.mul_le_mul_of_nonneg_right ?_ hj) hk⟩
  exact Int.ofNat_le.mpr (bits_le k h0 h)
theorem flat_one {v : V} : ∀ n : Nat, (List.replicate n [v]).flatten = List.replicate n v
  | 0 => rfl
  | n + 1 => by rw [List.replicate_succ, List.flatten_cons, flat_one n]; rfl
theorem rep1 {p : Addr} {v : V} {k : Int} (h : H p = some (.lst [v])) (hk : k ≤ 1000000) (h0 : 0 ≤ k) (q : ∀ p, H p = none → Q (.ref p) (upd H p (.lst (List.replicate k.toNat v)))) : rRep (.ref p) (.int k) H Q := by
  refine ⟨p, k, _, rfl, rfl, h, by omega, by omega, ?_, fun p hp => ?_⟩
  · rw [List.length_singleton, sizeLine_eq]; omega
  · rw [flat_one]; exact q p hp
end
end HS
/-! repr of lists of ints, and == of texts. -/
namespace HS
open PySem PySem.Spec PyProof.Rows L2
section
variable {H : Hp} {Q : VK} {K : PySem.W.Frag}
theorem rep {a : Addr} {d : PyData} (h : Dp K H (.ref a) d) (t : tame d = true) (hd : d.depth ≤ 60) (hb : d.bulk ≤ 60000) (q : Q (.str d.shown) H) : rRepr K [.ref a] H Q := ⟨a, d, rfl, h, t, hd, hb, q⟩
theorem eqSS {x : Str} (q : Q (.bl true) H) : rEq (.str x) (.str x) H Q := ⟨rfl, by rw [decide_eq_true rfl]; exact q⟩
theorem neSS {x : Str} (q : Q (.bl false) H) : rNe (.str x) (.str x) H Q := ⟨rfl, by rw [decide_eq_true rfl]; exact q⟩
/-- ints that are shown -/
def Tm (ns : List Int) : Prop := (∀ x ∈ ns, x.natAbs < 2 ^ 200) ∧ ns.length ≤ 5000
theorem tame_ints : ∀ ns : List Int, (∀ x ∈ ns, x.natAbs < 2 ^ 200) → tameAll (ns.map .int) = true
  | [], _ => rfl
  | n :: r, h => by
    rw [List.map_cons, tameAll, tame_ints r fun x hx => h x (List.mem_cons_of_mem _ hx)]
    simp only [tame, Bool.and_true]
    exact decide_eq_true (h n List.mem_cons_self)
theorem bulk_ints : ∀ ns : List Int, PyData.bulkAll (ns.map .int) = ns.length
  | [] => rfl
  | n :: r => by rw [List.map_cons, PyData.bulkAll, bulk_ints r, PyData.bulk, List.length_cons]; omega
theorem tm_tame {ns : List Int} (h : Tm ns) : tame (dInts ns) = true := by unfold dInts; rw [tame]; exact tame_ints ns h.1
theorem tm_bulk {ns : List Int} (h : Tm ns) : (dInts ns).bulk ≤ 5000 := by unfold dInts; rw [PyData.bulk, bulk_ints]; exact h.2
theorem dInts_depth (ns : List Int) : (dInts ns).depth = 1 := by unfold dInts; rw [PyData.depth, dep_ints]
/-- repr of a list of ints -/
theorem repI {a : Addr} {ns : List Int} (h : SqL K H a (ns.map V.int)) (t : Tm ns) (q : Q (.str (dInts ns).shown) H) : rRepr K [.ref a] H Q :=
  rep (dp_ints h) (tm_tame t) (by rw [dInts_depth]; decide) (Nat.le_trans (tm_bulk t) (by decide)) q
/-- repr of a list of two lists of ints -/
def dII (xs ys : List Int) : PyData := .list [dInts xs, dInts ys]
theorem repII {a p r : Addr} {xs ys : List Int} (h : SqL K H a [.ref p, .ref r]) (h1 : SqL K H p (xs.map V.int)) (h2 : SqL K H r (ys.map V.int)) (t1 : Tm xs) (t2 : Tm ys) (q : Q (.str (dII xs ys).shown) H) : rRepr K [.ref a] H Q := by
  refine rep (.lst h (.cons (dp_ints h1) (.cons (dp_ints h2) .nil))) ?_ ?_ ?_ q
  · rw [tame, tameAll, tameAll, tameAll, tm_tame t1, tm_tame t2]; rfl
  · rw [PyData.depth, PyData.depthAll, PyData.depthAll, PyData.depthAll, dInts_depth, dInts_depth]; decide
  · have := tm_bulk t1
    have := tm_bulk t2
    rw [PyData.bulk, PyData.bulkAll, PyData.bulkAll, PyData.bulkAll]; omega
theorem tm_of {ns : List Int} {B : Int} (hB : B < 2 ^ 200) (h : ∀ x ∈ ns, 0 ≤ x ∧ x ≤ B) (hl : ns.length ≤ 5000) : Tm ns := ⟨fun x hx => by have := h x hx; omega, hl⟩
end
end HS
namespace HS
open PySem PySem.Spec PyProof.Rows L2
/-! repr of a list, a tuple or an int -/
def rReprA (K : PySem.W.Frag) : List V → Hp → VK → Prop := fun vs H Q => rRepr K vs H Q ∨ ∃ i : Int, vs = [.int i] ∧ i.natAbs.log2 < 1920 ∧ Q (.str (toString i)) H
theorem kreprA (K : PySem.W.Frag) {X : Cx} {k : Nat} (hG : X.A.guards = some []) (hr : Room k X.A) (h : X.K = K := by rfl) : CallR X (.builtin "repr") (rReprA K) := by
  intro pins s σ H xs us Q I r hq
  rcases hq with hq | hq
  · exact krepr K hG hr h pins s σ H xs us Q I r hq
  · exact SkE.call_repr_int pins s σ H xs us Q I r hq
theorem repAI {K : PySem.W.Frag} {H : Hp} {Q : VK} {i : Int} (hb : i.natAbs < 2 ^ 200) (q : Q (.str (toString i)) H) : rReprA K [.int i] H Q := by
  refine .inr ⟨i, rfl, ?_, q⟩
  by_cases z : i.natAbs = 0
  · rw [z]; decide
  · exact Nat.lt_of_lt_of_le ((Nat.log2_lt z).mpr hb) (by decide)
end HS
/-! Lists of lists of ints. -/
namespace HS
open PySem PySem.Spec PyProof.Rows L2
/-- the refs of vs are lists of these ints -/
def Lol (H : Hp) : List V → List (List Int) → Prop
  | [], [] => True
  | v :: vs, r :: rs => (∃ t, v = .ref t ∧ H t = some (.lst (r.map V.int))) ∧ Lol H vs rs
  | _, _ => False
theorem Lol.keep {S : Addr → Prop} {H H' : Hp} (k : Keep S H H') : ∀ {vs : List V} {rs : List (List Int)}, Lol H vs rs → (∀ v ∈ vs, ∀ t, v = .ref t → ¬ S t) → Lol H' vs rs
  | [], [], h, _ => h
  | _ :: _, _ :: _, ⟨⟨t, e, o⟩, h⟩, n => ⟨⟨t, e, k t _ o (n _ List.mem_cons_self t e)⟩, h.keep k fun v hv => n v (List.mem_cons_of_mem _ hv)⟩
theorem Lol.same {H H' : Hp} {vs : List V} {rs : List (List Int)} (h : Lol H vs rs) (k : Keep (fun _ => False) H H') : Lol H' vs rs := h.keep k fun _ _ _ _ z => z
theorem Lol.app {H : Hp} : ∀ {vs ws : List V} {rs qs : List (List Int)}, Lol H vs rs → Lol H ws qs → Lol H (vs ++ ws) (rs ++ qs)
  | [], _, [], _, _, g => g
  | _ :: _, _, _ :: _, _, ⟨a, h⟩, g => ⟨a, h.app g⟩
theorem Lol.len {H : Hp} : ∀ {vs : List V} {rs : List (List Int)}, Lol H vs rs → vs.length = rs.length
  | [], [], _ => rfl
  | _ :: _, _ :: _, ⟨_, h⟩ => by rw [List.length_cons, List.length_cons, h.len]
theorem Lol.one {H : Hp} {t : Addr} {r : List Int} (e : H t = some (.lst (r.map V.int))) : Lol H [.ref t] [r] := ⟨⟨t, rfl, e⟩, trivial⟩
theorem Lol.at {H : Hp} : ∀ {vs : List V} {rs : List (List Int)}, Lol H vs rs → ∀ {i : Nat} {v : V}, vs[i]? = some v → ∃ t r, v = .ref t ∧ rs[i]? = some r ∧ H t = some (.lst (r.map V.int))
  | [], [], _, i, v, hv => by simp at hv
  | w :: _, r :: _, ⟨⟨t, e, o⟩, _⟩, 0, v, hv => by
    cases hv
    exact ⟨t, r, e, rfl, o⟩
  | _ :: _, _ :: _, ⟨_, h⟩, i + 1, v, hv => h.at (i := i) hv
/-- a list of new lists is none of them, where it stood before them -/
theorem Lol.out {H0 H : Hp} {L : Addr} {o : HO} (hL : H0 L = some o) : ∀ {vs : List V} {rs : List (List Int)}, Lol H vs rs → (∀ v ∈ vs, ∀ t, v = .ref t → H0 t = none) → ∀ v ∈ vs, ∀ t, v = .ref t → ¬ t = L :=
  fun _ n v hv t e z => by
    have := n v hv t e
    rw [z, hL] at this
    cases this
end HS
namespace WK11
open PySem PySem.Spec PyProof.Rows L2
local macro_rules | `(tactic| walk_at "ne") => `(tactic| first | assumption | (apply Ne.symm; assumption) | exact ne_of_none (by assumption) (by assumption) | exact (ne_of_none (by assumption) (by assumption)).symm | exact ne_of_none upd_same (by assumption) | exact (ne_of_none upd_same (by assumption)).symm)
local macro_rules | `(tactic| walk_at "hp") => `(tactic| first | assumption | exact upd_same | (rw [upd_ne (by walk_at "ne")]; walk_at "hp"))
local macro_rules | `(tactic| walk_at "side") => `(tactic| first | omega | decide | assumption | exact ⟨by decide, by decide⟩ | exact ⟨by omega, by omega⟩ | exact .inl (by omega) | exact .inr (by omega) | exact .inl (by decide) | exact .inr (by decide) | exact ⟨by decide, by decide, by decide⟩ | exact ⟨by decide, by decide, by omega⟩ | exact .inl ⟨by omega, by omega⟩ | exact .inr ⟨by omega, by omega⟩ | exact .inr ⟨by decide, by decide⟩ | exact .inl ⟨by decide, by decide⟩ | (show _ < _; omega))
local macro_rules | `(tactic| walk_at "len") => `(tactic| ((try simp only [List.length_map, List.length_append, List.length_cons, List.length_nil, List.length_set, List.length_replicate]); omega))
local macro_rules | `(tactic| walk_at "sq") => `(tactic| first | assumption | exact HS.sq (by walk_at "hp"))
local macro_rules | `(tactic| walk_at "st") => `(tactic| first | assumption | exact HS.st (by walk_at "hp"))
local macro_rules | `(tactic| walk_at "h1") => `(tactic| first
  | with_reducible refine HS.seq ?_
  | with_reducible refine HS.asg ?_
  | with_reducible refine HS.nm ?_
  | with_reducible refine HS.var rfl ?_
  | with_reducible refine HS.cst ?_
  | with_reducible refine HS.op ?_
  | with_reducible refine HS.i0 ?_
  | ((with_reducible refine HS.i1 ?_); first | refine ⟨by walk_at "side", ?_⟩ | skip)
  | with_reducible refine HS.u0 ?_
  | with_reducible refine HS.un ?_
  | with_reducible refine HS.eqI ?_
  | with_reducible refine HS.neI ?_
  | with_reducible refine HS.tst ?_
  | with_reducible refine HS.tb1 ?_
  | with_reducible refine HS.bex ?_
  | with_reducible refine HS.ifs ?_
  | with_reducible refine HS.ife ?_
  | with_reducible refine HS.and ?_
  | with_reducible refine HS.or ?_
  | with_reducible refine HS.not ?_
  | with_reducible refine HS.andV ?_
  | with_reducible refine HS.orV ?_
  | with_reducible refine HS.notV ?_
  | with_reducible refine HS.chn ?_
  | with_reducible refine HS.ret ?_
  | with_reducible refine HS.retN ?_
  | with_reducible refine HS.drp ?_
  | with_reducible refine HS.cb ?_
  | with_reducible refine HS.anil ?_
  | with_reducible refine HS.acons ?_
  | with_reducible refine HS.cal ?_
  | with_reducible refine HS.tup ?_
  | with_reducible refine HS.lst ?_
  | with_reducible refine HS.par ?_
  | with_reducible refine HS.ex2 ?_
  | with_reducible refine HS.aug rfl ?_
  | with_reducible refine HS.ipi ?_
  | with_reducible refine HS.addI ?_
  | with_reducible refine HS.nxt ?_
  | with_reducible refine HS.brk ?_
  | with_reducible refine HS.cnt ?_
  | with_reducible refine HS.sub ?_
  | with_reducible refine HS.pnx ?_
  | with_reducible refine HS.prt ?_
  | with_reducible refine HS.pbk ?_
  | with_reducible refine HS.pct ?_
  | with_reducible refine iteF ?_
  | with_reducible refine iteT ?_
  | with_reducible refine HS.ii ?_
  | with_reducible refine HS.bmL ?_
  | with_reducible refine HS.bmL0 ?_
  | ((with_reducible refine' HS.tyL ?e ?_); case e => walk_at "hp")
  | ((with_reducible refine' HS.app ?e ?_); (case e => walk_at "hp"))
  | ((with_reducible refine' HS.setL ?e ?f ?_); (case e => walk_at "hp"); (case f => rfl))
  | ((with_reducible refine' HS.wp ?e ?_); case e => rfl)
  | ((with_reducible refine' HS.szc ?e ?_); case e => walk_at "len")
  | ((with_reducible refine' HS.szd ?e ?_); case e => walk_at "len")
  | with_reducible refine HS.yes ?_
  | with_reducible refine HS.lc ?_
  | with_reducible refine HS.rng1 ?_
  | with_reducible refine HS.rng2 ?_
  | with_reducible refine HS.rng3 ?_
  | with_reducible refine HS.lis ?_
  | with_reducible refine HS.fr ?_
  | with_reducible refine HS.i1e ?_
  | with_reducible refine HS.gthen ?_
  | with_reducible refine HS.g0 ?_
  | with_reducible refine HS.gfr ?_
  | with_reducible refine HS.gpl ?_
  | with_reducible refine HS.gyl ?_
  | with_reducible refine HS.lgn ?_
  | with_reducible refine HS.calg ?_
  | with_reducible refine HS.revL ?_
  | with_reducible refine HS.sl ?_
  | with_reducible refine HS.noP ?_
  | with_reducible refine HS.part ?_
  | with_reducible refine HS.ie ?_
  | ((with_reducible refine' HS.slLs ?e ?_); case e => walk_at "sq")
  | ((with_reducible refine' HS.gtup ?e ?f ?_); (case e => walk_at "st"); (case f => rfl))
  | with_reducible refine HS.gcons ?_
  | with_reducible refine HS.gnil ?_
  | with_reducible refine HS.itup ?_
  | with_reducible refine HS.ienu ?_
  | ((with_reducible refine' HS.cat ?e ?f ?_); (case e => walk_at "hp"); (case f => walk_at "hp"))
  | ((with_reducible refine' HS.ext ?e ?f ?_); (case e => walk_at "hp"); (case f => walk_at "hp"))
  | ((with_reducible refine' HS.sumL ?e ?_); case e => walk_at "sq")
  | ((with_reducible refine' HS.lenL ?e ?_); case e => walk_at "sq")
  | ((with_reducible refine' HS.lenT ?e ?_); case e => walk_at "st")
  | with_reducible refine HS.ra ?_
  | ((with_reducible refine' HS.ixL ?e ?f ?_); (case e => walk_at "sq"); (case f => rfl))
  | ((with_reducible refine' HS.ixT ?e ?f ?_); (case e => walk_at "st"); (case f => rfl)))
local macro_rules | `(tactic| walk_at "hs") => `(tactic| repeat' (walk_at "h1"))
local macro_rules | `(tactic| walk_at "fold") => `(tactic| (walk_at "hs"; assumption))
local macro_rules | `(tactic| walk_at "ns") => `(tactic| first | exact (fun z => z) | assumption | exact HS.nS2 (by walk_at "ne") (by walk_at "ne") | exact HS.nS3 (by walk_at "ne") (by walk_at "ne") (by walk_at "ne"))
local macro_rules | `(tactic| walk_at "kp") => `(tactic| first
  | assumption
  | exact HS.Keep.refl
  | (refine HS.Keep.at ?_ (by first | exact .inl rfl | exact .inr rfl | exact .inr (.inl rfl) | exact .inr (.inr rfl)); walk_at "kp")
  | (refine HS.Keep.put ?_ (by assumption); walk_at "kp")
  | (refine HS.Keep.new' (by assumption) (by first | assumption | exact HS.Keep.refl) (by walk_at "ns") ?_; walk_at "kp"))
local macro_rules | `(tactic| walk_at "ev") => `(tactic| first | assumption | exact HS.Exv.new (by walk_at "ev") (by assumption))
local macro_rules | `(tactic| walk_at "h1") => `(tactic| first
  | with_reducible refine HS.ost ?_
  | with_reducible refine HS.fldV ?_
  | with_reducible refine HS.newV ?_
  | with_reducible refine HS.newK ?_
  | ((with_reducible refine' HS.isV ?T ?he ?hq ?_); (case T => assumption); (case he => walk_at "ev"); (case hq => assumption))
  | ((with_reducible refine' HS.isVt ?T ?he ?hq ?_); (case T => assumption); (case he => walk_at "ev"); (case hq => assumption)))
local macro_rules | `(tactic| walk_at "h1") => `(tactic| first
  | with_reducible refine HS.caln ?_
  | with_reducible refine HS.ckw ?_
  | with_reducible refine HS.izip ?_
  | with_reducible refine HS.orT ?_
  | with_reducible refine HS.srv ?_
  | with_reducible refine HS.nt ?_
  | with_reducible refine HS.nf ?_
  | ((with_reducible refine' HS.lnn ?e ?f ?_); (case e => rfl); (case f => rfl)))
local macro_rules | `(tactic| walk_at "kp") => `(tactic| (refine HS.Keep.at ?_ rfl; walk_at "kp"))
local macro_rules | `(tactic| walk_at "h1") => `(tactic| first
  | with_reducible refine HS.mkO ?_
  | with_reducible refine HS.callS ?_
  | with_reducible refine HS.xf ?_)
def topS (i : Nat) : Stmt := PySem.Challenge.pw_pagecounts_k11_tables_that_contradict.main.body.getD i (.Pass ⟨0, 0, 0, 0⟩)
abbrev s__law_rng : Stmt := topS 8
abbrev N__law_rng : List Str := ["script", "digits", "seed", "cell", "size"]
theorem sc__law_rng : FnScope N__law_rng ["script"] (defScope s__law_rng) := ⟨rfl, rfl, rfl, by decide +kernel, rfl, by decide +kernel, by decide +kernel⟩
abbrev s__law_draw : Stmt := topS 9
abbrev N__law_draw : List Str := ["rng", "limit", "found", "mixed"]
theorem sc__law_draw : FnScope N__law_draw ["rng", "limit"] (defScope s__law_draw) := ⟨rfl, rfl, rfl, by decide +kernel, rfl, by decide +kernel, by decide +kernel⟩
abbrev s__law_counted : Stmt := topS 10
abbrev N__law_counted : List Str := ["some", "wide", "one"]
theorem sc__law_counted : FnScope N__law_counted ["some", "wide"] (defScope s__law_counted) := ⟨rfl, rfl, rfl, by decide +kernel, rfl, by decide +kernel, by decide +kernel⟩
abbrev s__law_some : Stmt := topS 11
abbrev N__law_some : List Str := ["rng", "most", "longest", "kind", "found", "turn", "near", "one"]
theorem sc__law_some : FnScope N__law_some ["rng", "most", "longest"] (defScope s__law_some) := ⟨rfl, rfl, rfl, by decide +kernel, rfl, by decide +kernel, by decide +kernel⟩
abbrev s_count_pages : Stmt := topS 4
abbrev N_count_pages : List Str := ["book", "size", "length"]
theorem sc_count_pages : FnScope N_count_pages ["book", "size"] (defScope s_count_pages) := ⟨rfl, rfl, rfl, by decide +kernel, rfl, by decide +kernel, by decide +kernel⟩
abbrev s_InvalidTable___init__ : Stmt := HS.inS (topS 2) 0
abbrev N_InvalidTable___init__ : List Str := ["self", "value"]
theorem sc_InvalidTable___init__ : FnScope N_InvalidTable___init__ ["self", "value"] (defScope s_InvalidTable___init__) := ⟨rfl, rfl, rfl, by decide +kernel, rfl, by decide +kernel, by decide +kernel⟩
abbrev s_lengths_of : Stmt := topS 6
abbrev N_lengths_of : List Str := ["table", "chapters", "lengths", "size", "others", "found"]
theorem sc_lengths_of : FnScope N_lengths_of ["table"] (defScope s_lengths_of) := ⟨rfl, rfl, rfl, by decide +kernel, rfl, by decide +kernel, by decide +kernel⟩
abbrev s__law_told : Stmt := topS 16
abbrev N__law_told : List Str := ["rows", "e"]
theorem sc__law_told : FnScope N__law_told ["rows"] (defScope s__law_told) := ⟨rfl, rfl, rfl, by decide +kernel, rfl, by decide +kernel, by decide +kernel⟩
abbrev s__law_moebius : Stmt := topS 12
abbrev N__law_moebius : List Str := ["number", "found", "prime"]
theorem sc__law_moebius : FnScope N__law_moebius ["number"] (defScope s__law_moebius) := ⟨rfl, rfl, rfl, by decide +kernel, rfl, by decide +kernel, by decide +kernel⟩
abbrev s__law_wrong : Stmt := topS 13
abbrev N__law_wrong : List Str := ["rows", "top", "signs", "late", "wide", "here", "times", "number"]
theorem sc__law_wrong : FnScope N__law_wrong ["rows"] (defScope s__law_wrong) := ⟨rfl, rfl, rfl, by decide +kernel, rfl, by decide +kernel, by decide +kernel⟩
abbrev s__law_right : Stmt := topS 17
abbrev N__law_right : List Str := ["rows", "wrong", "kept", "told", "wide"]
theorem sc__law_right : FnScope N__law_right ["rows", "wrong"] (defScope s__law_right) := ⟨rfl, rfl, rfl, by decide +kernel, rfl, by decide +kernel, by decide +kernel⟩
abbrev s__law_all : Stmt := topS 14
abbrev N__law_all : List Str := ["many", "top", "found", "turn", "longer", "some", "one"]
theorem sc__law_all : FnScope N__law_all ["many", "top"] (defScope s__law_all) := ⟨rfl, rfl, rfl, by decide +kernel, rfl, by decide +kernel, by decide +kernel⟩
abbrev s__law_tried : Stmt := topS 15
abbrev N__law_tried : List Str := ["rows", "top", "left", "wide", "some"]
theorem sc__law_tried : FnScope N__law_tried ["rows"] (defScope s__law_tried) := ⟨rfl, rfl, rfl, by decide +kernel, rfl, by decide +kernel, by decide +kernel⟩
abbrev s_law : Stmt := topS 18
abbrev N_law : List Str := ["script", "rng", "lap", "turn", "top", "some", "rows", "spot", "wrong", "wide"]
theorem sc_law : FnScope N_law ["script"] (defScope s_law) := ⟨rfl, rfl, rfl, by decide +kernel, rfl, by decide +kernel, by decide +kernel⟩
structure Ad where
  a__law_rng : Addr
  d__law_rng : FuncData
  a__law_draw : Addr
  d__law_draw : FuncData
  a__law_counted : Addr
  d__law_counted : FuncData
  a__law_some : Addr
  d__law_some : FuncData
  a_count_pages : Addr
  d_count_pages : FuncData
  a_InvalidTable___init__ : Addr
  d_InvalidTable___init__ : FuncData
  a_lengths_of : Addr
  d_lengths_of : FuncData
  a__law_told : Addr
  d__law_told : FuncData
  a__law_moebius : Addr
  d__law_moebius : FuncData
  a__law_wrong : Addr
  d__law_wrong : FuncData
  a__law_right : Addr
  d__law_right : FuncData
  a__law_all : Addr
  d__law_all : FuncData
  a__law_tried : Addr
  d__law_tried : FuncData
  a_law : Addr
  d_law : FuncData
  c_InvalidTable : Addr
structure Txt (K : PySem.W.Frag) (mg : Str → Option Value) (A : Ad) : Prop where
  F__law_rng : Fun K "_law_rng" "_law_rng" s__law_rng A.a__law_rng A.d__law_rng
  g__law_rng : mg "_law_rng" = some (.ref A.a__law_rng)
  b__law_rng : Binds K A.d__law_rng ["script"] []
  F__law_draw : Fun K "_law_draw" "_law_draw" s__law_draw A.a__law_draw A.d__law_draw
  g__law_draw : mg "_law_draw" = some (.ref A.a__law_draw)
  b__law_draw : Binds K A.d__law_draw ["rng", "limit"] []
  F__law_counted : Fun K "_law_counted" "_law_counted" s__law_counted A.a__law_counted A.d__law_counted
  g__law_counted : mg "_law_counted" = some (.ref A.a__law_counted)
  b__law_counted : Binds K A.d__law_counted ["some", "wide"] []
  F__law_some : Fun K "_law_some" "_law_some" s__law_some A.a__law_some A.d__law_some
  g__law_some : mg "_law_some" = some (.ref A.a__law_some)
  b__law_some : Binds K A.d__law_some ["rng", "most", "longest"] []
  F_count_pages : Fun K "count_pages" "count_pages" s_count_pages A.a_count_pages A.d_count_pages
  g_count_pages : mg "count_pages" = some (.ref A.a_count_pages)
  b_count_pages : Binds K A.d_count_pages ["book", "size"] []
  F_InvalidTable___init__ : Fun K "__init__" "InvalidTable.__init__" s_InvalidTable___init__ A.a_InvalidTable___init__ A.d_InvalidTable___init__
  b_InvalidTable___init__ : Binds K A.d_InvalidTable___init__ ["self", "value"] []
  F_lengths_of : Fun K "lengths_of" "lengths_of" s_lengths_of A.a_lengths_of A.d_lengths_of
  g_lengths_of : mg "lengths_of" = some (.ref A.a_lengths_of)
  b_lengths_of : Binds K A.d_lengths_of ["table"] []
  F__law_told : Fun K "_law_told" "_law_told" s__law_told A.a__law_told A.d__law_told
  g__law_told : mg "_law_told" = some (.ref A.a__law_told)
  b__law_told : Binds K A.d__law_told ["rows"] []
  F__law_moebius : Fun K "_law_moebius" "_law_moebius" s__law_moebius A.a__law_moebius A.d__law_moebius
  g__law_moebius : mg "_law_moebius" = some (.ref A.a__law_moebius)
  b__law_moebius : Binds K A.d__law_moebius ["number"] []
  F__law_wrong : Fun K "_law_wrong" "_law_wrong" s__law_wrong A.a__law_wrong A.d__law_wrong
  g__law_wrong : mg "_law_wrong" = some (.ref A.a__law_wrong)
  b__law_wrong : Binds K A.d__law_wrong ["rows"] []
  F__law_right : Fun K "_law_right" "_law_right" s__law_right A.a__law_right A.d__law_right
  g__law_right : mg "_law_right" = some (.ref A.a__law_right)
  b__law_right : Binds K A.d__law_right ["rows", "wrong"] []
  F__law_all : Fun K "_law_all" "_law_all" s__law_all A.a__law_all A.d__law_all
  g__law_all : mg "_law_all" = some (.ref A.a__law_all)
  b__law_all : Binds K A.d__law_all ["many", "top"] []
  F__law_tried : Fun K "_law_tried" "_law_tried" s__law_tried A.a__law_tried A.d__law_tried
  g__law_tried : mg "_law_tried" = some (.ref A.a__law_tried)
  b__law_tried : Binds K A.d__law_tried ["rows"] []
  F_law : Fun K "law" "law" s_law A.a_law A.d_law
  g_law : mg "law" = some (.ref A.a_law)
  b_law : Binds K A.d_law ["script"] []
  z_abs : mg "abs" = none
  z_isinstance : mg "isinstance" = none
  z_len : mg "len" = none
  z_list : mg "list" = none
  z_max : mg "max" = none
  z_min : mg "min" = none
  z_range : mg "range" = none
  z_repr : mg "repr" = none
  z_sorted : mg "sorted" = none
  z_sum : mg "sum" = none
  m_InvalidTable : mg "InvalidTable" = some (.ref A.c_InvalidTable)
  C_InvalidTable : OexC K A.c_InvalidTable
  V_InvalidTable : ExcC K A.c_InvalidTable
  X_InvalidTable : XfC K A.c_InvalidTable
  n_InvalidTable : PySem.W.findIn K (.ref A.c_InvalidTable) "value" = some none
  i_InvalidTable : PySem.W.findIn K (.ref A.c_InvalidTable) "__init__" = some (some (.ref A.a_InvalidTable___init__))
  t_InvalidTable : PySem.W.typeIn K (.ref A.a_InvalidTable___init__) = some (.type "function")
  k_InvalidTable : KBn K A.d_InvalidTable___init__ ["self", "value"] 1 ["value"] (fun us ws => us ++ ws) (fun vs zs => vs ++ zs)
  q_InvalidTable_InvalidTable : PySem.W.kitOne K (.ref A.c_InvalidTable) (.ref A.c_InvalidTable) = some true
  q_InvalidTable_ValueError : PySem.W.kitOne K (.ref A.c_InvalidTable) (.type "ValueError") = some true
  e_InvalidTable_InvalidTable : PySem.W.exmOne K (.ref A.c_InvalidTable) (.ref A.c_InvalidTable) = some true
def HS.oI : Option Int → V
  | none => .non
  | some z => .int z
/-- the source of draws at s, its digits at d; n: at most so many mixed draws so far -/
def Src (H : Hp) (s d : Addr) (n : Nat) : Prop := s ≠ d ∧ ∃ (gs : List Int) (l m c : Int), H s = some (.lst [.ref d, .int l, .int m, .int c]) ∧ H d = some (.lst (gs.map V.int)) ∧ (∀ x ∈ gs, 0 ≤ x) ∧ gs.length ≤ 63 ∧ 0 ≤ l ∧ 0 ≤ m ∧ m < 2 ^ 61 ∧ 0 ≤ c ∧ c ≤ n
/-- lengths of chapters -/
def Book (ls : List Int) : Prop := ∀ x ∈ ls, 1 ≤ x ∧ x < 10 ^ 30
theorem Src.keep {H H' : Hp} {s d : Addr} {n : Nat} (h : Src H s d n) (e1 : H' s = H s) (e2 : H' d = H d) : Src H' s d n := by
  obtain ⟨hsd, gs, l, m, c, h1, h2, h3⟩ := h
  exact ⟨hsd, gs, l, m, c, by rw [e1]; exact h1, by rw [e2]; exact h2, h3⟩
theorem Src.new {H : Hp} {s d p : Addr} {n : Nat} {o : HO} (h : Src H s d n) (hp : H p = none) : Src (upd H p o) s d n := by
  obtain ⟨hsd, gs, l, m, c, h1, h2, h3⟩ := h
  exact ⟨hsd, gs, l, m, c, by rw [upd_ne (ne_of_none h1 hp)]; exact h1, by rw [upd_ne (ne_of_none h2 hp)]; exact h2, h3⟩
theorem Src.put {H : Hp} {s d p : Addr} {n : Nat} {o : HO} (h : Src H s d n) (e1 : p ≠ s) (e2 : p ≠ d) : Src (upd H p o) s d n := by
  obtain ⟨hsd, gs, l, m, c, h1, h2, h3⟩ := h
  exact ⟨hsd, gs, l, m, c, by rw [upd_ne e1.symm]; exact h1, by rw [upd_ne e2.symm]; exact h2, h3⟩
theorem Src.ne1 {H : Hp} {s d p : Addr} {n : Nat} (h : Src H s d n) (hp : H p = none) : p ≠ s := by
  obtain ⟨hsd, gs, l, m, c, h1, h2, h3⟩ := h
  exact (ne_of_none h1 hp).symm
theorem Src.ne2 {H : Hp} {s d p : Addr} {n : Nat} (h : Src H s d n) (hp : H p = none) : p ≠ d := by
  obtain ⟨hsd, gs, l, m, c, h1, h2, h3⟩ := h
  exact (ne_of_none h2 hp).symm
theorem Src.up {H : Hp} {s d : Addr} {n m : Nat} (h : Src H s d n) (e : n ≤ m) : Src H s d m := by
  obtain ⟨hsd, gs, l, m', c, h1, h2, h3, h4, h5, h6, h7, h8, h9⟩ := h
  exact ⟨hsd, gs, l, m', c, h1, h2, h3, h4, h5, h6, h7, h8, by omega⟩
/-- the page count of an edition -/
def pcount (ls : List Int) (j : Int) : Int := (ls.map fun x => (x + j - 1) / j).sum
theorem pcount_nil (j : Int) : pcount [] j = 0 := rfl
theorem pcount_cons (x : Int) (ls : List Int) (j : Int) : pcount (x :: ls) j = (x + j - 1) / j + pcount ls j := by unfold pcount; rw [List.map_cons, List.sum_cons]
theorem pcount_append (xs ys : List Int) (j : Int) : pcount (xs ++ ys) j = pcount xs j + pcount ys j := by unfold pcount; rw [List.map_append, List.sum_append]
/-- a page for each chapter, and one more for each full page of its other lines -/
theorem pcount_less1 {j : Int} (hj : 1 ≤ j) : ∀ ls : List Int, (ls.length : Int) + (ls.map fun x => (x - 1) / j).sum = pcount ls j
  | [] => rfl
  | x :: r => by
    have e : (x + j - 1) / j = (x - 1) / j + 1 := by rw [show x + j - 1 = (x - 1) + j * 1 by omega, Int.add_mul_ediv_left _ _ (by omega)]
    rw [pcount_cons, ← pcount_less1 hj r, e, List.length_cons, List.map_cons, List.sum_cons]
    push_cast
    omega
theorem pcount_take {ls : List Int} {i : Nat} {x : Int} (j : Int) (h : ls[i]? = some x) : pcount (ls.take (i + 1)) j = pcount (ls.take i) j + (x + j - 1) / j := by
  obtain ⟨h1, h2⟩ := List.getElem?_eq_some_iff.mp h
  rw [List.take_add_one, h, pcount_append]
  show _ + pcount [x] j = _
  rw [pcount_cons, pcount_nil]; omega
theorem ceil_pos {x j : Int} (hx : 1 ≤ x) (hj : 1 ≤ j) : 1 ≤ (x + j - 1) / j := by
  rw [Int.le_ediv_iff_mul_le (by omega)]; omega
theorem pcount_len {ls : List Int} {j : Int} (hp : ∀ x ∈ ls, 1 ≤ x) (hj : 1 ≤ j) : (ls.length : Int) ≤ pcount ls j := by
  induction ls with
  | nil => exact Int.le_refl 0
  | cons x r ih =>
    rw [pcount_cons, List.length_cons]
    have := ceil_pos (hp x List.mem_cons_self) hj
    have := ih fun y hy => hp y (List.mem_cons_of_mem _ hy)
    omega
theorem pcount_pos {ls : List Int} {j : Int} (hp : ∀ x ∈ ls, 1 ≤ x) (hj : 1 ≤ j) : 0 ≤ pcount ls j := by
  have := pcount_len hp hj; omega
theorem take_all {ls : List Int} {P : Int → Prop} (h : ∀ x ∈ ls, P x) (n : Nat) : ∀ x ∈ ls.take n, P x := fun x hx => h x (List.mem_of_mem_take hx)
theorem Src.same {H H' : Hp} {s d : Addr} {n : Nat} (h : Src H s d n) (k : HS.Keep (fun _ => False) H H') : Src H' s d n := by
  obtain ⟨hsd, gs, l, m, c, h1, h2, h3⟩ := h
  exact ⟨hsd, gs, l, m, c, k _ _ h1 id, k _ _ h2 id, h3⟩
theorem sum_book {ls : List Int} (h : Book ls) : (ls.length : Int) ≤ ls.sum ∧ ls.sum ≤ ls.length * (10 ^ 30) := by
  induction ls with
  | nil => exact ⟨Int.le_refl _, Int.le_refl _⟩
  | cons x r ih =>
    have := ih fun y hy => h y (List.mem_cons_of_mem _ hy)
    have := h x List.mem_cons_self
    rw [List.sum_cons, List.length_cons]
    push_cast
    omega
/-! Sums of ceilings. -/
theorem ceil_le {x j q : Int} (hj : 1 ≤ j) : (x + j - 1) / j ≤ q ↔ x ≤ q * j := by
  rw [← Int.lt_add_one_iff, Int.ediv_lt_iff_lt_mul (by omega), Int.add_mul]
  omega
theorem ceil_up {x j : Int} (hj : 1 ≤ j) : x ≤ (x + j - 1) / j * j := (ceil_le hj).mp (Int.le_refl _)
theorem ceil_dn {x j : Int} (hj : 1 ≤ j) : (x + j - 1) / j * j ≤ x + j - 1 := Int.ediv_mul_le _ (by omega)
theorem ceil_nonneg {x j : Int} (hx : 0 ≤ x) (hj : 1 ≤ j) : 0 ≤ (x + j - 1) / j := Int.ediv_nonneg (by omega) (by omega)
theorem pcount_up (ls : List Int) {j : Int} (hj : 1 ≤ j) : ls.sum ≤ pcount ls j * j := by
  induction ls with
  | nil => rw [pcount_nil]; simp
  | cons x r ih =>
    rw [pcount_cons, List.sum_cons, Int.add_mul]
    have := ceil_up (x := x) hj
    omega
theorem pcount_ceil (ls : List Int) {j : Int} (hj : 1 ≤ j) : (ls.sum + j - 1) / j ≤ pcount ls j := (ceil_le hj).mpr (pcount_up ls hj)
theorem pcount_dn (ls : List Int) {j : Int} (hj : 1 ≤ j) : (pcount ls j - ls.length) * j ≤ ls.sum - ls.length := by
  induction ls with
  | nil => rw [pcount_nil]; simp
  | cons x r ih =>
    rw [pcount_cons, List.sum_cons, List.length_cons]
    have := ceil_dn (x := x) hj
    have e : ((x + j - 1) / j + pcount r j - ((r.length + 1 : Nat) : Int)) * j = (x + j - 1) / j * j - j + (pcount r j - r.length) * j := by
      rw [show ((x + j - 1) / j + pcount r j - ((r.length + 1 : Nat) : Int)) = ((x + j - 1) / j - 1) + (pcount r j - r.length) by push_cast; omega, Int.add_mul, Int.sub_mul, Int.one_mul]
    rw [e]
    push_cast
    omega
theorem pcount_most (ls : List Int) {j : Int} (hj : 1 ≤ j) : pcount ls j ≤ ls.length + (ls.sum - ls.length) / j := by
  have := (Int.le_ediv_iff_mul_le (by omega : 0 < j)).mpr (pcount_dn ls hj)
  omega
theorem pcount_anti {ls : List Int} {j k : Int} (hp : ∀ x ∈ ls, 1 ≤ x) (hj : 1 ≤ j) (hk : j ≤ k) : pcount ls k ≤ pcount ls j := by
  induction ls with
  | nil => exact Int.le_refl _
  | cons x r ih =>
    rw [pcount_cons, pcount_cons]
    have h1 := ih fun y hy => hp y (List.mem_cons_of_mem _ hy)
    have hx := hp x List.mem_cons_self
    have h2 : (x + k - 1) / k ≤ (x + j - 1) / j := (ceil_le (by omega)).mpr (Int.le_trans (ceil_up hj) (Int.mul_le_mul_of_nonneg_left hk (ceil_nonneg (by omega) hj)))
    omega
theorem pcount_mult {ls : List Int} {j m : Int} (hj : 1 ≤ j) (hm : 1 ≤ m) : pcount ls j ≤ m * pcount ls (j * m) := by
  have hjm : 1 ≤ j * m := by have := Int.mul_le_mul hj hm (by omega) (by omega); omega
  induction ls with
  | nil => rw [pcount_nil, pcount_nil, Int.mul_zero]; exact Int.le_refl _
  | cons x r ih =>
    rw [pcount_cons, pcount_cons, Int.mul_add]
    have h2 : (x + j - 1) / j ≤ m * ((x + j * m - 1) / (j * m)) := (ceil_le hj).mpr (by
      have := ceil_up (x := x) hjm
      rw [show m * ((x + j * m - 1) / (j * m)) * j = (x + j * m - 1) / (j * m) * (j * m) by rw [Int.mul_comm m, Int.mul_assoc, Int.mul_comm m j]]
      exact this)
    omega
theorem pcount_reverse (ls : List Int) (j : Int) : pcount ls.reverse j = pcount ls j := by
  induction ls with
  | nil => rfl
  | cons x r ih => rw [List.reverse_cons, pcount_append, ih, pcount_cons, pcount_cons, pcount_nil]; omega
theorem pcount_cut (ls : List Int) (n : Nat) (j : Int) : pcount (ls.take n) j + pcount (ls.drop n) j = pcount ls j := by
  rw [← pcount_append, List.take_append_drop]
theorem ceil_join {x y j : Int} (hj : 1 ≤ j) : (x + y + j - 1) / j ≤ (x + j - 1) / j + (y + j - 1) / j ∧ (x + j - 1) / j + (y + j - 1) / j ≤ (x + y + j - 1) / j + 1 := by
  have a1 := ceil_up (x := x) hj
  have a2 := ceil_dn (x := x) hj
  have b1 := ceil_up (x := y) hj
  have b2 := ceil_dn (x := y) hj
  have c1 := ceil_up (x := x + y) hj
  refine ⟨(ceil_le hj).mpr (by rw [Int.add_mul]; omega), ?_⟩
  generalize (x + j - 1) / j = p at *
  generalize (y + j - 1) / j = q at *
  generalize (x + y + j - 1) / j = r at *
  apply Int.le_of_lt_add_one
  apply Int.lt_of_not_ge
  intro h
  have h1 : (r + 2) * j ≤ (p + q) * j := Int.mul_le_mul_of_nonneg_right (by omega) (by omega)
  rw [Int.add_mul, Int.add_mul] at h1
  omega
theorem pcount_sum {ls : List Int} {j : Int} (hp : ∀ x ∈ ls, 1 ≤ x) (hl : (ls.length : Int) ≤ ls.sum) (hj : 1 ≤ j) : pcount ls j ≤ ls.sum := by
  have := pcount_most ls hj
  have := Int.ediv_le_self j (show 0 ≤ ls.sum - ls.length by omega)
  omega
/-- the law's draws: three numbers in a list at s; n: at most so many mixed draws so far -/
def Rng (H : Hp) (s : Addr) (n : Nat) : Prop := ∃ l m c : Int, H s = some (.lst [.int l, .int m, .int c]) ∧ 0 ≤ l ∧ 0 ≤ m ∧ m < 2 ^ 61 ∧ 0 ≤ c ∧ c ≤ n
section
variable {H H' : Hp} {s p : Addr} {n m : Nat} {o : HO}
theorem Rng.keep (h : Rng H s n) (e : H' s = H s) : Rng H' s n := by
  obtain ⟨l, m, c, h1, h2⟩ := h
  exact ⟨l, m, c, by rw [e]; exact h1, h2⟩
theorem Rng.new (h : Rng H s n) (hp : H p = none) : Rng (upd H p o) s n := by
  obtain ⟨l, m, c, h1, h2⟩ := h
  exact ⟨l, m, c, by rw [upd_ne (ne_of_none h1 hp)]; exact h1, h2⟩
theorem Rng.put (h : Rng H s n) (e : p ≠ s) : Rng (upd H p o) s n := by
  obtain ⟨l, m, c, h1, h2⟩ := h
  exact ⟨l, m, c, by rw [upd_ne e.symm]; exact h1, h2⟩
theorem Rng.ne (h : Rng H s n) (hp : H p = none) : p ≠ s := by
  obtain ⟨l, m, c, h1, h2⟩ := h
  exact (ne_of_none h1 hp).symm
theorem Rng.up (h : Rng H s n) (e : n ≤ m) : Rng H s m := by
  obtain ⟨l, m', c, h1, h2, h3, h4, h5, h6⟩ := h
  exact ⟨l, m', c, h1, h2, h3, h4, h5, by omega⟩
theorem Rng.same (h : Rng H s n) (k : HS.Keep (fun _ => False) H H') : Rng H' s n := by
  obtain ⟨l, m', c, h1, h2⟩ := h
  exact ⟨l, m', c, k _ _ h1 id, h2⟩
end
/-- lengths of chapters, up to T -/
def Lens (ls : List Int) (T : Int) : Prop := ∀ x ∈ ls, 1 ≤ x ∧ x ≤ T
theorem Lens.one {ls : List Int} {T : Int} (h : Lens ls T) : ∀ x ∈ ls, 1 ≤ x := fun x hx => (h x hx).1
theorem pow_up (i : Nat) : (2 : Int) ^ (200 * (i + 1)) < 2 ^ (200 * (i + 1 + 1)) := by
  have e : (2 : Int) ^ (200 * (i + 1 + 1)) = 2 ^ (200 * (i + 1)) * 2 ^ 200 := by rw [← Int.pow_add, show 200 * (i + 1) + 200 = 200 * (i + 1 + 1) by omega]
  have z : (0 : Int) < 2 ^ (200 * (i + 1)) := Int.pow_pos (by decide)
  rw [e]
  generalize (2 : Int) ^ (200 * (i + 1)) = P at z ⊢
  omega
theorem rng_step {d s : Int} {i : Nat} (h0 : 0 ≤ d) (h : d < 2 ^ (200 * (i + 1))) (s0 : 0 ≤ s) (s1 : s < 10 ^ 60) : 0 ≤ d * 10 ^ 60 + s ∧ d * 10 ^ 60 + s < 2 ^ (200 * (i + 1 + 1)) := by
  have e : (2 : Int) ^ (200 * (i + 1 + 1)) = 2 ^ (200 * (i + 1)) * 2 ^ 200 := by rw [← Int.pow_add, show 200 * (i + 1) + 200 = 200 * (i + 1 + 1) by omega]
  rw [e]
  generalize (2 : Int) ^ (200 * (i + 1)) = P at h ⊢
  omega
/-- some chapters -/
def Ls (H : Hp) (p : Addr) (ls : List Int) : Prop := H p = some (.lst (ls.map V.int))
/-! Page counts of all sizes. -/
theorem perm_sum {xs ys : List Int} (p : xs.Perm ys) : xs.sum = ys.sum := by
  induction p with
  | nil => rfl
  | cons x _ ih => rw [List.sum_cons, List.sum_cons, ih]
  | swap x y l => simp only [List.sum_cons]; omega
  | trans _ _ a b => exact a.trans b
theorem pcount_perm {xs ys : List Int} (p : xs.Perm ys) (j : Int) : pcount xs j = pcount ys j := by
  unfold pcount
  exact perm_sum (p.map _)
/-- the page counts of the sizes 1 to T -/
def tabl (ls : List Int) (T : Nat) : List Int := (List.range T).map fun (i : Nat) => pcount ls ((i : Int) + 1)
theorem tabl_len (ls : List Int) (T : Nat) : (tabl ls T).length = T := by unfold tabl; rw [List.length_map, List.length_range]
theorem tabl_at {ls : List Int} {T i : Nat} (h : i < T) : (tabl ls T)[i]? = some (pcount ls ((i : Int) + 1)) := by
  unfold tabl; rw [List.getElem?_map, List.getElem?_range h]; rfl
theorem tabl_perm {xs ys : List Int} (p : xs.Perm ys) (T : Nat) : tabl xs T = tabl ys T := by
  unfold tabl
  exact List.map_congr_left fun i _ => pcount_perm p _
theorem tabl_take (ls : List Int) {i T : Nat} (h : i ≤ T) : (tabl ls T).take i = tabl ls i := by
  unfold tabl
  rw [← List.map_take, List.take_range, Nat.min_eq_left h]
theorem tabl_succ (ls : List Int) (T : Nat) : tabl ls (T + 1) = tabl ls T ++ [pcount ls ((T : Int) + 1)] := by
  unfold tabl; rw [List.range_succ, List.map_append]; rfl
theorem ceil_small {x j : Int} (h1 : 1 ≤ x) (h2 : x ≤ j) : (x + j - 1) / j = 1 := by
  have a : (x + j - 1) / j ≤ 1 := (ceil_le (by omega)).mpr (by omega)
  have b := ceil_pos h1 (by omega : 1 ≤ j)
  omega
theorem ceil_next {j : Int} (h : 1 ≤ j) : (j + 1 + j - 1) / j = 2 := by
  rw [show j + 1 + j - 1 = j * 2 by omega, Int.mul_ediv_cancel_left _ (by omega)]
theorem pcount_one {ls : List Int} {j : Int} (h : ∀ x ∈ ls, 1 ≤ x ∧ x ≤ j) : pcount ls j = ls.length := by
  induction ls with
  | nil => rfl
  | cons x r ih =>
    rw [pcount_cons, ceil_small (h x List.mem_cons_self).1 (h x List.mem_cons_self).2, ih fun y hy => h y (List.mem_cons_of_mem _ hy), List.length_cons]
    push_cast; omega
/-- the chapters of size + 1 lines, from the count of the size and the longer chapters -/
theorem pcount_split : ∀ {ls : List Int} {s : Int}, 1 ≤ s → (∀ x ∈ ls, 1 ≤ x) →
    pcount ls s = pcount (ls.filter fun x => decide (s + 1 < x)) s + ((ls.length : Int) - ((ls.filter fun x => decide (s + 1 < x)).length : Int)) + (ls.count (s + 1) : Int) ∧
    (ls.count (s + 1) : Int) ≤ (ls.length : Int) - ((ls.filter fun x => decide (s + 1 < x)).length : Int)
  | [], s, _, _ => ⟨rfl, by simp⟩
  | x :: r, s, hs, h => by
    obtain ⟨i1, i2⟩ := pcount_split (s := s) hs fun y hy => h y (List.mem_cons_of_mem _ hy)
    have hx := h x List.mem_cons_self
    rw [pcount_cons]
    by_cases c1 : s + 1 < x
    · rw [List.filter_cons_of_pos (by simp; omega), List.count_cons_of_ne (by omega), pcount_cons, List.length_cons, List.length_cons]
      push_cast; omega
    · rw [List.filter_cons_of_neg (by simp; omega), List.length_cons]
      by_cases c2 : x = s + 1
      · subst c2
        rw [List.count_cons_self, ceil_next hs]
        push_cast; omega
      · rw [List.count_cons_of_ne (by omega), ceil_small hx (by omega)]
        push_cast; omega
theorem found_is {ls : List Int} {s : Int} (hs : 1 ≤ s) (h : ∀ x ∈ ls, 1 ≤ x) :
    pcount ls s - pcount (HS.above ls (s + 1)) s - ((ls.length : Int) - ((HS.above ls (s + 1)).length : Int)) = (ls.count (s + 1) : Int) ∧ (ls.count (s + 1) : Int) ≤ (ls.length : Int) - ((HS.above ls (s + 1)).length : Int) := by
  obtain ⟨a, b⟩ := pcount_split (ls := HS.desc ls) hs fun x hx => h x (HS.desc_mem.mp hx)
  rw [pcount_perm (HS.desc_perm ls), HS.desc_len, HS.desc_count] at a
  rw [HS.desc_len, HS.desc_count] at b
  unfold HS.above
  omega
theorem counted_eq {x w : Int} (h : 1 ≤ w) : (x - 1) / w + 1 = (x + w - 1) / w := by
  rw [show x + w - 1 = (x - 1) + w * 1 by omega, Int.add_mul_ediv_left _ _ (by omega)]
theorem pcount_le_sum {ls : List Int} {j : Int} (h : ∀ x ∈ ls, 1 ≤ x) (hj : 1 ≤ j) : pcount ls j ≤ ls.sum := by
  induction ls with
  | nil => exact Int.le_refl _
  | cons x r ih =>
    rw [pcount_cons, List.sum_cons]
    have h1 := ih fun y hy => h y (List.mem_cons_of_mem _ hy)
    have hx := h x List.mem_cons_self
    have : (x + j - 1) / j ≤ x := (ceil_le hj).mpr (by have := Int.mul_le_mul_of_nonneg_left hj (show 0 ≤ x by omega); omega)
    omega
theorem lens_sum {ls : List Int} {T : Int} (h : Lens ls T) : 0 ≤ ls.sum ∧ ls.sum ≤ ls.length * T := by
  induction ls with
  | nil => exact ⟨Int.le_refl _, by simp⟩
  | cons x r ih =>
    obtain ⟨a, b⟩ := ih fun y hy => h y (List.mem_cons_of_mem _ hy)
    have hx := h x List.mem_cons_self
    rw [List.sum_cons, List.length_cons]
    push_cast
    rw [Int.add_mul]
    omega
theorem tabl_mem {ls : List Int} {T : Nat} {x : Int} (h : ∀ x ∈ ls, 1 ≤ x) (hx : x ∈ tabl ls T) : 0 ≤ x ∧ x ≤ ls.sum := by
  unfold tabl at hx
  obtain ⟨i, _, rfl⟩ := List.mem_map.mp hx
  exact ⟨pcount_pos h (by omega), pcount_le_sum h (by omega)⟩
theorem map_range_set {α : Type} {f g : Nat → α} {n i : Nat} (hi : i < n) (h : ∀ k, k ≠ i → f k = g k) : ((List.range n).map f).set i (g i) = (List.range n).map g := by
  apply List.ext_getElem?
  intro k
  rw [List.getElem?_set, List.length_map, List.length_range, List.getElem?_map, List.getElem?_map]
  by_cases e : i = k
  · subst e
    rw [if_pos rfl, if_pos hi, List.getElem?_range hi]
    rfl
  · rw [if_neg e]
    by_cases hk : k < n
    · rw [List.getElem?_range hk]
      show some (f k) = some (g k)
      rw [h k (fun z => e z.symm)]
    · rw [List.getElem?_eq_none (by rw [List.length_range]; omega)]
      rfl
theorem pcount_unit (ls : List Int) : pcount ls 1 = ls.sum := by
  induction ls with
  | nil => rfl
  | cons x r ih => rw [pcount_cons, ih, List.sum_cons, show x + 1 - 1 = x by omega, Int.ediv_one]
theorem tabl_vals (ls : List Int) (m : Int) : ((List.range m.toNat).map fun (i : Nat) => V.int (pcount ls ((i : Int) + 1))) = (tabl ls m.toNat).map V.int := by
  unfold tabl; rw [List.map_map]; rfl
/-- the reading of a table, from a size down: the lengths, or the size where it stops -/
def readT (rows : List Int) (ch : Int) : Nat → List Int → Int ⊕ List Int
  | 0, ls => .inr (ls ++ List.replicate (ch - ls.length).toNat 1)
  | s + 1, ls =>
    if rows.getD s 0 - pcount ls ((s : Int) + 1) - (ch - ls.length) < 0 ∨ ch - ls.length < rows.getD s 0 - pcount ls ((s : Int) + 1) - (ch - ls.length) then .inl ((s : Int) + 1)
    else readT rows ch s (ls ++ List.replicate (rows.getD s 0 - pcount ls ((s : Int) + 1) - (ch - ls.length)).toNat ((s : Int) + 2))
def readAll (rows : List Int) : Int ⊕ List Int :=
  match rows.getLast? with
  | none => .inr []
  | some c => if c < 0 then .inl rows.length else readT rows c (rows.length - 1) []
/-! Sums from 1 on, and the numbers of Moebius up to 300. -/
/-- f 1 + .. + f n -/
def sg : Nat → (Nat → Int) → Int
  | 0, _ => 0
  | n + 1, f => sg n f + f (n + 1)
theorem sg_congr {f g : Nat → Int} : ∀ {n : Nat}, (∀ i, 1 ≤ i → i ≤ n → f i = g i) → sg n f = sg n g
  | 0, _ => rfl
  | n + 1, h => by
    show sg n f + f (n + 1) = sg n g + g (n + 1)
    rw [sg_congr (n := n) fun i h1 h2 => h i h1 (by omega), h (n + 1) (by omega) (Nat.le_refl _)]
theorem sg_zero {f : Nat → Int} {n : Nat} (h : ∀ i, 1 ≤ i → i ≤ n → f i = 0) : sg n f = 0 := by
  rw [sg_congr h]
  induction n with
  | zero => rfl
  | succ n ih => show sg n _ + 0 = 0; rw [ih fun i h1 h2 => h i h1 (by omega)]; rfl
theorem sg_add (f g : Nat → Int) : ∀ n, sg n (fun i => f i + g i) = sg n f + sg n g
  | 0 => rfl
  | n + 1 => by
    show sg n (fun i => f i + g i) + (f (n + 1) + g (n + 1)) = sg n f + f (n + 1) + (sg n g + g (n + 1))
    rw [sg_add f g n]; omega
theorem sg_mul (c : Int) (f : Nat → Int) : ∀ n, sg n (fun i => c * f i) = c * sg n f
  | 0 => (Int.mul_zero c).symm
  | n + 1 => by
    show sg n (fun i => c * f i) + c * f (n + 1) = c * (sg n f + f (n + 1))
    rw [sg_mul c f n, Int.mul_add]
theorem sg_swap (a : Nat → Nat → Int) : ∀ n m, sg n (fun i => sg m (fun j => a i j)) = sg m (fun j => sg n (fun i => a i j))
  | 0, m => (sg_zero fun _ _ _ => rfl).symm
  | n + 1, m => by
    show sg n (fun i => sg m (fun j => a i j)) + sg m (fun j => a (n + 1) j) = sg m (fun j => sg n (fun i => a i j) + a (n + 1) j)
    rw [sg_swap a n m, ← sg_add]
/-- the multiples of k up to n -/
theorem sg_mult (F : Nat → Int) {k : Nat} (hk : 1 ≤ k) : ∀ n, sg (n / k) (fun j => F (j * k)) = sg n (fun m => if k ∣ m then F m else 0)
  | 0 => by rw [Nat.zero_div]; rfl
  | n + 1 => by
    have ih := sg_mult F hk n
    rw [Nat.succ_div]
    by_cases h : k ∣ n + 1
    · rw [if_pos h]
      show sg (n / k) (fun j => F (j * k)) + F ((n / k + 1) * k) = sg n _ + (if k ∣ n + 1 then F (n + 1) else 0)
      rw [ih, if_pos h]
      have e : (n / k + 1) * k = n + 1 := by
        have h1 := Nat.succ_div (a := n) (b := k)
        rw [if_pos h] at h1
        rw [← h1]
        exact Nat.div_mul_cancel h
      rw [e]
    · rw [if_neg h]
      show sg (n / k + 0) _ = sg n _ + (if k ∣ n + 1 then F (n + 1) else 0)
      rw [if_neg h, Nat.add_zero, ih, Int.add_zero]
/-- the number of Moebius, as a loop over the divisors finds it -/
def muGo : List Nat → Nat → Int → Int
  | [], _, f => f
  | p :: ps, n, f => if n % p = 0 then (if n / p % p = 0 then 0 else muGo ps (n / p) (0 - f)) else muGo ps n f
def mu (n : Nat) : Int := muGo (List.range' 2 (n - 1)) n 1
def muTab : List Int := (List.range 300).map fun i => mu (i + 1)
/-- the sum over the divisors of m of a table -/
def dvSum (m : Nat) : Nat → List Int → Int
  | _, [] => 0
  | k, x :: r => (if m % k = 0 then x else 0) + dvSum m (k + 1) r
def dvAll (t : List Int) : Bool := (List.range 301).all fun m => decide (m < 2) || (dvSum m 1 (t.take m) == 0)
theorem mu_all : dvAll muTab = true := by decide +kernel
theorem mu_one : mu 1 = 1 := by decide
theorem dvSum_sg (m : Nat) (g : Nat → Int) : ∀ (n k : Nat), dvSum m (k + 1) ((List.range n).map fun i => g (k + i + 1)) = sg n (fun i => if (k + i) ∣ m then g (k + i) else 0)
  | 0, _ => rfl
  | n + 1, k => by
    rw [List.range_succ_eq_map, List.map_cons, List.map_map]
    show (if m % (k + 1) = 0 then g (k + 0 + 1) else 0) + dvSum m (k + 1 + 1) (List.map _ (List.range n)) = _
    have e := dvSum_sg m g n (k + 1)
    rw [show (List.range n).map ((fun i => g (k + i + 1)) ∘ Nat.succ) = (List.range n).map fun i => g (k + 1 + i + 1) from List.map_congr_left fun i _ => by show g (k + (i + 1) + 1) = _; rw [show k + (i + 1) + 1 = k + 1 + i + 1 by omega], e]
    have s : ∀ (f : Nat → Int) (n : Nat), f 1 + sg n (fun i => f (i + 1)) = sg (n + 1) f := by
      intro f n
      induction n with
      | zero => show f 1 + 0 = 0 + f 1; omega
      | succ n ih => show f 1 + (sg n (fun i => f (i + 1)) + f (n + 1 + 1)) = sg (n + 1) f + f (n + 1 + 1); omega
    rw [← s (fun i => if (k + i) ∣ m then g (k + i) else 0) n]
    congr 1
    · by_cases h : m % (k + 1) = 0
      · rw [if_pos h, if_pos (Nat.dvd_of_mod_eq_zero h)]
      · rw [if_neg h, if_neg fun z => h (Nat.mod_eq_zero_of_dvd z)]
    · exact sg_congr fun i _ _ => by rw [show k + 1 + i = k + (i + 1) by omega]
theorem mu_div {m : Nat} (h1 : 2 ≤ m) (h2 : m ≤ 300) : sg m (fun k => if k ∣ m then mu k else 0) = 0 := by
  have a := mu_all
  unfold dvAll at a
  have b := List.all_eq_true.mp a m (List.mem_range.mpr (by omega))
  rw [Bool.or_eq_true] at b
  rcases b with b | b
  · have := of_decide_eq_true b; omega
  · have c : dvSum m 1 (muTab.take m) = 0 := of_decide_eq_true (by simpa using b)
    have d : muTab.take m = (List.range m).map fun i => mu (i + 1) := by
      unfold muTab
      rw [← List.map_take, List.take_range, Nat.min_eq_left h2]
    rw [d] at c
    have e := dvSum_sg m mu m 0
    rw [show (List.range m).map (fun i => mu (0 + i + 1)) = (List.range m).map fun i => mu (i + 1) from List.map_congr_left fun i _ => by rw [Nat.zero_add], c] at e
    refine (sg_congr fun i _ _ => ?_).trans e.symm
    rw [Nat.zero_add]
/-- beyond m no number divides m -/
theorem mu_div' {m n : Nat} (h0 : 1 ≤ m) (h : m ≤ n) (h2 : n ≤ 300) : sg n (fun k => if k ∣ m then mu k else 0) = if m = 1 then 1 else 0 := by
  have cut : ∀ n, m ≤ n → sg n (fun k => if k ∣ m then mu k else 0) = sg m (fun k => if k ∣ m then mu k else 0) := by
    intro n hn
    induction n with
    | zero => rw [Nat.le_zero.mp hn]
    | succ n ih =>
      by_cases e : m = n + 1
      · rw [e]
      · show sg n _ + (if n + 1 ∣ m then mu (n + 1) else 0) = _
        rw [if_neg fun z => by have := Nat.le_of_dvd (by omega) z; omega, ih (by omega), Int.add_zero]
  rw [cut n h]
  by_cases e : m = 1
  · subst e; rw [if_pos rfl]; show 0 + (if 1 ∣ 1 then mu 1 else 0) = 1; rw [if_pos (Nat.dvd_refl 1), mu_one]; rfl
  · rw [if_neg e]; exact mu_div (by omega) (by omega)
/-- the inversion: the sums over multiples, told back -/
theorem mu_inv (F : Nat → Int) {n : Nat} (h1 : 1 ≤ n) (h : n ≤ 300) : sg n (fun k => mu k * sg (n / k) (fun j => F (j * k))) = F 1 := by
  have a : sg n (fun k => mu k * sg (n / k) (fun j => F (j * k))) = sg n (fun k => sg n (fun m => mu k * (if k ∣ m then F m else 0))) := sg_congr fun k hk _ => by rw [sg_mult F hk n, ← sg_mul]
  rw [a, sg_swap]
  have b : sg n (fun m => sg n (fun k => mu k * (if k ∣ m then F m else 0))) = sg n (fun m => if m = 1 then F 1 else 0) := sg_congr fun m hm hmn => by
    rw [show sg n (fun k => mu k * (if k ∣ m then F m else 0)) = F m * sg n (fun k => if k ∣ m then mu k else 0) from by
      rw [← sg_mul]
      exact sg_congr fun k _ _ => by by_cases z : k ∣ m <;> simp [z, Int.mul_comm]]
    rw [mu_div' hm hmn h]
    by_cases e : m = 1
    · subst e; rw [if_pos rfl, if_pos rfl, Int.mul_one]
    · rw [if_neg e, if_neg e, Int.mul_zero]
  rw [b]
  clear a b
  induction n with
  | zero => omega
  | succ n ih =>
    show sg n _ + (if n + 1 = 1 then F 1 else 0) = F 1
    by_cases e : n = 0
    · subst e; show 0 + (if 0 + 1 = 1 then F 1 else 0) = F 1; rw [if_pos rfl, Int.zero_add]
    · rw [ih (by omega) (by omega), if_neg (by omega), Int.add_zero]
/-! Reading a table, and the sums by which another finds where it stops. -/
def hereW (rows : List Int) (c : Int) (w : Nat) : Int := sg (rows.length / w) fun k => mu k * (rows.getD (k * w - 1) 0 - c)
def wrongGo (rows : List Int) (c : Int) : Nat → Int → Option Int
  | 0, _ => none
  | s + 1, late => if late ≤ hereW rows c (s + 1) ∧ hereW rows c (s + 1) ≤ c then wrongGo rows c s (hereW rows c (s + 1)) else some ((s : Int) + 1)
def wrongT (rows : List Int) : Option Int :=
  match rows.getLast? with
  | none => none
  | some c => if c < 0 then some rows.length else wrongGo rows c (rows.length - 1) 0
/-- the lengths above u -/
def gab (ls : List Int) (u : Nat) : Int := (ls.filter fun x => decide ((u : Int) < x)).length
theorem ceil_steps {v : Nat} (hv : 1 ≤ v) {x : Int} (hx : 1 ≤ x) : ∀ n : Nat, sg n (fun j => if ((j * v : Nat) : Int) < x then 1 else 0) = min (n : Int) ((x - 1) / v)
  | 0 => by
    have : 0 ≤ (x - 1) / (v : Int) := Int.ediv_nonneg (by omega) (by omega)
    show (0 : Int) = _
    rw [Int.min_def]; split <;> omega
  | n + 1 => by
    show sg n _ + (if (((n + 1) * v : Nat) : Int) < x then 1 else 0) = _
    rw [ceil_steps hv hx n]
    have key : (((n + 1) * v : Nat) : Int) < x ↔ (n : Int) + 1 ≤ (x - 1) / v := by
      rw [Int.le_ediv_iff_mul_le (by omega)]
      push_cast
      omega
    by_cases h : (((n + 1) * v : Nat) : Int) < x
    · rw [if_pos h]
      have := key.mp h
      rw [Int.min_def, Int.min_def]
      push_cast
      repeat' split
      all_goals omega
    · rw [if_neg h]
      have : ¬ (n : Int) + 1 ≤ (x - 1) / v := fun z => h (key.mpr z)
      rw [Int.min_def, Int.min_def]
      push_cast
      repeat' split
      all_goals omega
theorem pcount_steps {v top : Nat} (hv : 1 ≤ v) : ∀ {ls : List Int}, (∀ x ∈ ls, 1 ≤ x ∧ x ≤ top) → pcount ls v - ls.length = sg (top / v) (fun j => gab ls (j * v))
  | [], _ => (sg_zero fun _ _ _ => rfl).symm
  | x :: r, h => by
    have ih := pcount_steps hv (ls := r) fun y hy => h y (List.mem_cons_of_mem _ hy)
    obtain ⟨h1, h2⟩ := h x List.mem_cons_self
    have e1 : (x + (v : Int) - 1) / v = (x - 1) / v + 1 := (counted_eq (by omega)).symm
    have e2 := ceil_steps hv h1 (top / v)
    have e3 : (x - 1) / (v : Int) ≤ ((top / v : Nat) : Int) := by
      rw [Int.natCast_ediv]
      exact Int.ediv_le_ediv (by omega) (by omega)
    rw [Int.min_eq_right e3] at e2
    rw [pcount_cons, e1, List.length_cons]
    rw [show sg (top / v) (fun j => gab (x :: r) (j * v)) = sg (top / v) (fun j => (if ((j * v : Nat) : Int) < x then 1 else 0) + gab r (j * v)) from sg_congr fun j _ _ => by
      unfold gab
      by_cases z : ((j * v : Nat) : Int) < x
      · rw [List.filter_cons_of_pos (by simpa using z), if_pos z, List.length_cons]; push_cast; omega
      · rw [List.filter_cons_of_neg (by simpa using z), if_neg z]; omega]
    rw [sg_add, e2, ← ih]
    push_cast
    omega
theorem gab_all {ls : List Int} {u : Nat} (h : ∀ x ∈ ls, (u : Int) < x) : gab ls u = ls.length := by
  unfold gab
  rw [List.filter_eq_self.mpr fun x hx => decide_eq_true (h x hx)]
theorem pcount_app (a b : List Int) (j : Int) : pcount (a ++ b) j = pcount a j + pcount b j := by
  unfold pcount
  rw [List.map_append, List.sum_append]
theorem pcount_rep (x j : Int) : ∀ n : Nat, pcount (List.replicate n x) j = n * ((x + j - 1) / j)
  | 0 => by rw [show pcount (List.replicate 0 x) j = 0 from rfl]; simp
  | n + 1 => by
    rw [List.replicate_succ, pcount_cons, pcount_rep x j n]
    push_cast
    rw [Int.add_mul, Int.one_mul]; omega
/-- the lengths that are read from the sizes above s -/
structure Half (rows : List Int) (c : Int) (s : Nat) (ls : List Int) : Prop where
  mem : ∀ x ∈ ls, (s : Int) + 2 ≤ x ∧ x ≤ rows.length
  len : (ls.length : Int) ≤ c
  dsc : ls.Pairwise (· ≥ ·)
  tab : ∀ v : Nat, s < v → v ≤ rows.length → rows.getD (v - 1) 0 = pcount ls v + (c - ls.length)
/-- one step: what the sums find is what the reading finds -/
theorem half_here {rows : List Int} {c : Int} {s : Nat} {ls : List Int} (h : Half rows c (s + 1) ls) (hs : s + 1 ≤ rows.length) (hn : rows.length ≤ 300) :
    hereW rows c (s + 1) = (rows.getD s 0 - pcount ls ((s : Int) + 1) - (c - ls.length)) + ls.length := by
  have n1 : 1 ≤ rows.length / (s + 1) := (Nat.le_div_iff_mul_le (by omega)).mpr (by omega)
  have n2 : rows.length / (s + 1) ≤ 300 := Nat.le_trans (Nat.div_le_self _ _) hn
  have hm : ∀ x ∈ ls, 1 ≤ x ∧ x ≤ (rows.length : Int) := fun x hx => by have := h.mem x hx; push_cast at this; omega
  have P : ∀ v : Nat, s + 1 < v → v ≤ rows.length → rows.getD (v - 1) 0 - c = sg (rows.length / v) (fun j => gab ls (j * v)) := fun v h1 h2 => by
    rw [← pcount_steps (by omega) hm, h.tab v h1 h2]; omega
  have W := pcount_steps (v := s + 1) (top := rows.length) (by omega) hm
  push_cast at W
  generalize hnn : rows.length / (s + 1) = n at n1 n2 W
  obtain ⟨m, rfl⟩ : ∃ m, n = m + 1 := ⟨n - 1, by omega⟩
  have sh : ∀ (f : Nat → Int) (n : Nat), sg (n + 1) f = f 1 + sg n (fun i => f (i + 1)) := by
    intro f n
    induction n with
    | zero => show 0 + f 1 = f 1 + 0; omega
    | succ n ih => show sg (n + 1) f + f (n + 1 + 1) = f 1 + (sg n (fun i => f (i + 1)) + f (n + 1 + 1)); rw [ih]; omega
  have g1 : gab ls (s + 1) = ls.length := gab_all fun x hx => by have := h.mem x hx; push_cast at this ⊢; omega
  rw [sh, Nat.one_mul, g1] at W
  generalize hR : sg m (fun i => gab ls ((i + 1) * (s + 1))) = R at W
  have inv := mu_inv (fun q => if q = 1 then rows.getD s 0 - c - R else gab ls (q * (s + 1))) n1 n2
  rw [if_pos rfl] at inv
  have e : hereW rows c (s + 1) = sg (m + 1) (fun k => mu k * sg ((m + 1) / k) (fun j => (fun q => if q = 1 then rows.getD s 0 - c - R else gab ls (q * (s + 1))) (j * k))) := by
    unfold hereW
    rw [hnn]
    refine sg_congr fun k hk hkn => ?_
    congr 1
    by_cases k1 : k = 1
    · subst k1
      rw [Nat.div_one, sh, Nat.one_mul, Nat.add_sub_cancel, Nat.one_mul]
      show rows.getD s 0 - c = (if 1 = 1 then rows.getD s 0 - c - R else gab ls (1 * (s + 1))) + sg m fun i => if (i + 1) * 1 = 1 then rows.getD s 0 - c - R else gab ls ((i + 1) * 1 * (s + 1))
      rw [if_pos rfl]
      rw [show sg m (fun i => if (i + 1) * 1 = 1 then rows.getD s 0 - c - R else gab ls ((i + 1) * 1 * (s + 1))) = R from by
        rw [← hR]
        exact sg_congr fun i h1 _ => by rw [Nat.mul_one, if_neg (by omega)]]
      omega
    · have kk : 2 ≤ k := by omega
      have le : k * (s + 1) ≤ rows.length := by
        have := Nat.div_mul_le_self rows.length (s + 1)
        rw [hnn] at this
        exact Nat.le_trans (Nat.mul_le_mul_right _ hkn) this
      have lt : s + 1 < k * (s + 1) := by
        have := Nat.mul_le_mul_right (s + 1) kk
        omega
      rw [P _ lt le, Nat.mul_comm k (s + 1), ← Nat.div_div_eq_div_mul, hnn]
      exact sg_congr fun j h1 _ => by
        have : 2 ≤ j * k := Nat.le_trans kk (Nat.le_mul_of_pos_left k h1)
        show _ = if j * k = 1 then _ else gab ls (j * k * (s + 1))
        rw [if_neg (by omega), Nat.mul_comm (s + 1) k, Nat.mul_assoc]
  rw [e, inv]
  omega
theorem half_step {rows : List Int} {c : Int} {s : Nat} {ls : List Int} (h : Half rows c (s + 1) ls) (hs : s + 1 < rows.length) (h0 : 0 ≤ rows.getD s 0 - pcount ls ((s : Int) + 1) - (c - ls.length))
    (h1 : rows.getD s 0 - pcount ls ((s : Int) + 1) - (c - ls.length) ≤ c - ls.length) : Half rows c s (ls ++ List.replicate (rows.getD s 0 - pcount ls ((s : Int) + 1) - (c - ls.length)).toNat ((s : Int) + 2)) := by
  generalize hf : rows.getD s 0 - pcount ls ((s : Int) + 1) - (c - ls.length) = f at h0 h1 ⊢
  have ef : (f.toNat : Int) = f := Int.toNat_of_nonneg h0
  refine ⟨fun x hx => ?_, ?_, ?_, fun v hv1 hv2 => ?_⟩
  · rcases List.mem_append.mp hx with q | q
    · have := h.mem x q; push_cast at this; omega
    · have := (List.mem_replicate.mp q).2; subst this; omega
  · rw [List.length_append, List.length_replicate]; push_cast; omega
  · exact List.pairwise_append.mpr ⟨h.dsc, List.pairwise_replicate.mpr (.inr (Int.le_refl _)), fun x hx y hy => by
      have := h.mem x hx
      have e := (List.mem_replicate.mp hy).2
      subst e
      push_cast at this
      show (s : Int) + 2 ≤ x
      omega⟩
  · rw [pcount_app, pcount_rep, List.length_append, List.length_replicate]
    push_cast
    by_cases z : v = s + 1
    · subst z
      have := ceil_next (j := (s : Int) + 1) (by omega)
      push_cast
      rw [show (s : Int) + 2 + (s + 1) - 1 = (s : Int) + 1 + 1 + (s + 1) - 1 by omega, this, ef]
      omega
    · rw [ceil_small (by omega) (by omega : (s : Int) + 2 ≤ v), h.tab v (by omega) hv2]
      omega
theorem read_go {rows : List Int} {c : Int} (hn : rows.length ≤ 300) : ∀ {s : Nat} {ls : List Int}, Half rows c s ls → s < rows.length →
    (∀ w, readT rows c s ls = .inl w → wrongGo rows c s ls.length = some w) ∧
    (∀ rs, readT rows c s ls = .inr rs → wrongGo rows c s ls.length = none ∧ ∃ m, Half rows c 0 m ∧ rs = m ++ List.replicate (c - m.length).toNat 1)
  | 0, ls, h, _ => ⟨fun w e => (by cases e), fun rs e => ⟨rfl, ls, h, by injection e with e; exact e.symm⟩⟩
  | s + 1, ls, h, hs => by
    have e := half_here h (by omega) hn
    rw [readT, wrongGo, e]
    generalize hf : rows.getD s 0 - pcount ls ((s : Int) + 1) - (c - ls.length) = f
    by_cases z : f < 0 ∨ c - ls.length < f
    · rw [if_pos z, if_neg (by omega)]
      exact ⟨fun w q => by injection q with q; rw [q], fun rs q => by cases q⟩
    · rw [if_neg z, if_pos (by omega)]
      have st := half_step h hs (by omega) (by omega)
      rw [hf] at st
      have r := read_go hn st (by omega)
      rw [show ((ls ++ List.replicate f.toNat ((s : Int) + 2)).length : Int) = f + ls.length from by rw [List.length_append, List.length_replicate]; push_cast; omega] at r
      exact r
theorem read_all {rows : List Int} (hn : rows.length ≤ 300) : (∀ w, readAll rows = .inl w → wrongT rows = some w) ∧
    (∀ rs, readAll rows = .inr rs → wrongT rows = none ∧ tabl rs rows.length = rows ∧ (∀ x ∈ rs, 1 ≤ x ∧ x ≤ rows.length) ∧ rs.Pairwise (· ≥ ·)) := by
  unfold readAll wrongT
  cases hl : rows.getLast? with
  | none =>
    have e0 : rows = [] := List.getLast?_eq_none_iff.mp hl
    subst e0
    refine ⟨fun w q => ?_, fun rs q => ?_⟩
    · cases (show (Sum.inr [] : Int ⊕ List Int) = Sum.inl w from q)
    · have e := Sum.inr.inj (show (Sum.inr [] : Int ⊕ List Int) = Sum.inr rs from q)
      subst e
      exact ⟨rfl, rfl, by simp, .nil⟩
  | some c =>
    obtain ⟨r0, er⟩ := List.getLast?_eq_some_iff.mp hl
    have hl1 : rows.length = r0.length + 1 := by rw [er, List.length_append]; rfl
    show (∀ w, (if c < 0 then _ else _) = _ → (if c < 0 then _ else _) = _) ∧ (∀ rs, (if c < 0 then _ else _) = _ → (if c < 0 then _ else _) = _ ∧ _)
    by_cases z : c < 0
    · rw [if_pos z, if_pos z]
      exact ⟨fun w q => by injection q with q; rw [q], fun rs q => by cases q⟩
    · rw [if_neg z, if_neg z]
      have H0 : Half rows c (rows.length - 1) [] := ⟨by simp, by simp; omega, .nil, fun v h1 h2 => by
        have ev : v - 1 = r0.length := by omega
        rw [ev, er, List.getD_eq_getElem?_getD, List.getElem?_append_right (Nat.le_refl _), Nat.sub_self]
        show c = pcount [] v + (c - 0)
        rw [show pcount [] (v : Int) = 0 from rfl]; omega⟩
      obtain ⟨a, b⟩ := read_go hn H0 (by omega)
      refine ⟨a, fun rs q => ?_⟩
      obtain ⟨b1, m, b2, b3⟩ := b rs q
      refine ⟨b1, ?_, ?_, ?_⟩
      · apply List.ext_getElem?
        intro i
        by_cases hi : i < rows.length
        · rw [tabl_at hi]
          have t := b2.tab (i + 1) (by omega) (by omega)
          have lm := b2.len
          rw [Nat.add_sub_cancel, List.getD_eq_getElem?_getD] at t
          rw [List.getElem?_eq_getElem hi] at t ⊢
          rw [show rows[i] = (some rows[i]).getD 0 from rfl, t, b3, pcount_app, pcount_rep]
          congr 1
          push_cast
          rw [ceil_small (by omega) (by omega : (1 : Int) ≤ i + 1), Int.toNat_of_nonneg (by omega)]
          omega
        · rw [List.getElem?_eq_none (by rw [tabl_len]; omega), List.getElem?_eq_none (by omega)]
      · intro x hx
        rw [b3] at hx
        rcases List.mem_append.mp hx with y | y
        · have := b2.mem x y; omega
        · have := (List.mem_replicate.mp y).2; subst this; omega
      · rw [b3]
        exact List.pairwise_append.mpr ⟨b2.dsc, List.pairwise_replicate.mpr (.inr (Int.le_refl _)), fun x hx y hy => by
          have := b2.mem x hx
          have e := (List.mem_replicate.mp hy).2
          subst e
          show 1 ≤ x
          omega⟩
theorem muGo_abs : ∀ (ps : List Nat) (n : Nat) (f : Int), (muGo ps n f).natAbs ≤ f.natAbs
  | [], _, _ => Nat.le_refl _
  | p :: ps, n, f => by
    rw [muGo]
    split
    · split
      · exact Nat.zero_le _
      · exact Nat.le_trans (muGo_abs ps _ _) (by omega)
    · exact muGo_abs ps _ _
theorem mu_abs (n : Nat) : (mu n).natAbs ≤ 1 := muGo_abs _ _ _
theorem wrongGo_le {rows : List Int} {c : Int} : ∀ {s : Nat} {late w : Int}, wrongGo rows c s late = some w → 0 ≤ w ∧ w ≤ s
  | 0, _, _, h => by cases h
  | s + 1, late, w, h => by
    rw [wrongGo] at h
    split at h
    · have := wrongGo_le h; push_cast; omega
    · injection h with h; push_cast; omega
theorem wrongT_le {rows : List Int} {w : Int} (h : wrongT rows = some w) : 0 ≤ w ∧ w ≤ rows.length := by
  unfold wrongT at h
  cases hl : rows.getLast? with
  | none => rw [hl] at h; cases h
  | some c =>
    rw [hl] at h
    have h' : (if c < 0 then some (rows.length : Int) else wrongGo rows c (rows.length - 1) 0) = some w := h
    split at h'
    · injection h' with h'; omega
    · have := wrongGo_le h'; omega
/-! All lists of so many numbers from 1 to top, and those that have the counts from a size on. -/
def extL (top : Nat) (s : List Int) : List (List Int) := (List.range top).map fun (i : Nat) => s ++ [1 + (i : Int)]
def allL (top : Nat) : Nat → List (List Int)
  | 0 => [[]]
  | n + 1 => (allL top n).flatMap (extL top)
theorem allL_mem {top : Nat} : ∀ {n : Nat} {x : List Int}, x ∈ allL top n ↔ x.length = n ∧ ∀ y ∈ x, 1 ≤ y ∧ y ≤ (top : Int)
  | 0, x => by
    show x ∈ [[]] ↔ _
    rw [List.mem_singleton, List.length_eq_zero_iff]
    exact ⟨fun h => by subst h; exact ⟨rfl, fun y hy => absurd hy List.not_mem_nil⟩, fun h => h.1⟩
  | n + 1, x => by
    show x ∈ (allL top n).flatMap (extL top) ↔ _
    rw [List.mem_flatMap]
    constructor
    · rintro ⟨s, hs, hx⟩
      obtain ⟨l, b⟩ := allL_mem.mp hs
      unfold extL at hx
      obtain ⟨i, hi, rfl⟩ := List.mem_map.mp hx
      rw [List.mem_range] at hi
      refine ⟨by rw [List.length_append, l]; rfl, fun y hy => ?_⟩
      rcases List.mem_append.mp hy with hy | hy
      · exact b y hy
      · rw [List.mem_singleton] at hy
        omega
    · rintro ⟨l, b⟩
      have hne : x ≠ [] := fun z => by rw [z] at l; cases l
      refine ⟨x.dropLast, allL_mem.mpr ⟨by rw [List.length_dropLast, l]; rfl, fun y hy => b y ((List.dropLast_sublist x).subset hy)⟩, ?_⟩
      have hl := b _ (List.getLast_mem hne)
      unfold extL
      refine List.mem_map.mpr ⟨(x.getLast hne - 1).toNat, List.mem_range.mpr (by omega), ?_⟩
      rw [show 1 + (((x.getLast hne - 1).toNat : Nat) : Int) = x.getLast hne by omega]
      exact List.dropLast_concat_getLast hne
theorem extL_len (top : Nat) (s : List Int) : (extL top s).length = top := by unfold extL; rw [List.length_map, List.length_range]
theorem flatL_len (top : Nat) : ∀ xs : List (List Int), (xs.flatMap (extL top)).length = xs.length * top
  | [] => by rw [List.flatMap_nil]; simp
  | x :: r => by rw [List.flatMap_cons, List.length_append, flatL_len top r, extL_len, List.length_cons, Nat.add_mul, Nat.one_mul, Nat.add_comm]
theorem allL_len (top : Nat) : ∀ n : Nat, (allL top n).length = top ^ n
  | 0 => rfl
  | n + 1 => by
    show ((allL top n).flatMap (extL top)).length = _
    rw [flatL_len, allL_len top n, Nat.pow_succ]
/-- the list has the counts of the sizes above s -/
structure Fits (rows : List Int) (c : Int) (s : Nat) (x : List Int) : Prop where
  len : (x.length : Int) = c
  mem : ∀ y ∈ x, 1 ≤ y ∧ y ≤ (rows.length : Int)
  tab : ∀ v : Nat, s < v → v ≤ rows.length → pcount x v = rows.getD (v - 1) 0
structure Stat (rows : List Int) (c : Int) (s : Nat) (ls : List Int) : Prop where
  half : Half rows c s ls
  same : ∀ x, Fits rows c s x → HS.above x ((s : Int) + 1) = ls
  go : s < rows.length → wrongGo rows c s ls.length = wrongT rows
theorem Fits.down {rows : List Int} {c : Int} {s : Nat} {x : List Int} (h : Fits rows c (s + 1) x) (e : pcount x ((s : Int) + 1) = rows.getD s 0) : Fits rows c s x :=
  ⟨h.len, h.mem, fun v h1 h2 => by
    by_cases z : v = s + 1
    · subst z; exact e
    · exact h.tab v (by omega) h2⟩
theorem Fits.up {rows : List Int} {c : Int} {s : Nat} {x : List Int} (h : Fits rows c s x) : Fits rows c (s + 1) x := ⟨h.len, h.mem, fun v h1 h2 => h.tab v (by omega) h2⟩
theorem Fits.here {rows : List Int} {c : Int} {s : Nat} {x : List Int} (h : Fits rows c s x) (hs : s < rows.length) : pcount x ((s : Int) + 1) = rows.getD s 0 := by
  have := h.tab (s + 1) (by omega) (by omega)
  rw [Nat.add_sub_cancel] at this
  exact this
theorem Half.fits {rows : List Int} {c : Int} {s : Nat} {ls : List Int} (h : Half rows c s ls) (h1 : 1 ≤ rows.length) : Fits rows c s (ls ++ List.replicate (c - ls.length).toNat 1) := by
  have hl := h.len
  refine ⟨?_, fun y hy => ?_, fun v h1 h2 => ?_⟩
  · rw [List.length_append, List.length_replicate]; push_cast; omega
  · rcases List.mem_append.mp hy with q | q
    · have := h.mem y q; omega
    · have := (List.mem_replicate.mp q).2; subst this; omega
  · rw [pcount_app, pcount_rep, h.tab v h1 h2, ceil_small (by omega) (by omega : (1 : Int) ≤ v)]
    omega
theorem stat_top {rows : List Int} {c : Int} (hc : rows.getLast? = some c) (h0 : 0 ≤ c) : Stat rows c rows.length [] ∧ Stat rows c (rows.length - 1) [] := by
  obtain ⟨r0, er⟩ := List.getLast?_eq_some_iff.mp hc
  have hl1 : rows.length = r0.length + 1 := by rw [er, List.length_append]; rfl
  have eA : wrongT rows = if c < 0 then some (rows.length : Int) else wrongGo rows c (rows.length - 1) 0 := by unfold wrongT; rw [hc]
  rw [if_neg (by omega)] at eA
  refine ⟨⟨⟨by simp, by simpa using h0, .nil, fun v h1 h2 => by omega⟩, fun x hx => HS.above_top fun y hy => by have := hx.mem y hy; omega, fun h => absurd h (Nat.lt_irrefl _)⟩,
    ⟨⟨by simp, by simpa using h0, .nil, fun v h1 h2 => ?_⟩, fun x hx => HS.above_top fun y hy => by have := hx.mem y hy; omega, fun _ => eA.symm⟩⟩
  have ev : v - 1 = r0.length := by omega
  rw [ev, er, List.getD_eq_getElem?_getD, List.getElem?_append_right (Nat.le_refl _), Nat.sub_self]
  show c = pcount [] v + (c - 0)
  rw [show pcount [] (v : Int) = 0 from rfl]; omega
/-- one size further down: some list still has the counts, or the table stops there -/
theorem stat_step {rows : List Int} {c : Int} (hn : rows.length ≤ 300) (hc : rows.getLast? = some c) (h0 : 0 ≤ c) {s : Nat} {ls : List Int} (h : Stat rows c (s + 1) ls) (hs : s + 1 ≤ rows.length) :
    (∃ ls, Stat rows c s ls) ∨ ((∀ x, ¬ Fits rows c s x) ∧ wrongT rows = some ((s : Int) + 1)) := by
  by_cases ht : s + 1 = rows.length
  · have := (stat_top hc h0).2
    rw [← ht, Nat.add_sub_cancel] at this
    exact .inl ⟨_, this⟩
  have hlt : s + 1 < rows.length := by omega
  have e := half_here h.half hs hn
  have go := h.go hlt
  rw [wrongGo, e] at go
  have F : ∀ x, Fits rows c s x → (x.count ((s : Int) + 2) : Int) = rows.getD s 0 - pcount ls ((s : Int) + 1) - (c - ls.length) ∧ (x.count ((s : Int) + 2) : Int) ≤ c - ls.length := fun x hx => by
    have f := found_is (ls := x) (s := (s : Int) + 1) (by omega) fun y hy => (hx.mem y hy).1
    have a := h.same x hx.up
    push_cast at a
    rw [show (s : Int) + 1 + 1 = s + 2 by omega] at f a
    rw [a, hx.here (by omega), hx.len] at f
    omega
  generalize hf : rows.getD s 0 - pcount ls ((s : Int) + 1) - (c - ls.length) = f at go F
  by_cases z : f < 0 ∨ c - ls.length < f
  · rw [if_neg (by omega)] at go
    refine .inr ⟨fun x hx => ?_, go.symm⟩
    have := F x hx
    omega
  · rw [if_pos (by omega)] at go
    have st := half_step h.half hlt (by omega) (by omega)
    rw [hf] at st
    refine .inl ⟨_, st, fun x hx => ?_, fun _ => ?_⟩
    · have a := h.same x hx.up
      push_cast at a
      rw [HS.above_step x ((s : Int) + 1), a, show (s : Int) + 1 + 1 = s + 2 by omega]
      rw [show x.count ((s : Int) + 2) = f.toNat by have := F x hx; omega]
    · rw [show ((ls ++ List.replicate f.toNat ((s : Int) + 2)).length : Int) = f + ls.length from by rw [List.length_append, List.length_replicate]; push_cast; omega]
      exact go
namespace HS
open PySem PySem.Spec PyProof.Rows L2 _root_.HS
section
variable {K : PySem.W.Frag} {H : Hp}
theorem dpAll_lol : ∀ {vs : List V} {rs : List (List Int)}, Lol H vs rs → DpAll K H vs (rs.map dInts)
  | [], [], _ => .nil
  | _ :: _, _ :: _, ⟨⟨t, e, o⟩, h⟩ => .cons (by rw [e]; exact dp_ints (sq o)) (dpAll_lol h)
theorem lay_lol : ∀ rs : List (List Int), PyData.canLayAll0 (rs.map dInts) = true
  | [] => rfl
  | p :: r => by
    rw [List.map_cons, PyData.canLayAll0, lay_lol r]
    unfold dInts
    rw [PyData.canLay0, lay_ints]; rfl
theorem dep_lol : ∀ rs : List (List Int), PyData.depthAll (rs.map dInts) ≤ 2
  | [] => by simp [PyData.depthAll]
  | p :: r => by
    have h := dep_lol r
    have h2 : (dInts p).depth ≤ 2 := by unfold dInts; rw [PyData.depth, dep_ints]; decide
    rw [List.map_cons, PyData.depthAll]; omega
theorem sh_lol (rs : List (List Int)) : SeqAt.shaped (.list (rs.map dInts)) = true := by
  have h1 := dep_lol rs
  have h2 : PyData.depth (.list (rs.map dInts)) ≤ 64 := by rw [PyData.depth]; omega
  show (PyData.canLay0 (.list (rs.map dInts)) && decide (PyData.depth (.list (rs.map dInts)) ≤ 64)) = true
  rw [Bool.and_eq_true]
  exact ⟨by rw [PyData.canLay0]; exact lay_lol rs, decide_eq_true h2⟩
/-- == of a list of lists and of the empty list -/
theorem eqE {a b : Addr} {vs : List V} {rs : List (List Int)} {Q : VK} (h1 : SqL K H a vs) (g1 : Lol H vs rs) (h2 : SqL K H b []) (q : Q (.bl (decide (rs = []))) H) : rEqD K (.ref a) (.ref b) H Q := by
  refine ⟨.list (rs.map dInts), dInts [], .lst h1 (dpAll_lol g1), dp_ints (ns := []) h2, sh_lol _, sh_ints _, ?_⟩
  rw [show PyData.eqv (.list (rs.map dInts)) (dInts []) = decide (rs = []) by
    unfold dInts
    rw [PyData.eqv]
    cases rs with
    | nil => rfl
    | cons r rr => rfl]
  exact q
end
end HS
namespace HS
open PySem PySem.Spec PyProof.Rows L2 _root_.HS
section
variable {K : PySem.W.Frag} {H : Hp} {Q : VK}
def dOI : Option Int → PyData
  | none => .none
  | some i => .int i
theorem dp_OI : ∀ o, Dp K H (oI o) (dOI o)
  | none => .non
  | some i => .int i
theorem sh_OI (o : Option Int) : SeqAt.shaped (dOI o) = true := by cases o <;> rfl
theorem eqv_OI (o : Option Int) : PyData.eqv (dOI o) (dOI o) = true := by
  cases o with
  | none => rfl
  | some i => show PyData.eqv (.int i) (.int i) = true; rw [_root_.HS.eqv_int]; exact decide_eq_true rfl
theorem neOI {o : Option Int} (q : Q (.bl false) H) : rNeD K (oI o) (oI o) H Q := ⟨_, _, dp_OI o, dp_OI o, sh_OI o, sh_OI o, by rw [eqv_OI]; exact q⟩
theorem eqII {i j : Int} (q : Q (.bl (decide (i = j))) H) : rEqD K (.int i) (.int j) H Q := ⟨.int i, .int j, .int i, .int j, rfl, rfl, by rw [_root_.HS.eqv_int]; exact q⟩
theorem setI {p : Addr} {ns : List Int} {k z : Int} {q : Hp → Prop} (h : H p = some (.lst (ns.map V.int))) (h0 : 0 ≤ k) (h1 : k < ns.length) (g : q (upd H p (.lst ((ns.set k.toNat z).map V.int)))) : rSetL (.ref p) (.int k) (.int z) H q := by
  refine HS.setL h (j := k.toNat) (by rw [List.length_map]; unfold ixN; rw [if_pos h0, if_pos (by omega)]) ?_
  rw [← List.map_set]
  exact g
end
end HS
/-- a list of so many ints, none further from 0 than B -/
def Tb (H : Hp) (p : Addr) (m B : Int) : Prop := ∃ rl : List Int, H p = some (.lst (rl.map V.int)) ∧ (rl.length : Int) = m ∧ ∀ x ∈ rl, -B ≤ x ∧ x ≤ B
theorem Tb.keep {S : Addr → Prop} {H H' : Hp} {p : Addr} {m B : Int} (h : Tb H p m B) (k : HS.Keep S H H') (n : ¬ S p) : Tb H' p m B := by
  obtain ⟨rl, h1, h2⟩ := h
  exact ⟨rl, k _ _ h1 n, h2⟩

section
variable {P : Program} {w : World} {K : PySem.W.Frag} {mg : Str → Option Value} {base : Heap} {A : Ad}
def sp__law_rng (K : PySem.W.Frag) : Sp := fun vs H Q _ => ∃ (a : Addr) (ns : List Int), vs = [.ref a] ∧ (SqL K H a (ns.map V.int) ∧ ns.length ≤ 63 ∧ ∀ H' s, HS.Keep (fun _ => False) H H' → H s = none → Rng H' s 0 → Q (.ref s) H')
theorem ok__law_rng (T : Txt K mg A) : FnOk P w K mg base CX0 1 A.a__law_rng A.d__law_rng ["script"] (sp__law_rng K) := by
  refine T.F__law_rng.ok sc__law_rng (fun vs H Q E h => ?_) (fun cdv A0 outer s H vs Q E hr h => ?_)
  · obtain ⟨a, ns, rfl, hw⟩ := h
    rfl
  · obtain ⟨a, ns, rfl, hw⟩ := h
    refine ⟨_, (pss_cons (ps_asg (pe_tup (pa_cons pe_int (pa_cons pe_int pa_nil))) (HS.kgt K (pg_tup rfl (pgs_cons (pg_name (i := 1) sc__law_rng.nd rfl (.inl rfl)) (pgs_cons (pg_name (i := 2) sc__law_rng.nd rfl (.inl rfl)) pgs_nil)))))
    (pss_cons (ps_for PassesOwn.never rfl (HS.kil K (pi_list (pe_slice (HS.sll K) (pv 0) po_none (po_some pe_int)))) (pg_name (i := 3) sc__law_rng.nd rfl (.inl rfl))
      (pss_cons (ps_set (i := 4) sc__law_rng.nd rfl (.inl rfl) (pe_callB call_abs (by rfl) T.z_abs (by decide +kernel) (pa_cons (pv 3) pa_nil)))
    (pss_cons (ps_if (pt_cmpR op_ge (pv 4) (HS.pe_fold (1000000000000000000) (pe_op op_pow pe_int pe_int) (by intro σ H Q q; walk_at "fold")) (nomark _))
      (pss_one (ps_set (i := 1) sc__law_rng.nd rfl (.inl rfl) (pe_op op_add (pe_op op_mulW (pv 1) (HS.pe_fold (1000000000000000000000000000000000000000000000000000000000000) (pe_op op_pow pe_int pe_int) (by intro σ H Q q; walk_at "fold"))) (pe_op op_mod (pv 4) (HS.pe_fold (1000000000000000000000000000000000000000000000000000000000000) (pe_op op_pow pe_int pe_int) (by intro σ H Q q; walk_at "fold"))))))
      pss_nil)
    (pss_one (ps_set (i := 2) sc__law_rng.nd rfl (.inl rfl) (pe_op op_mod (pe_op op_add (pe_op op_add (pe_op op_mul (pv 2) pe_int) (pe_op op_mod (pv 3) pe_int)) pe_int) pe_int))))))
    (pss_one (ps_ret (pe_lst (pa_cons (pv 1) (pa_cons (pv 2) (pa_cons pe_int pa_nil)))))))), ?_⟩
    obtain ⟨hS, hl, k⟩ := hw
    walk_at "hs"
    intro t ht
    have hS2 := HS.Keep.sq (S := fun _ => False) (HS.Keep.new (o := .tup [.int 0, .int 88675123]) ht) hS id
    walk_at "hs"
    intro p hp
    have ec : cutV (ns.map V.int) none (some 63) = ns.map V.int := by
      rw [show (63 : Int) = ((63 : Nat) : Int) from rfl, HS.cut_to, List.take_of_length_le (by rw [List.length_map]; exact hl)]
    rw [ec]
    walk_at "hs"
    refine ⟨⟨_, HS.sq upd_same⟩, for_list (xs := ns.map V.int) (fun i σ H1 => H1 = upd (upd H t (.tup [.int 0, .int 88675123])) p (.lst (ns.map V.int)) ∧ i ≤ ns.length ∧ ∃ (dg m : Int) (x3 x4 : Option V), σ = [some (.ref a), some (.int dg), some (.int m), x3, x4] ∧ 0 ≤ dg ∧ dg < 2 ^ (200 * (i + 1)) ∧ 0 ≤ m ∧ m < 2 ^ 61) ?_ ?_ ?_ ?_⟩
    · exact ⟨rfl, Nat.zero_le _, _, _, _, _, rfl, by decide, by decide, by decide, by decide⟩
    · rintro i σ H1 _ ⟨rfl, _⟩
      exact HS.sq upd_same
    · rintro i x σ H1 hi ⟨rfl, _, dg, m, x3, x4, rfl, hd0, hd1, hm0, hm1⟩
      obtain ⟨z, rfl, _, hil⟩ := HS.get_int hi
      have hil' : i ≤ 63 := by omega
      walk_at "hs"
      have b0 : 0 ≤ (m * 1000003 + z % 2305843009213693921 + 7) % 2305843009213693951 := Int.emod_nonneg _ (by decide)
      have b1 : (m * 1000003 + z % 2305843009213693921 + 7) % 2305843009213693951 < 2 ^ 61 := Int.lt_trans (Int.emod_lt_of_pos _ (by decide)) (by decide)
      generalize (if z < 0 then -z else z) = y
      refine HS.itd (fun hy => ?_) (fun hy => ?_)
      · walk_at "hs"
        refine ⟨HS.mulW (200 * (i + 1)) 200 hd0 hd1 (by decide) (by decide) (by omega) (by decide) (by omega), ?_⟩
        walk_at "hs"
        have q0 : 0 ≤ y % 1000000000000000000000000000000000000000000000000000000000000 := Int.emod_nonneg _ (by decide)
        have q1 : y % 1000000000000000000000000000000000000000000000000000000000000 < 10 ^ 60 := Int.emod_lt_of_pos _ (by decide)
        obtain ⟨r0, r1⟩ := rng_step hd0 hd1 q0 q1
        exact ⟨rfl, hil, _, _, _, _, rfl, r0, r1, b0, b1⟩
      · walk_at "hs"
        exact ⟨rfl, hil, _, _, _, _, rfl, hd0, Int.lt_trans hd1 (pow_up i), b0, b1⟩
    · rintro σ H1 ⟨rfl, _, dg, m, x3, x4, rfl, hd0, hd1, hm0, hm1⟩
      walk_at "hs"
      intro s hs
      have K1 := (HS.Keep.new (S := fun _ => False) (o := .tup [.int 0, .int 88675123]) ht).trans (HS.Keep.new (o := .lst (ns.map V.int)) hp)
      exact k _ s (K1.trans (.new hs)) (K1.free hs id) ⟨dg, m, 0, upd_same, hd0, hm0, hm1, by decide, by decide⟩
def sp__law_draw (K : PySem.W.Frag) : Sp := fun vs H Q _ => ∃ (s : Addr) (many : Int) (n : Nat), vs = [.ref s, .int many] ∧ (Rng H s n ∧ 0 < many ∧ many < 2 ^ 200 ∧ n < 2 ^ 33 ∧ ∀ H' v, HS.Keep (fun a => a = s) H H' → Rng H' s (n + 1) → 0 ≤ v → v < many → Q (.int v) H')
theorem ok__law_draw (T : Txt K mg A) : FnOk P w K mg base CX0 1 A.a__law_draw A.d__law_draw ["rng", "limit"] (sp__law_draw K) := by
  refine T.F__law_draw.ok sc__law_draw (fun vs H Q E h => ?_) (fun cdv A0 outer s H vs Q E hr h => ?_)
  · obtain ⟨s, many, n, rfl, hw⟩ := h
    rfl
  · obtain ⟨s, many, n, rfl, hw⟩ := h
    refine ⟨_, (pss_cons (ps_if (pt_cmpR op_gt (pe_ix (HS.ixl K) (pv 0) pe_int (fun _ _ => rfl)) pe_int (nomark _))
      (pss_cons (ps_set (i := 2) sc__law_draw.nd rfl (.inl rfl) (pe_op op_mod (pe_ix (HS.ixl K) (pv 0) pe_int (fun _ _ => rfl)) (pv 1)))
    (pss_cons (ps_asg (pe_op op_fdivW (pe_ix (HS.ixl K) (pv 0) pe_int (fun _ _ => rfl)) (pv 1)) (pg_sub (pv 0) pe_int set_list))
    (pss_one (ps_ret (pv 2)))))
      pss_nil)
    (pss_cons (ps_asg (pe_op op_add (pe_ix (HS.ixl K) (pv 0) pe_int (fun _ _ => rfl)) pe_int) (pg_sub (pv 0) pe_int set_list))
    (pss_cons (ps_set (i := 3) sc__law_draw.nd rfl (.inl rfl) (pe_op op_mod (pe_op HS.op_powW (pe_op op_add (pe_ix (HS.ixl K) (pv 0) pe_int (fun _ _ => rfl)) (pe_op op_mul pe_int (pe_ix (HS.ixl K) (pv 0) pe_int (fun _ _ => rfl)))) pe_int) pe_int))
    (pss_cons (ps_set (i := 3) sc__law_draw.nd rfl (.inl rfl) (pe_op op_mod (pe_op HS.op_powW (pe_op op_add (pv 3) (pe_op op_mul pe_int (pe_ix (HS.ixl K) (pv 0) pe_int (fun _ _ => rfl)))) pe_int) pe_int))
    (pss_one (ps_ret (pe_op op_mod (pe_op op_fdivW (pv 3) pe_int) (pv 1)))))))), ?_⟩
    obtain ⟨⟨l, m, c, hs, hl0, hm0, hm1, hc0, hc1⟩, hn0, hn1, hn, k⟩ := hw
    walk_at "hs"
    refine HS.itd (fun hl => ?_) (fun hl => ?_)
    · walk_at "hs"
      refine ⟨HS.divW 200 hn0 hn1 (by decide) (by decide), ?_⟩
      walk_at "hs"
      exact k _ _ (by walk_at "kp") ⟨l / many, m, c, upd_same, Int.ediv_nonneg hl0 (by omega), hm0, hm1, hc0, by omega⟩ (Int.emod_nonneg _ (by omega)) (Int.emod_lt_of_pos _ hn0)
    · walk_at "hs"
      refine ⟨HS.powW 66 (by omega) (by omega) (by decide) (by decide), ?_⟩
      walk_at "hs"
      have m0 : 0 ≤ (m + 998244353 * (c + 1)) ^ Int.toNat 3 % 162259276829213363391578010288127 := Int.emod_nonneg _ (by decide)
      have m1 : (m + 998244353 * (c + 1)) ^ Int.toNat 3 % 162259276829213363391578010288127 < 162259276829213363391578010288127 := Int.emod_lt_of_pos _ (by decide)
      generalize (m + 998244353 * (c + 1)) ^ Int.toNat 3 % 162259276829213363391578010288127 = z at m0 m1 ⊢
      refine ⟨HS.powW 128 (by omega) (by omega) (by decide) (by decide), ?_⟩
      walk_at "hs"
      exact k _ _ (by walk_at "kp") ⟨l, m, c + 1, upd_same, hl0, hm0, hm1, by omega, by omega⟩ (Int.emod_nonneg _ (by omega)) (Int.emod_lt_of_pos _ hn0)
def sp__law_counted (K : PySem.W.Frag) : Sp := fun vs H Q _ => ∃ (b : Addr) (ls : List Int) (j : Int), vs = [.ref b, .int j] ∧ (SqL K H b (ls.map V.int) ∧ ls.length ≤ 50000 ∧ 1 ≤ j ∧ j < 2 ^ 200 ∧ ∀ H', HS.Keep (fun _ => False) H H' → Q (.int (pcount ls j)) H')
theorem ok__law_counted (T : Txt K mg A) : FnOk P w K mg base CX0 1 A.a__law_counted A.d__law_counted ["some", "wide"] (sp__law_counted K) := by
  refine T.F__law_counted.ok sc__law_counted (fun vs H Q E h => ?_) (fun cdv A0 outer s H vs Q E hr h => ?_)
  · obtain ⟨b, ls, j, rfl, hw⟩ := h
    rfl
  · obtain ⟨b, ls, j, rfl, hw⟩ := h
    refine ⟨_, (pss_one (ps_ret (pe_callB (HS.ksum K rfl) (by rfl) T.z_sum (by decide +kernel) (pa_cons (pe_lc (own := [("one", 2)]) (g := gName 2) (tt := tYes) rfl sc__law_counted.nd (HS.kil K (pi_list (pv 0))) (blkOk_by (own := [("one", 2)]) (N := N__law_counted) (sc := defScope s__law_counted) (by decide +kernel)) (fun _ _ _ _ _ => pg_name (i := 2) sc__law_counted.nd rfl (by first | exact .inl rfl | exact .inr rfl)) (fun _ _ _ _ _ => pts_nil) (fun _ _ _ _ _ => (pe_op op_add (pe_op op_fdivW (pe_op op_sub (pv 2) pe_int) (pv 1)) pe_int))) pa_nil)))), ?_⟩
    obtain ⟨hb, hl, h1, h2, k⟩ := hw
    walk_at "hs"
    refine ⟨⟨_, hb⟩, fun D hD => lc_list (xs := ls.map V.int) (fun i H' => HS.Keep (fun _ => False) H H' ∧ H' D = some (.lst (((ls.take i).map fun x => (x + j - 1) / j).map V.int))) ⟨.new hD, upd_same⟩ (fun i H' _ ⟨K', _⟩ => K'.sq hb id) ?_ ?_⟩
    · rintro i x H1 hi ⟨K1, h3⟩
      obtain ⟨z, rfl, hz, hil⟩ := HS.get_int hi
      walk_at "hs"
      refine ⟨HS.divW 200 (by omega) h2 (by decide) (by decide), ?_⟩
      walk_at "hs"
      rw [counted_eq h1]
      refine ⟨_, h3, HS.sz (by simp; omega), K1.put hD, ?_⟩
      rw [upd_same, List.take_add_one, hz, List.map_append, List.map_append]
      rfl
    · rintro H1 ⟨K1, h3⟩
      rw [List.length_map, List.take_length] at h3
      refine HS.sumL (HS.sq h3) ?_
      exact k _ K1
def sp__law_some (K : PySem.W.Frag) : Sp := fun vs H Q _ => ∃ (s : Addr) (most longest : Int) (n : Nat), vs = [.ref s, .int most, .int longest] ∧ (Rng H s n ∧ 0 ≤ most ∧ most ≤ 1000 ∧ 1 ≤ longest ∧ longest < 2 ^ 150 ∧ n < 2 ^ 32 ∧ ∀ H' p (ls : List Int), HS.Keep (fun a => a = s) H H' → H p = none → p ≠ s → H' p = some (.lst (ls.map V.int)) → (ls.length : Int) ≤ most → Lens ls longest → Rng H' s (n + 6000) → Q (.ref p) H')
theorem ok__law_some (T : Txt K mg A) : FnOk P w K mg base CX0 2 A.a__law_some A.d__law_some ["rng", "most", "longest"] (sp__law_some K) := by
  have G__law_draw : FnOk P w K mg base CX0 1 A.a__law_draw A.d__law_draw ["rng", "limit"] (sp__law_draw K) := ok__law_draw T
  refine T.F__law_some.ok sc__law_some (fun vs H Q E h => ?_) (fun cdv A0 outer s H vs Q E hr h => ?_)
  · obtain ⟨s, most, longest, n, rfl, hw⟩ := h
    rfl
  · obtain ⟨s, most, longest, n, rfl, hw⟩ := h
    refine ⟨_, (pss_cons (ps_par (i := 3) (j := 4) rfl sc__law_some.nd rfl rfl (by decide) rfl rfl (pa_cons (pe_call G__law_draw hr (by rfl) T.g__law_draw T.F__law_draw.kp T.b__law_draw .nil pass0 (pa_cons (pv 0) (pa_cons pe_int pa_nil))) (pa_cons (pe_lst pa_nil) pa_nil)) (by rfl))
    (pss_cons (ps_for PassesOwn.never rfl (pi_range1 (by rfl) T.z_range (pa_cons (pe_call G__law_draw hr (by rfl) T.g__law_draw T.F__law_draw.kp T.b__law_draw .nil pass0 (pa_cons (pv 0) (pa_cons (pe_op op_add (pv 1) pe_int) pa_nil))) pa_nil)) (pg_name (i := 5) sc__law_some.nd rfl (.inl rfl))
      (pss_cons (ps_set (i := 6) sc__law_some.nd rfl (.inl rfl) (pe_lst (pa_cons (pe_op op_add pe_int (pe_call G__law_draw hr (by rfl) T.g__law_draw T.F__law_draw.kp T.b__law_draw .nil pass0 (pa_cons (pv 0) (pa_cons pe_int pa_nil)))) (pa_cons (pe_op op_sub (pv 2) (pe_call G__law_draw hr (by rfl) T.g__law_draw T.F__law_draw.kp T.b__law_draw .nil pass0 (pa_cons (pv 0) (pa_cons pe_int pa_nil)))) (pa_cons (pe_op op_add (pe_op op_add pe_int (pe_op op_fdivW (pv 2) pe_int)) (pe_call G__law_draw hr (by rfl) T.g__law_draw T.F__law_draw.kp T.b__law_draw .nil pass0 (pa_cons (pv 0) (pa_cons pe_int pa_nil)))) pa_nil)))))
    (pss_cons (ps_set (i := 7) sc__law_some.nd rfl (.inl rfl) (pe_ix (HS.ixl K) (pe_op op_cat (pv 6) (pe_lst (pa_cons (pe_op op_add pe_int (pe_call G__law_draw hr (by rfl) T.g__law_draw T.F__law_draw.kp T.b__law_draw .nil pass0 (pa_cons (pv 0) (pa_cons (pv 2) pa_nil)))) pa_nil))) (pe_ifExp (pt_cmpR op_gt (pe_call G__law_draw hr (by rfl) T.g__law_draw T.F__law_draw.kp T.b__law_draw .nil pass0 (pa_cons (pv 0) (pa_cons pe_int pa_nil))) pe_int (nomark _)) (pv 3) pe_int) (fun _ _ => rfl)))
    (pss_one (ps_expr (HS.kbm K (pe_bm PySem.F.plainAttrs_list PySem.F.slot_list_append PySem.F.type_list_append mt_append (pv 4) (pa_cons (pe_callB (call_max2 rfl) (by rfl) T.z_max (by decide +kernel) (pa_cons pe_int (pa_cons (pe_callB (call_min2 rfl) (by rfl) T.z_min (by decide +kernel) (pa_cons (pv 2) (pa_cons (pv 7) pa_nil))) pa_nil))) pa_nil))))))))
    (pss_one (ps_ret (pv 4))))), ?_⟩
    obtain ⟨S0, hm0, hm1, hl0, hl1, hn, k⟩ := hw
    walk_at "hs"
    refine ⟨s, 4, n, rfl, S0, by decide, by decide, by omega, fun H1 kd K1 S1 k0 k1 => ?_⟩
    walk_at "hs"
    intro D hD
    have hDs := S1.ne hD
    walk_at "hs"
    refine ⟨s, _, n + 1, rfl, S1.new hD, by omega, by omega, by omega, fun H2 cnt K2 S2 c0 c1 => ?_⟩
    walk_at "hs"
    have hD0 : H D = none := K1.free hD (by walk_at "ns")
    refine ⟨by omega, by omega, for_range (n := cnt.toNat) (fun i σ H' => HS.Keep (fun a => a = s) H H' ∧ (∃ ls : List Int, H' D = some (.lst (ls.map V.int)) ∧ ls.length = i ∧ Lens ls longest) ∧ Rng H' s (n + 2 + 5 * i) ∧ ∃ x1 x2 x3, σ = [some (.ref s), some (.int most), some (.int longest), some (.int kd), some (.ref D), x1, x2, x3]) ?_ ?_ ?_⟩
    · exact ⟨(K1.put hD0).trans K2, ⟨[], K2 _ _ upd_same hDs, rfl, fun x hx => absurd hx List.not_mem_nil⟩, S2, _, _, _, rfl⟩
    · rintro i σ H3 hi ⟨K3, ⟨ls, hls, hll, hL⟩, S3, x1, x2, x3, rfl⟩
      walk_at "hs"
      refine ⟨s, 3, _, rfl, S3, by decide, by decide, by omega, fun H4 a K4 S4 a0 a1 => ?_⟩
      walk_at "hs"
      refine ⟨s, 3, _, rfl, S4, by decide, by decide, by omega, fun H5 b K5 S5 b0 b1 => ?_⟩
      walk_at "hs"
      refine ⟨s, 2, _, rfl, S5, by decide, by decide, by omega, fun H6 c K6 S6 c0 c1 => ?_⟩
      walk_at "hs"
      intro p hp
      have e1 := S6.ne hp
      walk_at "hs"
      refine ⟨s, longest, _, rfl, S6.new hp, by omega, by omega, by omega, fun H7 d K7 S7 d0 d1 => ?_⟩
      have hp7 := K7 _ _ (upd_same (H := H6) (a := p)) (by walk_at "ns")
      walk_at "hs"
      intro q hq
      have e2 := S7.ne hq
      walk_at "hs"
      intro r hr'
      have S8 := (S7.new (o := .lst [.int (1 + d)]) hq)
      have e3 := S8.ne hr'
      walk_at "hs"
      refine ⟨s, 4, _, rfl, S8.new hr', by decide, by decide, by omega, fun H8 e K8 S9 e0 e1 => ?_⟩
      have hr8 := K8 _ _ (upd_same (H := upd H7 q (.lst [.int (1 + d)])) (a := r)) (by walk_at "ns")
      have KK : HS.Keep (fun a => a = s) H3 H8 := K4.trans (K5.trans (K6.trans ((HS.Keep.new hp).trans (K7.trans ((HS.Keep.new hq).trans ((HS.Keep.new hr').trans K8))))))
      have hls8 := KK _ _ hls hDs
      walk_at "hs"
      refine HS.iteM (fun v H' => ∃ j, v = .int j ∧ 0 ≤ j ∧ j < 4 ∧ H' = H8) (fun hc Q' k' => ?_) (fun hc Q' k' => ?_) ?_
      · walk_at "hs"
        exact k' _ _ ⟨_, rfl, k0, k1, rfl⟩
      · walk_at "hs"
        exact k' _ _ ⟨3, rfl, by decide, by decide, rfl⟩
      · rintro v H' ⟨j, rfl, j0, j1, rfl⟩
        refine HS.ixI [1 + a, longest - b, 1 + longest / 2 + c, 1 + d] (HS.sq hr8) j0 j1 fun z _ _ => ?_
        walk_at "hs"
        refine ⟨(K3.trans KK).put hD0, ⟨ls ++ [_], by rw [upd_same, List.map_append]; rfl, by walk_at "len", ?_⟩, (S9.put hDs).up (by omega), _, _, _, rfl⟩
        intro x hx
        rcases List.mem_append.mp hx with hx | hx
        · exact hL x hx
        · rw [List.mem_singleton] at hx
          subst hx
          constructor
          · split <;> omega
          · split <;> split at * <;> omega
    · rintro σ H3 ⟨K3, ⟨ls, hls, hll, hL⟩, S3, x1, x2, x3, rfl⟩
      walk_at "hs"
      exact k _ D ls K3 hD0 hDs hls (by omega) hL (S3.up (by omega))
def sp_count_pages (K : PySem.W.Frag) : Sp := fun vs H Q _ => ∃ (b : Addr) (ls : List Int) (j : Int), vs = [.ref b, .int j] ∧ (SqL K H b (ls.map V.int) ∧ ls.length ≤ 50000 ∧ 1 ≤ j ∧ j < 2 ^ 200 ∧ ∀ H', HS.Keep (fun _ => False) H H' → Q (.int (pcount ls j)) H')
theorem ok_count_pages (T : Txt K mg A) : FnOk P w K mg base CX0 2 A.a_count_pages A.d_count_pages ["book", "size"] (sp_count_pages K) := by
  refine T.F_count_pages.ok sc_count_pages (fun vs H Q E h => ?_) (fun cdv A0 outer s H vs Q E hr h => ?_)
  · obtain ⟨b, ls, j, rfl, hw⟩ := h
    rfl
  · obtain ⟨b, ls, j, rfl, hw⟩ := h
    refine ⟨_, (pss_one (ps_ret (pe_op op_add (pe_callB (HS.klen K) (by rfl) T.z_len PySem.boot_len (pa_cons (pv 0) pa_nil)) (pe_callB (HS.ksum K rfl) (by rfl) T.z_sum (by decide +kernel) (pa_cons (pe_lc (own := [("length", 2)]) (g := gName 2) (tt := tYes) rfl sc_count_pages.nd (HS.kil K (pi_list (pv 0))) (blkOk_by (own := [("length", 2)]) (N := N_count_pages) (sc := defScope s_count_pages) (by decide +kernel)) (fun _ _ _ _ _ => pg_name (i := 2) sc_count_pages.nd rfl (by first | exact .inl rfl | exact .inr rfl)) (fun _ _ _ _ _ => pts_nil) (fun _ _ _ _ _ => (pe_op op_fdivW (pe_op op_sub (pv 2) pe_int) (pv 1)))) pa_nil))))), ?_⟩
    obtain ⟨hb, hl, h1, h2, k⟩ := hw
    walk_at "hs"
    rw [List.length_map]
    refine ⟨⟨_, hb⟩, fun D hD => lc_list (xs := ls.map V.int) (fun i H' => HS.Keep (fun _ => False) H H' ∧ H' D = some (.lst (((ls.take i).map fun x => (x - 1) / j).map V.int))) ⟨.new hD, upd_same⟩ (fun i H' _ ⟨K', _⟩ => K'.sq hb id) ?_ ?_⟩
    · rintro i x H1 hi ⟨K1, h3⟩
      obtain ⟨z, rfl, hz, hil⟩ := HS.get_int hi
      walk_at "hs"
      refine ⟨HS.divW 200 (by omega) h2 (by decide) (by decide), ?_⟩
      refine ⟨_, h3, HS.sz (by simp; omega), K1.put hD, ?_⟩
      rw [upd_same, List.take_add_one, hz, List.map_append, List.map_append]
      rfl
    · rintro H1 ⟨K1, h3⟩
      rw [List.length_map, List.take_length] at h3
      walk_at "hs"
      rw [pcount_less1 h1]
      exact k _ K1
def sp_InvalidTable___init__ (K : PySem.W.Frag) : Sp := fun vs H Q _ => ∃ (a C : Addr) (w : V), vs = [.ref a, w] ∧ (OexC K C ∧ PySem.W.findIn K (.ref C) "value" = some none ∧ H a = some (exo a C none) ∧ ∀ H' d, HS.Keep (fun x => x = a) H H' → H d = none → d ≠ a → H' a = some (exo a C (some d)) → H' d = some (exd d [("value", w)]) → Q .non H')
theorem ok_InvalidTable___init__ (T : Txt K mg A) : FnOk P w K mg base CX0 1 A.a_InvalidTable___init__ A.d_InvalidTable___init__ ["self", "value"] (sp_InvalidTable___init__ K) := by
  refine T.F_InvalidTable___init__.ok sc_InvalidTable___init__ (fun vs H Q E h => ?_) (fun cdv A0 outer s H vs Q E hr h => ?_)
  · obtain ⟨a, C, w, rfl, hw⟩ := h
    rfl
  · obtain ⟨a, C, w, rfl, hw⟩ := h
    refine ⟨_, (pss_one (ps_ost (pv 0) (pv 1))), ?_⟩
    obtain ⟨T1, hv, ha, k⟩ := hw
    walk_at "hs"
    refine ⟨a, C, rfl, T1, hv, .inl ⟨ha, fun d hd hne => ?_⟩⟩
    walk_at "hs"
    exact k _ d ((HS.Keep.new hd).at rfl) hd (by first | exact hne | exact Ne.symm hne) upd_same (by rw [upd_ne hne]; exact upd_same)
def sp_lengths_of (K : PySem.W.Frag) (A : Ad) : Sp := fun vs H Q E => ∃ (t : Addr) (rows : List Int), vs = [.ref t] ∧ (SqL K H t (rows.map V.int) ∧ rows.length ≤ 1000 ∧ (∀ c, rows.getLast? = some c → c ≤ 1000) ∧
  (∀ w, readAll rows = .inl w → ∀ H' d, HS.Keep (fun _ => False) H H' → H d = none → H' d = some (.xd [("value", .int w)]) → E (.ref A.c_InvalidTable) (some d) H') ∧
  (∀ ls, readAll rows = .inr ls → ∀ H' p, HS.Keep (fun _ => False) H H' → H p = none → H' p = some (.lst (ls.map V.int)) → Q (.ref p) H'))
theorem ok_lengths_of (T : Txt K mg A) : FnOk P w K mg base (L2.CX P w) 3 A.a_lengths_of A.d_lengths_of ["table"] (sp_lengths_of K A) := by
  have G_InvalidTable___init__ : FnOk P w K mg base CX0 1 A.a_InvalidTable___init__ A.d_InvalidTable___init__ ["self", "value"] (sp_InvalidTable___init__ K) := ok_InvalidTable___init__ T
  have G_count_pages : FnOk P w K mg base CX0 2 A.a_count_pages A.d_count_pages ["book", "size"] (sp_count_pages K) := ok_count_pages T
  refine L2.Fun.okX T.F_lengths_of sc_lengths_of (fun vs H Q E h => ?_) (fun cdv A0 outer s H vs Q E hr h => ?_)
  · obtain ⟨t, rows, rfl, hw⟩ := h
    rfl
  · obtain ⟨t, rows, rfl, hw⟩ := h
    refine ⟨_, (pss_cons (ps_if (pt_not (pt_truth (pv 0) (by intro _; rfl)))
      (pss_one (ps_ret (pe_lst pa_nil)))
      pss_nil)
    (pss_cons (ps_set (i := 1) sc_lengths_of.nd rfl (.inl rfl) (pe_ix (HS.ixl K) (pv 0) (pe_un un_neg pe_int) (fun _ _ => rfl)))
    (pss_cons (ps_if (pt_cmpR op_lt (pv 1) pe_int (nomark _))
      (pss_one (ps_raise rfl (takes_of rfl rfl rfl rfl) (pmk_oex T.C_InvalidTable T.i_InvalidTable T.t_InvalidTable G_InvalidTable___init__ hr T.b_InvalidTable___init__ .nil pass0 (by rfl) T.m_InvalidTable (pa_cons (pe_callB (HS.klen K) (by rfl) T.z_len PySem.boot_len (pa_cons (pv 0) pa_nil)) pa_nil))))
      pss_nil)
    (pss_cons (ps_set (i := 2) sc_lengths_of.nd rfl (.inl rfl) (pe_lst pa_nil))
    (pss_cons (ps_for (passes_of rfl) rfl (pi_range3 (by rfl) T.z_range (pa_cons (pe_op op_sub (pe_callB (HS.klen K) (by rfl) T.z_len PySem.boot_len (pa_cons (pv 0) pa_nil)) pe_int) (pa_cons pe_int (pa_cons (pe_un un_neg pe_int) pa_nil)))) (pg_name (i := 3) sc_lengths_of.nd rfl (.inl rfl))
      (pss_cons (ps_set (i := 4) sc_lengths_of.nd rfl (.inl rfl) (pe_op op_sub (pv 1) (pe_callB (HS.klen K) (by rfl) T.z_len PySem.boot_len (pa_cons (pv 2) pa_nil))))
    (pss_cons (ps_set (i := 5) sc_lengths_of.nd rfl (.inl rfl) (pe_op op_sub (pe_op op_sub (pe_ix (HS.ixl K) (pv 0) (pe_op op_sub (pv 3) pe_int) (fun _ _ => rfl)) (pe_call G_count_pages hr (by rfl) T.g_count_pages T.F_count_pages.kp T.b_count_pages .nil pass0 (pa_cons (pv 2) (pa_cons (pv 3) pa_nil)))) (pv 4)))
    (pss_cons (ps_if (PW.pt (pw_or (pt_cmpR op_lt (pv 5) pe_int (nomark _)) (pw_or1 (pt_cmpR op_gt (pv 5) (pv 4) (nomark _)))))
      (pss_one (ps_raise rfl (takes_of rfl rfl rfl rfl) (pmk_oex T.C_InvalidTable T.i_InvalidTable T.t_InvalidTable G_InvalidTable___init__ hr T.b_InvalidTable___init__ .nil pass0 (by rfl) T.m_InvalidTable (pa_cons (pv 3) pa_nil))))
      pss_nil)
    (pss_one (ps_expr (HS.kbm K (pe_bm PySem.F.plainAttrs_list PySem.F.slot_list_extend PySem.F.type_list_extend mt_extend (pv 2) (pa_cons (pe_op op_rep (pe_lst (pa_cons (pe_op op_add (pv 3) pe_int) pa_nil)) (pv 5)) pa_nil)))))))))
    (pss_cons (ps_expr (HS.kbm K (pe_bm PySem.F.plainAttrs_list PySem.F.slot_list_extend PySem.F.type_list_extend mt_extend (pv 2) (pa_cons (pe_op op_rep (pe_lst (pa_cons pe_int pa_nil)) (pe_op op_sub (pv 1) (pe_callB (HS.klen K) (by rfl) T.z_len PySem.boot_len (pa_cons (pv 2) pa_nil)))) pa_nil))))
    (pss_one (ps_ret (pv 2))))))))), ?_⟩
    obtain ⟨ht, hs, hc, kE, kQ⟩ := hw
    walk_at "hs"
    cases hl : rows.getLast? with
    | none =>
      have e0 : rows = [] := List.getLast?_eq_none_iff.mp hl
      subst e0
      refine ⟨_, .inl ⟨_, ht, rfl⟩, ?_⟩
      refine HS.ifT (by rfl) ?_
      walk_at "hs"
      intro p hp
      exact kQ [] rfl _ p (.new hp) hp upd_same
    | some c =>
      obtain ⟨r0, er⟩ := List.getLast?_eq_some_iff.mp hl
      have hn : rows.length = r0.length + 1 := by rw [er, List.length_append]; rfl
      have hc1 := hc c hl
      refine ⟨_, .inl ⟨_, ht, rfl⟩, ?_⟩
      refine HS.ifF (by rw [er]; simp) ?_
      walk_at "hs"
      refine ⟨t, _, -1, _, rfl, rfl, ht, HS.at_last (ys := r0.map V.int) (by rw [er, List.map_append]; rfl), ?_⟩
      walk_at "hs"
      have eA : readAll rows = if c < 0 then .inl rows.length else readT rows c (rows.length - 1) [] := by unfold readAll; rw [hl]
      refine HS.itd (fun hc0 => ?_) (fun hc0 => ?_)
      · walk_at "hs"
        rw [List.length_map]
        exact HS.mk1 (fun H' Q' E' b h1 h2 h3 h4 => ⟨b, _, _, rfl, h1, h2, h3, h4⟩) T.C_InvalidTable T.n_InvalidTable fun H' d k hd e => kE _ (by rw [eA, if_pos hc0]) H' d k hd e
      rw [if_neg hc0] at eA
      walk_at "hs"
      intro D hD
      have ht2 := HS.Keep.sq (S := fun _ => False) (HS.Keep.new (o := .lst []) hD) ht id
      walk_at "hs"
      rw [List.length_map, hn]
      refine ⟨_, _, _, _, rfl, RgC.neg (by omega) (by omega) (by omega) (by omega), ?_⟩
      rw [show (((r0.length + 1 : Nat) : Int) - 1 - 0).toNat = r0.length by omega]
      refine for_rangeC (fun i σ H' => HS.Keep (fun _ => False) H H' ∧ i ≤ r0.length ∧ ∃ ls : List Int, H' D = some (.lst (ls.map V.int)) ∧ (ls.length : Int) ≤ c ∧ readT rows c (r0.length - i) ls = readAll rows ∧ ∃ x3 x4 x5, σ = [some (.ref t), some (.int c), some (.ref D), x3, x4, x5]) ?_ ?_ ?_
      · exact ⟨.new hD, Nat.zero_le _, [], upd_same, by simp; omega, by rw [eA, hn]; rfl, _, _, _, rfl⟩
      · rintro i σ H1 hi ⟨K1, _, ls, hl1, hlc, hR, x3, x4, x5, rfl⟩
        obtain ⟨s, es⟩ : ∃ s, r0.length - i = s + 1 := ⟨r0.length - i - 1, by omega⟩
        have hsz : ((r0.length + 1 : Nat) : Int) - 1 + (i : Nat) * -1 = (s : Int) + 1 := by push_cast; omega
        obtain ⟨z, hz⟩ : ∃ z, rows[s]? = some z := ⟨_, List.getElem?_eq_getElem (by omega)⟩
        have hg : rows.getD s 0 = z := by rw [List.getD_eq_getElem?_getD, hz]; rfl
        rw [es, readT, hg] at hR
        rw [hsz]
        walk_at "hs"
        refine HS.ixZ (K1.sq ht id) (by omega) (by rw [show ((s : Int) + 1 - 1).toNat = s by omega]; exact hz) ?_
        walk_at "hs"
        refine ⟨D, _, _, rfl, HS.sq hl1, by omega, by omega, by omega, fun H2 K2 => ?_⟩
        have hl2 := K2 _ _ hl1 id
        walk_at "hs"
        rw [List.length_map]
        generalize hf : z - pcount ls ((s : Int) + 1) - (c - ls.length) = f at hR ⊢
        have KK := K1.trans K2
        refine HS.itd (fun h0 => ?_) (fun h0 => ?_)
        · walk_at "hs"
          exact HS.mk1 (fun H' Q' E' b h1 h2 h3 h4 => ⟨b, _, _, rfl, h1, h2, h3, h4⟩) T.C_InvalidTable T.n_InvalidTable fun H' d k hd e => kE _ (by rw [← hR, if_pos (.inl h0)]) H' d (KK.trans k) (KK.free hd id) e
        walk_at "hs"
        refine HS.itd (fun h1 => ?_) (fun h1 => ?_)
        · walk_at "hs"
          exact HS.mk1 (fun H' Q' E' b h1 h2 h3 h4 => ⟨b, _, _, rfl, h1, h2, h3, h4⟩) T.C_InvalidTable T.n_InvalidTable fun H' d k hd e => kE _ (by rw [← hR, if_pos (.inr h1)]) H' d (KK.trans k) (KK.free hd id) e
        rw [if_neg (by omega)] at hR
        walk_at "hs"
        intro p hp
        walk_at "hs"
        refine HS.rep1 upd_same (by omega) (by omega) fun q hq => ?_
        have hne1 := ne_of_none hl2 hp
        have hne2 : D ≠ q := ne_of_none (show upd H2 p _ D = _ by rw [upd_ne hne1]; exact hl2) hq
        walk_at "hs"
        refine ⟨((KK.put (KK.free hp id)).put (HS.Keep.free (KK.put (KK.free hp id)) hq id)).put hD, by omega, ls ++ List.replicate f.toNat ((s : Int) + 2), ?_, ?_, ?_, _, _, _, rfl⟩
        · rw [upd_same, List.map_append, List.map_replicate, show (s : Int) + 1 + 1 = s + 2 by omega]
        · rw [List.length_append, List.length_replicate]; omega
        · rw [show r0.length - (i + 1) = s by omega]; exact hR
      · rintro σ H1 ⟨K1, _, ls, hl1, hlc, hR, x3, x4, x5, rfl⟩
        rw [Nat.sub_self, readT] at hR
        walk_at "hs"
        intro p hp
        walk_at "hs"
        rw [List.length_map]
        refine HS.rep1 upd_same (by omega) (by omega) fun q hq => ?_
        have hne1 := ne_of_none hl1 hp
        have hne2 : D ≠ q := ne_of_none (show upd H1 p _ D = _ by rw [upd_ne hne1]; exact hl1) hq
        walk_at "hs"
        refine kQ _ hR.symm _ D ((((K1.put (K1.free hp id)).put (HS.Keep.free (K1.put (K1.free hp id)) hq id)).put hD)) hD ?_
        rw [upd_same, List.map_append, List.map_replicate]
def sp__law_told (K : PySem.W.Frag) : Sp := fun vs H Q _ => ∃ (t : Addr) (rows : List Int), vs = [.ref t] ∧ (SqL K H t (rows.map V.int) ∧ rows.length ≤ 1000 ∧ (∀ c, rows.getLast? = some c → c ≤ 1000) ∧
  (∀ w, readAll rows = .inl w → ∀ H', HS.Keep (fun _ => False) H H' → Q (.int w) H') ∧
  (∀ ls, readAll rows = .inr ls → ∀ H' p q, HS.Keep (fun _ => False) H H' → H p = none → H q = none → H' p = some (.lst (ls.map V.int)) → H' q = some (.lst [.ref p]) → Q (.ref q) H'))
theorem ok__law_told (T : Txt K mg A) : FnOk P w K mg base CX0 4 A.a__law_told A.d__law_told ["rows"] (sp__law_told K) := by
  have G_lengths_of : FnOk P w K mg base (L2.CX P w) 3 A.a_lengths_of A.d_lengths_of ["table"] (sp_lengths_of K A) := ok_lengths_of T
  refine T.F__law_told.ok sc__law_told (fun vs H Q E h => ?_) (fun cdv A0 outer s H vs Q E hr h => ?_)
  · obtain ⟨t, rows, rfl, hw⟩ := h
    rfl
  · obtain ⟨t, rows, rfl, hw⟩ := h
    refine ⟨_, (pss_one (ps_try_as (i := 1) rfl rfl sc__law_told.nd rfl rfl ⟨rfl, by decide, Or.inl T.m_InvalidTable⟩ takes0
      (fun W pn xe tk po => (pss_one (ps_ret (pe_lst (pa_cons (pe_callS G_lengths_of hr (by rfl) T.g_lengths_of T.F_lengths_of.kp T.b_lengths_of (fun σ => passAt tk σ) (pa_cons (pv 0) pa_nil)) pa_nil)))))
      (fun a oe cls d pn hz hf => (pss_one (ps_ret (pe_xf T.X_InvalidTable T.n_InvalidTable hz hf (pv 1))))))), ?_⟩
    obtain ⟨ht, hs, hc, kE, kQ⟩ := hw
    walk_at "hs"
    refine ⟨t, rows, rfl, ht, hs, hc, fun w hw H' d K' hd e => ?_, fun ls hls H' p K' hp0 hp => ?_⟩
    · refine ⟨true, T.e_InvalidTable_InvalidTable, fun _ a ha => ?_, fun z => by cases z⟩
      walk_at "hs"
      exact ⟨rfl, rfl, d, _, _, rfl, e, rfl, kE w hw H' K'⟩
    · walk_at "hs"
      intro q hq
      exact kQ ls hls _ p q (K'.put (K'.free hq id)) hp0 (K'.free hq id) (by rw [upd_ne (ne_of_none hp hq)]; exact hp) upd_same
def sp__law_moebius (K : PySem.W.Frag) : Sp := fun vs H Q _ => ∃ (n : Nat), vs = [.int n] ∧ (1 ≤ n ∧ n ≤ 400 ∧ Q (.int (mu n)) H)
theorem ok__law_moebius (T : Txt K mg A) : FnOk P w K mg base CX0 1 A.a__law_moebius A.d__law_moebius ["number"] (sp__law_moebius K) := by
  refine T.F__law_moebius.ok sc__law_moebius (fun vs H Q E h => ?_) (fun cdv A0 outer s H vs Q E hr h => ?_)
  · obtain ⟨n, rfl, hw⟩ := h
    rfl
  · obtain ⟨n, rfl, hw⟩ := h
    refine ⟨_, (pss_cons (ps_set (i := 1) sc__law_moebius.nd rfl (.inl rfl) pe_int)
    (pss_cons (ps_for PassesOwn.never rfl (pi_range2 (by rfl) T.z_range (pa_cons pe_int (pa_cons (pe_op op_add (pv 0) pe_int) pa_nil))) (pg_name (i := 2) sc__law_moebius.nd rfl (.inl rfl))
      (pss_one (ps_if (pt_cmpR op_eq (pe_op op_mod (pv 0) (pv 2)) pe_int (nomark _))
      (pss_cons (ps_set (i := 0) sc__law_moebius.nd rfl (.inl rfl) (pe_op op_fdivW (pv 0) (pv 2)))
    (pss_cons (ps_if (pt_cmpR op_eq (pe_op op_mod (pv 0) (pv 2)) pe_int (nomark _))
      (pss_one (ps_ret pe_int))
      pss_nil)
    (pss_one (ps_set (i := 1) sc__law_moebius.nd rfl (.inl rfl) (pe_op op_sub pe_int (pv 1))))))
      pss_nil)))
    (pss_one (ps_ret (pv 1))))), ?_⟩
    obtain ⟨h1, h2, k⟩ := hw
    walk_at "hs"
    refine ⟨⟨by decide, by decide, by omega, by omega⟩, ?_⟩
    rw [show ((n : Int) + 1 - 2).toNat = n - 1 by omega]
    refine for_range (lo := 2) (n := n - 1) (fun i σ H' => H' = H ∧ i ≤ n - 1 ∧ ∃ (q : Nat) (f : Int) (x2 : Option V), 1 ≤ q ∧ muGo (List.range' (2 + i) (n - 1 - i)) q f = mu n ∧ σ = [some (.int q), some (.int f), x2]) ?_ ?_ ?_
    · exact ⟨rfl, Nat.zero_le _, n, 1, _, h1, rfl, rfl⟩
    · rintro i σ H1 hi ⟨rfl, _, q, f, x2, hq, hm, rfl⟩
      rw [show n - 1 - i = (n - 1 - (i + 1)) + 1 by omega, List.range'_succ, muGo, show 2 + i + 1 = 2 + (i + 1) by omega] at hm
      have cm : ∀ q : Nat, ((q : Int) % (2 + (i : Nat)) = 0) ↔ q % (2 + i) = 0 := fun q => by
        rw [show (2 : Int) + (i : Nat) = ((2 + i : Nat) : Int) by push_cast; rfl]
        exact ⟨fun z => by exact_mod_cast z, fun z => by exact_mod_cast z⟩
      have cd : (q : Int) / (2 + (i : Nat)) = ((q / (2 + i) : Nat) : Int) := by push_cast; rfl
      walk_at "hs"
      refine HS.itd (fun z => ?_) (fun z => ?_)
      · rw [if_pos ((cm q).mp z)] at hm
        have q1 : 1 ≤ q / (2 + i) := by
          have := Nat.div_mul_cancel (Nat.dvd_of_mod_eq_zero ((cm q).mp z))
          rcases Nat.eq_zero_or_pos (q / (2 + i)) with e | e
          · rw [e] at this; omega
          · exact e
        walk_at "hs"
        refine ⟨HS.divW 62 (by omega) (by omega) (by decide) (by decide), ?_⟩
        rw [cd]
        walk_at "hs"
        refine HS.itd (fun y => ?_) (fun y => ?_)
        · rw [if_pos ((cm _).mp y)] at hm
          walk_at "hs"
          rw [hm]
          exact k
        · rw [if_neg fun y' => y ((cm _).mpr y')] at hm
          walk_at "hs"
          exact ⟨rfl, by omega, _, _, _, q1, hm, rfl⟩
      · rw [if_neg fun y => z ((cm q).mpr y)] at hm
        walk_at "hs"
        exact ⟨rfl, by omega, _, _, _, hq, hm, rfl⟩
    · rintro σ H1 ⟨rfl, _, q, f, x2, hq, hm, rfl⟩
      rw [Nat.sub_self, show List.range' (2 + (n - 1)) 0 = [] from rfl, muGo] at hm
      subst hm
      walk_at "hs"
      exact k
def sp__law_wrong (K : PySem.W.Frag) : Sp := fun vs H Q _ => ∃ (t : Addr) (rows : List Int), vs = [.ref t] ∧ (SqL K H t (rows.map V.int) ∧ 1 ≤ rows.length ∧ rows.length ≤ 300 ∧ (∀ x ∈ rows, -(2 ^ 120) < x ∧ x < 2 ^ 120) ∧ ∀ H' v, HS.Keep (fun _ => False) H H' → (wrongT rows = none → v = .non) → (∀ w, wrongT rows = some w → v = .int w) → Q v H')
theorem ok__law_wrong (T : Txt K mg A) : FnOk P w K mg base CX0 2 A.a__law_wrong A.d__law_wrong ["rows"] (sp__law_wrong K) := by
  have G__law_moebius : FnOk P w K mg base CX0 1 A.a__law_moebius A.d__law_moebius ["number"] (sp__law_moebius K) := ok__law_moebius T
  refine T.F__law_wrong.ok sc__law_wrong (fun vs H Q E h => ?_) (fun cdv A0 outer s H vs Q E hr h => ?_)
  · obtain ⟨t, rows, rfl, hw⟩ := h
    rfl
  · obtain ⟨t, rows, rfl, hw⟩ := h
    refine ⟨_, (pss_cons (ps_set (i := 1) sc__law_wrong.nd rfl (.inl rfl) (pe_callB (HS.klen K) (by rfl) T.z_len PySem.boot_len (pa_cons (pv 0) pa_nil)))
    (pss_cons (ps_if (PW.pt (pw_and (pt_cmpR (HS.kne K (hu64 hr)) (pv 0) (pe_lst pa_nil) (nomark _)) (pw_and1 (pt_cmpR op_lt (pe_ix (HS.ixl K) (pv 0) (pe_un un_neg pe_int) (fun _ _ => rfl)) pe_int (nomark _)))))
      (pss_one (ps_ret (pv 1)))
      pss_nil)
    (pss_cons (ps_par (i := 2) (j := 3) rfl sc__law_wrong.nd rfl rfl (by decide) rfl rfl (pa_cons (pe_lc (own := [("number", 7)]) (g := gName 7) (tt := tYes) rfl sc__law_wrong.nd (pi_range2 (by rfl) T.z_range (pa_cons pe_int (pa_cons (pe_op op_add (pv 1) pe_int) pa_nil))) (blkOk_by (own := [("number", 7)]) (N := N__law_wrong) (sc := defScope s__law_wrong) (by decide +kernel)) (fun _ _ _ _ _ => pg_name (i := 7) sc__law_wrong.nd rfl (by first | exact .inl rfl | exact .inr rfl)) (fun _ _ _ _ _ => pts_nil) (fun _ _ _ _ _ => (pe_call G__law_moebius hr (by rfl) T.g__law_moebius T.F__law_moebius.kp T.b__law_moebius .nil pass0 (pa_cons (pv 7) pa_nil)))) (pa_cons pe_int pa_nil)) (by rfl))
    (pss_cons (ps_for PassesOwn.never rfl (pi_range3 (by rfl) T.z_range (pa_cons (pe_op op_sub (pv 1) pe_int) (pa_cons pe_int (pa_cons (pe_un un_neg pe_int) pa_nil)))) (pg_name (i := 4) sc__law_wrong.nd rfl (.inl rfl))
      (pss_cons (ps_set (i := 5) sc__law_wrong.nd rfl (.inl rfl) pe_int)
    (pss_cons (ps_for PassesOwn.never rfl (pi_range2 (by rfl) T.z_range (pa_cons pe_int (pa_cons (pe_op op_add (pe_op op_fdivW (pv 1) (pv 4)) pe_int) pa_nil))) (pg_name (i := 6) sc__law_wrong.nd rfl (.inl rfl))
      (pss_one (ps_set (i := 5) sc__law_wrong.nd rfl (.inl rfl) (pe_op op_add (pv 5) (pe_op op_mulW (pe_ix (HS.ixl K) (pv 2) (pe_op op_sub (pv 6) pe_int) (fun _ _ => rfl)) (pe_op op_sub (pe_ix (HS.ixl K) (pv 0) (pe_op op_sub (pe_op op_mulW (pv 6) (pv 4)) pe_int) (fun _ _ => rfl)) (pe_ix (HS.ixl K) (pv 0) (pe_un un_neg pe_int) (fun _ _ => rfl))))))))
    (pss_cons (ps_if (pt_not (pt_chain op_le op_le (pv 3) (pv 5) (pe_ix (HS.ixl K) (pv 0) (pe_un un_neg pe_int) (fun _ _ => rfl))))
      (pss_one (ps_ret (pv 4)))
      pss_nil)
    (pss_one (ps_set (i := 3) sc__law_wrong.nd rfl (.inl rfl) (pv 5)))))))
    (pss_one (ps_ret pe_non)))))), ?_⟩
    obtain ⟨ht, hl1, hl, hB, k⟩ := hw
    walk_at "hs"
    intro p hp
    refine HS.neL (ys := []) (HS.Keep.sq (S := fun _ => False) (HS.Keep.new hp) ht id) (HS.sq upd_same) ?_
    have K0 : HS.Keep (fun _ => False) H (upd H p (.lst [])) := HS.Keep.new hp
    generalize upd H p (.lst []) = H0 at K0 ⊢
    refine ⟨_, rfl, ?_⟩
    cases hg : rows.getLast? with
    | none =>
      have e0 : rows = [] := List.getLast?_eq_none_iff.mp hg
      rw [e0] at hl1
      exact absurd hl1 (by decide)
    | some c =>
      obtain ⟨r0, er⟩ := List.getLast?_eq_some_iff.mp hg
      have hn : rows.length = r0.length + 1 := by rw [er, List.length_append]; rfl
      have eA : wrongT rows = if c < 0 then some (rows.length : Int) else wrongGo rows c (rows.length - 1) 0 := by unfold wrongT; rw [hg]
      have atl : atI (rows.map V.int) (-1) = some (.int c) := HS.at_last (ys := r0.map V.int) (by rw [er, List.map_append]; rfl)
      have hcB := hB c (by rw [er]; simp)
      rw [List.length_map]
      refine HS.ifT (by rw [er]; simp) ?_
      walk_at "hs"
      refine ⟨t, _, -1, _, rfl, rfl, K0.sq ht id, atl, ?_⟩
      walk_at "hs"
      refine HS.itd (fun hc0 => ?_) (fun hc0 => ?_)
      · walk_at "hs"
        rw [if_pos hc0] at eA
        exact k _ _ K0 (fun z => by rw [eA] at z; cases z) (fun w z => by rw [eA] at z; injection z with z; rw [z])
      rw [if_neg hc0, hn, Nat.add_sub_cancel] at eA
      walk_at "hs"
      refine ⟨by omega, fun S hS => lc_range (lo := 1) (n := ((rows.length : Int) + 1 - 1).toNat) (fun i H' => HS.Keep (fun _ => False) H H' ∧ H' S = some (.lst (((List.range i).map fun i => mu (i + 1)).map V.int))) ⟨K0.nw hS, upd_same⟩ ?_ ?_⟩
      · rintro i H1 hi ⟨K1, h3⟩
        walk_at "hs"
        refine ⟨1 + i, by push_cast; rfl, by omega, by omega, ?_⟩
        refine ⟨_, h3, HS.sz (by simp; omega), K1.put (K0.free hS id), ?_⟩
        rw [upd_same, List.range_succ, List.map_append, List.map_append, Nat.add_comm 1]
        rfl
      · rintro H1 ⟨K1, h3⟩
        rw [show ((rows.length : Int) + 1 - 1).toNat = rows.length by omega] at h3
        walk_at "hs"
        refine ⟨_, _, _, _, rfl, RgC.neg (by omega) (by omega) (by omega) (by omega), ?_⟩
        rw [show ((rows.length : Int) - 1 - 0).toNat = r0.length by omega]
        refine for_rangeC (fun i σ H' => H' = H1 ∧ i ≤ r0.length ∧ ∃ (late : Int) (x4 x5 x6 x7 : Option V), wrongGo rows c (r0.length - i) late = wrongT rows ∧ σ = [some (.ref t), some (.int rows.length), some (.ref S), some (.int late), x4, x5, x6, x7]) ?_ ?_ ?_
        · exact ⟨rfl, Nat.zero_le _, 0, _, _, _, _, eA.symm, rfl⟩
        · rintro i σ H2 hi ⟨rfl, _, late, x4, x5, x6, x7, hR, rfl⟩
          obtain ⟨s, es⟩ : ∃ s, r0.length - i = s + 1 := ⟨r0.length - i - 1, by omega⟩
          have hsz : (rows.length : Int) - 1 + (i : Nat) * -1 = (s : Int) + 1 := by omega
          rw [es, wrongGo] at hR
          rw [hsz]
          have hdv : (rows.length : Int) / ((s : Int) + 1) = ((rows.length / (s + 1) : Nat) : Int) := by push_cast; rfl
          have hdl : rows.length / (s + 1) ≤ 300 := Nat.le_trans (Nat.div_le_self _ _) hl
          walk_at "hs"
          refine ⟨HS.divW 62 (by omega) (by omega) (by decide) (by decide), ?_⟩
          rw [hdv]
          generalize hq : rows.length / (s + 1) = q at hdl ⊢
          walk_at "hs"
          refine ⟨⟨by decide, by decide, by omega, by omega⟩, ?_⟩
          rw [show ((q : Int) + 1 - 1).toNat = q by omega]
          refine for_range (lo := 1) (n := q) (fun j σ H' => H' = H2 ∧ ∃ (x6 : Option V), σ = [some (.ref t), some (.int rows.length), some (.ref S), some (.int late), some (.int ((s : Int) + 1)), some (.int (sg j fun k => mu k * (rows.getD (k * (s + 1) - 1) 0 - c))), x6, x7]) ?_ ?_ ?_
          · exact ⟨rfl, _, rfl⟩
          · rintro j σ H3 hj ⟨rfl, x6, rfl⟩
            have hle : (j + 1) * (s + 1) ≤ rows.length := by have := Nat.div_mul_le_self rows.length (s + 1); rw [hq] at this; exact Nat.le_trans (Nat.mul_le_mul_right _ hj) this
            have hpos : 1 ≤ (j + 1) * (s + 1) := Nat.mul_pos (by omega) (by omega)
            obtain ⟨z, hz⟩ : ∃ z, rows[(j + 1) * (s + 1) - 1]? = some z := ⟨_, List.getElem?_eq_getElem (by omega)⟩
            have hzB := hB z (List.mem_of_getElem? hz)
            have hgz : rows.getD ((j + 1) * (s + 1) - 1) 0 = z := by rw [List.getD_eq_getElem?_getD, hz]; rfl
            have hjr : j < rows.length := Nat.le_trans (Nat.le_mul_of_pos_right (j + 1) (by omega)) hle
            have em : (1 + (j : Int)) * ((s : Int) + 1) = (((j + 1) * (s + 1) : Nat) : Int) := by push_cast; rw [Int.add_comm 1 (j : Int)]
            walk_at "hs"
            refine HS.ixZ (HS.sq h3) (by omega) (by rw [show (1 + (j : Int) - 1).toNat = j by omega, List.getElem?_map, List.getElem?_range hjr]; rfl) ?_
            walk_at "hs"
            refine ⟨HS.mulW 62 62 (by omega) (by omega) (by omega) (by omega) (by decide) (by decide) (by decide), ?_⟩
            rw [em]
            walk_at "hs"
            refine HS.ixZ (K1.sq ht id) (by omega) (by rw [show ((((j + 1) * (s + 1) : Nat) : Int) - 1).toNat = (j + 1) * (s + 1) - 1 by omega]; exact hz) ?_
            walk_at "hs"
            refine ⟨t, _, -1, _, rfl, rfl, K1.sq ht id, atl, ?_⟩
            walk_at "hs"
            have ma := mu_abs (j + 1)
            refine ⟨wide_mul (a := 2) (b := 130) (show (mu (j + 1)).natAbs < 2 ^ 2 by omega) (by omega) (by decide) (by decide) (by decide), ?_⟩
            walk_at "hs"
            refine ⟨rfl, some (.int (1 + (j : Nat))), ?_⟩
            rw [sg, hgz]
            rfl
          · rintro σ H3 ⟨rfl, x6, rfl⟩
            have eh : (sg q fun k => mu k * (rows.getD (k * (s + 1) - 1) 0 - c)) = hereW rows c (s + 1) := by unfold hereW; rw [hq]
            rw [eh]
            generalize hereW rows c (s + 1) = W at hR ⊢
            walk_at "hs"
            refine HS.itd (fun y => ?_) (fun y => ?_)
            · walk_at "hs"
              refine ⟨t, _, -1, _, rfl, rfl, K1.sq ht id, atl, ?_⟩
              walk_at "hs"
              refine HS.itn (fun y2 => ?_) (fun y2 => ?_)
              · walk_at "hs"
                rw [if_neg fun z => y2 z.2] at hR
                exact k _ _ K1 (fun z => by rw [← hR] at z; cases z) (fun w z => by rw [← hR] at z; injection z with z; rw [z])
              · walk_at "hs"
                rw [if_pos ⟨y, y2⟩] at hR
                exact ⟨rfl, by omega, W, _, _, _, _, by rw [show r0.length - (i + 1) = s by omega]; exact hR, rfl⟩
            · walk_at "hs"
              rw [if_neg fun z => y z.1] at hR
              exact k _ _ K1 (fun z => by rw [← hR] at z; cases z) (fun w z => by rw [← hR] at z; injection z with z; rw [z])
        · rintro σ H2 ⟨rfl, _, late, x4, x5, x6, x7, hR, rfl⟩
          rw [Nat.sub_self, wrongGo] at hR
          walk_at "hs"
          exact k _ _ K1 (fun _ => rfl) (fun w z => by rw [← hR] at z; cases z)
def sp__law_right (K : PySem.W.Frag) : Sp := fun vs H Q _ => ∃ (t : Addr) (rows : List Int), vs = [.ref t, HS.oI (wrongT rows)] ∧ (SqL K H t (rows.map V.int) ∧ 1 ≤ rows.length ∧ rows.length ≤ 300 ∧ (∀ x ∈ rows, -(2 ^ 120) < x ∧ x < 2 ^ 120) ∧ (∀ c, rows.getLast? = some c → c ≤ 1000) ∧ ∀ H', HS.Keep (fun _ => False) H H' → Q (.bl true) H')
theorem ok__law_right (T : Txt K mg A) : HS.FnG P w K mg base CX0 5 A.a__law_right A.d__law_right ["rows", "wrong"] (sp__law_right K) := by
  have G__law_told : FnOk P w K mg base CX0 4 A.a__law_told A.d__law_told ["rows"] (sp__law_told K) := ok__law_told T
  have G__law_counted : FnOk P w K mg base CX0 1 A.a__law_counted A.d__law_counted ["some", "wide"] (sp__law_counted K) := ok__law_counted T
  refine HS.Fun.okG T.F__law_right sc__law_right (fun vs H Q E h => ?_) (fun cdv A0 outer s H vs Q E hg hr h => ?_)
  · obtain ⟨t, rows, rfl, hw⟩ := h
    rfl
  · obtain ⟨t, rows, rfl, hw⟩ := h
    refine ⟨_, (pss_cons (ps_asg (pe_tup (pa_cons (pe_callB (HS.krepr K hg hr) (by rfl) T.z_repr (by decide +kernel) (pa_cons (pv 0) pa_nil)) (pa_cons (pe_call G__law_told hr (by rfl) T.g__law_told T.F__law_told.kp T.b__law_told .nil pass0 (pa_cons (pv 0) pa_nil)) pa_nil))) (HS.kgt K (pg_tup rfl (pgs_cons (pg_name (i := 2) sc__law_right.nd rfl (.inl rfl)) (pgs_cons (pg_name (i := 3) sc__law_right.nd rfl (.inr rfl)) pgs_nil)))))
    (pss_cons (ps_if (pt_cmpR op_ne (pe_callB (HS.krepr K hg hr) (by rfl) T.z_repr (by decide +kernel) (pa_cons (pv 0) pa_nil)) (pv 2) (nomark _))
      (pss_one (ps_ret pe_bl))
      pss_nil)
    (pss_cons (ps_if (pt_cmpR op_notN (pv 1) pe_non (nomark _))
      (pss_one (ps_ret (pe_cmpR op_eq (pe_callB (HS.kreprA K hg hr) (by rfl) T.z_repr (by decide +kernel) (pa_cons (pv 3) pa_nil)) (pe_callB (HS.kreprA K hg hr) (by rfl) T.z_repr (by decide +kernel) (pa_cons (pv 1) pa_nil)) (nomark _))))
      pss_nil)
    (pss_cons (ps_if (PW.pt (pw_or (pt_not (pt_val (pe_callB (HS.kisi K) (by rfl) T.z_isinstance (by decide +kernel) (pa_cons (pv 3) (pa_cons (pe_bltn (v := .ty "list") (by rfl) T.z_list (by decide +kernel) rfl) pa_nil))))) (pw_or1 (pt_cmpR (HS.kne K (hu64 hr)) (pe_ix (HS.ixl K) (pv 3) pe_int (fun _ _ => rfl)) (HS.pe_srv K (fun r hc => pe_callB hc (by rfl) T.z_sorted (by decide +kernel) (pa_cons (pe_ix (HS.ixl K) (pv 3) pe_int (fun _ _ => rfl)) pa_nil)) (fun te h => pe_revL h)) (nomark _)))))
      (pss_one (ps_ret pe_bl))
      pss_nil)
    (pss_one (ps_ret (pe_cmpR (HS.keq K (hu64 hr)) (pe_lc (own := [("wide", 4)]) (g := gName 4) (tt := tYes) rfl sc__law_right.nd (pi_range2 (by rfl) T.z_range (pa_cons pe_int (pa_cons (pe_op op_add (pe_callB (HS.klen K) (by rfl) T.z_len PySem.boot_len (pa_cons (pv 0) pa_nil)) pe_int) pa_nil))) (blkOk_by (own := [("wide", 4)]) (N := N__law_right) (sc := defScope s__law_right) (by decide +kernel)) (fun _ _ _ _ _ => pg_name (i := 4) sc__law_right.nd rfl (by first | exact .inl rfl | exact .inr rfl)) (fun _ _ _ _ _ => pts_nil) (fun _ _ _ _ _ => (pe_call G__law_counted (hr.mono (by decide)) (by rfl) T.g__law_counted T.F__law_counted.kp T.b__law_counted .nil pass0 (pa_cons (pe_ix (HS.ixl K) (pv 3) pe_int (fun _ _ => rfl)) (pa_cons (pv 4) pa_nil))))) (pv 0) (nomark _)))))))), ?_⟩
    obtain ⟨ht, hl1, hl, hB, hc, k⟩ := hw
    have tm : HS.Tm rows := ⟨fun x hx => by have := hB x hx; omega, by omega⟩
    obtain ⟨rE, rI⟩ := read_all hl
    walk_at "hs"
    refine HS.repI ht tm ?_
    walk_at "hs"
    refine ⟨t, rows, rfl, ht, by omega, hc, fun w hw H1 K1 => ?_, fun ls hls H1 p q K1 hp0 hq0 hp hq => ?_⟩
    · have e := rE w hw
      rw [e]
      have ht1 := K1.sq ht id
      walk_at "hs"
      intro u hu
      walk_at "hs"
      have K2 := K1.nw (o := .tup [.str (HS.dInts rows).shown, .int w]) hu
      generalize upd H1 u (.tup [.str (HS.dInts rows).shown, .int w]) = H2 at K2 ⊢
      have wb := wrongT_le e
      refine HS.repI (K2.sq ht id) tm ?_
      walk_at "hs"
      refine HS.neSS ?_
      walk_at "hs"
      refine ⟨rfl, ?_⟩
      refine ⟨_, rfl, HS.ifT (by rfl) ?_⟩
      walk_at "hs"
      refine HS.repAI (by omega) ?_
      walk_at "hs"
      refine HS.repAI (by omega) ?_
      refine HS.eqSS ?_
      exact k _ K2
    · obtain ⟨e, tb, mb, ds⟩ := rI ls hls
      rw [e]
      have ht1 := K1.sq ht id
      walk_at "hs"
      intro u hu
      walk_at "hs"
      have K2 := K1.nw (o := .tup [.str (HS.dInts rows).shown, .ref q]) hu
      have hp2 : upd H1 u (.tup [.str (HS.dInts rows).shown, .ref q]) p = some (.lst (ls.map V.int)) := by rw [upd_ne (ne_of_none hp hu)]; exact hp
      have hq2 : upd H1 u (.tup [.str (HS.dInts rows).shown, .ref q]) q = some (.lst [.ref p]) := by rw [upd_ne (ne_of_none hq hu)]; exact hq
      generalize upd H1 u (.tup [.str (HS.dInts rows).shown, .ref q]) = H2 at K2 hp2 hq2 ⊢
      refine HS.repI (K2.sq ht id) tm ?_
      walk_at "hs"
      refine HS.neSS ?_
      walk_at "hs"
      refine ⟨rfl, ?_⟩
      refine ⟨_, rfl, HS.ifF (by decide) ?_⟩
      walk_at "hs"
      have lc : (ls.length : Int) ≤ 1000 := by
        obtain ⟨n', hn'⟩ : ∃ n', rows.length = n' + 1 := ⟨rows.length - 1, by omega⟩
        have g : (tabl ls rows.length).getLast? = some (ls.length : Int) := by
          rw [hn', tabl_succ, List.getLast?_concat, pcount_one fun x hx => by have := mb x hx; omega]
        rw [tb] at g
        exact hc _ g
      have ed : HS.desc ls = ls := (HS.desc_of (.refl _) ds).symm
      refine HS.isi true (.base (.lst hq2)) (by decide) ?_
      walk_at "hs"
      refine ⟨p, ls, rfl, HS.sq hp2, fun H3 r K3 hr0 hr3 => ?_⟩
      have hp3 := K3 _ _ hp2 id
      have hq3 := K3 _ _ hq2 id
      have KK := K2.trans K3
      have ht3 := KK.sq ht id
      rw [ed] at hr3
      refine HS.neL (HS.sq hp3) (HS.sq hr3) ?_
      refine ⟨_, rfl, HS.ifF (by simp) ?_⟩
      walk_at "hs"
      rw [List.length_map]
      refine ⟨by omega, fun D hD => lc_range (lo := 1) (n := ((rows.length : Int) + 1 - 1).toNat) (fun i H' => HS.Keep (fun _ => False) H3 H' ∧ H' D = some (.lst ((tabl ls i).map V.int))) ⟨.new hD, by rw [upd_same]; rfl⟩ ?_ ?_⟩
      · rintro i H4 hi ⟨K4, h4⟩
        have hq4 := K4 _ _ hq3 id
        walk_at "hs"
        refine ⟨p, ls, _, rfl, HS.sq (K4 _ _ hp3 id), by omega, by omega, by omega, fun H5 K5 => ?_⟩
        refine ⟨_, K5 _ _ h4 id, HS.sz (by rw [List.length_map, tabl_len]; omega), (K4.trans K5).put hD, ?_⟩
        rw [upd_same, tabl_succ, List.map_append, Int.add_comm 1]
        rfl
      · rintro H4 ⟨K4, h4⟩
        rw [show ((rows.length : Int) + 1 - 1).toNat = rows.length by omega, tb] at h4
        walk_at "hs"
        refine HS.eqL (HS.sq h4) ((KK.trans K4).sq ht id) ?_
        rw [decide_eq_true rfl]
        exact k _ (KK.trans K4)
def sp__law_all (K : PySem.W.Frag) : Sp := fun vs H Q _ => ∃ (m top : Nat), vs = [.int m, .int top] ∧ (m ≤ 4 ∧ 1 ≤ top ∧ top ≤ 6 ∧ ∀ H' p vs, HS.Keep (fun _ => False) H H' → H p = none → H' p = some (.lst vs) → HS.Lol H' vs (allL top m) → Q (.ref p) H')
theorem ok__law_all (T : Txt K mg A) : FnOk P w K mg base CX0 1 A.a__law_all A.d__law_all ["many", "top"] (sp__law_all K) := by
  refine T.F__law_all.ok sc__law_all (fun vs H Q E h => ?_) (fun cdv A0 outer s H vs Q E hr h => ?_)
  · obtain ⟨m, top, rfl, hw⟩ := h
    rfl
  · obtain ⟨m, top, rfl, hw⟩ := h
    refine ⟨_, (pss_cons (ps_set (i := 2) sc__law_all.nd rfl (.inl rfl) (pe_lst (pa_cons (pe_lst pa_nil) pa_nil)))
    (pss_cons (ps_for PassesOwn.never rfl (pi_range1 (by rfl) T.z_range (pa_cons (pv 0) pa_nil)) (pg_name (i := 3) sc__law_all.nd rfl (.inl rfl))
      (pss_cons (ps_set (i := 4) sc__law_all.nd rfl (.inl rfl) (pe_lst pa_nil))
    (pss_cons (ps_for PassesOwn.never rfl (HS.kil K (pi_list (pv 2))) (pg_name (i := 5) sc__law_all.nd rfl (.inr rfl))
      (pss_one (ps_expr (HS.kbm K (pe_bm PySem.F.plainAttrs_list PySem.F.slot_list_extend PySem.F.type_list_extend mt_extend (pv 4) (pa_cons (pe_lc (own := [("one", 6)]) (g := gName 6) (tt := tYes) rfl sc__law_all.nd (pi_range2 (by rfl) T.z_range (pa_cons pe_int (pa_cons (pe_op op_add (pe_ix (HS.ixl K) (pe_op op_cat (pv 5) (pe_lst (pa_cons (pv 1) pa_nil))) (pe_un un_neg pe_int) (fun _ _ => rfl)) pe_int) pa_nil))) (blkOk_by (own := [("one", 6)]) (N := N__law_all) (sc := defScope s__law_all) (by decide +kernel)) (fun _ _ _ _ _ => pg_name (i := 6) sc__law_all.nd rfl (by first | exact .inl rfl | exact .inr rfl)) (fun _ _ _ _ _ => pts_nil) (fun _ _ _ _ _ => (pe_op op_cat (pv 5) (pe_lst (pa_cons (pv 6) pa_nil))))) pa_nil))))))
    (pss_one (ps_set (i := 2) sc__law_all.nd rfl (.inl rfl) (pv 4))))))
    (pss_one (ps_ret (pv 2))))), ?_⟩
    obtain ⟨hm, ht1, ht6, k⟩ := hw
    walk_at "hs"
    intro p0 hp0
    generalize hG_p0 : upd _ p0 _ = H1
    have at_p0 := HS.upgs hG_p0
    have Kn_p0 := HS.upgK hG_p0 hp0
    clear hG_p0
    walk_at "hs"
    intro F0 hF0
    generalize hG_F0 : upd _ F0 _ = H2
    have at_F0 := HS.upgs hG_F0
    have Kn_F0 := HS.upgK hG_F0 hF0
    clear hG_F0
    have at_p0 := Kn_F0 _ _ at_p0 id
    walk_at "hs"
    refine ⟨by omega, by omega, for_range (n := m) (fun i σ H' => HS.Keep (fun _ => False) H H' ∧ ∃ F vs x3 x4 x5 x6, σ = [some (.int m), some (.int top), some (.ref F), x3, x4, x5, x6] ∧ H F = none ∧ H' F = some (.lst vs) ∧ HS.Lol H' vs (allL top i)) ⟨Kn_p0.trans Kn_F0, F0, _, _, _, _, _, rfl, Kn_p0.free hF0 id, at_F0, HS.Lol.one at_p0⟩ ?_ ?_⟩
    · rintro i σ H3 hi ⟨K3, F, vs, x3, x4, x5, x6, rfl, hF0, hF, hV⟩
      have il := allL_len top i
      have p6 : top ^ i ≤ 6 ^ 3 := Nat.le_trans (Nat.pow_le_pow_left ht6 i) (Nat.pow_le_pow_right (by decide) (by omega))
      have vl := hV.len
      walk_at "hs"
      intro G hG
      have KG : HS.Keep (fun _ => False) H3 (upd H3 G (.lst [])) := .new hG
      have hG1 := upd_same (H := H3) (a := G) (o := .lst [])
      have hF4 := KG _ _ hF id
      have hV4 := hV.same KG
      have hGH := K3.free hG id
      generalize upd H3 G (.lst []) = H4 at KG hG1 hF4 hV4 ⊢
      have hFG : F ≠ G := ne_of_none hF hG
      walk_at "hs"
      refine ⟨⟨_, HS.sq hF4⟩, for_list (xs := vs) (fun j σ H' => HS.Keep (fun a => a = G) H4 H' ∧ ∃ ws x5 x6, σ = [some (.int m), some (.int top), some (.ref F), some (.int (0 + (i : Int))), some (.ref G), x5, x6] ∧ H' G = some (.lst ws) ∧ HS.Lol H' ws (((allL top i).take j).flatMap (extL top)) ∧ ∀ v ∈ ws, ∀ t, v = .ref t → H4 t = none) ⟨.refl, [], _, _, rfl, hG1, trivial, fun v hv => absurd hv List.not_mem_nil⟩ (fun j σ H' _ ⟨K', _⟩ => HS.sq (K' _ _ hF4 hFG)) ?_ ?_⟩
      · rintro j x σ H5 hj ⟨K5, ws, x5, x6, rfl, hG5, hW, hnew⟩
        obtain ⟨t, r, rfl, hr, ht⟩ := hV4.at hj
        have htG : t ≠ G := fun z => by
          obtain ⟨t', r', e', _, o'⟩ := hV.at hj
          cases e'
          rw [z, hG] at o'; cases o'
        have ht5 := K5 _ _ ht htG
        have wl := hW.len
        have fl := flatL_len top ((allL top i).take j)
        have tl : ((allL top i).take j).length ≤ top ^ i := by rw [List.length_take]; omega
        have fl2 : ((allL top i).take j).length * top ≤ 216 * 6 := Nat.mul_le_mul (Nat.le_trans tl p6) ht6
        have rl : r.length = i := (allL_mem.mp (List.mem_of_getElem? hr)).1
        walk_at "hs"
        intro e1 he1
        generalize hG_e1 : upd _ e1 _ = H6
        have at_e1 := HS.upgs hG_e1
        have Kn_e1 := HS.upgK hG_e1 he1
        clear hG_e1
        have ht5 := Kn_e1 _ _ ht5 id
        have hG5 := Kn_e1 _ _ hG5 id
        have hW := hW.same Kn_e1
        walk_at "hs"
        intro e2 he2
        generalize hG_e2 : upd _ e2 _ = H7
        have at_e2 := HS.upgs hG_e2
        have Kn_e2 := HS.upgK hG_e2 he2
        clear hG_e2
        have ht5 := Kn_e2 _ _ ht5 id
        have hG5 := Kn_e2 _ _ hG5 id
        have hW := hW.same Kn_e2
        have K57 := Kn_e1.trans Kn_e2
        walk_at "hs"
        refine ⟨e2, _, -1, _, rfl, rfl, HS.sq at_e2, HS.at_last (ys := r.map V.int) rfl, ?_⟩
        walk_at "hs"
        refine ⟨by omega, fun D hD => ?_⟩
        rw [show ((top : Int) + 1 - 1).toNat = top by omega]
        refine lc_range (lo := 1) (n := top) (fun m H' => HS.Keep (fun _ => False) H7 H' ∧ ∃ us, H' D = some (.lst us) ∧ HS.Lol H' us ((List.range m).map fun (i : Nat) => r ++ [1 + (i : Int)]) ∧ ∀ v ∈ us, ∀ t, v = .ref t → H7 t = none ∧ t ≠ D) ⟨.new hD, [], upd_same, trivial, fun v hv => absurd hv List.not_mem_nil⟩ ?_ ?_
        · rintro m H8 hm ⟨K8, us, hD8, hU, hun⟩
          have ht8 := K8 _ _ ht5 id
          have ul := hU.len
          rw [List.length_map, List.length_range] at ul
          walk_at "hs"
          intro e he
          generalize hG_e : upd _ e _ = H9
          have at_e := HS.upgs hG_e
          have Kn_e := HS.upgK hG_e he
          clear hG_e
          have ht8 := Kn_e _ _ ht8 id
          have hD8 := Kn_e _ _ hD8 id
          have hU := hU.same Kn_e
          walk_at "hs"
          intro n hn
          have hnD : n ≠ D := (ne_of_none hD8 hn).symm
          have hn7 : H7 n = none := (K8.trans Kn_e).free hn id
          have Kn : HS.Keep (fun _ => False) H9 (upd H9 n (.lst (r.map V.int ++ [V.int (1 + (m : Int))]))) := .new hn
          have hn9 := upd_same (H := H9) (a := n) (o := .lst (r.map V.int ++ [V.int (1 + (m : Int))]))
          have hD9 := Kn _ _ hD8 id
          have hU := hU.same Kn
          generalize upd H9 n (.lst (r.map V.int ++ [V.int (1 + (m : Int))])) = H10 at Kn hn9 hD9 hU ⊢
          refine ⟨us, hD9, HS.sz (by omega), ((K8.trans Kn_e).trans Kn).put hD, us ++ [.ref n], upd_same, ?_, ?_⟩
          · rw [List.range_succ, List.map_append]
            have k2 : HS.Keep (fun a => a = D) H10 (upd H10 D (.lst (us ++ [.ref n]))) := HS.Keep.at HS.Keep.refl rfl
            refine (hU.keep k2 fun v hv t e => (hun v hv t e).2).app ?_
            exact HS.Lol.one (by rw [upd_ne hnD, hn9, List.map_append]; rfl)
          · intro v hv t e
            rcases List.mem_append.mp hv with hv | hv
            · exact hun v hv t e
            · rw [List.mem_singleton] at hv
              subst hv
              cases e
              exact ⟨hn7, hnD⟩
        · rintro H8 ⟨K8, us, hD8, hU, hun⟩
          have hG8 := K8 _ _ hG5 id
          have hW := hW.same K8
          have ul := hU.len
          rw [List.length_map, List.length_range] at ul
          refine ⟨G, D, ws, us, rfl, rfl, hG8, hD8, HS.szl (by omega), ?_⟩
          have hKG : HS.Keep (fun a => a = G) H8 (upd H8 G (.lst (ws ++ us))) := HS.Keep.at HS.Keep.refl rfl
          have hG7 : ∀ t, H7 t = none → t ≠ G := fun t h z => by rw [z, hG5] at h; cases h
          refine ⟨(K5.trans (((K57.trans K8)).any)).trans hKG, ws ++ us, _, _, rfl, upd_same, ?_, ?_⟩
          · rw [List.take_add_one, hr, List.flatMap_append]
            refine (hW.keep hKG fun v hv t e z => ?_).app ?_
            · have := hnew v hv t e
              rw [z, hG1] at this; cases this
            · have := hU.keep hKG fun v hv t e => hG7 t (hun v hv t e).1
              simpa [extL] using this
          · intro v hv t e
            rcases List.mem_append.mp hv with hv | hv
            · exact hnew v hv t e
            · have h7 := (hun v hv t e).1
              exact (K5.trans K57.any).free h7 (hG7 t h7)
      · rintro σ H5 ⟨K5, ws, x5, x6, rfl, hG5, hW, hnew⟩
        walk_at "hs"
        refine ⟨K3.trans (fun a o e _ => K5 a o (KG a o e id) fun z => ?_), G, ws, _, _, _, _, rfl, hGH, hG5, ?_⟩
        · have z : a = G := z
          rw [z, hG] at e; cases e
        · rw [vl, List.take_length] at hW
          exact hW
    · rintro σ H3 ⟨K3, F, vs, x3, x4, x5, x6, rfl, hF0, hF, hV⟩
      walk_at "hs"
      exact k _ F vs K3 hF0 hF hV
def sp__law_tried (K : PySem.W.Frag) : Sp := fun vs H Q _ => ∃ (t : Addr) (rows : List Int), vs = [.ref t] ∧ (SqL K H t (rows.map V.int) ∧ 1 ≤ rows.length ∧ rows.length ≤ 6 ∧ (∀ c, rows.getLast? = some c → c ≤ 4) ∧ ∀ H', HS.Keep (fun _ => False) H H' → Q (HS.oI (wrongT rows)) H')
theorem ok__law_tried (T : Txt K mg A) : FnOk P w K mg base CX0 2 A.a__law_tried A.d__law_tried ["rows"] (sp__law_tried K) := by
  have G__law_all : FnOk P w K mg base CX0 1 A.a__law_all A.d__law_all ["many", "top"] (sp__law_all K) := ok__law_all T
  have G__law_counted : FnOk P w K mg base CX0 1 A.a__law_counted A.d__law_counted ["some", "wide"] (sp__law_counted K) := ok__law_counted T
  refine T.F__law_tried.ok sc__law_tried (fun vs H Q E h => ?_) (fun cdv A0 outer s H vs Q E hr h => ?_)
  · obtain ⟨t, rows, rfl, hw⟩ := h
    rfl
  · obtain ⟨t, rows, rfl, hw⟩ := h
    refine ⟨_, (pss_cons (ps_set (i := 1) sc__law_tried.nd rfl (.inl rfl) (pe_callB (HS.klen K) (by rfl) T.z_len PySem.boot_len (pa_cons (pv 0) pa_nil)))
    (pss_cons (ps_if (pt_cmpR op_lt (pe_ix (HS.ixl K) (pv 0) (pe_un un_neg pe_int) (fun _ _ => rfl)) pe_int (nomark _))
      (pss_one (ps_ret (pv 1)))
      pss_nil)
    (pss_cons (ps_set (i := 2) sc__law_tried.nd rfl (.inl rfl) (pe_call G__law_all hr (by rfl) T.g__law_all T.F__law_all.kp T.b__law_all .nil pass0 (pa_cons (pe_ix (HS.ixl K) (pv 0) (pe_un un_neg pe_int) (fun _ _ => rfl)) (pa_cons (pv 1) pa_nil))))
    (pss_cons (ps_for PassesOwn.never rfl (pi_range3 (by rfl) T.z_range (pa_cons (pv 1) (pa_cons pe_int (pa_cons (pe_un un_neg pe_int) pa_nil)))) (pg_name (i := 3) sc__law_tried.nd rfl (.inr rfl))
      (pss_cons (ps_setLc (i := 2) (own := [("some", 4)]) (g := gName 4) rfl sc__law_tried.nd rfl rfl (sw_true rfl rfl rfl (by decide +kernel)) (HS.kil K (pi_list (pv 2))) (blkOk_by (own := [("some", 4)]) (N := N__law_tried) (sc := defScope s__law_tried) (by decide +kernel)) (fun _ _ _ _ _ => pg_name (i := 4) sc__law_tried.nd rfl (by first | exact .inl rfl | exact .inr rfl)) (fun _ _ _ _ _ => (pts_one (pt_cmpR op_eq (pe_call G__law_counted hr (by rfl) T.g__law_counted T.F__law_counted.kp T.b__law_counted .nil pass0 (pa_cons (pv 4) (pa_cons (pv 3) pa_nil))) (pe_ix (HS.ixl K) (pv 0) (pe_op op_sub (pv 3) pe_int) (fun _ _ => rfl)) (nomark _)))) (fun _ _ _ _ _ => (pv 4)))
    (pss_one (ps_if (pt_cmpR (HS.keq K (hu64 hr)) (pv 2) (pe_lst pa_nil) (nomark _))
      (pss_one (ps_ret (pv 3)))
      pss_nil))))
    (pss_one (ps_ret pe_non)))))), ?_⟩
    obtain ⟨ht, hl1, hl6, hc4, k⟩ := hw
    cases hg : rows.getLast? with
    | none =>
      have e0 : rows = [] := List.getLast?_eq_none_iff.mp hg
      rw [e0] at hl1
      exact absurd hl1 (by decide)
    | some c =>
      obtain ⟨r0, er⟩ := List.getLast?_eq_some_iff.mp hg
      have hn : rows.length = r0.length + 1 := by rw [er, List.length_append]; rfl
      have hc := hc4 c hg
      have atl : atI (rows.map V.int) (-1) = some (.int c) := HS.at_last (ys := r0.map V.int) (by rw [er, List.map_append]; rfl)
      walk_at "hs"
      rw [List.length_map]
      refine ⟨t, _, -1, _, rfl, rfl, ht, atl, ?_⟩
      walk_at "hs"
      refine HS.itd (fun hc0 => ?_) (fun hc0 => ?_)
      · have eA : wrongT rows = some (rows.length : Int) := by unfold wrongT; rw [hg]; exact if_pos hc0
        rw [eA] at k
        walk_at "hs"
        exact k _ .refl
      walk_at "hs"
      refine ⟨t, _, -1, _, rfl, rfl, ht, atl, ?_⟩
      walk_at "hs"
      refine ⟨c.toNat, rows.length, by rw [show ((c.toNat : Nat) : Int) = c by omega], by omega, by omega, by omega, fun H1 F vs K1 hF0 hF hV => ?_⟩
      have all : ∀ x, x ∈ allL rows.length c.toNat ↔ Fits rows c rows.length x := fun x => by
        rw [allL_mem]
        exact ⟨fun ⟨a, b⟩ => ⟨by omega, b, fun v h1 h2 => by omega⟩, fun h => ⟨by have := h.len; omega, h.mem⟩⟩
      have len : (allL rows.length c.toNat).length ≤ 6 ^ 4 := by
        rw [allL_len]
        exact Nat.le_trans (Nat.pow_le_pow_left hl6 _) (Nat.pow_le_pow_right (by decide) (by omega))
      walk_at "hs"
      refine ⟨_, _, _, _, rfl, RgC.neg (by omega) (by omega) (by omega) (by omega), ?_⟩
      rw [show ((rows.length : Int) - 0).toNat = rows.length by omega]
      refine for_rangeC (fun i σ H' => HS.Keep (fun _ => False) H H' ∧ i ≤ rows.length ∧ ∃ (F : Addr) (vs : List V) (rs : List (List Int)) (x3 x4 : Option V), σ = [some (.ref t), some (.int rows.length), some (.ref F), x3, x4] ∧ H' F = some (.lst vs) ∧ HS.Lol H' vs rs ∧ rs.length ≤ 6 ^ 4 ∧ (∀ x, x ∈ rs ↔ Fits rows c (rows.length - i) x) ∧ ∃ ls, Stat rows c (rows.length - i) ls) ?_ ?_ ?_
      · exact ⟨K1, Nat.zero_le _, F, vs, _, _, _, rfl, hF, hV, len, all, [], (stat_top hg (by omega)).1⟩
      · rintro i σ H2 hi ⟨K2, _, F, vs, rs, x3, x4, rfl, hF, hV, hr6, hrs, ls, hst⟩
        obtain ⟨s, es⟩ : ∃ s, rows.length - i = s + 1 := ⟨rows.length - i - 1, by omega⟩
        have hsz : (rows.length : Int) + (i : Nat) * -1 = (s : Int) + 1 := by omega
        rw [es] at hrs hst
        rw [hsz]
        obtain ⟨z, hz⟩ : ∃ z, rows[s]? = some z := ⟨_, List.getElem?_eq_getElem (by omega)⟩
        have hgz : rows.getD s 0 = z := by rw [List.getD_eq_getElem?_getD, hz]; rfl
        have vl := hV.len
        walk_at "hs"
        refine ⟨⟨_, HS.sq hF⟩, fun D hD => ?_⟩
        refine lc_list (xs := vs) (fun j H' => HS.Keep (fun _ => False) H2 H' ∧ ∃ us, H' D = some (.lst us) ∧ HS.Lol H' us ((rs.take j).filter fun x => decide (pcount x ((s : Int) + 1) = z)) ∧ ∀ v ∈ us, ∀ t, v = .ref t → t ≠ D) ⟨.new hD, [], upd_same, trivial, fun v hv => absurd hv List.not_mem_nil⟩ (fun j H' _ ⟨K', _⟩ => HS.sq (K' _ _ hF id)) ?_ ?_
        · rintro j x H3 hj ⟨K3, us, hD3, hU, hun⟩
          obtain ⟨q, r, rfl, hr, hq⟩ := hV.at hj
          have hq3 := K3 _ _ hq id
          have hrm : r ∈ rs := List.mem_of_getElem? hr
          have rl := ((hrs r).mp hrm).len
          have ul := hU.len
          have ul2 : us.length ≤ 6 ^ 4 := by rw [ul]; exact Nat.le_trans (List.length_filter_le _ _) (by rw [List.length_take]; omega)
          have ez : rs.take (j + 1) = rs.take j ++ [r] := by rw [List.take_add_one, hr]; rfl
          walk_at "hs"
          refine ⟨q, r, _, rfl, HS.sq hq3, by omega, by omega, by omega, fun H4 K4 => ?_⟩
          have hD4 := K4 _ _ hD3 id
          have hq4 := K4 _ _ hq3 id
          have hU := hU.same K4
          walk_at "hs"
          refine HS.ixZ (((K2.trans K3).trans K4).sq ht id) (by omega) (by rw [show ((s : Int) + 1 - 1).toNat = s by omega]; exact hz) ?_
          walk_at "hs"
          refine HS.itd (fun h => ?_) (fun h => ?_)
          · walk_at "hs"
            have hqD : q ≠ D := ne_of_none hq hD
            refine ⟨us, hD4, HS.sz (by omega), (K3.trans K4).put hD, us ++ [.ref q], upd_same, ?_, ?_⟩
            · rw [ez, List.filter_append, List.filter_cons_of_pos (by simpa using h)]
              have k2 : HS.Keep (fun a => a = D) H4 (upd H4 D (.lst (us ++ [.ref q]))) := HS.Keep.at HS.Keep.refl rfl
              refine (hU.keep k2 fun v hv t e => hun v hv t e).app ?_
              exact HS.Lol.one (by rw [upd_ne hqD]; exact hq4)
            · intro v hv t e
              rcases List.mem_append.mp hv with hv | hv
              · exact hun v hv t e
              · rw [List.mem_singleton] at hv
                subst hv
                cases e
                exact hqD
          · refine ⟨K3.trans K4, us, hD4, ?_, hun⟩
            rw [ez, List.filter_append, List.filter_cons_of_neg (by simpa using h), List.filter_nil, List.append_nil]
            exact hU
        · rintro H3 ⟨K3, us, hD3, hU, hun⟩
          rw [vl, List.take_length] at hU
          have mem : ∀ x, x ∈ rs.filter (fun x => decide (pcount x ((s : Int) + 1) = z)) ↔ Fits rows c s x := fun x => by
            rw [List.mem_filter, hrs x, decide_eq_true_eq, ← hgz]
            exact ⟨fun ⟨a, b⟩ => a.down b, fun h => ⟨h.up, h.here (by omega)⟩⟩
          have l6 : (rs.filter (fun x => decide (pcount x ((s : Int) + 1) = z))).length ≤ 6 ^ 4 := Nat.le_trans (List.length_filter_le _ _) hr6
          generalize rs.filter (fun x => decide (pcount x ((s : Int) + 1) = z)) = rs' at hU mem l6
          have KK := K2.trans K3
          walk_at "hs"
          intro e0 he0
          generalize hG_e0 : upd _ e0 _ = H4
          have at_e0 := HS.upgs hG_e0
          have Kn_e0 := HS.upgK hG_e0 he0
          clear hG_e0
          have hD3 := Kn_e0 _ _ hD3 id
          have hU := hU.same Kn_e0
          have KK := KK.trans Kn_e0
          refine HS.eqE (HS.sq hD3) hU (HS.sq at_e0) ?_
          walk_at "hs"
          refine HS.itd (fun h => ?_) (fun h => ?_)
          · have eW : wrongT rows = some ((s : Int) + 1) := by
              rcases stat_step (by omega) hg (by omega) hst (by omega) with ⟨ls', h'⟩ | ⟨_, h'⟩
              · have := (mem _).mpr (h'.half.fits hl1)
                rw [h] at this
                exact absurd this List.not_mem_nil
              · exact h'
            rw [eW] at k
            walk_at "hs"
            exact k _ KK
          · have st : ∃ ls, Stat rows c s ls := by
              rcases stat_step (by omega) hg (by omega) hst (by omega) with h' | ⟨h', _⟩
              · exact h'
              · exact absurd (List.eq_nil_iff_forall_not_mem.mpr fun x hx => h' x ((mem x).mp hx)) h
            walk_at "hs"
            refine ⟨KK, by omega, D, us, rs', _, _, rfl, hD3, hU, l6, ?_, ?_⟩
            · rw [show rows.length - (i + 1) = s by omega]; exact mem
            · rw [show rows.length - (i + 1) = s by omega]; exact st
      · rintro σ H2 ⟨K2, _, F, vs, rs, x3, x4, rfl, hF, hV, hr6, hrs, ls, hst⟩
        rw [Nat.sub_self] at hst
        have eW : wrongT rows = none := (hst.go (by omega)).symm
        rw [eW] at k
        walk_at "hs"
        exact k _ K2
def sp_law (K : PySem.W.Frag) : Sp := fun vs H Q _ => ∃ (a : Addr) (ns : List Int), vs = [.ref a] ∧ (SqL K H a (ns.map V.int) ∧ ns.length ≤ 63 ∧ ∀ H', Q (.bl true) H')
theorem ok_law (T : Txt K mg A) : HS.FnG P w K mg base CX0 6 A.a_law A.d_law ["script"] (sp_law K) := by
  have G__law_rng : FnOk P w K mg base CX0 1 A.a__law_rng A.d__law_rng ["script"] (sp__law_rng K) := ok__law_rng T
  have G__law_draw : FnOk P w K mg base CX0 1 A.a__law_draw A.d__law_draw ["rng", "limit"] (sp__law_draw K) := ok__law_draw T
  have G__law_some : FnOk P w K mg base CX0 2 A.a__law_some A.d__law_some ["rng", "most", "longest"] (sp__law_some K) := ok__law_some T
  have G__law_counted : FnOk P w K mg base CX0 1 A.a__law_counted A.d__law_counted ["some", "wide"] (sp__law_counted K) := ok__law_counted T
  have G__law_tried : FnOk P w K mg base CX0 2 A.a__law_tried A.d__law_tried ["rows"] (sp__law_tried K) := ok__law_tried T
  have G__law_right : HS.FnG P w K mg base CX0 5 A.a__law_right A.d__law_right ["rows", "wrong"] (sp__law_right K) := ok__law_right T
  have G__law_wrong : FnOk P w K mg base CX0 2 A.a__law_wrong A.d__law_wrong ["rows"] (sp__law_wrong K) := ok__law_wrong T
  have G__law_told : FnOk P w K mg base CX0 4 A.a__law_told A.d__law_told ["rows"] (sp__law_told K) := ok__law_told T
  refine HS.Fun.okG T.F_law sc_law (fun vs H Q E h => ?_) (fun cdv A0 outer s H vs Q E hg hr h => ?_)
  · obtain ⟨a, ns, rfl, hw⟩ := h
    rfl
  · obtain ⟨a, ns, rfl, hw⟩ := h
    refine ⟨_, (pss_cons (ps_set (i := 1) sc_law.nd rfl (.inr rfl) (pe_call G__law_rng (hr.mono (by decide)) (by rfl) T.g__law_rng T.F__law_rng.kp T.b__law_rng .nil pass0 (pa_cons (pv 0) pa_nil)))
    (pss_cons (ps_for PassesOwn.never rfl (pi_range1 (by rfl) T.z_range (pa_cons (pe_op op_add pe_int (pe_callB (call_min2 rfl) (by rfl) T.z_min (by decide +kernel) (pa_cons pe_int (pa_cons (pe_callB (HS.klen K) (by rfl) T.z_len PySem.boot_len (pa_cons (pv 0) pa_nil)) pa_nil)))) pa_nil)) (pg_name (i := 2) sc_law.nd rfl (.inl rfl))
      (pss_cons (ps_for PassesOwn.never rfl (pi_range1 (by rfl) T.z_range (pa_cons pe_int pa_nil)) (pg_name (i := 3) sc_law.nd rfl (.inl rfl))
      (pss_cons (ps_set (i := 4) sc_law.nd rfl (.inl rfl) (pe_op op_add pe_int (pe_call G__law_draw (hr.mono (by decide)) (by rfl) T.g__law_draw T.F__law_draw.kp T.b__law_draw .nil pass0 (pa_cons (pv 1) (pa_cons pe_int pa_nil)))))
    (pss_cons (ps_set (i := 5) sc_law.nd rfl (.inr rfl) (pe_call G__law_some (hr.mono (by decide)) (by rfl) T.g__law_some T.F__law_some.kp T.b__law_some .nil pass0 (pa_cons (pv 1) (pa_cons pe_int (pa_cons (pv 4) pa_nil)))))
    (pss_cons (ps_setLc (i := 6) (own := [("wide", 9)]) (g := gName 9) (tt := tYes) rfl sc_law.nd rfl rfl (sw_true rfl rfl rfl (by decide +kernel)) (pi_range2 (by rfl) T.z_range (pa_cons pe_int (pa_cons (pe_op op_add (pv 4) pe_int) pa_nil))) (blkOk_by (own := [("wide", 9)]) (N := N_law) (sc := defScope s_law) (by decide +kernel)) (fun _ _ _ _ _ => pg_name (i := 9) sc_law.nd rfl (by first | exact .inl rfl | exact .inr rfl)) (fun _ _ _ _ _ => pts_nil) (fun _ _ _ _ _ => (pe_call G__law_counted (hr.mono (by decide)) (by rfl) T.g__law_counted T.F__law_counted.kp T.b__law_counted .nil pass0 (pa_cons (pv 5) (pa_cons (pv 9) pa_nil)))))
    (Evl.pss_cut (ps_if (pt_cmpR op_eq (pe_call G__law_draw (hr.mono (by decide)) (by rfl) T.g__law_draw T.F__law_draw.kp T.b__law_draw .nil pass0 (pa_cons (pv 1) (pa_cons pe_int pa_nil))) pe_int (nomark _))
      (pss_one (ps_set (i := 6) sc_law.nd rfl (.inl rfl) (pe_op op_cat (pe_lc (own := [("wide", 9)]) (g := gName 9) (tt := tYes) rfl sc_law.nd (pi_range1 (by rfl) T.z_range (pa_cons (pe_op op_sub (pv 4) pe_int) pa_nil)) (blkOk_by (own := [("wide", 9)]) (N := N_law) (sc := defScope s_law) (by decide +kernel)) (fun _ _ _ _ _ => pg_name (i := 9) sc_law.nd rfl (by first | exact .inl rfl | exact .inr rfl)) (fun _ _ _ _ _ => pts_nil) (fun _ _ _ _ _ => (pe_call G__law_draw (hr.mono (by decide)) (by rfl) T.g__law_draw T.F__law_draw.kp T.b__law_draw .nil pass0 (pa_cons (pv 1) (pa_cons pe_int pa_nil))))) (pe_lst (pa_cons (pe_op op_sub (pe_call G__law_draw (hr.mono (by decide)) (by rfl) T.g__law_draw T.F__law_draw.kp T.b__law_draw .nil pass0 (pa_cons (pv 1) (pa_cons pe_int pa_nil))) pe_int) pa_nil)))))
      pss_nil)
    (pss_cons (ps_set (i := 7) sc_law.nd rfl (.inl rfl) (pe_call G__law_draw (hr.mono (by decide)) (by rfl) T.g__law_draw T.F__law_draw.kp T.b__law_draw .nil pass0 (pa_cons (pv 1) (pa_cons (pv 4) pa_nil))))
    (pss_cons (ps_asg (pe_op op_add (pe_ix (HS.ixl K) (pv 6) (pv 7) (fun _ _ => rfl)) (pe_ix (HS.ixl K) (pe_lst (pa_cons pe_int (pa_cons pe_int (pa_cons (pe_un un_neg pe_int) (pa_cons pe_int pa_nil))))) (pe_call G__law_draw (hr.mono (by decide)) (by rfl) T.g__law_draw T.F__law_draw.kp T.b__law_draw .nil pass0 (pa_cons (pv 1) (pa_cons pe_int pa_nil))) (fun _ _ => rfl))) (pg_sub (pv 6) (pv 7) set_list))
    (pss_one (ps_if (pt_cmpR op_lt (pe_ix (HS.ixl K) (pv 6) (pe_un un_neg pe_int) (fun _ _ => rfl)) pe_int (nomark _))
      (pss_cons (ps_set (i := 8) sc_law.nd rfl (.inl rfl) (pe_call G__law_tried (hr.mono (by decide)) (by rfl) T.g__law_tried T.F__law_tried.kp T.b__law_tried .nil pass0 (pa_cons (pv 6) pa_nil)))
    (pss_one (ps_if (PW.pt (pw_or (pt_cmpR (HS.kne K (hu64 hr)) (pv 8) (pe_call G__law_wrong (hr.mono (by decide)) (by rfl) T.g__law_wrong T.F__law_wrong.kp T.b__law_wrong .nil pass0 (pa_cons (pv 6) pa_nil)) (nomark _)) (pw_or1 (pt_not (pt_val (HS.pe_callG hg G__law_right hr (by rfl) T.g__law_right T.F__law_right.kp T.b__law_right pass0 (pa_cons (pv 6) (pa_cons (pv 8) pa_nil))))))))
      (pss_one (ps_ret pe_bl))
      pss_nil)))
      pss_nil)))))))))
    (pss_cons (ps_set (i := 4) sc_law.nd rfl (.inl rfl) (pe_op op_add pe_int (pe_call G__law_draw (hr.mono (by decide)) (by rfl) T.g__law_draw T.F__law_draw.kp T.b__law_draw .nil pass0 (pa_cons (pv 1) (pa_cons (pe_ix (HS.ixl K) (pe_lst (pa_cons pe_int (pa_cons pe_int pa_nil))) (pe_call G__law_draw (hr.mono (by decide)) (by rfl) T.g__law_draw T.F__law_draw.kp T.b__law_draw .nil pass0 (pa_cons (pv 1) (pa_cons pe_int pa_nil))) (fun _ _ => rfl)) pa_nil)))))
    (pss_cons (ps_set (i := 5) sc_law.nd rfl (.inr rfl) (pe_call G__law_some (hr.mono (by decide)) (by rfl) T.g__law_some T.F__law_some.kp T.b__law_some .nil pass0 (pa_cons (pv 1) (pa_cons (pe_ix (HS.ixl K) (pe_lst (pa_cons pe_int (pa_cons pe_int pa_nil))) (pe_call G__law_draw (hr.mono (by decide)) (by rfl) T.g__law_draw T.F__law_draw.kp T.b__law_draw .nil pass0 (pa_cons (pv 1) (pa_cons pe_int pa_nil))) (fun _ _ => rfl)) (pa_cons (pv 4) pa_nil)))))
    (pss_cons (ps_setLc (i := 6) (own := [("wide", 9)]) (g := gName 9) (tt := tYes) rfl sc_law.nd rfl rfl (sw_true rfl rfl rfl (by decide +kernel)) (pi_range2 (by rfl) T.z_range (pa_cons pe_int (pa_cons (pe_op op_add (pv 4) pe_int) pa_nil))) (blkOk_by (own := [("wide", 9)]) (N := N_law) (sc := defScope s_law) (by decide +kernel)) (fun _ _ _ _ _ => pg_name (i := 9) sc_law.nd rfl (by first | exact .inl rfl | exact .inr rfl)) (fun _ _ _ _ _ => pts_nil) (fun _ _ _ _ _ => (pe_call G__law_counted (hr.mono (by decide)) (by rfl) T.g__law_counted T.F__law_counted.kp T.b__law_counted .nil pass0 (pa_cons (pv 5) (pa_cons (pv 9) pa_nil)))))
    (pss_cons (ps_for PassesOwn.never rfl (pi_range1 (by rfl) T.z_range (pa_cons (pe_op op_add pe_int (pe_call G__law_draw (hr.mono (by decide)) (by rfl) T.g__law_draw T.F__law_draw.kp T.b__law_draw .nil pass0 (pa_cons (pv 1) (pa_cons pe_int pa_nil)))) pa_nil)) (pg_name (i := 3) sc_law.nd rfl (.inl rfl))
      (pss_cons (ps_set (i := 7) sc_law.nd rfl (.inl rfl) (pe_call G__law_draw (hr.mono (by decide)) (by rfl) T.g__law_draw T.F__law_draw.kp T.b__law_draw .nil pass0 (pa_cons (pv 1) (pa_cons (pv 4) pa_nil))))
    (pss_one (ps_asg (pe_op op_add (pe_ix (HS.ixl K) (pv 6) (pv 7) (fun _ _ => rfl)) (pe_ix (HS.ixl K) (pe_lst (pa_cons pe_int (pa_cons (pe_un un_neg pe_int) (pa_cons (pe_op op_sub (pe_call G__law_draw (hr.mono (by decide)) (by rfl) T.g__law_draw T.F__law_draw.kp T.b__law_draw .nil pass0 (pa_cons (pv 1) (pa_cons pe_int pa_nil))) pe_int) (pa_cons (pe_op op_sub pe_int (pe_call G__law_draw (hr.mono (by decide)) (by rfl) T.g__law_draw T.F__law_draw.kp T.b__law_draw .nil pass0 (pa_cons (pv 1) (pa_cons (HS.pe_fold (100000000000000000000000000000) (pe_op op_pow pe_int pe_int) (by intro σ H Q q; walk_at "fold")) pa_nil)))) pa_nil))))) (pe_call G__law_draw (hr.mono (by decide)) (by rfl) T.g__law_draw T.F__law_draw.kp T.b__law_draw .nil pass0 (pa_cons (pv 1) (pa_cons pe_int pa_nil))) (fun _ _ => rfl))) (pg_sub (pv 6) (pv 7) set_list)))))
    (pss_one (ps_if (PW.pt (pw_and (pt_cmpR op_le (pe_ix (HS.ixl K) (pv 6) (pe_un un_neg pe_int) (fun _ _ => rfl)) pe_int (nomark _)) (pw_and1 (pt_not (pt_val (HS.pe_callG hg G__law_right hr (by rfl) T.g__law_right T.F__law_right.kp T.b__law_right pass0 (pa_cons (pv 6) (pa_cons (pe_call G__law_wrong (hr.mono (by decide)) (by rfl) T.g__law_wrong T.F__law_wrong.kp T.b__law_wrong .nil pass0 (pa_cons (pv 6) pa_nil)) pa_nil))))))))
      (pss_one (ps_ret pe_bl))
      pss_nil))))))))
    (pss_one (ps_ret (pe_and (pe_cmpR (HS.keq K (hu64 hr)) (pe_call G__law_told (hr.mono (by decide)) (by rfl) T.g__law_told T.F__law_told.kp T.b__law_told .nil pass0 (pa_cons (pe_lst (pa_cons pe_int (pa_cons pe_int (pa_cons pe_int (pa_cons pe_int pa_nil))))) pa_nil)) pe_int (nomark _)) (pe_and (pe_cmpR (HS.keq K (hu64 hr)) (pe_call G__law_told (hr.mono (by decide)) (by rfl) T.g__law_told T.F__law_told.kp T.b__law_told .nil pass0 (pa_cons (pe_lst (pa_cons pe_int (pa_cons (pe_un un_neg pe_int) pa_nil))) pa_nil)) pe_int (nomark _)) (pe_one (pe_cmpR (HS.keq K (hu64 hr)) (pe_call G__law_told (hr.mono (by decide)) (by rfl) T.g__law_told T.F__law_told.kp T.b__law_told .nil pass0 (pa_cons (pe_lst (pa_cons pe_int (pa_cons pe_int pa_nil))) pa_nil)) pe_int (nomark _))))))))), ?_⟩
    obtain ⟨hS, hl, k⟩ := hw
    walk_at "hs"
    refine ⟨a, ns, rfl, hS, hl, fun H1 s K1 hs S1 => ?_⟩
    have hS1 := K1.sq hS id
    walk_at "hs"
    rw [List.length_map]
    refine ⟨by split <;> omega, by split <;> omega, for_range (n := _) (fun i σ H' => Rng H' s (42200 * i) ∧ ∃ x2 x3 x4 x5 x6 x7 x8 x9, σ = [some (.ref a), some (.ref s), x2, x3, x4, x5, x6, x7, x8, x9]) ⟨S1, _, _, _, _, _, _, _, _, rfl⟩ ?_ ?_⟩
    · rintro i σ H2 hi ⟨S2, x2, x3, x4, x5, x6, x7, x8, x9, rfl⟩
      have hi' : i < 12 := by split at hi <;> omega
      walk_at "hs"
      refine ⟨by decide, by decide, for_range (n := 6) (fun t σ H' => Rng H' s (42200 * i + 6020 * t) ∧ ∃ x3 x4 x5 x6 x7 x8 x9, σ = [some (.ref a), some (.ref s), some (.int (0 + (i : Int))), x3, x4, x5, x6, x7, x8, x9]) ⟨S2, _, _, _, _, _, _, _, rfl⟩ ?_ ?_⟩
      · rintro t σ H3 ht ⟨S3, x3, x4, x5, x6, x7, x8, x9, rfl⟩
        walk_at "hs"
        refine ⟨s, 6, _, rfl, S3, by decide, by decide, by omega, fun H4 u K4 S4 u0 u1 => ?_⟩
        walk_at "hs"
        refine ⟨s, 4, 1 + u, _, rfl, S4, by decide, by decide, by omega, by omega, by omega, fun H5 b ls K5 _ hbs hb hll hL S5 => ?_⟩
        walk_at "hs"
        refine ⟨by omega, fun D hD => ?_⟩
        have hDs := S5.ne hD
        rw [show (1 + u + 1 - 1).toNat = (1 + u).toNat by omega]
        refine lc_range (lo := 1) (n := (1 + u).toNat) (fun j H' => HS.Keep (fun _ => False) H5 H' ∧ H' D = some (.lst ((tabl ls j).map V.int))) ⟨.new hD, by rw [upd_same]; rfl⟩ ?_ ?_
        · rintro j H6 hj ⟨K6, h6⟩
          walk_at "hs"
          refine ⟨b, ls, _, rfl, HS.sq (K6 _ _ hb id), by omega, by omega, by omega, fun H7 K7 => ?_⟩
          refine ⟨_, K7 _ _ h6 id, HS.sz (by rw [List.length_map, tabl_len]; omega), (K6.trans K7).put hD, ?_⟩
          rw [upd_same, tabl_succ, List.map_append, Int.add_comm 1]
          rfl
        · rintro H6 ⟨K6, hD⟩
          have S6 := S5.same K6
          have sb := lens_sum hL
          have s2 : (ls.length : Int) * (1 + u) ≤ 4 * 6 := Int.mul_le_mul (by omega) (by omega) (by omega) (by decide)
          have T6 : Tb H6 D (1 + u) 30 := ⟨_, hD, by rw [tabl_len]; omega, fun x hx => by have := tabl_mem hL.one hx; omega⟩
          refine HS.cut (fun σ' H' => ∃ C, Rng H' s (42200 * i + 6020 * t + 6015) ∧ Tb H' C (1 + u) 30 ∧ C ≠ s ∧ ∃ x9, σ' = [some (.ref a), some (.ref s), some (.int (0 + (i : Int))), some (.int (0 + (t : Int))), some (.int (1 + u)), some (.ref b), some (.ref C), x7, x8, x9]) ?_ ?_
          · walk_at "hs"
            refine ⟨s, 4, _, rfl, S6, by decide, by decide, by omega, fun H7 d K7 S7 d0 d1 => ?_⟩
            walk_at "hs"
            refine HS.itd (fun hd => ?_) (fun hd => ?_)
            · walk_at "hs"
              refine ⟨by omega, by omega, fun E hE => ?_⟩
              have hEs := S7.ne hE
              refine lc_range (lo := 0) (n := (1 + u - 1).toNat) (fun j H' => j ≤ 6 ∧ Rng H' s (42200 * i + 6020 * t + 6002 + j) ∧ ∃ es : List Int, H' E = some (.lst (es.map V.int)) ∧ es.length = j ∧ ∀ x ∈ es, -30 ≤ x ∧ x ≤ 30) ⟨by decide, (S7.new hE).up (by omega), [], upd_same, rfl, fun x hx => absurd hx List.not_mem_nil⟩ ?_ ?_
              · rintro j H8 hj ⟨_, S8, es, hE8, el, eB⟩
                walk_at "hs"
                refine ⟨s, 9, _, rfl, S8, by decide, by decide, by omega, fun H9 w K9 S9 w0 w1 => ?_⟩
                refine ⟨_, K9 _ _ hE8 hEs, HS.sz (by rw [List.length_map]; omega), by omega, (S9.put hEs).up (by omega), es ++ [w], by rw [upd_same, List.map_append]; rfl, by rw [List.length_append, el]; rfl, fun x hx => ?_⟩
                rcases List.mem_append.mp hx with hx | hx
                · exact eB x hx
                · rw [List.mem_singleton] at hx; omega
              · rintro H8 ⟨_, S8, es, hE8, el, eB⟩
                walk_at "hs"
                refine ⟨s, 6, _, rfl, S8, by decide, by decide, by omega, fun H9 w K9 S9 w0 w1 => ?_⟩
                have hE9 := K9 _ _ hE8 hEs
                walk_at "hs"
                intro p hp
                have nS9_p := S9.ne hp
                generalize hG_p : upd _ p _ = H10
                have at_p := HS.upgs hG_p
                have Kn_p := HS.upgK hG_p hp
                clear hG_p
                replace hE9 := Kn_p _ _ hE9 id
                replace S9 := S9.same Kn_p
                walk_at "hs"
                intro q hq
                have hqs := S9.ne hq
                refine ⟨q, (S9.new hq).up (by omega), ⟨es ++ [w - 1], by rw [upd_same, List.map_append]; rfl, by rw [List.length_append, el]; show ((_ + 1 : Nat) : Int) = _; omega, fun x hx => ?_⟩, hqs, _, rfl⟩
                rcases List.mem_append.mp hx with hx | hx
                · exact eB x hx
                · rw [List.mem_singleton] at hx; omega
            · walk_at "hs"
              exact ⟨D, S7.up (by omega), T6.keep K7 hDs, hDs, _, rfl⟩
          · rintro σ' H7 ⟨C, S7, T7, hCs, x9, rfl⟩
            walk_at "hs"
            refine ⟨s, 1 + u, _, rfl, S7, by omega, by omega, by omega, fun H8 sp K8 S8 sp0 sp1 => ?_⟩
            obtain ⟨rl, hC, hrl, hrB⟩ := T7.keep K8 hCs
            walk_at "hs"
            refine HS.ixI rl (HS.sq hC) sp0 (by omega) fun z _ hz => ?_
            have hzB := hrB z hz
            walk_at "hs"
            intro p hp
            have nS8_p := S8.ne hp
            generalize hG_p : upd _ p _ = H9
            have at_p := HS.upgs hG_p
            have Kn_p := HS.upgK hG_p hp
            clear hG_p
            replace hC := Kn_p _ _ hC id
            replace S8 := S8.same Kn_p
            walk_at "hs"
            refine ⟨s, 4, _, rfl, S8, by decide, by decide, by omega, fun H10 w K10 S10 w0 w1 => ?_⟩
            have hC10 := K10 _ _ hC hCs
            refine HS.ixI [0, 1, -1, 2] (HS.sq (K10 _ _ at_p nS8_p)) w0 w1 fun y _ hy => ?_
            have hy' : -1 ≤ y ∧ y ≤ 2 := by simp only [List.mem_cons, List.not_mem_nil, or_false] at hy; omega
            walk_at "hs"
            refine HS.setI hC10 sp0 (by omega) ?_
            have hB2 : ∀ x ∈ rl.set sp.toNat (z + y), -40 ≤ x ∧ x ≤ 40 := fun x hx => by
              rcases List.mem_or_eq_of_mem_set hx with q | q
              · have := hrB x q; omega
              · omega
            have hl2 : ((rl.set sp.toNat (z + y)).length : Int) = 1 + u := by rw [List.length_set]; exact hrl
            have hC11 := upd_same (H := H10) (a := C) (o := .lst ((rl.set sp.toNat (z + y)).map V.int))
            have S11 := S10.put (o := .lst ((rl.set sp.toNat (z + y)).map V.int)) hCs
            generalize upd H10 C (.lst ((rl.set sp.toNat (z + y)).map V.int)) = H11 at hC11 S11 ⊢
            generalize rl.set sp.toNat (z + y) = rows at hB2 hl2 hC11 ⊢
            obtain ⟨r0, c, er⟩ : ∃ r0 c, rows = r0 ++ [c] := by
              cases hg : rows.getLast? with
              | none => have := List.getLast?_eq_none_iff.mp hg; rw [this] at hl2; simp at hl2; omega
              | some c => obtain ⟨r0, e⟩ := List.getLast?_eq_some_iff.mp hg; exact ⟨r0, c, e⟩
            have hgl : rows.getLast? = some c := by rw [er, List.getLast?_concat]
            walk_at "hs"
            refine ⟨C, _, -1, _, rfl, rfl, HS.sq hC11, HS.at_last (ys := r0.map V.int) (by rw [er, List.map_append]; rfl), ?_⟩
            walk_at "hs"
            refine HS.itd (fun h5 => ?_) (fun h5 => ?_)
            · walk_at "hs"
              refine ⟨C, rows, rfl, HS.sq hC11, by omega, by omega, fun c' hc' => by rw [hgl] at hc'; injection hc' with hc'; omega, fun H12 K12 => ?_⟩
              have hC12 := K12 _ _ hC11 id
              walk_at "hs"
              refine ⟨C, rows, rfl, HS.sq hC12, by omega, by omega, fun x hx => by have := hB2 x hx; omega, fun H13 v K13 hv1 hv2 => ?_⟩
              have ev : v = HS.oI (wrongT rows) := by
                cases hw : wrongT rows with
                | none => exact hv1 hw
                | some w => exact hv2 w hw
              subst ev
              refine HS.neOI ?_
              walk_at "hs"
              refine ⟨C, rows, rfl, HS.sq (K13 _ _ hC12 id), by omega, by omega, fun x hx => by have := hB2 x hx; omega, fun c' hc' => by rw [hgl] at hc'; injection hc' with hc'; omega, fun H14 K14 => ?_⟩
              walk_at "hs"
              exact ⟨(S11.same ((K12.trans K13).trans K14)).up (by omega), _, _, _, _, _, _, _, rfl⟩
            · walk_at "hs"
              exact ⟨S11.up (by omega), _, _, _, _, _, _, _, rfl⟩
      · rintro σ H3 ⟨S3, x3, x4, x5, x6, x7, x8, x9, rfl⟩
        walk_at "hs"
        intro p1 hp1
        have nS3_p1 := S3.ne hp1
        generalize hG_p1 : upd _ p1 _ = H4
        have at_p1 := HS.upgs hG_p1
        have Kn_p1 := HS.upgK hG_p1 hp1
        clear hG_p1
        replace S3 := S3.same Kn_p1
        walk_at "hs"
        refine ⟨s, 2, _, rfl, S3, by decide, by decide, by omega, fun H5 v K5 S5 v0 v1 => ?_⟩
        refine HS.ixI [30, 300] (HS.sq (K5 _ _ at_p1 nS3_p1)) v0 v1 fun tp _ htp => ?_
        have htp' : 30 ≤ tp ∧ tp ≤ 300 := by simp only [List.mem_cons, List.not_mem_nil, or_false] at htp; omega
        walk_at "hs"
        refine ⟨s, tp, _, rfl, S5, by omega, by omega, by omega, fun H6 u K6 S6 u0 u1 => ?_⟩
        walk_at "hs"
        intro p2 hp2
        have nS6_p2 := S6.ne hp2
        generalize hG_p2 : upd _ p2 _ = H7
        have at_p2 := HS.upgs hG_p2
        have Kn_p2 := HS.upgK hG_p2 hp2
        clear hG_p2
        replace S6 := S6.same Kn_p2
        walk_at "hs"
        refine ⟨s, 2, _, rfl, S6, by decide, by decide, by omega, fun H8 w K8 S8 w0 w1 => ?_⟩
        refine HS.ixI [9, 100] (HS.sq (K8 _ _ at_p2 nS6_p2)) w0 w1 fun mt _ hmt => ?_
        have hmt' : 9 ≤ mt ∧ mt ≤ 100 := by simp only [List.mem_cons, List.not_mem_nil, or_false] at hmt; omega
        walk_at "hs"
        refine ⟨s, mt, 1 + u, _, rfl, S8, by omega, by omega, by omega, by omega, by omega, fun H9 b ls K9 _ hbs hb hll hL S9 => ?_⟩
        walk_at "hs"
        refine ⟨by omega, fun D hD => ?_⟩
        have hDs := S9.ne hD
        rw [show (1 + u + 1 - 1).toNat = (1 + u).toNat by omega]
        refine lc_range (lo := 1) (n := (1 + u).toNat) (fun j H' => HS.Keep (fun _ => False) H9 H' ∧ H' D = some (.lst ((tabl ls j).map V.int))) ⟨.new hD, by rw [upd_same]; rfl⟩ ?_ ?_
        · rintro j H10 hj ⟨K10, h10⟩
          walk_at "hs"
          refine ⟨b, ls, _, rfl, HS.sq (K10 _ _ hb id), by omega, by omega, by omega, fun H11 K11 => ?_⟩
          refine ⟨_, K11 _ _ h10 id, HS.sz (by rw [List.length_map, tabl_len]; omega), (K10.trans K11).put hD, ?_⟩
          rw [upd_same, tabl_succ, List.map_append, Int.add_comm 1]
          rfl
        · rintro H10 ⟨K10, hD⟩
          have S10 := S9.same K10
          have sb := lens_sum hL
          have s2 : (ls.length : Int) * (1 + u) ≤ 100 * 300 := Int.mul_le_mul (by omega) (by omega) (by omega) (by decide)
          have T10 : Tb H10 D (1 + u) 30000 := ⟨_, hD, by rw [tabl_len]; omega, fun x hx => by have := tabl_mem hL.one hx; omega⟩
          walk_at "hs"
          refine ⟨s, 2, _, rfl, S10, by decide, by decide, by omega, fun H11 m K11 S11 m0 m1 => ?_⟩
          walk_at "hs"
          refine ⟨by omega, by omega, for_range (n := (1 + m).toNat) (fun j σ H' => j ≤ 2 ∧ Rng H' s (42200 * i + 42130 + 4 * j) ∧ Tb H' D (1 + u) (30000 + j * 10 ^ 29) ∧ ∃ x3 x7 x8 x9, σ = [some (.ref a), some (.ref s), some (.int (0 + (i : Int))), x3, some (.int (1 + u)), some (.ref b), some (.ref D), x7, x8, x9]) ⟨by decide, S11.up (by omega), T10.keep K11 hDs, _, _, _, _, rfl⟩ ?_ ?_⟩
          · rintro j σ H12 hj ⟨_, S12, T12, x3, x7, x8, x9, rfl⟩
            walk_at "hs"
            refine ⟨s, 1 + u, _, rfl, S12, by omega, by omega, by omega, fun H13 sp K13 S13 sp0 sp1 => ?_⟩
            obtain ⟨rl, hC, hrl, hrB⟩ := T12.keep K13 hDs
            walk_at "hs"
            refine HS.ixI rl (HS.sq hC) sp0 (by omega) fun z _ hz => ?_
            have hzB := hrB z hz
            walk_at "hs"
            refine ⟨s, 9, _, rfl, S13, by decide, by decide, by omega, fun H14 e K14 S14 e0 e1 => ?_⟩
            have hC := K14 _ _ hC hDs
            walk_at "hs"
            refine ⟨s, _, _, rfl, S14, by decide, by decide, by omega, fun H15 f K15 S15 f0 f1 => ?_⟩
            have hC := K15 _ _ hC hDs
            walk_at "hs"
            intro p hp
            have nS15_p := S15.ne hp
            generalize hG_p : upd _ p _ = H16
            have at_p := HS.upgs hG_p
            have Kn_p := HS.upgK hG_p hp
            clear hG_p
            replace hC := Kn_p _ _ hC id
            replace S15 := S15.same Kn_p
            walk_at "hs"
            refine ⟨s, 4, _, rfl, S15, by decide, by decide, by omega, fun H17 w K17 S17 w0 w1 => ?_⟩
            have hC17 := K17 _ _ hC hDs
            refine HS.ixI [1, -1, e - 4, 0 - f] (HS.sq (K17 _ _ at_p nS15_p)) w0 w1 fun y _ hy => ?_
            have hy' : -(10 ^ 29) ≤ y ∧ y ≤ 10 ^ 29 := by simp only [List.mem_cons, List.not_mem_nil, or_false] at hy; omega
            walk_at "hs"
            refine HS.setI hC17 sp0 (by omega) ?_
            walk_at "hs"
            refine ⟨by omega, (S17.put hDs).up (by omega), ⟨_, upd_same, by rw [List.length_set]; exact hrl, fun x hx => ?_⟩, _, _, _, _, rfl⟩
            push_cast
            rcases List.mem_or_eq_of_mem_set hx with q | q
            · have := hrB x q; omega
            · omega
          · rintro σ H12 ⟨_, S12, T12, x3, x7, x8, x9, rfl⟩
            obtain ⟨rows, hC, hl2, hB2⟩ := T12
            obtain ⟨r0, c, er⟩ : ∃ r0 c, rows = r0 ++ [c] := by
              cases hg : rows.getLast? with
              | none => have := List.getLast?_eq_none_iff.mp hg; rw [this] at hl2; simp at hl2; omega
              | some c => obtain ⟨r0, e⟩ := List.getLast?_eq_some_iff.mp hg; exact ⟨r0, c, e⟩
            have hgl : rows.getLast? = some c := by rw [er, List.getLast?_concat]
            have hB3 : ∀ x ∈ rows, -(2 ^ 120) < x ∧ x < 2 ^ 120 := fun x hx => by have := hB2 x hx; omega
            walk_at "hs"
            refine ⟨D, _, -1, _, rfl, rfl, HS.sq hC, HS.at_last (ys := r0.map V.int) (by rw [er, List.map_append]; rfl), ?_⟩
            walk_at "hs"
            refine HS.itd (fun h5 => ?_) (fun h5 => ?_)
            · walk_at "hs"
              refine ⟨D, rows, rfl, HS.sq hC, by omega, by omega, hB3, fun H13 v K13 hv1 hv2 => ?_⟩
              have ev : v = HS.oI (wrongT rows) := by
                cases hw : wrongT rows with
                | none => exact hv1 hw
                | some w => exact hv2 w hw
              subst ev
              walk_at "hs"
              refine ⟨D, rows, rfl, HS.sq (K13 _ _ hC id), by omega, by omega, hB3, fun c' hc' => by rw [hgl] at hc'; injection hc' with hc'; omega, fun H14 K14 => ?_⟩
              walk_at "hs"
              exact ⟨(S12.same (K13.trans K14)).up (by omega), _, _, _, _, _, _, _, _, rfl⟩
            · walk_at "hs"
              exact ⟨S12.up (by omega), _, _, _, _, _, _, _, _, rfl⟩
    · rintro σ H2 ⟨S2, x2, x3, x4, x5, x6, x7, x8, x9, rfl⟩
      walk_at "hs"
      intro p1 hp1
      generalize hG_p1 : upd _ p1 _ = H3
      have at_p1 := HS.upgs hG_p1
      have Kn_p1 := HS.upgK hG_p1 hp1
      clear hG_p1
      walk_at "hs"
      have eR : readAll [9, 6, 2, 3] = .inl 3 := by decide +kernel
      refine ⟨p1, [9, 6, 2, 3], rfl, HS.sq at_p1, by decide, fun c hc => by rw [← Option.some.inj (show some (3 : Int) = some c from hc)]; decide, fun w hw H4 K4 => ?_, fun ls hls => by rw [eR] at hls; cases hls⟩
      have ew : w = 3 := by
        rw [eR] at hw
        injection hw with hw
        exact hw.symm
      subst ew
      walk_at "hs"
      refine HS.eqII ?_
      walk_at "hs"
      refine HS.it1 rfl ?_
      walk_at "hs"
      intro p2 hp2
      generalize hG_p2 : upd _ p2 _ = H5
      have at_p2 := HS.upgs hG_p2
      have Kn_p2 := HS.upgK hG_p2 hp2
      clear hG_p2
      walk_at "hs"
      have eR : readAll [2, -1] = .inl 2 := by decide +kernel
      refine ⟨p2, [2, -1], rfl, HS.sq at_p2, by decide, fun c hc => by rw [← Option.some.inj (show some (-1 : Int) = some c from hc)]; decide, fun w hw H6 K6 => ?_, fun ls hls => by rw [eR] at hls; cases hls⟩
      have ew : w = 2 := by
        rw [eR] at hw
        injection hw with hw
        exact hw.symm
      subst ew
      walk_at "hs"
      refine HS.eqII ?_
      walk_at "hs"
      refine HS.it1 rfl ?_
      walk_at "hs"
      intro p3 hp3
      generalize hG_p3 : upd _ p3 _ = H7
      have at_p3 := HS.upgs hG_p3
      have Kn_p3 := HS.upgK hG_p3 hp3
      clear hG_p3
      walk_at "hs"
      have eR : readAll [5, 6] = .inl 1 := by decide +kernel
      refine ⟨p3, [5, 6], rfl, HS.sq at_p3, by decide, fun c hc => by rw [← Option.some.inj (show some (6 : Int) = some c from hc)]; decide, fun w hw H8 K8 => ?_, fun ls hls => by rw [eR] at hls; cases hls⟩
      have ew : w = 1 := by
        rw [eR] at hw
        injection hw with hw
        exact hw.symm
      subst ew
      walk_at "hs"
      refine HS.eqII ?_
      walk_at "hs"
      exact k _
end
theorem all_mk {l : PySem.W.OpenLaw} {w : World} {K : PySem.W.Frag} {h : Heap} {mg : Str → Option Value} {fa f0 f1 f2 f3 f4 f5 f6 f7 f8 f9 f10 f11 f12 f13 c_InvalidTable : Addr} (X : K.In h) (G : h.Ns mainGlobals mg) (hfa : mg "law" = some (.ref fa))
    {od0 an0 od1 an1 od2 an2 od3 an3 od4 an4 od5 an5 od6 an6 od7 an7 od8 an8 od9 an9 od10 an10 od11 an11 od12 an12 od13 an13 : Option Addr} {sl0 sl1 sl2 sl3 sl4 sl5 sl6 sl7 sl8 sl9 sl10 sl11 sl12 sl13 : Array (Option Value)} {oc0 kV0 dc0 pm0 cd0 ct0 oc1 kV1 dc1 pm1 cd1 ct1 oc2 kV2 dc2 pm2 cd2 ct2 oc3 kV3 dc3 pm3 cd3 ct3 oc4 kV4 dc4 pm4 cd4 ct4 oc5 kV5 dc5 pm5 cd5 ct5 oc6 kV6 dc6 pm6 cd6 ct6 oc7 kV7 dc7 pm7 cd7 ct7 oc8 kV8 dc8 pm8 cd8 ct8 oc9 kV9 dc9 pm9 cd9 ct9 oc10 kV10 dc10 pm10 cd10 ct10 oc11 kV11 dc11 pm11 cd11 ct11 oc12 kV12 dc12 pm12 cd12 ct12 oc13 kV13 dc13 pm13 cd13 ct13 : Value}
    (m_InvalidTable : PySem.W.nsIn K mainGlobals "InvalidTable" = some (some (.ref c_InvalidTable)))
    (a0 : PySem.W.nsIn K mainGlobals "_law_rng" = some (some (.ref f0)))
    (l0 : K.lookup f0 = some ⟨oc0, od0, .func (PySem.W.fnOf "_law_rng" "_law_rng" (defArgs s__law_rng) (defBody s__law_rng) (defScope s__law_rng) .none kV0 dc0 pm0 an0 cd0 ct0), sl0⟩) (c0 : PySem.W.codeIn K cd0 "_law_rng" = true) (k0 : PySem.W.keepIn K (.ref f0) = true)
    (a1 : PySem.W.nsIn K mainGlobals "_law_draw" = some (some (.ref f1)))
    (l1 : K.lookup f1 = some ⟨oc1, od1, .func (PySem.W.fnOf "_law_draw" "_law_draw" (defArgs s__law_draw) (defBody s__law_draw) (defScope s__law_draw) .none kV1 dc1 pm1 an1 cd1 ct1), sl1⟩) (c1 : PySem.W.codeIn K cd1 "_law_draw" = true) (k1 : PySem.W.keepIn K (.ref f1) = true)
    (a2 : PySem.W.nsIn K mainGlobals "_law_counted" = some (some (.ref f2)))
    (l2 : K.lookup f2 = some ⟨oc2, od2, .func (PySem.W.fnOf "_law_counted" "_law_counted" (defArgs s__law_counted) (defBody s__law_counted) (defScope s__law_counted) .none kV2 dc2 pm2 an2 cd2 ct2), sl2⟩) (c2 : PySem.W.codeIn K cd2 "_law_counted" = true) (k2 : PySem.W.keepIn K (.ref f2) = true)
    (a3 : PySem.W.nsIn K mainGlobals "_law_some" = some (some (.ref f3)))
    (l3 : K.lookup f3 = some ⟨oc3, od3, .func (PySem.W.fnOf "_law_some" "_law_some" (defArgs s__law_some) (defBody s__law_some) (defScope s__law_some) .none kV3 dc3 pm3 an3 cd3 ct3), sl3⟩) (c3 : PySem.W.codeIn K cd3 "_law_some" = true) (k3 : PySem.W.keepIn K (.ref f3) = true)
    (a4 : PySem.W.nsIn K mainGlobals "count_pages" = some (some (.ref f4)))
    (l4 : K.lookup f4 = some ⟨oc4, od4, .func (PySem.W.fnOf "count_pages" "count_pages" (defArgs s_count_pages) (defBody s_count_pages) (defScope s_count_pages) .none kV4 dc4 pm4 an4 cd4 ct4), sl4⟩) (c4 : PySem.W.codeIn K cd4 "count_pages" = true) (k4 : PySem.W.keepIn K (.ref f4) = true)
    (in_InvalidTable : PySem.W.findIn K (.ref c_InvalidTable) "__init__" = some (some (.ref f5)))
    (l5 : K.lookup f5 = some ⟨oc5, od5, .func (PySem.W.fnOf "__init__" "InvalidTable.__init__" (defArgs s_InvalidTable___init__) (defBody s_InvalidTable___init__) (defScope s_InvalidTable___init__) .none kV5 dc5 pm5 an5 cd5 ct5), sl5⟩) (c5 : PySem.W.codeIn K cd5 "InvalidTable.__init__" = true) (k5 : PySem.W.keepIn K (.ref f5) = true)
    (a6 : PySem.W.nsIn K mainGlobals "lengths_of" = some (some (.ref f6)))
    (l6 : K.lookup f6 = some ⟨oc6, od6, .func (PySem.W.fnOf "lengths_of" "lengths_of" (defArgs s_lengths_of) (defBody s_lengths_of) (defScope s_lengths_of) .none kV6 dc6 pm6 an6 cd6 ct6), sl6⟩) (c6 : PySem.W.codeIn K cd6 "lengths_of" = true) (k6 : PySem.W.keepIn K (.ref f6) = true)
    (a7 : PySem.W.nsIn K mainGlobals "_law_told" = some (some (.ref f7)))
    (l7 : K.lookup f7 = some ⟨oc7, od7, .func (PySem.W.fnOf "_law_told" "_law_told" (defArgs s__law_told) (defBody s__law_told) (defScope s__law_told) .none kV7 dc7 pm7 an7 cd7 ct7), sl7⟩) (c7 : PySem.W.codeIn K cd7 "_law_told" = true) (k7 : PySem.W.keepIn K (.ref f7) = true)
    (a8 : PySem.W.nsIn K mainGlobals "_law_moebius" = some (some (.ref f8)))
    (l8 : K.lookup f8 = some ⟨oc8, od8, .func (PySem.W.fnOf "_law_moebius" "_law_moebius" (defArgs s__law_moebius) (defBody s__law_moebius) (defScope s__law_moebius) .none kV8 dc8 pm8 an8 cd8 ct8), sl8⟩) (c8 : PySem.W.codeIn K cd8 "_law_moebius" = true) (k8 : PySem.W.keepIn K (.ref f8) = true)
    (a9 : PySem.W.nsIn K mainGlobals "_law_wrong" = some (some (.ref f9)))
    (l9 : K.lookup f9 = some ⟨oc9, od9, .func (PySem.W.fnOf "_law_wrong" "_law_wrong" (defArgs s__law_wrong) (defBody s__law_wrong) (defScope s__law_wrong) .none kV9 dc9 pm9 an9 cd9 ct9), sl9⟩) (c9 : PySem.W.codeIn K cd9 "_law_wrong" = true) (k9 : PySem.W.keepIn K (.ref f9) = true)
    (a10 : PySem.W.nsIn K mainGlobals "_law_right" = some (some (.ref f10)))
    (l10 : K.lookup f10 = some ⟨oc10, od10, .func (PySem.W.fnOf "_law_right" "_law_right" (defArgs s__law_right) (defBody s__law_right) (defScope s__law_right) .none kV10 dc10 pm10 an10 cd10 ct10), sl10⟩) (c10 : PySem.W.codeIn K cd10 "_law_right" = true) (k10 : PySem.W.keepIn K (.ref f10) = true)
    (a11 : PySem.W.nsIn K mainGlobals "_law_all" = some (some (.ref f11)))
    (l11 : K.lookup f11 = some ⟨oc11, od11, .func (PySem.W.fnOf "_law_all" "_law_all" (defArgs s__law_all) (defBody s__law_all) (defScope s__law_all) .none kV11 dc11 pm11 an11 cd11 ct11), sl11⟩) (c11 : PySem.W.codeIn K cd11 "_law_all" = true) (k11 : PySem.W.keepIn K (.ref f11) = true)
    (a12 : PySem.W.nsIn K mainGlobals "_law_tried" = some (some (.ref f12)))
    (l12 : K.lookup f12 = some ⟨oc12, od12, .func (PySem.W.fnOf "_law_tried" "_law_tried" (defArgs s__law_tried) (defBody s__law_tried) (defScope s__law_tried) .none kV12 dc12 pm12 an12 cd12 ct12), sl12⟩) (c12 : PySem.W.codeIn K cd12 "_law_tried" = true) (k12 : PySem.W.keepIn K (.ref f12) = true)
    (a13 : PySem.W.nsIn K mainGlobals "law" = some (some (.ref f13)))
    (l13 : K.lookup f13 = some ⟨oc13, od13, .func (PySem.W.fnOf "law" "law" (defArgs s_law) (defBody s_law) (defScope s_law) .none kV13 dc13 pm13 an13 cd13 ct13), sl13⟩) (c13 : PySem.W.codeIn K cd13 "law" = true) (k13 : PySem.W.keepIn K (.ref f13) = true)
    (z0 : PySem.W.nsIn K mainGlobals "abs" = some none)
    (z1 : PySem.W.nsIn K mainGlobals "isinstance" = some none)
    (z2 : PySem.W.nsIn K mainGlobals "len" = some none)
    (z3 : PySem.W.nsIn K mainGlobals "list" = some none)
    (z4 : PySem.W.nsIn K mainGlobals "max" = some none)
    (z5 : PySem.W.nsIn K mainGlobals "min" = some none)
    (z6 : PySem.W.nsIn K mainGlobals "range" = some none)
    (z7 : PySem.W.nsIn K mainGlobals "repr" = some none)
    (z8 : PySem.W.nsIn K mainGlobals "sorted" = some none)
    (z9 : PySem.W.nsIn K mainGlobals "sum" = some none)
    {nm_InvalidTable qn_InvalidTable : Str} {N_InvalidTable : Addr} {bs_InvalidTable bm_InvalidTable : List Value} {sn_InvalidTable : List Str} {sub_InvalidTable : List Value} {ab_InvalidTable : Bool} {col_InvalidTable : Option Bool} {dd_InvalidTable : Option Addr} {k0_InvalidTable k1_InvalidTable k2_InvalidTable k3_InvalidTable k5_InvalidTable : Option Value}
    (l_InvalidTable : K.lookup c_InvalidTable = some (excClassObj nm_InvalidTable qn_InvalidTable c_InvalidTable N_InvalidTable bs_InvalidTable bm_InvalidTable true sn_InvalidTable sub_InvalidTable ab_InvalidTable col_InvalidTable dd_InvalidTable k0_InvalidTable k1_InvalidTable k2_InvalidTable k3_InvalidTable k5_InvalidTable "ValueError.__new__"))
    (r_InvalidTable : PySem.HandSPX.refsVE bm_InvalidTable = true)
    (sa_InvalidTable : PySem.W.findIn K (.ref c_InvalidTable) "__setattr__" = some (some (.builtin "object.__setattr__")))
    (ex_InvalidTable : PySem.W.subIn K (.ref c_InvalidTable) (.type "BaseException") = some true)
    (ty_InvalidTable : PySem.W.typeIn K (.ref c_InvalidTable) = some (.type "type"))
    (kc_InvalidTable : PySem.W.keepIn K (.ref c_InvalidTable) = true)
    (ga_InvalidTable : PySem.W.findIn K (.ref c_InvalidTable) "__getattribute__" = some (some (.builtin "BaseException.__getattribute__")))
    (gg_InvalidTable : PySem.W.findIn K (.ref c_InvalidTable) "__getattr__" = some none)
    (hd_InvalidTable : PySem.W.hasDictIn K c_InvalidTable = true)
    (ha_InvalidTable : PySem.W.findIn K (.ref c_InvalidTable) "__class__" = some (some (.builtin "object.__class__")))
    (hn_InvalidTable : PySem.W.specialIn K (.builtin "object.__class__") "__get__" = some (some (.builtin "getset_descriptor.__get__")))
    (ht_InvalidTable : PySem.W.takesIn K (.builtin "object.__class__") = some true)
    (hm_InvalidTable : PySem.W.mroIn K c_InvalidTable (.type "object") = some true)
    (nv_InvalidTable : PySem.W.findIn K (.ref c_InvalidTable) "value" = some none)
    (ti_InvalidTable : PySem.W.typeIn K (.ref f5) = some (.type "function"))
    (kq_InvalidTable_InvalidTable : PySem.W.kitOne K (.ref c_InvalidTable) (.ref c_InvalidTable) = some true)
    (kq_InvalidTable_ValueError : PySem.W.kitOne K (.ref c_InvalidTable) (.type "ValueError") = some true)
    (ks_InvalidTable_InvalidTable : PySem.W.subIn K (.ref c_InvalidTable) (.ref c_InvalidTable) = some true)
    : ∃ fd : FuncData, (∀ (s : Shared) (v : Value), BindsTo s fd ⟨[v], []⟩ [("script", v)]) ∧ ∀ base : Heap, K.In base → base.Ns mainGlobals mg → HS.FnG l.prog w K mg base CX0 6 fa fd ["script"] (sp_law K) := by
  have e := hfa.symm.trans (PySem.W.mg_of X G a13)
  cases e
  have F0 := fun_mk (st := s__law_rng) l0 c0 k0
  have F1 := fun_mk (st := s__law_draw) l1 c1 k1
  have F2 := fun_mk (st := s__law_counted) l2 c2 k2
  have F3 := fun_mk (st := s__law_some) l3 c3 k3
  have F4 := fun_mk (st := s_count_pages) l4 c4 k4
  have F5 := fun_mk (st := s_InvalidTable___init__) l5 c5 k5
  have F6 := fun_mk (st := s_lengths_of) l6 c6 k6
  have F7 := fun_mk (st := s__law_told) l7 c7 k7
  have F8 := fun_mk (st := s__law_moebius) l8 c8 k8
  have F9 := fun_mk (st := s__law_wrong) l9 c9 k9
  have F10 := fun_mk (st := s__law_right) l10 c10 k10
  have F11 := fun_mk (st := s__law_all) l11 c11 k11
  have F12 := fun_mk (st := s__law_tried) l12 c12 k12
  have F13 := fun_mk (st := s_law) l13 c13 k13
  have T : Txt K mg ⟨f0, PySem.W.fnOf "_law_rng" "_law_rng" (defArgs s__law_rng) (defBody s__law_rng) (defScope s__law_rng) .none kV0 dc0 pm0 an0 cd0 ct0, f1, PySem.W.fnOf "_law_draw" "_law_draw" (defArgs s__law_draw) (defBody s__law_draw) (defScope s__law_draw) .none kV1 dc1 pm1 an1 cd1 ct1, f2, PySem.W.fnOf "_law_counted" "_law_counted" (defArgs s__law_counted) (defBody s__law_counted) (defScope s__law_counted) .none kV2 dc2 pm2 an2 cd2 ct2, f3, PySem.W.fnOf "_law_some" "_law_some" (defArgs s__law_some) (defBody s__law_some) (defScope s__law_some) .none kV3 dc3 pm3 an3 cd3 ct3, f4, PySem.W.fnOf "count_pages" "count_pages" (defArgs s_count_pages) (defBody s_count_pages) (defScope s_count_pages) .none kV4 dc4 pm4 an4 cd4 ct4, f5, PySem.W.fnOf "__init__" "InvalidTable.__init__" (defArgs s_InvalidTable___init__) (defBody s_InvalidTable___init__) (defScope s_InvalidTable___init__) .none kV5 dc5 pm5 an5 cd5 ct5, f6, PySem.W.fnOf "lengths_of" "lengths_of" (defArgs s_lengths_of) (defBody s_lengths_of) (defScope s_lengths_of) .none kV6 dc6 pm6 an6 cd6 ct6, f7, PySem.W.fnOf "_law_told" "_law_told" (defArgs s__law_told) (defBody s__law_told) (defScope s__law_told) .none kV7 dc7 pm7 an7 cd7 ct7, f8, PySem.W.fnOf "_law_moebius" "_law_moebius" (defArgs s__law_moebius) (defBody s__law_moebius) (defScope s__law_moebius) .none kV8 dc8 pm8 an8 cd8 ct8, f9, PySem.W.fnOf "_law_wrong" "_law_wrong" (defArgs s__law_wrong) (defBody s__law_wrong) (defScope s__law_wrong) .none kV9 dc9 pm9 an9 cd9 ct9, f10, PySem.W.fnOf "_law_right" "_law_right" (defArgs s__law_right) (defBody s__law_right) (defScope s__law_right) .none kV10 dc10 pm10 an10 cd10 ct10, f11, PySem.W.fnOf "_law_all" "_law_all" (defArgs s__law_all) (defBody s__law_all) (defScope s__law_all) .none kV11 dc11 pm11 an11 cd11 ct11, f12, PySem.W.fnOf "_law_tried" "_law_tried" (defArgs s__law_tried) (defBody s__law_tried) (defScope s__law_tried) .none kV12 dc12 pm12 an12 cd12 ct12, fa, PySem.W.fnOf "law" "law" (defArgs s_law) (defBody s_law) (defScope s_law) .none kV13 dc13 pm13 an13 cd13 ct13, c_InvalidTable⟩ :=
    { F__law_rng := F0,
      g__law_rng := PySem.W.mg_of X G a0,
      b__law_rng := F0.binds (ps := ["script"]) fun _ _ _ _ _ _ us hl => match us, hl with | [_], _ => rfl,
      F__law_draw := F1,
      g__law_draw := PySem.W.mg_of X G a1,
      b__law_draw := F1.binds (ps := ["rng", "limit"]) fun _ _ _ _ _ _ us hl => match us, hl with | [_, _], _ => rfl,
      F__law_counted := F2,
      g__law_counted := PySem.W.mg_of X G a2,
      b__law_counted := F2.binds (ps := ["some", "wide"]) fun _ _ _ _ _ _ us hl => match us, hl with | [_, _], _ => rfl,
      F__law_some := F3,
      g__law_some := PySem.W.mg_of X G a3,
      b__law_some := F3.binds (ps := ["rng", "most", "longest"]) fun _ _ _ _ _ _ us hl => match us, hl with | [_, _, _], _ => rfl,
      F_count_pages := F4,
      g_count_pages := PySem.W.mg_of X G a4,
      b_count_pages := F4.binds (ps := ["book", "size"]) fun _ _ _ _ _ _ us hl => match us, hl with | [_, _], _ => rfl,
      F_InvalidTable___init__ := F5,
      b_InvalidTable___init__ := F5.binds (ps := ["self", "value"]) fun _ _ _ _ _ _ us hl => match us, hl with | [_, _], _ => rfl,
      F_lengths_of := F6,
      g_lengths_of := PySem.W.mg_of X G a6,
      b_lengths_of := F6.binds (ps := ["table"]) fun _ _ _ _ _ _ us hl => match us, hl with | [_], _ => rfl,
      F__law_told := F7,
      g__law_told := PySem.W.mg_of X G a7,
      b__law_told := F7.binds (ps := ["rows"]) fun _ _ _ _ _ _ us hl => match us, hl with | [_], _ => rfl,
      F__law_moebius := F8,
      g__law_moebius := PySem.W.mg_of X G a8,
      b__law_moebius := F8.binds (ps := ["number"]) fun _ _ _ _ _ _ us hl => match us, hl with | [_], _ => rfl,
      F__law_wrong := F9,
      g__law_wrong := PySem.W.mg_of X G a9,
      b__law_wrong := F9.binds (ps := ["rows"]) fun _ _ _ _ _ _ us hl => match us, hl with | [_], _ => rfl,
      F__law_right := F10,
      g__law_right := PySem.W.mg_of X G a10,
      b__law_right := F10.binds (ps := ["rows", "wrong"]) fun _ _ _ _ _ _ us hl => match us, hl with | [_, _], _ => rfl,
      F__law_all := F11,
      g__law_all := PySem.W.mg_of X G a11,
      b__law_all := F11.binds (ps := ["many", "top"]) fun _ _ _ _ _ _ us hl => match us, hl with | [_, _], _ => rfl,
      F__law_tried := F12,
      g__law_tried := PySem.W.mg_of X G a12,
      b__law_tried := F12.binds (ps := ["rows"]) fun _ _ _ _ _ _ us hl => match us, hl with | [_], _ => rfl,
      F_law := F13,
      g_law := PySem.W.mg_of X G a13,
      b_law := F13.binds (ps := ["script"]) fun _ _ _ _ _ _ us hl => match us, hl with | [_], _ => rfl,
      z_abs := PySem.W.mg_none_of X G z0,
      z_isinstance := PySem.W.mg_none_of X G z1,
      z_len := PySem.W.mg_none_of X G z2,
      z_list := PySem.W.mg_none_of X G z3,
      z_max := PySem.W.mg_none_of X G z4,
      z_min := PySem.W.mg_none_of X G z5,
      z_range := PySem.W.mg_none_of X G z6,
      z_repr := PySem.W.mg_none_of X G z7,
      z_sorted := PySem.W.mg_none_of X G z8,
      z_sum := PySem.W.mg_none_of X G z9,
      m_InvalidTable := PySem.W.mg_of X G m_InvalidTable,
      C_InvalidTable := ⟨⟨_, _, _, _, _, _, _, _, _, _, _, _, _, _, _, l_InvalidTable, r_InvalidTable⟩, sa_InvalidTable, ex_InvalidTable, ty_InvalidTable, kc_InvalidTable⟩,
      V_InvalidTable := ⟨ga_InvalidTable, gg_InvalidTable, ex_InvalidTable, hd_InvalidTable, ha_InvalidTable, hn_InvalidTable, ht_InvalidTable, hm_InvalidTable⟩,
      X_InvalidTable := ⟨ga_InvalidTable, gg_InvalidTable, ex_InvalidTable, hd_InvalidTable⟩,
      n_InvalidTable := nv_InvalidTable,
      i_InvalidTable := in_InvalidTable,
      t_InvalidTable := ti_InvalidTable,
      k_InvalidTable := ⟨fun s us ws _ h1 h2 => match us, ws, h1, h2 with | [_], [_], _, _ => .of_eq rfl, fun r1 r2 => r1.append r2⟩,
      q_InvalidTable_InvalidTable := kq_InvalidTable_InvalidTable,
      q_InvalidTable_ValueError := kq_InvalidTable_ValueError,
      e_InvalidTable_InvalidTable := PySem.W.exm_ref ex_InvalidTable hd_InvalidTable ty_InvalidTable ks_InvalidTable_InvalidTable }
  exact ⟨_, fun s v => .of_eq rfl, fun base _ _ => ok_law T⟩
end WK11
open PySem PySem.W PyProof.Rows
set_option maxHeartbeats 0 in
theorem PySem.Challenge.cw_pagecounts_k11_tables_that_contradict_holds : PySem.Challenge.rw_pagecounts_k11_tables_that_contradict.Holds := by
  w_on; o_law; k_head; (case hw => w_witness2)
  k_fill
  refine HS.walk_ofG (l := PySem.Challenge.rw_pagecounts_k11_tables_that_contradict) (n := 63) (k := 6) (x := "script") (CX := fun _ => L2.CX0) (sp := fun w => WK11.sp_law _) rfl (by decide) rfl ⟨rfl, by decide, by decide⟩ (fun w h Y => PySem.W.kIn_of Y) ?F (fun _ _ a ns hl _ hS => ⟨a, ns, rfl, hS, hl, fun _ => rfl⟩) (fun _ _ _ _ _ h => h)
  case F =>
    intro w mg fa h KX G hmg
    refine' WK11.all_mk KX G hmg ?m_InvalidTable ?a0 ?l0 ?c0 ?k0 ?a1 ?l1 ?c1 ?k1 ?a2 ?l2 ?c2 ?k2 ?a3 ?l3 ?c3 ?k3 ?a4 ?l4 ?c4 ?k4 ?in_InvalidTable ?l5 ?c5 ?k5 ?a6 ?l6 ?c6 ?k6 ?a7 ?l7 ?c7 ?k7 ?a8 ?l8 ?c8 ?k8 ?a9 ?l9 ?c9 ?k9 ?a10 ?l10 ?c10 ?k10 ?a11 ?l11 ?c11 ?k11 ?a12 ?l12 ?c12 ?k12 ?a13 ?l13 ?c13 ?k13 ?z0 ?z1 ?z2 ?z3 ?z4 ?z5 ?z6 ?z7 ?z8 ?z9 ?l_InvalidTable ?r_InvalidTable ?sa_InvalidTable ?ex_InvalidTable ?ty_InvalidTable ?kc_InvalidTable ?ga_InvalidTable ?gg_InvalidTable ?hd_InvalidTable ?ha_InvalidTable ?hn_InvalidTable ?ht_InvalidTable ?hm_InvalidTable ?nv_InvalidTable ?ti_InvalidTable ?kq_InvalidTable_InvalidTable ?kq_InvalidTable_ValueError ?ks_InvalidTable_InvalidTable
    (case m_InvalidTable => k_is); (case a0 => k_is); (case l0 => k_is); (case c0 => k_is); (case k0 => k_is); (case a1 => k_is); (case l1 => k_is); (case c1 => k_is); (case k1 => k_is); (case a2 => k_is); (case l2 => k_is); (case c2 => k_is); (case k2 => k_is); (case a3 => k_is); (case l3 => k_is); (case c3 => k_is); (case k3 => k_is); (case a4 => k_is); (case l4 => k_is); (case c4 => k_is); (case k4 => k_is); (case in_InvalidTable => k_is); (case l5 => k_is); (case c5 => k_is); (case k5 => k_is); (case a6 => k_is); (case l6 => k_is); (case c6 => k_is); (case k6 => k_is); (case a7 => k_is); (case l7 => k_is); (case c7 => k_is); (case k7 => k_is); (case a8 => k_is); (case l8 => k_is); (case c8 => k_is); (case k8 => k_is); (case a9 => k_is); (case l9 => k_is); (case c9 => k_is); (case k9 => k_is); (case a10 => k_is); (case l10 => k_is); (case c10 => k_is); (case k10 => k_is); (case a11 => k_is); (case l11 => k_is); (case c11 => k_is); (case k11 => k_is); (case a12 => k_is); (case l12 => k_is); (case c12 => k_is); (case k12 => k_is); (case a13 => k_is); (case l13 => k_is); (case c13 => k_is); (case k13 => k_is); (case z0 => k_is); (case z1 => k_is); (case z2 => k_is); (case z3 => k_is); (case z4 => k_is); (case z5 => k_is); (case z6 => k_is); (case z7 => k_is); (case z8 => k_is); (case z9 => k_is); (case l_InvalidTable => k_is); (case r_InvalidTable => rfl); (case sa_InvalidTable => k_is); (case ex_InvalidTable => k_is); (case ty_InvalidTable => k_is); (case kc_InvalidTable => k_is); (case ga_InvalidTable => k_is); (case gg_InvalidTable => k_is); (case hd_InvalidTable => k_is); (case ha_InvalidTable => k_is); (case hn_InvalidTable => k_is); (case ht_InvalidTable => k_is); (case hm_InvalidTable => k_is); (case nv_InvalidTable => k_is); (case ti_InvalidTable => k_is); (case kq_InvalidTable_InvalidTable => kit_is); (case kq_InvalidTable_ValueError => kit_is); (case ks_InvalidTable_InvalidTable => k_is)

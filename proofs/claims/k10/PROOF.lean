import PyProof.Rows.All
import Wide.All
import OpenK.AllK
import Wide.FinOn
import HandS.Evl
import HandS.GenList
import HandS.Walk
import HandS.WordsExc
import HandS.ForMost
import HandS.Wide
import HandS.Style
import HandS.SortInts
import HandS.SortKw
import HandS.SetFor
import HandS.Flow
import HandS.Gcd
import HandS.Strs
import KE.KMathG
import HandS.RaiseMore
import PyProof.ReprRoads
import PyProof.ReprBulk
import PyProof.FitsInt
import PySem.Challenge.RW_pagecounts_k10_lengths_read_from_tables
set_option Elab.async false
set_option linter.all false
set_option maxRecDepth 100000
set_option maxHeartbeats 4000000
/-! Readings, step by step, from their heads (own lemmas over HandS). -/
namespace HS
open PySem PySem.Spec PyProof.Rows L2
section
variable {σ : L2.St} {H : Hp} {Q : VK} {t u : TS} {te ta tb tx : TE} {tt tv : TT} {n bk ct : L2.St → Hp → Prop} {rt : VK} {K : PySem.W.Frag}
theorem seq (h : t ⟨u ⟨n, rt, bk, ct⟩, rt, bk, ct⟩ σ H) : tSeq t u ⟨n, rt, bk, ct⟩ σ H := h
theorem nxt (h : n σ H) : tNext ⟨n, rt, bk, ct⟩ σ H := h
theorem brk (h : bk σ H) : tBreak ⟨n, rt, bk, ct⟩ σ H := h
theorem cnt (h : ct σ H) : tCont ⟨n, rt, bk, ct⟩ σ H := h
theorem asg {g : TG} (h : te σ H fun x H1 => g x σ H1 n) : tAsg te g ⟨n, rt, bk, ct⟩ σ H := h
theorem nm {v : V} {i : Nat} {q : L2.St → Hp → Prop} (h : q (σ.set i (some v)) H) : gName i v σ H q := h
theorem sub {to ti : TE} {ts : TSet} {v : V} {q : L2.St → Hp → Prop} (h : to σ H fun o H1 => ti σ H1 fun i H2 => ts o i v H2 fun H3 => q σ H3) : gSub to ti ts v σ H q := h
theorem var {i : Nat} {v : V} (h : σ[i]? = some (some v)) (q : Q v H) : tVar i σ H Q := ⟨v, h, q⟩
theorem cst {v : V} (q : Q v H) : tC v σ H Q := q
theorem op {r : R2} (h : ta σ H fun x H1 => tb σ H1 fun y H2 => r x y H2 Q) : tOp r ta tb σ H Q := h
theorem un {r : V → Hp → VK → Prop} (h : ta σ H fun x H1 => r x H1 Q) : tUn r ta σ H Q := h
theorem i0 {g : Int → Int → V} {i j : Int} (q : Q (g i j) H) : rI0 g (.int i) (.int j) H Q := ⟨i, j, rfl, rfl, q⟩
theorem i1 {C : Int → Int → Prop} {g : Int → Int → V} {i j : Int} (q : C i j ∧ Q (g i j) H) : rI C g (.int i) (.int j) H Q := ⟨i, j, rfl, rfl, q⟩
theorem u0 {g : Int → V} {i : Int} (q : Q (g i) H) : rU g (.int i) H Q := ⟨i, rfl, q⟩
theorem eqI {i j : Int} (q : Q (.bl (decide (i = j))) H) : rEq (.int i) (.int j) H Q := ⟨rfl, by
  have e : decide ((V.int i) = V.int j) = decide (i = j) := by
    by_cases h : i = j
    · rw [h]; simp
    · have h2 : ¬ (V.int i = V.int j) := fun z => h (V.int.inj z)
      rw [decide_eq_false h, decide_eq_false h2]
  rw [e]; exact q⟩
theorem neI {i j : Int} (q : Q (.bl (!decide (i = j))) H) : rNe (.int i) (.int j) H Q := ⟨rfl, by
  have e : decide ((V.int i) = V.int j) = decide (i = j) := by
    by_cases h : i = j
    · rw [h]; simp
    · have h2 : ¬ (V.int i = V.int j) := fun z => h (V.int.inj z)
      rw [decide_eq_false h, decide_eq_false h2]
  rw [e]; exact q⟩
theorem tst {q : Bool → Hp → Prop} (h : te σ H fun x H' => ∃ k, x = .bl k ∧ q k H') : tTest te σ H q := h
theorem tb1 {q : Bool → Hp → Prop} (h : te σ H fun x H' => ∃ k, x = .bl k ∧ q k H') : tB te σ H q := h
theorem bex {b : Bool} {q : Bool → Prop} (h : q b) : ∃ k, V.bl b = V.bl k ∧ q k := ⟨b, rfl, h⟩
theorem ifs (h : tt σ H fun b H1 => if b = true then t ⟨n, rt, bk, ct⟩ σ H1 else u ⟨n, rt, bk, ct⟩ σ H1) : tIfS tt t u ⟨n, rt, bk, ct⟩ σ H := h
theorem ife (h : tt σ H fun b H1 => if b = true then ta σ H1 Q else tb σ H1 Q) : tIf tt ta tb σ H Q := h
theorem and {q : Bool → Hp → Prop} (h : tt σ H fun c H1 => if c = true then tv σ H1 q else q false H1) : tAnd tt tv σ H q := h
theorem or {q : Bool → Hp → Prop} (h : tt σ H fun c H1 => if c = true then q true H1 else tv σ H1 q) : tOr tt tv σ H q := h
theorem not {q : Bool → Hp → Prop} (h : tt σ H fun c H1 => q (!c) H1) : tNot tt σ H q := h
theorem andV (h : ta σ H fun x H1 => ∃ c, x = .bl c ∧ if c = true then tb σ H1 Q else Q (.bl false) H1) : tAndV ta tb σ H Q := h
theorem orV (h : ta σ H fun x H1 => ∃ c, x = .bl c ∧ if c = true then Q (.bl true) H1 else tb σ H1 Q) : tOrV ta tb σ H Q := h
theorem notV (h : ta σ H fun x H1 => ∃ c, x = .bl c ∧ Q (.bl (!c)) H1) : tNotV ta σ H Q := h
theorem chn {r r' : R2} {tc : TE} (h : ta σ H fun x H1 => tb σ H1 fun y H2 => r x y H2 fun z H3 => ∃ k, z = .bl k ∧ if k = true then tc σ H3 fun w H4 => r' y w H4 Q else Q (.bl false) H3) : tChain r r' ta tb tc σ H Q := h
theorem ret (h : te σ H rt) : tRet te ⟨n, rt, bk, ct⟩ σ H := h
theorem retN (h : rt .non H) : tRetN ⟨n, rt, bk, ct⟩ σ H := h
theorem drp (h : te σ H fun _ H1 => n σ H1) : tDrop te ⟨n, rt, bk, ct⟩ σ H := h
theorem cb {r : List V → Hp → VK → Prop} {tl : TA} (h : tl σ H fun vs H1 => r vs H1 Q) : tCB r tl σ H Q := h
theorem anil {q : List V → Hp → Prop} (h : q [] H) : tNil σ H q := h
theorem acons {tl : TA} {q : List V → Hp → Prop} (h : te σ H fun x H1 => tl σ H1 fun xs H2 => q (x :: xs) H2) : tCons te tl σ H q := h
theorem cal {sp : Sp} {E : XK} {tl : TA} (h : tl σ H fun vs H1 => sp vs H1 Q E) : tCall sp [] E tl σ H Q := by
  show tl σ H fun vs H1 => sp (vs ++ []) H1 Q E
  simp only [List.append_nil]; exact h
theorem tup {tl : TA} (h : tl σ H fun xs H1 => xs.length ≤ sizeLine ∧ ∀ p, H1 p = none → Q (.ref p) (upd H1 p (.tup xs))) : tTup tl σ H Q := h
theorem lst {tl : TA} (h : tl σ H fun xs H1 => xs.length ≤ sizeLine ∧ ∀ p, H1 p = none → Q (.ref p) (upd H1 p (.lst xs))) : tLst tl σ H Q := h
theorem par {i j : Nat} {tl : TA} (h : tl σ H fun vs H1 => ∃ v w, vs = [v, w] ∧ n ((σ.set i (some v)).set j (some w)) H1) : tPar i j tl ⟨n, rt, bk, ct⟩ σ H := h
theorem ex2 {v w : V} {q : V → V → Prop} (h : q v w) : ∃ a b, [v, w] = [a, b] ∧ q a b := ⟨v, w, rfl, h⟩
theorem aug {i : Nat} {ti : TIp} {x : V} (e : σ[i]? = some (some x)) (h : te σ H fun y H1 => ti x y H1 fun z H2 => n (σ.set i (some z)) H2) : tAug i te ti ⟨n, rt, bk, ct⟩ σ H := ⟨x, e, h⟩
theorem ipi {f : Int → Int → Int} {i j : Int} (q : Q (.int (f i j)) H) : ipI f (.int i) (.int j) H Q := ⟨i, j, rfl, rfl, q⟩
theorem addI {i j : Int} (q : Q (.int (i + j)) H) : rAdd (.int i) (.int j) H Q := ⟨i, j, rfl, rfl, q⟩
theorem ixL {p : Addr} {xs : List V} {i : Int} {v : V} (h : SqL K H p xs) (e : atI xs i = some v) (q : Q v H) : rIxL K (.ref p) (.int i) H Q := ⟨p, xs, i, v, rfl, rfl, h, e, q⟩
theorem ixT {p : Addr} {xs : List V} {i : Int} {v : V} (h : SqT K H p xs) (e : atI xs i = some v) (q : Q v H) : rIxT K (.ref p) (.int i) H Q := ⟨p, xs, i, v, rfl, rfl, h, e, q⟩
/-- an if over a decided thing -/
theorem itd {c A B : Prop} [Decidable c] (h1 : c → A) (h2 : ¬ c → B) : if decide c = true then A else B := by
  by_cases h : c
  · rw [decide_eq_true h, if_pos rfl]; exact h1 h
  · rw [decide_eq_false h, if_neg Bool.false_ne_true]; exact h2 h
theorem itn {c A B : Prop} [Decidable c] (h1 : ¬ c → A) (h2 : c → B) : if (!decide c) = true then A else B := by
  by_cases h : c
  · rw [decide_eq_true h]; exact iteF (h2 h)
  · rw [decide_eq_false h]; exact iteT (h1 h)
theorem it1 {c A B : Prop} [Decidable c] (hc : c) (h : A) : if decide c = true then A else B := itd (fun _ => h) fun z => absurd hc z
theorem it0 {c A B : Prop} [Decidable c] (hc : ¬ c) (h : B) : if decide c = true then A else B := itd (fun z => absurd z hc) fun _ => h
theorem in1 {c A B : Prop} [Decidable c] (hc : ¬ c) (h : A) : if (!decide c) = true then A else B := itn (fun _ => h) fun z => absurd z hc
theorem in0 {c A B : Prop} [Decidable c] (hc : c) (h : B) : if (!decide c) = true then A else B := itn (fun z => absurd hc z) fun _ => h
end
/-! ### heaps: all but S stands -/
def Keep (S : Addr → Prop) (H H' : Hp) : Prop := ∀ a o, H a = some o → ¬ S a → H' a = some o
section
variable {S : Addr → Prop} {H H1 H2 : Hp} {p q : Addr} {o u : HO}
theorem Keep.refl : Keep S H H := fun _ _ h _ => h
theorem Keep.trans (a : Keep S H H1) (b : Keep S H1 H2) : Keep S H H2 := fun x o h n => b x o (a x o h n) n
theorem Keep.new (h : H p = none) : Keep S H (upd H p o) := fun a u e _ => by rw [upd_ne (ne_of_none e h)]; exact e
theorem Keep.put (k : Keep S H H1) (h : H p = none) : Keep S H (upd H1 p o) := fun a u e n => by rw [upd_ne (ne_of_none e h)]; exact k a u e n
theorem Keep.at (k : Keep S H H1) (h : S p) : Keep S H (upd H1 p o) := fun a u e n => by rw [upd_ne (fun z => n (by rw [z]; exact h))]; exact k a u e n
theorem Keep.free (k : Keep S H H1) (h : H1 p = none) (n : ¬ S p) : H p = none := by
  cases e : H p with
  | none => rfl
  | some o => have z := k p o e n; rw [h] at z; cases z
theorem Keep.sq {K : PySem.W.Frag} {xs : List V} (k : Keep S H H1) (h : SqL K H p xs) (n : ¬ S p) : SqL K H1 p xs := by
  rcases h with (h | ⟨o, h⟩) | h
  · exact .inl (.inl (k _ _ h n))
  · exact .inl (.inr ⟨o, k _ _ h n⟩)
  · exact .inr h
theorem Keep.st {K : PySem.W.Frag} {xs : List V} (k : Keep S H H1) (h : SqT K H p xs) (n : ¬ S p) : SqT K H1 p xs := by
  rcases h with (h | ⟨o, h⟩) | h
  · exact .inl (.inl (k _ _ h n))
  · exact .inl (.inr ⟨o, k _ _ h n⟩)
  · exact .inr h
theorem sq {K : PySem.W.Frag} {xs : List V} (h : H p = some (.lst xs)) : SqL K H p xs := .inl (.inl h)
theorem st {K : PySem.W.Frag} {xs : List V} (h : H p = some (.tup xs)) : SqT K H p xs := .inl (.inl h)
end
end HS
theorem hu64 {A : PySem.Around} {k : Nat} (hr : L2.Room k A) : A.units + 64 < PySem.cLine := hr.units
namespace HS
open PySem PySem.Spec PyProof.Rows L2
section
variable {σ : L2.St} {H : Hp} {Q : VK} {te ta tb tx : TE} {K : PySem.W.Frag} {X : Cx}
theorem sz {n : Nat} (h : n ≤ 100000) : n < sizeLine := Nat.lt_of_le_of_lt h (by decide)
theorem szl {n : Nat} (h : n ≤ 100000) : n ≤ sizeLine := Nat.le_of_lt (sz h)
theorem pe_fold {e : Expr} {t : TE} (z : Int) (h : PE X e t) (k : ∀ (σ : L2.St) (H : Hp) (Q : VK), Q (.int z) H → t σ H Q) : PE X e (tC (.int z)) :=
  ⟨fun pins s σ H Q I q => h.run pins s σ H Q I (k σ H Q q)⟩
theorem ii {a b : Int} {q : Int → Int → Prop} (h : q a b) : ∃ i j, [V.int a, V.int b] = [V.int i, V.int j] ∧ q i j := ⟨a, b, rfl, h⟩
theorem bmL {r : V → List V → Hp → VK → Prop} {tl : TA} (h : ta σ H fun x H1 => tyV K "list" x H1 ∧ tl σ H1 fun xs H2 => r x xs H2 Q) : tBM K "list" r ta tl σ H Q := h
theorem bmL0 {r : V → List V → Hp → VK → Prop} (h : ta σ H fun x H1 => tyV K "list" x H1 ∧ r x [] H1 Q) : tBM0 K "list" r ta σ H Q := h
theorem tyL {p : Addr} {xs : List V} {A : Prop} (h : H p = some (.lst xs)) (q : A) : tyV K "list" (.ref p) H ∧ A := ⟨.inl ⟨rfl, _, .inl (.inl h)⟩, q⟩
theorem app {l : Addr} {xs : List V} {y : V} (h : H l = some (.lst xs)) (q : xs.length < sizeLine ∧ Q .non (upd H l (.lst (xs ++ [y])))) : rAppend (.ref l) [y] H Q := ⟨l, xs, y, rfl, rfl, h, q⟩
theorem pop0 {l : Addr} {y : V} {ys : List V} (h : H l = some (.lst (y :: ys))) (q : Q y (upd H l (.lst ys))) : rPopAt (.ref l) [.int 0] H Q := ⟨l, y :: ys, 0, 0, y, rfl, rfl, h, by decide, by decide, by simp [seqIndex?], rfl, q⟩
theorem setL {p : Addr} {xs : List V} {k : Int} {j : Nat} {v : V} {q : Hp → Prop} (h : H p = some (.lst xs)) (e : ixN xs.length k = some j) (g : q (upd H p (.lst (xs.set j v)))) : rSetL (.ref p) (.int k) v H q := ⟨p, xs, _, j, rfl, rfl, h, e, g⟩
theorem mulW {i j : Int} (a b : Nat) (h0 : 0 ≤ i) (h1 : i < 2 ^ a) (g0 : 0 ≤ j) (g1 : j < 2 ^ b) (ha : 0 < a) (hb : 0 < b) (h : a + b ≤ 1000000) : CMulW i j := by
  refine wide_mul (a := a) (b := b) ?_ ?_ ha hb h
  · have : ((i.natAbs : Nat) : Int) < ((2 ^ a : Nat) : Int) := by rw [Int.natAbs_of_nonneg h0]; simpa using h1
    exact Int.ofNat_lt.mp this
  · have : ((j.natAbs : Nat) : Int) < ((2 ^ b : Nat) : Int) := by rw [Int.natAbs_of_nonneg g0]; simpa using g1
    exact Int.ofNat_lt.mp this
theorem divW {i j : Int} (b : Nat) (h : 0 < j) (h1 : j < 2 ^ b) (hb : 0 < b) (h9 : b ≤ 9000) : CDivW i j := by
  refine wide_div (b := b) h ?_ hb h9
  have : ((j.natAbs : Nat) : Int) < ((2 ^ b : Nat) : Int) := by rw [Int.natAbs_of_nonneg (by omega)]; simpa using h1
  exact Int.ofNat_lt.mp this
theorem get_int {ns : List Int} {i : Nat} {x : V} (hi : (ns.map V.int)[i]? = some x) : ∃ z, x = .int z ∧ ns[i]? = some z ∧ i < ns.length := by
  rw [List.getElem?_map] at hi
  cases e : ns[i]? with
  | none => rw [e] at hi; cases hi
  | some z => rw [e] at hi; exact ⟨z, (Option.some.inj hi).symm, rfl, (List.getElem?_eq_some_iff.mp e).1⟩
end
end HS
namespace HS
open PySem PySem.Spec PyProof.Rows L2
theorem Keep.new' {S : Addr → Prop} {H H0 H1 : Hp} {p : Addr} {o : HO} (h : H0 p = none) (k0 : Keep S H H0) (n : ¬ S p) (k : Keep S H H1) : Keep S H (upd H1 p o) := k.put (k0.free h n)
theorem nS2 {p a b : Addr} (h1 : p ≠ a) (h2 : p ≠ b) : ¬ (p = a ∨ p = b) := fun z => z.elim h1 h2
theorem nS3 {p a b c : Addr} (h1 : p ≠ a) (h2 : p ≠ b) (h3 : p ≠ c) : ¬ (p = a ∨ p = b ∨ p = c) := fun z => z.elim h1 fun z => z.elim h2 h3
end HS
namespace HS
open PySem PySem.Spec PyProof.Rows L2
section
variable {σ : L2.St} {H : Hp} {t u : TS} {n bk ct : L2.St → Hp → Prop} {rt : VK}
theorem pnx (h : n σ H) : Ends.nx ⟨n, rt, bk, ct⟩ σ H := h
theorem pbk (h : bk σ H) : Ends.bk ⟨n, rt, bk, ct⟩ σ H := h
theorem pct (h : ct σ H) : Ends.ct ⟨n, rt, bk, ct⟩ σ H := h
theorem prt {v : V} (h : rt v H) : Ends.rt ⟨n, rt, bk, ct⟩ v H := h
theorem cut (M : L2.St → Hp → Prop) (h : t ⟨M, rt, bk, ct⟩ σ H) (k : ∀ σ' H', M σ' H' → u ⟨n, rt, bk, ct⟩ σ' H') : Evl.tCut t u ⟨n, rt, bk, ct⟩ σ H := ⟨M, h, k⟩
theorem pow_lt {i : Int} {a : Nat} (k : Nat) (h0 : 0 ≤ i) (h : i < 2 ^ a) : 0 ≤ i ^ k ∧ (i ^ k < 2 ^ (a * k) ∨ k = 0) := by
  refine ⟨Int.pow_nonneg h0, ?_⟩
  cases k with
  | zero => exact .inr rfl
  | succ k =>
    refine .inl ?_
    obtain ⟨m, rfl⟩ := Int.eq_ofNat_of_zero_le h0
    have h' : m < 2 ^ a := by have : ((m : Nat) : Int) < ((2 ^ a : Nat) : Int) := by simpa using h
                              exact Int.ofNat_lt.mp this
    have := Nat.pow_lt_pow_left h' (Nat.succ_ne_zero k)
    rw [← Nat.pow_mul] at this
    have z : ((m ^ (k + 1) : Nat) : Int) < ((2 ^ (a * (k + 1)) : Nat) : Int) := Int.ofNat_lt.mpr this
    simpa using z
end
end HS
namespace HS
open PySem PySem.Spec PyProof.Rows L2
section
variable {σ : L2.St} {H : Hp} {Q : VK} {ta tb te : TE} {K : PySem.W.Frag}
theorem szc {n : Nat} {A : Prop} (h : n ≤ 100000) (q : A) : n ≤ sizeLine ∧ A := ⟨szl h, q⟩
theorem szd {n : Nat} {A : Prop} (h : n ≤ 100000) (q : A) : n < sizeLine ∧ A := ⟨sz h, q⟩
theorem wp {σ1 σ2 : L2.St} {vs : List Nat} {A : Prop} (e : wipe σ2 vs = wipe σ1 vs) (q : A) : wipe σ2 vs = wipe σ1 vs ∧ A := ⟨e, q⟩
theorem yes {q : Bool → Hp → Prop} (h : q true H) : tYes σ H q := h
theorem ixI {p : Addr} {i : Int} (ns : List Int) (h : SqL K H p (ns.map V.int)) (h0 : 0 ≤ i) (h1 : i < ns.length) (q : ∀ z, ns[i.toNat]? = some z → z ∈ ns → Q (.int z) H) : rIxL K (.ref p) (.int i) H Q := by
  have hi : i.toNat < ns.length := by omega
  have e : ns[i.toNat]? = some ns[i.toNat] := List.getElem?_eq_getElem hi
  refine ⟨p, ns.map V.int, i, .int ns[i.toNat], rfl, rfl, h, ?_, q _ e (List.getElem_mem hi)⟩
  exact at_of (j := i.toNat) (by omega) (by rw [List.getElem?_map, e]; rfl)
theorem ixV {p : Addr} {i : Int} {xs : List V} (h : SqL K H p xs) (h0 : 0 ≤ i) (h1 : i < xs.length) (q : ∀ v, xs[i.toNat]? = some v → v ∈ xs → Q v H) : rIxL K (.ref p) (.int i) H Q := by
  have hi : i.toNat < xs.length := by omega
  have e : xs[i.toNat]? = some xs[i.toNat] := List.getElem?_eq_getElem hi
  refine ⟨p, xs, i, xs[i.toNat], rfl, rfl, h, ?_, q _ e (List.getElem_mem hi)⟩
  exact at_of (j := i.toNat) (by omega) e
theorem ixVT {p : Addr} {i : Int} {xs : List V} (h : SqT K H p xs) (h0 : 0 ≤ i) (h1 : i < xs.length) (q : ∀ v, xs[i.toNat]? = some v → v ∈ xs → Q v H) : rIxT K (.ref p) (.int i) H Q := by
  have hi : i.toNat < xs.length := by omega
  have e : xs[i.toNat]? = some xs[i.toNat] := List.getElem?_eq_getElem hi
  refine ⟨p, xs, i, xs[i.toNat], rfl, rfl, h, ?_, q _ e (List.getElem_mem hi)⟩
  exact at_of (j := i.toNat) (by omega) e
theorem lc {wi : TI} {g : TG} {tt : TT} {vs : List Nat} (h : wi σ H fun J H1 => ∀ D, H1 D = none → ∃ W : Nat → Nat → Hp → Prop, (∃ m, W 0 m (upd H1 D (.lst []))) ∧ ∀ i m H, W i m H → (J.stop i H ∧ Q (.ref D) H) ∨ (J.go i H ∧ ∃ Nx : Hp → Prop, (∀ H', Nx H' → ∃ m', m' < m ∧ W (i + 1) m' H') ∧ ∀ x H', J.yld i H x H' → g x (wipe σ vs) H' fun σ2 H2 => wipe σ2 vs = wipe σ vs ∧ tt σ2 H2 fun b H3 => if b = true then te σ2 H3 fun y H4 => ∃ acc, H4 D = some (.lst acc) ∧ acc.length < sizeLine ∧ Nx (upd H4 D (.lst (acc ++ [y]))) else Nx H3)) : tLc wi g tt te vs σ H Q := h
theorem rng1 {tl : TA} {R : It → Hp → Prop} (h : tl σ H fun vs H1 => ∃ j : Int, vs = [.int j] ∧ -(2 ^ 62) ≤ j ∧ j < 2 ^ 62 ∧ R (Itr 0 j.toNat) H1) : iRng1 tl σ H R := h
theorem rng2 {tl : TA} {R : It → Hp → Prop} (h : tl σ H fun vs H1 => ∃ i j : Int, vs = [.int i, .int j] ∧ (-(2 ^ 62) ≤ i ∧ i < 2 ^ 62 ∧ -(2 ^ 62) ≤ j ∧ j < 2 ^ 62) ∧ R (Itr i (j - i).toNat) H1) : iRng2 tl σ H R := h
theorem lis {tl : TE} {R : It → Hp → Prop} (h : tl σ H fun x H1 => ∃ a, x = .ref a ∧ (∃ xs, SqL K H1 a xs) ∧ R (Itl K a) H1) : iList K tl σ H R := h
theorem ra {a : Addr} {q : Addr → Prop} (h : q a) : ∃ b, V.ref a = V.ref b ∧ q b := ⟨a, rfl, h⟩
theorem i1e {a : Int} {q : Int → Prop} (h : q a) : ∃ i, [V.int a] = [V.int i] ∧ q i := ⟨a, rfl, h⟩
theorem fr {wi : TI} {g : TG} {tb : TS} {D : Ends} (h : wi σ H fun J H1 => ∃ W : Nat → Nat → L2.St → Hp → Prop, (∃ m, W 0 m σ H1) ∧ ∀ i m σ H, W i m σ H →
    (J.stop i H ∧ D.nx σ H) ∨ (J.go i H ∧ ∃ N : L2.St → Hp → Prop, (∀ σ' H', N σ' H' → ∃ m', m' < m ∧ W (i + 1) m' σ' H') ∧ ∀ x H', J.yld i H x H' → g x σ H' fun σ2 H2 => tb { D with nx := N, ct := N, bk := D.nx } σ2 H2)) : tFor wi g tb D σ H := h
end
end HS
namespace HS
open PySem PySem.Spec PyProof.Rows L2
theorem iteM {c : Bool} {ta tb : TE} {σ : L2.St} {H1 : Hp} {Q : VK} (M : VK) (h : c = true → ∀ Q' : VK, (∀ v H', M v H' → Q' v H') → ta σ H1 Q') (g : c = false → ∀ Q' : VK, (∀ v H', M v H' → Q' v H') → tb σ H1 Q') (k : ∀ v H', M v H' → Q v H') :
    if c = true then ta σ H1 Q else tb σ H1 Q := by
  cases c with
  | true => rw [if_pos rfl]; exact h rfl Q k
  | false => rw [if_neg Bool.false_ne_true]; exact g rfl Q k
/-- ceilings -/
theorem ceil_eq {i j : Int} (hj : 1 ≤ j) : (i + j - 1) / j = i / j + (if 0 < i % j then 1 else 0) := by
  have h0 := Int.emod_nonneg i (by omega : j ≠ 0)
  have h1 := Int.emod_lt_of_pos i (by omega : 0 < j)
  have e := Int.mul_ediv_add_emod i j
  generalize i / j = q at e ⊢
  generalize i % j = r at e h0 h1 ⊢
  subst e
  split
  · rename_i h
    rw [show j * q + r + j - 1 = (r - 1) + j * (q + 1) by rw [Int.mul_add]; omega, Int.add_mul_ediv_left _ _ (by omega), Int.ediv_eq_zero_of_lt (by omega) (by omega)]
    omega
  · rename_i h
    rw [show j * q + r + j - 1 = (j - 1) + j * q by omega, Int.add_mul_ediv_left _ _ (by omega), Int.ediv_eq_zero_of_lt (by omega) (by omega)]
    omega
end HS
namespace HS
open PySem PySem.Spec PyProof.Rows L2
section
variable {σ : L2.St} {H : Hp} {te : TE} {t : TS} {tg ug : TGn} {n bk ct : List V → L2.St → Hp → Prop} {rt : List V → VK} {ys : List V} {Q : VK}
theorem gthen (h : tg ⟨fun ys' σ' H' => ug ⟨n, rt, bk, ct⟩ ys' σ' H', rt, bk, ct⟩ ys σ H) : tGThen tg ug ⟨n, rt, bk, ct⟩ ys σ H := h
theorem g0 (h : n ys σ H) : tG0 ⟨n, rt, bk, ct⟩ ys σ H := h
theorem gpl (h : t ⟨n ys, rt ys, bk ys, ct ys⟩ σ H) : tPlain t ⟨n, rt, bk, ct⟩ ys σ H := h
theorem gyl (h : ys.length < sizeLine ∧ te σ H fun x H1 => n (ys ++ [x]) σ H1) : tGYield te ⟨n, rt, bk, ct⟩ ys σ H := h
theorem lgn {tg : TGen} (h : tg σ H fun out H2 => ∀ p, H2 p = none → Q (.ref p) (upd H2 p (.lst out))) : tListG tg σ H Q := h
theorem calg {sp : SpG} {E : XK} {tl : TA} {q : List V → Hp → Prop} (h : tl σ H fun vs H1 => sp vs H1 q E) : tCallG sp [] E tl σ H q := by
  show tl σ H fun vs H1 => sp (vs ++ []) H1 q E
  simp only [List.append_nil]; exact h
end
end HS
namespace HS
open PySem PySem.Spec PyProof.Rows L2
section
variable {H : Hp} {Q : VK} {K : PySem.W.Frag}
theorem ixZ {p : Addr} {i z : Int} {ns : List Int} (h : SqL K H p (ns.map V.int)) (h0 : 0 ≤ i) (e : ns[i.toNat]? = some z) (q : Q (.int z) H) : rIxL K (.ref p) (.int i) H Q :=
  ⟨p, ns.map V.int, i, .int z, rfl, rfl, h, at_of (j := i.toNat) (by omega) (by rw [List.getElem?_map, e]; rfl), q⟩
theorem cut_to (xs : List V) (n : Nat) : cutV xs none (some (n : Int)) = xs.take n := by
  unfold cutV
  rw [HT.sIx_none, HT.sIx_nat, List.drop_zero, Nat.sub_zero]
  rw [List.take_eq_take_iff]
  omega
theorem cut_from (xs : List V) (n : Nat) : cutV xs (some (n : Int)) none = xs.drop n := by
  unfold cutV
  rw [HT.sIx_none, HT.sIx_nat]
  rw [List.take_of_length_le (by rw [List.length_drop]; omega)]
  by_cases h : n ≤ xs.length
  · rw [Nat.min_eq_left h]
  · rw [Nat.min_eq_right (by omega), List.drop_eq_nil_of_le (Nat.le_refl _), List.drop_eq_nil_of_le (by omega)]
end
end HS
namespace HS
open PySem PySem.Spec PyProof.Rows L2
theorem Keep.any {S : Addr → Prop} {H H1 : Hp} (k : Keep (fun _ => False) H H1) : Keep S H H1 := fun a o e _ => k a o e id
theorem Keep.mono {S T : Addr → Prop} {H H1 : Hp} (k : Keep S H H1) (h : ∀ a, S a → T a) : Keep T H H1 := fun a o e n => k a o e fun z => n (h a z)
end HS
namespace HS
open PySem PySem.Spec PyProof.Rows L2
theorem cut_toI {i : Int} (ls : List Int) (h : 0 ≤ i) : cutV (ls.map V.int) none (some i) = (ls.take i.toNat).map V.int := by
  obtain ⟨n, rfl⟩ := Int.eq_ofNat_of_zero_le h
  rw [cut_to, List.map_take]; simp
theorem cut_fromI {i : Int} (ls : List Int) (h : 0 ≤ i) : cutV (ls.map V.int) (some i) none = (ls.drop i.toNat).map V.int := by
  obtain ⟨n, rfl⟩ := Int.eq_ofNat_of_zero_le h
  rw [cut_from, List.map_drop]; simp
end HS
namespace HS
theorem ifT {c : Bool} {A B : Prop} (e : c = true) (h : A) : if c = true then A else B := by rw [if_pos e]; exact h
theorem ifF {c : Bool} {A B : Prop} (e : c = false) (h : B) : if c = true then A else B := by rw [if_neg (by rw [e]; exact Bool.false_ne_true)]; exact h
end HS
namespace HS
open PySem PySem.Spec PyProof.Rows L2
/-- a new object behind what stands -/
theorem Keep.nw {H H1 : Hp} {p : Addr} {o : HO} (k : Keep (fun _ => False) H H1) (h : H1 p = none) : Keep (fun _ => False) H (upd H1 p o) := k.put (k.free h id)
theorem Keep.nwS {S : Addr → Prop} {H H1 : Hp} {p : Addr} {o : HO} (k : Keep S H H1) (h : H1 p = none) (n : ¬ S p) : Keep S H (upd H1 p o) := k.put (k.free h n)
end HS
namespace HS
theorem nt {A B : Prop} (h : B) : if (!true) = true then A else B := by rw [if_neg (show ¬ ((!true) = true) from Bool.false_ne_true)]; exact h
theorem nf {A B : Prop} (h : A) : if (!false) = true then A else B := by rw [if_pos (show (!false) = true from rfl)]; exact h
end HS
namespace HS
open PySem PySem.Spec PyProof.Rows L2
section
variable {H H' : Hp} {p x : Addr} {o u : HO}
theorem upgs (e : upd H p o = H') : H' p = some o := by rw [← e]; exact upd_same
theorem upgK (e : upd H p o = H') (h : H p = none) : Keep (fun _ => False) H H' := by rw [← e]; exact Keep.new h
end
end HS
/-! Data of ints, lists and tuples, and == of such. -/
namespace HS
open PySem PySem.Spec PyProof.Rows L2
def dInts (ns : List Int) : PyData := .list (ns.map .int)
section
variable {K : PySem.W.Frag} {H : Hp}
theorem dpAll_ints : ∀ ns : List Int, DpAll K H (ns.map V.int) (ns.map .int)
  | [] => .nil
  | n :: r => .cons (.int n) (dpAll_ints r)
theorem dp_ints {a : Addr} {ns : List Int} (h : SqL K H a (ns.map V.int)) : Dp K H (.ref a) (dInts ns) := .lst h (dpAll_ints ns)
theorem lay_ints : ∀ ns : List Int, PyData.canLayAll0 (ns.map .int) = true
  | [] => rfl
  | n :: r => by rw [List.map_cons, PyData.canLayAll0, lay_ints r]; rfl
theorem dep_ints : ∀ ns : List Int, PyData.depthAll (ns.map .int) = 0
  | [] => rfl
  | n :: r => by rw [List.map_cons, PyData.depthAll, dep_ints r]; rfl
theorem sh_ints (ns : List Int) : SeqAt.shaped (dInts ns) = true := by
  unfold SeqAt.shaped dInts
  rw [PyData.canLay0, PyData.depth, lay_ints, dep_ints]; rfl
theorem eqv_int (i j : Int) : PyData.eqv (.int i) (.int j) = decide (i = j) := by
  rw [PyData.eqv]; exact Bool.beq_eq_decide_eq i j
theorem eqvAll_ints : ∀ xs ys : List Int, PyData.eqvAll (xs.map .int) (ys.map .int) = decide (xs = ys)
  | [], [] => rfl
  | [], y :: ys => rfl
  | x :: xs, [] => rfl
  | x :: xs, y :: ys => by
    rw [List.map_cons, List.map_cons, PyData.eqvAll, eqv_int, eqvAll_ints xs ys]
    by_cases h : x = y <;> by_cases g : xs = ys <;> simp [h, g]
theorem eqv_ints (xs ys : List Int) : PyData.eqv (dInts xs) (dInts ys) = decide (xs = ys) := by
  unfold dInts; rw [PyData.eqv]; exact eqvAll_ints xs ys
/-- == and != of two lists of ints -/
theorem eqL {a b : Addr} {xs ys : List Int} {Q : VK} (h1 : SqL K H a (xs.map V.int)) (h2 : SqL K H b (ys.map V.int)) (q : Q (.bl (decide (xs = ys))) H) : rEqD K (.ref a) (.ref b) H Q :=
  ⟨_, _, dp_ints h1, dp_ints h2, sh_ints _, sh_ints _, by rw [eqv_ints]; exact q⟩
theorem neL {a b : Addr} {xs ys : List Int} {Q : VK} (h1 : SqL K H a (xs.map V.int)) (h2 : SqL K H b (ys.map V.int)) (q : Q (.bl (!decide (xs = ys))) H) : rNeD K (.ref a) (.ref b) H Q :=
  ⟨_, _, dp_ints h1, dp_ints h2, sh_ints _, sh_ints _, by rw [eqv_ints]; exact q⟩
end
end HS
/-! Rules told with the written part K by its own letter. -/
namespace HS
open PySem PySem.Spec PyProof.Rows L2
section
variable {X : Cx} (K : PySem.W.Frag)
theorem ixl (h : X.K = K := by rfl) : IxR X (rIxL K) := h ▸ ix_list
theorem ixt (h : X.K = K := by rfl) : IxR X (rIxT K) := h ▸ ix_tup
theorem sll (h : X.K = K := by rfl) : SlR X (rSlL K) := h ▸ sl_list
theorem slt (h : X.K = K := by rfl) : SlR X (rSlT K) := h ▸ sl_tup
theorem kbm {E : Expr} {T : String} {r : V → List V → Hp → VK → Prop} {to : TE} {t : TA} (p : PE X E (tBM X.K T r to t)) (h : X.K = K := by rfl) : PE X E (tBM K T r to t) := h ▸ p
theorem kbm0 {E : Expr} {T : String} {r : V → List V → Hp → VK → Prop} {to : TE} (p : PE X E (tBM0 X.K T r to)) (h : X.K = K := by rfl) : PE X E (tBM0 K T r to) := h ▸ p
theorem kil {tg l : Expr} {tl : TE} (p : PI X tg l (iList X.K tl)) (h : X.K = K := by rfl) : PI X tg l (iList K tl) := h ▸ p
theorem kit {tg l : Expr} {tl : TE} (p : PI X tg l (iTup X.K tl)) (h : X.K = K := by rfl) : PI X tg l (iTup K tl) := h ▸ p
theorem kien {tg l : Expr} {tl : TA} (p : PI X tg l (iEnum X.K tl)) (h : X.K = K := by rfl) : PI X tg l (iEnum K tl) := h ▸ p
theorem kgt {tg : Expr} {n : Nat} {t : TGs} (p : PG X tg (gTup X.K n t)) (h : X.K = K := by rfl) : PG X tg (gTup K n t) := h ▸ p
theorem keq (hu : X.A.units + 64 < cLine) (h : X.K = K := by rfl) : OpR X (compareOp .Eq) (rEqD K) := h ▸ op_eqD hu
theorem kne (hu : X.A.units + 64 < cLine) (h : X.K = K := by rfl) : OpR X (compareOp .NotEq) (rNeD K) := h ▸ op_neD hu
theorem kin (h : X.K = K := by rfl) : OpR X (compareOp .In) (rIn K false) := h ▸ op_in_seq
theorem knin (h : X.K = K := by rfl) : OpR X (compareOp .NotIn) (rIn K true) := h ▸ op_notIn_seq
theorem kcatT (h : X.K = K := by rfl) : OpR X (binaryOp .Add) (rCatT K) := h ▸ op_catT
def rLen : List V → Hp → VK → Prop := fun xs H Q => ∃ p ys, xs = [.ref p] ∧ (SqL K H p ys ∨ SqT K H p ys) ∧ Q (.int ys.length) H
def rLst : List V → Hp → VK → Prop := fun xs H Q => ∃ p ys, xs = [.ref p] ∧ (SqL K H p ys ∨ SqT K H p ys) ∧ ∀ l, H l = none → Q (.ref l) (upd H l (.lst ys))
theorem klen (h : X.K = K := by rfl) : CallR X (.builtin "len") (rLen K) := h ▸ call_len_seq
theorem klst (h : X.K = K := by rfl) : CallR X (.type "list") (rLst K) := h ▸ call_list_of
theorem ksum (hc : X.calm = true) (h : X.K = K := by rfl) : CallR X (.builtin "sum") (rSum K) := h ▸ cr_sum hc
theorem kmax (hc : X.calm = true) (h : X.K = K := by rfl) : CallR X (.builtin "max") (rMax K) := h ▸ cr_max hc
theorem kmin (hc : X.calm = true) (h : X.K = K := by rfl) : CallR X (.builtin "min") (rMin K) := h ▸ cr_min hc
theorem krev {E : Expr} {te : TE} (p : PE X E (tRevL X.K te)) (h : X.K = K := by rfl) : PE X E (tRevL K te) := h ▸ p
/-- the names of a block within a block -/
def relab (scO sc : Scope) : Scope := { scO with names := scO.names.map fun (n, k) => if (k == .free && sc.kind == .function && sc.names.lookup n == some .cell) then (n, .cell) else (n, k) }
/-- a list comprehension within a comprehension's block -/
theorem pe_lcIn {X : Cx} {s0 : Shared} {H0 : Hp} {C0 : Addr} {cl0 : List (Str × Addr)} {fp0 : List Addr} {scO : Scope} {elt tg iter : Expr} {ifs : List Expr} {scope : Scope} {own : List (Str × Nat)} {pos : Pos} {wi : TI} {g : TG} {tt : TT} {te : TE} (hc : X.calm = true) (hN : X.N.Nodup) (hi : PI (X.blk s0 H0 scO (compEnvC scO cl0 C0 X.env) fp0) tg iter wi) (sc : Scope) (hsc : X.env.scope = sc) (ok : BlkOk X.N (relab scO sc) scope own)
    (hg : ∀ (s : Shared) (H : Hp) (C : Addr) (cl : List (Str × Addr)) (fp : List Addr), PG ((X.blk s0 H0 scO (compEnvC scO cl0 C0 X.env) fp0).blk s H scope (compEnvC scope cl C (compEnvC scO cl0 C0 X.env)) fp) tg g) (ht : ∀ (s : Shared) (H : Hp) (C : Addr) (cl : List (Str × Addr)) (fp : List Addr), PTs ((X.blk s0 H0 scO (compEnvC scO cl0 C0 X.env) fp0).blk s H scope (compEnvC scope cl C (compEnvC scO cl0 C0 X.env)) fp) ifs tt)
    (he : ∀ (s : Shared) (H : Hp) (C : Addr) (cl : List (Str × Addr)) (fp : List Addr), PE ((X.blk s0 H0 scO (compEnvC scO cl0 C0 X.env) fp0).blk s H scope (compEnvC scope cl C (compEnvC scO cl0 C0 X.env)) fp) elt te) (hs : ∀ x, foldedSetIterable iter (compEnvC scO cl0 C0 X.env) x = pure x := by intro _; rfl) :
    PE (X.blk s0 H0 scO (compEnvC scO cl0 C0 X.env) fp0) (.ListComp elt [⟨tg, iter, ifs, 0⟩] scope pos) (tLc wi g tt te (own.map (·.2))) :=
  by subst hsc; exact pe_lc (X := X.blk s0 H0 scO (compEnvC scO cl0 C0 X.env) fp0) hc hN hi ok hg ht he hs
end
section
variable {σ : L2.St} {H : Hp} {Q : VK} {te : TE} {K : PySem.W.Frag}
theorem lenL {p : Addr} {ys : List V} (h : SqL K H p ys) (q : Q (.int ys.length) H) : rLen K [.ref p] H Q := ⟨p, ys, rfl, .inl h, q⟩
theorem lenT {p : Addr} {ys : List V} (h : SqT K H p ys) (q : Q (.int ys.length) H) : rLen K [.ref p] H Q := ⟨p, ys, rfl, .inr h, q⟩
theorem sumL {p : Addr} {ns : List Int} (h : SqL K H p (ns.map V.int)) (q : Q (.int ns.sum) H) : rSum K [.ref p] H Q := ⟨p, ns, rfl, h, q⟩
theorem revL (h : te σ H fun x H1 => ∃ a xs, x = .ref a ∧ SqL K H1 a xs ∧ ∀ p, H1 p = none → Q (.ref p) (upd H1 p (.lst xs.reverse))) : tRevL K te σ H Q := h
theorem sl {r : V → Option Int → Option Int → Hp → VK → Prop} {tl th : TO} (h : te σ H fun x H1 => tl σ H1 fun l H2 => th σ H2 fun u H3 => r x l u H3 Q) : tSl r te tl th σ H Q := h
theorem noP {q : Option Int → Hp → Prop} (h : q none H) : tNoPart σ H q := h
theorem part {q : Option Int → Hp → Prop} (h : te σ H fun x H1 => ∃ i, x = .int i ∧ q (some i) H1) : tPart te σ H q := h
theorem ie {a : Int} {q : Int → Prop} (h : q a) : ∃ i, V.int a = V.int i ∧ q i := ⟨a, rfl, h⟩
theorem slLs {p : Addr} {xs : List V} {lo hi : Option Int} (h : SqL K H p xs) (q : ∀ p, H p = none → Q (.ref p) (upd H p (.lst (cutV xs lo hi)))) : rSlL K (.ref p) lo hi H Q := ⟨p, xs, rfl, h, q⟩
theorem gtup {n : Nat} {t : TGs} {a : Addr} {xs : List V} {q : L2.St → Hp → Prop} (h : SqT K H a xs) (e : xs.length = n) (k : t xs σ H q) : gTup K n t (.ref a) σ H q := ⟨a, xs, rfl, h, e, k⟩
theorem gcons {t : TG} {u : TGs} {v : V} {r : List V} {q : L2.St → Hp → Prop} (h : t v σ H fun σ' H' => u r σ' H' q) : gCons t u (v :: r) σ H q := ⟨v, r, rfl, h⟩
theorem gnil {q : L2.St → Hp → Prop} (h : q σ H) : gNil [] σ H q := ⟨rfl, h⟩
theorem itup {R : It → Hp → Prop} (h : te σ H fun x H1 => ∃ a, x = .ref a ∧ (∃ xs, SqT K H1 a xs) ∧ R (Itt K a) H1) : iTup K te σ H R := h
theorem ienu {tl : TA} {R : It → Hp → Prop} (h : tl σ H fun vs H1 => ∃ a xs, vs = [.ref a] ∧ SqL K H1 a xs ∧ R (Ite K a) H1) : iEnum K tl σ H R := h
theorem cat {l b : Addr} {xs zs : List V} (h1 : H l = some (.lst xs)) (h2 : H b = some (.lst zs)) (q : xs.length + zs.length ≤ sizeLine ∧ ∀ p, H p = none → Q (.ref p) (upd H p (.lst (xs ++ zs)))) : rCat (.ref l) (.ref b) H Q := ⟨l, b, xs, zs, rfl, rfl, h1, h2, q⟩
theorem ext {l b : Addr} {xs zs : List V} (h1 : H l = some (.lst xs)) (h2 : H b = some (.lst zs)) (q : xs.length + zs.length ≤ sizeLine ∧ Q .non (upd H l (.lst (xs ++ zs)))) : rExtend (.ref l) [.ref b] H Q := ⟨l, b, xs, zs, rfl, rfl, h1, h2, q⟩
end
end HS
/-! Lists of new pairs of ints, and == of such; ranges by steps. -/
namespace HS
open PySem PySem.Spec PyProof.Rows L2
/-- the refs of vs are tuples of these pairs -/
def Prs (H : Hp) : List V → List (Int × Int) → Prop
  | [], [] => True
  | v :: vs, p :: ps => (∃ t, v = .ref t ∧ H t = some (.tup [.int p.1, .int p.2])) ∧ Prs H vs ps
  | _, _ => False
theorem Prs.keep {S : Addr → Prop} {H H' : Hp} (k : Keep S H H') : ∀ {vs : List V} {ps : List (Int × Int)}, Prs H vs ps → (∀ v ∈ vs, ∀ t, v = .ref t → ¬ S t) → Prs H' vs ps
  | [], [], h, _ => h
  | _ :: _, _ :: _, ⟨⟨t, e, o⟩, h⟩, n => ⟨⟨t, e, k t _ o (n _ List.mem_cons_self t e)⟩, h.keep k fun v hv => n v (List.mem_cons_of_mem _ hv)⟩
theorem Prs.app {H : Hp} : ∀ {vs ws : List V} {ps qs : List (Int × Int)}, Prs H vs ps → Prs H ws qs → Prs H (vs ++ ws) (ps ++ qs)
  | [], _, [], _, _, g => g
  | _ :: _, _, _ :: _, _, ⟨a, h⟩, g => ⟨a, h.app g⟩
theorem Prs.len {H : Hp} : ∀ {vs : List V} {ps : List (Int × Int)}, Prs H vs ps → vs.length = ps.length
  | [], [], _ => rfl
  | _ :: _, _ :: _, ⟨_, h⟩ => by rw [List.length_cons, List.length_cons, h.len]
def dPr (p : Int × Int) : PyData := .tuple [.int p.1, .int p.2]
def dPrs (ps : List (Int × Int)) : PyData := .list (ps.map dPr)
section
variable {K : PySem.W.Frag} {H : Hp}
theorem dpAll_prs : ∀ {vs : List V} {ps : List (Int × Int)}, Prs H vs ps → DpAll K H vs (ps.map dPr)
  | [], [], _ => .nil
  | _ :: _, p :: _, ⟨⟨t, e, o⟩, h⟩ => .cons (by rw [e]; exact .tup (st o) (.cons (.int p.1) (.cons (.int p.2) .nil))) (dpAll_prs h)
theorem lay_prs : ∀ ps : List (Int × Int), PyData.canLayAll0 (ps.map dPr) = true
  | [] => rfl
  | p :: r => by rw [List.map_cons, PyData.canLayAll0, lay_prs r]; rfl
theorem dep_prs : ∀ ps : List (Int × Int), PyData.depthAll (ps.map dPr) ≤ 2
  | [] => by simp [PyData.depthAll]
  | p :: r => by
    have h := dep_prs r
    have h2 : (dPr p).depth ≤ 2 := by simp [dPr, PyData.depth, PyData.depthAll]
    rw [List.map_cons, PyData.depthAll]; omega
theorem sh_prs (ps : List (Int × Int)) : SeqAt.shaped (dPrs ps) = true := by
  have h1 := dep_prs ps
  have h2 : PyData.depth (dPrs ps) ≤ 64 := by unfold dPrs; rw [PyData.depth]; omega
  show (PyData.canLay0 (dPrs ps) && decide (PyData.depth (dPrs ps) ≤ 64)) = true
  rw [Bool.and_eq_true]
  exact ⟨by unfold dPrs; rw [PyData.canLay0]; exact lay_prs ps, decide_eq_true h2⟩
theorem eqv_pr (p q : Int × Int) : PyData.eqv (dPr p) (dPr q) = decide (p = q) := by
  unfold dPr
  rw [PyData.eqv, PyData.eqvAll, PyData.eqvAll, PyData.eqvAll, eqv_int, eqv_int]
  obtain ⟨a, b⟩ := p
  obtain ⟨c, d⟩ := q
  by_cases h : a = c <;> by_cases g : b = d <;> simp [h, g]
theorem eqvAll_prs : ∀ xs ys : List (Int × Int), PyData.eqvAll (xs.map dPr) (ys.map dPr) = decide (xs = ys)
  | [], [] => rfl
  | [], y :: ys => rfl
  | x :: xs, [] => rfl
  | x :: xs, y :: ys => by
    rw [List.map_cons, List.map_cons, PyData.eqvAll, eqv_pr, eqvAll_prs xs ys]
    by_cases h : x = y <;> by_cases g : xs = ys <;> simp [h, g]
/-- == of two lists of pairs of ints -/
theorem eqP {a b : Addr} {vs ws : List V} {xs ys : List (Int × Int)} {Q : VK} (h1 : SqL K H a vs) (g1 : Prs H vs xs) (h2 : SqL K H b ws) (g2 : Prs H ws ys) (q : Q (.bl (decide (xs = ys))) H) : rEqD K (.ref a) (.ref b) H Q := by
  refine ⟨dPrs xs, dPrs ys, .lst h1 (dpAll_prs g1), .lst h2 (dpAll_prs g2), sh_prs _, sh_prs _, ?_⟩
  rw [show PyData.eqv (dPrs xs) (dPrs ys) = decide (xs = ys) by unfold dPrs; rw [PyData.eqv]; exact eqvAll_prs xs ys]
  exact q
end
theorem RgC.up {j c : Int} (hc : 1 ≤ c) (hc2 : c < 2 ^ 30) (h0 : 0 ≤ j) (h1 : j < 2 ^ 61) : RgC 0 j c ((j + c - 1) / c).toNat := by
  have hn : 0 ≤ (j + c - 1) / c := Int.ediv_nonneg (by omega) (by omega)
  have e : Builtin.Range.rangeSize 0 j c = (j + c - 1) / c := by
    unfold Builtin.Range.rangeSize
    rw [if_pos (by omega)]
    split
    · rw [show j + c - 1 = (j - 0 - 1) + c * 1 by omega, Int.add_mul_ediv_left _ _ (by omega)]
    · rw [show j = 0 by omega, Int.ediv_eq_zero_of_lt (by omega) (by omega)]
  have hl : (j + c - 1) / c ≤ j + c := Int.le_trans (Int.ediv_le_self _ (by omega)) (by omega)
  refine ⟨by omega, by omega, ?_, by rw [e]; omega⟩
  unfold Builtin.Range.small
  rw [e]
  simp only [Builtin.Range.rangeFitsLong, Bool.and_eq_true, Bool.or_eq_true, decide_eq_true_eq, beq_iff_eq]
  rw [if_pos (show c > 0 by omega)]
  simp only [Bool.and_eq_true, decide_eq_true_eq]
  omega
end HS
namespace HS
open PySem PySem.Spec PyProof.Rows L2
section
variable {σ : L2.St} {H : Hp}
theorem rng3 {tl : TA} {R : It → Hp → Prop} (h : tl σ H fun vs H1 => ∃ (i j c : Int) (n : Nat), vs = [.int i, .int j, .int c] ∧ RgC i j c n ∧ R (Itc i c n) H1) : iRng3 tl σ H R := h
end
end HS
namespace HS
open PySem PySem.Spec PyProof.Rows L2
theorem Prs.new {H : Hp} {p : Addr} {o : HO} (hp : H p = none) {vs : List V} {ps : List (Int × Int)} (h : Prs H vs ps) : Prs (upd H p o) vs ps :=
  h.keep (S := fun _ => False) (Keep.new hp) fun _ _ _ _ z => z
theorem Prs.same {H H' : Hp} {vs : List V} {ps : List (Int × Int)} (h : Prs H vs ps) (k : Keep (fun _ => False) H H') : Prs H' vs ps :=
  h.keep (S := fun _ => False) k fun _ _ _ _ z => z
theorem Prs.lst {H : Hp} {L : Addr} {ws : List V} (hL : H L = some (.lst ws)) : ∀ {vs : List V} {ps : List (Int × Int)}, Prs H vs ps → ∀ v ∈ vs, ∀ t, v = .ref t → t ≠ L
  | [], [], _, _, hv, _, _ => absurd hv List.not_mem_nil
  | _ :: _, _ :: _, ⟨⟨t', e', o'⟩, h⟩, v, hv, t, e => by
    rcases List.mem_cons.mp hv with hv | hv
    · subst hv
      rw [e'] at e
      have := V.ref.inj e
      subst this
      intro z
      rw [z, hL] at o'
      cases o'
    · exact h.lst hL v hv t e
theorem Prs.put {H : Hp} {L : Addr} {ws : List V} {o : HO} (hL : H L = some (.lst ws)) {vs : List V} {ps : List (Int × Int)} (h : Prs H vs ps) : Prs (upd H L o) vs ps :=
  h.keep (S := fun a => a = L) (Keep.at Keep.refl rfl) (h.lst hL)
theorem Prs.snoc {H : Hp} {vs : List V} {ps : List (Int × Int)} {t : Addr} {a b : Int} (h : Prs H vs ps) (e : H t = some (.tup [.int a, .int b])) : Prs H (vs ++ [.ref t]) (ps ++ [(a, b)]) :=
  h.app ⟨⟨t, rfl, e⟩, trivial⟩
end HS
/-! Defs that are called while nothing is being shown (no repr stands on the stack), so that they may call repr of a list. -/
namespace HS
open PySem PySem.Spec PyProof.Rows L2
/-- a def's promise where no repr is under way -/
structure FnG (Pg : Program) (wd : World) (K : PySem.W.Frag) (mg : Str → Option Value) (base : Heap) (C : CXT) (n : Nat) (f : Addr) (fd : FuncData) (ps : List Str) (sp : Sp) : Prop where
  len : ∀ vs H Q E, sp vs H Q E → vs.length = ps.length
  go : ∀ (B : Around) (o : List Env) (s : Shared) (H : Hp) (ar : Args) (us : List Value) (vs : List V) (Q : VK) (E : XK), B.guards = some [] → Room n B → Env0 Pg wd K mg base B o s H →
    BindsTo s fd ar (ps.zip us) → Vals vs us → sp vs H Q E → codeAny (model Pg wd) B (.call (.ref f) ar) (CR C o Pg wd H s Q E) s
section
variable {Pg : Program} {wd : World} {K : PySem.W.Frag} {mg : Str → Option Value} {base : Heap} {C : CXT} {n : Nat} {f : Addr} {fd : FuncData} {ps : List Str} {sp : Sp}
/-- a finished body's end is the call's end -/
theorem g_end {N : List Str} {q : Str} {sc : Scope} {cd : Value} {B : Around} {o : List Env} {s : Shared} {H : Hp} {E : XK} {Q : VK} {x : Cx} (hx : x = cxOf C Pg wd K mg base N q sc f cd B o s H E) (fl : Flow) {s' : Shared} :
    SP x [] { nx := fun _ H' => Q .non H', rt := Q } fl s' → CR C o Pg wd H s Q E (.ok (.ret (match fl with | .ret v => v | _ => .none))) s' := by
  subst hx
  intro h
  cases fl
  case ret u => obtain ⟨v, st, H', J, rv, y⟩ := h; exact ⟨v, H', J.os, J.bare, J.base, J.hok, rv, y⟩
  case next => obtain ⟨st, H', J, y⟩ := h; exact ⟨.non, H', J.os, J.bare, J.base, J.hok, rfl, y⟩
  all_goals exact h.elim fun _ z => z.elim fun _ z => z.2.elim
theorem Fun.okG {x qn : Str} {st : Stmt} {N : List Str} (F : L2.Fun K x qn st f fd) (S : FnScope N ps (defScope st)) (len : ∀ vs H Q E, sp vs H Q E → vs.length = ps.length)
    (hb : ∀ (cd : Value) (B : Around) (o : List Env) (s : Shared) (H : Hp) (vs : List V) (Q : VK) (E : XK), B.guards = some [] → Room n (B.deeper (envOfC qn (defScope st) s.heap.objs.size f cd)) → sp vs H Q E →
      ∃ t, PSs (cxOf L2.CX0 Pg wd K mg base N qn (defScope st) f cd B o s H E).nox (defBody st) t ∧ t { nx := fun _ H' => Q .non H', rt := Q } (start N vs) H) : FnG Pg wd K mg base L2.CX0 (n + 1) f fd ps sp := by
  obtain ⟨_, _, _, _, _, _, cd, _, _, rfl, lk, hcd⟩ := F.ex
  refine ⟨len, fun B o s H ar us vs Q E hg hr e0 bd rv hs => ?_⟩
  have kin : K.In s.heap := e0.mod.kin.keeps fun b u e => (e0.bs b u e).1
  have kinds : ∀ y ∈ ps.zip us, (defScope st).names.lookup y.1 = some .local ∨ ((defScope st).names.lookup y.1 = some .cell ∧ ((cellsFrom (s.heap.objs.size + 1) (defScope st).names []).lookup y.1).isSome = true) := by
    rintro ⟨z, v⟩ hy
    exact (S.par z (List.of_mem_zip hy).1).elim .inl fun c => .inr ⟨c, PySem.W.cellsFrom_some _ _ _ (.inl c)⟩
  refine codeAny_call_function hr.depth (kin _ _ lk) rfl S.co S.gen rfl (PySem.W.codeRec_of kin hcd) (bd _ _ _ _ (wpAny_newFunctionEnv_cells S.kind kinds fun _ he s1 made => ?_))
  subst he
  obtain ⟨t, ht, hq⟩ := hb cd B o s H vs Q E hg (hr.deeper _) hs
  have start0 := inv_start (CX := L2.CX0) (E := E) (qual := qn) (cd := cd) (f := f) S hr.hd e0 (len _ _ _ _ hs) rv made
  exact ⟨(e0.mod.nolimit.keeps fun b u e => (e0.bs b u e).1).keeps made.toInCall.keep, codeAny_func (wpAny_mono (ht.nox.run [] s1 _ H _ start0 hq) (fun fl s' => g_end rfl fl) fun _ _ h => h)⟩
end
/-! ### calls -/
/-- the call of a def, whichever way its arguments come -/
theorem after_call {X : Cx} {C : CXT} {E : XK} {pins : List (Addr × Obj)} {σ : L2.St} {H : Hp} {s : Shared} {Q : VK} {f : Addr} {us : List Value} {kw : List (Str × Value)} (hx : Passes C X E) (I : Inv X pins σ H s)
    (h : codeAny (model X.prog X.w) X.A (.call (.ref f) ⟨us, kw⟩) (CR C X.stack X.prog X.w H s Q E) s) : wpAny (model X.prog X.w) X.A (call (.ref f) us kw) (EP X pins σ Q) X.xe s :=
  wpAny_call (codeAny_mono h fun r s' y => match r, y with
    | .error e, y => hx pins σ H s e s' I y
    | .ok (.ret _), y => I.after y)
/-- how a call with keywords binds, where the numbers of its arguments are written -/
structure KBX (K : PySem.W.Frag) (fd : FuncData) (ps : List Str) (n : Nat) (ks : List Str) (g : List Value → List Value → List Value) (gV : List V → List V → List V) : Prop where
  to : ∀ (s : Shared) (us ws : List Value), us.length = n → ws.length = ks.length → BindsTo s fd ⟨us, ks.zip ws⟩ (ps.zip (g us ws))
  rel : ∀ {vs : List V} {us : List Value} {zs : List V} {ws : List Value}, Vals vs us → Vals zs ws → Vals (gV vs zs) (g us ws)
def tCallN (n m : Nat) (sp : Sp) (gV : List V → List V → List V) (E : XK) (t tk : TA) : TE := fun σ H Q => t σ H fun vs H1 => tk σ H1 fun zs H2 => vs.length = n ∧ zs.length = m ∧ sp (gV vs zs) H2 Q E
theorem relAt : ∀ {vs : List V} {us : List Value} (_ : Vals vs us) (i : Nat), RelV (vs.getD i .non) (us.getD i .none)
  | [], _, r, i => by cases r; exact rfl
  | _ :: _, _, r, 0 => by cases r with | cons a _ => exact a
  | _ :: _, _, r, i + 1 => by cases r with | cons _ b => exact relAt b i
section
variable {X : Cx} {C : CXT} {n m : Nat} {f : Addr} {fd : FuncData} {ps ks : List Str} {sp : Sp} {E : XK} {x : Str} {p q : Pos} {e : Expr} {es : List Expr} {kws : List Keyword} {t tk : TA} {g : List Value → List Value → List Value} {gV : List V → List V → List V}
theorem pe_callG (hG : X.A.guards = some []) (F : FnG X.prog X.w X.K X.mg X.base C n f fd ps sp) (hr : Room n X.A) (gl : Gl X x) (mf : X.mg x = some (.ref f)) (kf : PySem.W.keepIn X.K (.ref f) = true) (bd : Binds X.K fd ps []) (hx : Passes C X E) (ha : PA X (e :: es) t)
    (h1 : (x == ("__debug__" : Str)) = false := by decide) (h2 : starEach (e :: es) X.env = (false, eval e X.env) :: starEach es X.env := by rfl) (h3 : (backTo q (starEach es X.env)).any (·.1) = false := by rfl) :
    PE X (.Call (.Name x p) (e :: es) [] q) (tCall sp [] E t) := by
  constructor
  intro pins s σ H Q I h
  refine wpAny_Call_Name_kw (ld_glob I gl mf (PySem.W.callWith_K (h₀ := X.base) I.ok.mod.kin kf (thn (ha.run q pins s σ H _ I h) fun us s1 ⟨vs, H1, I1, r, y⟩ => ⟨I1.kIn, ?_⟩) h2 h3) h1)
  have y : sp (vs ++ []) H1 Q E := y
  rw [List.append_nil] at y
  have hl : (us ++ []).length = ps.length := by rw [List.append_nil, ← r.length]; exact F.len _ _ _ _ y
  exact after_call hx I1 (F.go X.A X.stack s1 H1 _ (us ++ []) vs Q E hG hr I1.env0 (bd s1 us I1.kIn hl) (by rw [List.append_nil]; exact r) y)
/-- f(e, .., k = v, ..), f(k = v, ..) -/
theorem kw_to (hb : KBX X.K fd ps n ks g gV) {pins : List (Addr × Obj)} {σ : L2.St} {H : Hp} {s : Shared} {Q : VK} {vs zs : List V} {us ws : List Value}
    (run : ∀ (bs : List Value) (bv : List V), BindsTo s fd ⟨us, ks.zip ws⟩ (ps.zip bs) → Vals bv bs → sp bv H Q E → codeAny (model X.prog X.w) X.A (.call (.ref f) ⟨us, ks.zip ws⟩) (CR C X.stack X.prog X.w H s Q E) s)
    (hx : Passes C X E) (I : Inv X pins σ H s) (r : Vals vs us) (rz : Vals zs ws) (l1 : vs.length = n) (l2 : zs.length = ks.length) (y : sp (gV vs zs) H Q E) : wpAny (model X.prog X.w) X.A (call (.ref f) us (ks.zip ws)) (EP X pins σ Q) X.xe s :=
  after_call hx I (run _ _ (hb.to s us ws (by rw [← r.length]; exact l1) (by rw [← rz.length]; exact l2)) (hb.rel r rz) y)
theorem pe_kwG (hG : X.A.guards = some []) (F : FnG X.prog X.w X.K X.mg X.base C m f fd ps sp) (hr : Room m X.A) (gl : Gl X x) (mf : X.mg x = some (.ref f)) (kf : PySem.W.keepIn X.K (.ref f) = true) (hb : KBX X.K fd ps n ks g gV) (hx : Passes C X E) (ha : PA X (e :: es) t) (hk : PK X kws tk)
    (h0 : (backToKw q (keywordEach kws X.env)).all (·.1.isSome) = true := by rfl) (hks : (backToKw q (keywordEach kws X.env)).filterMap (·.1) = ks := by rfl) (h1 : (x == ("__debug__" : Str)) = false := by decide) (h2 : starEach (e :: es) X.env = (false, eval e X.env) :: starEach es X.env := by rfl)
    (h3 : ((backTo q (starEach (e :: es) X.env)).any (·.1) || (backToKw q (keywordEach kws X.env)).any (·.1.isNone)) = false := by rfl) : PE X (.Call (.Name x p) (e :: es) kws q) (tCallN n ks.length sp gV E t tk) := by
  constructor
  intro pins s σ H Q I h
  refine wpAny_Call_Name_kw (ld_glob I gl mf (PySem.W.callWith_KW (h₀ := X.base) I.ok.mod.kin kf h0 (thn (ha.run q pins s σ H _ I h) fun us s1 ⟨vs, H1, I1, r, y⟩ => thn (hk.run q pins s1 σ H1 _ I1 y) fun ws s2 ⟨zs, H2, I2, rz, l1, l2, y2⟩ => ⟨I2.kIn, ?_⟩) h3 h2) h1)
  rw [hks]
  exact kw_to hb (fun bs bv b1 b2 b3 => F.go X.A X.stack s2 H2 _ bs bv Q E hG hr I2.env0 b1 b2 b3) hx I2 r rz l1 l2 y2
theorem pe_kwG0 (hG : X.A.guards = some []) (F : FnG X.prog X.w X.K X.mg X.base C m f fd ps sp) (hr : Room m X.A) (gl : Gl X x) (mf : X.mg x = some (.ref f)) (kf : PySem.W.keepIn X.K (.ref f) = true) (hb : KBX X.K fd ps 0 ks g gV) (hx : Passes C X E) (hk : PK X kws tk)
    (h0 : (backToKw q (keywordEach kws X.env)).all (·.1.isSome) = true := by rfl) (hks : (backToKw q (keywordEach kws X.env)).filterMap (·.1) = ks := by rfl) (h1 : (x == ("__debug__" : Str)) = false := by decide)
    (h3 : ((backTo q (starEach [] X.env)).any (·.1) || (backToKw q (keywordEach kws X.env)).any (·.1.isNone)) = false := by rfl) : PE X (.Call (.Name x p) [] kws q) (tCallN 0 ks.length sp gV E tNil tk) := by
  constructor
  intro pins s σ H Q I h
  refine wpAny_Call_Name_kw (ld_glob I gl mf (PySem.W.callWith_KW0 (h₀ := X.base) I.ok.mod.kin kf h0 (thn (hk.run q pins s σ H _ I h) fun ws s2 ⟨zs, H2, I2, rz, l1, l2, y2⟩ => ⟨I2.kIn, ?_⟩) h3) h1)
  rw [hks]
  exact kw_to hb (fun bs bv b1 b2 b3 => F.go X.A X.stack s2 H2 _ bs bv Q E hG hr I2.env0 b1 b2 b3) hx I2 .nil rz rfl l2 y2
/-- the same of a def that may be called anywhere -/
theorem pe_kw (F : FnOk X.prog X.w X.K X.mg X.base C m f fd ps sp) (hr : Room m X.A) (gl : Gl X x) (mf : X.mg x = some (.ref f)) (kf : PySem.W.keepIn X.K (.ref f) = true) (hb : KBX X.K fd ps n ks g gV) (hx : Passes C X E) (ha : PA X (e :: es) t) (hk : PK X kws tk)
    (h0 : (backToKw q (keywordEach kws X.env)).all (·.1.isSome) = true := by rfl) (hks : (backToKw q (keywordEach kws X.env)).filterMap (·.1) = ks := by rfl) (h1 : (x == ("__debug__" : Str)) = false := by decide) (h2 : starEach (e :: es) X.env = (false, eval e X.env) :: starEach es X.env := by rfl)
    (h3 : ((backTo q (starEach (e :: es) X.env)).any (·.1) || (backToKw q (keywordEach kws X.env)).any (·.1.isNone)) = false := by rfl) : PE X (.Call (.Name x p) (e :: es) kws q) (tCallN n ks.length sp gV E t tk) := by
  constructor
  intro pins s σ H Q I h
  refine wpAny_Call_Name_kw (ld_glob I gl mf (PySem.W.callWith_KW (h₀ := X.base) I.ok.mod.kin kf h0 (thn (ha.run q pins s σ H _ I h) fun us s1 ⟨vs, H1, I1, r, y⟩ => thn (hk.run q pins s1 σ H1 _ I1 y) fun ws s2 ⟨zs, H2, I2, rz, l1, l2, y2⟩ => ⟨I2.kIn, ?_⟩) h3 h2) h1)
  rw [hks]
  exact kw_to hb (fun bs bv b1 b2 b3 => F.run X.A X.stack s2 H2 _ bs bv Q E hr I2.env0 b1 b2 b3) hx I2 r rz l1 l2 y2
theorem pe_kw0 (F : FnOk X.prog X.w X.K X.mg X.base C m f fd ps sp) (hr : Room m X.A) (gl : Gl X x) (mf : X.mg x = some (.ref f)) (kf : PySem.W.keepIn X.K (.ref f) = true) (hb : KBX X.K fd ps 0 ks g gV) (hx : Passes C X E) (hk : PK X kws tk)
    (h0 : (backToKw q (keywordEach kws X.env)).all (·.1.isSome) = true := by rfl) (hks : (backToKw q (keywordEach kws X.env)).filterMap (·.1) = ks := by rfl) (h1 : (x == ("__debug__" : Str)) = false := by decide)
    (h3 : ((backTo q (starEach [] X.env)).any (·.1) || (backToKw q (keywordEach kws X.env)).any (·.1.isNone)) = false := by rfl) : PE X (.Call (.Name x p) [] kws q) (tCallN 0 ks.length sp gV E tNil tk) := by
  constructor
  intro pins s σ H Q I h
  refine wpAny_Call_Name_kw (ld_glob I gl mf (PySem.W.callWith_KW0 (h₀ := X.base) I.ok.mod.kin kf h0 (thn (hk.run q pins s σ H _ I h) fun ws s2 ⟨zs, H2, I2, rz, l1, l2, y2⟩ => ⟨I2.kIn, ?_⟩) h3) h1)
  rw [hks]
  exact kw_to hb (fun bs bv b1 b2 b3 => F.run X.A X.stack s2 H2 _ bs bv Q E hr I2.env0 b1 b2 b3) hx I2 .nil rz rfl l2 y2
end
section
variable {σ : L2.St} {H : Hp} {Q : VK} {t tk : TA} {sp : Sp} {gV : List V → List V → List V} {E : XK} {n m : Nat}
theorem caln (h : t σ H fun vs H1 => tk σ H1 fun zs H2 => vs.length = n ∧ zs.length = m ∧ sp (gV vs zs) H2 Q E) : tCallN n m sp gV E t tk σ H Q := h
theorem lnn {a b c d : Nat} {A : Prop} (e : a = c) (f : b = d) (h : A) : a = c ∧ b = d ∧ A := ⟨e, f, h⟩
end
/-! ### repr -/
mutual
/-- data of ints below 2 ^ 200, bools, None, in lists and tuples -/
def tame : PyData → Bool
  | .none | .bool _ => true
  | .int i => decide (i.natAbs < 2 ^ 200)
  | .list ds | .tuple ds => tameAll ds
  | _ => false
def tameAll : List PyData → Bool
  | [] => true
  | d :: ds => tame d && tameAll ds
end
theorem tame_int {i : Int} (h : i.natAbs < 2 ^ 200) : i.natAbs.log2 < 200 := by
  by_cases z : i.natAbs = 0
  · rw [z]; decide
  · exact (Nat.log2_lt z).mpr h
mutual
theorem tame_ok : ∀ d : PyData, tame d = true → d.showable = true ∧ d.hasDict = false ∧ d.leavesShort 201 = true
  | .none, _ => ⟨rfl, rfl, rfl⟩
  | .bool _, _ => ⟨rfl, rfl, rfl⟩
  | .int i, h => by
    have h' := tame_int (of_decide_eq_true (by simpa only [tame] using h))
    refine ⟨by simp only [PyData.showable]; exact decide_eq_true (by omega), rfl, ?_⟩
    simp only [PyData.leavesShort]
    exact decide_eq_true (by show (Str.ofString (toString i)).length ≤ 201; rw [PySem.ofString_length]; exact PySem.int_text_length_le (by decide) h')
  | .str _, h => by simp [tame] at h
  | .dict _, h => by simp [tame] at h
  | .list ds, h => by
    have := tame_okAll ds (by simpa only [tame] using h)
    simpa only [PyData.showable, PyData.hasDict, PyData.leavesShort] using this
  | .tuple ds, h => by
    have := tame_okAll ds (by simpa only [tame] using h)
    simpa only [PyData.showable, PyData.hasDict, PyData.leavesShort] using this
theorem tame_okAll : ∀ ds : List PyData, tameAll ds = true → PyData.showableAll ds = true ∧ PyData.hasDictAll ds = false ∧ PyData.leavesShortAll 201 ds = true
  | [], _ => ⟨rfl, rfl, rfl⟩
  | d :: ds, h => by
    have h' : tame d = true ∧ tameAll ds = true := by simpa only [tameAll, Bool.and_eq_true] using h
    obtain ⟨a, b, c⟩ := tame_ok d h'.1
    obtain ⟨a', b', c'⟩ := tame_okAll ds h'.2
    simp only [PyData.showableAll, PyData.hasDictAll, PyData.leavesShortAll, a, b, c, a', b', c']
    decide
end
/-- repr of a list or a tuple -/
def rRepr (K : PySem.W.Frag) : List V → Hp → VK → Prop := fun vs H Q => ∃ a d, vs = [.ref a] ∧ Dp K H (.ref a) d ∧ tame d = true ∧ d.depth ≤ 60 ∧ d.bulk ≤ 60000 ∧ Q (.str d.shown) H
theorem krepr (K : PySem.W.Frag) {X : Cx} {k : Nat} (hG : X.A.guards = some []) (hr : Room k X.A) (h : X.K = K := by rfl) : CallR X (.builtin "repr") (rRepr K) := by
  subst h
  intro pins s σ H xs us Q I r hq
  obtain ⟨a, d, rfl, hd, ht, hdp, hb, q⟩ := hq
  obtain ⟨u, rfl, ru⟩ := vals1 r
  obtain rfl : u = Value.ref a := ru
  obtain ⟨as, rd⟩ := Dp.reads I d _ _ hd rfl
  obtain ⟨o1, o2, o3⟩ := tame_ok d ht
  have fits := PyData.shown_le_bulk 201 (by decide) d o3
  have un := hr.units
  refine repr_of_reads' rd o1 (PyData.noDict_hsm o2) hG (by omega) (fun _ _ e => e) (fun h' u tk hk => ⟨.str d.shown, H, ?_, ⟨u, rfl⟩, q⟩) (by rw [sizeLine_eq]; omega)
  exact I.kept hk
end HS
/-! The end of a proof whose law def is called while nothing is being shown. -/
namespace HS
open PySem PySem.Spec PyProof.Rows L2
section
variable {Pg : Program} {wd : World} {K : PySem.W.Frag} {mg mb : Str → Option Value} {C : CXT} {n : Nat} {fa a : Addr} {fd : FuncData} {x : Str} {sp : Sp} {s1 : Shared} {vs : List Value} {ns : List Int}
/-- what the caller's heap holds where the abstract heap tracks the script alone, or nothing -/
structure AtTop (Pg : Program) (wd : World) (K : PySem.W.Frag) (a : Addr) (ns : List Int) (s1 : Shared) (H : Hp) : Prop where
  only : Only H
  here : SqL K H a (ns.map V.int)
  hok : HOk Pg wd H s1.heap
  one : ∀ b, b ≠ a → H b = none
  out : H a = none ∨ K.lookup a = none
theorem top_run (T : AtTop Pg wd K a ns s1 H) (KX : K.In s1.heap) (g : s1.heap.Ns mainGlobals mg) (gb : s1.heap.Ns builtinsNs mb) (hb : ∀ y : Str, y ≠ "__name__" → mb y = bootBuiltins y) (lim : s1.heap.NoLimit) (hg : s1.gens = #[])
    (seq : ∃ o, s1.heap.get? a = some o ∧ ∃ us m, o.data = .seq us m) (hr : Room n callerA) (F : ∀ base : Heap, K.In base → base.Ns mainGlobals mg → FnG Pg wd K mg base C n fa fd [x] sp) (bd : ∀ (s : Shared) (u : Value), BindsTo s fd ⟨[u], []⟩ [(x, u)])
    (want : ∀ H : Hp, Only H → SqL K H a (ns.map V.int) → sp [.ref a] H (fun v _ => v = .bl true) fun _ _ _ => False) (noX : ∀ H e s', C [] H s1 (fun _ _ _ => False) e s' → False) :
    codeAny (model Pg wd) callerA (.call (.ref fa) ⟨[.ref a], []⟩) (fun r s' => r = .ok (.ret (.bool true)) ∧ OldK s1.heap s'.heap ∧ s'.os = s1.os ∧ AllBare s'.gens) s1 := by
  obtain ⟨oa, ea, us, m, da⟩ := seq
  -- the base: all but what is tracked
  have stays : ∀ {b : Addr} {o : Obj}, s1.heap.get? b = some o → (b = a → H a = none) → (hidT s1.heap H).get? b = some o := fun {b o} e h =>
    hidT_get e (by by_cases q : b = a; · subst q; exact h rfl
                   · exact T.one b q)
  have dict : ∀ {b : Addr} {f : Str → Option Value}, s1.heap.Ns b f → (hidT s1.heap H).Ns b f := by
    rintro b f ⟨o, es, ep, e, d, r⟩
    refine ⟨o, es, ep, stays e fun q => ?_, d, r⟩
    subst q
    rw [ea] at e
    cases e
    rw [da] at d
    cases d
  have kin : K.In (hidT s1.heap H) := fun b o e => stays (KX b o e) fun q => by
    subst q
    rcases T.out with h | h
    · exact h
    · rw [h] at e; cases e
  have md : Mod K mg (hidT s1.heap H) := ⟨kin, dict g, ⟨mb, dict gb, hb⟩, by obtain ⟨mc, l1, l2⟩ := lim; exact ⟨mc, dict l1, l2⟩⟩
  have e0 : Env0 Pg wd K mg (hidT s1.heap H) callerA [] s1 H := ⟨rfl, md, fun _ _ e => of_hidT e, Nat.le_of_eq (hidT_size _ _), trivial, nofun, T.hok, .of_eq hg⟩
  refine codeAny_mono ((F _ kin (dict g)).go callerA [] s1 H ⟨[.ref a], []⟩ [.ref a] [.ref a] _ _ rfl hr e0 (bd s1 (.ref a)) (.cons rfl .nil) (want H T.only T.here)) fun r s' y => ?_
  match r, y with
  | .error e, y => exact (noX H e s' y).elim
  | .ok (.ret u), y =>
    obtain ⟨v, H', os, bare, un, ok', rv, rfl⟩ := y
    obtain rfl : u = Value.bool true := rv
    refine ⟨rfl, OldK.of_keep fun b o e => ?_, os, bare⟩
    rcases T.only b with z | ⟨ob, xs, z⟩
    · exact un.keep b o e z nofun nofun
    · have t1 := (T.hok b _ z).1
      rw [e] at t1
      rw [Option.some.inj t1]
      exact (ok' b _ (un.frzs b ob _ z)).1
theorem top_at (KX : K.In s1.heap) (ha : s1.heap.get? a = some { cls := .type "list", data := .seq vs.toArray }) (hi : IntsAre vs ns) (hl : ns.length ≤ sizeLine) : ∃ H, AtTop Pg wd K a ns s1 H := by
  have rv := vals_ints hi
  by_cases hk : K.lookup a = none
  · refine ⟨fun b => if b = a then some (.frz { cls := .type "list", data := .seq vs.toArray } (.lst (ns.map V.int))) else none, fun b => ?_, .inl (.inr ⟨_, if_pos rfl⟩), fun b u z => ?_, fun b q => if_neg q, .inr hk⟩
    · by_cases q : b = a
      · exact .inr ⟨_, _, if_pos q⟩
      · exact .inl (if_neg q)
    · by_cases q : b = a
      · subst q
        rw [if_pos rfl] at z
        cases z
        exact ⟨ha, by rw [List.length_map]; exact hl, vs, _, rv, ha⟩
      · rw [if_neg q] at z
        cases z
  · obtain ⟨o, ho⟩ := Option.ne_none_iff_exists'.mp hk
    have e := KX a o ho
    rw [ha] at e
    cases e
    exact ⟨fun _ => none, fun _ => .inl rfl, .inr ⟨_, vs.toArray, _, ho, rfl, rfl, rfl, by rw [List.size_toArray, hi.length]; exact hl, by simpa using rv⟩, (fun _ _ z => nomatch z), fun _ _ => rfl, .inl rfl⟩
end
theorem walk_ofG {l : PySem.W.OpenLaw} {n k : Nat} {q : Program} {loose : List Str} {XP : (Str → Option Value) → Heap → Prop} {YP : World → Heap → Prop} {d : DefRec} {K : Params → PySem.W.Frag} {CX : World → CXT} {sp : World → Sp} {x : Str}
    (h1 : l.most = some n) (h2 : n ≤ sizeLine) (h3 : d.params.defaults = []) (hr : Room k callerA) (hY : ∀ (w : World) (h : Heap), YP w h → (K w.params).In h)
    (F : ∀ (w : World) (mg : Str → Option Value) (fa : Addr) (h : Heap), (K w.params).In h → h.Ns mainGlobals mg → mg d.name = some (.ref fa) → ∃ fd : FuncData, (∀ (s : Shared) (u : Value), BindsTo s fd ⟨[u], []⟩ [(x, u)]) ∧
      ∀ base : Heap, (K w.params).In base → base.Ns mainGlobals mg → FnG l.prog w (K w.params) mg base (CX w) k fa fd [x] (sp w))
    (want : ∀ (w : World) (H : Hp) (a : Addr) (ns : List Int), ns.length ≤ n → Only H → SqL (K w.params) H a (ns.map V.int) → sp w [.ref a] H (fun v _ => v = .bl true) fun _ _ _ => False)
    (noX : ∀ (w : World) (H : Hp) (s : Shared) (e : Value) (s' : Shared), CX w [] H s (fun _ _ _ => False) e s' → False) : PySem.W.WalkO q loose XP YP l.row.toRowW d [] (fun f vs => PySem.call f vs) :=
  Att.attach_call h1 h3 fun w _ s1 mg _ fa _ _ _ _ a vs ns G Y _ _ _ hm ho hi hl hg => by
    obtain ⟨fd, bd, hF⟩ := F w mg fa _ (hY w _ Y) G.T.g hm
    obtain ⟨H, T⟩ := top_at (Pg := l.prog) (wd := w) (hY w _ Y) ho hi (Nat.le_trans hl h2)
    exact top_run T (hY w _ Y) G.T.g G.T.b G.T.builtins G.T.nolimit hg ⟨_, ho, _, _, rfl⟩ hr hF bd (fun H o => want w H a ns hl o) fun H e s' => noX w H s1 e s'
end HS
/-! sorted of ints; lists in descending order. -/
namespace HS
open PySem PySem.Spec PyProof.Rows L2
section
variable {X : Cx} (K : PySem.W.Frag)
end
/-- in descending order -/
def desc (ls : List Int) : List Int := ls.mergeSort fun a b => decide (b ≤ a)
theorem desc_perm (ls : List Int) : (desc ls).Perm ls := List.mergeSort_perm ls _
theorem desc_pair (ls : List Int) : (desc ls).Pairwise (· ≥ ·) := by
  have h := List.pairwise_mergeSort (le := fun a b : Int => decide (b ≤ a)) (fun a b c h1 h2 => by simp only [decide_eq_true_eq] at *; omega) (fun a b => by simp only [Bool.or_eq_true, decide_eq_true_eq]; omega) ls
  exact h.imp fun h => by simpa using h
theorem same_desc : ∀ {xs ys : List Int}, xs.Perm ys → xs.Pairwise (· ≥ ·) → ys.Pairwise (· ≥ ·) → xs = ys
  | [], ys, p, _, _ => (List.nil_perm.mp p).symm ▸ rfl
  | x :: xs, [], p, _, _ => absurd (List.perm_nil.mp p) (by simp)
  | x :: xs, y :: ys, p, h1, h2 => by
    rw [List.pairwise_cons] at h1 h2
    have e : x = y := by
      have a := p.mem_iff.mp List.mem_cons_self
      have b := p.mem_iff.mpr (List.mem_cons_self (a := y) (l := ys))
      rcases List.mem_cons.mp a with a | a
      · exact a
      · rcases List.mem_cons.mp b with b | b
        · exact b.symm
        · have := h1.1 y b
          have := h2.1 x a
          omega
    subst e
    rw [same_desc (List.Perm.cons_inv p) h1.2 h2.2]
theorem desc_of {xs ys : List Int} (p : xs.Perm ys) (h : xs.Pairwise (· ≥ ·)) : xs = desc ys := same_desc (p.trans (desc_perm ys).symm) h (desc_pair ys)
theorem desc_rev {xs ys : List Int} (p : xs.Perm ys) (h : xs.Pairwise (· ≤ ·)) : xs.reverse = desc ys := desc_of ((List.reverse_perm xs).trans p) (List.pairwise_reverse.mpr h)
theorem desc_same {xs ys : List Int} (p : xs.Perm ys) : desc xs = desc ys := desc_of ((desc_perm xs).trans p) (desc_pair xs)
theorem desc_len (ls : List Int) : (desc ls).length = ls.length := (desc_perm ls).length_eq
theorem desc_mem {ls : List Int} {x : Int} : x ∈ desc ls ↔ x ∈ ls := (desc_perm ls).mem_iff
theorem desc_count (ls : List Int) (x : Int) : (desc ls).count x = ls.count x := (desc_perm ls).count_eq x
theorem desc_desc (ls : List Int) : desc (desc ls) = desc ls := desc_same (desc_perm ls)
/-- those greater than v -/
def above (ls : List Int) (v : Int) : List Int := (desc ls).filter fun x => decide (v < x)
theorem filter_none {ls : List Int} {v : Int} (h : ∀ x ∈ ls, x ≤ v) : (ls.filter fun x => decide (v < x)) = [] := by
  rw [List.filter_eq_nil_iff]
  intro x hx
  have := h x hx
  simp; omega
theorem filter_step : ∀ {D : List Int} (v : Int), D.Pairwise (· ≥ ·) → (D.filter fun x => decide (v < x)) = (D.filter fun x => decide (v + 1 < x)) ++ List.replicate (D.count (v + 1)) (v + 1)
  | [], _, _ => rfl
  | x :: r, v, h => by
    rw [List.pairwise_cons] at h
    have ih := filter_step v h.2
    by_cases c1 : v + 1 < x
    · rw [List.filter_cons_of_pos (by simp; omega), List.filter_cons_of_pos (by simp; omega), List.count_cons_of_ne (by omega), ih]
      rfl
    · have c3 : (r.filter fun x => decide (v + 1 < x)) = [] := filter_none fun y hy => by have := h.1 y hy; omega
      rw [List.filter_cons_of_neg (a := x) (p := fun x => decide (v + 1 < x)) (by simp; omega), c3]
      rw [c3] at ih
      by_cases c2 : x = v + 1
      · subst c2
        rw [List.filter_cons_of_pos (p := fun x => decide (v < x)) (decide_eq_true (show v < v + 1 by omega)), List.count_cons_self, ih, List.replicate_succ]
        rfl
      · rw [List.filter_cons_of_neg (by simp; omega), List.count_cons_of_ne (by omega), ih]
theorem above_step (ls : List Int) (v : Int) : above ls v = above ls (v + 1) ++ List.replicate (ls.count (v + 1)) (v + 1) := by
  unfold above; rw [filter_step v (desc_pair ls), desc_count]
theorem above_top {ls : List Int} {v : Int} (h : ∀ x ∈ ls, x ≤ v) : above ls v = [] := filter_none fun x hx => h x (desc_mem.mp hx)
theorem above_all {ls : List Int} (h : ∀ x ∈ ls, 1 ≤ x) : above ls 0 = desc ls := by
  unfold above
  rw [List.filter_eq_self]
  intro x hx
  have := h x (desc_mem.mp hx)
  simp; omega
theorem above_le (ls : List Int) (v : Int) : (above ls v).length ≤ ls.length := by
  rw [← desc_len ls]; exact List.length_filter_le _ _
theorem at_last {xs ys : List V} {v : V} (h : xs = ys ++ [v]) : atI xs (-1) = some v := by
  rw [h]
  unfold atI ixN
  rw [if_neg (by omega), List.length_append, List.length_singleton]
  rw [if_pos (by push_cast; omega)]
  show (ys ++ [v])[_]? = _
  rw [show (-1 + ((ys.length + 1 : Nat) : Int)).toNat = ys.length by omega]
  simp
theorem desc_nil : desc [] = [] := by
  have := desc_perm []
  exact List.perm_nil.mp this
end HS
namespace HS
open PySem PySem.Spec PyProof.Rows L2
/-- sorted(b)[::-1] -/
def revQ (K : PySem.W.Frag) (Q : VK) : VK := fun x H1 => ∃ a xs, x = .ref a ∧ SqL K H1 a xs ∧ ∀ p, H1 p = none → Q (.ref p) (upd H1 p (.lst xs.reverse))
def srvQ (K : PySem.W.Frag) (Q : VK) : List V → Hp → Prop := fun vs H1 => ∃ b ls, vs = [.ref b] ∧ SqL K H1 b (ls.map V.int) ∧ ∀ H' p, Keep (fun _ => False) H1 H' → H1 p = none → H' p = some (.lst ((desc ls).map V.int)) → Q (.ref p) H'
def tSrv (K : PySem.W.Frag) (tl : TA) : TE := fun σ H Q => tl σ H (srvQ K Q)
theorem pe_srv (K : PySem.W.Frag) {X : Cx} {E C : Expr} {tl : TA} (h : ∀ r, CallR X (.builtin "sorted") r → PE X C (tCB r tl)) (rev : ∀ te, PE X C te → PE X E (tRevL X.K te)) (hK : X.K = K := by rfl) : PE X E (tSrv K tl) := by
  subst hK
  refine ⟨fun pins s σ H Q I hq => ?_⟩
  refine (rev _ (h (fun vs H1 Q' => srvQ X.K Q vs H1 ∧ Q' = revQ X.K Q) ?_)).run pins s σ H Q I ?_
  · intro pins s σ H xs us Q' I r h2
    obtain ⟨⟨b, ls, e, hs, k⟩, rfl⟩ := h2
    refine cr_sortedI pins s σ H xs us _ I r ⟨b, ls, e, hs, fun us p hperm hpair hp => ⟨_, _, rfl, HS.sq upd_same, fun q hq => ?_⟩⟩
    have K1 : Keep (fun _ => False) H (upd H p (.lst (us.map V.int))) := Keep.new hp
    rw [← List.map_reverse, desc_rev hperm hpair]
    exact k _ q (K1.nw hq) (K1.free hq id) upd_same
  · show tl σ H fun vs H1 => srvQ X.K Q vs H1 ∧ revQ X.K Q = revQ X.K Q
    have e : (fun vs H1 => srvQ X.K Q vs H1 ∧ revQ X.K Q = revQ X.K Q) = srvQ X.K Q := by
      funext vs H1
      exact propext ⟨fun z => z.1, fun z => ⟨z, rfl⟩⟩
    rw [e]
    exact hq
theorem srv {K : PySem.W.Frag} {tl : TA} {σ : L2.St} {H : Hp} {Q : VK} (h : tl σ H fun vs H1 => ∃ b ls, vs = [.ref b] ∧ SqL K H1 b (ls.map V.int) ∧ ∀ H' p, Keep (fun _ => False) H1 H' → H1 p = none → H' p = some (.lst ((desc ls).map V.int)) → Q (.ref p) H') : tSrv K tl σ H Q := h
end HS
namespace HS
open PySem PySem.Spec PyProof.Rows L2
/-- in ascending order -/
def asc (ls : List Int) : List Int := (desc ls).reverse
theorem asc_perm (ls : List Int) : (asc ls).Perm ls := (List.reverse_perm _).trans (desc_perm ls)
theorem asc_of {xs ys : List Int} (p : xs.Perm ys) (h : xs.Pairwise (· ≤ ·)) : xs = asc ys := by
  unfold asc; rw [← desc_rev p h, List.reverse_reverse]
theorem asc_pair (ls : List Int) : (asc ls).Pairwise (· ≤ ·) := by
  unfold asc
  rw [List.pairwise_reverse]
  exact desc_pair ls
theorem asc_len (ls : List Int) : (asc ls).length = ls.length := (asc_perm ls).length_eq
theorem asc_mem {ls : List Int} {x : Int} : x ∈ asc ls ↔ x ∈ ls := (asc_perm ls).mem_iff
theorem asc_inj {xs ys : List Int} : asc xs = asc ys ↔ desc xs = desc ys := List.reverse_inj
def rAsc (K : PySem.W.Frag) : List V → Hp → VK → Prop := fun vs H Q => ∃ b ls, vs = [.ref b] ∧ SqL K H b (ls.map V.int) ∧ ∀ H' p, Keep (fun _ => False) H H' → H p = none → H' p = some (.lst ((asc ls).map V.int)) → Q (.ref p) H'
def rDesc (K : PySem.W.Frag) : List V → List V → Hp → VK → Prop := fun vs zs H Q => ∃ b ls, vs = [.ref b] ∧ zs = [.bl true] ∧ SqL K H b (ls.map V.int) ∧ ∀ H' p, Keep (fun _ => False) H H' → H p = none → H' p = some (.lst ((desc ls).map V.int)) → Q (.ref p) H'
section
variable {X : Cx} (K : PySem.W.Frag)
theorem ksort (h : X.K = K := by rfl) : CallR X (.builtin "sorted") (rAsc K) := by
  subst h
  intro pins s σ H xs us Q I r ⟨b, ls, e, hs, k⟩
  exact cr_sortedI pins s σ H xs us Q I r ⟨b, ls, e, hs, fun us p hperm hpair hp => k _ p (Keep.new hp) hp (by rw [upd_same, asc_of hperm hpair])⟩
theorem ksortR (h : X.K = K := by rfl) : CallRK X (.builtin "sorted") [Str.ofString "reverse"] (rDesc K) := by
  subst h
  intro pins s σ H xs zs us ws Q I r rz ⟨b, ls, e, ez, hs, k⟩
  exact cr_sortedRev (b := true) pins s σ H xs zs us ws Q I r rz ⟨b, ls, e, ez, hs, fun us p hperm hpair hp => k _ p (Keep.new hp) hp (by rw [upd_same, desc_of hperm hpair])⟩
theorem kiz {tg l : Expr} {tl : TA} (p : PI X tg l (iZip X.K tl)) (h : X.K = K := by rfl) : PI X tg l (iZip K tl) := h ▸ p
theorem kcnt (h : X.K = K := by rfl) : MtR X "list.count" (rCntI K) := h ▸ mt_lcount
theorem korT {E : Expr} {ta tb : TE} (p : PE X E (tOrT X.K ta tb)) (h : X.K = K := by rfl) : PE X E (tOrT K ta tb) := h ▸ p
end
section
variable {σ : L2.St} {H : Hp} {Q : VK} {K : PySem.W.Frag}
theorem ckw {r : List V → List V → Hp → VK → Prop} {t tk : TA} (h : t σ H fun vs H1 => tk σ H1 fun zs H2 => r vs zs H2 Q) : tCKw r t tk σ H Q := h
theorem izip {tl : TA} {R : It → Hp → Prop} (h : tl σ H fun vs H1 => ∃ a b xs ys, vs = [.ref a, .ref b] ∧ SqL K H1 a xs ∧ SqL K H1 b ys ∧ R (Itz K a b) H1) : iZip K tl σ H R := h
theorem lcn {p : Addr} {ns : List Int} {k : Int} (h : SqL K H p (ns.map V.int)) (q : Q (.int (ns.count k : Nat)) H) : rCntI K (.ref p) [.int k] H Q := ⟨p, ns, k, rfl, rfl, h, q⟩
theorem orT {ta tb : TE} (h : ta σ H fun x H1 => ∃ k, TruV K x H1 k ∧ if k = true then Q x H1 else tb σ H1 Q) : tOrT K ta tb σ H Q := h
end
end HS
/-! Powers of great numbers, [x] * n. -/
namespace HS
open PySem PySem.Spec PyProof.Rows L2
def CPowW (i j : Int) : Prop := 0 ≤ j ∧ (Builtin.Int.intBits i : Int) * j ≤ 2 ^ 27
section
variable {X : Cx} {σ : L2.St} {H : Hp} {Q : VK}
theorem op_powW : OpR X (binaryOp .Pow) (rI CPowW fun i j => .int (i ^ j.toNat)) := opI fun _ _ _ _ _ _ _ hc q => pow_int hc.1 hc.2 q
theorem bits_le {i : Int} (k : Nat) (h0 : 0 ≤ i) (h : i < 2 ^ k) : Builtin.Int.intBits i ≤ k := by
  unfold Builtin.Int.intBits
  by_cases z : i = 0
  · subst z; exact Nat.zero_le _
  · rw [if_neg (by simpa using z)]
    have z' : i.natAbs ≠ 0 := by omega
    have : i.natAbs.log2 < k := (Nat.log2_lt z').mpr (by
      have : ((i.natAbs : Nat) : Int) < ((2 ^ k : Nat) : Int) := by rw [Int.natAbs_of_nonneg h0]; simpa using h
      exact Int.ofNat_lt.mp this)
    omega
theorem powW {i : Int} (k : Nat) {j : Int} (h0 : 0 ≤ i) (h : i < 2 ^ k) (hj : 0 ≤ j) (hk : (k : Int) * j ≤ 2 ^ 27) : CPowW i j := by
  refine ⟨hj, Int.le_trans (Int.mul_le_mul_of_nonneg_right ?_ hj) hk⟩
  exact Int.ofNat_le.mpr (bits_le k h0 h)
theorem flat_one {v : V} : ∀ n : Nat, (List.replicate n [v]).flatten = List.replicate n v
  | 0 => rfl
  | n + 1 => by rw [List.replicate_succ, List.flatten_cons, flat_one n]; rfl
theorem rep1 {p : Addr} {v : V} {k : Int} (h : H p = some (.lst [v])) (hk : k ≤ 1000000) (h0 : 0 ≤ k) (q : ∀ p, H p = none → Q (.ref p) (upd H p (.lst (List.replicate k.toNat v)))) : rRep (.ref p) (.int k) H Q := by
  refine ⟨p, k, _, rfl, rfl, h, by omega, by omega, ?_, fun p hp => ?_⟩
  · rw [List.length_singleton, sizeLine_eq]; omega
  · rw [flat_one]; exact q p hp
end
end HS
/-! repr of lists of ints, and == of texts. -/
namespace HS
open PySem PySem.Spec PyProof.Rows L2
section
variable {H : Hp} {Q : VK} {K : PySem.W.Frag}
theorem rep {a : Addr} {d : PyData} (h : Dp K H (.ref a) d) (t : tame d = true) (hd : d.depth ≤ 60) (hb : d.bulk ≤ 60000) (q : Q (.str d.shown) H) : rRepr K [.ref a] H Q := ⟨a, d, rfl, h, t, hd, hb, q⟩
theorem eqSS {x : Str} (q : Q (.bl true) H) : rEq (.str x) (.str x) H Q := ⟨rfl, by rw [decide_eq_true rfl]; exact q⟩
theorem neSS {x : Str} (q : Q (.bl false) H) : rNe (.str x) (.str x) H Q := ⟨rfl, by rw [decide_eq_true rfl]; exact q⟩
/-- ints that are shown -/
def Tm (ns : List Int) : Prop := (∀ x ∈ ns, x.natAbs < 2 ^ 200) ∧ ns.length ≤ 5000
theorem tame_ints : ∀ ns : List Int, (∀ x ∈ ns, x.natAbs < 2 ^ 200) → tameAll (ns.map .int) = true
  | [], _ => rfl
  | n :: r, h => by
    rw [List.map_cons, tameAll, tame_ints r fun x hx => h x (List.mem_cons_of_mem _ hx)]
    simp only [tame, Bool.and_true]
    exact decide_eq_true (h n List.mem_cons_self)
theorem bulk_ints : ∀ ns : List Int, PyData.bulkAll (ns.map .int) = ns.length
  | [] => rfl
  | n :: r => by rw [List.map_cons, PyData.bulkAll, bulk_ints r, PyData.bulk, List.length_cons]; omega
theorem tm_tame {ns : List Int} (h : Tm ns) : tame (dInts ns) = true := by unfold dInts; rw [tame]; exact tame_ints ns h.1
theorem tm_bulk {ns : List Int} (h : Tm ns) : (dInts ns).bulk ≤ 5000 := by unfold dInts; rw [PyData.bulk, bulk_ints]; exact h.2
theorem dInts_depth (ns : List Int) : (dInts ns).depth = 1 := by unfold dInts; rw [PyData.depth, dep_ints]
/-- repr of a list of ints -/
theorem repI {a : Addr} {ns : List Int} (h : SqL K H a (ns.map V.int)) (t : Tm ns) (q : Q (.str (dInts ns).shown) H) : rRepr K [.ref a] H Q :=
  rep (dp_ints h) (tm_tame t) (by rw [dInts_depth]; decide) (Nat.le_trans (tm_bulk t) (by decide)) q
/-- repr of a list of two lists of ints -/
def dII (xs ys : List Int) : PyData := .list [dInts xs, dInts ys]
theorem repII {a p r : Addr} {xs ys : List Int} (h : SqL K H a [.ref p, .ref r]) (h1 : SqL K H p (xs.map V.int)) (h2 : SqL K H r (ys.map V.int)) (t1 : Tm xs) (t2 : Tm ys) (q : Q (.str (dII xs ys).shown) H) : rRepr K [.ref a] H Q := by
  refine rep (.lst h (.cons (dp_ints h1) (.cons (dp_ints h2) .nil))) ?_ ?_ ?_ q
  · rw [tame, tameAll, tameAll, tameAll, tm_tame t1, tm_tame t2]; rfl
  · rw [PyData.depth, PyData.depthAll, PyData.depthAll, PyData.depthAll, dInts_depth, dInts_depth]; decide
  · have := tm_bulk t1
    have := tm_bulk t2
    rw [PyData.bulk, PyData.bulkAll, PyData.bulkAll, PyData.bulkAll]; omega
theorem tm_of {ns : List Int} {B : Int} (hB : B < 2 ^ 200) (h : ∀ x ∈ ns, 0 ≤ x ∧ x ≤ B) (hl : ns.length ≤ 5000) : Tm ns := ⟨fun x hx => by have := h x hx; omega, hl⟩
end
end HS
namespace WK10
open PySem PySem.Spec PyProof.Rows L2
local macro_rules | `(tactic| walk_at "ne") => `(tactic| first | assumption | (apply Ne.symm; assumption) | exact ne_of_none (by assumption) (by assumption) | exact (ne_of_none (by assumption) (by assumption)).symm | exact ne_of_none upd_same (by assumption) | exact (ne_of_none upd_same (by assumption)).symm)
local macro_rules | `(tactic| walk_at "hp") => `(tactic| first | assumption | exact upd_same | (rw [upd_ne (by walk_at "ne")]; walk_at "hp"))
local macro_rules | `(tactic| walk_at "side") => `(tactic| first | omega | decide | assumption | exact ⟨by decide, by decide⟩ | exact ⟨by omega, by omega⟩ | exact .inl (by omega) | exact .inr (by omega) | exact .inl (by decide) | exact .inr (by decide) | exact ⟨by decide, by decide, by decide⟩ | exact ⟨by decide, by decide, by omega⟩ | exact .inl ⟨by omega, by omega⟩ | exact .inr ⟨by omega, by omega⟩ | exact .inr ⟨by decide, by decide⟩ | exact .inl ⟨by decide, by decide⟩ | (show _ < _; omega))
local macro_rules | `(tactic| walk_at "len") => `(tactic| ((try simp only [List.length_map, List.length_append, List.length_cons, List.length_nil, List.length_set, List.length_replicate]); omega))
local macro_rules | `(tactic| walk_at "sq") => `(tactic| first | assumption | exact HS.sq (by walk_at "hp"))
local macro_rules | `(tactic| walk_at "st") => `(tactic| first | assumption | exact HS.st (by walk_at "hp"))
local macro_rules | `(tactic| walk_at "h1") => `(tactic| first
  | with_reducible refine HS.seq ?_
  | with_reducible refine HS.asg ?_
  | with_reducible refine HS.nm ?_
  | with_reducible refine HS.var rfl ?_
  | with_reducible refine HS.cst ?_
  | with_reducible refine HS.op ?_
  | with_reducible refine HS.i0 ?_
  | ((with_reducible refine HS.i1 ?_); first | refine ⟨by walk_at "side", ?_⟩ | skip)
  | with_reducible refine HS.u0 ?_
  | with_reducible refine HS.un ?_
  | with_reducible refine HS.eqI ?_
  | with_reducible refine HS.neI ?_
  | with_reducible refine HS.tst ?_
  | with_reducible refine HS.tb1 ?_
  | with_reducible refine HS.bex ?_
  | with_reducible refine HS.ifs ?_
  | with_reducible refine HS.ife ?_
  | with_reducible refine HS.and ?_
  | with_reducible refine HS.or ?_
  | with_reducible refine HS.not ?_
  | with_reducible refine HS.andV ?_
  | with_reducible refine HS.orV ?_
  | with_reducible refine HS.notV ?_
  | with_reducible refine HS.chn ?_
  | with_reducible refine HS.ret ?_
  | with_reducible refine HS.retN ?_
  | with_reducible refine HS.drp ?_
  | with_reducible refine HS.cb ?_
  | with_reducible refine HS.anil ?_
  | with_reducible refine HS.acons ?_
  | with_reducible refine HS.cal ?_
  | with_reducible refine HS.tup ?_
  | with_reducible refine HS.lst ?_
  | with_reducible refine HS.par ?_
  | with_reducible refine HS.ex2 ?_
  | with_reducible refine HS.aug rfl ?_
  | with_reducible refine HS.ipi ?_
  | with_reducible refine HS.addI ?_
  | with_reducible refine HS.nxt ?_
  | with_reducible refine HS.brk ?_
  | with_reducible refine HS.cnt ?_
  | with_reducible refine HS.sub ?_
  | with_reducible refine HS.pnx ?_
  | with_reducible refine HS.prt ?_
  | with_reducible refine HS.pbk ?_
  | with_reducible refine HS.pct ?_
  | with_reducible refine iteF ?_
  | with_reducible refine iteT ?_
  | with_reducible refine HS.ii ?_
  | with_reducible refine HS.bmL ?_
  | with_reducible refine HS.bmL0 ?_
  | ((with_reducible refine' HS.tyL ?e ?_); case e => walk_at "hp")
  | ((with_reducible refine' HS.app ?e ?_); (case e => walk_at "hp"))
  | ((with_reducible refine' HS.setL ?e ?f ?_); (case e => walk_at "hp"); (case f => rfl))
  | ((with_reducible refine' HS.wp ?e ?_); case e => rfl)
  | ((with_reducible refine' HS.szc ?e ?_); case e => walk_at "len")
  | ((with_reducible refine' HS.szd ?e ?_); case e => walk_at "len")
  | with_reducible refine HS.yes ?_
  | with_reducible refine HS.lc ?_
  | with_reducible refine HS.rng1 ?_
  | with_reducible refine HS.rng2 ?_
  | with_reducible refine HS.rng3 ?_
  | with_reducible refine HS.lis ?_
  | with_reducible refine HS.fr ?_
  | with_reducible refine HS.i1e ?_
  | with_reducible refine HS.gthen ?_
  | with_reducible refine HS.g0 ?_
  | with_reducible refine HS.gfr ?_
  | with_reducible refine HS.gpl ?_
  | with_reducible refine HS.gyl ?_
  | with_reducible refine HS.lgn ?_
  | with_reducible refine HS.calg ?_
  | with_reducible refine HS.revL ?_
  | with_reducible refine HS.sl ?_
  | with_reducible refine HS.noP ?_
  | with_reducible refine HS.part ?_
  | with_reducible refine HS.ie ?_
  | ((with_reducible refine' HS.slLs ?e ?_); case e => walk_at "sq")
  | ((with_reducible refine' HS.gtup ?e ?f ?_); (case e => walk_at "st"); (case f => rfl))
  | with_reducible refine HS.gcons ?_
  | with_reducible refine HS.gnil ?_
  | with_reducible refine HS.itup ?_
  | with_reducible refine HS.ienu ?_
  | ((with_reducible refine' HS.cat ?e ?f ?_); (case e => walk_at "hp"); (case f => walk_at "hp"))
  | ((with_reducible refine' HS.ext ?e ?f ?_); (case e => walk_at "hp"); (case f => walk_at "hp"))
  | ((with_reducible refine' HS.sumL ?e ?_); case e => walk_at "sq")
  | ((with_reducible refine' HS.lenL ?e ?_); case e => walk_at "sq")
  | ((with_reducible refine' HS.lenT ?e ?_); case e => walk_at "st")
  | with_reducible refine HS.ra ?_
  | ((with_reducible refine' HS.ixL ?e ?f ?_); (case e => walk_at "sq"); (case f => rfl))
  | ((with_reducible refine' HS.ixT ?e ?f ?_); (case e => walk_at "st"); (case f => rfl)))
local macro_rules | `(tactic| walk_at "hs") => `(tactic| repeat' (walk_at "h1"))
local macro_rules | `(tactic| walk_at "fold") => `(tactic| (walk_at "hs"; assumption))
local macro_rules | `(tactic| walk_at "ns") => `(tactic| first | exact (fun z => z) | assumption | exact HS.nS2 (by walk_at "ne") (by walk_at "ne") | exact HS.nS3 (by walk_at "ne") (by walk_at "ne") (by walk_at "ne"))
local macro_rules | `(tactic| walk_at "kp") => `(tactic| first
  | assumption
  | exact HS.Keep.refl
  | (refine HS.Keep.at ?_ (by first | exact .inl rfl | exact .inr rfl | exact .inr (.inl rfl) | exact .inr (.inr rfl)); walk_at "kp")
  | (refine HS.Keep.put ?_ (by assumption); walk_at "kp")
  | (refine HS.Keep.new' (by assumption) (by first | assumption | exact HS.Keep.refl) (by walk_at "ns") ?_; walk_at "kp"))
local macro_rules | `(tactic| walk_at "h1") => `(tactic| first
  | with_reducible refine HS.caln ?_
  | with_reducible refine HS.ckw ?_
  | with_reducible refine HS.izip ?_
  | with_reducible refine HS.orT ?_
  | with_reducible refine HS.srv ?_
  | with_reducible refine HS.nt ?_
  | with_reducible refine HS.nf ?_
  | ((with_reducible refine' HS.lnn ?e ?f ?_); (case e => rfl); (case f => rfl)))
local macro_rules | `(tactic| walk_at "kp") => `(tactic| (refine HS.Keep.at ?_ rfl; walk_at "kp"))
def topS (i : Nat) : Stmt := PySem.Challenge.pw_pagecounts_k10_lengths_read_from_tables.main.body.getD i (.Pass ⟨0, 0, 0, 0⟩)
abbrev s__law_rng : Stmt := topS 8
abbrev N__law_rng : List Str := ["script", "digits", "seed", "cell", "size"]
theorem sc__law_rng : FnScope N__law_rng ["script"] (defScope s__law_rng) := ⟨rfl, rfl, rfl, by decide +kernel, rfl, by decide +kernel, by decide +kernel⟩
abbrev s__law_draw : Stmt := topS 9
abbrev N__law_draw : List Str := ["rng", "limit", "found", "mixed"]
theorem sc__law_draw : FnScope N__law_draw ["rng", "limit"] (defScope s__law_draw) := ⟨rfl, rfl, rfl, by decide +kernel, rfl, by decide +kernel, by decide +kernel⟩
abbrev s__law_counted : Stmt := topS 10
abbrev N__law_counted : List Str := ["some", "wide", "one"]
theorem sc__law_counted : FnScope N__law_counted ["some", "wide"] (defScope s__law_counted) := ⟨rfl, rfl, rfl, by decide +kernel, rfl, by decide +kernel, by decide +kernel⟩
abbrev s__law_some : Stmt := topS 11
abbrev N__law_some : List Str := ["rng", "most", "longest", "kind", "found", "turn", "near", "one"]
theorem sc__law_some : FnScope N__law_some ["rng", "most", "longest"] (defScope s__law_some) := ⟨rfl, rfl, rfl, by decide +kernel, rfl, by decide +kernel, by decide +kernel⟩
abbrev s_count_pages : Stmt := topS 4
abbrev N_count_pages : List Str := ["book", "size", "length"]
theorem sc_count_pages : FnScope N_count_pages ["book", "size"] (defScope s_count_pages) := ⟨rfl, rfl, rfl, by decide +kernel, rfl, by decide +kernel, by decide +kernel⟩
abbrev s_lengths_of : Stmt := topS 6
abbrev N_lengths_of : List Str := ["table", "chapters", "lengths", "size", "others", "found"]
theorem sc_lengths_of : FnScope N_lengths_of ["table"] (defScope s_lengths_of) := ⟨rfl, rfl, rfl, by decide +kernel, rfl, by decide +kernel, by decide +kernel⟩
abbrev s__law_right : Stmt := topS 12
abbrev N__law_right : List Str := ["some", "top", "rows", "kept", "due", "told", "wide"]
theorem sc__law_right : FnScope N__law_right ["some", "top"] (defScope s__law_right) := ⟨rfl, rfl, rfl, by decide +kernel, rfl, by decide +kernel, by decide +kernel⟩
abbrev s_law : Stmt := topS 13
abbrev N_law : List Str := ["script", "rng", "lap", "top", "some", "rows", "first", "spot", "wide"]
theorem sc_law : FnScope N_law ["script"] (defScope s_law) := ⟨rfl, rfl, rfl, by decide +kernel, rfl, by decide +kernel, by decide +kernel⟩
structure Ad where
  a__law_rng : Addr
  d__law_rng : FuncData
  a__law_draw : Addr
  d__law_draw : FuncData
  a__law_counted : Addr
  d__law_counted : FuncData
  a__law_some : Addr
  d__law_some : FuncData
  a_count_pages : Addr
  d_count_pages : FuncData
  a_lengths_of : Addr
  d_lengths_of : FuncData
  a__law_right : Addr
  d__law_right : FuncData
  a_law : Addr
  d_law : FuncData
structure Txt (K : PySem.W.Frag) (mg : Str → Option Value) (A : Ad) : Prop where
  F__law_rng : Fun K "_law_rng" "_law_rng" s__law_rng A.a__law_rng A.d__law_rng
  g__law_rng : mg "_law_rng" = some (.ref A.a__law_rng)
  b__law_rng : Binds K A.d__law_rng ["script"] []
  F__law_draw : Fun K "_law_draw" "_law_draw" s__law_draw A.a__law_draw A.d__law_draw
  g__law_draw : mg "_law_draw" = some (.ref A.a__law_draw)
  b__law_draw : Binds K A.d__law_draw ["rng", "limit"] []
  F__law_counted : Fun K "_law_counted" "_law_counted" s__law_counted A.a__law_counted A.d__law_counted
  g__law_counted : mg "_law_counted" = some (.ref A.a__law_counted)
  b__law_counted : Binds K A.d__law_counted ["some", "wide"] []
  F__law_some : Fun K "_law_some" "_law_some" s__law_some A.a__law_some A.d__law_some
  g__law_some : mg "_law_some" = some (.ref A.a__law_some)
  b__law_some : Binds K A.d__law_some ["rng", "most", "longest"] []
  F_count_pages : Fun K "count_pages" "count_pages" s_count_pages A.a_count_pages A.d_count_pages
  g_count_pages : mg "count_pages" = some (.ref A.a_count_pages)
  b_count_pages : Binds K A.d_count_pages ["book", "size"] []
  F_lengths_of : Fun K "lengths_of" "lengths_of" s_lengths_of A.a_lengths_of A.d_lengths_of
  g_lengths_of : mg "lengths_of" = some (.ref A.a_lengths_of)
  b_lengths_of : Binds K A.d_lengths_of ["table"] []
  F__law_right : Fun K "_law_right" "_law_right" s__law_right A.a__law_right A.d__law_right
  g__law_right : mg "_law_right" = some (.ref A.a__law_right)
  b__law_right : Binds K A.d__law_right ["some", "top"] []
  F_law : Fun K "law" "law" s_law A.a_law A.d_law
  g_law : mg "law" = some (.ref A.a_law)
  b_law : Binds K A.d_law ["script"] []
  z_abs : mg "abs" = none
  z_len : mg "len" = none
  z_max : mg "max" = none
  z_min : mg "min" = none
  z_range : mg "range" = none
  z_repr : mg "repr" = none
  z_sorted : mg "sorted" = none
  z_sum : mg "sum" = none
  kb_lengths_of_0_table : HS.KBX K A.d_lengths_of ["table"] 0 ["table"] (fun us ws => [ws.getD 0 .none]) (fun vs zs => [zs.getD 0 .non])
/-- the source of draws at s, its digits at d; n: at most so many mixed draws so far -/
def Src (H : Hp) (s d : Addr) (n : Nat) : Prop := s ≠ d ∧ ∃ (gs : List Int) (l m c : Int), H s = some (.lst [.ref d, .int l, .int m, .int c]) ∧ H d = some (.lst (gs.map V.int)) ∧ (∀ x ∈ gs, 0 ≤ x) ∧ gs.length ≤ 63 ∧ 0 ≤ l ∧ 0 ≤ m ∧ m < 2 ^ 61 ∧ 0 ≤ c ∧ c ≤ n
/-- lengths of chapters -/
def Book (ls : List Int) : Prop := ∀ x ∈ ls, 1 ≤ x ∧ x < 10 ^ 30
theorem Src.keep {H H' : Hp} {s d : Addr} {n : Nat} (h : Src H s d n) (e1 : H' s = H s) (e2 : H' d = H d) : Src H' s d n := by
  obtain ⟨hsd, gs, l, m, c, h1, h2, h3⟩ := h
  exact ⟨hsd, gs, l, m, c, by rw [e1]; exact h1, by rw [e2]; exact h2, h3⟩
theorem Src.new {H : Hp} {s d p : Addr} {n : Nat} {o : HO} (h : Src H s d n) (hp : H p = none) : Src (upd H p o) s d n := by
  obtain ⟨hsd, gs, l, m, c, h1, h2, h3⟩ := h
  exact ⟨hsd, gs, l, m, c, by rw [upd_ne (ne_of_none h1 hp)]; exact h1, by rw [upd_ne (ne_of_none h2 hp)]; exact h2, h3⟩
theorem Src.put {H : Hp} {s d p : Addr} {n : Nat} {o : HO} (h : Src H s d n) (e1 : p ≠ s) (e2 : p ≠ d) : Src (upd H p o) s d n := by
  obtain ⟨hsd, gs, l, m, c, h1, h2, h3⟩ := h
  exact ⟨hsd, gs, l, m, c, by rw [upd_ne e1.symm]; exact h1, by rw [upd_ne e2.symm]; exact h2, h3⟩
theorem Src.ne1 {H : Hp} {s d p : Addr} {n : Nat} (h : Src H s d n) (hp : H p = none) : p ≠ s := by
  obtain ⟨hsd, gs, l, m, c, h1, h2, h3⟩ := h
  exact (ne_of_none h1 hp).symm
theorem Src.ne2 {H : Hp} {s d p : Addr} {n : Nat} (h : Src H s d n) (hp : H p = none) : p ≠ d := by
  obtain ⟨hsd, gs, l, m, c, h1, h2, h3⟩ := h
  exact (ne_of_none h2 hp).symm
theorem Src.up {H : Hp} {s d : Addr} {n m : Nat} (h : Src H s d n) (e : n ≤ m) : Src H s d m := by
  obtain ⟨hsd, gs, l, m', c, h1, h2, h3, h4, h5, h6, h7, h8, h9⟩ := h
  exact ⟨hsd, gs, l, m', c, h1, h2, h3, h4, h5, h6, h7, h8, by omega⟩
/-- the page count of an edition -/
def pcount (ls : List Int) (j : Int) : Int := (ls.map fun x => (x + j - 1) / j).sum
theorem pcount_nil (j : Int) : pcount [] j = 0 := rfl
theorem pcount_cons (x : Int) (ls : List Int) (j : Int) : pcount (x :: ls) j = (x + j - 1) / j + pcount ls j := by unfold pcount; rw [List.map_cons, List.sum_cons]
theorem pcount_append (xs ys : List Int) (j : Int) : pcount (xs ++ ys) j = pcount xs j + pcount ys j := by unfold pcount; rw [List.map_append, List.sum_append]
/-- a page for each chapter, and one more for each full page of its other lines -/
theorem pcount_less1 {j : Int} (hj : 1 ≤ j) : ∀ ls : List Int, (ls.length : Int) + (ls.map fun x => (x - 1) / j).sum = pcount ls j
  | [] => rfl
  | x :: r => by
    have e : (x + j - 1) / j = (x - 1) / j + 1 := by rw [show x + j - 1 = (x - 1) + j * 1 by omega, Int.add_mul_ediv_left _ _ (by omega)]
    rw [pcount_cons, ← pcount_less1 hj r, e, List.length_cons, List.map_cons, List.sum_cons]
    push_cast
    omega
theorem pcount_take {ls : List Int} {i : Nat} {x : Int} (j : Int) (h : ls[i]? = some x) : pcount (ls.take (i + 1)) j = pcount (ls.take i) j + (x + j - 1) / j := by
  obtain ⟨h1, h2⟩ := List.getElem?_eq_some_iff.mp h
  rw [List.take_add_one, h, pcount_append]
  show _ + pcount [x] j = _
  rw [pcount_cons, pcount_nil]; omega
theorem ceil_pos {x j : Int} (hx : 1 ≤ x) (hj : 1 ≤ j) : 1 ≤ (x + j - 1) / j := by
  rw [Int.le_ediv_iff_mul_le (by omega)]; omega
theorem pcount_len {ls : List Int} {j : Int} (hp : ∀ x ∈ ls, 1 ≤ x) (hj : 1 ≤ j) : (ls.length : Int) ≤ pcount ls j := by
  induction ls with
  | nil => exact Int.le_refl 0
  | cons x r ih =>
    rw [pcount_cons, List.length_cons]
    have := ceil_pos (hp x List.mem_cons_self) hj
    have := ih fun y hy => hp y (List.mem_cons_of_mem _ hy)
    omega
theorem pcount_pos {ls : List Int} {j : Int} (hp : ∀ x ∈ ls, 1 ≤ x) (hj : 1 ≤ j) : 0 ≤ pcount ls j := by
  have := pcount_len hp hj; omega
theorem take_all {ls : List Int} {P : Int → Prop} (h : ∀ x ∈ ls, P x) (n : Nat) : ∀ x ∈ ls.take n, P x := fun x hx => h x (List.mem_of_mem_take hx)
theorem Src.same {H H' : Hp} {s d : Addr} {n : Nat} (h : Src H s d n) (k : HS.Keep (fun _ => False) H H') : Src H' s d n := by
  obtain ⟨hsd, gs, l, m, c, h1, h2, h3⟩ := h
  exact ⟨hsd, gs, l, m, c, k _ _ h1 id, k _ _ h2 id, h3⟩
theorem sum_book {ls : List Int} (h : Book ls) : (ls.length : Int) ≤ ls.sum ∧ ls.sum ≤ ls.length * (10 ^ 30) := by
  induction ls with
  | nil => exact ⟨Int.le_refl _, Int.le_refl _⟩
  | cons x r ih =>
    have := ih fun y hy => h y (List.mem_cons_of_mem _ hy)
    have := h x List.mem_cons_self
    rw [List.sum_cons, List.length_cons]
    push_cast
    omega
/-! Sums of ceilings. -/
theorem ceil_le {x j q : Int} (hj : 1 ≤ j) : (x + j - 1) / j ≤ q ↔ x ≤ q * j := by
  rw [← Int.lt_add_one_iff, Int.ediv_lt_iff_lt_mul (by omega), Int.add_mul]
  omega
theorem ceil_up {x j : Int} (hj : 1 ≤ j) : x ≤ (x + j - 1) / j * j := (ceil_le hj).mp (Int.le_refl _)
theorem ceil_dn {x j : Int} (hj : 1 ≤ j) : (x + j - 1) / j * j ≤ x + j - 1 := Int.ediv_mul_le _ (by omega)
theorem ceil_nonneg {x j : Int} (hx : 0 ≤ x) (hj : 1 ≤ j) : 0 ≤ (x + j - 1) / j := Int.ediv_nonneg (by omega) (by omega)
theorem pcount_up (ls : List Int) {j : Int} (hj : 1 ≤ j) : ls.sum ≤ pcount ls j * j := by
  induction ls with
  | nil => rw [pcount_nil]; simp
  | cons x r ih =>
    rw [pcount_cons, List.sum_cons, Int.add_mul]
    have := ceil_up (x := x) hj
    omega
theorem pcount_ceil (ls : List Int) {j : Int} (hj : 1 ≤ j) : (ls.sum + j - 1) / j ≤ pcount ls j := (ceil_le hj).mpr (pcount_up ls hj)
theorem pcount_dn (ls : List Int) {j : Int} (hj : 1 ≤ j) : (pcount ls j - ls.length) * j ≤ ls.sum - ls.length := by
  induction ls with
  | nil => rw [pcount_nil]; simp
  | cons x r ih =>
    rw [pcount_cons, List.sum_cons, List.length_cons]
    have := ceil_dn (x := x) hj
    have e : ((x + j - 1) / j + pcount r j - ((r.length + 1 : Nat) : Int)) * j = (x + j - 1) / j * j - j + (pcount r j - r.length) * j := by
      rw [show ((x + j - 1) / j + pcount r j - ((r.length + 1 : Nat) : Int)) = ((x + j - 1) / j - 1) + (pcount r j - r.length) by push_cast; omega, Int.add_mul, Int.sub_mul, Int.one_mul]
    rw [e]
    push_cast
    omega
theorem pcount_most (ls : List Int) {j : Int} (hj : 1 ≤ j) : pcount ls j ≤ ls.length + (ls.sum - ls.length) / j := by
  have := (Int.le_ediv_iff_mul_le (by omega : 0 < j)).mpr (pcount_dn ls hj)
  omega
theorem pcount_anti {ls : List Int} {j k : Int} (hp : ∀ x ∈ ls, 1 ≤ x) (hj : 1 ≤ j) (hk : j ≤ k) : pcount ls k ≤ pcount ls j := by
  induction ls with
  | nil => exact Int.le_refl _
  | cons x r ih =>
    rw [pcount_cons, pcount_cons]
    have h1 := ih fun y hy => hp y (List.mem_cons_of_mem _ hy)
    have hx := hp x List.mem_cons_self
    have h2 : (x + k - 1) / k ≤ (x + j - 1) / j := (ceil_le (by omega)).mpr (Int.le_trans (ceil_up hj) (Int.mul_le_mul_of_nonneg_left hk (ceil_nonneg (by omega) hj)))
    omega
theorem pcount_mult {ls : List Int} {j m : Int} (hj : 1 ≤ j) (hm : 1 ≤ m) : pcount ls j ≤ m * pcount ls (j * m) := by
  have hjm : 1 ≤ j * m := by have := Int.mul_le_mul hj hm (by omega) (by omega); omega
  induction ls with
  | nil => rw [pcount_nil, pcount_nil, Int.mul_zero]; exact Int.le_refl _
  | cons x r ih =>
    rw [pcount_cons, pcount_cons, Int.mul_add]
    have h2 : (x + j - 1) / j ≤ m * ((x + j * m - 1) / (j * m)) := (ceil_le hj).mpr (by
      have := ceil_up (x := x) hjm
      rw [show m * ((x + j * m - 1) / (j * m)) * j = (x + j * m - 1) / (j * m) * (j * m) by rw [Int.mul_comm m, Int.mul_assoc, Int.mul_comm m j]]
      exact this)
    omega
theorem pcount_reverse (ls : List Int) (j : Int) : pcount ls.reverse j = pcount ls j := by
  induction ls with
  | nil => rfl
  | cons x r ih => rw [List.reverse_cons, pcount_append, ih, pcount_cons, pcount_cons, pcount_nil]; omega
theorem pcount_cut (ls : List Int) (n : Nat) (j : Int) : pcount (ls.take n) j + pcount (ls.drop n) j = pcount ls j := by
  rw [← pcount_append, List.take_append_drop]
theorem ceil_join {x y j : Int} (hj : 1 ≤ j) : (x + y + j - 1) / j ≤ (x + j - 1) / j + (y + j - 1) / j ∧ (x + j - 1) / j + (y + j - 1) / j ≤ (x + y + j - 1) / j + 1 := by
  have a1 := ceil_up (x := x) hj
  have a2 := ceil_dn (x := x) hj
  have b1 := ceil_up (x := y) hj
  have b2 := ceil_dn (x := y) hj
  have c1 := ceil_up (x := x + y) hj
  refine ⟨(ceil_le hj).mpr (by rw [Int.add_mul]; omega), ?_⟩
  generalize (x + j - 1) / j = p at *
  generalize (y + j - 1) / j = q at *
  generalize (x + y + j - 1) / j = r at *
  apply Int.le_of_lt_add_one
  apply Int.lt_of_not_ge
  intro h
  have h1 : (r + 2) * j ≤ (p + q) * j := Int.mul_le_mul_of_nonneg_right (by omega) (by omega)
  rw [Int.add_mul, Int.add_mul] at h1
  omega
theorem pcount_sum {ls : List Int} {j : Int} (hp : ∀ x ∈ ls, 1 ≤ x) (hl : (ls.length : Int) ≤ ls.sum) (hj : 1 ≤ j) : pcount ls j ≤ ls.sum := by
  have := pcount_most ls hj
  have := Int.ediv_le_self j (show 0 ≤ ls.sum - ls.length by omega)
  omega
/-- the law's draws: three numbers in a list at s; n: at most so many mixed draws so far -/
def Rng (H : Hp) (s : Addr) (n : Nat) : Prop := ∃ l m c : Int, H s = some (.lst [.int l, .int m, .int c]) ∧ 0 ≤ l ∧ 0 ≤ m ∧ m < 2 ^ 61 ∧ 0 ≤ c ∧ c ≤ n
section
variable {H H' : Hp} {s p : Addr} {n m : Nat} {o : HO}
theorem Rng.keep (h : Rng H s n) (e : H' s = H s) : Rng H' s n := by
  obtain ⟨l, m, c, h1, h2⟩ := h
  exact ⟨l, m, c, by rw [e]; exact h1, h2⟩
theorem Rng.new (h : Rng H s n) (hp : H p = none) : Rng (upd H p o) s n := by
  obtain ⟨l, m, c, h1, h2⟩ := h
  exact ⟨l, m, c, by rw [upd_ne (ne_of_none h1 hp)]; exact h1, h2⟩
theorem Rng.put (h : Rng H s n) (e : p ≠ s) : Rng (upd H p o) s n := by
  obtain ⟨l, m, c, h1, h2⟩ := h
  exact ⟨l, m, c, by rw [upd_ne e.symm]; exact h1, h2⟩
theorem Rng.ne (h : Rng H s n) (hp : H p = none) : p ≠ s := by
  obtain ⟨l, m, c, h1, h2⟩ := h
  exact (ne_of_none h1 hp).symm
theorem Rng.up (h : Rng H s n) (e : n ≤ m) : Rng H s m := by
  obtain ⟨l, m', c, h1, h2, h3, h4, h5, h6⟩ := h
  exact ⟨l, m', c, h1, h2, h3, h4, h5, by omega⟩
theorem Rng.same (h : Rng H s n) (k : HS.Keep (fun _ => False) H H') : Rng H' s n := by
  obtain ⟨l, m', c, h1, h2⟩ := h
  exact ⟨l, m', c, k _ _ h1 id, h2⟩
end
/-- lengths of chapters, up to T -/
def Lens (ls : List Int) (T : Int) : Prop := ∀ x ∈ ls, 1 ≤ x ∧ x ≤ T
theorem Lens.one {ls : List Int} {T : Int} (h : Lens ls T) : ∀ x ∈ ls, 1 ≤ x := fun x hx => (h x hx).1
theorem pow_up (i : Nat) : (2 : Int) ^ (200 * (i + 1)) < 2 ^ (200 * (i + 1 + 1)) := by
  have e : (2 : Int) ^ (200 * (i + 1 + 1)) = 2 ^ (200 * (i + 1)) * 2 ^ 200 := by rw [← Int.pow_add, show 200 * (i + 1) + 200 = 200 * (i + 1 + 1) by omega]
  have z : (0 : Int) < 2 ^ (200 * (i + 1)) := Int.pow_pos (by decide)
  rw [e]
  generalize (2 : Int) ^ (200 * (i + 1)) = P at z ⊢
  omega
theorem rng_step {d s : Int} {i : Nat} (h0 : 0 ≤ d) (h : d < 2 ^ (200 * (i + 1))) (s0 : 0 ≤ s) (s1 : s < 10 ^ 60) : 0 ≤ d * 10 ^ 60 + s ∧ d * 10 ^ 60 + s < 2 ^ (200 * (i + 1 + 1)) := by
  have e : (2 : Int) ^ (200 * (i + 1 + 1)) = 2 ^ (200 * (i + 1)) * 2 ^ 200 := by rw [← Int.pow_add, show 200 * (i + 1) + 200 = 200 * (i + 1 + 1) by omega]
  rw [e]
  generalize (2 : Int) ^ (200 * (i + 1)) = P at h ⊢
  omega
/-- some chapters -/
def Ls (H : Hp) (p : Addr) (ls : List Int) : Prop := H p = some (.lst (ls.map V.int))
/-! Page counts of all sizes. -/
theorem perm_sum {xs ys : List Int} (p : xs.Perm ys) : xs.sum = ys.sum := by
  induction p with
  | nil => rfl
  | cons x _ ih => rw [List.sum_cons, List.sum_cons, ih]
  | swap x y l => simp only [List.sum_cons]; omega
  | trans _ _ a b => exact a.trans b
theorem pcount_perm {xs ys : List Int} (p : xs.Perm ys) (j : Int) : pcount xs j = pcount ys j := by
  unfold pcount
  exact perm_sum (p.map _)
/-- the page counts of the sizes 1 to T -/
def tabl (ls : List Int) (T : Nat) : List Int := (List.range T).map fun (i : Nat) => pcount ls ((i : Int) + 1)
theorem tabl_len (ls : List Int) (T : Nat) : (tabl ls T).length = T := by unfold tabl; rw [List.length_map, List.length_range]
theorem tabl_at {ls : List Int} {T i : Nat} (h : i < T) : (tabl ls T)[i]? = some (pcount ls ((i : Int) + 1)) := by
  unfold tabl; rw [List.getElem?_map, List.getElem?_range h]; rfl
theorem tabl_perm {xs ys : List Int} (p : xs.Perm ys) (T : Nat) : tabl xs T = tabl ys T := by
  unfold tabl
  exact List.map_congr_left fun i _ => pcount_perm p _
theorem tabl_take (ls : List Int) {i T : Nat} (h : i ≤ T) : (tabl ls T).take i = tabl ls i := by
  unfold tabl
  rw [← List.map_take, List.take_range, Nat.min_eq_left h]
theorem tabl_succ (ls : List Int) (T : Nat) : tabl ls (T + 1) = tabl ls T ++ [pcount ls ((T : Int) + 1)] := by
  unfold tabl; rw [List.range_succ, List.map_append]; rfl
theorem ceil_small {x j : Int} (h1 : 1 ≤ x) (h2 : x ≤ j) : (x + j - 1) / j = 1 := by
  have a : (x + j - 1) / j ≤ 1 := (ceil_le (by omega)).mpr (by omega)
  have b := ceil_pos h1 (by omega : 1 ≤ j)
  omega
theorem ceil_next {j : Int} (h : 1 ≤ j) : (j + 1 + j - 1) / j = 2 := by
  rw [show j + 1 + j - 1 = j * 2 by omega, Int.mul_ediv_cancel_left _ (by omega)]
theorem pcount_one {ls : List Int} {j : Int} (h : ∀ x ∈ ls, 1 ≤ x ∧ x ≤ j) : pcount ls j = ls.length := by
  induction ls with
  | nil => rfl
  | cons x r ih =>
    rw [pcount_cons, ceil_small (h x List.mem_cons_self).1 (h x List.mem_cons_self).2, ih fun y hy => h y (List.mem_cons_of_mem _ hy), List.length_cons]
    push_cast; omega
/-- the chapters of size + 1 lines, from the count of the size and the longer chapters -/
theorem pcount_split : ∀ {ls : List Int} {s : Int}, 1 ≤ s → (∀ x ∈ ls, 1 ≤ x) →
    pcount ls s = pcount (ls.filter fun x => decide (s + 1 < x)) s + ((ls.length : Int) - ((ls.filter fun x => decide (s + 1 < x)).length : Int)) + (ls.count (s + 1) : Int) ∧
    (ls.count (s + 1) : Int) ≤ (ls.length : Int) - ((ls.filter fun x => decide (s + 1 < x)).length : Int)
  | [], s, _, _ => ⟨rfl, by simp⟩
  | x :: r, s, hs, h => by
    obtain ⟨i1, i2⟩ := pcount_split (s := s) hs fun y hy => h y (List.mem_cons_of_mem _ hy)
    have hx := h x List.mem_cons_self
    rw [pcount_cons]
    by_cases c1 : s + 1 < x
    · rw [List.filter_cons_of_pos (by simp; omega), List.count_cons_of_ne (by omega), pcount_cons, List.length_cons, List.length_cons]
      push_cast; omega
    · rw [List.filter_cons_of_neg (by simp; omega), List.length_cons]
      by_cases c2 : x = s + 1
      · subst c2
        rw [List.count_cons_self, ceil_next hs]
        push_cast; omega
      · rw [List.count_cons_of_ne (by omega), ceil_small hx (by omega)]
        push_cast; omega
theorem found_is {ls : List Int} {s : Int} (hs : 1 ≤ s) (h : ∀ x ∈ ls, 1 ≤ x) :
    pcount ls s - pcount (HS.above ls (s + 1)) s - ((ls.length : Int) - ((HS.above ls (s + 1)).length : Int)) = (ls.count (s + 1) : Int) ∧ (ls.count (s + 1) : Int) ≤ (ls.length : Int) - ((HS.above ls (s + 1)).length : Int) := by
  obtain ⟨a, b⟩ := pcount_split (ls := HS.desc ls) hs fun x hx => h x (HS.desc_mem.mp hx)
  rw [pcount_perm (HS.desc_perm ls), HS.desc_len, HS.desc_count] at a
  rw [HS.desc_len, HS.desc_count] at b
  unfold HS.above
  omega
theorem counted_eq {x w : Int} (h : 1 ≤ w) : (x - 1) / w + 1 = (x + w - 1) / w := by
  rw [show x + w - 1 = (x - 1) + w * 1 by omega, Int.add_mul_ediv_left _ _ (by omega)]
theorem pcount_le_sum {ls : List Int} {j : Int} (h : ∀ x ∈ ls, 1 ≤ x) (hj : 1 ≤ j) : pcount ls j ≤ ls.sum := by
  induction ls with
  | nil => exact Int.le_refl _
  | cons x r ih =>
    rw [pcount_cons, List.sum_cons]
    have h1 := ih fun y hy => h y (List.mem_cons_of_mem _ hy)
    have hx := h x List.mem_cons_self
    have : (x + j - 1) / j ≤ x := (ceil_le hj).mpr (by have := Int.mul_le_mul_of_nonneg_left hj (show 0 ≤ x by omega); omega)
    omega
theorem lens_sum {ls : List Int} {T : Int} (h : Lens ls T) : 0 ≤ ls.sum ∧ ls.sum ≤ ls.length * T := by
  induction ls with
  | nil => exact ⟨Int.le_refl _, by simp⟩
  | cons x r ih =>
    obtain ⟨a, b⟩ := ih fun y hy => h y (List.mem_cons_of_mem _ hy)
    have hx := h x List.mem_cons_self
    rw [List.sum_cons, List.length_cons]
    push_cast
    rw [Int.add_mul]
    omega
theorem tabl_mem {ls : List Int} {T : Nat} {x : Int} (h : ∀ x ∈ ls, 1 ≤ x) (hx : x ∈ tabl ls T) : 0 ≤ x ∧ x ≤ ls.sum := by
  unfold tabl at hx
  obtain ⟨i, _, rfl⟩ := List.mem_map.mp hx
  exact ⟨pcount_pos h (by omega), pcount_le_sum h (by omega)⟩
theorem map_range_set {α : Type} {f g : Nat → α} {n i : Nat} (hi : i < n) (h : ∀ k, k ≠ i → f k = g k) : ((List.range n).map f).set i (g i) = (List.range n).map g := by
  apply List.ext_getElem?
  intro k
  rw [List.getElem?_set, List.length_map, List.length_range, List.getElem?_map, List.getElem?_map]
  by_cases e : i = k
  · subst e
    rw [if_pos rfl, if_pos hi, List.getElem?_range hi]
    rfl
  · rw [if_neg e]
    by_cases hk : k < n
    · rw [List.getElem?_range hk]
      show some (f k) = some (g k)
      rw [h k (fun z => e z.symm)]
    · rw [List.getElem?_eq_none (by rw [List.length_range]; omega)]
      rfl
theorem pcount_unit (ls : List Int) : pcount ls 1 = ls.sum := by
  induction ls with
  | nil => rfl
  | cons x r ih => rw [pcount_cons, ih, List.sum_cons, show x + 1 - 1 = x by omega, Int.ediv_one]
theorem tabl_vals (ls : List Int) (m : Int) : ((List.range m.toNat).map fun (i : Nat) => V.int (pcount ls ((i : Int) + 1))) = (tabl ls m.toNat).map V.int := by
  unfold tabl; rw [List.map_map]; rfl

section
variable {P : Program} {w : World} {K : PySem.W.Frag} {mg : Str → Option Value} {base : Heap} {A : Ad}
def sp__law_rng (K : PySem.W.Frag) : Sp := fun vs H Q _ => ∃ (a : Addr) (ns : List Int), vs = [.ref a] ∧ (SqL K H a (ns.map V.int) ∧ ns.length ≤ 63 ∧ ∀ H' s, HS.Keep (fun _ => False) H H' → H s = none → Rng H' s 0 → Q (.ref s) H')
theorem ok__law_rng (T : Txt K mg A) : FnOk P w K mg base CX0 1 A.a__law_rng A.d__law_rng ["script"] (sp__law_rng K) := by
  refine T.F__law_rng.ok sc__law_rng (fun vs H Q E h => ?_) (fun cdv A0 outer s H vs Q E hr h => ?_)
  · obtain ⟨a, ns, rfl, hw⟩ := h
    rfl
  · obtain ⟨a, ns, rfl, hw⟩ := h
    refine ⟨_, (pss_cons (ps_asg (pe_tup (pa_cons pe_int (pa_cons pe_int pa_nil))) (HS.kgt K (pg_tup rfl (pgs_cons (pg_name (i := 1) sc__law_rng.nd rfl (.inl rfl)) (pgs_cons (pg_name (i := 2) sc__law_rng.nd rfl (.inl rfl)) pgs_nil)))))
    (pss_cons (ps_for PassesOwn.never rfl (HS.kil K (pi_list (pe_slice (HS.sll K) (pv 0) po_none (po_some pe_int)))) (pg_name (i := 3) sc__law_rng.nd rfl (.inl rfl))
      (pss_cons (ps_set (i := 4) sc__law_rng.nd rfl (.inl rfl) (pe_callB call_abs (by rfl) T.z_abs (by decide +kernel) (pa_cons (pv 3) pa_nil)))
    (pss_cons (ps_if (pt_cmpR op_ge (pv 4) (HS.pe_fold (1000000000000000000) (pe_op op_pow pe_int pe_int) (by intro σ H Q q; walk_at "fold")) (nomark _))
      (pss_one (ps_set (i := 1) sc__law_rng.nd rfl (.inl rfl) (pe_op op_add (pe_op op_mulW (pv 1) (HS.pe_fold (1000000000000000000000000000000000000000000000000000000000000) (pe_op op_pow pe_int pe_int) (by intro σ H Q q; walk_at "fold"))) (pe_op op_mod (pv 4) (HS.pe_fold (1000000000000000000000000000000000000000000000000000000000000) (pe_op op_pow pe_int pe_int) (by intro σ H Q q; walk_at "fold"))))))
      pss_nil)
    (pss_one (ps_set (i := 2) sc__law_rng.nd rfl (.inl rfl) (pe_op op_mod (pe_op op_add (pe_op op_add (pe_op op_mul (pv 2) pe_int) (pe_op op_mod (pv 3) pe_int)) pe_int) pe_int))))))
    (pss_one (ps_ret (pe_lst (pa_cons (pv 1) (pa_cons (pv 2) (pa_cons pe_int pa_nil)))))))), ?_⟩
    obtain ⟨hS, hl, k⟩ := hw
    walk_at "hs"
    intro t ht
    have hS2 := HS.Keep.sq (S := fun _ => False) (HS.Keep.new (o := .tup [.int 0, .int 88675123]) ht) hS id
    walk_at "hs"
    intro p hp
    have ec : cutV (ns.map V.int) none (some 63) = ns.map V.int := by
      rw [show (63 : Int) = ((63 : Nat) : Int) from rfl, HS.cut_to, List.take_of_length_le (by rw [List.length_map]; exact hl)]
    rw [ec]
    walk_at "hs"
    refine ⟨⟨_, HS.sq upd_same⟩, for_list (xs := ns.map V.int) (fun i σ H1 => H1 = upd (upd H t (.tup [.int 0, .int 88675123])) p (.lst (ns.map V.int)) ∧ i ≤ ns.length ∧ ∃ (dg m : Int) (x3 x4 : Option V), σ = [some (.ref a), some (.int dg), some (.int m), x3, x4] ∧ 0 ≤ dg ∧ dg < 2 ^ (200 * (i + 1)) ∧ 0 ≤ m ∧ m < 2 ^ 61) ?_ ?_ ?_ ?_⟩
    · exact ⟨rfl, Nat.zero_le _, _, _, _, _, rfl, by decide, by decide, by decide, by decide⟩
    · rintro i σ H1 _ ⟨rfl, _⟩
      exact HS.sq upd_same
    · rintro i x σ H1 hi ⟨rfl, _, dg, m, x3, x4, rfl, hd0, hd1, hm0, hm1⟩
      obtain ⟨z, rfl, _, hil⟩ := HS.get_int hi
      have hil' : i ≤ 63 := by omega
      walk_at "hs"
      have b0 : 0 ≤ (m * 1000003 + z % 2305843009213693921 + 7) % 2305843009213693951 := Int.emod_nonneg _ (by decide)
      have b1 : (m * 1000003 + z % 2305843009213693921 + 7) % 2305843009213693951 < 2 ^ 61 := Int.lt_trans (Int.emod_lt_of_pos _ (by decide)) (by decide)
      generalize (if z < 0 then -z else z) = y
      refine HS.itd (fun hy => ?_) (fun hy => ?_)
      · walk_at "hs"
        refine ⟨HS.mulW (200 * (i + 1)) 200 hd0 hd1 (by decide) (by decide) (by omega) (by decide) (by omega), ?_⟩
        walk_at "hs"
        have q0 : 0 ≤ y % 1000000000000000000000000000000000000000000000000000000000000 := Int.emod_nonneg _ (by decide)
        have q1 : y % 1000000000000000000000000000000000000000000000000000000000000 < 10 ^ 60 := Int.emod_lt_of_pos _ (by decide)
        obtain ⟨r0, r1⟩ := rng_step hd0 hd1 q0 q1
        exact ⟨rfl, hil, _, _, _, _, rfl, r0, r1, b0, b1⟩
      · walk_at "hs"
        exact ⟨rfl, hil, _, _, _, _, rfl, hd0, Int.lt_trans hd1 (pow_up i), b0, b1⟩
    · rintro σ H1 ⟨rfl, _, dg, m, x3, x4, rfl, hd0, hd1, hm0, hm1⟩
      walk_at "hs"
      intro s hs
      have K1 := (HS.Keep.new (S := fun _ => False) (o := .tup [.int 0, .int 88675123]) ht).trans (HS.Keep.new (o := .lst (ns.map V.int)) hp)
      exact k _ s (K1.trans (.new hs)) (K1.free hs id) ⟨dg, m, 0, upd_same, hd0, hm0, hm1, by decide, by decide⟩
def sp__law_draw (K : PySem.W.Frag) : Sp := fun vs H Q _ => ∃ (s : Addr) (many : Int) (n : Nat), vs = [.ref s, .int many] ∧ (Rng H s n ∧ 0 < many ∧ many < 2 ^ 200 ∧ n < 2 ^ 33 ∧ ∀ H' v, HS.Keep (fun a => a = s) H H' → Rng H' s (n + 1) → 0 ≤ v → v < many → Q (.int v) H')
theorem ok__law_draw (T : Txt K mg A) : FnOk P w K mg base CX0 1 A.a__law_draw A.d__law_draw ["rng", "limit"] (sp__law_draw K) := by
  refine T.F__law_draw.ok sc__law_draw (fun vs H Q E h => ?_) (fun cdv A0 outer s H vs Q E hr h => ?_)
  · obtain ⟨s, many, n, rfl, hw⟩ := h
    rfl
  · obtain ⟨s, many, n, rfl, hw⟩ := h
    refine ⟨_, (pss_cons (ps_if (pt_cmpR op_gt (pe_ix (HS.ixl K) (pv 0) pe_int (fun _ _ => rfl)) pe_int (nomark _))
      (pss_cons (ps_set (i := 2) sc__law_draw.nd rfl (.inl rfl) (pe_op op_mod (pe_ix (HS.ixl K) (pv 0) pe_int (fun _ _ => rfl)) (pv 1)))
    (pss_cons (ps_asg (pe_op op_fdivW (pe_ix (HS.ixl K) (pv 0) pe_int (fun _ _ => rfl)) (pv 1)) (pg_sub (pv 0) pe_int set_list))
    (pss_one (ps_ret (pv 2)))))
      pss_nil)
    (pss_cons (ps_asg (pe_op op_add (pe_ix (HS.ixl K) (pv 0) pe_int (fun _ _ => rfl)) pe_int) (pg_sub (pv 0) pe_int set_list))
    (pss_cons (ps_set (i := 3) sc__law_draw.nd rfl (.inl rfl) (pe_op op_mod (pe_op HS.op_powW (pe_op op_add (pe_ix (HS.ixl K) (pv 0) pe_int (fun _ _ => rfl)) (pe_op op_mul pe_int (pe_ix (HS.ixl K) (pv 0) pe_int (fun _ _ => rfl)))) pe_int) pe_int))
    (pss_cons (ps_set (i := 3) sc__law_draw.nd rfl (.inl rfl) (pe_op op_mod (pe_op HS.op_powW (pe_op op_add (pv 3) (pe_op op_mul pe_int (pe_ix (HS.ixl K) (pv 0) pe_int (fun _ _ => rfl)))) pe_int) pe_int))
    (pss_one (ps_ret (pe_op op_mod (pe_op op_fdivW (pv 3) pe_int) (pv 1)))))))), ?_⟩
    obtain ⟨⟨l, m, c, hs, hl0, hm0, hm1, hc0, hc1⟩, hn0, hn1, hn, k⟩ := hw
    walk_at "hs"
    refine HS.itd (fun hl => ?_) (fun hl => ?_)
    · walk_at "hs"
      refine ⟨HS.divW 200 hn0 hn1 (by decide) (by decide), ?_⟩
      walk_at "hs"
      exact k _ _ (by walk_at "kp") ⟨l / many, m, c, upd_same, Int.ediv_nonneg hl0 (by omega), hm0, hm1, hc0, by omega⟩ (Int.emod_nonneg _ (by omega)) (Int.emod_lt_of_pos _ hn0)
    · walk_at "hs"
      refine ⟨HS.powW 66 (by omega) (by omega) (by decide) (by decide), ?_⟩
      walk_at "hs"
      have m0 : 0 ≤ (m + 998244353 * (c + 1)) ^ Int.toNat 3 % 162259276829213363391578010288127 := Int.emod_nonneg _ (by decide)
      have m1 : (m + 998244353 * (c + 1)) ^ Int.toNat 3 % 162259276829213363391578010288127 < 162259276829213363391578010288127 := Int.emod_lt_of_pos _ (by decide)
      generalize (m + 998244353 * (c + 1)) ^ Int.toNat 3 % 162259276829213363391578010288127 = z at m0 m1 ⊢
      refine ⟨HS.powW 128 (by omega) (by omega) (by decide) (by decide), ?_⟩
      walk_at "hs"
      exact k _ _ (by walk_at "kp") ⟨l, m, c + 1, upd_same, hl0, hm0, hm1, by omega, by omega⟩ (Int.emod_nonneg _ (by omega)) (Int.emod_lt_of_pos _ hn0)
def sp__law_counted (K : PySem.W.Frag) : Sp := fun vs H Q _ => ∃ (b : Addr) (ls : List Int) (j : Int), vs = [.ref b, .int j] ∧ (SqL K H b (ls.map V.int) ∧ ls.length ≤ 50000 ∧ 1 ≤ j ∧ j < 2 ^ 200 ∧ ∀ H', HS.Keep (fun _ => False) H H' → Q (.int (pcount ls j)) H')
theorem ok__law_counted (T : Txt K mg A) : FnOk P w K mg base CX0 1 A.a__law_counted A.d__law_counted ["some", "wide"] (sp__law_counted K) := by
  refine T.F__law_counted.ok sc__law_counted (fun vs H Q E h => ?_) (fun cdv A0 outer s H vs Q E hr h => ?_)
  · obtain ⟨b, ls, j, rfl, hw⟩ := h
    rfl
  · obtain ⟨b, ls, j, rfl, hw⟩ := h
    refine ⟨_, (pss_one (ps_ret (pe_callB (HS.ksum K rfl) (by rfl) T.z_sum (by decide +kernel) (pa_cons (pe_lc (own := [("one", 2)]) (g := gName 2) (tt := tYes) rfl sc__law_counted.nd (HS.kil K (pi_list (pv 0))) (blkOk_by (own := [("one", 2)]) (N := N__law_counted) (sc := defScope s__law_counted) (by decide +kernel)) (fun _ _ _ _ _ => pg_name (i := 2) sc__law_counted.nd rfl (by first | exact .inl rfl | exact .inr rfl)) (fun _ _ _ _ _ => pts_nil) (fun _ _ _ _ _ => (pe_op op_add (pe_op op_fdivW (pe_op op_sub (pv 2) pe_int) (pv 1)) pe_int))) pa_nil)))), ?_⟩
    obtain ⟨hb, hl, h1, h2, k⟩ := hw
    walk_at "hs"
    refine ⟨⟨_, hb⟩, fun D hD => lc_list (xs := ls.map V.int) (fun i H' => HS.Keep (fun _ => False) H H' ∧ H' D = some (.lst (((ls.take i).map fun x => (x + j - 1) / j).map V.int))) ⟨.new hD, upd_same⟩ (fun i H' _ ⟨K', _⟩ => K'.sq hb id) ?_ ?_⟩
    · rintro i x H1 hi ⟨K1, h3⟩
      obtain ⟨z, rfl, hz, hil⟩ := HS.get_int hi
      walk_at "hs"
      refine ⟨HS.divW 200 (by omega) h2 (by decide) (by decide), ?_⟩
      walk_at "hs"
      rw [counted_eq h1]
      refine ⟨_, h3, HS.sz (by simp; omega), K1.put hD, ?_⟩
      rw [upd_same, List.take_add_one, hz, List.map_append, List.map_append]
      rfl
    · rintro H1 ⟨K1, h3⟩
      rw [List.length_map, List.take_length] at h3
      refine HS.sumL (HS.sq h3) ?_
      exact k _ K1
def sp__law_some (K : PySem.W.Frag) : Sp := fun vs H Q _ => ∃ (s : Addr) (most longest : Int) (n : Nat), vs = [.ref s, .int most, .int longest] ∧ (Rng H s n ∧ 0 ≤ most ∧ most ≤ 1000 ∧ 1 ≤ longest ∧ longest < 2 ^ 150 ∧ n < 2 ^ 32 ∧ ∀ H' p (ls : List Int), HS.Keep (fun a => a = s) H H' → H p = none → p ≠ s → H' p = some (.lst (ls.map V.int)) → (ls.length : Int) ≤ most → Lens ls longest → Rng H' s (n + 6000) → Q (.ref p) H')
theorem ok__law_some (T : Txt K mg A) : FnOk P w K mg base CX0 2 A.a__law_some A.d__law_some ["rng", "most", "longest"] (sp__law_some K) := by
  have G__law_draw : FnOk P w K mg base CX0 1 A.a__law_draw A.d__law_draw ["rng", "limit"] (sp__law_draw K) := ok__law_draw T
  refine T.F__law_some.ok sc__law_some (fun vs H Q E h => ?_) (fun cdv A0 outer s H vs Q E hr h => ?_)
  · obtain ⟨s, most, longest, n, rfl, hw⟩ := h
    rfl
  · obtain ⟨s, most, longest, n, rfl, hw⟩ := h
    refine ⟨_, (pss_cons (ps_par (i := 3) (j := 4) rfl sc__law_some.nd rfl rfl (by decide) rfl rfl (pa_cons (pe_call G__law_draw hr (by rfl) T.g__law_draw T.F__law_draw.kp T.b__law_draw .nil pass0 (pa_cons (pv 0) (pa_cons pe_int pa_nil))) (pa_cons (pe_lst pa_nil) pa_nil)) (by rfl))
    (pss_cons (ps_for PassesOwn.never rfl (pi_range1 (by rfl) T.z_range (pa_cons (pe_call G__law_draw hr (by rfl) T.g__law_draw T.F__law_draw.kp T.b__law_draw .nil pass0 (pa_cons (pv 0) (pa_cons (pe_op op_add (pv 1) pe_int) pa_nil))) pa_nil)) (pg_name (i := 5) sc__law_some.nd rfl (.inl rfl))
      (pss_cons (ps_set (i := 6) sc__law_some.nd rfl (.inl rfl) (pe_lst (pa_cons (pe_op op_add pe_int (pe_call G__law_draw hr (by rfl) T.g__law_draw T.F__law_draw.kp T.b__law_draw .nil pass0 (pa_cons (pv 0) (pa_cons pe_int pa_nil)))) (pa_cons (pe_op op_sub (pv 2) (pe_call G__law_draw hr (by rfl) T.g__law_draw T.F__law_draw.kp T.b__law_draw .nil pass0 (pa_cons (pv 0) (pa_cons pe_int pa_nil)))) (pa_cons (pe_op op_add (pe_op op_add pe_int (pe_op op_fdivW (pv 2) pe_int)) (pe_call G__law_draw hr (by rfl) T.g__law_draw T.F__law_draw.kp T.b__law_draw .nil pass0 (pa_cons (pv 0) (pa_cons pe_int pa_nil)))) pa_nil)))))
    (pss_cons (ps_set (i := 7) sc__law_some.nd rfl (.inl rfl) (pe_ix (HS.ixl K) (pe_op op_cat (pv 6) (pe_lst (pa_cons (pe_op op_add pe_int (pe_call G__law_draw hr (by rfl) T.g__law_draw T.F__law_draw.kp T.b__law_draw .nil pass0 (pa_cons (pv 0) (pa_cons (pv 2) pa_nil)))) pa_nil))) (pe_ifExp (pt_cmpR op_gt (pe_call G__law_draw hr (by rfl) T.g__law_draw T.F__law_draw.kp T.b__law_draw .nil pass0 (pa_cons (pv 0) (pa_cons pe_int pa_nil))) pe_int (nomark _)) (pv 3) pe_int) (fun _ _ => rfl)))
    (pss_one (ps_expr (HS.kbm K (pe_bm PySem.F.plainAttrs_list PySem.F.slot_list_append PySem.F.type_list_append mt_append (pv 4) (pa_cons (pe_callB (call_max2 rfl) (by rfl) T.z_max (by decide +kernel) (pa_cons pe_int (pa_cons (pe_callB (call_min2 rfl) (by rfl) T.z_min (by decide +kernel) (pa_cons (pv 2) (pa_cons (pv 7) pa_nil))) pa_nil))) pa_nil))))))))
    (pss_one (ps_ret (pv 4))))), ?_⟩
    obtain ⟨S0, hm0, hm1, hl0, hl1, hn, k⟩ := hw
    walk_at "hs"
    refine ⟨s, 4, n, rfl, S0, by decide, by decide, by omega, fun H1 kd K1 S1 k0 k1 => ?_⟩
    walk_at "hs"
    intro D hD
    have hDs := S1.ne hD
    walk_at "hs"
    refine ⟨s, _, n + 1, rfl, S1.new hD, by omega, by omega, by omega, fun H2 cnt K2 S2 c0 c1 => ?_⟩
    walk_at "hs"
    have hD0 : H D = none := K1.free hD (by walk_at "ns")
    refine ⟨by omega, by omega, for_range (n := cnt.toNat) (fun i σ H' => HS.Keep (fun a => a = s) H H' ∧ (∃ ls : List Int, H' D = some (.lst (ls.map V.int)) ∧ ls.length = i ∧ Lens ls longest) ∧ Rng H' s (n + 2 + 5 * i) ∧ ∃ x1 x2 x3, σ = [some (.ref s), some (.int most), some (.int longest), some (.int kd), some (.ref D), x1, x2, x3]) ?_ ?_ ?_⟩
    · exact ⟨(K1.put hD0).trans K2, ⟨[], K2 _ _ upd_same hDs, rfl, fun x hx => absurd hx List.not_mem_nil⟩, S2, _, _, _, rfl⟩
    · rintro i σ H3 hi ⟨K3, ⟨ls, hls, hll, hL⟩, S3, x1, x2, x3, rfl⟩
      walk_at "hs"
      refine ⟨s, 3, _, rfl, S3, by decide, by decide, by omega, fun H4 a K4 S4 a0 a1 => ?_⟩
      walk_at "hs"
      refine ⟨s, 3, _, rfl, S4, by decide, by decide, by omega, fun H5 b K5 S5 b0 b1 => ?_⟩
      walk_at "hs"
      refine ⟨s, 2, _, rfl, S5, by decide, by decide, by omega, fun H6 c K6 S6 c0 c1 => ?_⟩
      walk_at "hs"
      intro p hp
      have e1 := S6.ne hp
      walk_at "hs"
      refine ⟨s, longest, _, rfl, S6.new hp, by omega, by omega, by omega, fun H7 d K7 S7 d0 d1 => ?_⟩
      have hp7 := K7 _ _ (upd_same (H := H6) (a := p)) (by walk_at "ns")
      walk_at "hs"
      intro q hq
      have e2 := S7.ne hq
      walk_at "hs"
      intro r hr'
      have S8 := (S7.new (o := .lst [.int (1 + d)]) hq)
      have e3 := S8.ne hr'
      walk_at "hs"
      refine ⟨s, 4, _, rfl, S8.new hr', by decide, by decide, by omega, fun H8 e K8 S9 e0 e1 => ?_⟩
      have hr8 := K8 _ _ (upd_same (H := upd H7 q (.lst [.int (1 + d)])) (a := r)) (by walk_at "ns")
      have KK : HS.Keep (fun a => a = s) H3 H8 := K4.trans (K5.trans (K6.trans ((HS.Keep.new hp).trans (K7.trans ((HS.Keep.new hq).trans ((HS.Keep.new hr').trans K8))))))
      have hls8 := KK _ _ hls hDs
      walk_at "hs"
      refine HS.iteM (fun v H' => ∃ j, v = .int j ∧ 0 ≤ j ∧ j < 4 ∧ H' = H8) (fun hc Q' k' => ?_) (fun hc Q' k' => ?_) ?_
      · walk_at "hs"
        exact k' _ _ ⟨_, rfl, k0, k1, rfl⟩
      · walk_at "hs"
        exact k' _ _ ⟨3, rfl, by decide, by decide, rfl⟩
      · rintro v H' ⟨j, rfl, j0, j1, rfl⟩
        refine HS.ixI [1 + a, longest - b, 1 + longest / 2 + c, 1 + d] (HS.sq hr8) j0 j1 fun z _ _ => ?_
        walk_at "hs"
        refine ⟨(K3.trans KK).put hD0, ⟨ls ++ [_], by rw [upd_same, List.map_append]; rfl, by walk_at "len", ?_⟩, (S9.put hDs).up (by omega), _, _, _, rfl⟩
        intro x hx
        rcases List.mem_append.mp hx with hx | hx
        · exact hL x hx
        · rw [List.mem_singleton] at hx
          subst hx
          constructor
          · split <;> omega
          · split <;> split at * <;> omega
    · rintro σ H3 ⟨K3, ⟨ls, hls, hll, hL⟩, S3, x1, x2, x3, rfl⟩
      walk_at "hs"
      exact k _ D ls K3 hD0 hDs hls (by omega) hL (S3.up (by omega))
def sp_count_pages (K : PySem.W.Frag) : Sp := fun vs H Q _ => ∃ (b : Addr) (ls : List Int) (j : Int), vs = [.ref b, .int j] ∧ (SqL K H b (ls.map V.int) ∧ ls.length ≤ 50000 ∧ 1 ≤ j ∧ j < 2 ^ 200 ∧ ∀ H', HS.Keep (fun _ => False) H H' → Q (.int (pcount ls j)) H')
theorem ok_count_pages (T : Txt K mg A) : FnOk P w K mg base CX0 2 A.a_count_pages A.d_count_pages ["book", "size"] (sp_count_pages K) := by
  refine T.F_count_pages.ok sc_count_pages (fun vs H Q E h => ?_) (fun cdv A0 outer s H vs Q E hr h => ?_)
  · obtain ⟨b, ls, j, rfl, hw⟩ := h
    rfl
  · obtain ⟨b, ls, j, rfl, hw⟩ := h
    refine ⟨_, (pss_one (ps_ret (pe_op op_add (pe_callB (HS.klen K) (by rfl) T.z_len PySem.boot_len (pa_cons (pv 0) pa_nil)) (pe_callB (HS.ksum K rfl) (by rfl) T.z_sum (by decide +kernel) (pa_cons (pe_lc (own := [("length", 2)]) (g := gName 2) (tt := tYes) rfl sc_count_pages.nd (HS.kil K (pi_list (pv 0))) (blkOk_by (own := [("length", 2)]) (N := N_count_pages) (sc := defScope s_count_pages) (by decide +kernel)) (fun _ _ _ _ _ => pg_name (i := 2) sc_count_pages.nd rfl (by first | exact .inl rfl | exact .inr rfl)) (fun _ _ _ _ _ => pts_nil) (fun _ _ _ _ _ => (pe_op op_fdivW (pe_op op_sub (pv 2) pe_int) (pv 1)))) pa_nil))))), ?_⟩
    obtain ⟨hb, hl, h1, h2, k⟩ := hw
    walk_at "hs"
    rw [List.length_map]
    refine ⟨⟨_, hb⟩, fun D hD => lc_list (xs := ls.map V.int) (fun i H' => HS.Keep (fun _ => False) H H' ∧ H' D = some (.lst (((ls.take i).map fun x => (x - 1) / j).map V.int))) ⟨.new hD, upd_same⟩ (fun i H' _ ⟨K', _⟩ => K'.sq hb id) ?_ ?_⟩
    · rintro i x H1 hi ⟨K1, h3⟩
      obtain ⟨z, rfl, hz, hil⟩ := HS.get_int hi
      walk_at "hs"
      refine ⟨HS.divW 200 (by omega) h2 (by decide) (by decide), ?_⟩
      refine ⟨_, h3, HS.sz (by simp; omega), K1.put hD, ?_⟩
      rw [upd_same, List.take_add_one, hz, List.map_append, List.map_append]
      rfl
    · rintro H1 ⟨K1, h3⟩
      rw [List.length_map, List.take_length] at h3
      walk_at "hs"
      rw [pcount_less1 h1]
      exact k _ K1
def sp_lengths_of (K : PySem.W.Frag) : Sp := fun vs H Q _ => ∃ (t : Addr) (ss : List Int) (N : Nat), vs = [.ref t] ∧ (SqL K H t ((tabl ss N).map V.int) ∧ Lens ss N ∧ ss.length ≤ 1000 ∧ N ≤ 1000 ∧ ∀ H' p, HS.Keep (fun _ => False) H H' → H p = none → H' p = some (.lst ((HS.desc ss).map V.int)) → Q (.ref p) H')
theorem ok_lengths_of (T : Txt K mg A) : FnOk P w K mg base CX0 3 A.a_lengths_of A.d_lengths_of ["table"] (sp_lengths_of K) := by
  have G_count_pages : FnOk P w K mg base CX0 2 A.a_count_pages A.d_count_pages ["book", "size"] (sp_count_pages K) := ok_count_pages T
  refine T.F_lengths_of.ok sc_lengths_of (fun vs H Q E h => ?_) (fun cdv A0 outer s H vs Q E hr h => ?_)
  · obtain ⟨t, ss, N, rfl, hw⟩ := h
    rfl
  · obtain ⟨t, ss, N, rfl, hw⟩ := h
    refine ⟨_, (pss_cons (ps_if (pt_not (pt_truth (pv 0) (by intro _; rfl)))
      (pss_one (ps_ret (pe_lst pa_nil)))
      pss_nil)
    (pss_cons (ps_set (i := 1) sc_lengths_of.nd rfl (.inl rfl) (pe_ix (HS.ixl K) (pv 0) (pe_un un_neg pe_int) (fun _ _ => rfl)))
    (pss_cons (ps_if (pt_cmpR op_lt (pv 1) pe_int (nomark _))
      (pss_one ps_never)
      pss_nil)
    (pss_cons (ps_set (i := 2) sc_lengths_of.nd rfl (.inl rfl) (pe_lst pa_nil))
    (pss_cons (ps_for PassesOwn.never rfl (pi_range3 (by rfl) T.z_range (pa_cons (pe_op op_sub (pe_callB (HS.klen K) (by rfl) T.z_len PySem.boot_len (pa_cons (pv 0) pa_nil)) pe_int) (pa_cons pe_int (pa_cons (pe_un un_neg pe_int) pa_nil)))) (pg_name (i := 3) sc_lengths_of.nd rfl (.inl rfl))
      (pss_cons (ps_set (i := 4) sc_lengths_of.nd rfl (.inl rfl) (pe_op op_sub (pv 1) (pe_callB (HS.klen K) (by rfl) T.z_len PySem.boot_len (pa_cons (pv 2) pa_nil))))
    (pss_cons (ps_set (i := 5) sc_lengths_of.nd rfl (.inl rfl) (pe_op op_sub (pe_op op_sub (pe_ix (HS.ixl K) (pv 0) (pe_op op_sub (pv 3) pe_int) (fun _ _ => rfl)) (pe_call G_count_pages hr (by rfl) T.g_count_pages T.F_count_pages.kp T.b_count_pages .nil pass0 (pa_cons (pv 2) (pa_cons (pv 3) pa_nil)))) (pv 4)))
    (pss_cons (ps_if (PW.pt (pw_or (pt_cmpR op_lt (pv 5) pe_int (nomark _)) (pw_or1 (pt_cmpR op_gt (pv 5) (pv 4) (nomark _)))))
      (pss_one ps_never)
      pss_nil)
    (pss_one (ps_expr (HS.kbm K (pe_bm PySem.F.plainAttrs_list PySem.F.slot_list_extend PySem.F.type_list_extend mt_extend (pv 2) (pa_cons (pe_op op_rep (pe_lst (pa_cons (pe_op op_add (pv 3) pe_int) pa_nil)) (pv 5)) pa_nil)))))))))
    (pss_cons (ps_expr (HS.kbm K (pe_bm PySem.F.plainAttrs_list PySem.F.slot_list_extend PySem.F.type_list_extend mt_extend (pv 2) (pa_cons (pe_op op_rep (pe_lst (pa_cons pe_int pa_nil)) (pe_op op_sub (pv 1) (pe_callB (HS.klen K) (by rfl) T.z_len PySem.boot_len (pa_cons (pv 2) pa_nil)))) pa_nil))))
    (pss_one (ps_ret (pv 2))))))))), ?_⟩
    obtain ⟨ht, hL, hs, hN, k⟩ := hw
    have h1 : ∀ x ∈ ss, 1 ≤ x := hL.one
    walk_at "hs"
    refine ⟨_, .inl ⟨_, ht, rfl⟩, ?_⟩
    cases N with
    | zero =>
      have e0 : ss = [] := by
        cases ss with
        | nil => rfl
        | cons x r => have := hL x List.mem_cons_self; omega
      subst e0
      refine HS.ifT (by rfl) ?_
      walk_at "hs"
      intro p hp
      exact k _ p (.new hp) hp (by rw [upd_same, HS.desc_nil]; rfl)
    | succ N =>
      refine HS.ifF (by rw [tabl_succ]; simp) ?_
      walk_at "hs"
      refine ⟨t, _, -1, _, rfl, rfl, ht, HS.at_last (ys := (tabl ss N).map V.int) (by rw [tabl_succ, List.map_append]; rfl), ?_⟩
      rw [pcount_one (j := (N : Int) + 1) (fun x hx => by have := hL x hx; push_cast at this; omega)]
      walk_at "hs"
      refine HS.it0 (by omega) ?_
      walk_at "hs"
      intro D hD
      have ht2 := HS.Keep.sq (S := fun _ => False) (HS.Keep.new (o := .lst []) hD) ht id
      walk_at "hs"
      rw [List.length_map, tabl_len]
      refine ⟨_, _, _, _, rfl, RgC.neg (by omega) (by omega) (by omega) (by omega), ?_⟩
      rw [show (((N + 1 : Nat) : Int) - 1 - 0).toNat = N by omega]
      refine for_rangeC (fun i σ H' => HS.Keep (fun _ => False) H H' ∧ i ≤ N ∧ H' D = some (.lst ((HS.above ss ((N : Int) + 1 - i)).map V.int)) ∧ ∃ x3 x4 x5, σ = [some (.ref t), some (.int ss.length), some (.ref D), x3, x4, x5]) ?_ ?_ ?_
      · refine ⟨.new hD, Nat.zero_le _, ?_, _, _, _, rfl⟩
        rw [HS.above_top fun x hx => by have := hL x hx; push_cast at this ⊢; omega]
        exact upd_same
      · rintro i σ H1 hi ⟨K1, _, hl, x3, x4, x5, rfl⟩
        have hsz : (N : Int) + 1 - 1 + (i : Nat) * -1 = (N : Int) - i := by omega
        have e1 : (N : Int) + 1 - i = (N - i) + 1 := by omega
        rw [e1] at hl
        obtain ⟨f1, f2⟩ := found_is (ls := ss) (s := (N : Int) - i) (by omega) h1
        have al := HS.above_le ss ((N : Int) - i + 1)
        walk_at "hs"
        rw [show ((N + 1 : Nat) : Int) - 1 + (i : Nat) * -1 = (N : Int) - i by push_cast; omega]
        have ei : (((N : Int) - i - 1).toNat : Int) + 1 = (N : Int) - i := by omega
        refine HS.ixZ (K1.sq ht id) (by omega) (by rw [tabl_at (by omega), ei]) ?_
        walk_at "hs"
        refine ⟨D, _, _, rfl, HS.sq hl, by omega, by omega, by omega, fun H2 K2 => ?_⟩
        have hl2 := K2 _ _ hl id
        walk_at "hs"
        rw [List.length_map, f1]
        refine HS.it0 (by omega) ?_
        walk_at "hs"
        refine HS.it0 (by omega) ?_
        walk_at "hs"
        intro p hp
        walk_at "hs"
        refine HS.rep1 upd_same (by omega) (by omega) fun q hq => ?_
        have hne1 := ne_of_none hl2 hp
        have hne2 : D ≠ q := ne_of_none (show upd H2 p _ D = _ by rw [upd_ne hne1]; exact hl2) hq
        walk_at "hs"
        refine ⟨(((K1.trans K2).put ((K1.trans K2).free hp id)).put (HS.Keep.free ((K1.trans K2).put ((K1.trans K2).free hp id)) hq id)).put hD, hi, ?_, _, _, _, rfl⟩
        rw [upd_same, show (N : Int) + 1 - (i + 1 : Nat) = (N : Int) - i by push_cast; omega, HS.above_step ss ((N : Int) - i), List.map_append, List.map_replicate]
        rw [Int.toNat_natCast]
      · rintro σ H1 ⟨K1, _, hl, x3, x4, x5, rfl⟩
        rw [show (N : Int) + 1 - N = 0 + 1 by omega] at hl
        have al := HS.above_le ss (0 + 1)
        have es := HS.above_step ss 0
        rw [HS.above_all h1] at es
        have el : (ss.length : Int) = (HS.above ss (0 + 1)).length + ss.count (0 + 1) := by
          rw [← HS.desc_len ss, es, List.length_append, List.length_replicate]; push_cast; rfl
        walk_at "hs"
        intro p hp
        walk_at "hs"
        rw [List.length_map, show (ss.length : Int) - (HS.above ss (0 + 1)).length = (ss.count (0 + 1) : Nat) by omega]
        refine HS.rep1 upd_same (by omega) (by omega) fun q hq => ?_
        have hne1 := ne_of_none hl hp
        have hne2 : D ≠ q := ne_of_none (show upd H1 p _ D = _ by rw [upd_ne hne1]; exact hl) hq
        walk_at "hs"
        refine k _ D ((((K1.put (K1.free hp id)).put (HS.Keep.free (K1.put (K1.free hp id)) hq id)).put hD)) hD ?_
        rw [upd_same, es, List.map_append, List.map_replicate, Int.toNat_natCast]
        rfl
def sp__law_right (K : PySem.W.Frag) : Sp := fun vs H Q _ => ∃ (b : Addr) (ls : List Int) (top : Int), vs = [.ref b, .int top] ∧ (SqL K H b (ls.map V.int) ∧ Lens ls top ∧ ls.length ≤ 200 ∧ 1 ≤ top ∧ top ≤ 301 ∧ ∀ H', HS.Keep (fun _ => False) H H' → Q (.bl true) H')
theorem ok__law_right (T : Txt K mg A) : HS.FnG P w K mg base CX0 4 A.a__law_right A.d__law_right ["some", "top"] (sp__law_right K) := by
  have G__law_counted : FnOk P w K mg base CX0 1 A.a__law_counted A.d__law_counted ["some", "wide"] (sp__law_counted K) := ok__law_counted T
  have G_lengths_of : FnOk P w K mg base CX0 3 A.a_lengths_of A.d_lengths_of ["table"] (sp_lengths_of K) := ok_lengths_of T
  refine HS.Fun.okG T.F__law_right sc__law_right (fun vs H Q E h => ?_) (fun cdv A0 outer s H vs Q E hg hr h => ?_)
  · obtain ⟨b, ls, top, rfl, hw⟩ := h
    rfl
  · obtain ⟨b, ls, top, rfl, hw⟩ := h
    refine ⟨_, (pss_cons (ps_setLc (i := 2) (own := [("wide", 6)]) (g := gName 6) (tt := tYes) rfl sc__law_right.nd rfl rfl (sw_true rfl rfl rfl (by decide +kernel)) (pi_range2 (by rfl) T.z_range (pa_cons pe_int (pa_cons (pe_op op_add (pv 1) pe_int) pa_nil))) (blkOk_by (own := [("wide", 6)]) (N := N__law_right) (sc := defScope s__law_right) (by decide +kernel)) (fun _ _ _ _ _ => pg_name (i := 6) sc__law_right.nd rfl (by first | exact .inl rfl | exact .inr rfl)) (fun _ _ _ _ _ => pts_nil) (fun _ _ _ _ _ => (pe_call G__law_counted (hr.mono (by decide)) (by rfl) T.g__law_counted T.F__law_counted.kp T.b__law_counted .nil pass0 (pa_cons (pv 0) (pa_cons (pv 6) pa_nil)))))
    (pss_cons (ps_par (i := 3) (j := 4) rfl sc__law_right.nd rfl rfl (by decide) rfl rfl (pa_cons (pe_callB (HS.krepr K hg hr) (by rfl) T.z_repr (by decide +kernel) (pa_cons (pv 2) pa_nil)) (pa_cons (HS.pe_srv K (fun r hc => pe_callB hc (by rfl) T.z_sorted (by decide +kernel) (pa_cons (pv 0) pa_nil)) (fun te h => pe_revL h)) pa_nil)) (by rfl))
    (pss_cons (ps_set (i := 5) sc__law_right.nd rfl (.inl rfl) (pe_call G_lengths_of hr (by rfl) T.g_lengths_of T.F_lengths_of.kp T.b_lengths_of .nil pass0 (pa_cons (pv 2) pa_nil)))
    (pss_cons (ps_if (PW.pt (pw_or (pt_cmpR op_ne (pe_callB (HS.krepr K hg hr) (by rfl) T.z_repr (by decide +kernel) (pa_cons (pe_lst (pa_cons (pv 5) (pa_cons (HS.pe_kw0 G_lengths_of hr (by rfl) T.g_lengths_of T.F_lengths_of.kp T.kb_lengths_of_0_table pass0 (pk_cons (pv 2) pk_nil)) pa_nil))) pa_nil)) (pe_callB (HS.krepr K hg hr) (by rfl) T.z_repr (by decide +kernel) (pa_cons (pe_lst (pa_cons (pv 4) (pa_cons (pv 4) pa_nil))) pa_nil)) (nomark _)) (pw_or1 (pt_cmpR op_ne (pe_callB (HS.krepr K hg hr) (by rfl) T.z_repr (by decide +kernel) (pa_cons (pv 2) pa_nil)) (pv 3) (nomark _)))))
      (pss_one (ps_ret pe_bl))
      pss_nil)
    (pss_cons (ps_expr (HS.kbm K (pe_bm PySem.F.plainAttrs_list PySem.F.slot_list_append PySem.F.type_list_append mt_append (pv 5) (pa_cons pe_int pa_nil))))
    (pss_one (ps_ret (pe_cmpR op_eq (pe_callB (HS.krepr K hg hr) (by rfl) T.z_repr (by decide +kernel) (pa_cons (pe_call G_lengths_of hr (by rfl) T.g_lengths_of T.F_lengths_of.kp T.b_lengths_of .nil pass0 (pa_cons (pv 2) pa_nil)) pa_nil)) (pe_callB (HS.krepr K hg hr) (by rfl) T.z_repr (by decide +kernel) (pa_cons (pv 4) pa_nil)) (nomark _))))))))), ?_⟩
    obtain ⟨hb, hL, hl, hT0, hT, k⟩ := hw
    have h1 := hL.one
    have sb := lens_sum hL
    have dl := HS.desc_len ls
    have s2 : (ls.length : Int) * top ≤ 200 * 301 := Int.mul_le_mul (by omega) hT (by omega) (by decide)
    walk_at "hs"
    refine ⟨by omega, fun D hD => lc_range (lo := 1) (n := (top + 1 - 1).toNat) (fun i H' => HS.Keep (fun _ => False) H H' ∧ H' D = some (.lst ((tabl ls i).map V.int))) ⟨.new hD, by rw [upd_same]; rfl⟩ ?_ ?_⟩
    · rintro i H1 hi ⟨K1, h3⟩
      walk_at "hs"
      refine ⟨b, ls, _, rfl, K1.sq hb id, by omega, by omega, by omega, fun H2 K2 => ?_⟩
      refine ⟨_, K2 _ _ h3 id, HS.sz (by rw [List.length_map, tabl_len]; omega), (K1.trans K2).put hD, ?_⟩
      rw [upd_same, tabl_succ, List.map_append, Int.add_comm 1]
      rfl
    · rintro H1 ⟨K1, h3⟩
      rw [show (top + 1 - 1).toNat = top.toNat by omega] at h3
      have tmT : HS.Tm (tabl ls top.toNat) := HS.tm_of (B := 200 * 301) (by decide) (fun x hx => by have := tabl_mem h1 hx; omega) (by rw [tabl_len]; omega)
      have tmD : HS.Tm (HS.desc ls) := HS.tm_of (B := 301) (by decide) (fun x hx => by have := hL x (HS.desc_mem.mp hx); omega) (by rw [HS.desc_len]; omega)
      have hLN : Lens ls (top.toNat : Int) := fun x hx => by have := hL x hx; omega
      walk_at "hs"
      refine HS.repI (HS.sq h3) tmT ?_
      walk_at "hs"
      refine ⟨b, ls, rfl, K1.sq hb id, fun H1' u Ku hu0 hu => ?_⟩
      have hD1 := Ku _ _ h3 id
      walk_at "hs"
      refine ⟨D, ls, top.toNat, rfl, HS.sq hD1, hLN, by omega, by omega, fun H2 t K2 ht0 ht => ?_⟩
      have hD2 := K2 _ _ hD1 id
      have hu2 := K2 _ _ hu id
      have ht00 := (K1.trans Ku).free ht0 id
      have KK := (K1.trans Ku).trans K2
      have eDt : D ≠ t := ne_of_none hD1 ht0
      have eut : u ≠ t := ne_of_none hu ht0
      walk_at "hs"
      refine ⟨D, ls, top.toNat, rfl, HS.sq hD2, hLN, by omega, by omega, fun H3 t2 K3 ht20 ht2 => ?_⟩
      have hD3 := K3 _ _ hD2 id
      have hu3 := K3 _ _ hu2 id
      have ht3 := K3 _ _ ht id
      have KK3 := KK.trans K3
      walk_at "hs"
      intro q hq
      have KK4 := KK3.nw (o := .lst [.ref t, .ref t2]) hq
      walk_at "hs"
      refine HS.repII (HS.sq upd_same) (HS.sq (by walk_at "hp")) (HS.sq (by walk_at "hp")) tmD tmD ?_
      walk_at "hs"
      intro r hr2
      have KK5 := KK4.nw (o := .lst [.ref u, .ref u]) hr2
      have er1 : r ≠ D := (ne_of_none (show upd H3 q (.lst [.ref t, .ref t2]) D = _ by walk_at "hp") hr2).symm
      have er2 : r ≠ u := (ne_of_none (show upd H3 q (.lst [.ref t, .ref t2]) u = _ by walk_at "hp") hr2).symm
      have er3 : r ≠ t := (ne_of_none (show upd H3 q (.lst [.ref t, .ref t2]) t = _ by walk_at "hp") hr2).symm
      walk_at "hs"
      refine HS.repII (HS.sq upd_same) (HS.sq (by walk_at "hp")) (HS.sq (by walk_at "hp")) tmD tmD ?_
      refine HS.neSS ?_
      walk_at "hs"
      refine HS.repI (HS.sq (by walk_at "hp")) tmT ?_
      walk_at "hs"
      refine HS.neSS ?_
      walk_at "hs"
      refine ⟨D, ls, top.toNat, rfl, HS.sq (by walk_at "hp"), hLN, by omega, by omega, fun H4 t3 K4 ht30 ht33 => ?_⟩
      walk_at "hs"
      refine HS.repI (HS.sq ht33) tmD ?_
      walk_at "hs"
      refine HS.repI (HS.sq (K4 _ _ (by walk_at "hp") id)) tmD ?_
      refine HS.eqSS ?_
      exact k _ ((KK5.put ht00).trans K4)
def bump (ls : List Int) (N i : Nat) : List Int := (List.range N).map fun (k : Nat) => pcount ls ((k : Int) + 1) + (if k < i then 1 else 0)
theorem bump_0 (ls : List Int) (N : Nat) : bump ls N 0 = tabl ls N := List.map_congr_left fun k _ => by simp
theorem bump_N (ls : List Int) (N : Nat) : bump ls N N = tabl (ls ++ [1]) N := List.map_congr_left fun k hk => by
  rw [if_pos (List.mem_range.mp hk), pcount_append, pcount_cons, pcount_nil, ceil_small (by omega) (by omega)]; omega
theorem bump_len (ls : List Int) (N i : Nat) : (bump ls N i).length = N := by unfold bump; rw [List.length_map, List.length_range]
theorem bump_at {ls : List Int} {N i : Nat} (h : i < N) : (bump ls N i)[i]? = some (pcount ls ((i : Int) + 1)) := by
  unfold bump
  rw [List.getElem?_map, List.getElem?_range h]
  simp
theorem bump_set {ls : List Int} {N i : Nat} (h : i < N) : ((bump ls N i).map V.int).set i (V.int (pcount ls ((i : Int) + 1) + 1)) = (bump ls N (i + 1)).map V.int := by
  unfold bump
  rw [List.map_map, List.map_map]
  rw [show V.int (pcount ls ((i : Int) + 1) + 1) = (V.int ∘ fun (k : Nat) => pcount ls ((k : Int) + 1) + (if k < i + 1 then 1 else 0)) i by show _ = V.int (pcount ls ((i : Int) + 1) + (if i < i + 1 then 1 else 0)); rw [if_pos (Nat.lt_succ_self i)]]
  refine map_range_set h fun k hk => ?_
  show V.int (pcount ls ((k : Int) + 1) + (if k < i then 1 else 0)) = V.int (pcount ls ((k : Int) + 1) + (if k < i + 1 then 1 else 0))
  by_cases c : k < i
  · rw [if_pos c, if_pos (by omega)]
  · rw [if_neg c, if_neg (by omega)]
def sp_law (K : PySem.W.Frag) : Sp := fun vs H Q _ => ∃ (a : Addr) (ns : List Int), vs = [.ref a] ∧ (SqL K H a (ns.map V.int) ∧ ns.length ≤ 63 ∧ ∀ H', Q (.bl true) H')
theorem ok_law (T : Txt K mg A) : HS.FnG P w K mg base CX0 5 A.a_law A.d_law ["script"] (sp_law K) := by
  have G__law_rng : FnOk P w K mg base CX0 1 A.a__law_rng A.d__law_rng ["script"] (sp__law_rng K) := ok__law_rng T
  have G__law_draw : FnOk P w K mg base CX0 1 A.a__law_draw A.d__law_draw ["rng", "limit"] (sp__law_draw K) := ok__law_draw T
  have G__law_some : FnOk P w K mg base CX0 2 A.a__law_some A.d__law_some ["rng", "most", "longest"] (sp__law_some K) := ok__law_some T
  have G__law_right : HS.FnG P w K mg base CX0 4 A.a__law_right A.d__law_right ["some", "top"] (sp__law_right K) := ok__law_right T
  have G__law_counted : FnOk P w K mg base CX0 1 A.a__law_counted A.d__law_counted ["some", "wide"] (sp__law_counted K) := ok__law_counted T
  have G_lengths_of : FnOk P w K mg base CX0 3 A.a_lengths_of A.d_lengths_of ["table"] (sp_lengths_of K) := ok_lengths_of T
  refine HS.Fun.okG T.F_law sc_law (fun vs H Q E h => ?_) (fun cdv A0 outer s H vs Q E hg hr h => ?_)
  · obtain ⟨a, ns, rfl, hw⟩ := h
    rfl
  · obtain ⟨a, ns, rfl, hw⟩ := h
    refine ⟨_, (pss_cons (ps_set (i := 1) sc_law.nd rfl (.inl rfl) (pe_call G__law_rng (hr.mono (by decide)) (by rfl) T.g__law_rng T.F__law_rng.kp T.b__law_rng .nil pass0 (pa_cons (pv 0) pa_nil)))
    (pss_cons (ps_for PassesOwn.never rfl (pi_range1 (by rfl) T.z_range (pa_cons (pe_op op_add pe_int (pe_callB (call_min2 rfl) (by rfl) T.z_min (by decide +kernel) (pa_cons pe_int (pa_cons (pe_callB (HS.klen K) (by rfl) T.z_len PySem.boot_len (pa_cons (pv 0) pa_nil)) pa_nil)))) pa_nil)) (pg_name (i := 2) sc_law.nd rfl (.inl rfl))
      (pss_cons (ps_set (i := 3) sc_law.nd rfl (.inl rfl) (pe_op op_add pe_int (pe_call G__law_draw (hr.mono (by decide)) (by rfl) T.g__law_draw T.F__law_draw.kp T.b__law_draw .nil pass0 (pa_cons (pv 1) (pa_cons (pe_ix (HS.ixl K) (pe_lst (pa_cons pe_int (pa_cons pe_int (pa_cons pe_int pa_nil)))) (pe_call G__law_draw (hr.mono (by decide)) (by rfl) T.g__law_draw T.F__law_draw.kp T.b__law_draw .nil pass0 (pa_cons (pv 1) (pa_cons pe_int pa_nil))) (fun _ _ => rfl)) pa_nil)))))
    (pss_cons (ps_set (i := 4) sc_law.nd rfl (.inr rfl) (pe_call G__law_some (hr.mono (by decide)) (by rfl) T.g__law_some T.F__law_some.kp T.b__law_some .nil pass0 (pa_cons (pv 1) (pa_cons (pe_ix (HS.ixl K) (pe_lst (pa_cons pe_int (pa_cons pe_int (pa_cons pe_int pa_nil)))) (pe_call G__law_draw (hr.mono (by decide)) (by rfl) T.g__law_draw T.F__law_draw.kp T.b__law_draw .nil pass0 (pa_cons (pv 1) (pa_cons pe_int pa_nil))) (fun _ _ => rfl)) (pa_cons (pv 3) pa_nil)))))
    (pss_cons (ps_if (PW.pt (pw_or (pt_not (pt_val (HS.pe_callG hg G__law_right hr (by rfl) T.g__law_right T.F__law_right.kp T.b__law_right pass0 (pa_cons (pv 4) (pa_cons (pv 3) pa_nil))))) (pw_or (pt_not (pt_val (HS.pe_callG hg G__law_right hr (by rfl) T.g__law_right T.F__law_right.kp T.b__law_right pass0 (pa_cons (pv 4) (pa_cons (pe_callB (HS.kmax K rfl) (by rfl) T.z_max (by decide +kernel) (pa_cons (pe_op op_cat (pv 4) (pe_lst (pa_cons pe_int pa_nil))) pa_nil)) pa_nil))))) (pw_or1 (pt_not (pt_val (HS.pe_callG hg G__law_right hr (by rfl) T.g__law_right T.F__law_right.kp T.b__law_right pass0 (pa_cons (HS.krev K (pe_revL (pv 4))) (pa_cons (pv 3) pa_nil)))))))))
      (pss_one (ps_ret pe_bl))
      pss_nil)
    (pss_cons (ps_setLc (i := 5) (own := [("wide", 8)]) (g := gName 8) (tt := tYes) rfl sc_law.nd rfl rfl (sw_true rfl rfl rfl (by decide +kernel)) (pi_range2 (by rfl) T.z_range (pa_cons pe_int (pa_cons (pe_op op_add (pv 3) pe_int) pa_nil))) (blkOk_by (own := [("wide", 8)]) (N := N_law) (sc := defScope s_law) (by decide +kernel)) (fun _ _ _ _ _ => pg_name (i := 8) sc_law.nd rfl (by first | exact .inl rfl | exact .inr rfl)) (fun _ _ _ _ _ => pts_nil) (fun _ _ _ _ _ => (pe_call G__law_counted (hr.mono (by decide)) (by rfl) T.g__law_counted T.F__law_counted.kp T.b__law_counted .nil pass0 (pa_cons (pv 4) (pa_cons (pv 8) pa_nil)))))
    (pss_cons (ps_set (i := 6) sc_law.nd rfl (.inl rfl) (pe_call G_lengths_of (hr.mono (by decide)) (by rfl) T.g_lengths_of T.F_lengths_of.kp T.b_lengths_of .nil pass0 (pa_cons (pv 5) pa_nil)))
    (pss_cons (ps_for PassesOwn.never rfl (pi_range1 (by rfl) T.z_range (pa_cons (pv 3) pa_nil)) (pg_name (i := 7) sc_law.nd rfl (.inl rfl))
      (pss_one (ps_asg (pe_op op_add (pe_ix (HS.ixl K) (pv 5) (pv 7) (fun _ _ => rfl)) pe_int) (pg_sub (pv 5) (pv 7) set_list))))
    (pss_one (ps_if (PW.pt (pw_or (pt_cmpR (HS.kne K (hu64 hr)) (pv 6) (HS.pe_srv K (fun r hc => pe_callB hc (by rfl) T.z_sorted (by decide +kernel) (pa_cons (pv 4) pa_nil)) (fun te h => pe_revL h)) (nomark _)) (pw_or1 (pt_cmpR (HS.kne K (hu64 hr)) (pe_call G_lengths_of (hr.mono (by decide)) (by rfl) T.g_lengths_of T.F_lengths_of.kp T.b_lengths_of .nil pass0 (pa_cons (pv 5) pa_nil)) (HS.pe_srv K (fun r hc => pe_callB hc (by rfl) T.z_sorted (by decide +kernel) (pa_cons (pe_op op_cat (pv 4) (pe_lst (pa_cons pe_int pa_nil))) pa_nil)) (fun te h => pe_revL h)) (nomark _)))))
      (pss_one (ps_ret pe_bl))
      pss_nil)))))))))
    (pss_one (ps_ret (pe_cmpR (HS.keq K (hu64 hr)) (pe_lst (pa_cons (pe_call G_lengths_of (hr.mono (by decide)) (by rfl) T.g_lengths_of T.F_lengths_of.kp T.b_lengths_of .nil pass0 (pa_cons (pe_lst pa_nil) pa_nil)) (pa_cons (pe_call G_lengths_of (hr.mono (by decide)) (by rfl) T.g_lengths_of T.F_lengths_of.kp T.b_lengths_of .nil pass0 (pa_cons (pe_lst (pa_cons pe_int pa_nil)) pa_nil)) (pa_cons (pe_call G_lengths_of (hr.mono (by decide)) (by rfl) T.g_lengths_of T.F_lengths_of.kp T.b_lengths_of .nil pass0 (pa_cons (pe_lst (pa_cons pe_int (pa_cons pe_int (pa_cons pe_int pa_nil)))) pa_nil)) (pa_cons (pe_call G_lengths_of (hr.mono (by decide)) (by rfl) T.g_lengths_of T.F_lengths_of.kp T.b_lengths_of .nil pass0 (pa_cons (pe_lst (pa_cons pe_int pa_nil)) pa_nil)) pa_nil))))) (pe_lst (pa_cons (pe_lst pa_nil) (pa_cons (pe_lst pa_nil) (pa_cons (pe_lst pa_nil) (pa_cons (pe_op op_rep (pe_lst (pa_cons pe_int pa_nil)) pe_int) pa_nil))))) (nomark _)))))), ?_⟩
    obtain ⟨hS, hl, k⟩ := hw
    walk_at "hs"
    refine ⟨a, ns, rfl, hS, hl, fun H1 s K1 hs S1 => ?_⟩
    have hS1 := K1.sq hS id
    walk_at "hs"
    rw [List.length_map]
    refine ⟨by split <;> omega, by split <;> omega, for_range (n := _) (fun i σ H' => Rng H' s (6010 * i) ∧ ∃ x2 x3 x4 x5 x6 x7 x8, σ = [some (.ref a), some (.ref s), x2, x3, x4, x5, x6, x7, x8]) ⟨S1, _, _, _, _, _, _, _, rfl⟩ ?_ ?_⟩
    · rintro i σ H2 hi ⟨S2, x2, x3, x4, x5, x6, x7, x8, rfl⟩
      have hi' : i < 12 := by split at hi <;> omega
      walk_at "hs"
      intro p1 hp1
      have e1 := S2.ne hp1
      walk_at "hs"
      refine ⟨s, 3, _, rfl, S2.new hp1, by decide, by decide, by omega, fun H3 v K3 S3 v0 v1 => ?_⟩
      refine HS.ixI [4, 30, 300] (HS.sq (K3 _ _ upd_same (by walk_at "ns"))) v0 v1 fun tp _ htp => ?_
      have htp' : 4 ≤ tp ∧ tp ≤ 300 := by simp only [List.mem_cons, List.not_mem_nil, or_false] at htp; omega
      walk_at "hs"
      refine ⟨s, tp, _, rfl, S3, by omega, by omega, by omega, fun H4 u K4 S4 u0 u1 => ?_⟩
      walk_at "hs"
      intro p2 hp2
      have e2 := S4.ne hp2
      walk_at "hs"
      refine ⟨s, 3, _, rfl, S4.new hp2, by decide, by decide, by omega, fun H5 w K5 S5 w0 w1 => ?_⟩
      refine HS.ixI [4, 40, 99] (HS.sq (K5 _ _ upd_same (by walk_at "ns"))) w0 w1 fun mt _ hmt => ?_
      have hmt' : 4 ≤ mt ∧ mt ≤ 99 := by simp only [List.mem_cons, List.not_mem_nil, or_false] at hmt; omega
      walk_at "hs"
      refine ⟨s, mt, 1 + u, _, rfl, S5, by omega, by omega, by omega, by omega, by omega, fun H6 b ls K6 hb0 hbs hb hll hL S6 => ?_⟩
      have h1 := hL.one
      walk_at "hs"
      refine ⟨b, ls, 1 + u, rfl, HS.sq hb, hL, by omega, by omega, by omega, fun H7 K7 => ?_⟩
      have hb7 := K7 _ _ hb id
      have S7 := S6.same K7
      walk_at "hs"
      intro p3 hp3
      walk_at "hs"
      intro p4 hp4
      have e3 := ne_of_none hb7 hp3
      have e4 : b ≠ p4 := ne_of_none (show upd H7 p3 _ b = _ by walk_at "hp") hp4
      have hm1 : ls.map V.int ++ [V.int 1] = (ls ++ [1]).map V.int := by rw [List.map_append]; rfl
      rw [hm1]
      refine ⟨p4, ls ++ [1], rfl, HS.sq upd_same, by simp, fun mx hmx hall => ?_⟩
      have hmx' : 1 ≤ mx ∧ mx ≤ 1 + u := by
        rcases List.mem_append.mp hmx with h | h
        · have := hL mx h; omega
        · rw [List.mem_singleton] at h; omega
      have S8 := (S7.new (o := .lst [.int 1]) hp3).new (o := .lst ((ls ++ [1]).map V.int)) hp4
      walk_at "hs"
      refine ⟨b, ls, mx, rfl, HS.sq (by walk_at "hp"), fun x hx => ⟨h1 x hx, hall x (List.mem_append_left _ hx)⟩, by omega, by omega, by omega, fun H8 K8 => ?_⟩
      have hb8 := K8 _ _ (show upd (upd H7 p3 (.lst [.int 1])) p4 (.lst ((ls ++ [1]).map V.int)) b = _ by walk_at "hp") id
      have S9 := S8.same K8
      walk_at "hs"
      refine ⟨_, _, rfl, HS.sq hb8, fun p5 hp5 => ?_⟩
      have e5 := ne_of_none hb8 hp5
      rw [← List.map_reverse]
      walk_at "hs"
      refine ⟨p5, ls.reverse, 1 + u, rfl, HS.sq upd_same, fun x hx => hL x (List.mem_reverse.mp hx), by rw [List.length_reverse]; omega, by omega, by omega, fun H9 K9 => ?_⟩
      have hb9 := K9 _ _ (show upd H8 p5 (.lst (ls.reverse.map V.int)) b = _ by walk_at "hp") id
      have S10 := (S9.new (o := .lst (ls.reverse.map V.int)) hp5).same K9
      walk_at "hs"
      refine ⟨by omega, fun D hD => ?_⟩
      have eD := ne_of_none hb9 hD
      rw [show (1 + u + 1 - 1).toNat = (1 + u).toNat by omega]
      refine lc_range (lo := 1) (n := (1 + u).toNat) (fun j H' => HS.Keep (fun _ => False) H9 H' ∧ H' D = some (.lst ((tabl ls j).map V.int))) ⟨.new hD, by rw [upd_same]; rfl⟩ ?_ ?_
      · rintro j H10 hj ⟨K10, h3⟩
        walk_at "hs"
        refine ⟨b, ls, _, rfl, HS.sq (K10 _ _ hb9 id), by omega, by omega, by omega, fun H11 K11 => ?_⟩
        refine ⟨_, K11 _ _ h3 id, HS.sz (by rw [List.length_map, tabl_len]; omega), (K10.trans K11).put hD, ?_⟩
        rw [upd_same, tabl_succ, List.map_append, Int.add_comm 1]
        rfl
      · rintro H10 ⟨K10, h3⟩
        have hb10 := K10 _ _ hb9 id
        have S11 := S10.same K10
        have hLN : Lens ls ((1 + u).toNat : Int) := fun x hx => by have := hL x hx; omega
        walk_at "hs"
        refine ⟨D, ls, (1 + u).toNat, rfl, HS.sq h3, hLN, by omega, by omega, fun H11 t K11 ht0 ht => ?_⟩
        have hb11 := K11 _ _ hb10 id
        have hD11 := K11 _ _ h3 id
        have S12 := S11.same K11
        have eDs : D ≠ s := by
          obtain ⟨l, m, c, q, _⟩ := S10
          exact (ne_of_none q hD).symm
        have etD := ne_of_none h3 ht0
        have etb : t ≠ b := (ne_of_none hb10 ht0).symm
        walk_at "hs"
        refine ⟨by omega, by omega, for_range (n := (1 + u).toNat) (fun j σ H' => Rng H' s (6010 * i + 1 + 1 + 1 + 6000) ∧ H' b = some (.lst (ls.map V.int)) ∧ H' t = some (.lst ((HS.desc ls).map V.int)) ∧ H' D = some (.lst ((bump ls (1 + u).toNat j).map V.int)) ∧ ∃ x6 x7, σ = [some (.ref a), some (.ref s), some (.int i), some (.int (1 + u)), some (.ref b), some (.ref D), some (.ref t), x6, x7]) ?_ ?_ ?_⟩
        · exact ⟨S12, hb11, ht, by rw [bump_0]; exact hD11, _, _, by rw [Int.zero_add]; rfl⟩
        · rintro j σ H12 hj ⟨S13, hb12, ht12, hD12, x6, x7, rfl⟩
          walk_at "hs"
          refine HS.ixZ (HS.sq hD12) (by omega) (by rw [show (0 + (j : Int)).toNat = j by omega]; exact bump_at hj) ?_
          walk_at "hs"
          refine HS.setL hD12 (j := j) (by rw [List.length_map, bump_len]; unfold ixN; rw [if_pos (by omega), if_pos (by omega)]; congr 1; omega) ?_
          rw [bump_set hj]
          exact ⟨S13.put eDs, by rw [upd_ne eD]; exact hb12, by rw [upd_ne (fun z => etD z.symm)]; exact ht12, upd_same, _, _, rfl⟩
        · rintro σ H12 ⟨S13, hb12, ht12, hD12, x6, x7, rfl⟩
          rw [bump_N] at hD12
          walk_at "hs"
          refine ⟨b, ls, rfl, HS.sq hb12, fun H13 q1 K13 hq10 hq1 => ?_⟩
          have S14 := S13.same K13
          refine HS.neL (HS.sq (K13 _ _ ht12 id)) (HS.sq hq1) ?_
          walk_at "hs"
          refine HS.in0 rfl ?_
          walk_at "hs"
          refine ⟨D, ls ++ [1], (1 + u).toNat, rfl, HS.sq (K13 _ _ hD12 id), ?_, by rw [List.length_append, List.length_singleton]; omega, by omega, fun H14 t2 K14 ht20 ht2 => ?_⟩
          · intro x hx
            rcases List.mem_append.mp hx with h | h
            · exact hLN x h
            · rw [List.mem_singleton] at h; omega
          have hb14 := K14 _ _ (K13 _ _ hb12 id) id
          have S15 := S14.same K14
          walk_at "hs"
          intro p6 hp6
          have nS15_p6 := S15.ne hp6
          generalize hG_p6 : upd _ p6 _ = Ha
          have at_p6 := HS.upgs hG_p6
          have Kn_p6 := HS.upgK hG_p6 hp6
          clear hG_p6
          have hb14 := Kn_p6 _ _ hb14 id
          have ht2 := Kn_p6 _ _ ht2 id
          have S15 := S15.same Kn_p6
          walk_at "hs"
          intro p7 hp7
          have nS15_p7 := S15.ne hp7
          generalize hG_p7 : upd _ p7 _ = Hb
          have at_p7 := HS.upgs hG_p7
          have Kn_p7 := HS.upgK hG_p7 hp7
          clear hG_p7
          have ht2 := Kn_p7 _ _ ht2 id
          have S15 := S15.same Kn_p7
          rw [hm1] at at_p7
          refine ⟨p7, _, rfl, HS.sq at_p7, fun H15 q2 K15 hq20 hq2 => ?_⟩
          refine HS.neL (HS.sq (K15 _ _ ht2 id)) (HS.sq hq2) ?_
          walk_at "hs"
          refine HS.in0 rfl ?_
          walk_at "hs"
          exact ⟨(S15.same K15).up (by omega), _, _, _, _, _, _, _, rfl⟩
    · rintro σ H2 ⟨S2, x2, x3, x4, x5, x6, x7, x8, rfl⟩
      walk_at "hs"
      intro p1 hp1
      walk_at "hs"
      refine ⟨p1, [], 0, rfl, HS.sq upd_same, fun _ h => absurd h List.not_mem_nil, by decide, by decide, fun H3 t1 K3 _ h1 => ?_⟩
      walk_at "hs"
      intro p2 hp2
      walk_at "hs"
      refine ⟨p2, [], 1, rfl, HS.sq upd_same, fun _ h => absurd h List.not_mem_nil, by decide, by decide, fun H4 t2 K4 _ h2 => ?_⟩
      have h1 := K4 _ _ (show upd H3 p2 (.lst [.int 0]) t1 = _ by walk_at "hp") id
      walk_at "hs"
      intro p3 hp3
      walk_at "hs"
      refine ⟨p3, [], 3, rfl, HS.sq upd_same, fun _ h => absurd h List.not_mem_nil, by decide, by decide, fun H5 t3 K5 _ h3 => ?_⟩
      have h1 := K5 _ _ (show upd H4 p3 (.lst [.int 0, .int 0, .int 0]) t1 = _ by walk_at "hp") id
      have h2 := K5 _ _ (show upd H4 p3 (.lst [.int 0, .int 0, .int 0]) t2 = _ by walk_at "hp") id
      walk_at "hs"
      intro p4 hp4
      walk_at "hs"
      refine ⟨p4, [1, 1, 1], 1, rfl, HS.sq upd_same, fun x h => by simp only [List.mem_cons, List.not_mem_nil, or_false] at h; omega, by decide, by decide, fun H6 t4 K6 _ h4 => ?_⟩
      have h1 := K6 _ _ (show upd H5 p4 (.lst [.int 3]) t1 = _ by walk_at "hp") id
      have h2 := K6 _ _ (show upd H5 p4 (.lst [.int 3]) t2 = _ by walk_at "hp") id
      have h3 := K6 _ _ (show upd H5 p4 (.lst [.int 3]) t3 = _ by walk_at "hp") id
      rw [HS.desc_nil] at h1 h2 h3
      rw [← HS.desc_of (List.Perm.refl [1, 1, 1]) (by decide)] at h4
      walk_at "hs"
      intro r hr1
      generalize hG_r : upd _ r _ = H7
      have at_r := HS.upgs hG_r
      have Kn_r := HS.upgK hG_r hr1
      clear hG_r
      have h1 := Kn_r _ _ h1 id
      have h2 := Kn_r _ _ h2 id
      have h3 := Kn_r _ _ h3 id
      have h4 := Kn_r _ _ h4 id
      walk_at "hs"
      intro w1 hw1
      generalize hG_w1 : upd _ w1 _ = H8
      have at_w1 := HS.upgs hG_w1
      have Kn_w1 := HS.upgK hG_w1 hw1
      clear hG_w1
      have h1 := Kn_w1 _ _ h1 id
      have h2 := Kn_w1 _ _ h2 id
      have h3 := Kn_w1 _ _ h3 id
      have h4 := Kn_w1 _ _ h4 id
      have at_r := Kn_w1 _ _ at_r id
      walk_at "hs"
      intro w2 hw2
      generalize hG_w2 : upd _ w2 _ = H9
      have at_w2 := HS.upgs hG_w2
      have Kn_w2 := HS.upgK hG_w2 hw2
      clear hG_w2
      have h1 := Kn_w2 _ _ h1 id
      have h2 := Kn_w2 _ _ h2 id
      have h3 := Kn_w2 _ _ h3 id
      have h4 := Kn_w2 _ _ h4 id
      have at_r := Kn_w2 _ _ at_r id
      have at_w1 := Kn_w2 _ _ at_w1 id
      walk_at "hs"
      intro w3 hw3
      generalize hG_w3 : upd _ w3 _ = H10
      have at_w3 := HS.upgs hG_w3
      have Kn_w3 := HS.upgK hG_w3 hw3
      clear hG_w3
      have h1 := Kn_w3 _ _ h1 id
      have h2 := Kn_w3 _ _ h2 id
      have h3 := Kn_w3 _ _ h3 id
      have h4 := Kn_w3 _ _ h4 id
      have at_r := Kn_w3 _ _ at_r id
      have at_w1 := Kn_w3 _ _ at_w1 id
      have at_w2 := Kn_w3 _ _ at_w2 id
      walk_at "hs"
      intro w4 hw4
      generalize hG_w4 : upd _ w4 _ = H11
      have at_w4 := HS.upgs hG_w4
      have Kn_w4 := HS.upgK hG_w4 hw4
      clear hG_w4
      have h1 := Kn_w4 _ _ h1 id
      have h2 := Kn_w4 _ _ h2 id
      have h3 := Kn_w4 _ _ h3 id
      have h4 := Kn_w4 _ _ h4 id
      have at_r := Kn_w4 _ _ at_r id
      have at_w1 := Kn_w4 _ _ at_w1 id
      have at_w2 := Kn_w4 _ _ at_w2 id
      have at_w3 := Kn_w4 _ _ at_w3 id
      walk_at "hs"
      refine HS.rep1 at_w4 (by decide) (by decide) ?_
      intro w5 hw5
      generalize hG_w5 : upd _ w5 _ = H12
      have at_w5 := HS.upgs hG_w5
      have Kn_w5 := HS.upgK hG_w5 hw5
      clear hG_w5
      have h1 := Kn_w5 _ _ h1 id
      have h2 := Kn_w5 _ _ h2 id
      have h3 := Kn_w5 _ _ h3 id
      have h4 := Kn_w5 _ _ h4 id
      have at_r := Kn_w5 _ _ at_r id
      have at_w1 := Kn_w5 _ _ at_w1 id
      have at_w2 := Kn_w5 _ _ at_w2 id
      have at_w3 := Kn_w5 _ _ at_w3 id
      walk_at "hs"
      intro w6 hw6
      generalize hG_w6 : upd _ w6 _ = H13
      have at_w6 := HS.upgs hG_w6
      have Kn_w6 := HS.upgK hG_w6 hw6
      clear hG_w6
      have h1 := Kn_w6 _ _ h1 id
      have h2 := Kn_w6 _ _ h2 id
      have h3 := Kn_w6 _ _ h3 id
      have h4 := Kn_w6 _ _ h4 id
      have at_r := Kn_w6 _ _ at_r id
      have at_w1 := Kn_w6 _ _ at_w1 id
      have at_w2 := Kn_w6 _ _ at_w2 id
      have at_w3 := Kn_w6 _ _ at_w3 id
      have at_w5 := Kn_w6 _ _ at_w5 id
      refine ⟨.list [HS.dInts [], HS.dInts [], HS.dInts [], HS.dInts [1, 1, 1]], .list [HS.dInts [], HS.dInts [], HS.dInts [], HS.dInts [1, 1, 1]], .lst (HS.sq at_r) (.cons (HS.dp_ints (HS.sq h1)) (.cons (HS.dp_ints (HS.sq h2)) (.cons (HS.dp_ints (HS.sq h3)) (.cons (HS.dp_ints (HS.sq h4)) .nil)))),
        .lst (HS.sq at_w6) (.cons (HS.dp_ints (ns := []) (HS.sq at_w1)) (.cons (HS.dp_ints (ns := []) (HS.sq at_w2)) (.cons (HS.dp_ints (ns := []) (HS.sq at_w3)) (.cons (HS.dp_ints (ns := [1, 1, 1]) (HS.sq at_w5)) .nil)))), rfl, rfl, ?_⟩
      exact k _
end
theorem all_mk {l : PySem.W.OpenLaw} {w : World} {K : PySem.W.Frag} {h : Heap} {mg : Str → Option Value} {fa f0 f1 f2 f3 f4 f5 f6 f7 : Addr} (X : K.In h) (G : h.Ns mainGlobals mg) (hfa : mg "law" = some (.ref fa))
    {od0 an0 od1 an1 od2 an2 od3 an3 od4 an4 od5 an5 od6 an6 od7 an7 : Option Addr} {sl0 sl1 sl2 sl3 sl4 sl5 sl6 sl7 : Array (Option Value)} {oc0 kV0 dc0 pm0 cd0 ct0 oc1 kV1 dc1 pm1 cd1 ct1 oc2 kV2 dc2 pm2 cd2 ct2 oc3 kV3 dc3 pm3 cd3 ct3 oc4 kV4 dc4 pm4 cd4 ct4 oc5 kV5 dc5 pm5 cd5 ct5 oc6 kV6 dc6 pm6 cd6 ct6 oc7 kV7 dc7 pm7 cd7 ct7 : Value}
    (a0 : PySem.W.nsIn K mainGlobals "_law_rng" = some (some (.ref f0)))
    (l0 : K.lookup f0 = some ⟨oc0, od0, .func (PySem.W.fnOf "_law_rng" "_law_rng" (defArgs s__law_rng) (defBody s__law_rng) (defScope s__law_rng) .none kV0 dc0 pm0 an0 cd0 ct0), sl0⟩) (c0 : PySem.W.codeIn K cd0 "_law_rng" = true) (k0 : PySem.W.keepIn K (.ref f0) = true)
    (a1 : PySem.W.nsIn K mainGlobals "_law_draw" = some (some (.ref f1)))
    (l1 : K.lookup f1 = some ⟨oc1, od1, .func (PySem.W.fnOf "_law_draw" "_law_draw" (defArgs s__law_draw) (defBody s__law_draw) (defScope s__law_draw) .none kV1 dc1 pm1 an1 cd1 ct1), sl1⟩) (c1 : PySem.W.codeIn K cd1 "_law_draw" = true) (k1 : PySem.W.keepIn K (.ref f1) = true)
    (a2 : PySem.W.nsIn K mainGlobals "_law_counted" = some (some (.ref f2)))
    (l2 : K.lookup f2 = some ⟨oc2, od2, .func (PySem.W.fnOf "_law_counted" "_law_counted" (defArgs s__law_counted) (defBody s__law_counted) (defScope s__law_counted) .none kV2 dc2 pm2 an2 cd2 ct2), sl2⟩) (c2 : PySem.W.codeIn K cd2 "_law_counted" = true) (k2 : PySem.W.keepIn K (.ref f2) = true)
    (a3 : PySem.W.nsIn K mainGlobals "_law_some" = some (some (.ref f3)))
    (l3 : K.lookup f3 = some ⟨oc3, od3, .func (PySem.W.fnOf "_law_some" "_law_some" (defArgs s__law_some) (defBody s__law_some) (defScope s__law_some) .none kV3 dc3 pm3 an3 cd3 ct3), sl3⟩) (c3 : PySem.W.codeIn K cd3 "_law_some" = true) (k3 : PySem.W.keepIn K (.ref f3) = true)
    (a4 : PySem.W.nsIn K mainGlobals "count_pages" = some (some (.ref f4)))
    (l4 : K.lookup f4 = some ⟨oc4, od4, .func (PySem.W.fnOf "count_pages" "count_pages" (defArgs s_count_pages) (defBody s_count_pages) (defScope s_count_pages) .none kV4 dc4 pm4 an4 cd4 ct4), sl4⟩) (c4 : PySem.W.codeIn K cd4 "count_pages" = true) (k4 : PySem.W.keepIn K (.ref f4) = true)
    (a5 : PySem.W.nsIn K mainGlobals "lengths_of" = some (some (.ref f5)))
    (l5 : K.lookup f5 = some ⟨oc5, od5, .func (PySem.W.fnOf "lengths_of" "lengths_of" (defArgs s_lengths_of) (defBody s_lengths_of) (defScope s_lengths_of) .none kV5 dc5 pm5 an5 cd5 ct5), sl5⟩) (c5 : PySem.W.codeIn K cd5 "lengths_of" = true) (k5 : PySem.W.keepIn K (.ref f5) = true)
    (a6 : PySem.W.nsIn K mainGlobals "_law_right" = some (some (.ref f6)))
    (l6 : K.lookup f6 = some ⟨oc6, od6, .func (PySem.W.fnOf "_law_right" "_law_right" (defArgs s__law_right) (defBody s__law_right) (defScope s__law_right) .none kV6 dc6 pm6 an6 cd6 ct6), sl6⟩) (c6 : PySem.W.codeIn K cd6 "_law_right" = true) (k6 : PySem.W.keepIn K (.ref f6) = true)
    (a7 : PySem.W.nsIn K mainGlobals "law" = some (some (.ref f7)))
    (l7 : K.lookup f7 = some ⟨oc7, od7, .func (PySem.W.fnOf "law" "law" (defArgs s_law) (defBody s_law) (defScope s_law) .none kV7 dc7 pm7 an7 cd7 ct7), sl7⟩) (c7 : PySem.W.codeIn K cd7 "law" = true) (k7 : PySem.W.keepIn K (.ref f7) = true)
    (z0 : PySem.W.nsIn K mainGlobals "abs" = some none)
    (z1 : PySem.W.nsIn K mainGlobals "len" = some none)
    (z2 : PySem.W.nsIn K mainGlobals "max" = some none)
    (z3 : PySem.W.nsIn K mainGlobals "min" = some none)
    (z4 : PySem.W.nsIn K mainGlobals "range" = some none)
    (z5 : PySem.W.nsIn K mainGlobals "repr" = some none)
    (z6 : PySem.W.nsIn K mainGlobals "sorted" = some none)
    (z7 : PySem.W.nsIn K mainGlobals "sum" = some none)
    : ∃ fd : FuncData, (∀ (s : Shared) (v : Value), BindsTo s fd ⟨[v], []⟩ [("script", v)]) ∧ ∀ base : Heap, K.In base → base.Ns mainGlobals mg → HS.FnG l.prog w K mg base CX0 5 fa fd ["script"] (sp_law K) := by
  have e := hfa.symm.trans (PySem.W.mg_of X G a7)
  cases e
  have F0 := fun_mk (st := s__law_rng) l0 c0 k0
  have F1 := fun_mk (st := s__law_draw) l1 c1 k1
  have F2 := fun_mk (st := s__law_counted) l2 c2 k2
  have F3 := fun_mk (st := s__law_some) l3 c3 k3
  have F4 := fun_mk (st := s_count_pages) l4 c4 k4
  have F5 := fun_mk (st := s_lengths_of) l5 c5 k5
  have F6 := fun_mk (st := s__law_right) l6 c6 k6
  have F7 := fun_mk (st := s_law) l7 c7 k7
  have T : Txt K mg ⟨f0, PySem.W.fnOf "_law_rng" "_law_rng" (defArgs s__law_rng) (defBody s__law_rng) (defScope s__law_rng) .none kV0 dc0 pm0 an0 cd0 ct0, f1, PySem.W.fnOf "_law_draw" "_law_draw" (defArgs s__law_draw) (defBody s__law_draw) (defScope s__law_draw) .none kV1 dc1 pm1 an1 cd1 ct1, f2, PySem.W.fnOf "_law_counted" "_law_counted" (defArgs s__law_counted) (defBody s__law_counted) (defScope s__law_counted) .none kV2 dc2 pm2 an2 cd2 ct2, f3, PySem.W.fnOf "_law_some" "_law_some" (defArgs s__law_some) (defBody s__law_some) (defScope s__law_some) .none kV3 dc3 pm3 an3 cd3 ct3, f4, PySem.W.fnOf "count_pages" "count_pages" (defArgs s_count_pages) (defBody s_count_pages) (defScope s_count_pages) .none kV4 dc4 pm4 an4 cd4 ct4, f5, PySem.W.fnOf "lengths_of" "lengths_of" (defArgs s_lengths_of) (defBody s_lengths_of) (defScope s_lengths_of) .none kV5 dc5 pm5 an5 cd5 ct5, f6, PySem.W.fnOf "_law_right" "_law_right" (defArgs s__law_right) (defBody s__law_right) (defScope s__law_right) .none kV6 dc6 pm6 an6 cd6 ct6, fa, PySem.W.fnOf "law" "law" (defArgs s_law) (defBody s_law) (defScope s_law) .none kV7 dc7 pm7 an7 cd7 ct7⟩ :=
    { F__law_rng := F0,
      g__law_rng := PySem.W.mg_of X G a0,
      b__law_rng := F0.binds (ps := ["script"]) fun _ _ _ _ _ _ us hl => match us, hl with | [_], _ => rfl,
      F__law_draw := F1,
      g__law_draw := PySem.W.mg_of X G a1,
      b__law_draw := F1.binds (ps := ["rng", "limit"]) fun _ _ _ _ _ _ us hl => match us, hl with | [_, _], _ => rfl,
      F__law_counted := F2,
      g__law_counted := PySem.W.mg_of X G a2,
      b__law_counted := F2.binds (ps := ["some", "wide"]) fun _ _ _ _ _ _ us hl => match us, hl with | [_, _], _ => rfl,
      F__law_some := F3,
      g__law_some := PySem.W.mg_of X G a3,
      b__law_some := F3.binds (ps := ["rng", "most", "longest"]) fun _ _ _ _ _ _ us hl => match us, hl with | [_, _, _], _ => rfl,
      F_count_pages := F4,
      g_count_pages := PySem.W.mg_of X G a4,
      b_count_pages := F4.binds (ps := ["book", "size"]) fun _ _ _ _ _ _ us hl => match us, hl with | [_, _], _ => rfl,
      F_lengths_of := F5,
      g_lengths_of := PySem.W.mg_of X G a5,
      b_lengths_of := F5.binds (ps := ["table"]) fun _ _ _ _ _ _ us hl => match us, hl with | [_], _ => rfl,
      F__law_right := F6,
      g__law_right := PySem.W.mg_of X G a6,
      b__law_right := F6.binds (ps := ["some", "top"]) fun _ _ _ _ _ _ us hl => match us, hl with | [_, _], _ => rfl,
      F_law := F7,
      g_law := PySem.W.mg_of X G a7,
      b_law := F7.binds (ps := ["script"]) fun _ _ _ _ _ _ us hl => match us, hl with | [_], _ => rfl,
      z_abs := PySem.W.mg_none_of X G z0,
      z_len := PySem.W.mg_none_of X G z1,
      z_max := PySem.W.mg_none_of X G z2,
      z_min := PySem.W.mg_none_of X G z3,
      z_range := PySem.W.mg_none_of X G z4,
      z_repr := PySem.W.mg_none_of X G z5,
      z_sorted := PySem.W.mg_none_of X G z6,
      z_sum := PySem.W.mg_none_of X G z7,
      kb_lengths_of_0_table := ⟨fun s us ws h1 h2 => match us, ws, h1, h2 with | [], [_], _, _ => .of_eq rfl, fun r1 r2 => .cons (HS.relAt r2 0) (.nil)⟩ }
  exact ⟨_, fun s v => .of_eq rfl, fun base _ _ => ok_law T⟩
end WK10
open PySem PySem.W PyProof.Rows
set_option maxHeartbeats 0 in
theorem PySem.Challenge.cw_pagecounts_k10_lengths_read_from_tables_holds : PySem.Challenge.rw_pagecounts_k10_lengths_read_from_tables.Holds := by
  w_on; o_law; k_head; (case hw => w_witness2)
  k_fill
  refine HS.walk_ofG (l := PySem.Challenge.rw_pagecounts_k10_lengths_read_from_tables) (n := 63) (k := 5) (x := "script") (CX := fun _ => L2.CX0) (sp := fun w => WK10.sp_law _) rfl (by decide) rfl ⟨rfl, by decide, by decide⟩ (fun w h Y => PySem.W.kIn_of Y) ?F (fun _ _ a ns hl _ hS => ⟨a, ns, rfl, hS, hl, fun _ => rfl⟩) (fun _ _ _ _ _ h => h)
  case F =>
    intro w mg fa h KX G hmg
    refine' WK10.all_mk KX G hmg ?a0 ?l0 ?c0 ?k0 ?a1 ?l1 ?c1 ?k1 ?a2 ?l2 ?c2 ?k2 ?a3 ?l3 ?c3 ?k3 ?a4 ?l4 ?c4 ?k4 ?a5 ?l5 ?c5 ?k5 ?a6 ?l6 ?c6 ?k6 ?a7 ?l7 ?c7 ?k7 ?z0 ?z1 ?z2 ?z3 ?z4 ?z5 ?z6 ?z7
    (case a0 => k_is); (case l0 => k_is); (case c0 => k_is); (case k0 => k_is); (case a1 => k_is); (case l1 => k_is); (case c1 => k_is); (case k1 => k_is); (case a2 => k_is); (case l2 => k_is); (case c2 => k_is); (case k2 => k_is); (case a3 => k_is); (case l3 => k_is); (case c3 => k_is); (case k3 => k_is); (case a4 => k_is); (case l4 => k_is); (case c4 => k_is); (case k4 => k_is); (case a5 => k_is); (case l5 => k_is); (case c5 => k_is); (case k5 => k_is); (case a6 => k_is); (case l6 => k_is); (case c6 => k_is); (case k6 => k_is); (case a7 => k_is); (case l7 => k_is); (case c7 => k_is); (case k7 => k_is); (case z0 => k_is); (case z1 => k_is); (case z2 => k_is); (case z3 => k_is); (case z4 => k_is); (case z5 => k_is); (case z6 => k_is); (case z7 => k_is)

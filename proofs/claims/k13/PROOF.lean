import PyProof.Rows.All
import Wide.All
import OpenK.AllK
import Wide.FinOn
import HandS.Evl
import HandS.GenList
import HandS.Walk
import HandS.WordsExc
import HandS.ForMost
import HandS.Wide
import HandS.Style
import HandS.SortInts
import HandS.SortKw
import HandS.SetFor
import HandS.Flow
import HandS.Gcd
import HandS.Strs
import HandS.Defaults
import HandS.Deep
import HandS.NoneIn
import HandS.ExcInit
import HandS.ExcIs
import HandS.ExcField
import HandS.ExcOwn
import HandS.IsInst
import KE.KExcIs
import KE.KIsAll
import HandS.RaiseMore
import KE.KMathG
import KE.KMathGC
import PyProof.ReprRoads
import PyProof.ReprBulk
import PyProof.FitsInt
import KE.SortData
import KE.DatumOrd
import PySem.Challenge.RW_pagecounts_k13_errors_of_tables_and_chai
set_option Elab.async false
set_option linter.all false
set_option maxRecDepth 100000
set_option maxHeartbeats 4000000
/-! Readings, step by step, from their heads (own lemmas over HandS). -/
namespace HS
open PySem PySem.Spec PyProof.Rows L2
section
variable {σ : L2.St} {H : Hp} {Q : VK} {t u : TS} {te ta tb tx : TE} {tt tv : TT} {n bk ct : L2.St → Hp → Prop} {rt : VK} {K : PySem.W.Frag}
theorem seq (h : t ⟨u ⟨n, rt, bk, ct⟩, rt, bk, ct⟩ σ H) : tSeq t u ⟨n, rt, bk, ct⟩ σ H := h
theorem nxt (h : n σ H) : tNext ⟨n, rt, bk, ct⟩ σ H := h
theorem brk (h : bk σ H) : tBreak ⟨n, rt, bk, ct⟩ σ H := h
theorem cnt (h : ct σ H) : tCont ⟨n, rt, bk, ct⟩ σ H := h
theorem asg {g : TG} (h : te σ H fun x H1 => g x σ H1 n) : tAsg te g ⟨n, rt, bk, ct⟩ σ H := h
theorem nm {v : V} {i : Nat} {q : L2.St → Hp → Prop} (h : q (σ.set i (some v)) H) : gName i v σ H q := h
theorem sub {to ti : TE} {ts : TSet} {v : V} {q : L2.St → Hp → Prop} (h : to σ H fun o H1 => ti σ H1 fun i H2 => ts o i v H2 fun H3 => q σ H3) : gSub to ti ts v σ H q := h
theorem var {i : Nat} {v : V} (h : σ[i]? = some (some v)) (q : Q v H) : tVar i σ H Q := ⟨v, h, q⟩
theorem cst {v : V} (q : Q v H) : tC v σ H Q := q
theorem op {r : R2} (h : ta σ H fun x H1 => tb σ H1 fun y H2 => r x y H2 Q) : tOp r ta tb σ H Q := h
theorem un {r : V → Hp → VK → Prop} (h : ta σ H fun x H1 => r x H1 Q) : tUn r ta σ H Q := h
theorem i0 {g : Int → Int → V} {i j : Int} (q : Q (g i j) H) : rI0 g (.int i) (.int j) H Q := ⟨i, j, rfl, rfl, q⟩
theorem i1 {C : Int → Int → Prop} {g : Int → Int → V} {i j : Int} (q : C i j ∧ Q (g i j) H) : rI C g (.int i) (.int j) H Q := ⟨i, j, rfl, rfl, q⟩
theorem u0 {g : Int → V} {i : Int} (q : Q (g i) H) : rU g (.int i) H Q := ⟨i, rfl, q⟩
theorem eqI {i j : Int} (q : Q (.bl (decide (i = j))) H) : rEq (.int i) (.int j) H Q := ⟨rfl, by
  have e : decide ((V.int i) = V.int j) = decide (i = j) := by
    by_cases h : i = j
    · rw [h]; simp
    · have h2 : ¬ (V.int i = V.int j) := fun z => h (V.int.inj z)
      rw [decide_eq_false h, decide_eq_false h2]
  rw [e]; exact q⟩
theorem neI {i j : Int} (q : Q (.bl (!decide (i = j))) H) : rNe (.int i) (.int j) H Q := ⟨rfl, by
  have e : decide ((V.int i) = V.int j) = decide (i = j) := by
    by_cases h : i = j
    · rw [h]; simp
    · have h2 : ¬ (V.int i = V.int j) := fun z => h (V.int.inj z)
      rw [decide_eq_false h, decide_eq_false h2]
  rw [e]; exact q⟩
theorem tst {q : Bool → Hp → Prop} (h : te σ H fun x H' => ∃ k, x = .bl k ∧ q k H') : tTest te σ H q := h
theorem tb1 {q : Bool → Hp → Prop} (h : te σ H fun x H' => ∃ k, x = .bl k ∧ q k H') : tB te σ H q := h
theorem bex {b : Bool} {q : Bool → Prop} (h : q b) : ∃ k, V.bl b = V.bl k ∧ q k := ⟨b, rfl, h⟩
theorem ifs (h : tt σ H fun b H1 => if b = true then t ⟨n, rt, bk, ct⟩ σ H1 else u ⟨n, rt, bk, ct⟩ σ H1) : tIfS tt t u ⟨n, rt, bk, ct⟩ σ H := h
theorem ife (h : tt σ H fun b H1 => if b = true then ta σ H1 Q else tb σ H1 Q) : tIf tt ta tb σ H Q := h
theorem and {q : Bool → Hp → Prop} (h : tt σ H fun c H1 => if c = true then tv σ H1 q else q false H1) : tAnd tt tv σ H q := h
theorem or {q : Bool → Hp → Prop} (h : tt σ H fun c H1 => if c = true then q true H1 else tv σ H1 q) : tOr tt tv σ H q := h
theorem not {q : Bool → Hp → Prop} (h : tt σ H fun c H1 => q (!c) H1) : tNot tt σ H q := h
theorem andV (h : ta σ H fun x H1 => ∃ c, x = .bl c ∧ if c = true then tb σ H1 Q else Q (.bl false) H1) : tAndV ta tb σ H Q := h
theorem orV (h : ta σ H fun x H1 => ∃ c, x = .bl c ∧ if c = true then Q (.bl true) H1 else tb σ H1 Q) : tOrV ta tb σ H Q := h
theorem notV (h : ta σ H fun x H1 => ∃ c, x = .bl c ∧ Q (.bl (!c)) H1) : tNotV ta σ H Q := h
theorem chn {r r' : R2} {tc : TE} (h : ta σ H fun x H1 => tb σ H1 fun y H2 => r x y H2 fun z H3 => ∃ k, z = .bl k ∧ if k = true then tc σ H3 fun w H4 => r' y w H4 Q else Q (.bl false) H3) : tChain r r' ta tb tc σ H Q := h
theorem ret (h : te σ H rt) : tRet te ⟨n, rt, bk, ct⟩ σ H := h
theorem retN (h : rt .non H) : tRetN ⟨n, rt, bk, ct⟩ σ H := h
theorem drp (h : te σ H fun _ H1 => n σ H1) : tDrop te ⟨n, rt, bk, ct⟩ σ H := h
theorem cb {r : List V → Hp → VK → Prop} {tl : TA} (h : tl σ H fun vs H1 => r vs H1 Q) : tCB r tl σ H Q := h
theorem anil {q : List V → Hp → Prop} (h : q [] H) : tNil σ H q := h
theorem acons {tl : TA} {q : List V → Hp → Prop} (h : te σ H fun x H1 => tl σ H1 fun xs H2 => q (x :: xs) H2) : tCons te tl σ H q := h
theorem cal {sp : Sp} {E : XK} {tl : TA} (h : tl σ H fun vs H1 => sp vs H1 Q E) : tCall sp [] E tl σ H Q := by
  show tl σ H fun vs H1 => sp (vs ++ []) H1 Q E
  simp only [List.append_nil]; exact h
theorem tup {tl : TA} (h : tl σ H fun xs H1 => xs.length ≤ sizeLine ∧ ∀ p, H1 p = none → Q (.ref p) (upd H1 p (.tup xs))) : tTup tl σ H Q := h
theorem lst {tl : TA} (h : tl σ H fun xs H1 => xs.length ≤ sizeLine ∧ ∀ p, H1 p = none → Q (.ref p) (upd H1 p (.lst xs))) : tLst tl σ H Q := h
theorem par {i j : Nat} {tl : TA} (h : tl σ H fun vs H1 => ∃ v w, vs = [v, w] ∧ n ((σ.set i (some v)).set j (some w)) H1) : tPar i j tl ⟨n, rt, bk, ct⟩ σ H := h
theorem ex2 {v w : V} {q : V → V → Prop} (h : q v w) : ∃ a b, [v, w] = [a, b] ∧ q a b := ⟨v, w, rfl, h⟩
theorem aug {i : Nat} {ti : TIp} {x : V} (e : σ[i]? = some (some x)) (h : te σ H fun y H1 => ti x y H1 fun z H2 => n (σ.set i (some z)) H2) : tAug i te ti ⟨n, rt, bk, ct⟩ σ H := ⟨x, e, h⟩
theorem ipi {f : Int → Int → Int} {i j : Int} (q : Q (.int (f i j)) H) : ipI f (.int i) (.int j) H Q := ⟨i, j, rfl, rfl, q⟩
theorem addI {i j : Int} (q : Q (.int (i + j)) H) : rAdd (.int i) (.int j) H Q := ⟨i, j, rfl, rfl, q⟩
theorem ixL {p : Addr} {xs : List V} {i : Int} {v : V} (h : SqL K H p xs) (e : atI xs i = some v) (q : Q v H) : rIxL K (.ref p) (.int i) H Q := ⟨p, xs, i, v, rfl, rfl, h, e, q⟩
theorem ixT {p : Addr} {xs : List V} {i : Int} {v : V} (h : SqT K H p xs) (e : atI xs i = some v) (q : Q v H) : rIxT K (.ref p) (.int i) H Q := ⟨p, xs, i, v, rfl, rfl, h, e, q⟩
/-- an if over a decided thing -/
theorem itd {c A B : Prop} [Decidable c] (h1 : c → A) (h2 : ¬ c → B) : if decide c = true then A else B := by
  by_cases h : c
  · rw [decide_eq_true h, if_pos rfl]; exact h1 h
  · rw [decide_eq_false h, if_neg Bool.false_ne_true]; exact h2 h
theorem itn {c A B : Prop} [Decidable c] (h1 : ¬ c → A) (h2 : c → B) : if (!decide c) = true then A else B := by
  by_cases h : c
  · rw [decide_eq_true h]; exact iteF (h2 h)
  · rw [decide_eq_false h]; exact iteT (h1 h)
theorem it1 {c A B : Prop} [Decidable c] (hc : c) (h : A) : if decide c = true then A else B := itd (fun _ => h) fun z => absurd hc z
theorem it0 {c A B : Prop} [Decidable c] (hc : ¬ c) (h : B) : if decide c = true then A else B := itd (fun z => absurd z hc) fun _ => h
theorem in1 {c A B : Prop} [Decidable c] (hc : ¬ c) (h : A) : if (!decide c) = true then A else B := itn (fun _ => h) fun z => absurd z hc
theorem in0 {c A B : Prop} [Decidable c] (hc : c) (h : B) : if (!decide c) = true then A else B := itn (fun z => absurd hc z) fun _ => h
end
/-! ### heaps: all but S stands -/
def Keep (S : Addr → Prop) (H H' : Hp) : Prop := ∀ a o, H a = some o → ¬ S a → H' a = some o
section
variable {S : Addr → Prop} {H H1 H2 : Hp} {p q : Addr} {o u : HO}
theorem Keep.refl : Keep S H H := fun _ _ h _ => h
theorem Keep.trans (a : Keep S H H1) (b : Keep S H1 H2) : Keep S H H2 := fun x o h n => b x o (a x o h n) n
theorem Keep.new (h : H p = none) : Keep S H (upd H p o) := fun a u e _ => by rw [upd_ne (ne_of_none e h)]; exact e
theorem Keep.put (k : Keep S H H1) (h : H p = none) : Keep S H (upd H1 p o) := fun a u e n => by rw [upd_ne (ne_of_none e h)]; exact k a u e n
theorem Keep.at (k : Keep S H H1) (h : S p) : Keep S H (upd H1 p o) := fun a u e n => by rw [upd_ne (fun z => n (by rw [z]; exact h))]; exact k a u e n
theorem Keep.free (k : Keep S H H1) (h : H1 p = none) (n : ¬ S p) : H p = none := by
  cases e : H p with
  | none => rfl
  | some o => have z := k p o e n; rw [h] at z; cases z
theorem Keep.sq {K : PySem.W.Frag} {xs : List V} (k : Keep S H H1) (h : SqL K H p xs) (n : ¬ S p) : SqL K H1 p xs := by
  rcases h with (h | ⟨o, h⟩) | h
  · exact .inl (.inl (k _ _ h n))
  · exact .inl (.inr ⟨o, k _ _ h n⟩)
  · exact .inr h
theorem Keep.st {K : PySem.W.Frag} {xs : List V} (k : Keep S H H1) (h : SqT K H p xs) (n : ¬ S p) : SqT K H1 p xs := by
  rcases h with (h | ⟨o, h⟩) | h
  · exact .inl (.inl (k _ _ h n))
  · exact .inl (.inr ⟨o, k _ _ h n⟩)
  · exact .inr h
theorem sq {K : PySem.W.Frag} {xs : List V} (h : H p = some (.lst xs)) : SqL K H p xs := .inl (.inl h)
theorem st {K : PySem.W.Frag} {xs : List V} (h : H p = some (.tup xs)) : SqT K H p xs := .inl (.inl h)
end
end HS
theorem hu64 {A : PySem.Around} {k : Nat} (hr : L2.Room k A) : A.units + 64 < PySem.cLine := hr.units
namespace HS
open PySem PySem.Spec PyProof.Rows L2
section
variable {σ : L2.St} {H : Hp} {Q : VK} {te ta tb tx : TE} {K : PySem.W.Frag} {X : Cx}
theorem sz {n : Nat} (h : n ≤ 100000) : n < sizeLine := Nat.lt_of_le_of_lt h (by decide)
theorem szl {n : Nat} (h : n ≤ 100000) : n ≤ sizeLine := Nat.le_of_lt (sz h)
theorem pe_fold {e : Expr} {t : TE} (z : Int) (h : PE X e t) (k : ∀ (σ : L2.St) (H : Hp) (Q : VK), Q (.int z) H → t σ H Q) : PE X e (tC (.int z)) :=
  ⟨fun pins s σ H Q I q => h.run pins s σ H Q I (k σ H Q q)⟩
theorem ii {a b : Int} {q : Int → Int → Prop} (h : q a b) : ∃ i j, [V.int a, V.int b] = [V.int i, V.int j] ∧ q i j := ⟨a, b, rfl, h⟩
theorem bmL {r : V → List V → Hp → VK → Prop} {tl : TA} (h : ta σ H fun x H1 => tyV K "list" x H1 ∧ tl σ H1 fun xs H2 => r x xs H2 Q) : tBM K "list" r ta tl σ H Q := h
theorem bmL0 {r : V → List V → Hp → VK → Prop} (h : ta σ H fun x H1 => tyV K "list" x H1 ∧ r x [] H1 Q) : tBM0 K "list" r ta σ H Q := h
theorem tyL {p : Addr} {xs : List V} {A : Prop} (h : H p = some (.lst xs)) (q : A) : tyV K "list" (.ref p) H ∧ A := ⟨.inl ⟨rfl, _, .inl (.inl h)⟩, q⟩
theorem app {l : Addr} {xs : List V} {y : V} (h : H l = some (.lst xs)) (q : xs.length < sizeLine ∧ Q .non (upd H l (.lst (xs ++ [y])))) : rAppend (.ref l) [y] H Q := ⟨l, xs, y, rfl, rfl, h, q⟩
theorem pop0 {l : Addr} {y : V} {ys : List V} (h : H l = some (.lst (y :: ys))) (q : Q y (upd H l (.lst ys))) : rPopAt (.ref l) [.int 0] H Q := ⟨l, y :: ys, 0, 0, y, rfl, rfl, h, by decide, by decide, by simp [seqIndex?], rfl, q⟩
theorem setL {p : Addr} {xs : List V} {k : Int} {j : Nat} {v : V} {q : Hp → Prop} (h : H p = some (.lst xs)) (e : ixN xs.length k = some j) (g : q (upd H p (.lst (xs.set j v)))) : rSetL (.ref p) (.int k) v H q := ⟨p, xs, _, j, rfl, rfl, h, e, g⟩
theorem mulW {i j : Int} (a b : Nat) (h0 : 0 ≤ i) (h1 : i < 2 ^ a) (g0 : 0 ≤ j) (g1 : j < 2 ^ b) (ha : 0 < a) (hb : 0 < b) (h : a + b ≤ 1000000) : CMulW i j := by
  refine wide_mul (a := a) (b := b) ?_ ?_ ha hb h
  · have : ((i.natAbs : Nat) : Int) < ((2 ^ a : Nat) : Int) := by rw [Int.natAbs_of_nonneg h0]; simpa using h1
    exact Int.ofNat_lt.mp this
  · have : ((j.natAbs : Nat) : Int) < ((2 ^ b : Nat) : Int) := by rw [Int.natAbs_of_nonneg g0]; simpa using g1
    exact Int.ofNat_lt.mp this
theorem divW {i j : Int} (b : Nat) (h : 0 < j) (h1 : j < 2 ^ b) (hb : 0 < b) (h9 : b ≤ 9000) : CDivW i j := by
  refine wide_div (b := b) h ?_ hb h9
  have : ((j.natAbs : Nat) : Int) < ((2 ^ b : Nat) : Int) := by rw [Int.natAbs_of_nonneg (by omega)]; simpa using h1
  exact Int.ofNat_lt.mp this
theorem get_int {ns : List Int} {i : Nat} {x : V} (hi : (ns.map V.int)[i]? = some x) : ∃ z, x = .int z ∧ ns[i]? = some z ∧ i < ns.length := by
  rw [List.getElem?_map] at hi
  cases e : ns[i]? with
  | none => rw [e] at hi; cases hi
  | some z => rw [e] at hi; exact ⟨z, (Option.some.inj hi).symm, rfl, (List.getElem?_eq_some_iff.mp e).1⟩
end
end HS
namespace HS
open PySem PySem.Spec PyProof.Rows L2
theorem Keep.new' {S : Addr → Prop} {H H0 H1 : Hp} {p : Addr} {o : HO} (h : H0 p = none) (k0 : Keep S H H0) (n : ¬ S p) (k : Keep S H H1) : Keep S H (upd H1 p o) := k.put (k0.free h n)
theorem nS2 {p a b : Addr} (h1 : p ≠ a) (h2 : p ≠ b) : ¬ (p = a ∨ p = b) := fun z => z.elim h1 h2
theorem nS3 {p a b c : Addr} (h1 : p ≠ a) (h2 : p ≠ b) (h3 : p ≠ c) : ¬ (p = a ∨ p = b ∨ p = c) := fun z => z.elim h1 fun z => z.elim h2 h3
end HS
namespace HS
open PySem PySem.Spec PyProof.Rows L2
section
variable {σ : L2.St} {H : Hp} {t u : TS} {n bk ct : L2.St → Hp → Prop} {rt : VK}
theorem pnx (h : n σ H) : Ends.nx ⟨n, rt, bk, ct⟩ σ H := h
theorem pbk (h : bk σ H) : Ends.bk ⟨n, rt, bk, ct⟩ σ H := h
theorem pct (h : ct σ H) : Ends.ct ⟨n, rt, bk, ct⟩ σ H := h
theorem prt {v : V} (h : rt v H) : Ends.rt ⟨n, rt, bk, ct⟩ v H := h
theorem cut (M : L2.St → Hp → Prop) (h : t ⟨M, rt, bk, ct⟩ σ H) (k : ∀ σ' H', M σ' H' → u ⟨n, rt, bk, ct⟩ σ' H') : Evl.tCut t u ⟨n, rt, bk, ct⟩ σ H := ⟨M, h, k⟩
theorem pow_lt {i : Int} {a : Nat} (k : Nat) (h0 : 0 ≤ i) (h : i < 2 ^ a) : 0 ≤ i ^ k ∧ (i ^ k < 2 ^ (a * k) ∨ k = 0) := by
  refine ⟨Int.pow_nonneg h0, ?_⟩
  cases k with
  | zero => exact .inr rfl
  | succ k =>
    refine .inl ?_
    obtain ⟨m, rfl⟩ := Int.eq_ofNat_of_zero_le h0
    have h' : m < 2 ^ a := by have : ((m : Nat) : Int) < ((2 ^ a : Nat) : Int) := by simpa using h
                              exact Int.ofNat_lt.mp this
    have := Nat.pow_lt_pow_left h' (Nat.succ_ne_zero k)
    rw [← Nat.pow_mul] at this
    have z : ((m ^ (k + 1) : Nat) : Int) < ((2 ^ (a * (k + 1)) : Nat) : Int) := Int.ofNat_lt.mpr this
    simpa using z
end
end HS
namespace HS
open PySem PySem.Spec PyProof.Rows L2
section
variable {σ : L2.St} {H : Hp} {Q : VK} {ta tb te : TE} {K : PySem.W.Frag}
theorem szc {n : Nat} {A : Prop} (h : n ≤ 100000) (q : A) : n ≤ sizeLine ∧ A := ⟨szl h, q⟩
theorem szd {n : Nat} {A : Prop} (h : n ≤ 100000) (q : A) : n < sizeLine ∧ A := ⟨sz h, q⟩
theorem wp {σ1 σ2 : L2.St} {vs : List Nat} {A : Prop} (e : wipe σ2 vs = wipe σ1 vs) (q : A) : wipe σ2 vs = wipe σ1 vs ∧ A := ⟨e, q⟩
theorem yes {q : Bool → Hp → Prop} (h : q true H) : tYes σ H q := h
theorem ixI {p : Addr} {i : Int} (ns : List Int) (h : SqL K H p (ns.map V.int)) (h0 : 0 ≤ i) (h1 : i < ns.length) (q : ∀ z, ns[i.toNat]? = some z → z ∈ ns → Q (.int z) H) : rIxL K (.ref p) (.int i) H Q := by
  have hi : i.toNat < ns.length := by omega
  have e : ns[i.toNat]? = some ns[i.toNat] := List.getElem?_eq_getElem hi
  refine ⟨p, ns.map V.int, i, .int ns[i.toNat], rfl, rfl, h, ?_, q _ e (List.getElem_mem hi)⟩
  exact at_of (j := i.toNat) (by omega) (by rw [List.getElem?_map, e]; rfl)
theorem ixV {p : Addr} {i : Int} {xs : List V} (h : SqL K H p xs) (h0 : 0 ≤ i) (h1 : i < xs.length) (q : ∀ v, xs[i.toNat]? = some v → v ∈ xs → Q v H) : rIxL K (.ref p) (.int i) H Q := by
  have hi : i.toNat < xs.length := by omega
  have e : xs[i.toNat]? = some xs[i.toNat] := List.getElem?_eq_getElem hi
  refine ⟨p, xs, i, xs[i.toNat], rfl, rfl, h, ?_, q _ e (List.getElem_mem hi)⟩
  exact at_of (j := i.toNat) (by omega) e
theorem ixVT {p : Addr} {i : Int} {xs : List V} (h : SqT K H p xs) (h0 : 0 ≤ i) (h1 : i < xs.length) (q : ∀ v, xs[i.toNat]? = some v → v ∈ xs → Q v H) : rIxT K (.ref p) (.int i) H Q := by
  have hi : i.toNat < xs.length := by omega
  have e : xs[i.toNat]? = some xs[i.toNat] := List.getElem?_eq_getElem hi
  refine ⟨p, xs, i, xs[i.toNat], rfl, rfl, h, ?_, q _ e (List.getElem_mem hi)⟩
  exact at_of (j := i.toNat) (by omega) e
theorem lc {wi : TI} {g : TG} {tt : TT} {vs : List Nat} (h : wi σ H fun J H1 => ∀ D, H1 D = none → ∃ W : Nat → Nat → Hp → Prop, (∃ m, W 0 m (upd H1 D (.lst []))) ∧ ∀ i m H, W i m H → (J.stop i H ∧ Q (.ref D) H) ∨ (J.go i H ∧ ∃ Nx : Hp → Prop, (∀ H', Nx H' → ∃ m', m' < m ∧ W (i + 1) m' H') ∧ ∀ x H', J.yld i H x H' → g x (wipe σ vs) H' fun σ2 H2 => wipe σ2 vs = wipe σ vs ∧ tt σ2 H2 fun b H3 => if b = true then te σ2 H3 fun y H4 => ∃ acc, H4 D = some (.lst acc) ∧ acc.length < sizeLine ∧ Nx (upd H4 D (.lst (acc ++ [y]))) else Nx H3)) : tLc wi g tt te vs σ H Q := h
theorem rng1 {tl : TA} {R : It → Hp → Prop} (h : tl σ H fun vs H1 => ∃ j : Int, vs = [.int j] ∧ -(2 ^ 62) ≤ j ∧ j < 2 ^ 62 ∧ R (Itr 0 j.toNat) H1) : iRng1 tl σ H R := h
theorem rng2 {tl : TA} {R : It → Hp → Prop} (h : tl σ H fun vs H1 => ∃ i j : Int, vs = [.int i, .int j] ∧ (-(2 ^ 62) ≤ i ∧ i < 2 ^ 62 ∧ -(2 ^ 62) ≤ j ∧ j < 2 ^ 62) ∧ R (Itr i (j - i).toNat) H1) : iRng2 tl σ H R := h
theorem lis {tl : TE} {R : It → Hp → Prop} (h : tl σ H fun x H1 => ∃ a, x = .ref a ∧ (∃ xs, SqL K H1 a xs) ∧ R (Itl K a) H1) : iList K tl σ H R := h
theorem ra {a : Addr} {q : Addr → Prop} (h : q a) : ∃ b, V.ref a = V.ref b ∧ q b := ⟨a, rfl, h⟩
theorem i1e {a : Int} {q : Int → Prop} (h : q a) : ∃ i, [V.int a] = [V.int i] ∧ q i := ⟨a, rfl, h⟩
theorem fr {wi : TI} {g : TG} {tb : TS} {D : Ends} (h : wi σ H fun J H1 => ∃ W : Nat → Nat → L2.St → Hp → Prop, (∃ m, W 0 m σ H1) ∧ ∀ i m σ H, W i m σ H →
    (J.stop i H ∧ D.nx σ H) ∨ (J.go i H ∧ ∃ N : L2.St → Hp → Prop, (∀ σ' H', N σ' H' → ∃ m', m' < m ∧ W (i + 1) m' σ' H') ∧ ∀ x H', J.yld i H x H' → g x σ H' fun σ2 H2 => tb { D with nx := N, ct := N, bk := D.nx } σ2 H2)) : tFor wi g tb D σ H := h
end
end HS
namespace HS
open PySem PySem.Spec PyProof.Rows L2
theorem iteM {c : Bool} {ta tb : TE} {σ : L2.St} {H1 : Hp} {Q : VK} (M : VK) (h : c = true → ∀ Q' : VK, (∀ v H', M v H' → Q' v H') → ta σ H1 Q') (g : c = false → ∀ Q' : VK, (∀ v H', M v H' → Q' v H') → tb σ H1 Q') (k : ∀ v H', M v H' → Q v H') :
    if c = true then ta σ H1 Q else tb σ H1 Q := by
  cases c with
  | true => rw [if_pos rfl]; exact h rfl Q k
  | false => rw [if_neg Bool.false_ne_true]; exact g rfl Q k
/-- ceilings -/
theorem ceil_eq {i j : Int} (hj : 1 ≤ j) : (i + j - 1) / j = i / j + (if 0 < i % j then 1 else 0) := by
  have h0 := Int.emod_nonneg i (by omega : j ≠ 0)
  have h1 := Int.emod_lt_of_pos i (by omega : 0 < j)
  have e := Int.mul_ediv_add_emod i j
  generalize i / j = q at e ⊢
  generalize i % j = r at e h0 h1 ⊢
  subst e
  split
  · rename_i h
    rw [show j * q + r + j - 1 = (r - 1) + j * (q + 1) by rw [Int.mul_add]; omega, Int.add_mul_ediv_left _ _ (by omega), Int.ediv_eq_zero_of_lt (by omega) (by omega)]
    omega
  · rename_i h
    rw [show j * q + r + j - 1 = (j - 1) + j * q by omega, Int.add_mul_ediv_left _ _ (by omega), Int.ediv_eq_zero_of_lt (by omega) (by omega)]
    omega
end HS
namespace HS
open PySem PySem.Spec PyProof.Rows L2
section
variable {σ : L2.St} {H : Hp} {te : TE} {t : TS} {tg ug : TGn} {n bk ct : List V → L2.St → Hp → Prop} {rt : List V → VK} {ys : List V} {Q : VK}
theorem gthen (h : tg ⟨fun ys' σ' H' => ug ⟨n, rt, bk, ct⟩ ys' σ' H', rt, bk, ct⟩ ys σ H) : tGThen tg ug ⟨n, rt, bk, ct⟩ ys σ H := h
theorem g0 (h : n ys σ H) : tG0 ⟨n, rt, bk, ct⟩ ys σ H := h
theorem gpl (h : t ⟨n ys, rt ys, bk ys, ct ys⟩ σ H) : tPlain t ⟨n, rt, bk, ct⟩ ys σ H := h
theorem gyl (h : ys.length < sizeLine ∧ te σ H fun x H1 => n (ys ++ [x]) σ H1) : tGYield te ⟨n, rt, bk, ct⟩ ys σ H := h
theorem lgn {tg : TGen} (h : tg σ H fun out H2 => ∀ p, H2 p = none → Q (.ref p) (upd H2 p (.lst out))) : tListG tg σ H Q := h
theorem calg {sp : SpG} {E : XK} {tl : TA} {q : List V → Hp → Prop} (h : tl σ H fun vs H1 => sp vs H1 q E) : tCallG sp [] E tl σ H q := by
  show tl σ H fun vs H1 => sp (vs ++ []) H1 q E
  simp only [List.append_nil]; exact h
end
end HS
namespace HS
open PySem PySem.Spec PyProof.Rows L2
section
variable {H : Hp} {Q : VK} {K : PySem.W.Frag}
theorem ixZ {p : Addr} {i z : Int} {ns : List Int} (h : SqL K H p (ns.map V.int)) (h0 : 0 ≤ i) (e : ns[i.toNat]? = some z) (q : Q (.int z) H) : rIxL K (.ref p) (.int i) H Q :=
  ⟨p, ns.map V.int, i, .int z, rfl, rfl, h, at_of (j := i.toNat) (by omega) (by rw [List.getElem?_map, e]; rfl), q⟩
theorem cut_to (xs : List V) (n : Nat) : cutV xs none (some (n : Int)) = xs.take n := by
  unfold cutV
  rw [HT.sIx_none, HT.sIx_nat, List.drop_zero, Nat.sub_zero]
  rw [List.take_eq_take_iff]
  omega
theorem cut_from (xs : List V) (n : Nat) : cutV xs (some (n : Int)) none = xs.drop n := by
  unfold cutV
  rw [HT.sIx_none, HT.sIx_nat]
  rw [List.take_of_length_le (by rw [List.length_drop]; omega)]
  by_cases h : n ≤ xs.length
  · rw [Nat.min_eq_left h]
  · rw [Nat.min_eq_right (by omega), List.drop_eq_nil_of_le (Nat.le_refl _), List.drop_eq_nil_of_le (by omega)]
end
end HS
namespace HS
open PySem PySem.Spec PyProof.Rows L2
theorem Keep.any {S : Addr → Prop} {H H1 : Hp} (k : Keep (fun _ => False) H H1) : Keep S H H1 := fun a o e _ => k a o e id
theorem Keep.mono {S T : Addr → Prop} {H H1 : Hp} (k : Keep S H H1) (h : ∀ a, S a → T a) : Keep T H H1 := fun a o e n => k a o e fun z => n (h a z)
end HS
namespace HS
open PySem PySem.Spec PyProof.Rows L2
theorem cut_toI {i : Int} (ls : List Int) (h : 0 ≤ i) : cutV (ls.map V.int) none (some i) = (ls.take i.toNat).map V.int := by
  obtain ⟨n, rfl⟩ := Int.eq_ofNat_of_zero_le h
  rw [cut_to, List.map_take]; simp
theorem cut_fromI {i : Int} (ls : List Int) (h : 0 ≤ i) : cutV (ls.map V.int) (some i) none = (ls.drop i.toNat).map V.int := by
  obtain ⟨n, rfl⟩ := Int.eq_ofNat_of_zero_le h
  rw [cut_from, List.map_drop]; simp
end HS
namespace HS
theorem ifT {c : Bool} {A B : Prop} (e : c = true) (h : A) : if c = true then A else B := by rw [if_pos e]; exact h
theorem ifF {c : Bool} {A B : Prop} (e : c = false) (h : B) : if c = true then A else B := by rw [if_neg (by rw [e]; exact Bool.false_ne_true)]; exact h
end HS
namespace HS
open PySem PySem.Spec PyProof.Rows L2
/-- a new object behind what stands -/
theorem Keep.nw {H H1 : Hp} {p : Addr} {o : HO} (k : Keep (fun _ => False) H H1) (h : H1 p = none) : Keep (fun _ => False) H (upd H1 p o) := k.put (k.free h id)
theorem Keep.nwS {S : Addr → Prop} {H H1 : Hp} {p : Addr} {o : HO} (k : Keep S H H1) (h : H1 p = none) (n : ¬ S p) : Keep S H (upd H1 p o) := k.put (k.free h n)
end HS
namespace HS
theorem nt {A B : Prop} (h : B) : if (!true) = true then A else B := by rw [if_neg (show ¬ ((!true) = true) from Bool.false_ne_true)]; exact h
theorem nf {A B : Prop} (h : A) : if (!false) = true then A else B := by rw [if_pos (show (!false) = true from rfl)]; exact h
end HS
namespace HS
open PySem PySem.Spec PyProof.Rows L2
section
variable {H H' : Hp} {p x : Addr} {o u : HO}
theorem upgs (e : upd H p o = H') : H' p = some o := by rw [← e]; exact upd_same
theorem upgK (e : upd H p o = H') (h : H p = none) : Keep (fun _ => False) H H' := by rw [← e]; exact Keep.new h
end
end HS
/-! Data of ints, lists and tuples, and == of such. -/
namespace HS
open PySem PySem.Spec PyProof.Rows L2
def dInts (ns : List Int) : PyData := .list (ns.map .int)
section
variable {K : PySem.W.Frag} {H : Hp}
theorem dpAll_ints : ∀ ns : List Int, DpAll K H (ns.map V.int) (ns.map .int)
  | [] => .nil
  | n :: r => .cons (.int n) (dpAll_ints r)
theorem dp_ints {a : Addr} {ns : List Int} (h : SqL K H a (ns.map V.int)) : Dp K H (.ref a) (dInts ns) := .lst h (dpAll_ints ns)
theorem lay_ints : ∀ ns : List Int, PyData.canLayAll0 (ns.map .int) = true
  | [] => rfl
  | n :: r => by rw [List.map_cons, PyData.canLayAll0, lay_ints r]; rfl
theorem dep_ints : ∀ ns : List Int, PyData.depthAll (ns.map .int) = 0
  | [] => rfl
  | n :: r => by rw [List.map_cons, PyData.depthAll, dep_ints r]; rfl
theorem sh_ints (ns : List Int) : SeqAt.shaped (dInts ns) = true := by
  unfold SeqAt.shaped dInts
  rw [PyData.canLay0, PyData.depth, lay_ints, dep_ints]; rfl
theorem eqv_int (i j : Int) : PyData.eqv (.int i) (.int j) = decide (i = j) := by
  rw [PyData.eqv]; exact Bool.beq_eq_decide_eq i j
theorem eqvAll_ints : ∀ xs ys : List Int, PyData.eqvAll (xs.map .int) (ys.map .int) = decide (xs = ys)
  | [], [] => rfl
  | [], y :: ys => rfl
  | x :: xs, [] => rfl
  | x :: xs, y :: ys => by
    rw [List.map_cons, List.map_cons, PyData.eqvAll, eqv_int, eqvAll_ints xs ys]
    by_cases h : x = y <;> by_cases g : xs = ys <;> simp [h, g]
theorem eqv_ints (xs ys : List Int) : PyData.eqv (dInts xs) (dInts ys) = decide (xs = ys) := by
  unfold dInts; rw [PyData.eqv]; exact eqvAll_ints xs ys
/-- == and != of two lists of ints -/
theorem eqL {a b : Addr} {xs ys : List Int} {Q : VK} (h1 : SqL K H a (xs.map V.int)) (h2 : SqL K H b (ys.map V.int)) (q : Q (.bl (decide (xs = ys))) H) : rEqD K (.ref a) (.ref b) H Q :=
  ⟨_, _, dp_ints h1, dp_ints h2, sh_ints _, sh_ints _, by rw [eqv_ints]; exact q⟩
theorem neL {a b : Addr} {xs ys : List Int} {Q : VK} (h1 : SqL K H a (xs.map V.int)) (h2 : SqL K H b (ys.map V.int)) (q : Q (.bl (!decide (xs = ys))) H) : rNeD K (.ref a) (.ref b) H Q :=
  ⟨_, _, dp_ints h1, dp_ints h2, sh_ints _, sh_ints _, by rw [eqv_ints]; exact q⟩
end
end HS
/-! Rules told with the written part K by its own letter. -/
namespace HS
open PySem PySem.Spec PyProof.Rows L2
section
variable {X : Cx} (K : PySem.W.Frag)
theorem ixl (h : X.K = K := by rfl) : IxR X (rIxL K) := h ▸ ix_list
theorem ixt (h : X.K = K := by rfl) : IxR X (rIxT K) := h ▸ ix_tup
theorem sll (h : X.K = K := by rfl) : SlR X (rSlL K) := h ▸ sl_list
theorem slt (h : X.K = K := by rfl) : SlR X (rSlT K) := h ▸ sl_tup
theorem kbm {E : Expr} {T : String} {r : V → List V → Hp → VK → Prop} {to : TE} {t : TA} (p : PE X E (tBM X.K T r to t)) (h : X.K = K := by rfl) : PE X E (tBM K T r to t) := h ▸ p
theorem kbm0 {E : Expr} {T : String} {r : V → List V → Hp → VK → Prop} {to : TE} (p : PE X E (tBM0 X.K T r to)) (h : X.K = K := by rfl) : PE X E (tBM0 K T r to) := h ▸ p
theorem kil {tg l : Expr} {tl : TE} (p : PI X tg l (iList X.K tl)) (h : X.K = K := by rfl) : PI X tg l (iList K tl) := h ▸ p
theorem kit {tg l : Expr} {tl : TE} (p : PI X tg l (iTup X.K tl)) (h : X.K = K := by rfl) : PI X tg l (iTup K tl) := h ▸ p
theorem kien {tg l : Expr} {tl : TA} (p : PI X tg l (iEnum X.K tl)) (h : X.K = K := by rfl) : PI X tg l (iEnum K tl) := h ▸ p
theorem kgt {tg : Expr} {n : Nat} {t : TGs} (p : PG X tg (gTup X.K n t)) (h : X.K = K := by rfl) : PG X tg (gTup K n t) := h ▸ p
theorem keq (hu : X.A.units + 64 < cLine) (h : X.K = K := by rfl) : OpR X (compareOp .Eq) (rEqD K) := h ▸ op_eqD hu
theorem kne (hu : X.A.units + 64 < cLine) (h : X.K = K := by rfl) : OpR X (compareOp .NotEq) (rNeD K) := h ▸ op_neD hu
theorem kin (h : X.K = K := by rfl) : OpR X (compareOp .In) (rIn K false) := h ▸ op_in_seq
theorem knin (h : X.K = K := by rfl) : OpR X (compareOp .NotIn) (rIn K true) := h ▸ op_notIn_seq
theorem kcatT (h : X.K = K := by rfl) : OpR X (binaryOp .Add) (rCatT K) := h ▸ op_catT
def rLen : List V → Hp → VK → Prop := fun xs H Q => ∃ p ys, xs = [.ref p] ∧ (SqL K H p ys ∨ SqT K H p ys) ∧ Q (.int ys.length) H
def rLst : List V → Hp → VK → Prop := fun xs H Q => ∃ p ys, xs = [.ref p] ∧ (SqL K H p ys ∨ SqT K H p ys) ∧ ∀ l, H l = none → Q (.ref l) (upd H l (.lst ys))
theorem klen (h : X.K = K := by rfl) : CallR X (.builtin "len") (rLen K) := h ▸ call_len_seq
theorem klst (h : X.K = K := by rfl) : CallR X (.type "list") (rLst K) := h ▸ call_list_of
theorem ksum (hc : X.calm = true) (h : X.K = K := by rfl) : CallR X (.builtin "sum") (rSum K) := h ▸ cr_sum hc
theorem kmax (hc : X.calm = true) (h : X.K = K := by rfl) : CallR X (.builtin "max") (rMax K) := h ▸ cr_max hc
theorem kmin (hc : X.calm = true) (h : X.K = K := by rfl) : CallR X (.builtin "min") (rMin K) := h ▸ cr_min hc
theorem krev {E : Expr} {te : TE} (p : PE X E (tRevL X.K te)) (h : X.K = K := by rfl) : PE X E (tRevL K te) := h ▸ p
/-- the names of a block within a block -/
def relab (scO sc : Scope) : Scope := { scO with names := scO.names.map fun (n, k) => if (k == .free && sc.kind == .function && sc.names.lookup n == some .cell) then (n, .cell) else (n, k) }
/-- a list comprehension within a comprehension's block -/
theorem pe_lcIn {X : Cx} {s0 : Shared} {H0 : Hp} {C0 : Addr} {cl0 : List (Str × Addr)} {fp0 : List Addr} {scO : Scope} {elt tg iter : Expr} {ifs : List Expr} {scope : Scope} {own : List (Str × Nat)} {pos : Pos} {wi : TI} {g : TG} {tt : TT} {te : TE} (hc : X.calm = true) (hN : X.N.Nodup) (hi : PI (X.blk s0 H0 scO (compEnvC scO cl0 C0 X.env) fp0) tg iter wi) (sc : Scope) (hsc : X.env.scope = sc) (ok : BlkOk X.N (relab scO sc) scope own)
    (hg : ∀ (s : Shared) (H : Hp) (C : Addr) (cl : List (Str × Addr)) (fp : List Addr), PG ((X.blk s0 H0 scO (compEnvC scO cl0 C0 X.env) fp0).blk s H scope (compEnvC scope cl C (compEnvC scO cl0 C0 X.env)) fp) tg g) (ht : ∀ (s : Shared) (H : Hp) (C : Addr) (cl : List (Str × Addr)) (fp : List Addr), PTs ((X.blk s0 H0 scO (compEnvC scO cl0 C0 X.env) fp0).blk s H scope (compEnvC scope cl C (compEnvC scO cl0 C0 X.env)) fp) ifs tt)
    (he : ∀ (s : Shared) (H : Hp) (C : Addr) (cl : List (Str × Addr)) (fp : List Addr), PE ((X.blk s0 H0 scO (compEnvC scO cl0 C0 X.env) fp0).blk s H scope (compEnvC scope cl C (compEnvC scO cl0 C0 X.env)) fp) elt te) (hs : ∀ x, foldedSetIterable iter (compEnvC scO cl0 C0 X.env) x = pure x := by intro _; rfl) :
    PE (X.blk s0 H0 scO (compEnvC scO cl0 C0 X.env) fp0) (.ListComp elt [⟨tg, iter, ifs, 0⟩] scope pos) (tLc wi g tt te (own.map (·.2))) :=
  by subst hsc; exact pe_lc (X := X.blk s0 H0 scO (compEnvC scO cl0 C0 X.env) fp0) hc hN hi ok hg ht he hs
end
section
variable {σ : L2.St} {H : Hp} {Q : VK} {te : TE} {K : PySem.W.Frag}
theorem lenL {p : Addr} {ys : List V} (h : SqL K H p ys) (q : Q (.int ys.length) H) : rLen K [.ref p] H Q := ⟨p, ys, rfl, .inl h, q⟩
theorem lenT {p : Addr} {ys : List V} (h : SqT K H p ys) (q : Q (.int ys.length) H) : rLen K [.ref p] H Q := ⟨p, ys, rfl, .inr h, q⟩
theorem sumL {p : Addr} {ns : List Int} (h : SqL K H p (ns.map V.int)) (q : Q (.int ns.sum) H) : rSum K [.ref p] H Q := ⟨p, ns, rfl, h, q⟩
theorem revL (h : te σ H fun x H1 => ∃ a xs, x = .ref a ∧ SqL K H1 a xs ∧ ∀ p, H1 p = none → Q (.ref p) (upd H1 p (.lst xs.reverse))) : tRevL K te σ H Q := h
theorem sl {r : V → Option Int → Option Int → Hp → VK → Prop} {tl th : TO} (h : te σ H fun x H1 => tl σ H1 fun l H2 => th σ H2 fun u H3 => r x l u H3 Q) : tSl r te tl th σ H Q := h
theorem noP {q : Option Int → Hp → Prop} (h : q none H) : tNoPart σ H q := h
theorem part {q : Option Int → Hp → Prop} (h : te σ H fun x H1 => ∃ i, x = .int i ∧ q (some i) H1) : tPart te σ H q := h
theorem ie {a : Int} {q : Int → Prop} (h : q a) : ∃ i, V.int a = V.int i ∧ q i := ⟨a, rfl, h⟩
theorem slLs {p : Addr} {xs : List V} {lo hi : Option Int} (h : SqL K H p xs) (q : ∀ p, H p = none → Q (.ref p) (upd H p (.lst (cutV xs lo hi)))) : rSlL K (.ref p) lo hi H Q := ⟨p, xs, rfl, h, q⟩
theorem gtup {n : Nat} {t : TGs} {a : Addr} {xs : List V} {q : L2.St → Hp → Prop} (h : SqT K H a xs) (e : xs.length = n) (k : t xs σ H q) : gTup K n t (.ref a) σ H q := ⟨a, xs, rfl, h, e, k⟩
theorem gcons {t : TG} {u : TGs} {v : V} {r : List V} {q : L2.St → Hp → Prop} (h : t v σ H fun σ' H' => u r σ' H' q) : gCons t u (v :: r) σ H q := ⟨v, r, rfl, h⟩
theorem gnil {q : L2.St → Hp → Prop} (h : q σ H) : gNil [] σ H q := ⟨rfl, h⟩
theorem itup {R : It → Hp → Prop} (h : te σ H fun x H1 => ∃ a, x = .ref a ∧ (∃ xs, SqT K H1 a xs) ∧ R (Itt K a) H1) : iTup K te σ H R := h
theorem ienu {tl : TA} {R : It → Hp → Prop} (h : tl σ H fun vs H1 => ∃ a xs, vs = [.ref a] ∧ SqL K H1 a xs ∧ R (Ite K a) H1) : iEnum K tl σ H R := h
theorem cat {l b : Addr} {xs zs : List V} (h1 : H l = some (.lst xs)) (h2 : H b = some (.lst zs)) (q : xs.length + zs.length ≤ sizeLine ∧ ∀ p, H p = none → Q (.ref p) (upd H p (.lst (xs ++ zs)))) : rCat (.ref l) (.ref b) H Q := ⟨l, b, xs, zs, rfl, rfl, h1, h2, q⟩
theorem ext {l b : Addr} {xs zs : List V} (h1 : H l = some (.lst xs)) (h2 : H b = some (.lst zs)) (q : xs.length + zs.length ≤ sizeLine ∧ Q .non (upd H l (.lst (xs ++ zs)))) : rExtend (.ref l) [.ref b] H Q := ⟨l, b, xs, zs, rfl, rfl, h1, h2, q⟩
end
end HS
/-! Lists of new pairs of ints, and == of such; ranges by steps. -/
namespace HS
open PySem PySem.Spec PyProof.Rows L2
/-- the refs of vs are tuples of these pairs -/
def Prs (H : Hp) : List V → List (Int × Int) → Prop
  | [], [] => True
  | v :: vs, p :: ps => (∃ t, v = .ref t ∧ H t = some (.tup [.int p.1, .int p.2])) ∧ Prs H vs ps
  | _, _ => False
theorem Prs.keep {S : Addr → Prop} {H H' : Hp} (k : Keep S H H') : ∀ {vs : List V} {ps : List (Int × Int)}, Prs H vs ps → (∀ v ∈ vs, ∀ t, v = .ref t → ¬ S t) → Prs H' vs ps
  | [], [], h, _ => h
  | _ :: _, _ :: _, ⟨⟨t, e, o⟩, h⟩, n => ⟨⟨t, e, k t _ o (n _ List.mem_cons_self t e)⟩, h.keep k fun v hv => n v (List.mem_cons_of_mem _ hv)⟩
theorem Prs.app {H : Hp} : ∀ {vs ws : List V} {ps qs : List (Int × Int)}, Prs H vs ps → Prs H ws qs → Prs H (vs ++ ws) (ps ++ qs)
  | [], _, [], _, _, g => g
  | _ :: _, _, _ :: _, _, ⟨a, h⟩, g => ⟨a, h.app g⟩
theorem Prs.len {H : Hp} : ∀ {vs : List V} {ps : List (Int × Int)}, Prs H vs ps → vs.length = ps.length
  | [], [], _ => rfl
  | _ :: _, _ :: _, ⟨_, h⟩ => by rw [List.length_cons, List.length_cons, h.len]
def dPr (p : Int × Int) : PyData := .tuple [.int p.1, .int p.2]
def dPrs (ps : List (Int × Int)) : PyData := .list (ps.map dPr)
section
variable {K : PySem.W.Frag} {H : Hp}
theorem dpAll_prs : ∀ {vs : List V} {ps : List (Int × Int)}, Prs H vs ps → DpAll K H vs (ps.map dPr)
  | [], [], _ => .nil
  | _ :: _, p :: _, ⟨⟨t, e, o⟩, h⟩ => .cons (by rw [e]; exact .tup (st o) (.cons (.int p.1) (.cons (.int p.2) .nil))) (dpAll_prs h)
theorem lay_prs : ∀ ps : List (Int × Int), PyData.canLayAll0 (ps.map dPr) = true
  | [] => rfl
  | p :: r => by rw [List.map_cons, PyData.canLayAll0, lay_prs r]; rfl
theorem dep_prs : ∀ ps : List (Int × Int), PyData.depthAll (ps.map dPr) ≤ 2
  | [] => by simp [PyData.depthAll]
  | p :: r => by
    have h := dep_prs r
    have h2 : (dPr p).depth ≤ 2 := by simp [dPr, PyData.depth, PyData.depthAll]
    rw [List.map_cons, PyData.depthAll]; omega
theorem sh_prs (ps : List (Int × Int)) : SeqAt.shaped (dPrs ps) = true := by
  have h1 := dep_prs ps
  have h2 : PyData.depth (dPrs ps) ≤ 64 := by unfold dPrs; rw [PyData.depth]; omega
  show (PyData.canLay0 (dPrs ps) && decide (PyData.depth (dPrs ps) ≤ 64)) = true
  rw [Bool.and_eq_true]
  exact ⟨by unfold dPrs; rw [PyData.canLay0]; exact lay_prs ps, decide_eq_true h2⟩
theorem eqv_pr (p q : Int × Int) : PyData.eqv (dPr p) (dPr q) = decide (p = q) := by
  unfold dPr
  rw [PyData.eqv, PyData.eqvAll, PyData.eqvAll, PyData.eqvAll, eqv_int, eqv_int]
  obtain ⟨a, b⟩ := p
  obtain ⟨c, d⟩ := q
  by_cases h : a = c <;> by_cases g : b = d <;> simp [h, g]
theorem eqvAll_prs : ∀ xs ys : List (Int × Int), PyData.eqvAll (xs.map dPr) (ys.map dPr) = decide (xs = ys)
  | [], [] => rfl
  | [], y :: ys => rfl
  | x :: xs, [] => rfl
  | x :: xs, y :: ys => by
    rw [List.map_cons, List.map_cons, PyData.eqvAll, eqv_pr, eqvAll_prs xs ys]
    by_cases h : x = y <;> by_cases g : xs = ys <;> simp [h, g]
/-- == of two lists of pairs of ints -/
theorem eqP {a b : Addr} {vs ws : List V} {xs ys : List (Int × Int)} {Q : VK} (h1 : SqL K H a vs) (g1 : Prs H vs xs) (h2 : SqL K H b ws) (g2 : Prs H ws ys) (q : Q (.bl (decide (xs = ys))) H) : rEqD K (.ref a) (.ref b) H Q := by
  refine ⟨dPrs xs, dPrs ys, .lst h1 (dpAll_prs g1), .lst h2 (dpAll_prs g2), sh_prs _, sh_prs _, ?_⟩
  rw [show PyData.eqv (dPrs xs) (dPrs ys) = decide (xs = ys) by unfold dPrs; rw [PyData.eqv]; exact eqvAll_prs xs ys]
  exact q
end
theorem RgC.up {j c : Int} (hc : 1 ≤ c) (hc2 : c < 2 ^ 30) (h0 : 0 ≤ j) (h1 : j < 2 ^ 61) : RgC 0 j c ((j + c - 1) / c).toNat := by
  have hn : 0 ≤ (j + c - 1) / c := Int.ediv_nonneg (by omega) (by omega)
  have e : Builtin.Range.rangeSize 0 j c = (j + c - 1) / c := by
    unfold Builtin.Range.rangeSize
    rw [if_pos (by omega)]
    split
    · rw [show j + c - 1 = (j - 0 - 1) + c * 1 by omega, Int.add_mul_ediv_left _ _ (by omega)]
    · rw [show j = 0 by omega, Int.ediv_eq_zero_of_lt (by omega) (by omega)]
  have hl : (j + c - 1) / c ≤ j + c := Int.le_trans (Int.ediv_le_self _ (by omega)) (by omega)
  refine ⟨by omega, by omega, ?_, by rw [e]; omega⟩
  unfold Builtin.Range.small
  rw [e]
  simp only [Builtin.Range.rangeFitsLong, Bool.and_eq_true, Bool.or_eq_true, decide_eq_true_eq, beq_iff_eq]
  rw [if_pos (show c > 0 by omega)]
  simp only [Bool.and_eq_true, decide_eq_true_eq]
  omega
end HS
namespace HS
open PySem PySem.Spec PyProof.Rows L2
section
variable {σ : L2.St} {H : Hp}
theorem rng3 {tl : TA} {R : It → Hp → Prop} (h : tl σ H fun vs H1 => ∃ (i j c : Int) (n : Nat), vs = [.int i, .int j, .int c] ∧ RgC i j c n ∧ R (Itc i c n) H1) : iRng3 tl σ H R := h
end
end HS
namespace HS
open PySem PySem.Spec PyProof.Rows L2
theorem Prs.new {H : Hp} {p : Addr} {o : HO} (hp : H p = none) {vs : List V} {ps : List (Int × Int)} (h : Prs H vs ps) : Prs (upd H p o) vs ps :=
  h.keep (S := fun _ => False) (Keep.new hp) fun _ _ _ _ z => z
theorem Prs.same {H H' : Hp} {vs : List V} {ps : List (Int × Int)} (h : Prs H vs ps) (k : Keep (fun _ => False) H H') : Prs H' vs ps :=
  h.keep (S := fun _ => False) k fun _ _ _ _ z => z
theorem Prs.lst {H : Hp} {L : Addr} {ws : List V} (hL : H L = some (.lst ws)) : ∀ {vs : List V} {ps : List (Int × Int)}, Prs H vs ps → ∀ v ∈ vs, ∀ t, v = .ref t → t ≠ L
  | [], [], _, _, hv, _, _ => absurd hv List.not_mem_nil
  | _ :: _, _ :: _, ⟨⟨t', e', o'⟩, h⟩, v, hv, t, e => by
    rcases List.mem_cons.mp hv with hv | hv
    · subst hv
      rw [e'] at e
      have := V.ref.inj e
      subst this
      intro z
      rw [z, hL] at o'
      cases o'
    · exact h.lst hL v hv t e
theorem Prs.put {H : Hp} {L : Addr} {ws : List V} {o : HO} (hL : H L = some (.lst ws)) {vs : List V} {ps : List (Int × Int)} (h : Prs H vs ps) : Prs (upd H L o) vs ps :=
  h.keep (S := fun a => a = L) (Keep.at Keep.refl rfl) (h.lst hL)
theorem Prs.snoc {H : Hp} {vs : List V} {ps : List (Int × Int)} {t : Addr} {a b : Int} (h : Prs H vs ps) (e : H t = some (.tup [.int a, .int b])) : Prs H (vs ++ [.ref t]) (ps ++ [(a, b)]) :=
  h.app ⟨⟨t, rfl, e⟩, trivial⟩
end HS
/-! Exceptions of own classes as values: made, asked, read (own rules over HandS). -/
namespace HS
open PySem PySem.Spec PyProof.Rows L2
/-- the j-th row of a class's block -/
def inS (s : Stmt) (j : Nat) : Stmt := match s with
  | .ClassDef _ _ _ body _ _ _ _ _ _ _ => body.getD j (.Pass ⟨0, 0, 0, 0⟩)
  | s => s
/-- an own exception that stands in the heap, with its fields -/
def Exv (H : Hp) (a C : Addr) (fs : List (Str × V)) : Prop := ∃ d, H a = some (exo a C (some d)) ∧ H d = some (exd d fs)
def rIsV (K : PySem.W.Frag) : List V → Hp → VK → Prop := fun xs H Q => ∃ (a D : Addr) (fs : List (Str × V)) (c : V) (cv : Value) (b : Bool), xs = [.ref a, c] ∧ ExcC K D ∧ Exv H a D fs ∧ ClsV c cv ∧ PySem.W.kitOne K (.ref D) cv = some b ∧ Q (.bl b) H
theorem call_isV {X : Cx} : CallR X (.builtin "isinstance") (rIsV X.K) := by
  intro pins s σ H xs us Q I r hw
  obtain ⟨a, D, fs, c, cv, b, e0, T, ⟨d, ea, ed⟩, hcv, hb, q⟩ := hw
  subst e0
  match us, r with
  | [_, _], .cons rx (.cons rt .nil) =>
    cases rx
    have e1 := hcv.eq rt
    subst e1
    obtain ⟨t1, ho⟩ := exo_at I.hok ea
    obtain ⟨mA, hns, _⟩ := exd_at I.hok ed
    obtain ⟨od, hod, _⟩ := lookIn_ns hns
    obtain ⟨cd, hcd, _⟩ := PySem.W.any_some T.hd
    have here : PySem.W.InstAt s.heap a _ D (some od) := ⟨ho, rfl, rfl, hod⟩
    exact PySem.W.kia_one (PySem.W.kitx_exc (by rw [hcd]; rfl) T.hg T.hk T.hs T.ha T.hn T.ht T.hm) I.kIn here hb (fun z => nomatch z) fun tk => ⟨.bl b, H, I.kept (t' := tk) fun _ _ z => z, rfl, q⟩
/-- e.f of such an exception -/
def tFldV (K : PySem.W.Frag) (f : Str) (te : TE) : TE := fun σ H Q => te σ H fun x H1 => ∃ (a C : Addr) (fs : List (Str × V)) (v : V), x = .ref a ∧ XfC K C ∧ PySem.W.findIn K (.ref C) f = some none ∧ Exv H1 a C fs ∧ fs.lookup f = some v ∧ Q v H1
theorem pe_fldV {X : Cx} {e : Expr} {te : TE} {pos : Pos} {f : Str} (he : PE X e te) (hb : attributeBase e f X.env (eval e X.env) = eval e X.env := by rfl) : PE X (.Attribute e f pos) (tFldV X.K f te) := by
  refine ⟨fun pins s σ H Q I hw => attr_of hb (thn (he.run pins s σ H _ I hw) fun u s1 ⟨x, H1, I1, rx, a, C, fs, v, e0, T, hno, ⟨d, ea, ed⟩, l, q⟩ => ?_)⟩
  subst e0
  cases rx
  obtain ⟨t1, ho⟩ := exo_at I1.hok ea
  obtain ⟨mA, hns, hr⟩ := exd_at I1.hok ed
  obtain ⟨od, hod, hl⟩ := lookIn_ns hns
  obtain ⟨w, hw, rw'⟩ := RelO.some_of (v := v) (o := mA f) (by rw [← l]; exact hr f)
  have here : PySem.W.InstAt s1.heap a _ C (some od) := ⟨ho, rfl, rfl, hod⟩
  exact HandSPX.exc_get I1.kIn here T.ga T.gg T.exC (PySem.W.findObj_own T.hdC hno rfl (by rw [hl, hw])) (handed_of rw') ⟨v, H1, I1.tok _, rw', q⟩
/-- C(e, ..) as a value -/
def tNewV (C : Addr) (sp : Sp) (ta : TA) : TE := fun σ H Q => ta σ H fun vs H1 => vs.length ≤ 1000 ∧ ∀ a, H1 a = none → sp (.ref a :: vs) (upd H1 a (exo a C none)) (fun v H2 => v = .non ∧ Q (.ref a) H2) (fun _ _ _ => False)
section
variable {X : Cx} {CX : CXT} {x : Str} {C fI : Addr} {k : Nat} {fd : FuncData} {ps : List Str} {sp : Sp} {e : Expr} {es : List Expr} {ta : TA} {p pos : Pos}
theorem pe_newV (T : OexC X.K C) (iC : PySem.W.findIn X.K (.ref C) "__init__" = some (some (.ref fI))) (tI : PySem.W.typeIn X.K (.ref fI) = some (.type "function"))
    (F1 : FnOk X.prog X.w X.K X.mg X.base CX k fI fd ps sp) (hr : Room (k + 1) X.A) (hb : Binds X.K fd ps []) (hx : Passes CX X (fun _ _ _ => False)) (hg : Gl X x) (hm : X.mg x = some (.ref C)) (ha : PA X (e :: es) ta)
    (hdb : (x == ("__debug__" : Str)) = false := by decide) (he : starEach (e :: es) X.env = (false, eval e X.env) :: starEach es X.env := by rfl) (hpl : (backTo pos (starEach es X.env)).any (·.1) = false := by rfl) :
    PE X (.Call (.Name x p) (e :: es) [] pos) (tNewV C sp ta) := by
  refine ⟨fun pins s σ H Q I hw => wpAny_Call_Name_kw (ld_glob I hg hm ?_ hdb)⟩
  obtain ⟨nm, qn, N, bs, bm, sn, sub, ab, col, dd, k0, k1, k2, k3, k5, hC, hbm⟩ := T.cls
  refine PySem.W.callWith_K (h₀ := X.base) I.ok.mod.kin T.kC (thn (ha.run pos pins s σ H _ I hw) fun us s1 ⟨vs, H1, I1, r1, hz, q1⟩ => ⟨I1.kIn, ?_⟩) he hpl
  show wpAny _ _ (call (.ref C) us) _ _ _
  obtain ⟨hp, g, dr, tk, os⟩ := s1
  have le1 : hp.objs.size ≤ hp.objs.size + 1 := by omega
  have kept : ∀ b o, hp.get? b = some o → ((hp.push (PySem.W.kdv_tup us)).push (PySem.HandSPX.excO C hp.objs.size)).get? b = some o := fun _ _ z => Heap.get?_push_of_some _ (Heap.get?_push_of_some _ z)
  have at1 : ((hp.push (PySem.W.kdv_tup us)).push (PySem.HandSPX.excO C hp.objs.size)).get? (hp.objs.size + 1) = some (PySem.HandSPX.excO C hp.objs.size) := by heap_get
  have J : Inv X pins σ (upd H1 (hp.objs.size + 1) (exo (hp.objs.size + 1) C none)) ⟨(hp.push (PySem.W.kdv_tup us)).push (PySem.HandSPX.excO C hp.objs.size), g, dr, tk, os⟩ := I1.laid (t' := tk) kept le1 (exo_ok at1)
  have q2 := q1 (hp.objs.size + 1) (I1.hok.fresh le1)
  have r2 : Vals (V.ref (hp.objs.size + 1) :: vs) (Value.ref (hp.objs.size + 1) :: us) := .cons rfl r1
  have len2 : (Value.ref (hp.objs.size + 1) :: us).length = ps.length := r2.length.symm.trans (F1.len _ _ _ _ q2)
  have small : us.length ≤ sizeLine := by have := Paired.length r1; rw [sizeLine_eq]; omega
  have bnd := hb _ (Value.ref (hp.objs.size + 1) :: us) J.kIn (by simpa using len2)
  refine wpAny_call (PySem.HandSPX.call_own F.excBase_ValueError (fun Y => PySem.HandSPX.refsVE_contains Y bm hbm) (I1.kIn _ _ hC) (PySem.W.looks_findIn I1.kIn iC) (fun self => PySem.W.bind_fn I1.kIn self tI) small
    (codeAny_mono (F1.run _ X.stack _ _ ⟨Value.ref (hp.objs.size + 1) :: us, []⟩ _ _ _ _ (hr.make C us []) (J.env0.make C us []) bnd (by simpa using r2) q2) fun r s' back => ?_))
  match r, back with
  | .error er, back => exact hx pins σ _ _ er s' J back
  | .ok (.ret u), back =>
    obtain ⟨v, H', J', rv, ev, q3⟩ := J.after back
    subst ev
    exact ⟨rv, ⟨V.ref (hp.objs.size + 1), H', J', rfl, q3⟩⟩
end
section
variable {σ : L2.St} {H : Hp} {Q : VK} {te to : TE} {ta : TA} {K : PySem.W.Frag} {n bk ct : L2.St → Hp → Prop} {rt : VK} {f : Str} {C : Addr} {sp : Sp}
theorem ost (h : te σ H fun y H1 => to σ H1 fun x H2 => ∃ a C : Addr, x = .ref a ∧ OexC K C ∧ PySem.W.findIn K (.ref C) f = some none ∧
  ((H2 a = some (exo a C none) ∧ ∀ dx, H2 dx = none → dx ≠ a → n σ (upd (upd H2 dx (exd dx [(f, y)])) a (exo a C (some dx)))) ∨
    ∃ (dx : Addr) (fs : List (Str × V)), H2 a = some (exo a C (some dx)) ∧ H2 dx = some (exd dx fs) ∧ fs.length ≤ 900 ∧ n σ (upd H2 dx (exd dx ((f, y) :: fs))))) : tOst K f to te ⟨n, rt, bk, ct⟩ σ H := h
theorem fldV (h : te σ H fun x H1 => ∃ (a C : Addr) (fs : List (Str × V)) (v : V), x = .ref a ∧ XfC K C ∧ PySem.W.findIn K (.ref C) f = some none ∧ Exv H1 a C fs ∧ fs.lookup f = some v ∧ Q v H1) : tFldV K f te σ H Q := h
theorem newV (h : ta σ H fun vs H1 => vs.length ≤ 1000 ∧ ∀ a, H1 a = none → sp (.ref a :: vs) (upd H1 a (exo a C none)) (fun v H2 => v = .non ∧ Q (.ref a) H2) (fun _ _ _ => False)) : tNewV C sp ta σ H Q := h
end
end HS
namespace HS
open PySem PySem.Spec PyProof.Rows L2
/-- the refs of vs are tuples of these two values -/
def PrV (H : Hp) : List V → List (V × V) → Prop
  | [], [] => True
  | v :: vs, p :: ps => (∃ t, v = .ref t ∧ H t = some (.tup [p.1, p.2])) ∧ PrV H vs ps
  | _, _ => False
theorem PrV.keep {S : Addr → Prop} {H H' : Hp} (k : Keep S H H') : ∀ {vs : List V} {ps : List (V × V)}, PrV H vs ps → (∀ v ∈ vs, ∀ t, v = .ref t → ¬ S t) → PrV H' vs ps
  | [], [], h, _ => h
  | _ :: _, _ :: _, ⟨⟨t, e, o⟩, h⟩, n => ⟨⟨t, e, k t _ o (n _ List.mem_cons_self t e)⟩, h.keep k fun v hv => n v (List.mem_cons_of_mem _ hv)⟩
theorem PrV.same {H H' : Hp} {vs : List V} {ps : List (V × V)} (h : PrV H vs ps) (k : Keep (fun _ => False) H H') : PrV H' vs ps :=
  h.keep k fun _ _ _ _ z => z
theorem PrV.len {H : Hp} : ∀ {vs : List V} {ps : List (V × V)}, PrV H vs ps → vs.length = ps.length
  | [], [], _ => rfl
  | _ :: _, _ :: _, ⟨_, h⟩ => by rw [List.length_cons, List.length_cons, h.len]
theorem PrV.at {H : Hp} : ∀ {vs : List V} {ps : List (V × V)} {i : Nat} {v : V}, PrV H vs ps → vs[i]? = some v → ∃ t p, v = .ref t ∧ ps[i]? = some p ∧ H t = some (.tup [p.1, p.2])
  | [], [], i, _, _, e => by cases i <;> cases e
  | x :: _, p :: _, 0, v, ⟨⟨t, e', o⟩, _⟩, e => ⟨t, p, by rw [← Option.some.inj e]; exact e', rfl, o⟩
  | _ :: vs, _ :: ps, i + 1, v, ⟨_, h⟩, e => h.at (i := i) (by rw [List.getElem?_cons_succ] at e; exact e)
end HS
namespace HS
open PySem PySem.Spec PyProof.Rows L2
theorem kisV {X : Cx} (K : PySem.W.Frag) (h : X.K = K := by rfl) : CallR X (.builtin "isinstance") (rIsV K) := h ▸ call_isV
theorem kisi {X : Cx} (K : PySem.W.Frag) (h : X.K = K := by rfl) : CallR X (.builtin "isinstance") (rIsi K) := h ▸ call_isi
section
variable {K : PySem.W.Frag} {H H' : Hp} {Q : VK} {a D C p : Addr} {fs : List (Str × V)} {b : Bool} {o : HO}
theorem Exv.same (h : Exv H a C fs) (k : Keep (fun _ => False) H H') : Exv H' a C fs := by
  obtain ⟨d, e1, e2⟩ := h
  exact ⟨d, k _ _ e1 id, k _ _ e2 id⟩
theorem Exv.new (h : Exv H a C fs) (hp : H p = none) : Exv (upd H p o) a C fs := h.same (Keep.new hp)
theorem isV (T : ExcC K D) (he : Exv H a D fs) (hq : PySem.W.kitOne K (.ref D) (.ref C) = some b) (q : Q (.bl b) H) : rIsV K [.ref a, .ref C] H Q := ⟨a, D, fs, _, _, b, rfl, T, he, .own C, hq, q⟩
theorem isVt {n : String} (T : ExcC K D) (he : Exv H a D fs) (hq : PySem.W.kitOne K (.ref D) (.type n) = some b) (q : Q (.bl b) H) : rIsV K [.ref a, .ty n] H Q := ⟨a, D, fs, _, _, b, rfl, T, he, .ty n, hq, q⟩
end
end HS
namespace HS
open PySem PySem.Spec PyProof.Rows L2
theorem PrV.app {H : Hp} : ∀ {vs ws : List V} {ps qs : List (V × V)}, PrV H vs ps → PrV H ws qs → PrV H (vs ++ ws) (ps ++ qs)
  | [], _, [], _, _, g => g
  | _ :: _, _, _ :: _, _, ⟨a, h⟩, g => ⟨a, h.app g⟩
theorem PrV.new {H : Hp} {p : Addr} {o : HO} {vs : List V} {ps : List (V × V)} (h : PrV H vs ps) (hp : H p = none) : PrV (upd H p o) vs ps := h.same (Keep.new hp)
section
variable {H : Hp} {t0 t1 l : Addr} {x0 y0 x1 y1 : V}
theorem pair2 (h0 : H t0 = none) (h1 : upd H t0 (.tup [x0, y0]) t1 = none) (h2 : upd (upd H t0 (.tup [x0, y0])) t1 (.tup [x1, y1]) l = none) :
    ∃ H1, upd (upd (upd H t0 (.tup [x0, y0])) t1 (.tup [x1, y1])) l (.lst [.ref t0, .ref t1]) = H1 ∧ Keep (fun _ => False) H H1 ∧ PrV H1 [.ref t0, .ref t1] [(x0, y0), (x1, y1)] ∧ H1 l = some (.lst [.ref t0, .ref t1]) := by
  have n1 : t0 ≠ t1 := ne_of_none upd_same h1
  have e0 : upd (upd H t0 (.tup [x0, y0])) t1 (.tup [x1, y1]) t0 = some (.tup [x0, y0]) := by rw [upd_ne n1]; exact upd_same
  have e1 : upd (upd H t0 (.tup [x0, y0])) t1 (.tup [x1, y1]) t1 = some (.tup [x1, y1]) := upd_same
  refine ⟨_, rfl, (Keep.new h0).trans ((Keep.new h1).trans (Keep.new h2)), ⟨⟨t0, rfl, ?_⟩, ⟨t1, rfl, ?_⟩, trivial⟩, upd_same⟩
  · rw [upd_ne (ne_of_none e0 h2)]; exact e0
  · rw [upd_ne (ne_of_none e1 h2)]; exact e1
theorem pair1 (h0 : H t0 = none) (h2 : upd H t0 (.tup [x0, y0]) l = none) :
    ∃ H1, upd (upd H t0 (.tup [x0, y0])) l (.lst [.ref t0]) = H1 ∧ Keep (fun _ => False) H H1 ∧ PrV H1 [.ref t0] [(x0, y0)] ∧ H1 l = some (.lst [.ref t0]) := by
  refine ⟨_, rfl, (Keep.new h0).trans (Keep.new h2), ⟨⟨t0, rfl, ?_⟩, trivial⟩, upd_same⟩
  rw [upd_ne (ne_of_none upd_same h2)]; exact upd_same
end
end HS
namespace HS
open PySem PySem.Spec PyProof.Rows L2
theorem Keep.over {H H' : Hp} {a : Addr} {o : HO} (k : Keep (fun x => x = a) (upd H a o) H') (h : H a = none) : Keep (fun _ => False) H H' := fun p u e _ => by
  have n := ne_of_none e h
  exact k p u (by rw [upd_ne n]; exact e) n
end HS
namespace HS
open PySem PySem.Spec PyProof.Rows L2
/-- the same by the law's own look: leaves, lists and tuples of such -/
inductive SmV (K : PySem.W.Frag) (H : Hp) : Nat → V → V → Prop
  | non {n : Nat} : SmV K H n .non .non
  | bl {n : Nat} (b : Bool) : SmV K H n (.bl b) (.bl b)
  | int {n : Nat} (i : Int) : SmV K H n (.int i) (.int i)
  | str {n : Nat} (x : Str) : SmV K H n (.str x) (.str x)
  | lst {n : Nat} {a b : Addr} {xs ys : List V} : H a = some (.lst xs) → H b = some (.lst ys) → xs.length = ys.length → xs.length ≤ 1000 → (∀ (i : Nat) (x y : V), xs[i]? = some x → ys[i]? = some y → SmV K H n x y) → SmV K H (n + 1) (.ref a) (.ref b)
  | tup {n : Nat} {a b : Addr} {xs ys : List V} : H a = some (.tup xs) → H b = some (.tup ys) → xs.length = ys.length → xs.length ≤ 1000 → (∀ (i : Nat) (x y : V), xs[i]? = some x → ys[i]? = some y → SmV K H n x y) → SmV K H (n + 1) (.ref a) (.ref b)
theorem SmV.same {K : PySem.W.Frag} {H H' : Hp} (k : Keep (fun _ => False) H H') : ∀ {n : Nat} {x y : V}, SmV K H n x y → SmV K H' n x y
  | _, _, _, .non => .non
  | _, _, _, .bl b => .bl b
  | _, _, _, .int i => .int i
  | _, _, _, .str x => .str x
  | _, _, _, .lst h1 h2 h3 h4 h => .lst (k _ _ h1 id) (k _ _ h2 id) h3 h4 fun i x y e1 e2 => (h i x y e1 e2).same k
  | _, _, _, .tup h1 h2 h3 h4 h => .tup (k _ _ h1 id) (k _ _ h2 id) h3 h4 fun i x y e1 e2 => (h i x y e1 e2).same k
/-- x[i] of a list or a tuple -/
def rIxA (K : PySem.W.Frag) : R2 := fun x y H Q => rIxL K x y H Q ∨ rIxT K x y H Q
theorem ixa {X : Cx} (K : PySem.W.Frag) (h : X.K = K := by rfl) : IxR X (rIxA K) := fun value slice pins s σ H x y v u Q I rx ry r =>
  r.elim (fun r => ixl K h value slice pins s σ H x y v u Q I rx ry r) fun r => ixt K h value slice pins s σ H x y v u Q I rx ry r
section
variable {K : PySem.W.Frag} {H : Hp} {Q : VK}
theorem isi {x : V} {m n : String} (b : Bool) (ty : TyX K H x (.type m)) (hq : kitB m n = some b) (q : Q (.bl b) H) : rIsi K [x, .ty n] H Q := ⟨x, _, _, _, b, rfl, .ty n, ty, kit_ty hq, q⟩
theorem isN {x : V} (q : Q (.bl (decide (x = .non))) H) : (fun x y H Q => y = V.non ∧ Q (.bl (decide (x = .non))) H : R2) x .non H Q := ⟨rfl, q⟩
theorem eqS {x y : V} (hs : scal x y = true) (e : x = y) (q : Q (.bl true) H) : rEq x y H Q := ⟨hs, by rw [decide_eq_true e]; exact q⟩
theorem neB {b c : Bool} (q : Q (.bl (!decide (b = c))) H) : rNe (.bl b) (.bl c) H Q := ⟨rfl, by
  have e : decide (V.bl b = V.bl c) = decide (b = c) := by cases b <;> cases c <;> rfl
  rw [e]; exact q⟩
theorem kb_bb : kitB "bool" "bool" = some true := by decide +kernel
theorem kb_ib : kitB "int" "bool" = some false := by decide +kernel
theorem kb_ii : kitB "int" "int" = some true := by decide +kernel
theorem kb_sb : kitB "str" "bool" = some false := by decide +kernel
theorem kb_si : kitB "str" "int" = some false := by decide +kernel
theorem kb_ss : kitB "str" "str" = some true := by decide +kernel
theorem kb_lb : kitB "list" "bool" = some false := by decide +kernel
theorem kb_li : kitB "list" "int" = some false := by decide +kernel
theorem kb_ls : kitB "list" "str" = some false := by decide +kernel
theorem kb_ll : kitB "list" "list" = some true := by decide +kernel
theorem kb_lt : kitB "list" "tuple" = some false := by decide +kernel
theorem kb_tb : kitB "tuple" "bool" = some false := by decide +kernel
theorem kb_ti : kitB "tuple" "int" = some false := by decide +kernel
theorem kb_ts : kitB "tuple" "str" = some false := by decide +kernel
theorem kb_tl : kitB "tuple" "list" = some false := by decide +kernel
theorem kb_tt : kitB "tuple" "tuple" = some true := by decide +kernel
end
end HS
/-! An own exception class called with keywords. -/
namespace PySem
namespace HSK
open HandSPX Builtin Builtin.ObjectAttr
section
variable {prog : Program} {w : World} {A : Around} {E : Value → Shared → Prop} {R : Result → Shared → Prop} {h : Heap} {g : Array GenState} {d : Drawn} {t : Nat} {os : OsState} {kw : List (Str × Value)} {fI : Addr}
variable {nm q : Str} {C N : Addr} {bs bm bmB : List Value} {hdct : Bool} {sn : List Str} {sub : List Value} {ab : Bool} {col : Option Bool} {dd : Option Addr} {k0 k1 k2 k3 k5 : Option Value} {B newId initId : String}
theorem kw_check_new {M : Model} (F : ExcBaseFacts B newId initId bmB) (hT : ∀ X : String, bm.contains (.type X) = bmB.contains (.type X)) {Q : Unit → Shared → Prop} (hC : h.get? C = some (excClassObj nm q C N bs bm hdct sn sub ab col dd k0 k1 k2 k3 k5 newId)) (z : Q () ⟨h, g, d, t, os⟩) :
    wpAny M A (checkBuiltinCall newId ⟨[.ref C], kw⟩) Q E ⟨h, g, d, t, os⟩ := by
  have inB : (Value.ref C :: bm).contains (.type B) = true := by rw [List.contains_cons, hT, F.hasB, Bool.or_true]
  have star := F.noStar
  simp only [checkBuiltinCall, F.newKind, F.newSplit, F.newRow]
  repeat (first | refine wpAny_loadPart_at hC ?_ | (refine wpAny_isSubtype_exc hC ?_; rw [inB]) | refine wpAny_staticBase_exc hC ?_ | refine wpAny_madeBy_exc hC ?_ | simp only [bne_self_eq_false, Bool.false_eq_true, if_false] | wp_step)
  exact z
theorem kw_new (F : ExcBaseFacts B newId initId bmB) (hT : ∀ X : String, bm.contains (.type X) = bmB.contains (.type X)) (hC : h.get? C = some (excClassObj nm q C N bs bm hdct sn sub ab col dd k0 k1 k2 k3 k5 newId))
    (z : R (.ok (.ret (.ref (h.objs.size + 1)))) ⟨(h.push (W.kdv_tup [])).push (excO C h.objs.size), g, d, t, os⟩) : codeAny (model prog w) A (.builtin newId ⟨[.ref C], kw⟩) R ⟨h, g, d, t, os⟩ := by
  have ends := F.ends
  have inB : (Value.ref C :: bm).contains (.type B) = true := by rw [List.contains_cons, hT, F.hasB, Bool.or_true]
  have noA : (Value.ref C :: bm).contains (.type "AttributeError") = false := by rw [List.contains_cons, hT, F.noAttr]; rfl
  have noN : (Value.ref C :: bm).contains (.type "NameError") = false := by rw [List.contains_cons, hT, F.noName]; rfl
  have tiny : ([] : List Value).length ≤ sizeLine := Nat.zero_le _
  refine codeAny_builtinAt F.entry ?_
  unfold Builtin.«BaseException.__new__»
  refine wpAt_bind ?_
  show wpAt _ _ _ (stack >>= _) _ _ _
  refine wpAt_bind (wpAt_stack fun p below => wpAt_of_wpAny ?_)
  wp_walk
  refine wpAt_of_wpAny ?_
  rw [F.owner]
  repeat (first | with_reducible refine wpAny_madeHere_exc F.canon hC ?_ | with_reducible refine wpAny_loadPart_at hC ?_ | (with_reducible refine wpAny_isSubtype_exc hC ?_; first | rw [inB] | rw [noA] | rw [noN]) | wp_step)
  show R _ _
  rw [Heap.size_push]
  exact z
theorem kw_type_call (F : ExcBaseFacts B newId initId bmB) (hT : ∀ X : String, bm.contains (.type X) = bmB.contains (.type X)) {Q : Fin → Shared → Prop} (hC : h.get? C = some (excClassObj nm q C N bs bm hdct sn sub ab col dd k0 k1 k2 k3 k5 newId))
    (li : W.Looks (model prog w) h (typeLookup (.ref C) "__init__") (some (.ref fI))) (lb : ∀ self, W.Looks (model prog w) h (bindSpecial (.ref fI) self) (.ref fI, [self]))
    (run : codeAny (model prog w) A (.call (.ref fI) ⟨[.ref (h.objs.size + 1)], kw⟩) (fun r s' => match r with | .ok (.ret v) => v = .none ∧ Q (.done (.ret (.ref (h.objs.size + 1)))) s' | .ok _ => False | .error e => E e s')
      ⟨(h.push (W.kdv_tup [])).push (excO C h.objs.size), g, d, t, os⟩) : wpAny (model prog w) A (Builtin.«type.__call__» ⟨[.ref C], kw⟩) Q E ⟨h, g, d, t, os⟩ := by
  repeat (first | with_reducible refine wpAny_loadPart_at hC ?_ | with_reducible refine wpAny_madeBy_exc hC ?_ | wp_step)
  refine codeAny_call_builtin_code (Code.quiet_builtin _ F.quiet) (kw_check_new F hT hC (kw_new F hT hC ?_))
  have up : ∀ b o, h.get? b = some o → ((h.push (W.kdv_tup [])).push (excO C h.objs.size)).get? b = some o := fun _ _ y => Heap.get?_push_of_some _ (Heap.get?_push_of_some _ y)
  have hC2 := up _ _ hC
  have hE : ((h.push (W.kdv_tup [])).push (excO C h.objs.size)).get? (h.objs.size + 1) = some (excO C h.objs.size) := by heap_get
  have isC : (Value.ref C :: bm).contains (.ref C) = true := by simp
  have li2 := li.keeps up
  have lb2 := (lb (.ref (h.objs.size + 1))).keeps up
  show wpAny _ _ _ _ _ _
  unfold isInstance
  repeat (first | with_reducible refine wpAny_loadPart_at hE ?_ | (with_reducible refine wpAny_isSubtype_exc hC2 ?_; rw [isC]) | wp_step)
  show wpAny _ _ (typeLookup (.ref C) _) _ _ _
  refine li2.at (wpAny_holding (wpAny_bind (lb2.at (wpAny_bind (wpAny_call (codeAny_mono run fun r s' y => ?_))))))
  rcases r with e | (v | _ | _ | _) <;> first | exact y | exact y.elim | skip
  obtain ⟨y0, y⟩ := y
  subst y0
  first
    | exact wpAny_pure (wpAny_pure y)
    | (wp_walk; exact y)
theorem kw_call (F : ExcBaseFacts B newId initId bmB) (hT : ∀ X : String, bm.contains (.type X) = bmB.contains (.type X)) (hC : h.get? C = some (excClassObj nm q C N bs bm hdct sn sub ab col dd k0 k1 k2 k3 k5 newId))
    (li : W.Looks (model prog w) h (typeLookup (.ref C) "__init__") (some (.ref fI))) (lb : ∀ self, W.Looks (model prog w) h (bindSpecial (.ref fI) self) (.ref fI, [self]))
    (run : codeAny (model prog w) (A.under (.builtin "type.__call__" ⟨[.ref C], kw⟩)) (.call (.ref fI) ⟨[.ref (h.objs.size + 1)], kw⟩) (W.InitBack (h.objs.size + 1) R) ⟨(h.push (W.kdv_tup [])).push (excO C h.objs.size), g, d, t, os⟩) :
    codeAny (model prog w) A (.call (.ref C) ⟨[], kw⟩) R ⟨h, g, d, t, os⟩ := by
  have c1 := tc_lookup
  have c2 := tc_bind (.ref C)
  have ty : (⟨h, g, d, t, os⟩ : Shared).TypeIs (.ref C) "type" := ⟨_, hC, rfl⟩
  refine codeAny_of_tree ?_
  show wpAny _ _ (callAny (.ref C) _) _ _ _
  repeat (any_goals (first | assumption | with_reducible refine wpAny_loadPart_at hC ?_ | wp_step))
  refine ⟨rfl, codeAny_call_builtin_at (Code.quiet_builtin _ (by decide +kernel)) entry_typeCall (wpAny_check_type_call_sub hC (kw_type_call F hT hC li lb ?_))⟩
  refine codeAny_mono run fun r s' y => ?_
  rcases r with e | (v | _ | _ | _) <;> exact y
end
end HSK
end PySem
namespace HS
open PySem PySem.Spec PyProof.Rows L2
/-- C(k = v) as a value -/
def tNewK (C : Addr) (n : Nat) (sp : Sp) (gV : List V → List V → List V) (tk : TA) : TE := fun σ H Q => tk σ H fun zs H1 => zs.length = n ∧ ∀ a, H1 a = none → sp (gV [.ref a] zs) (upd H1 a (exo a C none)) (fun v H2 => v = .non ∧ Q (.ref a) H2) (fun _ _ _ => False)
section
variable {X : Cx} {CX : CXT} {x : Str} {C fI : Addr} {k : Nat} {fd : FuncData} {ps ks : List Str} {sp : Sp} {kws : List Keyword} {tk : TA} {p pos : Pos} {g : List Value → List Value → List Value} {gV : List V → List V → List V}
theorem pe_newK (T : OexC X.K C) (iC : PySem.W.findIn X.K (.ref C) "__init__" = some (some (.ref fI))) (tI : PySem.W.typeIn X.K (.ref fI) = some (.type "function"))
    (F1 : FnOk X.prog X.w X.K X.mg X.base CX k fI fd ps sp) (hr : Room (k + 1) X.A) (hb : KBn X.K fd ps 1 ks g gV) (hx : Passes CX X (fun _ _ _ => False)) (hg : Gl X x) (hm : X.mg x = some (.ref C)) (hkw : PK X kws tk)
    (hall : (backToKw pos (keywordEach kws X.env)).all (·.1.isSome) = true := by rfl) (hks : (backToKw pos (keywordEach kws X.env)).filterMap (·.1) = ks := by rfl) (hdb : (x == ("__debug__" : Str)) = false := by decide)
    (hpl : ((backTo pos (starEach [] X.env)).any (·.1) || (backToKw pos (keywordEach kws X.env)).any (·.1.isNone)) = false := by rfl) : PE X (.Call (.Name x p) [] kws pos) (tNewK C ks.length sp gV tk) := by
  refine ⟨fun pins s σ H Q I hw => wpAny_Call_Name_kw (ld_glob I hg hm (PySem.W.callWith_KW0 (h₀ := X.base) I.ok.mod.kin T.kC hall (thn (hkw.run pos pins s σ H _ I hw) fun ws s1 ⟨zs, H1, I1, rz, lz, q1⟩ => ⟨I1.kIn, ?_⟩) hpl) hdb)⟩
  obtain ⟨nm, qn, N, bs, bm, sn, sub, ab, col, dd, k0, k1, k2, k3, k5, hC, hbm⟩ := T.cls
  rw [hks]
  obtain ⟨hp, g0, dr, t, os⟩ := s1
  have le1 : hp.objs.size ≤ hp.objs.size + 1 := by omega
  have kept : ∀ b o, hp.get? b = some o → ((hp.push (PySem.W.kdv_tup [])).push (PySem.HandSPX.excO C hp.objs.size)).get? b = some o := fun _ _ z => Heap.get?_push_of_some _ (Heap.get?_push_of_some _ z)
  have at1 : ((hp.push (PySem.W.kdv_tup [])).push (PySem.HandSPX.excO C hp.objs.size)).get? (hp.objs.size + 1) = some (PySem.HandSPX.excO C hp.objs.size) := by heap_get
  have J : Inv X pins σ (upd H1 (hp.objs.size + 1) (exo (hp.objs.size + 1) C none)) ⟨(hp.push (PySem.W.kdv_tup [])).push (PySem.HandSPX.excO C hp.objs.size), g0, dr, t, os⟩ := I1.laid (t' := t) kept le1 (exo_ok at1)
  have q2 := q1 (hp.objs.size + 1) (I1.hok.fresh le1)
  have r1 : Vals [V.ref (hp.objs.size + 1)] [Value.ref (hp.objs.size + 1)] := .cons rfl .nil
  have bnd := hb.to _ [Value.ref (hp.objs.size + 1)] ws J.kIn rfl (rz.length.symm.trans lz)
  refine wpAny_call (PySem.HSK.kw_call F.excBase_ValueError (fun Y => PySem.HandSPX.refsVE_contains Y bm hbm) (I1.kIn _ _ hC) (PySem.W.looks_findIn I1.kIn iC) (fun self => PySem.W.bind_fn I1.kIn self tI)
    (codeAny_mono (F1.run _ X.stack _ _ ⟨[Value.ref (hp.objs.size + 1)], ks.zip ws⟩ _ _ _ _ (hr.make C [] (ks.zip ws)) (J.env0.make C [] (ks.zip ws)) bnd (hb.rel r1 rz) q2) fun r s' back => ?_))
  match r, back with
  | .error er, back => exact hx pins σ _ _ er s' J back
  | .ok (.ret u), back =>
    obtain ⟨v, H', J', rv, ev, q3⟩ := J.after back
    subst ev
    exact ⟨rv, ⟨V.ref (hp.objs.size + 1), H', J', rfl, q3⟩⟩
end
section
variable {σ : L2.St} {H : Hp} {Q : VK} {C : Addr} {sp : Sp} {m : Nat} {gV : List V → List V → List V} {tk : TA}
theorem newK (h : tk σ H fun zs H1 => zs.length = m ∧ ∀ a, H1 a = none → sp (gV [.ref a] zs) (upd H1 a (exo a C none)) (fun v H2 => v = .non ∧ Q (.ref a) H2) (fun _ _ _ => False)) : tNewK C m sp gV tk σ H Q := h
end
end HS
namespace HS
open PySem PySem.Spec PyProof.Rows L2
/-! ### own exceptions that are raised and caught -/
section
variable {C a : Addr} {sp : Sp} {dvs : List V} {ta : TA} {te : TE} {σ : L2.St} {H H1 H2 : Hp} {R : XK} {Q : VK} {d : Addr} {u o : HO}
theorem mkO (h : ta σ H fun vs H1 => vs.length ≤ 1000 ∧ ∀ a, H1 a = none → sp (.ref a :: (vs ++ dvs)) (upd H1 a (exo a C none))
    (fun v H2 => v = .non ∧ ∃ (d : Addr) (fs : List (Str × V)), H2 a = some (exo a C (some d)) ∧ H2 d = some (exd d fs) ∧ H1 d = none ∧ R (.ref C) (some d) (upd (del H2 a) d (.xd fs))) (fun _ _ _ => False)) : tMkO C sp dvs ta σ H R := h
theorem callS {E : L2.St → XK} (h : ta σ H fun vs H1 => sp vs H1 Q (E σ)) : tCallS sp E ta σ H Q := h
theorem xf {cls : Value} {dx : Option Addr} {f : Str} (h : te σ H fun x H1 => x = .ref a ∧ cls = .ref C ∧ ∃ (dd : Addr) (fs : List (Str × V)) (v : V), dx = some dd ∧ H1 dd = some (.xd fs) ∧ fs.lookup f = some v ∧ Q v H1) : tXf a cls dx C f te σ H Q := h
/-- what stood ahead of the new exception a stands, and its dict at d besides -/
theorem Keep.exc (k : Keep (fun x => x = a) (upd H a o) H2) (ha : H a = none) (hd : H d = none) : Keep (fun _ => False) H (upd (del H2 a) d u) := fun b q e _ => by
  have hba : b ≠ a := ne_of_none e ha
  rw [upd_ne (ne_of_none e hd)]
  show (if b = a then none else H2 b) = some q
  rw [if_neg hba]
  exact k b q (by rw [upd_ne hba]; exact e) hba
/-- one value, put into a new exception whose maker holds the usual promise -/
theorem mk1 {K : PySem.W.Frag} {w : V}
    (hsp : ∀ (H' : Hp) (Q' : VK) (E' : XK) (b : Addr), OexC K C → PySem.W.findIn K (.ref C) "value" = some none → H' b = some (exo b C none) →
      (∀ H3 d, HS.Keep (fun x => x = b) H' H3 → H' d = none → d ≠ b → H3 b = some (exo b C (some d)) → H3 d = some (exd d [("value", w)]) → Q' .non H3) → sp [.ref b, w] H' Q' E')
    (T1 : OexC K C) (hv : PySem.W.findIn K (.ref C) "value" = some none)
    (h : ∀ H' d, Keep (fun _ => False) H H' → H d = none → H' d = some (.xd [("value", w)]) → R (.ref C) (some d) H') :
    [w].length ≤ 1000 ∧ ∀ a, H a = none → sp (.ref a :: ([w] ++ [])) (upd H a (exo a C none))
      (fun v H2 => v = .non ∧ ∃ (d : Addr) (fs : List (Str × V)), H2 a = some (exo a C (some d)) ∧ H2 d = some (exd d fs) ∧ H d = none ∧ R (.ref C) (some d) (upd (del H2 a) d (.xd fs))) (fun _ _ _ => False) :=
  ⟨show 1 ≤ 1000 by decide, fun a ha => hsp _ _ _ a T1 hv upd_same fun H3 d k hd hne e1 e2 =>
    have hd' : H d = none := by rw [upd_ne hne] at hd; exact hd
    ⟨rfl, d, _, e1, e2, hd', h _ d (k.exc ha hd') hd' upd_same⟩⟩
end
end HS
/-! Defs that are called while nothing is being shown (no repr stands on the stack), so that they may call repr of a list. -/
namespace HS
open PySem PySem.Spec PyProof.Rows L2
/-- a def's promise where no repr is under way -/
structure FnG (Pg : Program) (wd : World) (K : PySem.W.Frag) (mg : Str → Option Value) (base : Heap) (C : CXT) (n : Nat) (f : Addr) (fd : FuncData) (ps : List Str) (sp : Sp) : Prop where
  len : ∀ vs H Q E, sp vs H Q E → vs.length = ps.length
  go : ∀ (B : Around) (o : List Env) (s : Shared) (H : Hp) (ar : Args) (us : List Value) (vs : List V) (Q : VK) (E : XK), B.guards = some [] → Room n B → Env0 Pg wd K mg base B o s H →
    BindsTo s fd ar (ps.zip us) → Vals vs us → sp vs H Q E → codeAny (model Pg wd) B (.call (.ref f) ar) (CR C o Pg wd H s Q E) s
section
variable {Pg : Program} {wd : World} {K : PySem.W.Frag} {mg : Str → Option Value} {base : Heap} {C : CXT} {n : Nat} {f : Addr} {fd : FuncData} {ps : List Str} {sp : Sp}
/-- a finished body's end is the call's end -/
theorem g_end {N : List Str} {q : Str} {sc : Scope} {cd : Value} {B : Around} {o : List Env} {s : Shared} {H : Hp} {E : XK} {Q : VK} {x : Cx} (hx : x = cxOf C Pg wd K mg base N q sc f cd B o s H E) (fl : Flow) {s' : Shared} :
    SP x [] { nx := fun _ H' => Q .non H', rt := Q } fl s' → CR C o Pg wd H s Q E (.ok (.ret (match fl with | .ret v => v | _ => .none))) s' := by
  subst hx
  intro h
  cases fl
  case ret u => obtain ⟨v, st, H', J, rv, y⟩ := h; exact ⟨v, H', J.os, J.bare, J.base, J.hok, rv, y⟩
  case next => obtain ⟨st, H', J, y⟩ := h; exact ⟨.non, H', J.os, J.bare, J.base, J.hok, rfl, y⟩
  all_goals exact h.elim fun _ z => z.elim fun _ z => z.2.elim
theorem Fun.okG {x qn : Str} {st : Stmt} {N : List Str} (F : L2.Fun K x qn st f fd) (S : FnScope N ps (defScope st)) (len : ∀ vs H Q E, sp vs H Q E → vs.length = ps.length)
    (hb : ∀ (cd : Value) (B : Around) (o : List Env) (s : Shared) (H : Hp) (vs : List V) (Q : VK) (E : XK), B.guards = some [] → Room n (B.deeper (envOfC qn (defScope st) s.heap.objs.size f cd)) → sp vs H Q E →
      ∃ t, PSs (cxOf L2.CX0 Pg wd K mg base N qn (defScope st) f cd B o s H E).nox (defBody st) t ∧ t { nx := fun _ H' => Q .non H', rt := Q } (start N vs) H) : FnG Pg wd K mg base L2.CX0 (n + 1) f fd ps sp := by
  obtain ⟨_, _, _, _, _, _, cd, _, _, rfl, lk, hcd⟩ := F.ex
  refine ⟨len, fun B o s H ar us vs Q E hg hr e0 bd rv hs => ?_⟩
  have kin : K.In s.heap := e0.mod.kin.keeps fun b u e => (e0.bs b u e).1
  have kinds : ∀ y ∈ ps.zip us, (defScope st).names.lookup y.1 = some .local ∨ ((defScope st).names.lookup y.1 = some .cell ∧ ((cellsFrom (s.heap.objs.size + 1) (defScope st).names []).lookup y.1).isSome = true) := by
    rintro ⟨z, v⟩ hy
    exact (S.par z (List.of_mem_zip hy).1).elim .inl fun c => .inr ⟨c, PySem.W.cellsFrom_some _ _ _ (.inl c)⟩
  refine codeAny_call_function hr.depth (kin _ _ lk) rfl S.co S.gen rfl (PySem.W.codeRec_of kin hcd) (bd _ _ _ _ (wpAny_newFunctionEnv_cells S.kind kinds fun _ he s1 made => ?_))
  subst he
  obtain ⟨t, ht, hq⟩ := hb cd B o s H vs Q E hg (hr.deeper _) hs
  have start0 := inv_start (CX := L2.CX0) (E := E) (qual := qn) (cd := cd) (f := f) S hr.hd e0 (len _ _ _ _ hs) rv made
  exact ⟨(e0.mod.nolimit.keeps fun b u e => (e0.bs b u e).1).keeps made.toInCall.keep, codeAny_func (wpAny_mono (ht.nox.run [] s1 _ H _ start0 hq) (fun fl s' => g_end rfl fl) fun _ _ h => h)⟩
end
/-! ### calls -/
/-- the call of a def, whichever way its arguments come -/
theorem after_call {X : Cx} {C : CXT} {E : XK} {pins : List (Addr × Obj)} {σ : L2.St} {H : Hp} {s : Shared} {Q : VK} {f : Addr} {us : List Value} {kw : List (Str × Value)} (hx : Passes C X E) (I : Inv X pins σ H s)
    (h : codeAny (model X.prog X.w) X.A (.call (.ref f) ⟨us, kw⟩) (CR C X.stack X.prog X.w H s Q E) s) : wpAny (model X.prog X.w) X.A (call (.ref f) us kw) (EP X pins σ Q) X.xe s :=
  wpAny_call (codeAny_mono h fun r s' y => match r, y with
    | .error e, y => hx pins σ H s e s' I y
    | .ok (.ret _), y => I.after y)
/-- how a call with keywords binds, where the numbers of its arguments are written -/
structure KBX (K : PySem.W.Frag) (fd : FuncData) (ps : List Str) (n : Nat) (ks : List Str) (g : List Value → List Value → List Value) (gV : List V → List V → List V) : Prop where
  to : ∀ (s : Shared) (us ws : List Value), us.length = n → ws.length = ks.length → BindsTo s fd ⟨us, ks.zip ws⟩ (ps.zip (g us ws))
  rel : ∀ {vs : List V} {us : List Value} {zs : List V} {ws : List Value}, Vals vs us → Vals zs ws → Vals (gV vs zs) (g us ws)
def tCallN (n m : Nat) (sp : Sp) (gV : List V → List V → List V) (E : XK) (t tk : TA) : TE := fun σ H Q => t σ H fun vs H1 => tk σ H1 fun zs H2 => vs.length = n ∧ zs.length = m ∧ sp (gV vs zs) H2 Q E
theorem relAt : ∀ {vs : List V} {us : List Value} (_ : Vals vs us) (i : Nat), RelV (vs.getD i .non) (us.getD i .none)
  | [], _, r, i => by cases r; exact rfl
  | _ :: _, _, r, 0 => by cases r with | cons a _ => exact a
  | _ :: _, _, r, i + 1 => by cases r with | cons _ b => exact relAt b i
section
variable {X : Cx} {C : CXT} {n m : Nat} {f : Addr} {fd : FuncData} {ps ks : List Str} {sp : Sp} {E : XK} {x : Str} {p q : Pos} {e : Expr} {es : List Expr} {kws : List Keyword} {t tk : TA} {g : List Value → List Value → List Value} {gV : List V → List V → List V}
theorem pe_callG (hG : X.A.guards = some []) (F : FnG X.prog X.w X.K X.mg X.base C n f fd ps sp) (hr : Room n X.A) (gl : Gl X x) (mf : X.mg x = some (.ref f)) (kf : PySem.W.keepIn X.K (.ref f) = true) (bd : Binds X.K fd ps []) (hx : Passes C X E) (ha : PA X (e :: es) t)
    (h1 : (x == ("__debug__" : Str)) = false := by decide) (h2 : starEach (e :: es) X.env = (false, eval e X.env) :: starEach es X.env := by rfl) (h3 : (backTo q (starEach es X.env)).any (·.1) = false := by rfl) :
    PE X (.Call (.Name x p) (e :: es) [] q) (tCall sp [] E t) := by
  constructor
  intro pins s σ H Q I h
  refine wpAny_Call_Name_kw (ld_glob I gl mf (PySem.W.callWith_K (h₀ := X.base) I.ok.mod.kin kf (thn (ha.run q pins s σ H _ I h) fun us s1 ⟨vs, H1, I1, r, y⟩ => ⟨I1.kIn, ?_⟩) h2 h3) h1)
  have y : sp (vs ++ []) H1 Q E := y
  rw [List.append_nil] at y
  have hl : (us ++ []).length = ps.length := by rw [List.append_nil, ← r.length]; exact F.len _ _ _ _ y
  exact after_call hx I1 (F.go X.A X.stack s1 H1 _ (us ++ []) vs Q E hG hr I1.env0 (bd s1 us I1.kIn hl) (by rw [List.append_nil]; exact r) y)
/-- f(e, .., k = v, ..), f(k = v, ..) -/
theorem kw_to (hb : KBX X.K fd ps n ks g gV) {pins : List (Addr × Obj)} {σ : L2.St} {H : Hp} {s : Shared} {Q : VK} {vs zs : List V} {us ws : List Value}
    (run : ∀ (bs : List Value) (bv : List V), BindsTo s fd ⟨us, ks.zip ws⟩ (ps.zip bs) → Vals bv bs → sp bv H Q E → codeAny (model X.prog X.w) X.A (.call (.ref f) ⟨us, ks.zip ws⟩) (CR C X.stack X.prog X.w H s Q E) s)
    (hx : Passes C X E) (I : Inv X pins σ H s) (r : Vals vs us) (rz : Vals zs ws) (l1 : vs.length = n) (l2 : zs.length = ks.length) (y : sp (gV vs zs) H Q E) : wpAny (model X.prog X.w) X.A (call (.ref f) us (ks.zip ws)) (EP X pins σ Q) X.xe s :=
  after_call hx I (run _ _ (hb.to s us ws (by rw [← r.length]; exact l1) (by rw [← rz.length]; exact l2)) (hb.rel r rz) y)
theorem pe_kwG (hG : X.A.guards = some []) (F : FnG X.prog X.w X.K X.mg X.base C m f fd ps sp) (hr : Room m X.A) (gl : Gl X x) (mf : X.mg x = some (.ref f)) (kf : PySem.W.keepIn X.K (.ref f) = true) (hb : KBX X.K fd ps n ks g gV) (hx : Passes C X E) (ha : PA X (e :: es) t) (hk : PK X kws tk)
    (h0 : (backToKw q (keywordEach kws X.env)).all (·.1.isSome) = true := by rfl) (hks : (backToKw q (keywordEach kws X.env)).filterMap (·.1) = ks := by rfl) (h1 : (x == ("__debug__" : Str)) = false := by decide) (h2 : starEach (e :: es) X.env = (false, eval e X.env) :: starEach es X.env := by rfl)
    (h3 : ((backTo q (starEach (e :: es) X.env)).any (·.1) || (backToKw q (keywordEach kws X.env)).any (·.1.isNone)) = false := by rfl) : PE X (.Call (.Name x p) (e :: es) kws q) (tCallN n ks.length sp gV E t tk) := by
  constructor
  intro pins s σ H Q I h
  refine wpAny_Call_Name_kw (ld_glob I gl mf (PySem.W.callWith_KW (h₀ := X.base) I.ok.mod.kin kf h0 (thn (ha.run q pins s σ H _ I h) fun us s1 ⟨vs, H1, I1, r, y⟩ => thn (hk.run q pins s1 σ H1 _ I1 y) fun ws s2 ⟨zs, H2, I2, rz, l1, l2, y2⟩ => ⟨I2.kIn, ?_⟩) h3 h2) h1)
  rw [hks]
  exact kw_to hb (fun bs bv b1 b2 b3 => F.go X.A X.stack s2 H2 _ bs bv Q E hG hr I2.env0 b1 b2 b3) hx I2 r rz l1 l2 y2
theorem pe_kwG0 (hG : X.A.guards = some []) (F : FnG X.prog X.w X.K X.mg X.base C m f fd ps sp) (hr : Room m X.A) (gl : Gl X x) (mf : X.mg x = some (.ref f)) (kf : PySem.W.keepIn X.K (.ref f) = true) (hb : KBX X.K fd ps 0 ks g gV) (hx : Passes C X E) (hk : PK X kws tk)
    (h0 : (backToKw q (keywordEach kws X.env)).all (·.1.isSome) = true := by rfl) (hks : (backToKw q (keywordEach kws X.env)).filterMap (·.1) = ks := by rfl) (h1 : (x == ("__debug__" : Str)) = false := by decide)
    (h3 : ((backTo q (starEach [] X.env)).any (·.1) || (backToKw q (keywordEach kws X.env)).any (·.1.isNone)) = false := by rfl) : PE X (.Call (.Name x p) [] kws q) (tCallN 0 ks.length sp gV E tNil tk) := by
  constructor
  intro pins s σ H Q I h
  refine wpAny_Call_Name_kw (ld_glob I gl mf (PySem.W.callWith_KW0 (h₀ := X.base) I.ok.mod.kin kf h0 (thn (hk.run q pins s σ H _ I h) fun ws s2 ⟨zs, H2, I2, rz, l1, l2, y2⟩ => ⟨I2.kIn, ?_⟩) h3) h1)
  rw [hks]
  exact kw_to hb (fun bs bv b1 b2 b3 => F.go X.A X.stack s2 H2 _ bs bv Q E hG hr I2.env0 b1 b2 b3) hx I2 .nil rz rfl l2 y2
/-- the same of a def that may be called anywhere -/
theorem pe_kw (F : FnOk X.prog X.w X.K X.mg X.base C m f fd ps sp) (hr : Room m X.A) (gl : Gl X x) (mf : X.mg x = some (.ref f)) (kf : PySem.W.keepIn X.K (.ref f) = true) (hb : KBX X.K fd ps n ks g gV) (hx : Passes C X E) (ha : PA X (e :: es) t) (hk : PK X kws tk)
    (h0 : (backToKw q (keywordEach kws X.env)).all (·.1.isSome) = true := by rfl) (hks : (backToKw q (keywordEach kws X.env)).filterMap (·.1) = ks := by rfl) (h1 : (x == ("__debug__" : Str)) = false := by decide) (h2 : starEach (e :: es) X.env = (false, eval e X.env) :: starEach es X.env := by rfl)
    (h3 : ((backTo q (starEach (e :: es) X.env)).any (·.1) || (backToKw q (keywordEach kws X.env)).any (·.1.isNone)) = false := by rfl) : PE X (.Call (.Name x p) (e :: es) kws q) (tCallN n ks.length sp gV E t tk) := by
  constructor
  intro pins s σ H Q I h
  refine wpAny_Call_Name_kw (ld_glob I gl mf (PySem.W.callWith_KW (h₀ := X.base) I.ok.mod.kin kf h0 (thn (ha.run q pins s σ H _ I h) fun us s1 ⟨vs, H1, I1, r, y⟩ => thn (hk.run q pins s1 σ H1 _ I1 y) fun ws s2 ⟨zs, H2, I2, rz, l1, l2, y2⟩ => ⟨I2.kIn, ?_⟩) h3 h2) h1)
  rw [hks]
  exact kw_to hb (fun bs bv b1 b2 b3 => F.run X.A X.stack s2 H2 _ bs bv Q E hr I2.env0 b1 b2 b3) hx I2 r rz l1 l2 y2
theorem pe_kw0 (F : FnOk X.prog X.w X.K X.mg X.base C m f fd ps sp) (hr : Room m X.A) (gl : Gl X x) (mf : X.mg x = some (.ref f)) (kf : PySem.W.keepIn X.K (.ref f) = true) (hb : KBX X.K fd ps 0 ks g gV) (hx : Passes C X E) (hk : PK X kws tk)
    (h0 : (backToKw q (keywordEach kws X.env)).all (·.1.isSome) = true := by rfl) (hks : (backToKw q (keywordEach kws X.env)).filterMap (·.1) = ks := by rfl) (h1 : (x == ("__debug__" : Str)) = false := by decide)
    (h3 : ((backTo q (starEach [] X.env)).any (·.1) || (backToKw q (keywordEach kws X.env)).any (·.1.isNone)) = false := by rfl) : PE X (.Call (.Name x p) [] kws q) (tCallN 0 ks.length sp gV E tNil tk) := by
  constructor
  intro pins s σ H Q I h
  refine wpAny_Call_Name_kw (ld_glob I gl mf (PySem.W.callWith_KW0 (h₀ := X.base) I.ok.mod.kin kf h0 (thn (hk.run q pins s σ H _ I h) fun ws s2 ⟨zs, H2, I2, rz, l1, l2, y2⟩ => ⟨I2.kIn, ?_⟩) h3) h1)
  rw [hks]
  exact kw_to hb (fun bs bv b1 b2 b3 => F.run X.A X.stack s2 H2 _ bs bv Q E hr I2.env0 b1 b2 b3) hx I2 .nil rz rfl l2 y2
end
section
variable {σ : L2.St} {H : Hp} {Q : VK} {t tk : TA} {sp : Sp} {gV : List V → List V → List V} {E : XK} {n m : Nat}
theorem caln (h : t σ H fun vs H1 => tk σ H1 fun zs H2 => vs.length = n ∧ zs.length = m ∧ sp (gV vs zs) H2 Q E) : tCallN n m sp gV E t tk σ H Q := h
theorem lnn {a b c d : Nat} {A : Prop} (e : a = c) (f : b = d) (h : A) : a = c ∧ b = d ∧ A := ⟨e, f, h⟩
end
/-! ### repr -/
mutual
/-- data of ints below 2 ^ 200, bools, None, in lists and tuples -/
def tame : PyData → Bool
  | .none | .bool _ => true
  | .int i => decide (i.natAbs < 2 ^ 200)
  | .list ds | .tuple ds => tameAll ds
  | .str x => PyData.showable (.str x) && PyData.leavesShort 201 (.str x)
  | _ => false
def tameAll : List PyData → Bool
  | [] => true
  | d :: ds => tame d && tameAll ds
end
theorem tame_int {i : Int} (h : i.natAbs < 2 ^ 200) : i.natAbs.log2 < 200 := by
  by_cases z : i.natAbs = 0
  · rw [z]; decide
  · exact (Nat.log2_lt z).mpr h
mutual
theorem tame_ok : ∀ d : PyData, tame d = true → d.showable = true ∧ d.hasDict = false ∧ d.leavesShort 201 = true
  | .none, _ => ⟨rfl, rfl, rfl⟩
  | .bool _, _ => ⟨rfl, rfl, rfl⟩
  | .int i, h => by
    have h' := tame_int (of_decide_eq_true (by simpa only [tame] using h))
    refine ⟨by simp only [PyData.showable]; exact decide_eq_true (by omega), rfl, ?_⟩
    simp only [PyData.leavesShort]
    exact decide_eq_true (by show (Str.ofString (toString i)).length ≤ 201; rw [PySem.ofString_length]; exact PySem.int_text_length_le (by decide) h')
  | .str x, h => by
    have h' : PyData.showable (.str x) = true ∧ PyData.leavesShort 201 (.str x) = true := by simpa only [tame, Bool.and_eq_true] using h
    exact ⟨h'.1, rfl, h'.2⟩
  | .dict _, h => by simp [tame] at h
  | .list ds, h => by
    have := tame_okAll ds (by simpa only [tame] using h)
    simpa only [PyData.showable, PyData.hasDict, PyData.leavesShort] using this
  | .tuple ds, h => by
    have := tame_okAll ds (by simpa only [tame] using h)
    simpa only [PyData.showable, PyData.hasDict, PyData.leavesShort] using this
theorem tame_okAll : ∀ ds : List PyData, tameAll ds = true → PyData.showableAll ds = true ∧ PyData.hasDictAll ds = false ∧ PyData.leavesShortAll 201 ds = true
  | [], _ => ⟨rfl, rfl, rfl⟩
  | d :: ds, h => by
    have h' : tame d = true ∧ tameAll ds = true := by simpa only [tameAll, Bool.and_eq_true] using h
    obtain ⟨a, b, c⟩ := tame_ok d h'.1
    obtain ⟨a', b', c'⟩ := tame_okAll ds h'.2
    simp only [PyData.showableAll, PyData.hasDictAll, PyData.leavesShortAll, a, b, c, a', b', c']
    decide
end
/-- repr of a list or a tuple -/
def rRepr (K : PySem.W.Frag) : List V → Hp → VK → Prop := fun vs H Q => ∃ a d, vs = [.ref a] ∧ Dp K H (.ref a) d ∧ tame d = true ∧ d.depth ≤ 60 ∧ d.bulk ≤ 60000 ∧ Q (.str d.shown) H
theorem krepr (K : PySem.W.Frag) {X : Cx} {k : Nat} (hG : X.A.guards = some []) (hr : Room k X.A) (h : X.K = K := by rfl) : CallR X (.builtin "repr") (rRepr K) := by
  subst h
  intro pins s σ H xs us Q I r hq
  obtain ⟨a, d, rfl, hd, ht, hdp, hb, q⟩ := hq
  obtain ⟨u, rfl, ru⟩ := vals1 r
  obtain rfl : u = Value.ref a := ru
  obtain ⟨as, rd⟩ := Dp.reads I d _ _ hd rfl
  obtain ⟨o1, o2, o3⟩ := tame_ok d ht
  have fits := PyData.shown_le_bulk 201 (by decide) d o3
  have un := hr.units
  refine repr_of_reads' rd o1 (PyData.noDict_hsm o2) hG (by omega) (fun _ _ e => e) (fun h' u tk hk => ⟨.str d.shown, H, ?_, ⟨u, rfl⟩, q⟩) (by rw [sizeLine_eq]; omega)
  exact I.kept hk
end HS
/-! The end of a proof whose law def is called while nothing is being shown. -/
namespace HS
open PySem PySem.Spec PyProof.Rows L2
section
variable {Pg : Program} {wd : World} {K : PySem.W.Frag} {mg mb : Str → Option Value} {C : CXT} {n : Nat} {fa a : Addr} {fd : FuncData} {x : Str} {sp : Sp} {s1 : Shared} {vs : List Value} {ns : List Int}
/-- what the caller's heap holds where the abstract heap tracks the script alone, or nothing -/
structure AtTop (Pg : Program) (wd : World) (K : PySem.W.Frag) (a : Addr) (ns : List Int) (s1 : Shared) (H : Hp) : Prop where
  only : Only H
  here : SqL K H a (ns.map V.int)
  hok : HOk Pg wd H s1.heap
  one : ∀ b, b ≠ a → H b = none
  out : H a = none ∨ K.lookup a = none
theorem top_run (T : AtTop Pg wd K a ns s1 H) (KX : K.In s1.heap) (g : s1.heap.Ns mainGlobals mg) (gb : s1.heap.Ns builtinsNs mb) (hb : ∀ y : Str, y ≠ "__name__" → mb y = bootBuiltins y) (lim : s1.heap.NoLimit) (hg : s1.gens = #[])
    (seq : ∃ o, s1.heap.get? a = some o ∧ ∃ us m, o.data = .seq us m) (hr : Room n callerA) (F : ∀ base : Heap, K.In base → base.Ns mainGlobals mg → FnG Pg wd K mg base C n fa fd [x] sp) (bd : ∀ (s : Shared) (u : Value), BindsTo s fd ⟨[u], []⟩ [(x, u)])
    (want : ∀ H : Hp, Only H → SqL K H a (ns.map V.int) → sp [.ref a] H (fun v _ => v = .bl true) fun _ _ _ => False) (noX : ∀ H e s', C [] H s1 (fun _ _ _ => False) e s' → False) :
    codeAny (model Pg wd) callerA (.call (.ref fa) ⟨[.ref a], []⟩) (fun r s' => r = .ok (.ret (.bool true)) ∧ OldK s1.heap s'.heap ∧ s'.os = s1.os ∧ AllBare s'.gens) s1 := by
  obtain ⟨oa, ea, us, m, da⟩ := seq
  -- the base: all but what is tracked
  have stays : ∀ {b : Addr} {o : Obj}, s1.heap.get? b = some o → (b = a → H a = none) → (hidT s1.heap H).get? b = some o := fun {b o} e h =>
    hidT_get e (by by_cases q : b = a; · subst q; exact h rfl
                   · exact T.one b q)
  have dict : ∀ {b : Addr} {f : Str → Option Value}, s1.heap.Ns b f → (hidT s1.heap H).Ns b f := by
    rintro b f ⟨o, es, ep, e, d, r⟩
    refine ⟨o, es, ep, stays e fun q => ?_, d, r⟩
    subst q
    rw [ea] at e
    cases e
    rw [da] at d
    cases d
  have kin : K.In (hidT s1.heap H) := fun b o e => stays (KX b o e) fun q => by
    subst q
    rcases T.out with h | h
    · exact h
    · rw [h] at e; cases e
  have md : Mod K mg (hidT s1.heap H) := ⟨kin, dict g, ⟨mb, dict gb, hb⟩, by obtain ⟨mc, l1, l2⟩ := lim; exact ⟨mc, dict l1, l2⟩⟩
  have e0 : Env0 Pg wd K mg (hidT s1.heap H) callerA [] s1 H := ⟨rfl, md, fun _ _ e => of_hidT e, Nat.le_of_eq (hidT_size _ _), trivial, nofun, T.hok, .of_eq hg⟩
  refine codeAny_mono ((F _ kin (dict g)).go callerA [] s1 H ⟨[.ref a], []⟩ [.ref a] [.ref a] _ _ rfl hr e0 (bd s1 (.ref a)) (.cons rfl .nil) (want H T.only T.here)) fun r s' y => ?_
  match r, y with
  | .error e, y => exact (noX H e s' y).elim
  | .ok (.ret u), y =>
    obtain ⟨v, H', os, bare, un, ok', rv, rfl⟩ := y
    obtain rfl : u = Value.bool true := rv
    refine ⟨rfl, OldK.of_keep fun b o e => ?_, os, bare⟩
    rcases T.only b with z | ⟨ob, xs, z⟩
    · exact un.keep b o e z nofun nofun
    · have t1 := (T.hok b _ z).1
      rw [e] at t1
      rw [Option.some.inj t1]
      exact (ok' b _ (un.frzs b ob _ z)).1
theorem top_at (KX : K.In s1.heap) (ha : s1.heap.get? a = some { cls := .type "list", data := .seq vs.toArray }) (hi : IntsAre vs ns) (hl : ns.length ≤ sizeLine) : ∃ H, AtTop Pg wd K a ns s1 H := by
  have rv := vals_ints hi
  by_cases hk : K.lookup a = none
  · refine ⟨fun b => if b = a then some (.frz { cls := .type "list", data := .seq vs.toArray } (.lst (ns.map V.int))) else none, fun b => ?_, .inl (.inr ⟨_, if_pos rfl⟩), fun b u z => ?_, fun b q => if_neg q, .inr hk⟩
    · by_cases q : b = a
      · exact .inr ⟨_, _, if_pos q⟩
      · exact .inl (if_neg q)
    · by_cases q : b = a
      · subst q
        rw [if_pos rfl] at z
        cases z
        exact ⟨ha, by rw [List.length_map]; exact hl, vs, _, rv, ha⟩
      · rw [if_neg q] at z
        cases z
  · obtain ⟨o, ho⟩ := Option.ne_none_iff_exists'.mp hk
    have e := KX a o ho
    rw [ha] at e
    cases e
    exact ⟨fun _ => none, fun _ => .inl rfl, .inr ⟨_, vs.toArray, _, ho, rfl, rfl, rfl, by rw [List.size_toArray, hi.length]; exact hl, by simpa using rv⟩, (fun _ _ z => nomatch z), fun _ _ => rfl, .inl rfl⟩
end
theorem walk_ofG {l : PySem.W.OpenLaw} {n k : Nat} {q : Program} {loose : List Str} {XP : (Str → Option Value) → Heap → Prop} {YP : World → Heap → Prop} {d : DefRec} {K : Params → PySem.W.Frag} {CX : World → CXT} {sp : World → Sp} {x : Str}
    (h1 : l.most = some n) (h2 : n ≤ sizeLine) (h3 : d.params.defaults = []) (hr : Room k callerA) (hY : ∀ (w : World) (h : Heap), YP w h → (K w.params).In h)
    (F : ∀ (w : World) (mg : Str → Option Value) (fa : Addr) (h : Heap), (K w.params).In h → h.Ns mainGlobals mg → mg d.name = some (.ref fa) → ∃ fd : FuncData, (∀ (s : Shared) (u : Value), BindsTo s fd ⟨[u], []⟩ [(x, u)]) ∧
      ∀ base : Heap, (K w.params).In base → base.Ns mainGlobals mg → FnG l.prog w (K w.params) mg base (CX w) k fa fd [x] (sp w))
    (want : ∀ (w : World) (H : Hp) (a : Addr) (ns : List Int), ns.length ≤ n → Only H → SqL (K w.params) H a (ns.map V.int) → sp w [.ref a] H (fun v _ => v = .bl true) fun _ _ _ => False)
    (noX : ∀ (w : World) (H : Hp) (s : Shared) (e : Value) (s' : Shared), CX w [] H s (fun _ _ _ => False) e s' → False) : PySem.W.WalkO q loose XP YP l.row.toRowW d [] (fun f vs => PySem.call f vs) :=
  Att.attach_call h1 h3 fun w _ s1 mg _ fa _ _ _ _ a vs ns G Y _ _ _ hm ho hi hl hg => by
    obtain ⟨fd, bd, hF⟩ := F w mg fa _ (hY w _ Y) G.T.g hm
    obtain ⟨H, T⟩ := top_at (Pg := l.prog) (wd := w) (hY w _ Y) ho hi (Nat.le_trans hl h2)
    exact top_run T (hY w _ Y) G.T.g G.T.b G.T.builtins G.T.nolimit hg ⟨_, ho, _, _, rfl⟩ hr hF bd (fun H o => want w H a ns hl o) fun H e s' => noX w H s1 e s'
end HS
/-! sorted of ints; lists in descending order. -/
namespace HS
open PySem PySem.Spec PyProof.Rows L2
section
variable {X : Cx} (K : PySem.W.Frag)
end
/-- in descending order -/
def desc (ls : List Int) : List Int := ls.mergeSort fun a b => decide (b ≤ a)
theorem desc_perm (ls : List Int) : (desc ls).Perm ls := List.mergeSort_perm ls _
theorem desc_pair (ls : List Int) : (desc ls).Pairwise (· ≥ ·) := by
  have h := List.pairwise_mergeSort (le := fun a b : Int => decide (b ≤ a)) (fun a b c h1 h2 => by simp only [decide_eq_true_eq] at *; omega) (fun a b => by simp only [Bool.or_eq_true, decide_eq_true_eq]; omega) ls
  exact h.imp fun h => by simpa using h
theorem same_desc : ∀ {xs ys : List Int}, xs.Perm ys → xs.Pairwise (· ≥ ·) → ys.Pairwise (· ≥ ·) → xs = ys
  | [], ys, p, _, _ => (List.nil_perm.mp p).symm ▸ rfl
  | x :: xs, [], p, _, _ => absurd (List.perm_nil.mp p) (by simp)
  | x :: xs, y :: ys, p, h1, h2 => by
    rw [List.pairwise_cons] at h1 h2
    have e : x = y := by
      have a := p.mem_iff.mp List.mem_cons_self
      have b := p.mem_iff.mpr (List.mem_cons_self (a := y) (l := ys))
      rcases List.mem_cons.mp a with a | a
      · exact a
      · rcases List.mem_cons.mp b with b | b
        · exact b.symm
        · have := h1.1 y b
          have := h2.1 x a
          omega
    subst e
    rw [same_desc (List.Perm.cons_inv p) h1.2 h2.2]
theorem desc_of {xs ys : List Int} (p : xs.Perm ys) (h : xs.Pairwise (· ≥ ·)) : xs = desc ys := same_desc (p.trans (desc_perm ys).symm) h (desc_pair ys)
theorem desc_rev {xs ys : List Int} (p : xs.Perm ys) (h : xs.Pairwise (· ≤ ·)) : xs.reverse = desc ys := desc_of ((List.reverse_perm xs).trans p) (List.pairwise_reverse.mpr h)
theorem desc_same {xs ys : List Int} (p : xs.Perm ys) : desc xs = desc ys := desc_of ((desc_perm xs).trans p) (desc_pair xs)
theorem desc_len (ls : List Int) : (desc ls).length = ls.length := (desc_perm ls).length_eq
theorem desc_mem {ls : List Int} {x : Int} : x ∈ desc ls ↔ x ∈ ls := (desc_perm ls).mem_iff
theorem desc_count (ls : List Int) (x : Int) : (desc ls).count x = ls.count x := (desc_perm ls).count_eq x
theorem desc_desc (ls : List Int) : desc (desc ls) = desc ls := desc_same (desc_perm ls)
/-- those greater than v -/
def above (ls : List Int) (v : Int) : List Int := (desc ls).filter fun x => decide (v < x)
theorem filter_none {ls : List Int} {v : Int} (h : ∀ x ∈ ls, x ≤ v) : (ls.filter fun x => decide (v < x)) = [] := by
  rw [List.filter_eq_nil_iff]
  intro x hx
  have := h x hx
  simp; omega
theorem filter_step : ∀ {D : List Int} (v : Int), D.Pairwise (· ≥ ·) → (D.filter fun x => decide (v < x)) = (D.filter fun x => decide (v + 1 < x)) ++ List.replicate (D.count (v + 1)) (v + 1)
  | [], _, _ => rfl
  | x :: r, v, h => by
    rw [List.pairwise_cons] at h
    have ih := filter_step v h.2
    by_cases c1 : v + 1 < x
    · rw [List.filter_cons_of_pos (by simp; omega), List.filter_cons_of_pos (by simp; omega), List.count_cons_of_ne (by omega), ih]
      rfl
    · have c3 : (r.filter fun x => decide (v + 1 < x)) = [] := filter_none fun y hy => by have := h.1 y hy; omega
      rw [List.filter_cons_of_neg (a := x) (p := fun x => decide (v + 1 < x)) (by simp; omega), c3]
      rw [c3] at ih
      by_cases c2 : x = v + 1
      · subst c2
        rw [List.filter_cons_of_pos (p := fun x => decide (v < x)) (decide_eq_true (show v < v + 1 by omega)), List.count_cons_self, ih, List.replicate_succ]
        rfl
      · rw [List.filter_cons_of_neg (by simp; omega), List.count_cons_of_ne (by omega), ih]
theorem above_step (ls : List Int) (v : Int) : above ls v = above ls (v + 1) ++ List.replicate (ls.count (v + 1)) (v + 1) := by
  unfold above; rw [filter_step v (desc_pair ls), desc_count]
theorem above_top {ls : List Int} {v : Int} (h : ∀ x ∈ ls, x ≤ v) : above ls v = [] := filter_none fun x hx => h x (desc_mem.mp hx)
theorem above_all {ls : List Int} (h : ∀ x ∈ ls, 1 ≤ x) : above ls 0 = desc ls := by
  unfold above
  rw [List.filter_eq_self]
  intro x hx
  have := h x (desc_mem.mp hx)
  simp; omega
theorem above_le (ls : List Int) (v : Int) : (above ls v).length ≤ ls.length := by
  rw [← desc_len ls]; exact List.length_filter_le _ _
theorem at_last {xs ys : List V} {v : V} (h : xs = ys ++ [v]) : atI xs (-1) = some v := by
  rw [h]
  unfold atI ixN
  rw [if_neg (by omega), List.length_append, List.length_singleton]
  rw [if_pos (by push_cast; omega)]
  show (ys ++ [v])[_]? = _
  rw [show (-1 + ((ys.length + 1 : Nat) : Int)).toNat = ys.length by omega]
  simp
theorem desc_nil : desc [] = [] := by
  have := desc_perm []
  exact List.perm_nil.mp this
end HS
namespace HS
open PySem PySem.Spec PyProof.Rows L2
/-- sorted(b)[::-1] -/
def revQ (K : PySem.W.Frag) (Q : VK) : VK := fun x H1 => ∃ a xs, x = .ref a ∧ SqL K H1 a xs ∧ ∀ p, H1 p = none → Q (.ref p) (upd H1 p (.lst xs.reverse))
def srvQ (K : PySem.W.Frag) (Q : VK) : List V → Hp → Prop := fun vs H1 => ∃ b ls, vs = [.ref b] ∧ SqL K H1 b (ls.map V.int) ∧ ∀ H' p, Keep (fun _ => False) H1 H' → H1 p = none → H' p = some (.lst ((desc ls).map V.int)) → Q (.ref p) H'
def tSrv (K : PySem.W.Frag) (tl : TA) : TE := fun σ H Q => tl σ H (srvQ K Q)
theorem pe_srv (K : PySem.W.Frag) {X : Cx} {E C : Expr} {tl : TA} (h : ∀ r, CallR X (.builtin "sorted") r → PE X C (tCB r tl)) (rev : ∀ te, PE X C te → PE X E (tRevL X.K te)) (hK : X.K = K := by rfl) : PE X E (tSrv K tl) := by
  subst hK
  refine ⟨fun pins s σ H Q I hq => ?_⟩
  refine (rev _ (h (fun vs H1 Q' => srvQ X.K Q vs H1 ∧ Q' = revQ X.K Q) ?_)).run pins s σ H Q I ?_
  · intro pins s σ H xs us Q' I r h2
    obtain ⟨⟨b, ls, e, hs, k⟩, rfl⟩ := h2
    refine cr_sortedI pins s σ H xs us _ I r ⟨b, ls, e, hs, fun us p hperm hpair hp => ⟨_, _, rfl, HS.sq upd_same, fun q hq => ?_⟩⟩
    have K1 : Keep (fun _ => False) H (upd H p (.lst (us.map V.int))) := Keep.new hp
    rw [← List.map_reverse, desc_rev hperm hpair]
    exact k _ q (K1.nw hq) (K1.free hq id) upd_same
  · show tl σ H fun vs H1 => srvQ X.K Q vs H1 ∧ revQ X.K Q = revQ X.K Q
    have e : (fun vs H1 => srvQ X.K Q vs H1 ∧ revQ X.K Q = revQ X.K Q) = srvQ X.K Q := by
      funext vs H1
      exact propext ⟨fun z => z.1, fun z => ⟨z, rfl⟩⟩
    rw [e]
    exact hq
theorem srv {K : PySem.W.Frag} {tl : TA} {σ : L2.St} {H : Hp} {Q : VK} (h : tl σ H fun vs H1 => ∃ b ls, vs = [.ref b] ∧ SqL K H1 b (ls.map V.int) ∧ ∀ H' p, Keep (fun _ => False) H1 H' → H1 p = none → H' p = some (.lst ((desc ls).map V.int)) → Q (.ref p) H') : tSrv K tl σ H Q := h
end HS
namespace HS
open PySem PySem.Spec PyProof.Rows L2
/-- in ascending order -/
def asc (ls : List Int) : List Int := (desc ls).reverse
theorem asc_perm (ls : List Int) : (asc ls).Perm ls := (List.reverse_perm _).trans (desc_perm ls)
theorem asc_of {xs ys : List Int} (p : xs.Perm ys) (h : xs.Pairwise (· ≤ ·)) : xs = asc ys := by
  unfold asc; rw [← desc_rev p h, List.reverse_reverse]
theorem asc_pair (ls : List Int) : (asc ls).Pairwise (· ≤ ·) := by
  unfold asc
  rw [List.pairwise_reverse]
  exact desc_pair ls
theorem asc_len (ls : List Int) : (asc ls).length = ls.length := (asc_perm ls).length_eq
theorem asc_mem {ls : List Int} {x : Int} : x ∈ asc ls ↔ x ∈ ls := (asc_perm ls).mem_iff
theorem asc_inj {xs ys : List Int} : asc xs = asc ys ↔ desc xs = desc ys := List.reverse_inj
def rAsc (K : PySem.W.Frag) : List V → Hp → VK → Prop := fun vs H Q => ∃ b ls, vs = [.ref b] ∧ SqL K H b (ls.map V.int) ∧ ∀ H' p, Keep (fun _ => False) H H' → H p = none → H' p = some (.lst ((asc ls).map V.int)) → Q (.ref p) H'
def rDesc (K : PySem.W.Frag) : List V → List V → Hp → VK → Prop := fun vs zs H Q => ∃ b ls, vs = [.ref b] ∧ zs = [.bl true] ∧ SqL K H b (ls.map V.int) ∧ ∀ H' p, Keep (fun _ => False) H H' → H p = none → H' p = some (.lst ((desc ls).map V.int)) → Q (.ref p) H'
section
variable {X : Cx} (K : PySem.W.Frag)
theorem ksort (h : X.K = K := by rfl) : CallR X (.builtin "sorted") (rAsc K) := by
  subst h
  intro pins s σ H xs us Q I r ⟨b, ls, e, hs, k⟩
  exact cr_sortedI pins s σ H xs us Q I r ⟨b, ls, e, hs, fun us p hperm hpair hp => k _ p (Keep.new hp) hp (by rw [upd_same, asc_of hperm hpair])⟩
theorem ksortR (h : X.K = K := by rfl) : CallRK X (.builtin "sorted") [Str.ofString "reverse"] (rDesc K) := by
  subst h
  intro pins s σ H xs zs us ws Q I r rz ⟨b, ls, e, ez, hs, k⟩
  exact cr_sortedRev (b := true) pins s σ H xs zs us ws Q I r rz ⟨b, ls, e, ez, hs, fun us p hperm hpair hp => k _ p (Keep.new hp) hp (by rw [upd_same, desc_of hperm hpair])⟩
theorem kiz {tg l : Expr} {tl : TA} (p : PI X tg l (iZip X.K tl)) (h : X.K = K := by rfl) : PI X tg l (iZip K tl) := h ▸ p
theorem kcnt (h : X.K = K := by rfl) : MtR X "list.count" (rCntI K) := h ▸ mt_lcount
theorem korT {E : Expr} {ta tb : TE} (p : PE X E (tOrT X.K ta tb)) (h : X.K = K := by rfl) : PE X E (tOrT K ta tb) := h ▸ p
end
section
variable {σ : L2.St} {H : Hp} {Q : VK} {K : PySem.W.Frag}
theorem ckw {r : List V → List V → Hp → VK → Prop} {t tk : TA} (h : t σ H fun vs H1 => tk σ H1 fun zs H2 => r vs zs H2 Q) : tCKw r t tk σ H Q := h
theorem izip {tl : TA} {R : It → Hp → Prop} (h : tl σ H fun vs H1 => ∃ a b xs ys, vs = [.ref a, .ref b] ∧ SqL K H1 a xs ∧ SqL K H1 b ys ∧ R (Itz K a b) H1) : iZip K tl σ H R := h
theorem lcn {p : Addr} {ns : List Int} {k : Int} (h : SqL K H p (ns.map V.int)) (q : Q (.int (ns.count k : Nat)) H) : rCntI K (.ref p) [.int k] H Q := ⟨p, ns, k, rfl, rfl, h, q⟩
theorem orT {ta tb : TE} (h : ta σ H fun x H1 => ∃ k, TruV K x H1 k ∧ if k = true then Q x H1 else tb σ H1 Q) : tOrT K ta tb σ H Q := h
end
end HS
/-! set(xs) of a list of ints, len and sorted of it. -/
namespace HS
open PySem PySem.Spec PyProof.Rows L2
/-- a set just made -/
abbrev set0 (w : World) : Obj := { cls := .type "set", dict := none, data := .set #[] 0 (.fresh 0 0 (!w.params.followText "set-order")) }
section
variable {P : Program} {w : World} {A : Around} {E : Value → Shared → Prop} {s : Shared}
set_option maxHeartbeats 3200000 in
theorem set_of_list {l : Addr} {xs : Array Value} (ns : List Int) {Q : Value → Shared → Prop} (calm : A.handled = none) (isl : s.heap.IsList l xs) (jnts : IntsAre xs.toList ns) (few : ns.length + 1 < scanBound)
    (k : ∀ (g : Heap) (tk c : Nat), SetR w g s.heap.objs.size (fun j => decide (j ∈ ns)) c → (∀ b o, s.heap.get? b = some o → g.get? b = some o) → Q (.ref s.heap.objs.size) { s with heap := g, toks := tk }) :
    wpAny (model P w) A (call (.type "set") [.ref l]) Q E s := by
  have len : xs.size = ns.length := by rw [← Array.length_toList]; exact IntsAre.length jnts
  have m1 := F.called_set.mro
  have m2 := F.called_set.made
  have m3 := F.called_set.sub
  have m4 := F.called_set.notType
  have m5 := F.called_set.canCreate
  have m6 := F.typeCall_set_1 (.ref l)
  obtain ⟨_, _, m1⟩ := m1
  apply wpAny_call
  apply codeAny_of_tree
  show wpAny _ _ (callAny (.type "set") _) _ _ _
  refine wpAny_pure ⟨Code.quiet_builtin _ (by decide +kernel), codeAny_builtin F.entry_type_call ?_⟩
  rw [Around.under_plain (weight_type_call_type "set" [.ref l] []) rfl]
  repeat any_goals first | assumption | wp_step
  let h1 := s.heap.push (set0 w)
  refine codeAny_mono (code_set_led1 (.ref l) (E := E) (Q₁ := fun v t => v = .ref s.heap.objs.size ∧ t = { s with heap := h1 }) ⟨rfl, rfl⟩) ?_
  rintro (e | v | _ | _ | _) t ht <;> first | exact ht | exact ht.elim | skip
  obtain ⟨rfl, rfl⟩ := ht
  have at0 : h1.get? s.heap.objs.size = some (set0 w) := Heap.get?_push_size _ rfl
  have ty0 : Shared.TypeIs { s with heap := h1 } (.ref s.heap.objs.size) "set" := ⟨_, at0, rfl⟩
  have m7 := F.called_set.init.lookup
  have m8 := F.called_set.init.bind (.ref s.heap.objs.size)
  repeat any_goals first | assumption | wp_step
  refine codeAny_mono (codeAny_call_builtin (R := wants (fun v t => v = .none ∧ ∃ g tk c, t = { s with heap := g, toks := tk } ∧ SetR w g s.heap.objs.size (fun j => decide (j ∈ ns)) c ∧ ∀ b o, s.heap.get? b = some o → g.get? b = some o) E)
    F.called_set.init.plain F.entry_set_init (check_set_init_1 ty0 ?_)) ?_
  · obtain ⟨⟨c, d, dat, sl⟩, e1, e2, n1, e3⟩ := isl
    dsimp only at e2 e3
    subst e2 e3
    have e4 : h1.get? l = some { cls := .type "list", dict := d, data := .seq xs n1, slots := sl } := Heap.get?_push_of_some _ e1
    have s1 := F.sub_list_set
    have s2 := F.sub_list_frozenset
    have s3 : (Value.type "list" == Value.type "dict") = false := by decide
    have isl1 : h1.IsList l xs := ⟨_, e4, rfl, n1, rfl⟩
    have lo : l < s.heap.objs.size := Heap.lt_size e1
    have sz : h1.objs.size = s.heap.objs.size + 1 := Heap.size_push ..
    unfold Builtin.«set.__init__» noKeywords Builtin.Frozenset.updateFrom
    generalize hIt : pyIter = It
    wp_walk
    subst hIt
    refine wpAny_pyIter_list isl1 (wpAny_bind (wpAny_runValue ?_))
    have c3 : A.in1.in1.in1.handled = none := by simp [calm]
    have d1 : l ≠ h1.objs.size := by rw [sz]; exact Nat.ne_of_lt (Nat.lt_succ_of_lt lo)
    have d2 : s.heap.objs.size ∉ [h1.objs.size, l] := by
      intro z
      rcases List.mem_cons.mp z with z | z
      · rw [sz] at z; exact absurd z (Nat.ne_of_lt (Nat.lt_succ_self _))
      · rw [List.mem_singleton] at z; exact absurd z (Nat.ne_of_gt lo)
    have val : ∀ (i : Nat) (v : Value), xs[i]? = some v → ∃ x t, ns[i]? = some x ∧ v = .int x t := by
      intro i v hv
      have hi : i < ns.length := by rw [← len]; exact (Array.getElem?_eq_some_iff.mp hv).1
      obtain ⟨t, e⟩ := IntsAre.int_at jnts i v (by rw [Array.getElem?_toList]; exact hv)
      rw [List.getD_eq_getElem?_getD, List.getElem?_eq_getElem hi, Option.getD_some] at e
      exact ⟨_, t, List.getElem?_eq_getElem hi, e⟩
    refine set_update_ints ((Walks.list c3 _ l d1 xs).toS) s.heap.objs.size d2 ns len few val (xs.size - 0) 0 _ (by omega) (Nat.zero_le _) ⟨⟨_, Heap.get?_push_size _ rfl, rfl, rfl⟩, isl1.push _⟩ ⟨0, Nat.le_refl 0, setR_new_at (Heap.get?_push_of_some _ at0)⟩ ?_
    intro t c mv _ R
    obtain ⟨g, g2, g3, tk, g4⟩ := t
    have q1 : g2 = s.gens := mv.gens
    have q2 : g3 = s.drawn := mv.drawn
    have q3 : g4 = s.os := mv.os
    subst q1 q2 q3
    show wpAny _ _ _ _ _ _
    refine wpAny_pure ?_
    show wpAny _ _ (PySem.ret Value.none) _ _ _
    refine wpAny_pure ⟨rfl, g, tk, c, rfl, R, fun b o e => ?_⟩
    have bl : b < s.heap.objs.size := Heap.lt_size e
    refine mv.heap b o ?_ (Heap.get?_push_of_some _ (Heap.get?_push_of_some _ e))
    intro z
    rcases List.mem_cons.mp z with z | z
    · exact absurd z (Nat.ne_of_lt bl)
    · rw [List.mem_singleton] at z
      have z : b = h1.objs.size := z
      rw [sz] at z
      exact absurd z (Nat.ne_of_lt (Nat.lt_succ_of_lt bl))
  · rintro (e | v | _ | _ | _) t ht <;> first | exact ht | exact ht.elim | skip
    obtain ⟨rfl, g, tk, c, rfl, R, up⟩ := ht
    repeat any_goals first | assumption | wp_step
    exact k _ _ _ R up
theorem sorted_of_set {a : Addr} {S : Int → Bool} {n : Nat} {Q : Value → Shared → Prop} (R : SetR w s.heap a S n) (calm : A.handled = none)
    (k : ∀ t p (out : Array Value) (c : Nat) (ns : List Int), (∀ b o, s.heap.get? b = some o → t.heap.get? b = some o) → t.gens = s.gens → t.os = s.os → s.heap.objs.size ≤ p → t.heap.get? p = some (seqObj "list" out c) →
      IntsAre out.toList ns → ns.Pairwise (· ≤ ·) → ns.Nodup → (∀ j, j ∈ ns ↔ S j = true) → ns.length = n → Q (.ref p) t) : wpAny (model P w) A (call (.builtin "sorted") [.ref a]) Q E s := by
  obtain ⟨o, es, ep, tb, ho, ex, hd, good, nd, mem, few, fit, cnt, ris, led⟩ := R
  apply Calls.call_function_entry kind_sorted plain_sorted entry_sorted (args_sorted1 _)
  unfold Builtin.«sorted»
  refine wpAny_bind (m := checkCount "sorted" 1 1 _) (wpAny_pure (wpAny_bind (collect_set (A := A.in1) calm ⟨o, ho, ex.1, hd⟩ fit few ris led fun t vs up big eg eo pm => ?_)))
  have lv : vs.length = n := by rw [pm.length_eq, List.length_map, Array.length_toList]; exact cnt
  have jnts : IntsAre vs (vs.map Builtin.Re.reRawOf) := ints_of vs fun v hv => by
    obtain ⟨e, he, rfl⟩ := List.mem_map.mp (pm.mem_iff.mp hv)
    obtain ⟨x, tk, h1, _⟩ := good e he
    exact ⟨x, tk, h1⟩
  have pk : (vs.map Builtin.Re.reRawOf).Perm (es.toList.map keyOf) := by
    have := pm.map Builtin.Re.reRawOf
    rwa [List.map_map] at this
  have szv : vs.length ≤ sizeLine := by rw [lv, sizeLine_eq]; unfold scanBound at few; omega
  refine wpAny_bind (wpAny_newList ?_ szv)
  have atL : (t.heap.push (seqObj "list" vs.toArray 0)).get? t.heap.objs.size = some (seqObj "list" vs.toArray 0) := Heap.get?_push_size _ rfl
  refine wpAny_bind (wpAny_holding (wpAny_call_entry slot_list_sort ⟨_, atL, rfl⟩ entry_list_sort (SrtO.list_sort_ord SrtO.swo_int atL szv (fun h2 => SrtO.ints_sortable jnts h2) fun out h1 h2 => ⟨_, rfl, ?_⟩) (args_list_sort _)))
  obtain ⟨j1, j2, j3⟩ := SrtO.ints_out jnts h1 h2
  obtain ⟨c, hc⟩ := sortedHeap_at (vs := vs) (out := out.toArray) atL
  have pn := j2.trans pk
  refine wpAny_pure ⟨_, rfl, k _ t.heap.objs.size out.toArray c _ (fun b u e => ?_) eg eo big hc j1 j3 (pn.nodup_iff.mpr nd) (fun x => by rw [pn.mem_iff, ← mem x]) (by rw [pn.length_eq, List.length_map, Array.length_toList]; exact cnt)⟩
  have q := up b u e
  have lt := Heap.lt_size q
  show (sortedHeap (t.heap.push (seqObj "list" vs.toArray 0)) t.heap.objs.size vs out.toArray).get? b = some u
  rw [sortedHeap_old (Nat.ne_of_lt lt) (by rw [size_push']; exact Nat.lt_succ_of_lt lt)]
  exact Heap.get?_push_of_some _ q
end
/-- the different numbers, ascending -/
def dd : List Int → List Int
  | [] => []
  | x :: r => if x ∈ r then dd r else x :: dd r
theorem dd_mem {x : Int} : ∀ {l : List Int}, x ∈ dd l ↔ x ∈ l
  | [] => Iff.rfl
  | y :: r => by
    unfold dd
    by_cases c : y ∈ r
    · rw [if_pos c, dd_mem, List.mem_cons]
      exact ⟨.inr, fun h => h.elim (fun e => by rw [e]; exact c) id⟩
    · rw [if_neg c, List.mem_cons, List.mem_cons, dd_mem]
theorem dd_nodup : ∀ l : List Int, (dd l).Nodup
  | [] => List.nodup_nil
  | y :: r => by
    unfold dd
    by_cases c : y ∈ r
    · rw [if_pos c]; exact dd_nodup r
    · rw [if_neg c, List.nodup_cons]
      exact ⟨fun z => c (dd_mem.mp z), dd_nodup r⟩
def dst (l : List Int) : List Int := asc (dd l)
theorem dst_mem {l : List Int} {x : Int} : x ∈ dst l ↔ x ∈ l := by unfold dst; rw [asc_mem, dd_mem]
theorem dst_nodup (l : List Int) : (dst l).Nodup := (asc_perm (dd l)).nodup_iff.mpr (dd_nodup l)
theorem dd_len : ∀ l : List Int, (dd l).length ≤ l.length
  | [] => Nat.le_refl _
  | y :: r => by
    unfold dd
    have := dd_len r
    split
    · rw [List.length_cons]; omega
    · rw [List.length_cons, List.length_cons]; omega
theorem dst_len (l : List Int) : (dst l).length ≤ l.length := by unfold dst; rw [asc_len]; exact dd_len l
theorem perm_of_mem {xs ys : List Int} (h1 : xs.Nodup) (h2 : ys.Nodup) (h : ∀ x, x ∈ xs ↔ x ∈ ys) : xs.Perm ys := by
  rw [List.perm_iff_count]
  intro x
  rw [List.Nodup.count h1, List.Nodup.count h2]
  by_cases c : x ∈ xs
  · rw [if_pos c, if_pos ((h x).mp c)]
  · rw [if_neg c, if_neg fun z => c ((h x).mpr z)]
theorem dst_of {xs l : List Int} (h1 : xs.Nodup) (h2 : xs.Pairwise (· ≤ ·)) (h : ∀ x, x ∈ xs ↔ x ∈ l) : xs = dst l :=
  asc_of (perm_of_mem h1 (dd_nodup l) fun x => by rw [h, dd_mem]) h2
theorem dst_same {xs ys : List Int} (h : ∀ x, x ∈ xs ↔ x ∈ ys) : dst xs = dst ys := dst_of (dst_nodup xs) (asc_pair _) fun x => by rw [dst_mem, h]
/-- a set of the numbers of a list, by what it holds -/
def rSet (w : World) (K : PySem.W.Frag) : List V → Hp → VK → Prop := fun vs H Q => ∃ a ns, vs = [.ref a] ∧ SqL K H a (ns.map V.int) ∧ ns.length ≤ 4000 ∧ ∀ p, H p = none → Q (.ref p) (upd H p (SetO w p (fun j => decide (j ∈ ns)) (dst ns).length))
def rSortS (w : World) : List V → Hp → VK → Prop := fun vs H Q => ∃ a ns, vs = [.ref a] ∧ H a = some (SetO w a (fun j => decide (j ∈ ns)) (dst ns).length) ∧ ∀ H' p, Keep (fun _ => False) H H' → H p = none → H' p = some (.lst ((dst ns).map V.int)) → Q (.ref p) H'
def rLenS (w : World) : List V → Hp → VK → Prop := fun vs H Q => ∃ a S n, vs = [.ref a] ∧ H a = some (SetO w a S n) ∧ Q (.int (n : Nat)) H
theorem setR_count {w : World} {h : Heap} {a : Addr} {ns : List Int} {n : Nat} (R : SetR w h a (fun j => decide (j ∈ ns)) n) : n = (dst ns).length := by
  obtain ⟨o, es, ep, tb, ho, ex, hd, good, nd, mem, few, fit, cnt, ris, led⟩ := R
  have p : (es.toList.map keyOf).Perm (dst ns) := perm_of_mem nd (dst_nodup ns) fun x => by rw [← mem x, dst_mem]; simp
  rw [← p.length_eq, List.length_map, Array.length_toList]; exact cnt.symm
section
variable {X : Cx} (K : PySem.W.Frag)
theorem kset (w : World) (hc : X.calm = true) (h : X.K = K := by rfl) (hw : X.w = w := by rfl) : CallR X (.type "set") (rSet w K) := by
  subst h hw
  intro pins s σ H xs us Q I r ⟨a, ns, e, hs, hl, k⟩
  subst e
  rw [Vals.ref1 r]
  obtain ⟨its, rv, pl, hz⟩ := I.list hs
  refine set_of_list ns (I.ok.hd hc) pl.isList rv.ints (by unfold scanBound; omega) fun g tk c R up => ?_
  rw [setR_count R] at R
  exact ⟨.ref _, upd H s.heap.objs.size (SetO X.w s.heap.objs.size (fun j => decide (j ∈ ns)) (dst ns).length), I.laid (t' := tk) up (Nat.le_refl _) (setO_new R), rfl, k _ (I.hok.fresh (Nat.le_refl _))⟩
theorem ksortS (w : World) (hc : X.calm = true) (hw : X.w = w := by rfl) : CallR X (.builtin "sorted") (rSortS w) := by
  subst hw
  intro pins s σ H xs us Q I r ⟨a, ns, e, ha, k⟩
  subst e
  rw [Vals.ref1 r]
  refine sorted_of_set (setO_get I ha) (I.ok.hd hc) fun t p out c ms up eg eo big at1 jnts pw nd mem cnt => ?_
  have free : H p = none := I.hok.fresh big
  have em : ms = dst ns := dst_of nd pw fun x => by rw [mem x]; simp
  subst em
  have lz : ((dst ns).map V.int).length ≤ sizeLine := by
    rw [List.length_map, cnt, sizeLine_eq]
    obtain ⟨o, es, ep, tb, _, _, _, _, _, _, few, _, cnt2, _⟩ := setO_get I ha
    unfold scanBound at few
    omega
  have J : Inv X pins σ (upd H p (.lst ((dst ns).map V.int))) { s with heap := t.heap, gens := t.gens, drawn := t.drawn, toks := t.toks } :=
    I.call (ch := []) (Un.laid up big free) (I.hok.laid up big ⟨lz, out.toList, c, vals_of_ints jnts, at1⟩) (by rw [eg]; exact I.bare) nofun
  have et : t = { s with heap := t.heap, gens := t.gens, drawn := t.drawn, toks := t.toks } := by
    obtain ⟨_, _, _, _, _⟩ := t
    obtain ⟨_, _, _, _, _⟩ := s
    cases eo
    rfl
  rw [et]
  exact ⟨.ref p, _, J, rfl, k _ p (Keep.new free) free upd_same⟩
theorem klenS (w : World) (hw : X.w = w := by rfl) : CallR X (.builtin "len") (rLenS w) := by
  subst hw
  intro pins s σ H xs us Q I r ⟨a, S, n, e, ha, k⟩
  subst e
  rw [Vals.ref1 r]
  obtain ⟨o, es, ep, tb, ho, ex, hd, _, _, _, few, fit, cnt, _⟩ := setO_get I ha
  refine call_len_set ho ex hd fit (by unfold scanBound at few; omega) ⟨.int n, H, I.tok _, ⟨_, by rw [cnt]⟩, k⟩
end
end HS
/-! Powers of great numbers, [x] * n. -/
namespace HS
open PySem PySem.Spec PyProof.Rows L2
def CPowW (i j : Int) : Prop := 0 ≤ j ∧ (Builtin.Int.intBits i : Int) * j ≤ 2 ^ 27
section
variable {X : Cx} {σ : L2.St} {H : Hp} {Q : VK}
theorem op_powW : OpR X (binaryOp .Pow) (rI CPowW fun i j => .int (i ^ j.toNat)) := opI fun _ _ _ _ _ _ _ hc q => pow_int hc.1 hc.2 q
theorem bits_le {i : Int} (k : Nat) (h0 : 0 ≤ i) (h : i < 2 ^ k) : Builtin.Int.intBits i ≤ k := by
  unfold Builtin.Int.intBits
  by_cases z : i = 0
  · subst z; exact Nat.zero_le _
  · rw [if_neg (by simpa using z)]
    have z' : i.natAbs ≠ 0 := by omega
    have : i.natAbs.log2 < k := (Nat.log2_lt z').mpr (by
      have : ((i.natAbs : Nat) : Int) < ((2 ^ k : Nat) : Int) := by rw [Int.natAbs_of_nonneg h0]; simpa using h
      exact Int.ofNat_lt.mp this)
    omega
theorem powW {i : Int} (k : Nat) {j : Int} (h0 : 0 ≤ i) (h : i < 2 ^ k) (hj : 0 ≤ j) (hk : (k : Int) * j ≤ 2 ^ 27) : CPowW i j := by
  refine ⟨hj, Int.le_trans (Int.mul_le_mul_of_nonneg_right ?_ hj) hk⟩
  exact Int.ofNat_le.mpr (bits_le k h0 h)
theorem flat_one {v : V} : ∀ n : Nat, (List.replicate n [v]).flatten = List.replicate n v
  | 0 => rfl
  | n + 1 => by rw [List.replicate_succ, List.flatten_cons, flat_one n]; rfl
theorem rep1 {p : Addr} {v : V} {k : Int} (h : H p = some (.lst [v])) (hk : k ≤ 1000000) (h0 : 0 ≤ k) (q : ∀ p, H p = none → Q (.ref p) (upd H p (.lst (List.replicate k.toNat v)))) : rRep (.ref p) (.int k) H Q := by
  refine ⟨p, k, _, rfl, rfl, h, by omega, by omega, ?_, fun p hp => ?_⟩
  · rw [List.length_singleton, sizeLine_eq]; omega
  · rw [flat_one]; exact q p hp
end
end HS
/-! repr of lists of ints, and == of texts. -/
namespace HS
open PySem PySem.Spec PyProof.Rows L2
section
variable {H : Hp} {Q : VK} {K : PySem.W.Frag}
theorem rep {a : Addr} {d : PyData} (h : Dp K H (.ref a) d) (t : tame d = true) (hd : d.depth ≤ 60) (hb : d.bulk ≤ 60000) (q : Q (.str d.shown) H) : rRepr K [.ref a] H Q := ⟨a, d, rfl, h, t, hd, hb, q⟩
theorem eqSS {x : Str} (q : Q (.bl true) H) : rEq (.str x) (.str x) H Q := ⟨rfl, by rw [decide_eq_true rfl]; exact q⟩
theorem neSS {x : Str} (q : Q (.bl false) H) : rNe (.str x) (.str x) H Q := ⟨rfl, by rw [decide_eq_true rfl]; exact q⟩
/-- ints that are shown -/
def Tm (ns : List Int) : Prop := (∀ x ∈ ns, x.natAbs < 2 ^ 200) ∧ ns.length ≤ 5000
theorem tame_ints : ∀ ns : List Int, (∀ x ∈ ns, x.natAbs < 2 ^ 200) → tameAll (ns.map .int) = true
  | [], _ => rfl
  | n :: r, h => by
    rw [List.map_cons, tameAll, tame_ints r fun x hx => h x (List.mem_cons_of_mem _ hx)]
    simp only [tame, Bool.and_true]
    exact decide_eq_true (h n List.mem_cons_self)
theorem bulk_ints : ∀ ns : List Int, PyData.bulkAll (ns.map .int) = ns.length
  | [] => rfl
  | n :: r => by rw [List.map_cons, PyData.bulkAll, bulk_ints r, PyData.bulk, List.length_cons]; omega
theorem tm_tame {ns : List Int} (h : Tm ns) : tame (dInts ns) = true := by unfold dInts; rw [tame]; exact tame_ints ns h.1
theorem tm_bulk {ns : List Int} (h : Tm ns) : (dInts ns).bulk ≤ 5000 := by unfold dInts; rw [PyData.bulk, bulk_ints]; exact h.2
theorem dInts_depth (ns : List Int) : (dInts ns).depth = 1 := by unfold dInts; rw [PyData.depth, dep_ints]
/-- repr of a list of ints -/
theorem repI {a : Addr} {ns : List Int} (h : SqL K H a (ns.map V.int)) (t : Tm ns) (q : Q (.str (dInts ns).shown) H) : rRepr K [.ref a] H Q :=
  rep (dp_ints h) (tm_tame t) (by rw [dInts_depth]; decide) (Nat.le_trans (tm_bulk t) (by decide)) q
/-- repr of a list of two lists of ints -/
def dII (xs ys : List Int) : PyData := .list [dInts xs, dInts ys]
theorem repII {a p r : Addr} {xs ys : List Int} (h : SqL K H a [.ref p, .ref r]) (h1 : SqL K H p (xs.map V.int)) (h2 : SqL K H r (ys.map V.int)) (t1 : Tm xs) (t2 : Tm ys) (q : Q (.str (dII xs ys).shown) H) : rRepr K [.ref a] H Q := by
  refine rep (.lst h (.cons (dp_ints h1) (.cons (dp_ints h2) .nil))) ?_ ?_ ?_ q
  · rw [tame, tameAll, tameAll, tameAll, tm_tame t1, tm_tame t2]; rfl
  · rw [PyData.depth, PyData.depthAll, PyData.depthAll, PyData.depthAll, dInts_depth, dInts_depth]; decide
  · have := tm_bulk t1
    have := tm_bulk t2
    rw [PyData.bulk, PyData.bulkAll, PyData.bulkAll, PyData.bulkAll]; omega
theorem tm_of {ns : List Int} {B : Int} (hB : B < 2 ^ 200) (h : ∀ x ∈ ns, 0 ≤ x ∧ x ≤ B) (hl : ns.length ≤ 5000) : Tm ns := ⟨fun x hx => by have := h x hx; omega, hl⟩
end
end HS
/-! Lists of new triples of ints. -/
namespace HS
open PySem PySem.Spec PyProof.Rows L2
/-- the refs of vs are tuples of these triples -/
def Tri (H : Hp) : List V → List (Int × Int × Int) → Prop
  | [], [] => True
  | v :: vs, p :: ps => (∃ t, v = .ref t ∧ H t = some (.tup [.int p.1, .int p.2.1, .int p.2.2])) ∧ Tri H vs ps
  | _, _ => False
theorem Tri.keep {S : Addr → Prop} {H H' : Hp} (k : Keep S H H') : ∀ {vs : List V} {ps : List (Int × Int × Int)}, Tri H vs ps → (∀ v ∈ vs, ∀ t, v = .ref t → ¬ S t) → Tri H' vs ps
  | [], [], h, _ => h
  | _ :: _, _ :: _, ⟨⟨t, e, o⟩, h⟩, n => ⟨⟨t, e, k t _ o (n _ List.mem_cons_self t e)⟩, h.keep k fun v hv => n v (List.mem_cons_of_mem _ hv)⟩
theorem Tri.same {H H' : Hp} {vs : List V} {ps : List (Int × Int × Int)} (h : Tri H vs ps) (k : Keep (fun _ => False) H H') : Tri H' vs ps := h.keep k fun _ _ _ _ z => z
theorem Tri.app {H : Hp} : ∀ {vs ws : List V} {ps qs : List (Int × Int × Int)}, Tri H vs ps → Tri H ws qs → Tri H (vs ++ ws) (ps ++ qs)
  | [], _, [], _, _, g => g
  | _ :: _, _, _ :: _, _, ⟨a, h⟩, g => ⟨a, h.app g⟩
theorem Tri.len {H : Hp} : ∀ {vs : List V} {ps : List (Int × Int × Int)}, Tri H vs ps → vs.length = ps.length
  | [], [], _ => rfl
  | _ :: _, _ :: _, ⟨_, h⟩ => by rw [List.length_cons, List.length_cons, h.len]
theorem Tri.at {H : Hp} : ∀ {vs : List V} {ps : List (Int × Int × Int)}, Tri H vs ps → ∀ {i : Nat} {v : V}, vs[i]? = some v → ∃ t p, v = .ref t ∧ ps[i]? = some p ∧ H t = some (.tup [.int p.1, .int p.2.1, .int p.2.2])
  | [], [], _, i, v, hv => by simp at hv
  | _ :: _, p :: _, ⟨⟨t, e, o⟩, _⟩, 0, v, hv => by
    cases hv
    exact ⟨t, p, e, rfl, o⟩
  | _ :: _, _ :: _, ⟨_, h⟩, i + 1, v, hv => h.at (i := i) hv
theorem Tri.split {H : Hp} : ∀ {vs : List V} {ps : List (Int × Int × Int)} {p : Int × Int × Int}, Tri H vs (ps ++ [p]) → ∃ us t, vs = us ++ [.ref t] ∧ Tri H us ps ∧ H t = some (.tup [.int p.1, .int p.2.1, .int p.2.2])
  | [], ps, p, h => by cases ps <;> exact h.elim
  | v :: vs, [], p, ⟨⟨t, e, o⟩, h⟩ => by
    cases vs with
    | nil => exact ⟨[], t, by rw [e]; rfl, trivial, o⟩
    | cons _ _ => exact h.elim
  | v :: vs, q :: ps, p, ⟨a, h⟩ => by
    obtain ⟨us, t, e, g, o⟩ := h.split
    exact ⟨v :: us, t, by rw [e]; rfl, ⟨a, g⟩, o⟩
theorem Tri.lst {H : Hp} {L : Addr} {ws : List V} (hL : H L = some (.lst ws)) : ∀ {vs : List V} {ps : List (Int × Int × Int)}, Tri H vs ps → ∀ v ∈ vs, ∀ t, v = .ref t → t ≠ L
  | [], [], _, v, hv => by cases hv
  | w :: vs, p :: ps, ⟨⟨t, e, o⟩, h⟩, v, hv => fun u eu z => by
    rcases List.mem_cons.mp hv with hv | hv
    · subst hv
      rw [e] at eu
      cases eu
      rw [z, hL] at o
      cases o
    · exact h.lst hL v hv u eu z
theorem Tri.put {H : Hp} {L : Addr} {ws : List V} {o : HO} (hL : H L = some (.lst ws)) {vs : List V} {ps : List (Int × Int × Int)} (h : Tri H vs ps) : Tri (upd H L o) vs ps :=
  h.keep (S := fun a => a = L) (HS.Keep.at HS.Keep.refl rfl) (Tri.lst hL h)
theorem atLst {xs ys : List V} {v : V} (h : xs = ys ++ [v]) : atI xs (-1) = some v := by
  subst h
  unfold atI ixN
  rw [if_neg (by decide), if_pos (by rw [List.length_append, List.length_singleton]; omega)]
  show (ys ++ [v])[((-1 : Int) + (ys ++ [v]).length).toNat]? = some v
  rw [List.length_append, List.length_singleton, show ((-1 : Int) + ((ys.length + 1 : Nat) : Int)).toNat = ys.length by omega, List.getElem?_append_right (Nat.le_refl _), Nat.sub_self]
  rfl
theorem setLst {p : Addr} {ys : List V} {v w : V} {H : Hp} {q : Hp → Prop} (h : H p = some (.lst (ys ++ [v]))) (g : q (upd H p (.lst (ys ++ [w])))) : rSetL (.ref p) (.int (-1)) w H q := by
  refine HS.setL h (j := ys.length) ?_ ?_
  · unfold ixN
    rw [if_neg (by decide), if_pos (by rw [List.length_append, List.length_singleton]; omega)]
    congr 1
    rw [List.length_append, List.length_singleton]
    omega
  · rw [List.set_append_right _ _ (Nat.le_refl _), Nat.sub_self]
    exact g
end HS
/-! Lists of lists of ints. -/
namespace HS
open PySem PySem.Spec PyProof.Rows L2
/-- the refs of vs are lists of these ints -/
def Lol (H : Hp) : List V → List (List Int) → Prop
  | [], [] => True
  | v :: vs, r :: rs => (∃ t, v = .ref t ∧ H t = some (.lst (r.map V.int))) ∧ Lol H vs rs
  | _, _ => False
theorem Lol.keep {S : Addr → Prop} {H H' : Hp} (k : Keep S H H') : ∀ {vs : List V} {rs : List (List Int)}, Lol H vs rs → (∀ v ∈ vs, ∀ t, v = .ref t → ¬ S t) → Lol H' vs rs
  | [], [], h, _ => h
  | _ :: _, _ :: _, ⟨⟨t, e, o⟩, h⟩, n => ⟨⟨t, e, k t _ o (n _ List.mem_cons_self t e)⟩, h.keep k fun v hv => n v (List.mem_cons_of_mem _ hv)⟩
theorem Lol.same {H H' : Hp} {vs : List V} {rs : List (List Int)} (h : Lol H vs rs) (k : Keep (fun _ => False) H H') : Lol H' vs rs := h.keep k fun _ _ _ _ z => z
theorem Lol.app {H : Hp} : ∀ {vs ws : List V} {rs qs : List (List Int)}, Lol H vs rs → Lol H ws qs → Lol H (vs ++ ws) (rs ++ qs)
  | [], _, [], _, _, g => g
  | _ :: _, _, _ :: _, _, ⟨a, h⟩, g => ⟨a, h.app g⟩
theorem Lol.len {H : Hp} : ∀ {vs : List V} {rs : List (List Int)}, Lol H vs rs → vs.length = rs.length
  | [], [], _ => rfl
  | _ :: _, _ :: _, ⟨_, h⟩ => by rw [List.length_cons, List.length_cons, h.len]
theorem Lol.one {H : Hp} {t : Addr} {r : List Int} (e : H t = some (.lst (r.map V.int))) : Lol H [.ref t] [r] := ⟨⟨t, rfl, e⟩, trivial⟩
theorem Lol.at {H : Hp} : ∀ {vs : List V} {rs : List (List Int)}, Lol H vs rs → ∀ {i : Nat} {v : V}, vs[i]? = some v → ∃ t r, v = .ref t ∧ rs[i]? = some r ∧ H t = some (.lst (r.map V.int))
  | [], [], _, i, v, hv => by simp at hv
  | w :: _, r :: _, ⟨⟨t, e, o⟩, _⟩, 0, v, hv => by
    cases hv
    exact ⟨t, r, e, rfl, o⟩
  | _ :: _, _ :: _, ⟨_, h⟩, i + 1, v, hv => h.at (i := i) hv
/-- a list of new lists is none of them, where it stood before them -/
theorem Lol.out {H0 H : Hp} {L : Addr} {o : HO} (hL : H0 L = some o) : ∀ {vs : List V} {rs : List (List Int)}, Lol H vs rs → (∀ v ∈ vs, ∀ t, v = .ref t → H0 t = none) → ∀ v ∈ vs, ∀ t, v = .ref t → ¬ t = L :=
  fun _ n v hv t e z => by
    have := n v hv t e
    rw [z, hL] at this
    cases this
end HS
namespace HS
open PySem PySem.Spec PyProof.Rows L2
/-! repr of a list of pairs of ints -/
theorem tame_prs : ∀ ps : List (Int × Int), (∀ p ∈ ps, p.1.natAbs < 2 ^ 200 ∧ p.2.natAbs < 2 ^ 200) → tameAll (ps.map dPr) = true
  | [], _ => rfl
  | p :: r, h => by
    have h1 := h p List.mem_cons_self
    rw [List.map_cons, tameAll, tame_prs r fun x hx => h x (List.mem_cons_of_mem _ hx), dPr]
    simp only [tame, tameAll, Bool.and_true, Bool.and_eq_true]
    exact ⟨decide_eq_true h1.1, decide_eq_true h1.2⟩
theorem bulk_prs : ∀ ps : List (Int × Int), PyData.bulkAll (ps.map dPr) ≤ 5 * ps.length
  | [] => by simp [PyData.bulkAll]
  | p :: r => by
    have h := bulk_prs r
    have h2 : (dPr p).bulk ≤ 4 := by simp [dPr, PyData.bulk, PyData.bulkAll]
    rw [List.map_cons, PyData.bulkAll, List.length_cons]; omega
theorem repP {K : PySem.W.Frag} {H : Hp} {Q : VK} {a : Addr} {vs : List V} {ps : List (Int × Int)} (h : SqL K H a vs) (g : Prs H vs ps) (b : ∀ p ∈ ps, p.1.natAbs < 2 ^ 200 ∧ p.2.natAbs < 2 ^ 200) (l : ps.length ≤ 5000) (q : Q (.str (dPrs ps).shown) H) : rRepr K [.ref a] H Q := by
  refine rep (.lst h (dpAll_prs g)) ?_ ?_ ?_ q
  · rw [tame]; exact tame_prs ps b
  · rw [PyData.depth]; have := dep_prs ps; omega
  · rw [PyData.bulk]; have := bulk_prs ps; omega
section
variable {K : PySem.W.Frag} {H : Hp} {Q : VK}
/-- repr of a list of two equal things -/
theorem rep2 {a : Addr} {x y : V} {d : PyData} (h : SqL K H a [x, y]) (h1 : Dp K H x d) (h2 : Dp K H y d) (t : tame d = true) (dd : d.depth ≤ 10) (b : d.bulk ≤ 100) (q : Q (.str (PyData.list [d, d]).shown) H) : rRepr K [.ref a] H Q := by
  refine rep (.lst h (.cons h1 (.cons h2 .nil))) ?_ ?_ ?_ q
  · rw [tame, tameAll, tameAll, tameAll, t]; rfl
  · rw [PyData.depth, PyData.depthAll, PyData.depthAll, PyData.depthAll]; omega
  · rw [PyData.bulk, PyData.bulkAll, PyData.bulkAll, PyData.bulkAll]; omega
theorem tame_pr {i j : Int} (hi : i.natAbs < 2 ^ 200) (hj : j.natAbs < 2 ^ 200) : tame (dPr (i, j)) = true := by
  rw [dPr]
  simp only [tame, tameAll, Bool.and_true, Bool.and_eq_true]
  exact ⟨decide_eq_true hi, decide_eq_true hj⟩
theorem dpAll_lol : ∀ {vs : List V} {rs : List (List Int)}, Lol H vs rs → DpAll K H vs (rs.map dInts)
  | [], [], _ => .nil
  | _ :: _, _ :: _, ⟨⟨t, e, o⟩, h⟩ => .cons (by rw [e]; exact dp_ints (sq o)) (dpAll_lol h)
theorem lay_lol : ∀ rs : List (List Int), PyData.canLayAll0 (rs.map dInts) = true
  | [] => rfl
  | p :: r => by
    rw [List.map_cons, PyData.canLayAll0, lay_lol r]
    unfold dInts
    rw [PyData.canLay0, lay_ints]; rfl
theorem dep_lol : ∀ rs : List (List Int), PyData.depthAll (rs.map dInts) ≤ 2
  | [] => by simp [PyData.depthAll]
  | p :: r => by
    have h := dep_lol r
    have h2 : (dInts p).depth ≤ 2 := by unfold dInts; rw [PyData.depth, dep_ints]; decide
    rw [List.map_cons, PyData.depthAll]; omega
theorem sh_lol (rs : List (List Int)) : SeqAt.shaped (.list (rs.map dInts)) = true := by
  have h1 := dep_lol rs
  have h2 : PyData.depth (.list (rs.map dInts)) ≤ 64 := by rw [PyData.depth]; omega
  show (PyData.canLay0 (.list (rs.map dInts)) && decide (PyData.depth (.list (rs.map dInts)) ≤ 64)) = true
  rw [Bool.and_eq_true]
  exact ⟨by rw [PyData.canLay0]; exact lay_lol rs, decide_eq_true h2⟩
/-- != of a list of lists and of the empty list -/
theorem neE {a b : Addr} {vs : List V} {rs : List (List Int)} (h1 : SqL K H a vs) (g1 : Lol H vs rs) (h2 : SqL K H b []) (q : Q (.bl (!decide (rs = []))) H) : rNeD K (.ref a) (.ref b) H Q := by
  refine ⟨.list (rs.map dInts), dInts [], .lst h1 (dpAll_lol g1), dp_ints (ns := []) h2, sh_lol _, sh_ints _, ?_⟩
  rw [show PyData.eqv (.list (rs.map dInts)) (dInts []) = decide (rs = []) by
    unfold dInts
    rw [PyData.eqv]
    cases rs with
    | nil => rfl
    | cons r rr => rfl]
  exact q
end
theorem Prs.take {H : Hp} : ∀ {vs : List V} {ps : List (Int × Int)} (k : Nat), Prs H vs ps → Prs H (vs.take k) (ps.take k)
  | [], [], k, _ => by rw [List.take_nil, List.take_nil]; trivial
  | _ :: _, _ :: _, 0, _ => trivial
  | _ :: _, _ :: _, k + 1, ⟨a, h⟩ => ⟨a, Prs.take k h⟩
end HS
/-! math.comb of great numbers. -/
namespace HS
open PySem PySem.Spec PyProof.Rows L2
def binC : Nat → Nat → Nat
  | _, 0 => 1
  | 0, _ + 1 => 0
  | n + 1, k + 1 => binC n k + binC n (k + 1)
theorem binC_0 (n : Nat) : binC n 0 = 1 := by cases n <;> rfl
theorem binC_above : ∀ (n k : Nat), n < k → binC n k = 0
  | 0, k + 1, _ => rfl
  | n + 1, k + 1, h => by
    show binC n k + binC n (k + 1) = 0
    rw [binC_above n k (by omega), binC_above n (k + 1) (by omega)]
theorem binC_self : ∀ n, binC n n = 1
  | 0 => rfl
  | n + 1 => by show binC n n + binC n (n + 1) = 1; rw [binC_self n, binC_above n (n + 1) (by omega)]
/-- (k + 1) times the next is (n - k) times this -/
theorem binC_next : ∀ (n k : Nat), (k + 1) * binC n (k + 1) = (n - k) * binC n k
  | 0, k => by
    rw [show binC 0 (k + 1) = 0 from rfl, Nat.mul_zero, Nat.zero_sub, Nat.zero_mul]
  | n + 1, 0 => by
    have this : (0 + 1) * binC n 1 = (n - 0) * binC n 0 := binC_next n 0
    show (0 + 1) * (binC n 0 + binC n 1) = (n + 1 - 0) * binC (n + 1) 0
    rw [binC_0] at this
    rw [binC_0, binC_0]
    omega
  | n + 1, k + 1 => by
    have h1 := binC_next n k
    have h2 := binC_next n (k + 1)
    show (k + 1 + 1) * (binC n (k + 1) + binC n (k + 1 + 1)) = (n + 1 - (k + 1)) * (binC n k + binC n (k + 1))
    rw [Nat.mul_add, h2, show n + 1 - (k + 1) = n - k by omega, Nat.mul_add, ← h1]
    rcases Nat.lt_or_ge k n with h | h
    · rw [show n - k = (n - (k + 1)) + 1 by omega, Nat.add_mul, Nat.add_mul, Nat.add_mul]
      omega
    · rw [binC_above n (k + 1) (by omega)]; simp
theorem binC_sym : ∀ (a b : Nat), binC (a + b) a = binC (a + b) b
  | 0, b => by rw [binC_0, Nat.zero_add, binC_self]
  | a + 1, 0 => by rw [binC_0, Nat.add_zero, binC_self]
  | a + 1, b + 1 => by
    have h1 := binC_sym a (b + 1)
    have h2 := binC_sym (a + 1) b
    rw [show a + (b + 1) = a + 1 + b by omega] at h1
    show binC (a + 1 + b) a + binC (a + 1 + b) (a + 1) = binC (a + 1 + b) b + binC (a + 1 + b) (b + 1)
    rw [h1, h2, Nat.add_comm]
def fctC : Nat → Nat
  | 0 => 1
  | n + 1 => (n + 1) * fctC n
theorem fctC_pos : ∀ n, 0 < fctC n
  | 0 => Nat.one_pos
  | n + 1 => Nat.mul_pos (Nat.succ_pos n) (fctC_pos n)
theorem fall_eq (n : Nat) : ∀ k, k ≤ n → Builtin.Math.fallingProduct (n : Int) k = ((binC n k * fctC k : Nat) : Int)
  | 0, _ => by rw [binC_0]; rfl
  | k + 1, h => by
    have ih := fall_eq n k (by omega)
    unfold Builtin.Math.fallingProduct at ih ⊢
    rw [List.range_succ, List.foldl_append, ih]
    show ((binC n k * fctC k : Nat) : Int) * ((n : Int) - (k : Nat)) = _
    have e : binC n (k + 1) * fctC (k + 1) = binC n k * fctC k * (n - k) := by
      show binC n (k + 1) * ((k + 1) * fctC k) = _
      rw [← Nat.mul_assoc, Nat.mul_comm (binC n (k + 1)), binC_next, Nat.mul_comm (n - k), Nat.mul_assoc, Nat.mul_assoc, Nat.mul_comm (n - k)]
    rw [e, show (n : Int) - (k : Nat) = ((n - k : Nat) : Int) by omega]
    push_cast
    rfl
theorem fall_div (n k : Nat) (h : k ≤ n) : Builtin.Math.fallingProduct (n : Int) k / Builtin.Math.fallingProduct (k : Int) k = ((binC n k : Nat) : Int) := by
  rw [fall_eq n k h, fall_eq k k (Nat.le_refl _), binC_self, Nat.one_mul, Int.natCast_mul]
  exact Int.mul_ediv_cancel _ (by have := fctC_pos k; omega)
theorem binC_pow : ∀ (n k : Nat), binC n k ≤ (n + 1) ^ k
  | n, 0 => by rw [binC_0]; exact Nat.le_refl _
  | 0, k + 1 => Nat.zero_le _
  | n + 1, k + 1 => by
    have h1 := binC_pow n k
    have h2 := binC_pow n (k + 1)
    show binC n k + binC n (k + 1) ≤ _
    have a : (n + 1) ^ k ≤ (n + 2) ^ k := Nat.pow_le_pow_left (by omega) k
    have b : (n + 1) ^ (k + 1) = (n + 1) ^ k * (n + 1) := Nat.pow_succ _ _
    have c : (n + 1 + 1) ^ (k + 1) = (n + 2) ^ k * (n + 2) := Nat.pow_succ _ _
    have d : (n + 1) ^ k * (n + 1) ≤ (n + 2) ^ k * (n + 1) := Nat.mul_le_mul_right _ a
    rw [c, show (n + 2) ^ k * (n + 2) = (n + 2) ^ k * (n + 1) + (n + 2) ^ k by rw [← Nat.mul_succ]]
    omega
def rComb : List V → Hp → VK → Prop := fun vs H Q => ∃ a b : Nat, vs = [.int (a : Int), .int (b : Int)] ∧ b ≤ a ∧ b ≤ 120 ∧ a < 2 ^ 250 ∧ Q (.int (binC a b : Nat)) H
theorem cr_comb {X : Cx} : CallR X (.builtin "math.comb") rComb := by
  intro pins s σ H xs us Q I r ⟨a, b, e, hba, hb, ha, k⟩
  subst e
  obtain ⟨u, v, rfl, ru, rv⟩ : ∃ u v, us = [u, v] ∧ RelV (.int (a : Int)) u ∧ RelV (.int (b : Int)) v := by
    cases r with
    | cons r1 r2 =>
      cases r2 with
      | cons r3 r4 =>
        cases r4
        exact ⟨_, _, rfl, r1, r3⟩
  obtain ⟨t, rfl⟩ := ru
  obtain ⟨t', rfl⟩ := rv
  have hm : (min (b : Int) ((a : Int) - b)).toNat ≤ b ∧ binC a (min (b : Int) ((a : Int) - b)).toNat = binC a b ∧ (min (b : Int) ((a : Int) - b)).toNat ≤ a := by
    rw [Int.min_def]
    split
    · exact ⟨by rw [Int.toNat_natCast]; exact Nat.le_refl _, by rw [Int.toNat_natCast], by rw [Int.toNat_natCast]; exact hba⟩
    · have e : ((a : Int) - b).toNat = a - b := by omega
      rw [e]
      have s := binC_sym (a - b) b
      rw [show a - b + b = a by omega] at s
      exact ⟨by omega, s, by omega⟩
  obtain ⟨m1, m2, m3⟩ := hm
  have mi : min (b : Int) ((a : Int) - b) = (((min (b : Int) ((a : Int) - b)).toNat : Nat) : Int) := by
    rw [Int.min_def]; split <;> omega
  have fd : Builtin.Math.fallingProduct (a : Int) (min (b : Int) ((a : Int) - b)).toNat / Builtin.Math.fallingProduct (min (b : Int) ((a : Int) - b)) (min (b : Int) ((a : Int) - b)).toNat = ((binC a b : Nat) : Int) := by
    have := fall_div a _ m3
    rw [← mi, m2] at this
    exact this
  have lg : (((binC a b : Nat) : Int)).natAbs.log2 < bitsLine := by
    rw [Int.natAbs_natCast]
    by_cases z : binC a b = 0
    · rw [z]; decide
    · refine (Nat.log2_lt z).mpr (Nat.lt_of_le_of_lt (binC_pow a b) ?_)
      have p1 : (a + 1) ^ b ≤ (2 ^ 250) ^ b := Nat.pow_le_pow_left (by omega) b
      rw [← Nat.pow_mul] at p1
      have p2 : 2 ^ (250 * b) < 2 ^ bitsLine := Nat.pow_lt_pow_right (by decide) (by
        have : bitsLine = 134217728 := by decide
        omega)
      omega
  have mx : (b : Int) ≤ 120 := by omega
  have mn : min (b : Int) ((a : Int) - b) ≤ 120 := by rw [Int.min_def]; split <;> omega
  have g := PySem.W.mc_run_comb (a : Int) t (b : Int) t' (by omega) (by omega) (by omega) (by unfold Builtin.Math.maxSsize; omega) (by unfold Builtin.Math.manyFactors; omega) (by omega) (by rw [fd]; exact lg)
  rw [fd] at g
  refine PySem.Flt.call_fn_gives (b := PySem.Builtin.«math.comb») (m := .int ((binC a b : Nat) : Int)) PySem.W.MGF.kind_comb PySem.W.MGF.plain_comb PySem.W.MGF.entry_comb (PySem.W.MGF.args_comb _ _) g ?_
  exact ⟨.int _, H, I.tok _, ⟨_, rfl⟩, k⟩
end HS
namespace HS
open PySem PySem.Spec PyProof.Rows L2
theorem Prs.at {H : Hp} : ∀ {vs : List V} {ps : List (Int × Int)}, Prs H vs ps → ∀ {i : Nat} {v : V}, vs[i]? = some v → ∃ t p, v = .ref t ∧ ps[i]? = some p ∧ H t = some (.tup [.int p.1, .int p.2])
  | [], [], _, i, v, hv => by simp at hv
  | _ :: _, p :: _, ⟨⟨t, e, o⟩, _⟩, 0, v, hv => by
    cases hv
    exact ⟨t, p, e, rfl, o⟩
  | _ :: _, _ :: _, ⟨_, h⟩, i + 1, v, hv => Prs.at h (i := i) hv
theorem Prs.setAt {H : Hp} {q : Addr} {p : Int × Int} (hq : H q = some (.tup [.int p.1, .int p.2])) : ∀ {vs : List V} {ps : List (Int × Int)} {i : Nat}, Prs H vs ps → Prs H (vs.set i (.ref q)) (ps.set i p)
  | [], [], _, _ => trivial
  | _ :: _, _ :: _, 0, ⟨_, h⟩ => ⟨⟨q, rfl, hq⟩, h⟩
  | _ :: _, _ :: _, i + 1, ⟨a, h⟩ => ⟨a, Prs.setAt hq (i := i) h⟩
theorem neP {K : PySem.W.Frag} {H : Hp} {a b : Addr} {vs ws : List V} {xs ys : List (Int × Int)} {Q : VK} (h1 : SqL K H a vs) (g1 : Prs H vs xs) (h2 : SqL K H b ws) (g2 : Prs H ws ys) (q : Q (.bl (!decide (xs = ys))) H) : rNeD K (.ref a) (.ref b) H Q := by
  refine ⟨dPrs xs, dPrs ys, .lst h1 (dpAll_prs g1), .lst h2 (dpAll_prs g2), sh_prs _, sh_prs _, ?_⟩
  rw [show PyData.eqv (dPrs xs) (dPrs ys) = decide (xs = ys) by unfold dPrs; rw [PyData.eqv]; exact eqvAll_prs xs ys]
  exact q
section
variable {σ : L2.St} {H : Hp} {n bk ct : L2.St → Hp → Prop} {rt : VK}
theorem par3 {i j l : Nat} {tl : TA} (h : tl σ H fun vs H1 => ∃ u v w, vs = [u, v, w] ∧ n (((σ.set i (some u)).set j (some v)).set l (some w)) H1) : tPar3 i j l tl ⟨n, rt, bk, ct⟩ σ H := h
theorem ex3 {u v w : V} {q : V → V → V → Prop} (h : q u v w) : ∃ a b c, [u, v, w] = [a, b, c] ∧ q a b c := ⟨u, v, w, rfl, h⟩
end
end HS
/-! An exception that is kept behind its suite; methods and classes called where an exception may come. -/
namespace HS
open PySem PySem.Spec PyProof.Rows L2
/-- at a: an exception of this class that was caught -/
def exh (a : Addr) (cls : Value) (d : Option Addr) : HO := .ext fun h => ∃ (oe : Obj) (vs : Array Value), h.get? a = some oe ∧ oe.cls = cls ∧ oe.dict = d ∧ oe.data = .fields vs
theorem exh_ok {P : Program} {w : World} {H : Hp} {h : Heap} {a : Addr} {cls : Value} {d : Option Addr} {oe : Obj} {vs : Array Value} (e : h.get? a = some oe) (z : Zc cls d oe) (f : oe.data = .fields vs) : ObjOk P w H h a (exh a cls d) :=
  ⟨⟨oe, vs, e, z.1, z.2, f⟩, ⟨oe, e⟩, fun _ _ ⟨o, v, q, r⟩ k => ⟨o, v, k o q, r⟩⟩
/-- a caught exception that stands in the heap, with its fields -/
def Exh (H : Hp) (a C : Addr) (fs : List (Str × V)) : Prop := ∃ d, H a = some (exh a (.ref C) (some d)) ∧ H d = some (.xd fs)
theorem Exh.keep {S : Addr → Prop} {H H' : Hp} {a C : Addr} {fs : List (Str × V)} (h : Exh H a C fs) (k : Keep S H H') (ha : ¬ S a) (hd : ∀ d, H d = some (.xd fs) → ¬ S d) : Exh H' a C fs := by
  obtain ⟨d, e1, e2⟩ := h
  exact ⟨d, k _ _ e1 ha, k _ _ e2 (hd d e2)⟩
theorem Exh.same {H H' : Hp} {a C : Addr} {fs : List (Str × V)} (h : Exh H a C fs) (k : Keep (fun _ => False) H H') : Exh H' a C fs := h.keep k id fun _ _ => id
theorem Exh.new {H : Hp} {a C p : Addr} {fs : List (Str × V)} {o : HO} (h : Exh H a C fs) (hp : H p = none) : Exh (upd H p o) a C fs := h.same (Keep.new hp)
/-- an object that stands in the state, made behind the entry, is tracked from now on -/
theorem track {X : Cx} {pins : List (Addr × Obj)} {σ : L2.St} {H : Hp} {s : Shared} {a : Addr} {o : HO} (I : Inv X pins σ H s) (na : H a = none) (n0 : X.s_0.heap.get? a = none) (nL : a ≠ X.env.locals)
    (nC : ∀ x c, X.env.cells.lookup x = some c → c ≠ a) (nP : ∀ p ∈ X.pn ++ pins, p.1 ≠ a) (new : ObjOk X.prog X.w (upd H a o) s.heap a o) : Inv X pins σ (upd H a o) s := by
  refine ⟨I.ok, I.os, I.bare, ⟨I.base.keep, I.base.slot, fun b u e n hx => ?_, I.base.there, fun b xs e => ?_, fun b u xs e => ?_, fun b ps e => ?_⟩, I.loc, I.cell, ?_, fun x c e => ?_, fun p hp => ?_, fun b u e => ?_, I.len⟩
  · rw [upd_ne (fun z => by rw [z, n0] at e; cases e)]; exact I.base.free b u e n hx
  · have q := I.base.tups b xs e; rw [upd_ne (ne_of_none q na)]; exact q
  · have q := I.base.frzs b u xs e; rw [upd_ne (ne_of_none q na)]; exact q
  · obtain ⟨m, q⟩ := I.base.tbls b ps e; exact ⟨m, by rw [upd_ne (ne_of_none q na)]; exact q⟩
  · rw [upd_ne (Ne.symm nL)]; exact I.free
  · rw [upd_ne (nC x c e)]; exact I.freeC x c e
  · obtain ⟨e, n, r⟩ := I.pin p hp; exact ⟨e, by rw [upd_ne (nP p hp)]; exact n, r⟩
  · by_cases hb : b = a
    · subst hb; rw [upd_same] at e; cases e; exact new
    · rw [upd_ne hb] at e
      exact (I.hok b u e).stay (fun c v _ q => q) (fun c q => by rw [upd_ne (ne_of_none q na)]; exact q) fun c xs q => by rw [upd_ne (ne_of_none q na)]; exact q
theorem unsuite1 {X : Cx} {pins pn' : List (Addr × Obj)} {σ : L2.St} {H : Hp} {s : Shared} {a : Addr} {q : Addr × Obj} (I : Inv (X.suite a (q :: (X.pn ++ pins))) pn' σ H s) (ok : X.Ok) : Inv X (q :: pins) σ H s :=
  ⟨ok, I.os, I.bare, I.base, I.loc, I.cell, I.free, I.freeC, fun p hp => I.pin p (List.mem_append_left _ (by
    rcases List.mem_append.mp hp with h | h
    · exact List.mem_cons_of_mem _ (List.mem_append_left _ h)
    · rcases List.mem_cons.mp h with e | h
      · rw [e]; exact List.mem_cons_self
      · exact List.mem_cons_of_mem _ (List.mem_append_right _ h))), I.hok, I.len⟩
/-- what the clause wishes of an exception of the body: behind the suite's end the exception stands in the heap -/
def wKeep (K : PySem.W.Frag) (c : Value) (i : Nat) (ts : Addr → Value → Option Addr → TS) (Wout : WX) (D : Ends) : WX := fun cls d σ H =>
  ∃ b, PySem.W.exmOne K cls c = some b ∧ (b = true → ∀ a, H a = none → ts a cls d { nx := fun σ' H' => H' a = none → D.nx (σ'.set i none) (upd H' a (exh a cls d)), rt := D.rt, bk := fun σ' H' => D.bk (σ'.set i none) H', ct := fun σ' H' => D.ct (σ'.set i none) H' } (σ.set i (some (.ref a))) H) ∧
    (b = false → Wout cls d σ H)
section
variable {X : Cx} {x n : Str} {c : Value} {i : Nat} {body suite : List Stmt} {b₀ : Stmt} {np pos pos' : Pos} {tb : WX → TS} {ts : Addr → Value → Option Addr → TS} {Wout : WX}
theorem ps_try_keep (hs : X.stack = X.env :: X.outer) (hf : X.env.frame = some X.env.locals) (hN : X.N.Nodup) (hi : X.N[i]? = some n) (hln : X.env.kindOf n = some .local) (hc : Names X x c) (tk : Takes X Wout)
    (hb : ∀ (W : WX) (pn : List (Addr × Obj)) (xe : Value → Shared → Prop), Takes (X.tr pn xe) W → PassesOwn (model X.prog X.w) X.A X.env xe → PSs (X.tr pn xe) body (tb W))
    (hsu : ∀ (a : Addr) (oe : Obj) (cls : Value) (d : Option Addr) (pn : List (Addr × Obj)), Zc cls d oe → (∃ vs, oe.data = .fields vs) → PSs (X.suite a ((a, oe) :: pn)) (b₀ :: suite) (ts a cls d))
    (hex : X.ex = [] := by rfl) :
    PS X (.Try body [.ExceptHandler (some (.Name x np)) (some n) (b₀ :: suite) pos'] [] [] pos) (fun D σ H => tb (wKeep X.K c i ts Wout D) D σ H) := by
  refine ⟨fun pins s σ H D I hw => ?_⟩
  have ok := I.ok
  have fr0 : X.A.frames = some (X.env :: X.outer) := by rw [ok.frames, hs]
  have loc0 : Loc X.env.scope n := .inl hln
  refine wpAny_Try_except ?_
  refine wpAny_mono ((hb (wKeep X.K c i ts Wout D) (X.pn ++ pins) (fun e s₁ => wpAny (model X.prog X.w) X.A (noteFrame e X.env) (fun _ s₂ => wpAny (model X.prog X.w) X.A (setFlight e none) (fun _ s₃ =>
    wpAny (model X.prog X.w) X.A (handleBy e X.env [.ExceptHandler (some (.Name x np)) (some n) (b₀ :: suite) pos']) (SP X pins D) X.xe s₃) X.xe s₂) X.xe s₁) (fun u s' xx => ?_) PassesOwn.looking).run [] s σ H D (I.toTry _) hw) (fun f s1 hsp => ?_) (fun e s1 he => he)
  · obtain ⟨a, B, sI, pins', σ', H', cls, d, rfl, J', nb, up, sky, na, os, ag, b, hb1, hyes, hno⟩ := xx
    have J : Inv X pins σ' H' sI := J'.ofTry ok
    have sky' : Sky B (X.env :: X.outer) a (Zc cls d) X.env.locals s'.heap := by rw [← hs]; exact sky
    show wpAny (model X.prog X.w) X.A (noteFrame (.ref a) X.env) _ _ _
    refine Sky.land Zc.steady fr0 hf sky' fun h3 fl3 up3 => ?_
    have J3 : Inv X pins σ' H' { s' with heap := h3 } := J.landed nb fl3.1 (up.trans up3) os ag
    obtain ⟨oe3, vs3, he3, hz3, hd3⟩ := fl3.there
    have nfr : a ∉ frs (X.env :: X.outer) := fun hm => by
      obtain ⟨_, o', e', hnf⟩ := fl3.2.2.1.mem hm
      rw [he3] at e'; cases e'
      exact hnf _ hd3
    have nL : a ≠ X.env.locals := fun z => nfr (List.mem_filterMap.mpr ⟨X.env, List.mem_cons_self, by rw [hf, z]⟩)
    have nF : a ∉ X.fs := fun hm => by
      obtain ⟨e, he, q⟩ := List.mem_filterMap.mp hm
      exact nfr (List.mem_filterMap.mpr ⟨e, List.mem_cons_of_mem _ he, q⟩)
    have nI : sI.heap.get? a = none := by
      cases q : sI.heap.get? a with
      | none => rfl
      | some o =>
        have z := nb a o q (by rw [hs]; exact nfr)
        rw [fl3.2.1] at z; cases z
    have n0 : X.s_0.heap.get? a = none := by
      cases q : X.s_0.heap.get? a with
      | none => rfl
      | some o =>
        obtain ⟨o', z⟩ := J.base.there a o q (by rw [hex]; exact fun z => nomatch z)
        rw [nI] at z; cases z
    have S3 := J3.suite he3 hd3 na nL nF
    refine wpAny_handleBy_cons (codeAny_handlers_test ?_) (by intro q; cases q)
    have LT : PySem.W.Looks (model X.prog X.w) h3 (typeOf (.ref a)) cls := fun A Q E s k q => wpAny_typeOf_ref (k _ _ he3) (by rw [hz3.1]; exact q)
    have LM := PySem.W.exm_one (M := model X.prog X.w) (J3.kIn) LT hb1
    have test : ∀ {Q : Value → Shared → Prop} {E : Value → Shared → Prop}, Q c { s' with heap := h3 } → wpAny (model X.prog X.w) (X.A.mark (some (.ref a))) (eval (.Name x np) X.env) Q E { s' with heap := h3 } := fun {Q E} q => by
      obtain ⟨hg, hdbg, hm | ⟨hm, hv, hnn⟩⟩ := hc
      · exact ld_glob (X := X.suite a ((a, oe3) :: (X.pn ++ pins))) S3 hg hm q hdbg
      · exact ld_blt (X := X.suite a ((a, oe3) :: (X.pn ++ pins))) S3 hg hm hv q hnn hdbg
    refine test (LM.here ?_)
    cases b with
    | true =>
      refine codeAny_handlers_suite_as ?_
      refine HandSPX.lands_againZ fl3 fun h4 fl4 up4 => ?_
      have J4 : Inv X pins σ' H' { s' with heap := h4 } := J.landed nb fl4.1 ((up.trans up3).trans up4) os ag
      obtain ⟨oe4, vs4, he4, hz4, hd4⟩ := fl4.there
      have S4 := J4.suite he4 hd4 na nL nF
      refine store_ok (X := X.suite a ((a, oe4) :: (X.pn ++ pins))) (v := .ref a) S4 hN hi loc0 rfl (fun s5 S5 => ?_) (.inr hln)
      refine wpAny_mono ((hsu a oe4 cls d (X.pn ++ pins) hz4 ⟨_, hd4⟩).run [] s5 _ H' _ S5 (hyes rfl a na)) (fun f s6 hsp => ?_) (fun _ _ z => False.elim z)
      have fin : ∀ {σ6 : L2.St} {H6 : Hp} {Q : Shared → Prop}, Inv (X.suite a ((a, oe4) :: (X.pn ++ pins))) [] σ6 H6 s6 → (∀ s7, Inv X ((a, oe4) :: pins) (σ6.set i none) H6 s7 → Q s7) →
          wpAny (model X.prog X.w) X.A (do bindName X.env n .none; unbindBehindTheSuite X.env n pos') (fun _ s7 => Q s7) X.xe s6 := fun {σ6 H6 Q} S6 hq => gone_ok (unsuite1 S6 ok) hN hi hln hq
      have less : ∀ {σ7 : L2.St} {H7 : Hp} {s7 : Shared}, Inv X ((a, oe4) :: pins) σ7 H7 s7 → Inv X pins σ7 H7 s7 := fun J7 => ⟨J7.ok, J7.os, J7.bare, J7.base, J7.loc, J7.cell, J7.free, J7.freeC, fun p hp => J7.pin p (by
        rcases List.mem_append.mp hp with h | h
        · exact List.mem_append_left _ h
        · exact List.mem_append_right _ (List.mem_cons_of_mem _ h)), J7.hok, J7.len⟩
      cases f with
      | next =>
        obtain ⟨σ6, H6, S6, q6⟩ := hsp
        refine fin S6 fun s7 J7 => ?_
        obtain ⟨g1, g2, _⟩ := J7.pin (a, oe4) (List.mem_append_right _ List.mem_cons_self)
        refine ⟨_, _, track (less J7) g2 n0 nL (fun x c e z => ?_) (fun p hp z => ?_) (exh_ok g1 hz4 hd4), q6 g2⟩
        · obtain ⟨v, o, ho, hd⟩ := J7.cell x c e
          rw [z, g1] at ho; cases ho
          rw [hd4] at hd; cases hd
        · have P1 := (J.pin p hp).1
          rw [z, nI] at P1; cases P1
      | brk =>
        obtain ⟨σ6, H6, S6, q6⟩ := hsp
        exact fin S6 fun s7 J7 => ⟨_, _, less J7, q6⟩
      | cont =>
        obtain ⟨σ6, H6, S6, q6⟩ := hsp
        exact fin S6 fun s7 J7 => ⟨_, _, less J7, q6⟩
      | ret u =>
        obtain ⟨v6, σ6, H6, S6, r6, q6⟩ := hsp
        exact fin S6 fun s7 J7 => ⟨_, _, _, less J7, r6, q6⟩
    | false =>
      show wpAny _ X.A (handleBy (.ref a) X.env []) _ _ _
      refine wpAny_handleBy_nil ?_
      obtain ⟨k1, k2, k3, oe, vs, T, oT, ts', he, hz, hd, h1, hr⟩ := id fl3
      unfold PySem.passOn
      refine wpAny_bind (wpAny_field he hd h1 ?_)
      rw [if_neg (show ¬ ((Value.ref T == Value.none) = true) from by simp)]
      have gone : wpAny (model X.prog X.w) X.A (setFlight (.ref a) X.env.frame) (fun _ s4 => wpAny (model X.prog X.w) X.A (throw (.ref a) : Sem Flow) (SP X pins D) X.xe s4) X.xe { s' with heap := h3 } := by
        rw [hf]
        refine HandSPX.setFlight_upZ fl3 fun h4 hh4 up4 => wpAny_throw (tk _ _ ?_)
        exact ⟨a, B, sI, pins, σ', H', cls, d, rfl, J, nb, (up.trans up3).trans up4, .inr (.inr (by rw [hs]; exact hh4)), na, os, ag, hno rfl⟩
      first
        | exact wpAny_bind (wpAny_pure (wpAny_bind gone))
        | exact wpAny_bind gone
  · cases f with
    | next =>
      obtain ⟨σ', H', J', q⟩ := hsp
      exact wpAny_execs_nil ⟨σ', H', J'.ofTry ok, q⟩
    | brk =>
      obtain ⟨σ', H', J', q⟩ := hsp
      exact ⟨σ', H', J'.ofTry ok, q⟩
    | cont =>
      obtain ⟨σ', H', J', q⟩ := hsp
      exact ⟨σ', H', J'.ofTry ok, q⟩
    | ret u =>
      obtain ⟨v, σ', H', J', r, q⟩ := hsp
      exact ⟨v, σ', H', J'.ofTry ok, r, q⟩
end
/-! ### asked and read -/
theorem exh_at {X : Cx} {pins : List (Addr × Obj)} {σ : L2.St} {H : Hp} {s : Shared} {a D : Addr} {fs : List (Str × V)} (I : Inv X pins σ H s) (h : Exh H a D fs) :
    ∃ (oe : Obj) (od : Obj) (d : Addr) (mA : Str → Option Value), PySem.W.InstAt s.heap a oe D (some od) ∧ s.heap.Ns1 d mA ∧ (∀ f, RelO (fs.lookup f) (mA f)) := by
  obtain ⟨d, ea, ed⟩ := h
  have x1 : ObjOk X.prog X.w H s.heap a (.ext fun h => ∃ (oe : Obj) (vs : Array Value), h.get? a = some oe ∧ oe.cls = .ref D ∧ oe.dict = some d ∧ oe.data = .fields vs) := I.hok a _ ea
  obtain ⟨oe, vs, ho, hc, hdd, hv⟩ := x1.1
  have x2 : ObjOk X.prog X.w H s.heap d (.xd fs) := I.hok d _ ed
  obtain ⟨mA, hns, hr⟩ := x2
  obtain ⟨od, hod, _⟩ := lookIn_ns hns
  exact ⟨oe, od, d, mA, ⟨ho, hc, by unfold PySem.W.notCls; rw [hv] <;> rfl, by rw [hdd]; exact hod⟩, hns, hr⟩
def rIsX (K : PySem.W.Frag) : List V → Hp → VK → Prop := fun xs H Q => ∃ (a D : Addr) (fs : List (Str × V)) (c : V) (cv : Value) (b : Bool), xs = [.ref a, c] ∧ ExcC K D ∧ Exh H a D fs ∧ ClsV c cv ∧ PySem.W.kitOne K (.ref D) cv = some b ∧ Q (.bl b) H
theorem call_isX {X : Cx} : CallR X (.builtin "isinstance") (rIsX X.K) := by
  intro pins s σ H xs us Q I r hw
  obtain ⟨a, D, fs, c, cv, b, e0, T, hE, hcv, hb, q⟩ := hw
  subst e0
  match us, r with
  | [_, _], .cons rx (.cons rt .nil) =>
    cases rx
    have e1 := hcv.eq rt
    subst e1
    obtain ⟨oe, od, d, mA, here, _⟩ := exh_at I hE
    obtain ⟨cd, hcd, _⟩ := PySem.W.any_some T.hd
    exact PySem.W.kia_one (PySem.W.kitx_exc (by rw [hcd]; rfl) T.hg T.hk T.hs T.ha T.hn T.ht T.hm) I.kIn here hb (fun z => nomatch z) fun tk => ⟨.bl b, H, I.kept (t' := tk) fun _ _ z => z, rfl, q⟩
theorem kisX {X : Cx} (K : PySem.W.Frag) (h : X.K = K := by rfl) : CallR X (.builtin "isinstance") (rIsX K) := h ▸ call_isX
def tFldX (K : PySem.W.Frag) (f : Str) (te : TE) : TE := fun σ H Q => te σ H fun x H1 => ∃ (a C : Addr) (fs : List (Str × V)) (v : V), x = .ref a ∧ XfC K C ∧ PySem.W.findIn K (.ref C) f = some none ∧ Exh H1 a C fs ∧ fs.lookup f = some v ∧ Q v H1
theorem pe_fldX {X : Cx} {e : Expr} {te : TE} {pos : Pos} {f : Str} (he : PE X e te) (hb : attributeBase e f X.env (eval e X.env) = eval e X.env := by rfl) : PE X (.Attribute e f pos) (tFldX X.K f te) := by
  refine ⟨fun pins s σ H Q I hw => attr_of hb (thn (he.run pins s σ H _ I hw) fun u s1 ⟨x, H1, I1, rx, a, C, fs, v, e0, T, hno, ⟨d, ea, ed⟩, l, q⟩ => ?_)⟩
  subst e0
  cases rx
  have x1 : ObjOk X.prog X.w H1 s1.heap a (.ext fun h => ∃ (oe : Obj) (vs : Array Value), h.get? a = some oe ∧ oe.cls = .ref C ∧ oe.dict = some d ∧ oe.data = .fields vs) := I1.hok a _ ea
  obtain ⟨oe, vs, ho, hc, hdd, hv⟩ := x1.1
  have x2 : ObjOk X.prog X.w H1 s1.heap d (.xd fs) := I1.hok d _ ed
  obtain ⟨mA, hns, hr⟩ := x2
  obtain ⟨od, hod, hl⟩ := lookIn_ns hns
  obtain ⟨w, hw, rw'⟩ := RelO.some_of (v := v) (o := mA f) (by rw [← l]; exact hr f)
  have here : PySem.W.InstAt s1.heap a oe C (some od) := ⟨ho, hc, by unfold PySem.W.notCls; rw [hv] <;> rfl, by rw [hdd]; exact hod⟩
  exact HandSPX.exc_get I1.kIn here T.ga T.gg T.exC (PySem.W.findObj_own T.hdC hno rfl (by rw [hl, hw])) (handed_of rw') ⟨v, H1, I1.tok _, rw', q⟩
section
variable {K : PySem.W.Frag} {σ : L2.St} {H : Hp} {Q : VK} {a D C : Addr} {fs : List (Str × V)} {b : Bool} {te : TE} {f : Str}
theorem isX (T : ExcC K D) (he : Exh H a D fs) (hq : PySem.W.kitOne K (.ref D) (.ref C) = some b) (q : Q (.bl b) H) : rIsX K [.ref a, .ref C] H Q := ⟨a, D, fs, _, _, b, rfl, T, he, .own C, hq, q⟩
theorem isXt {n : String} (T : ExcC K D) (he : Exh H a D fs) (hq : PySem.W.kitOne K (.ref D) (.type n) = some b) (q : Q (.bl b) H) : rIsX K [.ref a, .ty n] H Q := ⟨a, D, fs, _, _, b, rfl, T, he, .ty n, hq, q⟩
theorem fldX (h : te σ H fun x H1 => ∃ (a C : Addr) (fs : List (Str × V)) (v : V), x = .ref a ∧ XfC K C ∧ PySem.W.findIn K (.ref C) f = some none ∧ Exh H1 a C fs ∧ fs.lookup f = some v ∧ Q v H1) : tFldX K f te σ H Q := h
end
end HS
namespace HS
open PySem PySem.Spec PyProof.Rows L2
/-! ### methods and classes that may raise, called where the slots are known -/
def tMethS (C : Addr) (m : Str) (sp : Sp) (E : L2.St → XK) (ta : TE) (t : TA) : TE := fun σ H Q => ta σ H fun x H1 => ∃ a dx fs, x = .ref a ∧ H1 a = some (.ins C dx fs) ∧ fs.lookup m = none ∧ t σ H1 fun vs H2 => sp (x :: vs) H2 Q (E σ)
def tMethN (C : Addr) (m : Str) (n k : Nat) (gV : List V → List V → List V) (sp : Sp) (E : L2.St → XK) (ta : TE) (t tk : TA) : TE := fun σ H Q => ta σ H fun x H1 => ∃ a dx fs, x = .ref a ∧ H1 a = some (.ins C dx fs) ∧ fs.lookup m = none ∧ t σ H1 fun vs H2 => tk σ H2 fun zs H3 => (x :: vs).length = n ∧ zs.length = k ∧ sp (gV (x :: vs) zs) H3 Q (E σ)
def tMakeS (C : Addr) (sp : Sp) (E : L2.St → XK) (t : TA) : TE := fun σ H Q => t σ H fun vs H1 => ∀ x dx, H1 x = none → H1 dx = none → dx ≠ x → sp (.ref x :: vs) (upd (upd H1 dx (.own x)) x (.ins C dx [])) (fun v H2 => v = .non ∧ Q (.ref x) H2) (E σ)
def tMakeN (C : Addr) (n k : Nat) (gV : List V → List V → List V) (sp : Sp) (E : L2.St → XK) (t tk : TA) : TE := fun σ H Q => t σ H fun vs H1 => tk σ H1 fun zs H2 => ∀ x dx, H2 x = none → H2 dx = none → dx ≠ x → (V.ref x :: vs).length = n ∧ zs.length = k ∧ sp (gV (.ref x :: vs) zs) (upd (upd H2 dx (.own x)) x (.ins C dx [])) (fun v H3 => v = .non ∧ Q (.ref x) H3) (E σ)
section
variable {X : Cx} {CX : CXT} {k n : Nat} {f C : Addr} {fd : FuncData} {ps ks : List Str} {sp : Sp} {E : L2.St → XK} {E0 : XK} {x m : Str} {p pos apos : Pos} {e o : Expr} {es : List Expr} {kws : List Keyword} {ta : TE} {t tk : TA} {g : List Value → List Value → List Value} {gV : List V → List V → List V}
theorem passSt (h : Passes CX X E0) (σ : L2.St) : PassesAt CX X σ E0 := fun pins H s e s' I c => h pins σ H s e s' I c
theorem runK {pins : List (Addr × Obj)} {σ : L2.St} {H : Hp} {s : Shared} {Q : VK} {us ws : List Value} {vs zs : List V} (F : FnOk X.prog X.w X.K X.mg X.base CX k f fd ps sp) (hr : Room k X.A) (hb : KBX X.K fd ps n ks g gV) (hx : PassesAt CX X σ (E σ))
    (I : Inv X pins σ H s) (r : Vals vs us) (rz : Vals zs ws) (l1 : vs.length = n) (l2 : zs.length = ks.length) (h : sp (gV vs zs) H Q (E σ)) : wpAny (model X.prog X.w) X.A (call (.ref f) us (ks.zip ws)) (EP X pins σ Q) X.xe s := by
  have l3 : us.length = n := by rw [← r.length]; exact l1
  have l4 : ws.length = ks.length := by rw [← rz.length]; exact l2
  refine wpAny_call (codeAny_mono (F.run X.A X.stack s H ⟨us, ks.zip ws⟩ (g us ws) (gV vs zs) Q (E σ) hr I.env0 (hb.to s us ws l3 l4) (hb.rel r rz) h) fun r s' hq => ?_)
  match r, hq with
  | .error e, hq => exact hx pins H s e s' I hq
  | .ok (.ret u), hq => exact I.after hq
theorem pe_methS {pl : Sem Bool} (he : PE X o ta) (c : Cls X.K C) (hm : Meth X.K C m f) (F : FnOk X.prog X.w X.K X.mg X.base CX k f fd ps sp) (hr : Room k X.A) (hb : Binds X.K fd ps []) (hx : ∀ σ, PassesAt CX X σ (E σ)) (ha : PA X (e :: es) t)
    (hst : starEach (e :: es) X.env = (false, eval e X.env) :: starEach es X.env := by rfl) (hpl : (backTo pos (starEach es X.env)).any (·.1) = false := by rfl)
    (ht : eval (.Call (.Attribute o m apos) (e :: es) [] pos) X.env = (do
      let ov ← eval o X.env
      standAt apos.atName
      let (f, first) ← holding [ov] (getMethod ov m pl)
      callWith pos f first (backTo pos (starEach (e :: es) X.env)) (backToKw pos (keywordEach [] X.env))) := by rfl) :
    PE X (.Call (.Attribute o m apos) (e :: es) [] pos) (tMethS C m sp E ta t) := by
  refine ⟨fun pins s σ H Q I hw => ?_⟩
  refine PySem.W.methodCall_KW (pl := pl) (thn (he.run pins s σ H _ I hw) fun u s1 ⟨x, H1, I1, rx, a, dx, fs, ex, ea, l, q⟩ => ?_) ht
  subst ex
  cases rx
  refine getmeth_ok I1 ea c hm l ?_
  refine PySem.W.callWith_K (first := [.ref a]) (h₀ := X.base) I.ok.mod.kin hm.kp (thn (ha.run pos pins s1 σ H1 _ I1 q) fun us s2 ⟨vs, H2, I2, r, q2⟩ => ⟨I2.kIn, ?_⟩) hst hpl
  exact run_fnS (us := .ref a :: us) (vs := .ref a :: vs) F hr hb (hx σ) I2 (.cons rfl r) q2
theorem pe_methS0 {pl : Sem Bool} (he : PE X o ta) (c : Cls X.K C) (hm : Meth X.K C m f) (F : FnOk X.prog X.w X.K X.mg X.base CX k f fd ps sp) (hr : Room k X.A) (hb : Binds X.K fd ps []) (hx : ∀ σ, PassesAt CX X σ (E σ))
    (ht : eval (.Call (.Attribute o m apos) [] [] pos) X.env = (do
      let ov ← eval o X.env
      standAt apos.atName
      let (f, first) ← holding [ov] (getMethod ov m pl)
      callWith pos f first (backTo pos (starEach [] X.env)) (backToKw pos (keywordEach [] X.env))) := by rfl) :
    PE X (.Call (.Attribute o m apos) [] [] pos) (tMethS C m sp E ta tNil) := by
  refine ⟨fun pins s σ H Q I hw => ?_⟩
  refine PySem.W.methodCall_KW (pl := pl) (thn (he.run pins s σ H _ I hw) fun u s1 ⟨x, H1, I1, rx, a, dx, fs, ex, ea, l, q⟩ => ?_) ht
  subst ex
  cases rx
  refine getmeth_ok I1 ea c hm l ?_
  exact PySem.W.callWith_K0 (first := [.ref a]) I1.kIn hm.kp (run_fnS (us := [.ref a]) (vs := [.ref a]) F hr hb (hx σ) I1 (.cons rfl .nil) q)
/-- o.m(k = v, ..) -/
theorem pe_methN0 {pl : Sem Bool} (he : PE X o ta) (c : Cls X.K C) (hm : Meth X.K C m f) (F : FnOk X.prog X.w X.K X.mg X.base CX k f fd ps sp) (hr : Room k X.A) (hb : KBX X.K fd ps n ks g gV) (hx : ∀ σ, PassesAt CX X σ (E σ)) (hkw : PK X kws tk)
    (h0 : (backToKw pos (keywordEach kws X.env)).all (·.1.isSome) = true := by rfl) (hks : (backToKw pos (keywordEach kws X.env)).filterMap (·.1) = ks := by rfl)
    (h3 : ((backTo pos (starEach [] X.env)).any (·.1) || (backToKw pos (keywordEach kws X.env)).any (·.1.isNone)) = false := by rfl)
    (ht : eval (.Call (.Attribute o m apos) [] kws pos) X.env = (do
      let ov ← eval o X.env
      standAt apos.atName
      let (f, first) ← holding [ov] (getMethod ov m pl)
      callWith pos f first (backTo pos (starEach [] X.env)) (backToKw pos (keywordEach kws X.env))) := by rfl) :
    PE X (.Call (.Attribute o m apos) [] kws pos) (tMethN C m n ks.length gV sp E ta tNil tk) := by
  refine ⟨fun pins s σ H Q I hw => ?_⟩
  refine PySem.W.methodCall_KW (pl := pl) (thn (he.run pins s σ H _ I hw) fun u s1 ⟨x, H1, I1, rx, a, dx, fs, ex, ea, l, q⟩ => ?_) ht
  subst ex
  cases rx
  refine getmeth_ok I1 ea c hm l ?_
  refine PySem.W.callWith_KW0 (first := [.ref a]) (h₀ := X.base) I.ok.mod.kin hm.kp h0 (thn (hkw.run pos pins s1 σ H1 _ I1 q) fun ws s2 ⟨zs, H2, I2, rz, l1, l2, y2⟩ => ⟨I2.kIn, ?_⟩) h3
  rw [hks]
  exact runK (us := [.ref a]) (vs := [.ref a]) F hr hb (hx σ) I2 (.cons rfl .nil) rz l1 l2 y2
/-- a new instance whose maker may raise -/
theorem runMk {pins : List (Addr × Obj)} {σ : L2.St} {H : Hp} {s : Shared} {Q : VK} {us ws : List Value} (M : Mk X.K C f) (F : FnOk X.prog X.w X.K X.mg X.base CX k f fd ps sp) (hr : Room (k + 1) X.A)
    (hx : PassesAt CX X σ (E σ)) (I : Inv X pins σ H s) {args : List V} {as' : List Value} (ra : ∀ x, Vals (.ref x :: args) (.ref x :: as')) (hbt : ∀ s', X.K.In s'.heap → BindsTo s' fd ⟨Value.ref (s.heap.objs.size + 1) :: us, ks.zip ws⟩ (ps.zip (Value.ref (s.heap.objs.size + 1) :: as')))
    (h : ∀ x dx, H x = none → H dx = none → dx ≠ x → sp (.ref x :: args) (upd (upd H dx (.own x)) x (.ins C dx [])) (fun v H2 => v = .non ∧ Q (.ref x) H2) (E σ)) :
    wpAny (model X.prog X.w) X.A (call (.ref C) us (ks.zip ws)) (EP X pins σ Q) X.xe s := by
  have hq := h (s.heap.objs.size + 1) s.heap.objs.size (I.hok.fresh (Nat.le_succ _)) (I.hok.fresh (Nat.le_refl _)) (Nat.ne_of_lt (Nat.lt_succ_self _))
  have I2 := Inv.made (C := C) I
  refine wpAny_call (make_map (f := f) I.kIn M.makes M.init (beq_iff_eq.mp M.fn) (codeAny_mono (F.run _ X.stack _ _ ⟨Value.ref (s.heap.objs.size + 1) :: us, ks.zip ws⟩ (Value.ref (s.heap.objs.size + 1) :: as') _ _ (E σ) (hr.make C us (ks.zip ws))
    (I2.env0.make C us (ks.zip ws)) (hbt _ I2.kIn) (ra _) hq) fun r s' hq' => ?_))
  match r, hq' with
  | .error e, hq' => exact hx pins _ _ e s' I2 hq'
  | .ok (.ret u), hq' =>
    obtain ⟨v, H', I3, rv, ev, q3⟩ := I2.after hq'
    subst ev
    exact ⟨rv, ⟨V.ref (s.heap.objs.size + 1), H', I3, rfl, q3⟩⟩
theorem pe_makeS (M : Mk X.K C f) (F : FnOk X.prog X.w X.K X.mg X.base CX k f fd ps sp) (hr : Room (k + 1) X.A) (hg : Gl X x) (hm : X.mg x = some (.ref C)) (hb : Binds X.K fd ps []) (hx : ∀ σ, PassesAt CX X σ (E σ))
    (ha : PA X (e :: es) t) (hdb : (x == ("__debug__" : Str)) = false := by decide) (he : starEach (e :: es) X.env = (false, eval e X.env) :: starEach es X.env := by rfl) (hpl : (backTo pos (starEach es X.env)).any (·.1) = false := by rfl) :
    PE X (.Call (.Name x p) (e :: es) [] pos) (tMakeS C sp E t) := by
  refine ⟨fun pins s σ H Q I hw => ?_⟩
  refine wpAny_Call_Name_kw (ld_glob I hg hm ?_ hdb)
  refine PySem.W.callWith_K (h₀ := X.base) I.ok.mod.kin M.kp (thn (ha.run pos pins s σ H _ I hw) fun us s1 ⟨vs, H1, I1, r, q⟩ => ⟨I1.kIn, ?_⟩) he hpl
  have q0 := q (s1.heap.objs.size + 1) s1.heap.objs.size (I1.hok.fresh (Nat.le_succ _)) (I1.hok.fresh (Nat.le_refl _)) (Nat.ne_of_lt (Nat.lt_succ_self _))
  have hl : (Value.ref (s1.heap.objs.size + 1) :: us).length = ps.length := by
    have r2 : Vals (V.ref (s1.heap.objs.size + 1) :: vs) (Value.ref (s1.heap.objs.size + 1) :: us) := .cons rfl r
    rw [← r2.length]; exact F.len _ _ _ _ q0
  refine runMk (us := us) (ks := []) (ws := []) M F hr (hx σ) I1 (fun x => .cons rfl r) (fun s' k' => ?_) q
  have b := hb s' (Value.ref (s1.heap.objs.size + 1) :: us) k' (by rw [List.append_nil]; exact hl)
  rw [List.append_nil] at b
  exact b
/-- C(k = v, ..) -/
theorem pe_makeN0 (M : Mk X.K C f) (F : FnOk X.prog X.w X.K X.mg X.base CX k f fd ps sp) (hr : Room (k + 1) X.A) (hg : Gl X x) (hm : X.mg x = some (.ref C)) (hb : KBX X.K fd ps n ks g gV) (hx : ∀ σ, PassesAt CX X σ (E σ)) (hkw : PK X kws tk) (hg1 : ∀ (a : Value) (ws : List Value), ∃ as', g [a] ws = a :: as' ∧ ∀ b, g [b] ws = b :: as')
    (hg2 : ∀ (a : V) (zs : List V), ∃ as', gV [a] zs = a :: as' ∧ ∀ b, gV [b] zs = b :: as')
    (h0 : (backToKw pos (keywordEach kws X.env)).all (·.1.isSome) = true := by rfl) (hks : (backToKw pos (keywordEach kws X.env)).filterMap (·.1) = ks := by rfl)
    (hdb : (x == ("__debug__" : Str)) = false := by decide) (h3 : ((backTo pos (starEach [] X.env)).any (·.1) || (backToKw pos (keywordEach kws X.env)).any (·.1.isNone)) = false := by rfl) :
    PE X (.Call (.Name x p) [] kws pos) (tMakeN C n ks.length gV sp E tNil tk) := by
  refine ⟨fun pins s σ H Q I hw => ?_⟩
  refine wpAny_Call_Name_kw (ld_glob I hg hm ?_ hdb)
  refine PySem.W.callWith_KW0 (h₀ := X.base) I.ok.mod.kin M.kp h0 (thn (hkw.run pos pins s σ H _ I hw) fun ws s1 ⟨zs, H1, I1, rz, q⟩ => ⟨I1.kIn, ?_⟩) h3
  rw [hks]
  have q0 := q (s1.heap.objs.size + 1) s1.heap.objs.size (I1.hok.fresh (Nat.le_succ _)) (I1.hok.fresh (Nat.le_refl _)) (Nat.ne_of_lt (Nat.lt_succ_self _))
  obtain ⟨l1, l2, _⟩ := q0
  obtain ⟨as', e1, e2⟩ := hg1 (.ref (s1.heap.objs.size + 1)) ws
  obtain ⟨av, f1, f2⟩ := hg2 (.ref (s1.heap.objs.size + 1)) zs
  refine runMk (us := []) (ks := ks) (ws := ws) (args := av) (as' := as') M F hr (hx σ) I1 (fun x => ?_) (fun s' k' => ?_) (fun x dx n1 n2 n3 => ?_)
  · have r := hb.rel (vs := [.ref x]) (us := [.ref x]) (.cons rfl .nil) rz
    rw [f2, e2] at r
    exact r
  · have b := hb.to s' [Value.ref (s1.heap.objs.size + 1)] ws l1 (by rw [← rz.length]; exact l2)
    rw [e1] at b
    exact b
  · have q1 := (q x dx n1 n2 n3).2.2
    rw [f2] at q1
    exact q1
end
section
variable {σ : L2.St} {H : Hp} {Q : VK} {C : Addr} {m : Str} {n k : Nat} {gV : List V → List V → List V} {sp : Sp} {E : L2.St → XK} {ta : TE} {t tk : TA}
theorem omtS (h : ta σ H fun x H1 => ∃ a dx fs, x = .ref a ∧ H1 a = some (.ins C dx fs) ∧ fs.lookup m = none ∧ t σ H1 fun vs H2 => sp (x :: vs) H2 Q (E σ)) : tMethS C m sp E ta t σ H Q := h
theorem omtN (h : ta σ H fun x H1 => ∃ a dx fs, x = .ref a ∧ H1 a = some (.ins C dx fs) ∧ fs.lookup m = none ∧ t σ H1 fun vs H2 => tk σ H2 fun zs H3 => (x :: vs).length = n ∧ zs.length = k ∧ sp (gV (x :: vs) zs) H3 Q (E σ)) : tMethN C m n k gV sp E ta t tk σ H Q := h
theorem omkS (h : t σ H fun vs H1 => ∀ x dx, H1 x = none → H1 dx = none → dx ≠ x → sp (.ref x :: vs) (upd (upd H1 dx (.own x)) x (.ins C dx [])) (fun v H2 => v = .non ∧ Q (.ref x) H2) (E σ)) : tMakeS C sp E t σ H Q := h
theorem omkN (h : t σ H fun vs H1 => tk σ H1 fun zs H2 => ∀ x dx, H2 x = none → H2 dx = none → dx ≠ x → (V.ref x :: vs).length = n ∧ zs.length = k ∧ sp (gV (.ref x :: vs) zs) (upd (upd H2 dx (.own x)) x (.ins C dx [])) (fun v H3 => v = .non ∧ Q (.ref x) H3) (E σ)) : tMakeN C n k gV sp E t tk σ H Q := h
end
end HS
namespace HS
open PySem PySem.Spec PyProof.Rows L2
/-! ### xs.count(y) of plain data -/
def rCntD (K : PySem.W.Frag) : V → List V → Hp → VK → Prop := fun x xs H Q => ∃ (a : Addr) (y : V) (d : PyData) (ds : List PyData), x = V.ref a ∧ xs = [y] ∧ Dp K H (V.ref a) (.list ds) ∧ Dp K H y d ∧ SeqAt.shaped (.list ds) = true ∧ SeqAt.shaped d = true ∧ Q (.int (ds.countP fun z => PyData.eqv z d : Nat)) H
theorem mt_countD {X : Cx} (hu : X.A.units + 65 < cLine) : MtR X "list.count" (rCntD X.K) := by
  intro pins s σ H x xs v us Q I rx rxs h
  obtain ⟨a, y, d, ds, rfl, rfl, hl, hy, sl, sd, q⟩ := h
  cases rx
  match us, rxs with
  | [uy], .cons ry .nil =>
    obtain ⟨bs, r1⟩ := Dp.reads I d y uy hy ry
    have hxs : PyData.canLayAll0 ds = true := SeqAt.canLay_of_shaped sl
    have hroom : X.A.units + 1 + min (PyData.depthAll ds) d.depth < cLine := room_in_shaped sd hu
    match hl with
    | .lst hs ha =>
      obtain ⟨its, rv, ⟨⟨cls, dd, data, sls⟩, n, ho, hc, hdn, hdt⟩, hlen⟩ := I.list hs
      simp only at hc hdt
      subst hc hdt
      obtain ⟨as, h4⟩ := Dp.readsAll I ds _ its ha rv
      have hmap : its.map (SeqAt.readOf s.heap) = ds := SeqAt.readsAll_map ds its as hxs h4
      have ec : its.toArray.toList.countP (fun u => PyData.eqv (SeqAt.readOf s.heap u) d) = ds.countP fun z => PyData.eqv z d := by
        rw [← hmap, List.countP_map]; rfl
      refine call_meets PySem.F.slot_list_count ⟨_, ho, rfl⟩ PySem.F.entry_list_count (PySem.F.args_list_count_2 _ _)
        (SeqAt.list_countAt a its.toArray n dd sls uy (fun u => PyData.eqv (SeqAt.readOf s.heap u) d)) ⟨ho, SeqAt.items_eqAt (vs := its.toArray) (show ReadsAll s.heap its.toArray.toList ds as from h4) r1 hxs (SeqAt.canLay_of_shaped sd) hroom, ?_⟩
      refine ⟨.int (ds.countP fun z => PyData.eqv z d : Nat), H, I.tok _, ⟨s.toks, ?_⟩, q⟩
      show Value.int ((its.toArray.toList.countP (fun u => PyData.eqv (SeqAt.readOf s.heap u) d) : Nat) : Int) s.toks = Value.int ((ds.countP fun z => PyData.eqv z d : Nat) : Int) s.toks
      rw [ec]
end HS
namespace HS
open PySem PySem.Spec PyProof.Rows L2
theorem hu65 {A : PySem.Around} {k : Nat} (hr : L2.Room k A) : A.units + 65 < PySem.cLine := by have := hr.un; omega
section
variable {X : Cx} (K : PySem.W.Frag)
theorem kcountD (hu : X.A.units + 65 < cLine) (h : X.K = K := by rfl) : MtR X "list.count" (rCntD K) := h ▸ mt_countD hu
theorem kindexD (hu : X.A.units + 65 < cLine) (h : X.K = K := by rfl) : MtR X "list.index" (rIndexD K) := h ▸ mt_indexD hu
theorem kunl {tg : Expr} {n : Nat} {t : TGs} (p : PG X tg (gUnl X.K n t)) (h : X.K = K := by rfl) : PG X tg (gUnl K n t) := h ▸ p
end
section
variable {K : PySem.W.Frag} {σ : L2.St} {H : Hp} {Q : VK}
theorem gunl {n : Nat} {t : TGs} {a : Addr} {xs : List V} {q : L2.St → Hp → Prop} (h : SqL K H a xs) (e : xs.length = n) (k : t xs σ H q) : gUnl K n t (.ref a) σ H q := ⟨a, xs, rfl, h, e, k⟩
end
end HS
/-! What stands in a heap, told as one list: addresses that differ, each with what is known of its object. -/
namespace HS
open PySem PySem.Spec PyProof.Rows L2
abbrev WdL := List (Addr × (HO → Prop))
/-- H0: the heap at the entry; S: what may have changed there; l: what is known now -/
structure Wd (H0 H : Hp) (S : Addr → Prop) (l : WdL) : Prop where
  nd : (l.map (·.1)).Nodup
  at_ : ∀ x ∈ l, ∃ o, H x.1 = some o ∧ x.2 o
  kp : Keep S H0 H
  fr : ∀ x ∈ l, S x.1 ∨ H0 x.1 = none
section
variable {H0 H H' : Hp} {S : Addr → Prop} {l l' : WdL} {p q : Addr} {o : HO} {P P' : HO → Prop} {i j : Nat}
theorem Wd.nil : Wd H H S [] := ⟨.nil, fun _ h => absurd h List.not_mem_nil, .refl, fun _ h => absurd h List.not_mem_nil⟩
theorem nd_snoc {l : WdL} {P : HO → Prop} (nd : (l.map (·.1)).Nodup) (n : ∀ x ∈ l, x.1 ≠ p) : ((l ++ [(p, P)]).map (·.1)).Nodup := by
  rw [List.map_append, List.nodup_append]
  refine ⟨nd, List.nodup_cons.mpr ⟨List.not_mem_nil, .nil⟩, fun a ha b hb e => ?_⟩
  obtain ⟨x, hx, rfl⟩ := List.mem_map.mp ha
  have hb' : b = p := List.mem_singleton.mp hb
  exact n x hx (e.trans hb')
theorem mem_snoc {l : WdL} {x y : Addr × (HO → Prop)} (h : x ∈ l ++ [y]) : x ∈ l ∨ x = y := by
  rcases List.mem_append.mp h with h | h
  · exact .inl h
  · exact .inr (List.mem_singleton.mp h)
/-- what stood at the entry and may change -/
theorem Wd.old (W : Wd H0 H S l) (h : H p = some o) (hp : P o) (s : S p) (n : ∀ x ∈ l, x.1 ≠ p) : Wd H0 H S (l ++ [(p, P)]) := by
  refine ⟨nd_snoc W.nd n, fun x hx => ?_, W.kp, fun x hx => ?_⟩
  · rcases mem_snoc hx with hx | e
    · exact W.at_ x hx
    · subst e; exact ⟨o, h, hp⟩
  · rcases mem_snoc hx with hx | e
    · exact W.fr x hx
    · subst e; exact .inl s
theorem Wd.one (h : H p = some o) (hp : P o) (s : S p) : Wd H H S [(p, P)] := Wd.nil.old h hp s fun _ h => absurd h List.not_mem_nil
theorem Wd.get (W : Wd H0 H S l) (i : Nat) (e : l[i]? = some (p, P)) : ∃ o, H p = some o ∧ P o := W.at_ _ (List.mem_of_getElem? e)
theorem Wd.at (W : Wd H0 H S l) (i : Nat) (e : l[i]? = some (p, Eq o)) : H p = some o := by
  obtain ⟨o', h, e'⟩ := W.get i e
  cases e'; exact h
theorem Wd.sq {K : PySem.W.Frag} {xs : List V} (W : Wd H0 H S l) (i : Nat) (e : l[i]? = some (p, Eq (.lst xs))) : SqL K H p xs := HS.sq (W.at i e)
theorem Wd.same (W : Wd H0 H S l) (k : Keep (fun _ => False) H H') : Wd H0 H' S l :=
  ⟨W.nd, fun x hx => let ⟨o, h, z⟩ := W.at_ x hx; ⟨o, k _ _ h id, z⟩, W.kp.trans k.any, W.fr⟩
theorem Wd.miss (W : Wd H0 H S l) (h : H p = none) : ∀ x ∈ l, x.1 ≠ p := fun x hx e => by
  obtain ⟨o', h', _⟩ := W.at_ x hx
  rw [e, h] at h'; cases h'
/-- an object that some call has made: it was not there before the call -/
theorem Wd.made (W : Wd H0 H S l) {H1 : Hp} (k : Keep (fun _ => False) H H1) (h0 : H p = none) (h : H1 p = some o) (z : P o) : Wd H0 H1 S (l ++ [(p, P)]) := by
  have W1 := W.same k
  refine ⟨nd_snoc W.nd (W.miss h0), fun x hx => ?_, W1.kp, fun x hx => ?_⟩
  · rcases mem_snoc hx with hx | e
    · exact W1.at_ x hx
    · subst e; exact ⟨o, h, z⟩
  · rcases mem_snoc hx with hx | e
    · exact W.fr x hx
    · subst e
      by_cases s : S p
      · exact .inl s
      · exact .inr (W.kp.free h0 s)
theorem Wd.new (W : Wd H0 H S l) (h : H p = none) (z : P o) : Wd H0 (upd H p o) S (l ++ [(p, P)]) := W.made (Keep.new h) h upd_same z
/-- the same, the new heap by its name -/
theorem Wd.newG (W : Wd H0 H S l) (e : upd H p o = H') (h : H p = none) : Wd H0 H' S (l ++ [(p, Eq o)]) := e ▸ W.new h rfl
theorem nd_ne {l : WdL} (nd : (l.map (·.1)).Nodup) (e1 : l[i]? = some (p, P)) (e2 : l[j]? = some (q, P')) (h : i ≠ j) : p ≠ q := fun z => by
  have f1 : (l.map (·.1))[i]? = some p := by rw [List.getElem?_map, e1]; rfl
  have f2 : (l.map (·.1))[j]? = some q := by rw [List.getElem?_map, e2]; rfl
  have hl : i < (l.map (·.1)).length := (List.getElem?_eq_some_iff.mp f1).1
  exact h ((List.getElem?_inj hl nd).mp (by rw [f1, f2, z]))
theorem Wd.ne (W : Wd H0 H S l) (i j : Nat) (e1 : l[i]? = some (p, P)) (e2 : l[j]? = some (q, P')) (h : i ≠ j := by decide) : p ≠ q := nd_ne W.nd e1 e2 h
theorem Wd.no (W : Wd H0 H S l) (i : Nat) (e : l[i]? = some (p, P)) (h : H q = none) : q ≠ p := fun z => by
  obtain ⟨o, h', _⟩ := W.get i e
  rw [z, h'] at h; cases h
/-- the i-th object changes, all else stands -/
theorem Wd.chg (W : Wd H0 H S l) (i : Nat) (e : l[i]? = some (p, P)) (k : Keep (fun a => a = p) H H') (h : H' p = some o) (z : P' o) : Wd H0 H' S (l.set i (p, P')) := by
  have hi : i < l.length := (List.getElem?_eq_some_iff.mp e).1
  have em : (l.set i (p, P')).map (·.1) = l.map (·.1) := by
    apply List.ext_getElem?
    intro j
    rw [List.getElem?_map, List.getElem?_map, List.getElem?_set]
    by_cases hj : i = j
    · subst hj; rw [if_pos rfl, if_pos hi, e]; rfl
    · rw [if_neg hj]
  have hm : ∀ x ∈ l.set i (p, P'), x = (p, P') ∨ (x ∈ l ∧ x.1 ≠ p) := fun x hx => by
    obtain ⟨j, hj⟩ := List.getElem?_of_mem hx
    rw [List.getElem?_set] at hj
    by_cases hij : i = j
    · rw [if_pos hij, if_pos hi] at hj
      exact .inl (Option.some.inj hj).symm
    · rw [if_neg hij] at hj
      exact .inr ⟨List.mem_of_getElem? hj, fun y => nd_ne W.nd e (show l[j]? = some (x.1, x.2) from hj) hij y.symm⟩
  have sp := W.fr _ (List.mem_of_getElem? e)
  refine ⟨by rw [em]; exact W.nd, fun x hx => ?_, fun a u ha n => ?_, fun x hx => ?_⟩
  · rcases hm x hx with rfl | ⟨hx, n⟩
    · exact ⟨o, h, z⟩
    · obtain ⟨u, hu, y⟩ := W.at_ x hx
      exact ⟨u, k _ _ hu n, y⟩
  · refine k _ _ (W.kp _ _ ha n) fun y => ?_
    subst y
    rcases sp with sp | sp
    · exact n sp
    · rw [sp] at ha; cases ha
  · rcases hm x hx with rfl | ⟨hx, n⟩
    · exact sp
    · exact W.fr x hx
theorem Wd.chgE (W : Wd H0 H S l) (i : Nat) (e : l[i]? = some (p, P)) (k : Keep (fun a => a = p) H H') (h : H' p = some o) : Wd H0 H' S (l.set i (p, Eq o)) := W.chg i e k h rfl
theorem Wd.put (W : Wd H0 H S l) (i : Nat) (e : l[i]? = some (p, P)) (z : P' o) : Wd H0 (upd H p o) S (l.set i (p, P')) := W.chg i e (Keep.refl.at rfl) upd_same z
theorem Wd.putG (W : Wd H0 H S l) (i : Nat) (e : l[i]? = some (p, P)) (g : upd H p o = H') : Wd H0 H' S (l.set i (p, Eq o)) := g ▸ W.put i e rfl
/-- only some of it is told further -/
theorem Wd.sub (W : Wd H0 H S l) (h : l'.Sublist l) : Wd H0 H S l' := ⟨W.nd.sublist (h.map _), fun x hx => W.at_ x (h.subset hx), W.kp, fun x hx => W.fr x (h.subset hx)⟩
theorem Wd.take (W : Wd H0 H S l) (n : Nat) : Wd H0 H S (l.take n) := W.sub (List.take_sublist n l)
theorem Wd.weak (W : Wd H0 H S l) (i : Nat) (e : l[i]? = some (p, P)) (z : ∀ o, P o → P' o) : Wd H0 H S (l.set i (p, P')) := by
  obtain ⟨o, h, y⟩ := W.get i e
  exact W.chg i e .refl h (z o y)
/-- an object that a call has made which changed told objects besides: W before it, W' behind it -/
theorem Wd.madeT {H1 : Hp} (W : Wd H0 H S l) (W' : Wd H0 H1 S l') (e : l'.map (·.1) = l.map (·.1)) (h0 : H p = none) (h : H1 p = some o) (z : P o) : Wd H0 H1 S (l' ++ [(p, P)]) := by
  have n : ∀ x ∈ l', x.1 ≠ p := fun x hx y => by
    have hm : p ∈ l.map (·.1) := by rw [← e, ← y]; exact List.mem_map_of_mem hx
    obtain ⟨u, hu, eu⟩ := List.mem_map.mp hm
    exact W.miss h0 u hu eu
  refine ⟨nd_snoc W'.nd n, fun x hx => ?_, W'.kp, fun x hx => ?_⟩
  · rcases mem_snoc hx with hx | e
    · exact W'.at_ x hx
    · subst e; exact ⟨o, h, z⟩
  · rcases mem_snoc hx with hx | e
    · exact W'.fr x hx
    · subst e
      by_cases s : S p
      · exact .inl s
      · exact .inr (W.kp.free h0 s)
theorem Wd.keep (W : Wd H0 H S l) : Keep S H0 H := W.kp
/-- a change of several told objects and of nothing else -/
theorem Wd.chgs {T : Addr → Prop} (W : Wd H0 H S l) (k : Keep T H H') (hT : ∀ a, T a → S a ∨ H0 a = none) (f : ∀ x ∈ l, ¬ T x.1 ∨ ∃ o, H' x.1 = some o ∧ x.2 o) : Wd H0 H' S l := by
  refine ⟨W.nd, fun x hx => ?_, fun a u ha n => k _ _ (W.kp _ _ ha n) fun y => ?_, W.fr⟩
  · rcases f x hx with n | y
    · obtain ⟨u, hu, y⟩ := W.at_ x hx
      exact ⟨u, k _ _ hu n, y⟩
    · exact y
  · rcases hT a y with z | z
    · exact n z
    · rw [z] at ha; cases ha
theorem Wd.chgO (W : Wd H0 H S l) (k : Keep (fun a => a = p) H H') (hp : ∀ x ∈ l, x.1 ≠ p) (s : S p ∨ H0 p = none) : Wd H0 H' S l :=
  W.chgs k (fun a e => by cases (show a = p from e); exact s) fun x hx => .inl (hp x hx)
end
end HS
/-! Lists of ints in their order: <, and sorted of a list of them that stands in order already. -/
namespace HS
open PySem PySem.Spec PyProof.Rows L2
def rLtL (K : PySem.W.Frag) : R2 := fun x y H Q => ∃ (a b : Addr) (ns ms : List Int), x = .ref a ∧ y = .ref b ∧ SqL K H a (ns.map V.int) ∧ SqL K H b (ms.map V.int) ∧ Q (.bl (decide (ns < ms))) H
theorem dep_dInts (ns : List Int) : (dInts ns).depth ≤ 1 := by
  unfold dInts
  rw [PyData.depth, dep_ints]
  exact Nat.le_refl _
theorem kltL {X : Cx} (K : PySem.W.Frag) (hu : X.A.units + 64 < cLine) (h : X.K = K := by rfl) : OpR X (compareOp .Lt) (rLtL K) := by
  subst h
  intro pins s σ H x y v u Q I rx ry ⟨a, b, ns, ms, ex, ey, ha, hb, q⟩
  subst ex ey
  obtain ⟨as, r1⟩ := Dp.reads I (dInts ns) _ _ (dp_ints ha) rx
  obtain ⟨bs, r2⟩ := Dp.reads I (dInts ms) _ _ (dp_ints hb) ry
  have d1 := dep_dInts ns
  refine PySem.W.lt_data r1 r2 ?_ (by simp [dInts]) (by have := Nat.min_le_left (dInts ns).depth (dInts ms).depth; omega) ?_
  · show PySem.W.alike (.list (ns.map .int)) (.list (ms.map .int)) = true
    simp only [PySem.W.alike]
    exact PySem.W.alike_ints ns ms
  · have e : PySem.W.dataLt (dInts ns) (dInts ms) = decide (ns < ms) := by
      unfold dInts
      rw [PySem.W.dataLt_list]
      exact PySem.W.dataLt_ints ns ms
    rw [e]
    exact ⟨.bl _, H, I, rfl, q⟩
/-- sorted of a list of lists of ints that is in order: a new list of the same ones -/
def rSrtL (K : PySem.W.Frag) : List V → Hp → VK → Prop := fun vs H Q => ∃ (a : Addr) (xs : List V) (rs : List (List Int)), vs = [.ref a] ∧ SqL K H a xs ∧ Lol H xs rs ∧ rs.Pairwise (· ≤ ·) ∧ ∀ p, H p = none → Q (.ref p) (upd H p (.lst xs))
theorem each_vals : ∀ {xs : List V} {its : List Value} {rs : List (List Int)}, Vals xs its → xs.length = rs.length → PySem.W.EachIs (fun v (b : V × List Int) => RelV b.1 v) its (xs.zip rs)
  | _, _, [], .nil, _ => .nil
  | _, _, _ :: _, .nil, h => by simp at h
  | _, _, [], .cons _ _, h => by simp at h
  | _, _, _ :: _, .cons a r, h => .cons a (each_vals r (Nat.succ.inj h))
theorem vals_each : ∀ {xs : List V} {its : List Value} {rs : List (List Int)}, xs.length = rs.length → PySem.W.EachIs (fun v (b : V × List Int) => RelV b.1 v) its (xs.zip rs) → Vals xs its
  | [], its, rs, h, e => by
    have : its = [] := by
      rw [List.zip_nil_left] at e
      cases e; rfl
    rw [this]; exact .nil
  | x :: xs, its, [], h, e => by simp at h
  | x :: xs, its, r :: rs, h, e => by
    rw [List.zip_cons_cons] at e
    cases e with
    | cons a t => exact .cons a (vals_each (Nat.succ.inj h) t)
theorem lol_reads {X : Cx} {pins : List (Addr × Obj)} {σ : L2.St} {H : Hp} {s : Shared} (I : Inv X pins σ H s) : ∀ {xs : List V} {its : List Value} {rs : List (List Int)}, Vals xs its → Lol H xs rs → PySem.W.EachIs (fun v (b : V × List Int) => ∃ as, Reads s.heap v (.list (b.2.map .int)) as) its (xs.zip rs)
  | [], _, [], .nil, _ => .nil
  | _ :: _, _, _ :: _, .cons a r, h => by
    obtain ⟨⟨t, e, o⟩, h⟩ := h
    rw [List.zip_cons_cons]
    exact .cons (Dp.reads I (dInts _) _ _ (by rw [e]; exact dp_ints (HS.sq o)) a) (lol_reads I r h)
theorem ksrtL {X : Cx} (K : PySem.W.Frag) (hu : X.A.units + 64 < cLine) (h : X.K = K := by rfl) : CallR X (.builtin "sorted") (rSrtL K) := by
  subst h
  intro pins s σ H vs us Q I r ⟨a, xs, rs, ev, hs, hL, hp, q⟩
  subst ev
  obtain ⟨its, rv, hl, hz⟩ := I.list hs
  rw [Vals.ref1 r]
  have ll := hL.len
  refine PySem.W.sorted_data (bs := xs.zip rs) (enc := fun b => .list (b.2.map .int)) (R := fun v b => RelV b.1 v) hl.isList (each_vals rv ll) (lol_reads I rv hL) (PySem.W.AllAlike.of fun b b' => ?_) (PySem.W.Sortable.others fun b => ⟨by simp, by simp⟩) ?_ (fun b _ => ?_) fun out ho eo => ?_
  · simp only [PySem.W.alike]
    exact PySem.W.alike_ints _ _
  · rw [List.length_zip, ← ll, Nat.min_self]
    exact hz
  · have := dep_dInts b.2
    unfold dInts at this
    omega
  · have es : (xs.zip rs).mergeSort (PySem.W.dataLe false fun b => .list (b.2.map .int)) = xs.zip rs := by
      refine List.mergeSort_of_pairwise ?_
      rw [PySem.W.dataLe_rows]
      have h1 : ((xs.zip rs).map (·.2)).Pairwise (· ≤ ·) := by rw [List.map_snd_zip (by omega)]; exact hp
      rw [List.pairwise_map] at h1
      exact h1.imp fun h => decide_eq_true h
    rw [es] at eo
    have rv' := vals_each ll eo
    obtain ⟨ep, he'⟩ := PyProof.Rows.sortedAll_at s.heap its out.toArray
    exact ⟨.ref _, upd H (s.heap.objs.size + 1) (.lst xs), I.laid (t' := s.toks) (fun _ _ => PyProof.Rows.sortedAll_old) (Nat.le_succ _) ⟨hz, out, ep, rv', he'⟩, rfl, q _ (I.hok.fresh (Nat.le_succ _))⟩
section
variable {K : PySem.W.Frag} {H : Hp} {Q : VK}
theorem ltL {a b : Addr} {ns ms : List Int} (h1 : SqL K H a (ns.map V.int)) (h2 : SqL K H b (ms.map V.int)) (q : Q (.bl (decide (ns < ms))) H) : rLtL K (.ref a) (.ref b) H Q := ⟨a, b, ns, ms, rfl, rfl, h1, h2, q⟩
end
end HS
namespace HS
open PySem PySem.Spec PyProof.Rows L2
theorem eqv_lol : ∀ rs : List (List Int), PyData.eqvAll (rs.map dInts) (rs.map dInts) = true
  | [] => rfl
  | r :: rs => by rw [List.map_cons, PyData.eqvAll, eqv_ints, eqv_lol rs]; simp
theorem eqLol {K : PySem.W.Frag} {H : Hp} {Q : VK} {a b : Addr} {vs ws : List V} {rs : List (List Int)} (h1 : SqL K H a vs) (g1 : Lol H vs rs) (h2 : SqL K H b ws) (g2 : Lol H ws rs) (q : Q (.bl true) H) : rEqD K (.ref a) (.ref b) H Q := by
  refine ⟨.list (rs.map dInts), .list (rs.map dInts), .lst h1 (dpAll_lol g1), .lst h2 (dpAll_lol g2), sh_lol _, sh_lol _, ?_⟩
  rw [PyData.eqv, eqv_lol]
  exact q
end HS
theorem flat_mono {α : Type} {f : Nat → List α} {i N : Nat} (h : i ≤ N) : ((List.range i).flatMap f).length ≤ ((List.range N).flatMap f).length := by
  obtain ⟨k, rfl⟩ := Nat.exists_eq_add_of_le h
  rw [List.range_add, List.flatMap_append, List.length_append]
  omega
/-! Equal plain data: an error told as a tuple. -/
namespace HS
open PySem PySem.Spec PyProof.Rows L2
section
variable {K : PySem.W.Frag} {H : Hp} {Q : VK} {x y : V} {d : PyData}
theorem neSame (h1 : Dp K H x d) (h2 : Dp K H y d) (sh : SeqAt.shaped d = true) (e : PyData.eqv d d = true) (q : Q (.bl false) H) : rNeD K x y H Q := ⟨d, d, h1, h2, sh, sh, by rw [e]; exact q⟩
theorem eqSame (h1 : Dp K H x d) (h2 : Dp K H y d) (sh : SeqAt.shaped d = true) (e : PyData.eqv d d = true) (q : Q (.bl true) H) : rEqD K x y H Q := ⟨d, d, h1, h2, sh, sh, by rw [e]; exact q⟩
end
end HS
/-! A list of a word and an int. -/
namespace HS
open PySem PySem.Spec PyProof.Rows L2
section
variable {K : PySem.W.Frag} {H : Hp} {Q : VK} {x y : V} {d : PyData}
def dSI (s : Str) (i : Int) : PyData := .list [.str s, .int i]
theorem dp_SI {a : Addr} {s : Str} {i : Int} (h : SqL K H a [.str s, .int i]) : Dp K H (.ref a) (dSI s i) := .lst h (.cons (.str s) (.cons (.int i) .nil))
theorem sh_SI (s : Str) (i : Int) (h : PyData.strOk s = true := by decide +kernel) : SeqAt.shaped (dSI s i) = true := by simp [h, SeqAt.shaped, dSI, PyData.canLay0, PyData.canLayAll0, PyData.depth, PyData.depthAll]
theorem eqv_SI (s : Str) (i : Int) : PyData.eqv (dSI s i) (dSI s i) = true := by simp [dSI, PyData.eqv, PyData.eqvAll]
end
end HS
/-! In a suite of a base class: isinstance of the exception, also by a tuple of classes, and its value. -/
namespace HS
open PySem PySem.Spec PyProof.Rows L2
theorem exc_here {X : Cx} {a D d : Addr} {oe : Obj} {pn pins : List (Addr × Obj)} {σ : L2.St} {H : Hp} {s : Shared} {fs : List (Str × V)} (I : Inv (X.suite a ((a, oe) :: pn)) pins σ H s) (hz : Zc (.ref D) (some d) oe) (hf : ∃ vs, oe.data = .fields vs) (hd : H d = some (.xd fs)) :
    ∃ (od : Obj) (mA : Str → Option Value), PySem.W.InstAt s.heap a oe D (some od) ∧ (∀ f, RelO (fs.lookup f) (mA f)) ∧ ∀ f, PySem.W.lookIn f od = some (mA f) := by
  obtain ⟨hget, _⟩ := I.pin (a, oe) (List.mem_append.mpr (.inl List.mem_cons_self))
  obtain ⟨vs, hv⟩ := hf
  have x2 : ObjOk X.prog X.w H s.heap d (.xd fs) := I.hok d _ hd
  obtain ⟨mA, hns, hr⟩ := x2
  obtain ⟨od, hod, hl⟩ := lookIn_ns hns
  exact ⟨od, mA, ⟨hget, hz.1, by unfold PySem.W.notCls; rw [hv] <;> rfl, by rw [hz.2]; exact hod⟩, hr, hl⟩
/-- what is asked of isinstance: a class, or a tuple of own classes -/
def AskB (K : PySem.W.Frag) (H : Hp) (D : Addr) (c : V) (b : Bool) : Prop := (∃ cv, ClsV c cv ∧ PySem.W.kitOne K (.ref D) cv = some b) ∨ ∃ (t : Addr) (cs : List Addr), c = .ref t ∧ SqT K H t (cs.map V.ref) ∧ PySem.W.kitAny K (.ref D) (cs.map Value.ref) = some b
def rIsP (K : PySem.W.Frag) (a : Addr) (cls : Value) (dx : Option Addr) : List V → Hp → VK → Prop := fun xs H Q => ∃ (D d : Addr) (fs : List (Str × V)) (c : V) (b : Bool), xs = [.ref a, c] ∧ cls = .ref D ∧ dx = some d ∧ H d = some (.xd fs) ∧ ExcC K D ∧ AskB K H D c b ∧ Q (.bl b) H
theorem vals_refs : ∀ {cs : List Addr} {its : List Value}, Vals (cs.map V.ref) its → its = cs.map Value.ref
  | [], _, .nil => rfl
  | c :: cs, _, .cons r rr => by cases r; rw [vals_refs rr]; rfl
theorem call_isP {X : Cx} {a : Addr} {oe : Obj} {cls : Value} {dx : Option Addr} {pn : List (Addr × Obj)} (K : PySem.W.Frag) (hz : Zc cls dx oe) (hf : ∃ vs, oe.data = .fields vs) (hK : X.K = K := by rfl) : CallR (X.suite a ((a, oe) :: pn)) (.builtin "isinstance") (rIsP K a cls dx) := by
  subst hK
  intro pins s σ H xs us Q I r hw
  obtain ⟨D, d, fs, c, b, e0, ec, ed, hd, T, ask, q⟩ := hw
  subst e0 ec ed
  match us, r with
  | [_, _], .cons rx (.cons rt .nil) =>
    cases rx
    obtain ⟨od, mA, here, _, _⟩ := exc_here I hz hf hd
    obtain ⟨cd, hcd, _⟩ := PySem.W.any_some T.hd
    rcases ask with ⟨cv, hcv, hb⟩ | ⟨t, cs, e1, ht, hb⟩
    · have e1 := hcv.eq rt
      subst e1
      exact PySem.W.kia_one (PySem.W.kitx_exc (by rw [hcd]; rfl) T.hg T.hk T.hs T.ha T.hn T.ht T.hm) I.kIn here hb (fun z => nomatch z) fun tk => ⟨.bl b, H, I.kept (t' := tk) fun _ _ z => z, rfl, q⟩
    · subst e1
      cases rt
      obtain ⟨its, rv, ⟨⟨oc, od', odt, osl⟩, ho, hc, n, hdt⟩, _⟩ := I.tuple ht
      dsimp only at hc hdt
      subst hc hdt
      rw [← vals_refs rv] at hb
      exact PySem.W.kia_tup (PySem.W.kitx_exc (by rw [hcd]; rfl) T.hg T.hk T.hs T.ha T.hn T.ht T.hm) I.kIn here ho hb (fun z => nomatch z) fun tk => ⟨.bl b, H, I.kept (t' := tk) fun _ _ z => z, rfl, q⟩
def tFldP (K : PySem.W.Frag) (a : Addr) (cls : Value) (dx : Option Addr) (f : Str) (te : TE) : TE := fun σ H Q => te σ H fun x H1 => x = .ref a ∧ ∃ (C d : Addr) (fs : List (Str × V)) (v : V), cls = .ref C ∧ dx = some d ∧ XfC K C ∧ PySem.W.findIn K (.ref C) f = some none ∧ H1 d = some (.xd fs) ∧ fs.lookup f = some v ∧ Q v H1
theorem pe_fldP {X : Cx} {a : Addr} {oe : Obj} {cls : Value} {dx : Option Addr} {pn : List (Addr × Obj)} {e : Expr} {te : TE} {pos : Pos} {f : Str} (K : PySem.W.Frag) (hz : Zc cls dx oe) (hf : ∃ vs, oe.data = .fields vs) (he : PE (X.suite a ((a, oe) :: pn)) e te)
    (hK : X.K = K := by rfl) (hb : attributeBase e f X.env (eval e X.env) = eval e X.env := by rfl) : PE (X.suite a ((a, oe) :: pn)) (.Attribute e f pos) (tFldP K a cls dx f te) := by
  subst hK
  refine ⟨fun pins s σ H Q I hw => attr_of hb (thn (he.run pins s σ H _ I hw) fun u s1 ⟨x, H1, I1, rx, e0, C, d, fs, v, ec, ed, T, hno, hd, l, q⟩ => ?_)⟩
  subst e0 ec ed
  cases rx
  obtain ⟨od, mA, here, hr, hl⟩ := exc_here I1 hz hf hd
  obtain ⟨w, hw, rw'⟩ := RelO.some_of (v := v) (o := mA f) (by rw [← l]; exact hr f)
  exact HandSPX.exc_get I1.kIn here T.ga T.gg T.exC (PySem.W.findObj_own T.hdC hno rfl (by rw [hl, hw])) (handed_of rw') ⟨v, H1, I1.tok _, rw', q⟩
section
variable {K : PySem.W.Frag} {σ : L2.St} {H : Hp} {Q : VK} {a D C d t : Addr} {fs : List (Str × V)} {b : Bool} {te : TE} {f : Str} {v : V}
theorem isP (T : ExcC K D) (hd : H d = some (.xd fs)) (hq : PySem.W.kitOne K (.ref D) (.ref C) = some b) (q : Q (.bl b) H) : rIsP K a (.ref D) (some d) [.ref a, .ref C] H Q := ⟨D, d, fs, _, b, rfl, rfl, rfl, hd, T, .inl ⟨_, .own C, hq⟩, q⟩
theorem isPt {n : String} (T : ExcC K D) (hd : H d = some (.xd fs)) (hq : PySem.W.kitOne K (.ref D) (.type n) = some b) (q : Q (.bl b) H) : rIsP K a (.ref D) (some d) [.ref a, .ty n] H Q := ⟨D, d, fs, _, b, rfl, rfl, rfl, hd, T, .inl ⟨_, .ty n, hq⟩, q⟩
theorem isPs {cs : List Addr} (T : ExcC K D) (hd : H d = some (.xd fs)) (ht : SqT K H t (cs.map V.ref)) (hq : PySem.W.kitAny K (.ref D) (cs.map Value.ref) = some b) (q : Q (.bl b) H) : rIsP K a (.ref D) (some d) [.ref a, .ref t] H Q := ⟨D, d, fs, _, b, rfl, rfl, rfl, hd, T, .inr ⟨t, cs, rfl, ht, hq⟩, q⟩
theorem fldP (h : te σ H fun x H1 => x = .ref a ∧ ∃ (C' d' : Addr) (fs : List (Str × V)) (v : V), Value.ref C = .ref C' ∧ some d = some d' ∧ XfC K C' ∧ PySem.W.findIn K (.ref C') f = some none ∧ H1 d' = some (.xd fs) ∧ fs.lookup f = some v ∧ Q v H1) : tFldP K a (.ref C) (some d) f te σ H Q := h
theorem kany_no {D : Addr} : ∀ {cs : List Addr}, (∀ c ∈ cs, PySem.W.kitOne K (.ref D) (.ref c) = some false) → PySem.W.kitAny K (.ref D) (cs.map Value.ref) = some false
  | [], _ => rfl
  | c :: cs, h => by
    unfold PySem.W.kitAny
    rw [List.map_cons]
    dsimp only
    rw [h c List.mem_cons_self]
    exact kany_no fun x hx => h x (List.mem_cons_of_mem _ hx)
end
end HS
/-! isinstance of a kept exception, by a tuple of own classes. -/
namespace HS
open PySem PySem.Spec PyProof.Rows L2
def rIsXs (K : PySem.W.Frag) : List V → Hp → VK → Prop := fun xs H Q => ∃ (a D : Addr) (fs : List (Str × V)) (t : Addr) (cs : List Addr) (b : Bool), xs = [.ref a, .ref t] ∧ ExcC K D ∧ Exh H a D fs ∧ SqT K H t (cs.map V.ref) ∧ PySem.W.kitAny K (.ref D) (cs.map Value.ref) = some b ∧ Q (.bl b) H
theorem kisXs {X : Cx} (K : PySem.W.Frag) (h : X.K = K := by rfl) : CallR X (.builtin "isinstance") (rIsXs K) := by
  subst h
  intro pins s σ H xs us Q I r ⟨a, D, fs, t, cs, b, e0, T, hE, ht, hb, q⟩
  subst e0
  match us, r with
  | [_, _], .cons rx (.cons rt .nil) =>
    cases rx
    cases rt
    obtain ⟨oe, od, d, mA, here, _⟩ := exh_at I hE
    obtain ⟨cd, hcd, _⟩ := PySem.W.any_some T.hd
    obtain ⟨its, rv, ⟨⟨oc, od', odt, osl⟩, ho, hc, n, hdt⟩, _⟩ := I.tuple ht
    dsimp only at hc hdt
    subst hc hdt
    rw [← vals_refs rv] at hb
    exact PySem.W.kia_tup (PySem.W.kitx_exc (by rw [hcd]; rfl) T.hg T.hk T.hs T.ha T.hn T.ht T.hm) I.kIn here ho hb (fun z => nomatch z) fun tk => ⟨.bl b, H, I.kept (t' := tk) fun _ _ z => z, rfl, q⟩
section
variable {K : PySem.W.Frag} {H : Hp} {Q : VK} {a D t : Addr} {fs : List (Str × V)} {b : Bool}
theorem isXs {cs : List Addr} (T : ExcC K D) (he : Exh H a D fs) (ht : SqT K H t (cs.map V.ref)) (hq : PySem.W.kitAny K (.ref D) (cs.map Value.ref) = some b) (q : Q (.bl b) H) : rIsXs K [.ref a, .ref t] H Q := ⟨a, D, fs, t, cs, b, rfl, T, he, ht, hq, q⟩
end
end HS
/-! A def that may raise, called by keywords in a try. -/
namespace HS
open PySem PySem.Spec PyProof.Rows L2
def tCallNS (n m : Nat) (sp : Sp) (gV : List V → List V → List V) (E : L2.St → XK) (t tk : TA) : TE := fun σ H Q => t σ H fun vs H1 => tk σ H1 fun zs H2 => vs.length = n ∧ zs.length = m ∧ sp (gV vs zs) H2 Q (E σ)
section
variable {X : Cx} {CX : CXT} {n m : Nat} {f : Addr} {fd : FuncData} {ps ks : List Str} {sp : Sp} {E : L2.St → XK} {x : Str} {p q : Pos} {e : Expr} {es : List Expr} {kws : List Keyword} {t tk : TA} {g : List Value → List Value → List Value} {gV : List V → List V → List V}
theorem pe_kw0S (F : FnOk X.prog X.w X.K X.mg X.base CX m f fd ps sp) (hr : Room m X.A) (gl : Gl X x) (mf : X.mg x = some (.ref f)) (kf : PySem.W.keepIn X.K (.ref f) = true) (hb : KBX X.K fd ps 0 ks g gV) (hx : ∀ σ, PassesAt CX X σ (E σ)) (hk : PK X kws tk)
    (h0 : (backToKw q (keywordEach kws X.env)).all (·.1.isSome) = true := by rfl) (hks : (backToKw q (keywordEach kws X.env)).filterMap (·.1) = ks := by rfl) (h1 : (x == ("__debug__" : Str)) = false := by decide)
    (h3 : ((backTo q (starEach [] X.env)).any (·.1) || (backToKw q (keywordEach kws X.env)).any (·.1.isNone)) = false := by rfl) : PE X (.Call (.Name x p) [] kws q) (tCallNS 0 ks.length sp gV E tNil tk) := by
  constructor
  intro pins s σ H Q I h
  refine wpAny_Call_Name_kw (ld_glob I gl mf (PySem.W.callWith_KW0 (h₀ := X.base) I.ok.mod.kin kf h0 (thn (hk.run q pins s σ H _ I h) fun ws s2 ⟨zs, H2, I2, rz, l1, l2, y2⟩ => ⟨I2.kIn, ?_⟩) h3) h1)
  rw [hks]
  exact runK F hr hb (hx σ) I2 .nil rz rfl l2 y2
end
theorem calnS {σ : L2.St} {H : Hp} {Q : VK} {t tk : TA} {sp : Sp} {gV : List V → List V → List V} {E : L2.St → XK} {n m : Nat} (h : t σ H fun vs H1 => tk σ H1 fun zs H2 => vs.length = n ∧ zs.length = m ∧ sp (gV vs zs) H2 Q (E σ)) : tCallNS n m sp gV E t tk σ H Q := h
end HS
namespace WK13
open PySem PySem.Spec PyProof.Rows L2
def HS.oI : Option Int → V
  | none => .non
  | some z => .int z
/-- the source of draws at s, its digits at d; n: at most so many mixed draws so far -/
def Src (H : Hp) (s d : Addr) (n : Nat) : Prop := s ≠ d ∧ ∃ (gs : List Int) (l m c : Int), H s = some (.lst [.ref d, .int l, .int m, .int c]) ∧ H d = some (.lst (gs.map V.int)) ∧ (∀ x ∈ gs, 0 ≤ x) ∧ gs.length ≤ 63 ∧ 0 ≤ l ∧ 0 ≤ m ∧ m < 2 ^ 61 ∧ 0 ≤ c ∧ c ≤ n
/-- lengths of chapters -/
def Book (ls : List Int) : Prop := ∀ x ∈ ls, 1 ≤ x ∧ x < 10 ^ 30
theorem Src.keep {H H' : Hp} {s d : Addr} {n : Nat} (h : Src H s d n) (e1 : H' s = H s) (e2 : H' d = H d) : Src H' s d n := by
  obtain ⟨hsd, gs, l, m, c, h1, h2, h3⟩ := h
  exact ⟨hsd, gs, l, m, c, by rw [e1]; exact h1, by rw [e2]; exact h2, h3⟩
theorem Src.new {H : Hp} {s d p : Addr} {n : Nat} {o : HO} (h : Src H s d n) (hp : H p = none) : Src (upd H p o) s d n := by
  obtain ⟨hsd, gs, l, m, c, h1, h2, h3⟩ := h
  exact ⟨hsd, gs, l, m, c, by rw [upd_ne (ne_of_none h1 hp)]; exact h1, by rw [upd_ne (ne_of_none h2 hp)]; exact h2, h3⟩
theorem Src.put {H : Hp} {s d p : Addr} {n : Nat} {o : HO} (h : Src H s d n) (e1 : p ≠ s) (e2 : p ≠ d) : Src (upd H p o) s d n := by
  obtain ⟨hsd, gs, l, m, c, h1, h2, h3⟩ := h
  exact ⟨hsd, gs, l, m, c, by rw [upd_ne e1.symm]; exact h1, by rw [upd_ne e2.symm]; exact h2, h3⟩
theorem Src.ne1 {H : Hp} {s d p : Addr} {n : Nat} (h : Src H s d n) (hp : H p = none) : p ≠ s := by
  obtain ⟨hsd, gs, l, m, c, h1, h2, h3⟩ := h
  exact (ne_of_none h1 hp).symm
theorem Src.ne2 {H : Hp} {s d p : Addr} {n : Nat} (h : Src H s d n) (hp : H p = none) : p ≠ d := by
  obtain ⟨hsd, gs, l, m, c, h1, h2, h3⟩ := h
  exact (ne_of_none h2 hp).symm
theorem Src.up {H : Hp} {s d : Addr} {n m : Nat} (h : Src H s d n) (e : n ≤ m) : Src H s d m := by
  obtain ⟨hsd, gs, l, m', c, h1, h2, h3, h4, h5, h6, h7, h8, h9⟩ := h
  exact ⟨hsd, gs, l, m', c, h1, h2, h3, h4, h5, h6, h7, h8, by omega⟩
/-- the page count of an edition -/
def pcount (ls : List Int) (j : Int) : Int := (ls.map fun x => (x + j - 1) / j).sum
theorem pcount_nil (j : Int) : pcount [] j = 0 := rfl
theorem pcount_cons (x : Int) (ls : List Int) (j : Int) : pcount (x :: ls) j = (x + j - 1) / j + pcount ls j := by unfold pcount; rw [List.map_cons, List.sum_cons]
theorem pcount_append (xs ys : List Int) (j : Int) : pcount (xs ++ ys) j = pcount xs j + pcount ys j := by unfold pcount; rw [List.map_append, List.sum_append]
/-- a page for each chapter, and one more for each full page of its other lines -/
theorem pcount_less1 {j : Int} (hj : 1 ≤ j) : ∀ ls : List Int, (ls.length : Int) + (ls.map fun x => (x - 1) / j).sum = pcount ls j
  | [] => rfl
  | x :: r => by
    have e : (x + j - 1) / j = (x - 1) / j + 1 := by rw [show x + j - 1 = (x - 1) + j * 1 by omega, Int.add_mul_ediv_left _ _ (by omega)]
    rw [pcount_cons, ← pcount_less1 hj r, e, List.length_cons, List.map_cons, List.sum_cons]
    push_cast
    omega
theorem pcount_take {ls : List Int} {i : Nat} {x : Int} (j : Int) (h : ls[i]? = some x) : pcount (ls.take (i + 1)) j = pcount (ls.take i) j + (x + j - 1) / j := by
  obtain ⟨h1, h2⟩ := List.getElem?_eq_some_iff.mp h
  rw [List.take_add_one, h, pcount_append]
  show _ + pcount [x] j = _
  rw [pcount_cons, pcount_nil]; omega
theorem ceil_pos {x j : Int} (hx : 1 ≤ x) (hj : 1 ≤ j) : 1 ≤ (x + j - 1) / j := by
  rw [Int.le_ediv_iff_mul_le (by omega)]; omega
theorem pcount_len {ls : List Int} {j : Int} (hp : ∀ x ∈ ls, 1 ≤ x) (hj : 1 ≤ j) : (ls.length : Int) ≤ pcount ls j := by
  induction ls with
  | nil => exact Int.le_refl 0
  | cons x r ih =>
    rw [pcount_cons, List.length_cons]
    have := ceil_pos (hp x List.mem_cons_self) hj
    have := ih fun y hy => hp y (List.mem_cons_of_mem _ hy)
    omega
theorem pcount_pos {ls : List Int} {j : Int} (hp : ∀ x ∈ ls, 1 ≤ x) (hj : 1 ≤ j) : 0 ≤ pcount ls j := by
  have := pcount_len hp hj; omega
theorem take_all {ls : List Int} {P : Int → Prop} (h : ∀ x ∈ ls, P x) (n : Nat) : ∀ x ∈ ls.take n, P x := fun x hx => h x (List.mem_of_mem_take hx)
theorem Src.same {H H' : Hp} {s d : Addr} {n : Nat} (h : Src H s d n) (k : HS.Keep (fun _ => False) H H') : Src H' s d n := by
  obtain ⟨hsd, gs, l, m, c, h1, h2, h3⟩ := h
  exact ⟨hsd, gs, l, m, c, k _ _ h1 id, k _ _ h2 id, h3⟩
theorem sum_book {ls : List Int} (h : Book ls) : (ls.length : Int) ≤ ls.sum ∧ ls.sum ≤ ls.length * (10 ^ 30) := by
  induction ls with
  | nil => exact ⟨Int.le_refl _, Int.le_refl _⟩
  | cons x r ih =>
    have := ih fun y hy => h y (List.mem_cons_of_mem _ hy)
    have := h x List.mem_cons_self
    rw [List.sum_cons, List.length_cons]
    push_cast
    omega
/-! Sums of ceilings. -/
theorem ceil_le {x j q : Int} (hj : 1 ≤ j) : (x + j - 1) / j ≤ q ↔ x ≤ q * j := by
  rw [← Int.lt_add_one_iff, Int.ediv_lt_iff_lt_mul (by omega), Int.add_mul]
  omega
theorem ceil_up {x j : Int} (hj : 1 ≤ j) : x ≤ (x + j - 1) / j * j := (ceil_le hj).mp (Int.le_refl _)
theorem ceil_dn {x j : Int} (hj : 1 ≤ j) : (x + j - 1) / j * j ≤ x + j - 1 := Int.ediv_mul_le _ (by omega)
theorem ceil_nonneg {x j : Int} (hx : 0 ≤ x) (hj : 1 ≤ j) : 0 ≤ (x + j - 1) / j := Int.ediv_nonneg (by omega) (by omega)
theorem pcount_up (ls : List Int) {j : Int} (hj : 1 ≤ j) : ls.sum ≤ pcount ls j * j := by
  induction ls with
  | nil => rw [pcount_nil]; simp
  | cons x r ih =>
    rw [pcount_cons, List.sum_cons, Int.add_mul]
    have := ceil_up (x := x) hj
    omega
theorem pcount_ceil (ls : List Int) {j : Int} (hj : 1 ≤ j) : (ls.sum + j - 1) / j ≤ pcount ls j := (ceil_le hj).mpr (pcount_up ls hj)
theorem pcount_dn (ls : List Int) {j : Int} (hj : 1 ≤ j) : (pcount ls j - ls.length) * j ≤ ls.sum - ls.length := by
  induction ls with
  | nil => rw [pcount_nil]; simp
  | cons x r ih =>
    rw [pcount_cons, List.sum_cons, List.length_cons]
    have := ceil_dn (x := x) hj
    have e : ((x + j - 1) / j + pcount r j - ((r.length + 1 : Nat) : Int)) * j = (x + j - 1) / j * j - j + (pcount r j - r.length) * j := by
      rw [show ((x + j - 1) / j + pcount r j - ((r.length + 1 : Nat) : Int)) = ((x + j - 1) / j - 1) + (pcount r j - r.length) by push_cast; omega, Int.add_mul, Int.sub_mul, Int.one_mul]
    rw [e]
    push_cast
    omega
theorem pcount_most (ls : List Int) {j : Int} (hj : 1 ≤ j) : pcount ls j ≤ ls.length + (ls.sum - ls.length) / j := by
  have := (Int.le_ediv_iff_mul_le (by omega : 0 < j)).mpr (pcount_dn ls hj)
  omega
theorem pcount_anti {ls : List Int} {j k : Int} (hp : ∀ x ∈ ls, 1 ≤ x) (hj : 1 ≤ j) (hk : j ≤ k) : pcount ls k ≤ pcount ls j := by
  induction ls with
  | nil => exact Int.le_refl _
  | cons x r ih =>
    rw [pcount_cons, pcount_cons]
    have h1 := ih fun y hy => hp y (List.mem_cons_of_mem _ hy)
    have hx := hp x List.mem_cons_self
    have h2 : (x + k - 1) / k ≤ (x + j - 1) / j := (ceil_le (by omega)).mpr (Int.le_trans (ceil_up hj) (Int.mul_le_mul_of_nonneg_left hk (ceil_nonneg (by omega) hj)))
    omega
theorem pcount_mult {ls : List Int} {j m : Int} (hj : 1 ≤ j) (hm : 1 ≤ m) : pcount ls j ≤ m * pcount ls (j * m) := by
  have hjm : 1 ≤ j * m := by have := Int.mul_le_mul hj hm (by omega) (by omega); omega
  induction ls with
  | nil => rw [pcount_nil, pcount_nil, Int.mul_zero]; exact Int.le_refl _
  | cons x r ih =>
    rw [pcount_cons, pcount_cons, Int.mul_add]
    have h2 : (x + j - 1) / j ≤ m * ((x + j * m - 1) / (j * m)) := (ceil_le hj).mpr (by
      have := ceil_up (x := x) hjm
      rw [show m * ((x + j * m - 1) / (j * m)) * j = (x + j * m - 1) / (j * m) * (j * m) by rw [Int.mul_comm m, Int.mul_assoc, Int.mul_comm m j]]
      exact this)
    omega
theorem pcount_reverse (ls : List Int) (j : Int) : pcount ls.reverse j = pcount ls j := by
  induction ls with
  | nil => rfl
  | cons x r ih => rw [List.reverse_cons, pcount_append, ih, pcount_cons, pcount_cons, pcount_nil]; omega
theorem pcount_cut (ls : List Int) (n : Nat) (j : Int) : pcount (ls.take n) j + pcount (ls.drop n) j = pcount ls j := by
  rw [← pcount_append, List.take_append_drop]
theorem ceil_join {x y j : Int} (hj : 1 ≤ j) : (x + y + j - 1) / j ≤ (x + j - 1) / j + (y + j - 1) / j ∧ (x + j - 1) / j + (y + j - 1) / j ≤ (x + y + j - 1) / j + 1 := by
  have a1 := ceil_up (x := x) hj
  have a2 := ceil_dn (x := x) hj
  have b1 := ceil_up (x := y) hj
  have b2 := ceil_dn (x := y) hj
  have c1 := ceil_up (x := x + y) hj
  refine ⟨(ceil_le hj).mpr (by rw [Int.add_mul]; omega), ?_⟩
  generalize (x + j - 1) / j = p at *
  generalize (y + j - 1) / j = q at *
  generalize (x + y + j - 1) / j = r at *
  apply Int.le_of_lt_add_one
  apply Int.lt_of_not_ge
  intro h
  have h1 : (r + 2) * j ≤ (p + q) * j := Int.mul_le_mul_of_nonneg_right (by omega) (by omega)
  rw [Int.add_mul, Int.add_mul] at h1
  omega
theorem pcount_sum {ls : List Int} {j : Int} (hp : ∀ x ∈ ls, 1 ≤ x) (hl : (ls.length : Int) ≤ ls.sum) (hj : 1 ≤ j) : pcount ls j ≤ ls.sum := by
  have := pcount_most ls hj
  have := Int.ediv_le_self j (show 0 ≤ ls.sum - ls.length by omega)
  omega
/-- the law's draws: three numbers in a list at s; n: at most so many mixed draws so far -/
def Rng (H : Hp) (s : Addr) (n : Nat) : Prop := ∃ l m c : Int, H s = some (.lst [.int l, .int m, .int c]) ∧ 0 ≤ l ∧ 0 ≤ m ∧ m < 2 ^ 61 ∧ 0 ≤ c ∧ c ≤ n
section
variable {H H' : Hp} {s p : Addr} {n m : Nat} {o : HO}
theorem Rng.keep (h : Rng H s n) (e : H' s = H s) : Rng H' s n := by
  obtain ⟨l, m, c, h1, h2⟩ := h
  exact ⟨l, m, c, by rw [e]; exact h1, h2⟩
theorem Rng.new (h : Rng H s n) (hp : H p = none) : Rng (upd H p o) s n := by
  obtain ⟨l, m, c, h1, h2⟩ := h
  exact ⟨l, m, c, by rw [upd_ne (ne_of_none h1 hp)]; exact h1, h2⟩
theorem Rng.put (h : Rng H s n) (e : p ≠ s) : Rng (upd H p o) s n := by
  obtain ⟨l, m, c, h1, h2⟩ := h
  exact ⟨l, m, c, by rw [upd_ne e.symm]; exact h1, h2⟩
theorem Rng.ne (h : Rng H s n) (hp : H p = none) : p ≠ s := by
  obtain ⟨l, m, c, h1, h2⟩ := h
  exact (ne_of_none h1 hp).symm
theorem Rng.up (h : Rng H s n) (e : n ≤ m) : Rng H s m := by
  obtain ⟨l, m', c, h1, h2, h3, h4, h5, h6⟩ := h
  exact ⟨l, m', c, h1, h2, h3, h4, h5, by omega⟩
theorem Rng.same (h : Rng H s n) (k : HS.Keep (fun _ => False) H H') : Rng H' s n := by
  obtain ⟨l, m', c, h1, h2⟩ := h
  exact ⟨l, m', c, k _ _ h1 id, h2⟩
end
/-- lengths of chapters, up to T -/
def Lens (ls : List Int) (T : Int) : Prop := ∀ x ∈ ls, 1 ≤ x ∧ x ≤ T
theorem Lens.one {ls : List Int} {T : Int} (h : Lens ls T) : ∀ x ∈ ls, 1 ≤ x := fun x hx => (h x hx).1
theorem pow_up (i : Nat) : (2 : Int) ^ (200 * (i + 1)) < 2 ^ (200 * (i + 1 + 1)) := by
  have e : (2 : Int) ^ (200 * (i + 1 + 1)) = 2 ^ (200 * (i + 1)) * 2 ^ 200 := by rw [← Int.pow_add, show 200 * (i + 1) + 200 = 200 * (i + 1 + 1) by omega]
  have z : (0 : Int) < 2 ^ (200 * (i + 1)) := Int.pow_pos (by decide)
  rw [e]
  generalize (2 : Int) ^ (200 * (i + 1)) = P at z ⊢
  omega
theorem rng_step {d s : Int} {i : Nat} (h0 : 0 ≤ d) (h : d < 2 ^ (200 * (i + 1))) (s0 : 0 ≤ s) (s1 : s < 10 ^ 60) : 0 ≤ d * 10 ^ 60 + s ∧ d * 10 ^ 60 + s < 2 ^ (200 * (i + 1 + 1)) := by
  have e : (2 : Int) ^ (200 * (i + 1 + 1)) = 2 ^ (200 * (i + 1)) * 2 ^ 200 := by rw [← Int.pow_add, show 200 * (i + 1) + 200 = 200 * (i + 1 + 1) by omega]
  rw [e]
  generalize (2 : Int) ^ (200 * (i + 1)) = P at h ⊢
  omega
/-- some chapters -/
def Ls (H : Hp) (p : Addr) (ls : List Int) : Prop := H p = some (.lst (ls.map V.int))
theorem Rng.prs {H H' : Hp} {s : Addr} {n : Nat} {us : List V} {qs : List (Int × Int)} (S : Rng H s n) (k : HS.Keep (fun a => a = s) H H') (h : HS.Prs H us qs) : HS.Prs H' us qs := by
  obtain ⟨l0, m0, c0, hs0, _⟩ := S
  refine h.keep k fun v hv t' e' z' => ?_
  obtain ⟨i0, hi0⟩ := List.getElem?_of_mem hv
  obtain ⟨q, p, eq, _, hq⟩ := HS.Prs.at h hi0
  rw [eq] at e'
  cases e'
  rw [z', hs0] at hq
  cases hq
/-- the law's draws as one of the objects told -/
def RngO (n : Nat) : HO → Prop := fun o => ∃ l m c : Int, o = .lst [.int l, .int m, .int c] ∧ 0 ≤ l ∧ 0 ≤ m ∧ m < 2 ^ 61 ∧ 0 ≤ c ∧ c ≤ n
section
variable {H0 H H' : Hp} {S : Addr → Prop} {l : HS.WdL} {s : Addr} {n m : Nat}
theorem rng_o (h : Rng H s n) : ∃ o, H s = some o ∧ RngO n o := by
  obtain ⟨a, b, c, h1, h2⟩ := h
  exact ⟨_, h1, a, b, c, rfl, h2⟩
theorem wd_rng (h : Rng H s n) : HS.Wd H H (fun a => a = s) [(s, RngO n)] := by
  obtain ⟨o, h1, h2⟩ := rng_o h
  exact HS.Wd.one h1 h2 rfl
theorem wd_rngs {S : Addr → Prop} (h : Rng H s n) (hs : S s) : HS.Wd H H S [(s, RngO n)] := by
  obtain ⟨o, h1, h2⟩ := rng_o h
  exact HS.Wd.one h1 h2 hs
theorem _root_.HS.Wd.rng (W : HS.Wd H0 H S l) (i : Nat) (e : l[i]? = some (s, RngO n)) : Rng H s n := by
  obtain ⟨o, h, a, b, c, rfl, h2⟩ := W.get i e
  exact ⟨a, b, c, h, h2⟩
theorem _root_.HS.Wd.drawn (W : HS.Wd H0 H S l) (i : Nat) (e : l[i]? = some (s, RngO n)) (k : HS.Keep (fun a => a = s) H H') (r : Rng H' s m) : HS.Wd H0 H' S (l.set i (s, RngO m)) := by
  obtain ⟨o, h1, h2⟩ := rng_o r
  exact W.chg i e k h1 h2
theorem _root_.HS.Wd.rup (W : HS.Wd H0 H S l) (i : Nat) (e : l[i]? = some (s, RngO n)) (h : n ≤ m) : HS.Wd H0 H S (l.set i (s, RngO m)) :=
  W.weak i e fun o ⟨a, b, c, h1, h2, h3, h4, h5, h6⟩ => ⟨a, b, c, h1, h2, h3, h4, h5, by omega⟩
end
theorem none_ahead {ds : List PyData} {d : PyData} {j : Nat} (h : ∀ m < j, (ds[m]?.map fun z => PyData.eqv z d) = some false) : ∀ (m : Nat) (z : PyData), m < j → ds[m]? = some z → PyData.eqv z d = false := fun m z hm hz => by
  have e := h m hm
  rw [hz] at e
  exact Option.some.inj e
/-! Page counts of all sizes. -/
theorem perm_sum {xs ys : List Int} (p : xs.Perm ys) : xs.sum = ys.sum := by
  induction p with
  | nil => rfl
  | cons x _ ih => rw [List.sum_cons, List.sum_cons, ih]
  | swap x y l => simp only [List.sum_cons]; omega
  | trans _ _ a b => exact a.trans b
theorem pcount_perm {xs ys : List Int} (p : xs.Perm ys) (j : Int) : pcount xs j = pcount ys j := by
  unfold pcount
  exact perm_sum (p.map _)
/-- the page counts of the sizes 1 to T -/
def tabl (ls : List Int) (T : Nat) : List Int := (List.range T).map fun (i : Nat) => pcount ls ((i : Int) + 1)
theorem tabl_len (ls : List Int) (T : Nat) : (tabl ls T).length = T := by unfold tabl; rw [List.length_map, List.length_range]
theorem tabl_at {ls : List Int} {T i : Nat} (h : i < T) : (tabl ls T)[i]? = some (pcount ls ((i : Int) + 1)) := by
  unfold tabl; rw [List.getElem?_map, List.getElem?_range h]; rfl
theorem tabl_perm {xs ys : List Int} (p : xs.Perm ys) (T : Nat) : tabl xs T = tabl ys T := by
  unfold tabl
  exact List.map_congr_left fun i _ => pcount_perm p _
theorem tabl_take (ls : List Int) {i T : Nat} (h : i ≤ T) : (tabl ls T).take i = tabl ls i := by
  unfold tabl
  rw [← List.map_take, List.take_range, Nat.min_eq_left h]
theorem tabl_succ (ls : List Int) (T : Nat) : tabl ls (T + 1) = tabl ls T ++ [pcount ls ((T : Int) + 1)] := by
  unfold tabl; rw [List.range_succ, List.map_append]; rfl
theorem ceil_small {x j : Int} (h1 : 1 ≤ x) (h2 : x ≤ j) : (x + j - 1) / j = 1 := by
  have a : (x + j - 1) / j ≤ 1 := (ceil_le (by omega)).mpr (by omega)
  have b := ceil_pos h1 (by omega : 1 ≤ j)
  omega
theorem ceil_next {j : Int} (h : 1 ≤ j) : (j + 1 + j - 1) / j = 2 := by
  rw [show j + 1 + j - 1 = j * 2 by omega, Int.mul_ediv_cancel_left _ (by omega)]
theorem pcount_one {ls : List Int} {j : Int} (h : ∀ x ∈ ls, 1 ≤ x ∧ x ≤ j) : pcount ls j = ls.length := by
  induction ls with
  | nil => rfl
  | cons x r ih =>
    rw [pcount_cons, ceil_small (h x List.mem_cons_self).1 (h x List.mem_cons_self).2, ih fun y hy => h y (List.mem_cons_of_mem _ hy), List.length_cons]
    push_cast; omega
/-- the chapters of size + 1 lines, from the count of the size and the longer chapters -/
theorem pcount_split : ∀ {ls : List Int} {s : Int}, 1 ≤ s → (∀ x ∈ ls, 1 ≤ x) →
    pcount ls s = pcount (ls.filter fun x => decide (s + 1 < x)) s + ((ls.length : Int) - ((ls.filter fun x => decide (s + 1 < x)).length : Int)) + (ls.count (s + 1) : Int) ∧
    (ls.count (s + 1) : Int) ≤ (ls.length : Int) - ((ls.filter fun x => decide (s + 1 < x)).length : Int)
  | [], s, _, _ => ⟨rfl, by simp⟩
  | x :: r, s, hs, h => by
    obtain ⟨i1, i2⟩ := pcount_split (s := s) hs fun y hy => h y (List.mem_cons_of_mem _ hy)
    have hx := h x List.mem_cons_self
    rw [pcount_cons]
    by_cases c1 : s + 1 < x
    · rw [List.filter_cons_of_pos (by simp; omega), List.count_cons_of_ne (by omega), pcount_cons, List.length_cons, List.length_cons]
      push_cast; omega
    · rw [List.filter_cons_of_neg (by simp; omega), List.length_cons]
      by_cases c2 : x = s + 1
      · subst c2
        rw [List.count_cons_self, ceil_next hs]
        push_cast; omega
      · rw [List.count_cons_of_ne (by omega), ceil_small hx (by omega)]
        push_cast; omega
theorem found_is {ls : List Int} {s : Int} (hs : 1 ≤ s) (h : ∀ x ∈ ls, 1 ≤ x) :
    pcount ls s - pcount (HS.above ls (s + 1)) s - ((ls.length : Int) - ((HS.above ls (s + 1)).length : Int)) = (ls.count (s + 1) : Int) ∧ (ls.count (s + 1) : Int) ≤ (ls.length : Int) - ((HS.above ls (s + 1)).length : Int) := by
  obtain ⟨a, b⟩ := pcount_split (ls := HS.desc ls) hs fun x hx => h x (HS.desc_mem.mp hx)
  rw [pcount_perm (HS.desc_perm ls), HS.desc_len, HS.desc_count] at a
  rw [HS.desc_len, HS.desc_count] at b
  unfold HS.above
  omega
theorem counted_eq {x w : Int} (h : 1 ≤ w) : (x - 1) / w + 1 = (x + w - 1) / w := by
  rw [show x + w - 1 = (x - 1) + w * 1 by omega, Int.add_mul_ediv_left _ _ (by omega)]
theorem pcount_le_sum {ls : List Int} {j : Int} (h : ∀ x ∈ ls, 1 ≤ x) (hj : 1 ≤ j) : pcount ls j ≤ ls.sum := by
  induction ls with
  | nil => exact Int.le_refl _
  | cons x r ih =>
    rw [pcount_cons, List.sum_cons]
    have h1 := ih fun y hy => h y (List.mem_cons_of_mem _ hy)
    have hx := h x List.mem_cons_self
    have : (x + j - 1) / j ≤ x := (ceil_le hj).mpr (by have := Int.mul_le_mul_of_nonneg_left hj (show 0 ≤ x by omega); omega)
    omega
theorem lens_sum {ls : List Int} {T : Int} (h : Lens ls T) : 0 ≤ ls.sum ∧ ls.sum ≤ ls.length * T := by
  induction ls with
  | nil => exact ⟨Int.le_refl _, by simp⟩
  | cons x r ih =>
    obtain ⟨a, b⟩ := ih fun y hy => h y (List.mem_cons_of_mem _ hy)
    have hx := h x List.mem_cons_self
    rw [List.sum_cons, List.length_cons]
    push_cast
    rw [Int.add_mul]
    omega
theorem tabl_mem {ls : List Int} {T : Nat} {x : Int} (h : ∀ x ∈ ls, 1 ≤ x) (hx : x ∈ tabl ls T) : 0 ≤ x ∧ x ≤ ls.sum := by
  unfold tabl at hx
  obtain ⟨i, _, rfl⟩ := List.mem_map.mp hx
  exact ⟨pcount_pos h (by omega), pcount_le_sum h (by omega)⟩
theorem map_range_set {α : Type} {f g : Nat → α} {n i : Nat} (hi : i < n) (h : ∀ k, k ≠ i → f k = g k) : ((List.range n).map f).set i (g i) = (List.range n).map g := by
  apply List.ext_getElem?
  intro k
  rw [List.getElem?_set, List.length_map, List.length_range, List.getElem?_map, List.getElem?_map]
  by_cases e : i = k
  · subst e
    rw [if_pos rfl, if_pos hi, List.getElem?_range hi]
    rfl
  · rw [if_neg e]
    by_cases hk : k < n
    · rw [List.getElem?_range hk]
      show some (f k) = some (g k)
      rw [h k (fun z => e z.symm)]
    · rw [List.getElem?_eq_none (by rw [List.length_range]; omega)]
      rfl
theorem pcount_unit (ls : List Int) : pcount ls 1 = ls.sum := by
  induction ls with
  | nil => rfl
  | cons x r ih => rw [pcount_cons, ih, List.sum_cons, show x + 1 - 1 = x by omega, Int.ediv_one]
theorem tabl_vals (ls : List Int) (m : Int) : ((List.range m.toNat).map fun (i : Nat) => V.int (pcount ls ((i : Int) + 1))) = (tabl ls m.toNat).map V.int := by
  unfold tabl; rw [List.map_map]; rfl
/-- the first place of a length below 1 -/
def badAt : List Int → Option Nat
  | [] => none
  | x :: r => if x < 1 then some 0 else (badAt r).map (· + 1)
theorem badAt_none : ∀ {ls : List Int}, (∀ x ∈ ls, 1 ≤ x) → badAt ls = none
  | [], _ => rfl
  | x :: r, h => by
    have h1 := h x List.mem_cons_self
    rw [badAt, if_neg (by omega), badAt_none fun y hy => h y (List.mem_cons_of_mem _ hy)]; rfl
theorem badAt_some : ∀ {ls : List Int}, (∃ x ∈ ls, x < 1) → ∃ i, badAt ls = some i
  | [], h => by obtain ⟨x, hx, _⟩ := h; cases hx
  | x :: r, h => by
    rw [badAt]
    by_cases h1 : x < 1
    · exact ⟨0, by rw [if_pos h1]⟩
    · obtain ⟨y, hy, h2⟩ := h
      rcases List.mem_cons.mp hy with e | hy
      · subst e; exact absurd h2 h1
      · obtain ⟨i, e⟩ := badAt_some ⟨y, hy, h2⟩
        exact ⟨i + 1, by rw [if_neg h1, e]; rfl⟩
/-- the places of the lengths below 1 -/
def badsFrom : Nat → List Int → List Int
  | _, [] => []
  | k, x :: r => if x < 1 then (k : Int) :: badsFrom (k + 1) r else badsFrom (k + 1) r
theorem badsFrom_snoc : ∀ (k : Nat) (ls : List Int) (x : Int), badsFrom k (ls ++ [x]) = badsFrom k ls ++ (if x < 1 then [((k + ls.length : Nat) : Int)] else [])
  | k, [], x => by
    show badsFrom k [x] = _
    rw [badsFrom, badsFrom, badsFrom]
    show _ = if x < 1 then [((k + 0 : Nat) : Int)] else []
    rw [Nat.add_zero]
  | k, y :: r, x => by
    rw [List.cons_append, badsFrom, badsFrom, badsFrom_snoc (k + 1) r x, List.length_cons, show k + 1 + r.length = k + (r.length + 1) by omega]
    split <;> rfl
theorem badsFrom_len (k : Nat) : ∀ ls : List Int, (badsFrom k ls).length ≤ ls.length
  | [] => Nat.le_refl _
  | x :: r => by
    have := badsFrom_len (k + 1) r
    rw [badsFrom]
    split
    · rw [List.length_cons, List.length_cons]; omega
    · rw [List.length_cons]; omega
theorem badsFrom_head : ∀ (k : Nat) (ls : List Int) (i : Nat), badAt ls = some i → (badsFrom k ls)[0]? = some ((k + i : Nat) : Int)
  | k, x :: r, i, h => by
    rw [badAt] at h
    rw [badsFrom]
    by_cases h1 : x < 1
    · rw [if_pos h1] at h ⊢
      injection h with h; subst h; rfl
    · rw [if_neg h1] at h ⊢
      obtain ⟨j, e, rfl⟩ := Option.map_eq_some_iff.mp h
      rw [badsFrom_head (k + 1) r j e, show k + 1 + j = k + (j + 1) by omega]
theorem badsFrom_none : ∀ (k : Nat) (ls : List Int), badAt ls = none → badsFrom k ls = []
  | _, [], _ => rfl
  | k, x :: r, h => by
    rw [badAt] at h
    rw [badsFrom]
    by_cases h1 : x < 1
    · rw [if_pos h1] at h; cases h
    · rw [if_neg h1, Option.map_eq_none_iff] at h
      rw [if_neg h1]
      exact badsFrom_none (k + 1) r h
abbrev bin (n k : Nat) : Nat := HS.binC n k
theorem bin_0 (n : Nat) : bin n 0 = 1 := HS.binC_0 n
theorem bin_above (n k : Nat) (h : n < k) : bin n k = 0 := HS.binC_above n k h
/-! Lists of n numbers from 1 to m with a sum: counted one by one, and by taking away and giving back. -/
/-- how many lists of n numbers from 1 to m have the sum t -/
def bnd (m : Nat) : Nat → Int → Int
  | 0, t => if t = 0 then 1 else 0
  | n + 1, t => ((List.range m).map fun (x : Nat) => bnd m n (t - ((x : Int) + 1))).sum
/-- how many lists of n numbers from 1 on have the sum t -/
def cpN : Nat → Nat → Int
  | 0, 0 => 1
  | 0, _ + 1 => 0
  | _ + 1, 0 => 0
  | n + 1, t + 1 => cpN (n + 1) t + cpN n t
theorem cpN_0 (t : Nat) : cpN 0 t = if t = 0 then 1 else 0 := by cases t <;> rfl
def cps (n : Nat) (t : Int) : Int := if t < 0 then 0 else cpN n t.toNat
theorem cps_0 (t : Int) : cps 0 t = if t = 0 then 1 else 0 := by
  unfold cps
  by_cases c : t < 0
  · rw [if_pos c, if_neg (by omega)]
  · rw [if_neg c, cpN_0]
    by_cases z : t = 0
    · rw [if_pos (by omega), if_pos z]
    · rw [if_neg (by omega), if_neg z]
theorem cps_succ (n : Nat) (t : Int) : cps (n + 1) t = cps (n + 1) (t - 1) + cps n (t - 1) := by
  unfold cps
  by_cases c : t - 1 < 0
  · rw [if_pos c, if_pos c]
    by_cases d : t < 0
    · rw [if_pos d]; rfl
    · rw [if_neg d, show t.toNat = 0 by omega]; rfl
  · rw [if_neg c, if_neg c, if_neg (by omega), show t.toNat = (t - 1).toNat + 1 by omega]
    rfl
theorem cpN_low : ∀ (n t : Nat), t < n → cpN n t = 0
  | 0, _, h => absurd h (Nat.not_lt_zero _)
  | _ + 1, 0, _ => rfl
  | n + 1, t + 1, h => by
    show cpN (n + 1) t + cpN n t = 0
    rw [cpN_low (n + 1) t (by omega), cpN_low n t (by omega)]; rfl
theorem cps_low {n : Nat} {t : Int} (h : t < n) : cps n t = 0 := by
  unfold cps
  by_cases c : t < 0
  · rw [if_pos c]
  · rw [if_neg c]; exact cpN_low _ _ (by omega)
theorem cpN_bin : ∀ (n t : Nat), cpN (n + 1) (t + 1) = (bin t n : Nat)
  | n, 0 => by
    show cpN (n + 1) 0 + cpN n 0 = _
    cases n with
    | zero => rfl
    | succ n => rfl
  | n, t + 1 => by
    show cpN (n + 1) (t + 1) + cpN n (t + 1) = _
    rw [cpN_bin n t]
    cases n with
    | zero => show ((bin t 0 : Nat) : Int) + 0 = _; rw [bin_0, bin_0]; rfl
    | succ n =>
      rw [cpN_bin n t]
      show _ = ((bin t n + bin t (n + 1) : Nat) : Int)
      rw [Int.natCast_add, Int.add_comm]
/-- the program's number: terms from 1 on -/
theorem cps_bin {n : Nat} {t : Int} (h : 1 ≤ t) : cps (n + 1) t = (bin (t - 1).toNat n : Nat) := by
  unfold cps
  rw [if_neg (by omega), show t.toNat = (t - 1).toNat + 1 by omega, cpN_bin]
theorem cpN_nonneg : ∀ (n t : Nat), 0 ≤ cpN n t
  | 0, t => by rw [cpN_0]; split <;> decide
  | _ + 1, 0 => Int.le_refl _
  | n + 1, t + 1 => Int.add_nonneg (cpN_nonneg (n + 1) t) (cpN_nonneg n t)
theorem cps_nonneg (n : Nat) (t : Int) : 0 ≤ cps n t := by
  unfold cps; split
  · exact Int.le_refl _
  · exact cpN_nonneg _ _
theorem sum_int_append (xs ys : List Int) : (xs ++ ys).sum = xs.sum + ys.sum := List.sum_append
/-- sums over windows -/
theorem window (f : Int → Int) : ∀ (m : Nat) (t : Int), ((List.range m).map fun (x : Nat) => f (t - ((x : Int) + 1))).sum - ((List.range m).map fun (x : Nat) => f (t - 1 - ((x : Int) + 1))).sum = f (t - 1) - f (t - 1 - m)
  | 0, t => by simp
  | m + 1, t => by
    have ih := window f m t
    rw [List.range_succ, List.map_append, List.map_append, sum_int_append, sum_int_append]
    simp only [List.map_cons, List.map_nil, List.sum_cons, List.sum_nil]
    rw [show t - ((m : Int) + 1) = t - 1 - m by omega, show t - 1 - ((m + 1 : Nat) : Int) = t - 1 - ((m : Int) + 1) by push_cast; omega]
    omega
theorem bnd_step (m n : Nat) (t : Int) : bnd m (n + 1) t = bnd m (n + 1) (t - 1) + (bnd m n (t - 1) - bnd m n (t - 1 - m)) := by
  have := window (bnd m n) m t
  show ((List.range m).map fun (x : Nat) => bnd m n (t - ((x : Int) + 1))).sum = ((List.range m).map fun (x : Nat) => bnd m n (t - 1 - ((x : Int) + 1))).sum + _
  omega
theorem sum_zero {α : Type} (f : α → Int) : ∀ xs : List α, (∀ x ∈ xs, f x = 0) → (xs.map f).sum = 0
  | [], _ => rfl
  | x :: r, h => by
    rw [List.map_cons, List.sum_cons, h x List.mem_cons_self, sum_zero f r fun y hy => h y (List.mem_cons_of_mem _ hy)]; rfl
theorem bnd_low (m : Nat) : ∀ {n : Nat} {t : Int}, t < n → bnd m n t = 0
  | 0, t, h => if_neg (by omega)
  | n + 1, t, h => sum_zero _ _ fun x _ => bnd_low m (n := n) (by omega)
def sgn (j : Nat) : Int := if j % 2 = 0 then 1 else -1
theorem sgn_succ (j : Nat) : sgn (j + 1) = - sgn j := by
  unfold sgn
  by_cases c : j % 2 = 0
  · rw [if_pos c, if_neg (by omega)]
  · rw [if_neg c, if_pos (by omega)]; rfl
/-- what is taken away and given back, up to N times -/
def alt (m N n : Nat) (t : Int) : Int := ((List.range N).map fun (j : Nat) => sgn j * (bin n j : Nat) * cps n (t - (j : Int) * m)).sum
theorem alt_succ (m N n : Nat) (t : Int) : alt m (N + 1) n t = alt m N n t + sgn N * (bin n N : Nat) * cps n (t - (N : Int) * m) := by
  unfold alt
  rw [List.range_succ, List.map_append, sum_int_append]
  simp
theorem alt_more (m n : Nat) (t : Int) (N : Nat) : ∀ k, (∀ j, N ≤ j → bin n j = 0 ∨ cps n (t - (j : Int) * m) = 0) → alt m (N + k) n t = alt m N n t
  | 0, _ => rfl
  | k + 1, h => by
    rw [← Nat.add_assoc, alt_succ, alt_more m n t N k h]
    rcases h (N + k) (by omega) with z | z
    · rw [z]; simp
    · rw [z, Int.mul_zero, Int.add_zero]
theorem alt_full (m n : Nat) (t : Int) {N : Nat} (h : n + 1 ≤ N) : alt m N n t = alt m (n + 1) n t := by
  obtain ⟨k, rfl⟩ : ∃ k, N = n + 1 + k := ⟨N - (n + 1), by omega⟩
  exact alt_more m n t (n + 1) k fun j hj => .inl (bin_above n j (by omega))
/-- the step of the alternating sums -/
theorem alt_diff (m n : Nat) (t : Int) : ∀ N, alt m (N + 1) (n + 1) t = alt m (N + 1) (n + 1) (t - 1) + (alt m (N + 1) n (t - 1) - alt m N n (t - 1 - m))
  | 0 => by
    have e0 : ∀ (n : Nat) (t : Int), alt m (0 + 1) n t = cps n t := fun n t => by
      rw [alt_succ]
      unfold alt
      rw [bin_0]
      simp [sgn]
    have e1 : alt m 0 n (t - 1 - m) = 0 := rfl
    rw [e0, e0, e0, e1, cps_succ n t, Int.sub_zero]
  | N + 1 => by
    have ih := alt_diff m n t N
    rw [alt_succ m (N + 1) (n + 1) t, alt_succ m (N + 1) (n + 1) (t - 1), alt_succ m (N + 1) n (t - 1), alt_succ m N n (t - 1 - m), ih]
    have e1 : t - 1 - (m : Int) - (N : Int) * m = t - 1 - ((N + 1 : Nat) : Int) * m := by push_cast; rw [Int.add_mul]; omega
    have e2 : t - ((N + 1 : Nat) : Int) * m - 1 = t - 1 - ((N + 1 : Nat) : Int) * m := by omega
    rw [e1, cps_succ n (t - ((N + 1 : Nat) : Int) * m), e2, sgn_succ]
    have b : bin (n + 1) (N + 1) = bin n N + bin n (N + 1) := rfl
    rw [b, Int.natCast_add]
    generalize cps (n + 1) (t - 1 - ((N + 1 : Nat) : Int) * m) = u
    generalize cps n (t - 1 - ((N + 1 : Nat) : Int) * m) = v
    generalize ((bin n N : Nat) : Int) = p
    generalize ((bin n (N + 1) : Nat) : Int) = q
    generalize sgn N = s
    have : -s * (p + q) * (u + v) = -s * (p + q) * u + -s * q * v - s * p * v := by
      rw [Int.mul_add, Int.mul_add (-s) p q, Int.add_mul, Int.add_mul, Int.neg_mul s p, Int.neg_mul (s * p) v]; omega
    omega
theorem alt_low (m N n : Nat) {t : Int} (h : t < n) : alt m N n t = 0 := by
  refine sum_zero _ _ fun j _ => ?_
  have : (0 : Int) ≤ (j : Int) * m := Int.mul_nonneg (by omega) (by omega)
  rw [cps_low (by omega), Int.mul_zero]
theorem bnd_alt (m : Nat) : ∀ (n : Nat) (t : Int), bnd m n t = alt m (n + 1) n t
  | 0, t => by
    unfold alt
    show (if t = 0 then (1 : Int) else 0) = ((List.range 1).map _).sum
    rw [List.range_one]
    simp only [List.map_cons, List.map_nil, List.sum_cons, List.sum_nil]
    rw [cps_0, bin_0]
    simp [sgn]
  | n + 1, t => by
    have key : ∀ (k : Nat) (t : Int), t < k → bnd m (n + 1) t = alt m (n + 2) (n + 1) t := by
      intro k
      induction k with
      | zero => intro t h; rw [bnd_low m (by omega), alt_low m _ _ (by omega)]
      | succ k ih =>
        intro t h
        rw [bnd_step, alt_diff m n t (n + 1), ih (t - 1) (by omega), bnd_alt m n (t - 1), bnd_alt m n (t - 1 - m), alt_full m n (t - 1) (N := n + 1 + 1) (by omega)]
    exact key (t.toNat + 1) t (by omega)
/-- the program's sum -/
theorem bnd_sum (m n : Nat) (t : Int) (N : Nat) (h : ∀ j : Nat, N ≤ j → t - (j : Int) * m < n) : alt m N n t = bnd m n t := by
  rw [bnd_alt]
  have h1 := alt_more m n t N (n + 1) fun j hj => .inr (cps_low (h j hj))
  rw [← h1]
  exact alt_full m n t (by omega)
theorem sum_flip (f : Nat → Int) : ∀ m : Nat, ((List.range m).map f).sum = ((List.range m).map fun x => f (m - 1 - x)).sum := by
  intro m
  induction m generalizing f with
  | zero => rfl
  | succ m ih =>
    rw [List.range_succ_eq_map, List.map_cons, List.sum_cons, List.map_map, ← List.range_succ_eq_map, List.range_succ, List.map_append, sum_int_append]
    have := ih (fun x => f (x + 1))
    have e : ((List.range m).map fun x => f (m + 1 - 1 - x)) = ((List.range m).map fun x => f (m - 1 - x + 1)) := List.map_congr_left fun x hx => by
      have := List.mem_range.mp hx
      rw [show m + 1 - 1 - x = m - 1 - x + 1 by omega]
    rw [e, ← this]
    simp only [List.map_cons, List.map_nil, List.sum_cons, List.sum_nil]
    rw [show m + 1 - 1 - m = 0 by omega]
    show f 0 + ((List.range m).map (f ∘ Nat.succ)).sum = ((List.range m).map fun x => f (x + 1)).sum + (f 0 + 0)
    have e2 : (List.range m).map (f ∘ Nat.succ) = (List.range m).map fun x => f (x + 1) := rfl
    rw [e2]; omega
theorem bnd_flip (m : Nat) : ∀ (n : Nat) (t : Int), bnd m n t = bnd m n ((n : Int) * (m + 1) - t)
  | 0, t => by
    show (if t = 0 then (1 : Int) else 0) = if ((0 : Nat) : Int) * (m + 1) - t = 0 then 1 else 0
    by_cases c : t = 0
    · rw [if_pos c, if_pos (by omega)]
    · rw [if_neg c, if_neg (by omega)]
  | n + 1, t => by
    show ((List.range m).map fun (x : Nat) => bnd m n (t - ((x : Int) + 1))).sum = ((List.range m).map fun (x : Nat) => bnd m n (((n + 1 : Nat) : Int) * (m + 1) - t - ((x : Int) + 1))).sum
    rw [sum_flip]
    congr 1
    refine List.map_congr_left fun x hx => ?_
    have := List.mem_range.mp hx
    rw [bnd_flip m n (t - (((m - 1 - x : Nat) : Int) + 1))]
    congr 1
    push_cast
    rw [Int.add_mul, Int.one_mul]
    omega
theorem bnd_nonneg (m : Nat) : ∀ (n : Nat) (t : Int), 0 ≤ bnd m n t
  | 0, t => by show 0 ≤ (if t = 0 then (1 : Int) else 0); split <;> decide
  | n + 1, t => by
    have : ∀ xs : List Nat, 0 ≤ (xs.map fun (x : Nat) => bnd m n (t - ((x : Int) + 1))).sum := fun xs => by
      induction xs with
      | nil => exact Int.le_refl _
      | cons x r ih => rw [List.map_cons, List.sum_cons]; exact Int.add_nonneg (bnd_nonneg m n _) ih
    exact this _
theorem bnd_high (m : Nat) {n : Nat} {t : Int} (h : (n : Int) * m < t) : bnd m n t = 0 := by
  rw [bnd_flip]
  refine bnd_low m ?_
  rw [Int.mul_add, Int.mul_one]
  omega
theorem sum_pos_mem {α : Type} (f : α → Int) : ∀ (xs : List α) (x : α), x ∈ xs → (∀ y ∈ xs, 0 ≤ f y) → 0 < f x → 0 < (xs.map f).sum
  | y :: r, x, hx, h, hp => by
    have hr : 0 ≤ (r.map f).sum := by
      have : ∀ zs : List α, (∀ y ∈ zs, 0 ≤ f y) → 0 ≤ (zs.map f).sum := fun zs => by
        induction zs with
        | nil => intro _; exact Int.le_refl _
        | cons z s ih => intro g; rw [List.map_cons, List.sum_cons]; exact Int.add_nonneg (g z List.mem_cons_self) (ih fun w hw => g w (List.mem_cons_of_mem _ hw))
      exact this r fun w hw => h w (List.mem_cons_of_mem _ hw)
    have hy := h y List.mem_cons_self
    rw [List.map_cons, List.sum_cons]
    rcases List.mem_cons.mp hx with e | e
    · subst e; omega
    · have := sum_pos_mem f r x e (fun w hw => h w (List.mem_cons_of_mem _ hw)) hp
      omega
theorem bnd_pos {m : Nat} (hm : 1 ≤ m) : ∀ {n : Nat} {t : Int}, (n : Int) ≤ t → t ≤ (n : Int) * m → 0 < bnd m n t
  | 0, t, h1, h2 => by
    have : t = 0 := by rw [show ((0 : Nat) : Int) = 0 from rfl, Int.zero_mul] at h2; omega
    subst this
    exact Int.one_pos
  | n + 1, t, h1, h2 => by
    have nm : (n : Int) * 1 ≤ (n : Int) * m := Int.mul_le_mul_of_nonneg_left (by omega) (by omega)
    have e : ((n + 1 : Nat) : Int) * m = (n : Int) * m + m := by push_cast; rw [Int.add_mul, Int.one_mul]
    rw [e] at h2
    obtain ⟨x, hx, g1, g2⟩ : ∃ x : Nat, x < m ∧ (n : Int) ≤ t - ((x : Int) + 1) ∧ t - ((x : Int) + 1) ≤ (n : Int) * m := by
      by_cases c : t - 1 ≤ (n : Int) * m
      · exact ⟨0, by omega, by push_cast at h1 ⊢; omega, by push_cast; omega⟩
      · exact ⟨(t - (n : Int) * m - 1).toNat, by omega, by omega, by omega⟩
    exact sum_pos_mem (fun (x : Nat) => bnd m n (t - ((x : Int) + 1))) _ x (List.mem_range.mpr hx) (fun y _ => bnd_nonneg m n _) (bnd_pos hm g1 g2)
/-! Chains: places, their digits, and the numbers of ways. -/
/-- how many lists of n digits below m have the sum t, as the program counts -/
def lstN (n : Nat) (m t : Int) : Int := if t = 0 then 1 else if min t ((n : Int) * (m - 1) - t) < 0 then 0 else bnd m.toNat n (t + n)
theorem bnd_least {m : Nat} (hm : 1 ≤ m) : ∀ n : Nat, bnd m n n = 1
  | 0 => rfl
  | n + 1 => by
    show ((List.range m).map fun (x : Nat) => bnd m n ((n + 1 : Nat) - ((x : Int) + 1))).sum = 1
    obtain ⟨k, rfl⟩ : ∃ k, m = k + 1 := ⟨m - 1, by omega⟩
    have z := sum_zero ((fun (x : Nat) => bnd (k + 1) n ((n + 1 : Nat) - ((x : Int) + 1))) ∘ Nat.succ) (List.range k) (fun x _ => bnd_low _ (by show ((n + 1 : Nat) : Int) - (((x + 1 : Nat) : Int) + 1) < n; omega))
    rw [List.range_succ_eq_map, List.map_cons, List.sum_cons, List.map_map, z]
    have : ((n + 1 : Nat) : Int) - (((0 : Nat) : Int) + 1) = n := by omega
    rw [this, bnd_least hm n]
    rfl
theorem lstN_bnd {n : Nat} {m t : Int} (hm : 1 ≤ m) : lstN n m t = bnd m.toNat n (t + n) := by
  unfold lstN
  by_cases h0 : t = 0
  · rw [if_pos h0, h0, Int.zero_add, bnd_least (by omega)]
  · rw [if_neg h0]
    by_cases h : min t ((n : Int) * (m - 1) - t) < 0
    · rw [if_pos h]
      rw [Int.min_def] at h
      have e : (n : Int) * (m - 1) = n * m - n := by rw [Int.mul_sub, Int.mul_one]
      by_cases a : t < 0
      · exact (bnd_low _ (by omega)).symm
      · refine (bnd_high _ ?_).symm
        rw [show ((m.toNat : Nat) : Int) = m by omega]
        split at h <;> omega
    · rw [if_neg h]
theorem lstN_nonneg (n : Nat) (m t : Int) : 0 ≤ lstN n m t := by
  unfold lstN
  split
  · decide
  · split
    · exact Int.le_refl 0
    · exact bnd_nonneg _ _ _
theorem lstN_pos {n : Nat} {m t : Int} (hm : 1 ≤ m) : 0 < lstN n m t ↔ 0 ≤ t ∧ t ≤ (n : Int) * (m - 1) := by
  have e : (n : Int) * (m - 1) = n * m - n := by rw [Int.mul_sub, Int.mul_one]
  have em : ((m.toNat : Nat) : Int) = m := by omega
  rw [lstN_bnd hm, e]
  constructor
  · intro h
    constructor
    · rcases Int.lt_or_le t 0 with a | a
      · rw [bnd_low _ (by omega)] at h; omega
      · exact a
    · rcases Int.lt_or_le ((n : Int) * m - n) t with a | a
      · rw [bnd_high _ (by rw [em]; omega)] at h; omega
      · exact a
  · rintro ⟨a, b⟩
    exact bnd_pos (by omega) (by omega) (by rw [em]; omega)
/-- the last place has no limit -/
theorem lstN_last {n : Nat} {r : Int} : 0 < lstN n (r + 1) r ↔ r = 0 ∨ (0 < r ∧ 0 < n) := by
  rcases Int.lt_or_le r 0 with h | h
  · have : lstN n (r + 1) r = 0 := by
      unfold lstN
      rw [if_neg (by omega), if_pos (by rw [Int.min_def]; split <;> omega)]
    rw [this]
    constructor <;> intro h' <;> omega
  · rw [lstN_pos (by omega), show r + 1 - 1 = r by omega]
    constructor
    · rintro ⟨a, b⟩
      by_cases z : r = 0
      · exact .inl z
      · refine .inr ⟨by omega, ?_⟩
        rcases Nat.eq_zero_or_pos n with e | e
        · rw [e] at b; simp at b; omega
        · exact e
    · rintro (a | ⟨a, b⟩)
      · subst a; simp
      · refine ⟨h, ?_⟩
        have := Int.mul_le_mul_of_nonneg_right (show (1 : Int) ≤ n by omega) h
        omega
/-- the program's sum is the number of lists -/
theorem bnd_prog {n : Nat} {m t : Int} (hm : 2 ≤ m) (ht : 0 ≤ t) : ((List.range ((t / m).toNat + 1)).map fun (j : Nat) => sgn j * (bin (n + 1) j : Nat) * (bin (t - (j : Int) * m + n).toNat n : Nat)).sum = bnd m.toNat (n + 1) (t + (n + 1 : Nat)) := by
  have em : ((m.toNat : Nat) : Int) = m := by omega
  have q0 : 0 ≤ t / m := Int.ediv_nonneg ht (by omega)
  rw [← bnd_sum m.toNat (n + 1) (t + (n + 1 : Nat)) ((t / m).toNat + 1) fun j hj => by
    rw [em]
    have : t / m < (j : Int) := by omega
    have := (Int.ediv_lt_iff_lt_mul (show 0 < m by omega)).mp this
    omega]
  unfold alt
  congr 1
  refine List.map_congr_left fun j hj => ?_
  rw [List.mem_range] at hj
  have hjm : (j : Int) * m ≤ t := by
    have := (Int.le_ediv_iff_mul_le (show 0 < m by omega)).mp (show (j : Int) ≤ t / m by omega)
    exact this
  rw [em, cps_bin (by push_cast; omega)]
  congr 3
  push_cast
  omega
/-- the chain's sizes go up, each a multiple of the one before -/
def ChOk (b : Int) : List (Int × Int) → Prop
  | [] => True
  | p :: r => b < p.1 ∧ (0 < b → p.1 % b = 0) ∧ ChOk p.1 r
/-- the places of a chain -/
def plc (c : Int) : Int → Int → List (Int × Int) → List (Int × Int × Int)
  | size, rest, [] => [(size, rest + 1, rest)]
  | size, rest, p :: r => (size, p.1 / size, rest - p.1 / size * (p.2 - c)) :: plc c p.1 (p.2 - c) r
def ways (n : Nat) (ts : List (Int × Int × Int)) : Int := (ts.map fun t => lstN n t.2.1 t.2.2).foldl (· * ·) 1
/-- where the page counts contradict each other -/
def dueC (n : Nat) : Int → Int → List (Int × Int) → Int → Option (Int × Int)
  | _, _, [], _ => none
  | size, rest, p :: r, i => if p.2 - n < 0 ∨ ¬ (0 ≤ rest - p.1 / size * (p.2 - n) ∧ rest - p.1 / size * (p.2 - n) ≤ (n : Int) * (p.1 / size - 1)) then some (i - 1, i) else dueC n p.1 (p.2 - n) r (i + 1)
theorem fold_mul : ∀ (xs : List Int) (a : Int), xs.foldl (· * ·) a = a * xs.foldl (· * ·) 1
  | [], a => by show a = a * 1; omega
  | x :: xs, a => by
    show xs.foldl (· * ·) (a * x) = a * xs.foldl (· * ·) (1 * x)
    rw [fold_mul xs (a * x), fold_mul xs (1 * x), Int.one_mul, Int.mul_assoc]
theorem ways_cons (n : Nat) (t : Int × Int × Int) (ts : List (Int × Int × Int)) : ways n (t :: ts) = lstN n t.2.1 t.2.2 * ways n ts := by
  unfold ways
  rw [List.map_cons, List.foldl_cons, fold_mul, Int.one_mul]
theorem ways_nonneg (n : Nat) : ∀ ts, 0 ≤ ways n ts
  | [] => by show (0 : Int) ≤ 1; decide
  | t :: ts => by rw [ways_cons]; exact Int.mul_nonneg (lstN_nonneg _ _ _) (ways_nonneg n ts)
theorem mul_pos_iff {a b : Int} (ha : 0 ≤ a) (hb : 0 ≤ b) : 0 < a * b ↔ 0 < a ∧ 0 < b := by
  constructor
  · intro h
    constructor
    · rcases Int.lt_or_le 0 a with g | g
      · exact g
      · have : a = 0 := by omega
        rw [this, Int.zero_mul] at h; omega
    · rcases Int.lt_or_le 0 b with g | g
      · exact g
      · have : b = 0 := by omega
        rw [this, Int.mul_zero] at h; omega
  · rintro ⟨x, y⟩
    exact Int.mul_pos x y
/-- there are ways exactly if nothing contradicts -/
theorem ways_pos (n : Nat) : ∀ (ps : List (Int × Int)) (size rest i : Int), 1 ≤ size → ChOk size ps ∨ ps = [] ∨ (size = 1 ∧ ChOk 0 ps) → (rest = 0 ∨ 0 < rest ∧ 0 < n ∨ rest < 0) →
    (0 < ways n (plc n size rest ps) ↔ (rest = 0 ∨ (0 < rest ∧ 0 < n)) ∧ dueC n size rest ps i = none)
  | [], size, rest, i, _, _, _ => by
    rw [plc, ways_cons, dueC, show ways n [] = 1 from rfl, Int.mul_one]
    show 0 < lstN n (rest + 1) rest ↔ _
    rw [lstN_last]
    simp
  | p :: r, size, rest, i, hs, hc, hr => by
    have base1 : 1 ≤ p.1 / size := by
      have : size ≤ p.1 := by
        rcases hc with h | h | ⟨h1, h⟩
        · have := h.1; omega
        · cases h
        · have := h.1; omega
      exact (Int.le_ediv_iff_mul_le (by omega)).mpr (by omega)
    have hp1 : 1 ≤ p.1 := by
      rcases hc with h | h | ⟨h1, h⟩
      · have := h.1; omega
      · cases h
      · have := h.1; omega
    have hc' : ChOk p.1 r := by
      rcases hc with h | h | ⟨h1, h⟩
      · exact h.2.2
      · cases h
      · exact h.2.2
    rw [plc, ways_cons, mul_pos_iff (lstN_nonneg _ _ _) (ways_nonneg _ _)]
    show 0 < lstN n (p.1 / size) (rest - p.1 / size * (p.2 - n)) ∧ _ ↔ _
    rw [lstN_pos base1, dueC]
    generalize hq : p.1 / size = q at base1 ⊢
    generalize hm : p.2 - (n : Int) = more
    have qm : 0 < more → more ≤ q * more := fun h => by have := Int.mul_le_mul_of_nonneg_right base1 (show 0 ≤ more by omega); omega
    have qn : more < 0 → q * more ≤ more := fun h => by
      have := Int.mul_le_mul_of_nonneg_right base1 (show 0 ≤ -more by omega)
      have e2 : q * -more = -(q * more) := Int.mul_neg _ _
      omega
    have q0 : more = 0 → q * more = 0 := fun h => by rw [h, Int.mul_zero]
    have n0 : n = 0 → (n : Int) * (q - 1) = 0 := fun h => by rw [h]; simp
    have ih := ways_pos n r p.1 more (i + 1) hp1 (.inl hc')
    constructor
    · rintro ⟨⟨a, b⟩, w⟩
      have hmo : more = 0 ∨ 0 < more ∧ 0 < n ∨ more < 0 := by
        rcases Nat.eq_zero_or_pos n with z | z
        · have := n0 z
          rcases Int.lt_trichotomy more 0 with h | h | h
          · exact .inr (.inr h)
          · exact .inl h
          · have := qm h
            exfalso
            rcases hr with hr | hr | hr <;> omega
        · omega
      obtain ⟨w1, w2⟩ := (ih hmo).mp w
      refine ⟨?_, by rw [if_neg (by omega)]; exact w2⟩
      rcases hr with hr | hr | hr
      · exact .inl hr
      · exact .inr hr
      · exfalso
        rcases w1 with h | ⟨h, _⟩
        · have := q0 h; omega
        · have := qm h; omega
    · rintro ⟨a, b⟩
      split at b
      · cases b
      · rename_i h
        have h1 : 0 ≤ more := by omega
        have h2 : 0 ≤ rest - q * more ∧ rest - q * more ≤ (n : Int) * (q - 1) := by omega
        have hmo : more = 0 ∨ (0 < more ∧ 0 < n) := by
          rcases Int.lt_or_le 0 more with g | g
          · refine .inr ⟨g, ?_⟩
            rcases Nat.eq_zero_or_pos n with z | z
            · have := qm g; omega
            · exact z
          · exact .inl (by omega)
        exact ⟨h2, (ih (hmo.elim .inl fun h => .inr (.inl h))).mpr ⟨hmo, b⟩⟩
theorem chok_pos : ∀ {ps : List (Int × Int)} {b : Int}, ChOk b ps → 0 ≤ b → ∀ p ∈ ps, b < p.1
  | [], _, _, _, _, h => by cases h
  | p :: r, b, h, hb, q, hq => by
    rcases List.mem_cons.mp hq with e | e
    · rw [e]; exact h.1
    · have := chok_pos h.2.2 (by have := h.1; omega) q e
      have := h.1
      omega
def dueX (n : Nat) (l : Int) (ps : List (Int × Int)) : Option (Int × Int) := if l - n = 0 ∨ (0 < l - n ∧ 0 < n) then dueC n 1 (l - n) ps 0 else some (-1, -1)
theorem bnd_le (m : Nat) : ∀ (n : Nat) (t : Int), bnd m n t ≤ (m : Int) ^ n
  | 0, t => by
    show (if t = 0 then (1 : Int) else 0) ≤ 1
    split <;> omega
  | n + 1, t => by
    have ih := bnd_le m n
    have : ∀ (k : Nat), ((List.range k).map fun (x : Nat) => bnd m n (t - ((x : Int) + 1))).sum ≤ (k : Int) * (m : Int) ^ n := fun k => by
      induction k with
      | zero => simp
      | succ k i =>
        rw [List.range_succ, List.map_append, List.sum_append, List.map_singleton, List.sum_singleton]
        have := ih (t - ((k : Int) + 1))
        push_cast
        rw [Int.add_mul, Int.one_mul]
        omega
    have h := this m
    show _ ≤ (m : Int) ^ (n + 1)
    rw [Int.pow_succ, Int.mul_comm]
    exact h
theorem lstN_lt {n : Nat} {m t : Int} (hn : n ≤ 50) (hm : m < 2 ^ 200) : (lstN n m t).natAbs < 2 ^ 10001 := by
  have big : ∀ k : Nat, k ≤ 10000 → (2 : Nat) ^ k < 2 ^ 10001 := fun k h => Nat.pow_lt_pow_right (by decide) (by omega)
  unfold lstN
  split
  · exact Nat.lt_of_le_of_lt (show (1 : Int).natAbs ≤ 2 ^ 0 by decide) (big 0 (by omega))
  · split
    · exact Nat.lt_of_le_of_lt (show (0 : Int).natAbs ≤ 2 ^ 0 by decide) (big 0 (by omega))
    · have a := bnd_le m.toNat n (t + n)
      have b := bnd_nonneg m.toNat n (t + n)
      have c : m.toNat ^ n ≤ (2 ^ 200) ^ n := Nat.pow_le_pow_left (by omega) n
      rw [← Nat.pow_mul] at c
      have d := big (200 * n) (by omega)
      have e : (bnd m.toNat n (t + n)).natAbs ≤ m.toNat ^ n := by
        have : ((m.toNat : Nat) : Int) ^ n = ((m.toNat ^ n : Nat) : Int) := by push_cast; rfl
        rw [this] at a
        omega
      omega
theorem plc_len (c : Int) : ∀ (ps : List (Int × Int)) (size rest : Int), (plc c size rest ps).length = ps.length + 1
  | [], _, _ => rfl
  | p :: r, size, rest => by rw [plc, List.length_cons, plc_len c r, List.length_cons]
theorem ways_app (n : Nat) (t : Int × Int × Int) : ∀ ts, ways n (ts ++ [t]) = ways n ts * lstN n t.2.1 t.2.2
  | [] => by rw [List.nil_append, ways_cons, show ways n [] = 1 from rfl, Int.mul_one, Int.one_mul]
  | u :: ts => by rw [List.cons_append, ways_cons, ways_cons, ways_app n t ts, Int.mul_assoc]
theorem ways_take {n : Nat} {ts : List (Int × Int × Int)} {i : Nat} {t : Int × Int × Int} (h : ts[i]? = some t) : ways n (ts.take (i + 1)) = ways n (ts.take i) * lstN n t.2.1 t.2.2 := by
  rw [List.take_add_one, h]
  exact ways_app n t _
theorem ways_lt {n : Nat} (hn : n ≤ 50) : ∀ {ts : List (Int × Int × Int)}, (∀ t ∈ ts, t.2.1 < 2 ^ 200) → (ways n ts).natAbs < 2 ^ (10001 * ts.length + 1)
  | [], _ => by show (1 : Int).natAbs < 2 ^ 1; decide
  | t :: ts, h => by
    have ih := ways_lt hn (ts := ts) fun u hu => h u (List.mem_cons_of_mem _ hu)
    have a := lstN_lt (t := t.2.2) hn (h t List.mem_cons_self)
    rw [ways_cons, Int.natAbs_mul, List.length_cons, show 10001 * (ts.length + 1) + 1 = 10001 + (10001 * ts.length + 1) by omega, Nat.pow_add]
    exact Nat.mul_lt_mul'' a ih
theorem no_book {n : Nat} {rest q more : Int} (hq : 1 ≤ q) (h0 : n = 0 → rest = 0) (h1 : 0 ≤ rest - q * more) : ¬ (more = 0 ∨ (0 < more ∧ 0 < n)) ↔ more < 0 := by
  rcases Nat.eq_zero_or_pos n with z | z
  · have r0 := h0 z
    have : 0 < more → more ≤ q * more := fun h => by have := Int.mul_le_mul_of_nonneg_right hq (show 0 ≤ more by omega); omega
    omega
  · omega
theorem chok_drop : ∀ {ps : List (Int × Int)} {b : Int} {i : Nat} {p : Int × Int}, ChOk b ps → ps[i]? = some p → ChOk p.1 (ps.drop (i + 1))
  | [], _, i, _, _, h => by simp at h
  | q :: r, b, 0, p, c, h => by
    cases h
    exact c.2.2
  | q :: r, b, i + 1, p, c, h => chok_drop (i := i) c.2.2 h
/-- sizes that go up, each a multiple of the one before -/
def Up (b : Int) : List Int → Prop
  | [] => True
  | x :: r => b < x ∧ (0 < b → x % b = 0) ∧ Up x r
theorem up_app : ∀ {xs : List Int} {b y : Int}, Up b xs → (∀ x, (b :: xs).getLast? = some x → x < y ∧ (0 < x → y % x = 0)) → Up b (xs ++ [y])
  | [], b, y, _, h => by
    have := h b rfl
    exact ⟨this.1, this.2, trivial⟩
  | x :: r, b, y, u, h => ⟨u.1, u.2.1, up_app u.2.2 fun z hz => h z (by rw [List.getLast?_cons_cons]; exact hz)⟩
theorem chok_up : ∀ {ps : List (Int × Int)} {b : Int}, ChOk b ps ↔ Up b (ps.map (·.1))
  | [], _ => Iff.rfl
  | p :: r, b => by
    show _ ∧ _ ∧ _ ↔ _ ∧ _ ∧ _
    rw [chok_up (ps := r)]
theorem plc_bound (n : Nat) (hn : n ≤ 50) : ∀ {ps : List (Int × Int)} {size rest : Int}, (∀ p ∈ ps, 1 ≤ p.1 ∧ p.1 < 2 ^ 88 ∧ -(2 ^ 98) < p.2 ∧ p.2 < 2 ^ 98) → 1 ≤ size → -(2 ^ 100) < rest → rest < 2 ^ 100 → ∀ t ∈ plc n size rest ps, t.2.1 < 2 ^ 200 ∧ -(2 ^ 200) < t.2.1 ∧ t.2.2 < 2 ^ 200
  | [], size, rest, _, _, r0, r1, t, ht => by
    rw [plc, List.mem_singleton] at ht
    subst ht
    refine ⟨?_, ?_, ?_⟩
    · show rest + 1 < _; omega
    · show _ < rest + 1; omega
    · show rest < _; omega
  | p :: r, size, rest, h, hs, r0, r1, t, ht => by
    have hp := h p List.mem_cons_self
    rw [plc] at ht
    have q0 : 0 ≤ p.1 / size := Int.ediv_nonneg (by omega) (by omega)
    have q1 : p.1 / size ≤ p.1 := Int.ediv_le_self _ (by omega)
    rcases List.mem_cons.mp ht with e | e
    · subst e
      refine ⟨by show p.1 / size < _; omega, by show _ < p.1 / size; omega, ?_⟩
      show rest - p.1 / size * (p.2 - n) < _
      have m : (p.1 / size * (p.2 - n)).natAbs < 2 ^ 88 * 2 ^ 99 := by
        rw [Int.natAbs_mul]
        exact Nat.mul_lt_mul'' (by omega) (by omega)
      omega
    · exact plc_bound n hn (ps := r) (fun q hq => h q (List.mem_cons_of_mem _ hq)) (by omega) (by omega) (by omega) t e
theorem ways_none : ∀ (ps : List (Int × Int)) (size rest : Int), 1 ≤ size → ChOk size ps ∨ ps = [] ∨ (size = 1 ∧ ChOk 0 ps) → 0 < rest → ¬ 0 < ways 0 (plc ((0 : Nat) : Int) size rest ps)
  | [], size, rest, _, _, hr => by
    rw [plc, ways_cons, show ways 0 [] = 1 from rfl, Int.mul_one]
    show ¬ 0 < lstN 0 (rest + 1) rest
    rw [lstN_last]
    omega
  | p :: r, size, rest, hs, hc, hr => by
    have hp : size ≤ p.1 ∧ ChOk p.1 r := by
      rcases hc with h | h | ⟨h1, h⟩
      · have := h.1; exact ⟨by omega, h.2.2⟩
      · cases h
      · have := h.1; exact ⟨by omega, h.2.2⟩
    have base1 : 1 ≤ p.1 / size := (Int.le_ediv_iff_mul_le (by omega)).mpr (by omega)
    rw [plc, ways_cons, mul_pos_iff (lstN_nonneg _ _ _) (ways_nonneg _ _)]
    show ¬ (0 < lstN 0 (p.1 / size) (rest - p.1 / size * (p.2 - ((0 : Nat) : Int))) ∧ _)
    rw [lstN_pos base1]
    rintro ⟨⟨a, b⟩, w⟩
    have z0 : ((0 : Nat) : Int) * (p.1 / size - 1) = 0 := by simp
    rw [z0] at b
    refine ways_none r p.1 (p.2 - ((0 : Nat) : Int)) (by omega) (.inl hp.2) ?_ w
    generalize p.2 - ((0 : Nat) : Int) = more at a b ⊢
    rcases Int.lt_or_le 0 more with h | h
    · exact h
    · exfalso
      have := Int.mul_le_mul_of_nonneg_left h (show 0 ≤ p.1 / size by omega)
      rw [Int.mul_zero] at this
      omega
theorem ways_due {n : Nat} {l : Int} {ps : List (Int × Int)} (hl : 0 ≤ l) (hc : ChOk 0 ps) : 0 < ways n (plc n 1 (l - n) ps) ↔ dueX n l ps = none := by
  have h := ways_pos n ps 1 (l - n) 0 (Int.le_refl 1) (.inr (.inr ⟨rfl, hc⟩)) 
  unfold dueX
  by_cases z : l - n = 0 ∨ (0 < l - n ∧ 0 < n)
  · rw [if_pos z, h (z.elim .inl fun w => .inr (.inl w))]
    exact ⟨fun a => a.2, fun a => ⟨z, a⟩⟩
  · rw [if_neg z]
    constructor
    · intro w
      exfalso
      by_cases y : l - n < 0
      · exact z ((h (.inr (.inr y))).mp w).1
      · -- no chapter, but lines
        have n0 : n = 0 := by omega
        subst n0
        exact ways_none ps 1 (l - ((0 : Nat) : Int)) (Int.le_refl 1) (.inr (.inr ⟨rfl, hc⟩)) (by omega) w
    · intro w; cases w
theorem dueC_le (n : Nat) : ∀ {ps : List (Int × Int)} {size rest k i j : Int}, dueC n size rest ps k = some (i, j) → k - 1 ≤ i ∧ i ≤ k + ps.length ∧ k ≤ j ∧ j ≤ k + ps.length
  | [], _, _, _, _, _, h => by rw [dueC] at h; cases h
  | p :: r, size, rest, k, i, j, h => by
    rw [dueC] at h
    split at h
    · have h' := Option.some.inj h
      injection h' with a b
      rw [List.length_cons]
      push_cast
      omega
    · have := dueC_le n h
      rw [List.length_cons]
      push_cast
      omega
theorem dueX_le {n : Nat} {l i j : Int} {ps : List (Int × Int)} (h : dueX n l ps = some (i, j)) : -1 ≤ i ∧ i ≤ ps.length ∧ -1 ≤ j ∧ j ≤ ps.length := by
  unfold dueX at h
  split at h
  · have := dueC_le n h; omega
  · have h' := Option.some.inj h
    injection h' with a b
    omega
theorem set_id {α : Type} : ∀ {xs : List α} {i : Nat} {v : α}, xs[i]? = some v → xs.set i v = xs
  | [], _, _, h => by simp at h
  | x :: r, 0, v, h => by cases h; rfl
  | x :: r, i + 1, v, h => by
    show x :: r.set i v = x :: r
    rw [set_id (i := i) h]
theorem chok_set {ps : List (Int × Int)} {b z : Int} {i : Nat} {p : Int × Int} (h : ChOk b ps) (hp : ps[i]? = some p) : ChOk b (ps.set i (p.1, z)) := by
  rw [chok_up] at h ⊢
  rw [List.map_set]
  rw [set_id (by rw [List.getElem?_map, hp]; rfl)]
  exact h
/-! Page counts of one edition add up. -/
def Bq (m n : Nat) (s : Int) : Int := bnd m n (s + n)
def An (n : Nat) (f : Int) : Int := cps n (f + n)
theorem An_step (n : Nat) (f : Int) : An (n + 1) f = An (n + 1) (f - 1) + An n f := by
  unfold An
  have := cps_succ n (f + (n + 1 : Nat))
  rw [this]
  congr 2 <;> (push_cast; omega)
theorem Bq_step (m n : Nat) (s : Int) : Bq m (n + 1) s = Bq m (n + 1) (s - 1) + (Bq m n s - Bq m n (s - m)) := by
  unfold Bq
  have := bnd_step m n (s + (n + 1 : Nat))
  rw [this]
  rw [show s + ((n + 1 : Nat) : Int) - 1 = s - 1 + ((n + 1 : Nat) : Int) by omega, show s - 1 + ((n + 1 : Nat) : Int) - m = s - m + n by push_cast; omega, show bnd m n (s - 1 + ((n + 1 : Nat) : Int)) = bnd m n (s + n) by congr 1; push_cast; omega]
theorem An_neg {n : Nat} {f : Int} (h : f < 0) : An n f = 0 := cps_low (by omega)
theorem Bq_neg {m n : Nat} {s : Int} (h : s < 0) : Bq m n s = 0 := bnd_low m (by omega)
def FF (m N n : Nat) (r : Int) : Int := ((List.range N).map fun (f : Nat) => Bq m n (r - (f : Int) * m) * An n f).sum
theorem FF_succ (m N n : Nat) (r : Int) : FF m (N + 1) n r = FF m N n r + Bq m n (r - (N : Int) * m) * An n N := by
  unfold FF
  rw [List.range_succ, List.map_append, List.sum_append, List.map_singleton, List.sum_singleton]
theorem FF_diff (m n : Nat) (r : Int) : ∀ N : Nat, FF m N (n + 1) r - FF m N (n + 1) (r - 1) = FF m N n r - Bq m n (r - (N : Int) * m) * An (n + 1) ((N : Int) - 1)
  | 0 => by
    rw [An_neg (show ((0 : Nat) : Int) - 1 < 0 by decide), Int.mul_zero]
    rfl
  | N + 1 => by
    have ih := FF_diff m n r N
    rw [FF_succ, FF_succ, FF_succ]
    have b := Bq_step m n (r - (N : Int) * m)
    have a := An_step n (N : Int)
    rw [show r - 1 - (N : Int) * m = r - (N : Int) * m - 1 by omega, show ((N + 1 : Nat) : Int) - 1 = N by omega]
    have e : r - ((N + 1 : Nat) : Int) * m = r - (N : Int) * m - m := by push_cast; rw [Int.add_mul, Int.one_mul]; omega
    rw [e]
    generalize r - (N : Int) * m = x at *
    rw [b, Int.add_mul, Int.sub_mul]
    have c : Bq m n x * An (n + 1) N = Bq m n x * An (n + 1) ((N : Int) - 1) + Bq m n x * An n N := by rw [a, Int.mul_add]
    omega
theorem FF_all {m : Nat} (hm : 1 ≤ m) {N : Nat} : ∀ (n : Nat) (r : Int), r < (N : Int) * m → FF m N n r = An n r := by
  have neg : ∀ (n : Nat) (r : Int), r < 0 → FF m N n r = An n r := fun n r h => by
    rw [An_neg h]
    unfold FF
    refine sum_zero _ _ fun f _ => ?_
    have : 0 ≤ (f : Int) * m := Int.mul_nonneg (by omega) (by omega)
    rw [Bq_neg (by omega), Int.zero_mul]
  intro n
  induction n with
  | zero =>
    intro r h
    rcases Int.lt_or_le r 0 with g | g
    · exact neg 0 r g
    · have hN : 1 ≤ N := by
        rcases Nat.eq_zero_or_pos N with z | z
        · rw [z] at h; simp at h; omega
        · exact z
      obtain ⟨M, rfl⟩ : ∃ M, N = M + 1 := ⟨N - 1, by omega⟩
      unfold FF
      have z := sum_zero ((fun (f : Nat) => Bq m 0 (r - (f : Int) * m) * An 0 f) ∘ Nat.succ) (List.range M) (fun f _ => by
        show Bq m 0 (r - ((f + 1 : Nat) : Int) * m) * An 0 ((f + 1 : Nat) : Int) = 0
        have : An 0 ((f + 1 : Nat) : Int) = 0 := by
          unfold An
          rw [cps_0, if_neg (by omega)]
        rw [this, Int.mul_zero])
      rw [List.range_succ_eq_map, List.map_cons, List.sum_cons, List.map_map, z]
      show Bq m 0 (r - ((0 : Nat) : Int) * m) * An 0 ((0 : Nat) : Int) + 0 = An 0 r
      have a0 : An 0 ((0 : Nat) : Int) = 1 := rfl
      rw [a0, Int.mul_one, Int.add_zero, show r - ((0 : Nat) : Int) * m = r by simp]
      unfold Bq An
      rw [cps_0]
      rfl
  | succ n ih =>
    have key : ∀ k : Nat, ∀ r : Int, r = k → r < (N : Int) * m → FF m N (n + 1) r = An (n + 1) r := by
      intro k
      induction k with
      | zero =>
        intro r hr h
        have d := FF_diff m n r N
        rw [neg (n + 1) (r - 1) (by omega), An_neg (show r - 1 < 0 by omega), ih r h, Bq_neg (show r - (N : Int) * m < 0 by omega), Int.zero_mul] at d
        rw [An_step, An_neg (show r - 1 < 0 by omega)]
        omega
      | succ k ihk =>
        intro r hr h
        have d := FF_diff m n r N
        rw [ihk (r - 1) (by omega) (by omega), ih r h, Bq_neg (show r - (N : Int) * m < 0 by omega), Int.zero_mul] at d
        rw [An_step]
        omega
    intro r h
    rcases Int.lt_or_le r 0 with g | g
    · exact neg (n + 1) r g
    · exact key r.toNat r (by omega) h
/-- no limit is felt -/
theorem bnd_free {m n : Nat} {t : Int} (h : t - m < n) : bnd m n t = cps n t := by
  have e := bnd_sum m n t 1 fun j hj => by
    have : (m : Int) ≤ (j : Int) * m := by have := Int.mul_le_mul_of_nonneg_right (show (1 : Int) ≤ j by omega) (show (0 : Int) ≤ m by omega); omega
    omega
  rw [← e]
  unfold alt
  rw [show List.range 1 = [0] from rfl, List.map_singleton, List.sum_singleton, bin_0, show sgn 0 = 1 from rfl]
  simp
theorem lstN_free {n : Nat} {m f : Int} (hf : 0 ≤ f) (h : f < m) : lstN n m f = An n f := by
  rw [lstN_bnd (by omega)]
  exact bnd_free (by rw [show ((m.toNat : Nat) : Int) = m by omega]; omega)
theorem lstN_Bq {n : Nat} {m s : Int} (hm : 1 ≤ m) : lstN n m s = Bq m.toNat n s := lstN_bnd hm
theorem lstN_neg {n : Nat} {m s : Int} (h : s < 0) : lstN n m s = 0 := by
  unfold lstN
  rw [if_neg (by omega), if_pos (by rw [Int.min_def]; split <;> omega)]
theorem An_bin {n : Nat} {f : Int} (h : 0 ≤ f) : An (n + 1) f = (bin (f + n).toNat n : Nat) := by
  unfold An
  rw [cps_bin (by omega)]
  congr 2
  omega
/-- the places ahead of the last one, and where they end -/
def preW (n : Nat) : Int → Int → List (Int × Int) → Int
  | _, _, [] => 1
  | size, rest, p :: r => lstN n (p.1 / size) (rest - p.1 / size * (p.2 - n)) * preW n p.1 (p.2 - n) r
def endS (n : Nat) : Int → Int → List (Int × Int) → Int × Int
  | size, rest, [] => (size, rest)
  | _, _, p :: r => endS n p.1 (p.2 - n) r
theorem ways_end (n : Nat) : ∀ (ps : List (Int × Int)) (size rest : Int), ways n (plc n size rest ps) = preW n size rest ps * lstN n ((endS n size rest ps).2 + 1) (endS n size rest ps).2
  | [], size, rest => by rw [plc, ways_cons, preW, endS, show ways n [] = 1 from rfl, Int.mul_one, Int.one_mul]
  | p :: r, size, rest => by rw [plc, ways_cons, preW, endS, ways_end n r, Int.mul_assoc]
theorem ways_more (n : Nat) (p : Int × Int) : ∀ (ps : List (Int × Int)) (size rest : Int), ways n (plc n size rest (ps ++ [p])) = preW n size rest ps * (lstN n (p.1 / (endS n size rest ps).1) ((endS n size rest ps).2 - p.1 / (endS n size rest ps).1 * (p.2 - n)) * lstN n (p.2 - n + 1) (p.2 - n))
  | [], size, rest => by
    show ways n (plc n size rest [p]) = _
    rw [plc, plc, ways_cons, ways_cons, preW, endS, show ways n [] = 1 from rfl, Int.mul_one, Int.one_mul]
  | q :: r, size, rest => by
    show ways n (plc n size rest (q :: (r ++ [p]))) = _
    rw [plc, ways_cons, preW, endS, ways_more n p r, Int.mul_assoc]
theorem endS_app (n : Nat) (p : Int × Int) : ∀ (ps : List (Int × Int)) (size rest : Int), endS n size rest (ps ++ [p]) = (p.1, p.2 - n)
  | [], _, _ => rfl
  | q :: r, size, rest => by show endS n q.1 (q.2 - n) (r ++ [p]) = _; exact endS_app n p r _ _
/-- all page counts of one more edition -/
theorem ways_sum {n : Nat} {ps : List (Int × Int)} {w m l : Int} {N : Nat} (hm : 1 ≤ m) (he : w / (endS n 1 (l - n) ps).1 = m) (h0 : 0 ≤ (endS n 1 (l - n) ps).2) (hN : (endS n 1 (l - n) ps).2 < (N : Int) * m) :
    ((List.range N).map fun (f : Nat) => ways n (plc n 1 (l - n) (ps ++ [(w, (n : Int) + f)]))).sum = ways n (plc n 1 (l - n) ps) := by
  rw [ways_end]
  generalize hE : endS n 1 (l - n) ps = E at he h0 hN ⊢
  have e : ((List.range N).map fun (f : Nat) => ways n (plc n 1 (l - n) (ps ++ [(w, (n : Int) + f)]))) = (List.range N).map fun (f : Nat) => preW n 1 (l - n) ps * (Bq m.toNat n (E.2 - (f : Int) * m.toNat) * An n f) := List.map_congr_left fun f _ => by
    rw [ways_more, hE]
    show _ * (lstN n (w / E.1) (E.2 - w / E.1 * ((n : Int) + f - n)) * lstN n ((n : Int) + f - n + 1) ((n : Int) + f - n)) = _
    rw [he, show (n : Int) + f - n = f by omega, lstN_Bq hm, lstN_free (by omega) (by omega), show ((m.toNat : Nat) : Int) = m by omega, Int.mul_comm m f]
  have s : ∀ (c : Int) (g : Nat → Int) (xs : List Nat), (xs.map fun f => c * g f).sum = c * (xs.map g).sum := fun c g xs => by
    induction xs with
    | nil => simp
    | cons x r ih => rw [List.map_cons, List.sum_cons, List.map_cons, List.sum_cons, ih, Int.mul_add]
  rw [e, s (preW n 1 (l - n) ps) (fun (f : Nat) => Bq m.toNat n (E.2 - (f : Int) * m.toNat) * An n f) (List.range N)]
  congr 1
  have := FF_all (m := m.toNat) (by omega) (N := N) n E.2 (by rw [show ((m.toNat : Nat) : Int) = m by omega]; exact hN)
  unfold FF at this
  rw [this, lstN_free h0 (by omega)]
theorem binC_up (n k : Nat) (h : k ≤ n) : (k + 1) * HS.binC (n + 1) (k + 1) = (n + 1) * HS.binC n k := by
  show (k + 1) * (HS.binC n k + HS.binC n (k + 1)) = _
  rw [Nat.mul_add, HS.binC_next, ← Nat.add_mul]
  congr 1
  omega
theorem plc_bound2 (n : Nat) (hn : n ≤ 50) : ∀ {ps : List (Int × Int)} {size rest : Int}, (∀ p ∈ ps, 1 ≤ p.1 ∧ p.1 < 2 ^ 100 ∧ -(2 ^ 98) < p.2 ∧ p.2 < 2 ^ 98) → 1 ≤ size → -(2 ^ 100) < rest → rest < 2 ^ 100 → ∀ t ∈ plc n size rest ps, t.2.1 < 2 ^ 200 ∧ -(2 ^ 200) < t.2.1 ∧ t.2.2 < 2 ^ 200
  | [], size, rest, _, _, r0, r1, t, ht => by
    rw [plc, List.mem_singleton] at ht
    subst ht
    refine ⟨?_, ?_, ?_⟩
    · show rest + 1 < _; omega
    · show _ < rest + 1; omega
    · show rest < _; omega
  | p :: r, size, rest, h, hs, r0, r1, t, ht => by
    have hp := h p List.mem_cons_self
    rw [plc] at ht
    have q0 : 0 ≤ p.1 / size := Int.ediv_nonneg (by omega) (by omega)
    have q1 : p.1 / size ≤ p.1 := Int.ediv_le_self _ (by omega)
    rcases List.mem_cons.mp ht with e | e
    · subst e
      refine ⟨by show p.1 / size < _; omega, by show _ < p.1 / size; omega, ?_⟩
      show rest - p.1 / size * (p.2 - n) < _
      have m : (p.1 / size * (p.2 - n)).natAbs < 2 ^ 100 * 2 ^ 99 := by
        rw [Int.natAbs_mul]
        exact Nat.mul_lt_mul'' (by omega) (by omega)
      omega
    · exact plc_bound2 n hn (ps := r) (fun q hq => h q (List.mem_cons_of_mem _ hq)) (by omega) (by omega) (by omega) t e
theorem chok_app : ∀ {ps : List (Int × Int)} {b : Int} {p : Int × Int}, ChOk b ps → (∀ x, (b :: ps.map (·.1)).getLast? = some x → x < p.1 ∧ (0 < x → p.1 % x = 0)) → ChOk b (ps ++ [p]) := by
  intro ps b p h g
  rw [chok_up] at h ⊢
  rw [List.map_append]
  exact up_app h g
/-! All books of so many chapters and lines, one by one, and how many have the page counts of a chain. -/
def booksL : Nat → Int → List (List Int)
  | 0, t => if t = 0 then [[]] else []
  | n + 1, t => (List.range (t - (n + 1 : Nat) + 1).toNat).flatMap fun (i : Nat) => (booksL n (t - (1 + (i : Int)))).map fun s => (1 + (i : Int)) :: s
def fitsB (ps : List (Int × Int)) (s : List Int) : Bool := ps.all fun p => decide (pcount s p.1 = p.2)
/-- what the other chapters must have, when one has i lines more than one -/
def subP (i : Nat) (ps : List (Int × Int)) : List (Int × Int) := ps.map fun p => (p.1, p.2 - ((i : Int) / p.1 + 1))
/-- the same, the lines told in pages of s -/
def subS (s : Int) (i : Nat) (ps : List (Int × Int)) : List (Int × Int) := ps.map fun p => (p.1, p.2 - ((i : Int) / (p.1 / s) + 1))
theorem subS_one (i : Nat) (ps : List (Int × Int)) : subS 1 i ps = subP i ps := by
  unfold subS subP
  exact List.map_congr_left fun p _ => by rw [Int.ediv_one]
theorem chok_sub : ∀ {ps : List (Int × Int)} {b : Int} (f : Int × Int → Int), ChOk b ps → ChOk b (ps.map fun p => (p.1, f p))
  | [], _, _, _ => trivial
  | _ :: _, _, f, h => ⟨h.1, h.2.1, chok_sub f h.2.2⟩
/-- a chain behind the place of size s: each size a multiple of s, at least as great -/
def Beh (s : Int) (ps : List (Int × Int)) : Prop := match ps with
  | [] => True
  | p :: r => s ≤ p.1 ∧ p.1 % s = 0 ∧ ChOk p.1 r
theorem beh_of {ps : List (Int × Int)} (h : ChOk 0 ps) : Beh 1 ps := by
  cases ps with
  | nil => trivial
  | cons p r => exact ⟨by have := h.1; omega, Int.emod_one _, h.2.2⟩
theorem beh_ch {s : Int} {ps : List (Int × Int)} (hs : 1 ≤ s) (h : ChOk s ps) : Beh s ps := by
  cases ps with
  | nil => trivial
  | cons p r => exact ⟨by have := h.1; omega, h.2.1 (by omega), h.2.2⟩
theorem ways_nil (n : Nat) : ways n [] = 1 := rfl
/-- no list has a sum below 0 -/
theorem ways_low (n : Nat) : ∀ (ps : List (Int × Int)) (s r : Int), 1 ≤ s → Beh s ps → r < 0 → ways n (plc n s r ps) = 0
  | [], s, r, _, _, hr => by
    rw [plc, ways_cons]
    dsimp only
    rw [lstN_neg hr, Int.zero_mul]
  | p :: ps, s, r, hs, hb, hr => by
    rw [plc, ways_cons]
    dsimp only
    by_cases c : p.2 - n < 0
    · rw [ways_low n ps p.1 (p.2 - n) (by have := hb.1; omega) (beh_ch (by have := hb.1; omega) hb.2.2) c, Int.mul_zero]
    · have hq : 0 ≤ p.1 / s := Int.ediv_nonneg (by have := hb.1; omega) (by omega)
      have := Int.mul_nonneg hq (show 0 ≤ p.2 - (n : Int) by omega)
      rw [lstN_neg (by omega), Int.zero_mul]
def sumN (N : Nat) (f : Nat → Int) : Int := ((List.range N).map f).sum
theorem sumN_succ (N : Nat) (f : Nat → Int) : sumN (N + 1) f = sumN N f + f N := by
  unfold sumN
  rw [List.range_succ, List.map_append, List.sum_append, List.map_singleton, List.sum_singleton]
theorem sumN_congr {N : Nat} {f g : Nat → Int} (h : ∀ i, i < N → f i = g i) : sumN N f = sumN N g := by
  unfold sumN
  rw [List.map_congr_left fun i hi => h i (List.mem_range.mp hi)]
theorem sumN_more {f : Nat → Int} {N : Nat} : ∀ k, (∀ i, N ≤ i → f i = 0) → sumN (N + k) f = sumN N f
  | 0, _ => rfl
  | k + 1, h => by rw [← Nat.add_assoc, sumN_succ, sumN_more k h, h _ (by omega), Int.add_zero]
theorem sumN_eq {f : Nat → Int} {N M : Nat} (h : N ≤ M) (z : ∀ i, N ≤ i → f i = 0) : sumN M f = sumN N f := by
  obtain ⟨k, rfl⟩ := Nat.exists_eq_add_of_le h
  exact sumN_more k z
theorem sumN_mul (N : Nat) (f : Nat → Int) (c : Int) : sumN N (fun i => f i * c) = sumN N f * c := by
  induction N with
  | zero => show (0 : Int) = 0 * c; rw [Int.zero_mul]
  | succ N ih => rw [sumN_succ, sumN_succ, ih, Int.add_mul]
theorem sumN_lmul (N : Nat) (f : Nat → Int) (c : Int) : sumN N (fun i => c * f i) = c * sumN N f := by
  rw [Int.mul_comm, ← sumN_mul]
  exact sumN_congr fun i _ => Int.mul_comm _ _
theorem sumN_shift (N m : Nat) (h : Nat → Int) : sumN (N + m) h = sumN N h + sumN m fun d => h (N + d) := by
  induction m with
  | zero => show sumN N h = sumN N h + 0; rw [Int.add_zero]
  | succ m ih => rw [← Nat.add_assoc, sumN_succ, ih, sumN_succ]; omega
theorem sumN_blocks (m M : Nat) (h : Nat → Int) : sumN (m * M) h = sumN M fun k => sumN m fun d => h (m * k + d) := by
  induction M with
  | zero => rfl
  | succ M ih => rw [Nat.mul_succ, sumN_shift, ih, sumN_succ]
theorem bq_sum (m n : Nat) (s : Int) : Bq m (n + 1) s = sumN m fun d => Bq m n (s - d) := by
  unfold Bq sumN
  rw [bnd]
  congr 1
  exact List.map_congr_left fun d _ => by congr 1; push_cast; omega
theorem sumN_first (n N : Nat) : (sumN (N + 1) fun q => An n ((N : Int) - q)) + An n ((N + 1 : Nat) : Int) = sumN (N + 1 + 1) fun q => An n (((N + 1 : Nat) : Int) - q) := by
  rw [Nat.add_comm (N + 1) 1, sumN_shift 1 (N + 1)]
  have e1 : sumN 1 (fun q => An n (((1 + N : Nat) : Int) - q)) = An n ((1 + N : Nat) : Int) := by
    rw [sumN_succ]
    show 0 + An n (((1 + N : Nat) : Int) - ((0 : Nat) : Int)) = _
    simp
  rw [Nat.add_comm N 1] at *
  rw [e1, Int.add_comm]
  congr 1
  exact sumN_congr fun q _ => by congr 1; push_cast; omega
theorem an_sum (n : Nat) : ∀ N : Nat, An (n + 1) N = sumN (N + 1) fun q => An n ((N : Int) - q)
  | 0 => by
    rw [An_step, An_neg (by decide)]
    show 0 + An n 0 = (([0] : List Nat).map fun q : Nat => An n (((0 : Nat) : Int) - (q : Int))).sum
    rw [List.map_singleton, List.sum_singleton]; simp
  | N + 1 => by
    rw [An_step, show ((N + 1 : Nat) : Int) - 1 = N by omega, an_sum n N, sumN_first n N]
theorem chok_mul : ∀ {ps : List (Int × Int)} {b : Int}, ChOk b ps → 1 ≤ b → ∀ y ∈ ps, y.1 % b = 0
  | [], _, _, _, _, hy => by cases hy
  | p :: r, b, h, hb, y, hy => by
    have h0 := h.2.1 (by omega)
    rcases List.mem_cons.mp hy with e | hy
    · rw [e]; exact h0
    · have h1 := chok_mul h.2.2 (by have := h.1; omega) y hy
      exact Int.emod_eq_zero_of_dvd (Int.dvd_trans (Int.dvd_of_emod_eq_zero h0) (Int.dvd_of_emod_eq_zero h1))
/-- one chapter more: its lines are chosen first -/
theorem ways_chapter (n : Nat) : ∀ (ps : List (Int × Int)) (s r : Int), 1 ≤ s → Beh s ps → ∀ N : Nat, r < N → ways (n + 1) (plc (n + 1 : Nat) s r ps) = sumN N fun q => ways n (plc n s (r - q) (subS s q ps))
  | [], s, r, hs, hb, N, hN => by
    rw [plc, ways_cons, ways_nil, Int.mul_one]
    dsimp only
    have hR : (sumN N fun q => ways n (plc n s (r - q) (subS s q []))) = sumN N fun q => An n (r - q) := sumN_congr fun q _ => by
      show ways n (plc n s (r - q) []) = _
      rw [plc, ways_cons, ways_nil, Int.mul_one]
      dsimp only
      by_cases c : r - q < 0
      · rw [lstN_neg c, An_neg c]
      · rw [lstN_free (by omega) (by omega)]
    rw [hR]
    by_cases c : r < 0
    · rw [lstN_neg c]
      have : (sumN N fun q => An n (r - q)) = sumN 0 fun q => An n (r - q) := sumN_eq (Nat.zero_le _) fun q _ => An_neg (by omega)
      rw [this]; rfl
    · obtain ⟨k, rfl⟩ := Int.eq_ofNat_of_zero_le (show 0 ≤ r by omega)
      rw [lstN_free (by omega) (by omega), an_sum]
      exact (sumN_eq (by omega) fun q hq => An_neg (by omega)).symm
  | p :: ps, s, r, hs, hb, N, hN => by
    have hp : 1 ≤ p.1 := by have := hb.1; omega
    have hb2 : Beh p.1 ps := beh_ch hp hb.2.2
    have hm : 1 ≤ p.1 / s := (Int.le_ediv_iff_mul_le (by omega)).mpr (by have := hb.1; omega)
    obtain ⟨m, em⟩ := Int.eq_ofNat_of_zero_le (show 0 ≤ p.1 / s by omega)
    have hm1 : 1 ≤ m := by omega
    rw [plc, ways_cons]
    dsimp only
    rw [em]
    obtain ⟨M, hM1, hM2, hM3⟩ : ∃ M : Nat, N ≤ m * M ∧ p.2 - (n + 1 : Nat) < M ∧ N ≤ M := ⟨N + (p.2 - (n + 1 : Nat)).toNat + 1, Nat.le_trans (show N ≤ N + (p.2 - (n + 1 : Nat)).toNat + 1 by omega) (Nat.le_mul_of_pos_left _ hm1), by omega, by omega⟩
    rw [ways_chapter n ps p.1 (p.2 - (n + 1 : Nat)) hp hb2 M hM2, lstN_Bq (by omega), show ((m : Int)).toNat = m by omega, bq_sum]
    have hz : ∀ q : Nat, N ≤ q → ways n (plc n s (r - q) (subS s q (p :: ps))) = 0 := fun q hq =>
      ways_low n _ s _ hs (by exact ⟨hb.1, hb.2.1, chok_sub (fun p => p.2 - ((q : Int) / (p.1 / s) + 1)) hb.2.2⟩) (by omega)
    rw [← sumN_eq hM1 hz, sumN_blocks]
    rw [Int.mul_comm, ← sumN_mul]
    refine sumN_congr fun k _ => ?_
    rw [Int.mul_comm, ← sumN_mul]
    refine sumN_congr fun d hd => ?_
    show _ = ways n (plc n s (r - ((m * k + d : Nat) : Int)) ((p.1, p.2 - (((m * k + d : Nat) : Int) / (p.1 / s) + 1)) :: subS s (m * k + d) ps))
    have ek : ((m * k + d : Nat) : Int) / (p.1 / s) = (k : Int) := by
      rw [em]
      have : ((m * k + d : Nat) : Int) / (m : Int) = (((m * k + d) / m : Nat) : Int) := by push_cast; rfl
      rw [this, Nat.mul_add_div (by omega), Nat.div_eq_of_lt hd, Nat.add_zero]
    rw [plc, ways_cons]
    dsimp only
    rw [ek, em, lstN_Bq (by omega), show ((m : Int)).toNat = m by omega]
    have e1 : subS s (m * k + d) ps = subS p.1 k ps := by
      unfold subS
      refine List.map_congr_left fun y hy => ?_
      have hy1 := chok_mul hb.2.2 hp y hy
      have e2 : y.1 / s = p.1 / s * (y.1 / p.1) := by
        obtain ⟨c1, hc1⟩ := Int.dvd_of_emod_eq_zero hb.2.1
        obtain ⟨c2, hc2⟩ := Int.dvd_of_emod_eq_zero hy1
        rw [hc2, hc1, Int.mul_assoc, Int.mul_ediv_cancel_left _ (by omega), Int.mul_ediv_cancel_left _ (by omega), ← Int.mul_assoc, Int.mul_ediv_cancel_left _ (by rw [← hc1]; omega)]
      rw [e2, ← Int.ediv_ediv_of_nonneg (by omega), ek]
    rw [e1]
    congr 2
    · rw [show p.2 - (n + 1 : Nat) = p.2 - ((k : Int) + 1) - n + k by push_cast; omega, Int.mul_add]
      push_cast
      omega
    · congr 1
      push_cast
      omega
theorem sum_cast (f : Nat → Nat) : ∀ N : Nat, ((((List.range N).map f).sum : Nat) : Int) = sumN N fun i => (f i : Int)
  | 0 => rfl
  | N + 1 => by
    rw [sumN_succ, ← sum_cast f N, List.range_succ, List.map_append, List.sum_append, List.map_singleton, List.sum_singleton]
    push_cast; rfl
theorem fits_cons {ps : List (Int × Int)} (h : ∀ p ∈ ps, 1 ≤ p.1) (i : Nat) (s : List Int) : fitsB ps ((1 + (i : Int)) :: s) = fitsB (subP i ps) s := by
  induction ps with
  | nil => rfl
  | cons p r ih =>
    have hp := h p List.mem_cons_self
    have e : pcount ((1 + (i : Int)) :: s) p.1 = (i : Int) / p.1 + 1 + pcount s p.1 := by
      rw [pcount_cons, show 1 + (i : Int) + p.1 - 1 = i + p.1 * 1 by omega, Int.add_mul_ediv_left _ _ (by omega)]
    have ih := ih fun q hq => h q (List.mem_cons_of_mem _ hq)
    unfold fitsB subP at ih ⊢
    rw [List.map_cons, List.all_cons, List.all_cons, ih]
    congr 1
    rw [e]
    by_cases c : pcount s p.1 = p.2 - ((i : Int) / p.1 + 1)
    · rw [decide_eq_true (by omega), decide_eq_true c]
    · rw [decide_eq_false (by omega), decide_eq_false c]
theorem ways_zero : ∀ (ps : List (Int × Int)) (s r : Int), 1 ≤ s → Beh s ps → ways 0 (plc (0 : Nat) s r ps) = if r = 0 ∧ (ps.all fun p => decide (p.2 = 0)) = true then 1 else 0
  | [], s, r, hs, _ => by
    rw [plc, ways_cons, ways_nil, Int.mul_one]
    dsimp only
    unfold lstN
    by_cases c : r = 0
    · rw [if_pos c, if_pos ⟨c, rfl⟩]
    · rw [if_neg c]
      by_cases d : min r (((0 : Nat) : Int) * (r + 1 - 1) - r) < 0
      · rw [if_pos d, if_neg fun z => c z.1]
      · exfalso; rw [Int.min_def] at d; split at d <;> simp at * <;> omega
  | p :: ps, s, r, hs, hb => by
    have hp : 1 ≤ p.1 := by have := hb.1; omega
    have hm : 1 ≤ p.1 / s := (Int.le_ediv_iff_mul_le (by omega)).mpr (by have := hb.1; omega)
    rw [plc, ways_cons, ways_zero ps p.1 _ hp (beh_ch hp hb.2.2)]
    dsimp only
    rw [List.all_cons]
    have h1 : lstN 0 (p.1 / s) (r - p.1 / s * (p.2 - (0 : Nat))) = if r - p.1 / s * (p.2 - (0 : Nat)) = 0 then 1 else 0 := by
      rw [lstN_bnd hm]
      show (if r - p.1 / s * (p.2 - (0 : Nat)) + ((0 : Nat) : Int) = 0 then (1 : Int) else 0) = _
      simp
    rw [h1]
    by_cases c : p.2 = 0
    · rw [c]
      generalize (ps.all fun p => decide (p.2 = 0)) = z
      by_cases d : r = 0
      · subst d
        cases z <;> simp
      · rw [if_neg (show ¬ r - p.1 / s * (0 - ((0 : Nat) : Int)) = 0 by simp; exact d), if_neg (fun y : r = 0 ∧ _ => d y.1), Int.zero_mul]
    · rw [if_neg (show ¬ (p.2 - ((0 : Nat) : Int) = 0 ∧ _) from fun z => c (by omega)), Int.mul_zero, if_neg fun z => by rw [decide_eq_false c] at z; exact absurd z.2 (by simp)]
/-- the books with the page counts of a chain are as many as the places' ways -/
theorem cnt_ways : ∀ (n : Nat) (t : Int) (ps : List (Int × Int)), ChOk 0 ps → (((booksL n t).countP (fitsB ps) : Nat) : Int) = ways n (plc n 1 (t - n) ps)
  | 0, t, ps, h => by
    rw [ways_zero ps 1 _ (Int.le_refl 1) (beh_of h)]
    have e : fitsB ps [] = ps.all fun p => decide (p.2 = 0) := by
      unfold fitsB
      congr 1
      funext p
      have : pcount [] p.1 = 0 := rfl
      rw [this]
      by_cases c : p.2 = 0
      · rw [decide_eq_true c, decide_eq_true c.symm]
      · rw [decide_eq_false c, decide_eq_false fun z => c z.symm]
    rw [booksL, show t - ((0 : Nat) : Int) = t by simp]
    by_cases c : t = 0
    · rw [if_pos c, ← e]
      cases hf : fitsB ps []
      · rw [if_neg fun z => by cases z.2]; simp [hf]
      · rw [if_pos ⟨c, rfl⟩]; simp [hf]
    · rw [if_neg c, if_neg fun z => c z.1]; rfl
  | n + 1, t, ps, h => by
    have h1 : ∀ p ∈ ps, 1 ≤ p.1 := fun p hp => by have := chok_pos h (Int.le_refl 0) p hp; omega
    rw [booksL, List.countP_flatMap]
    have e : (List.map (List.countP (fitsB ps) ∘ fun (i : Nat) => (booksL n (t - (1 + (i : Int)))).map fun s => (1 + (i : Int)) :: s) (List.range (t - (n + 1 : Nat) + 1).toNat)) =
        (List.range (t - (n + 1 : Nat) + 1).toNat).map fun (i : Nat) => (booksL n (t - (1 + (i : Int)))).countP (fitsB (subP i ps)) := by
      refine List.map_congr_left fun i _ => ?_
      show List.countP _ (List.map _ _) = _
      rw [List.countP_map]
      congr 1
      funext s
      exact fits_cons h1 i s
    rw [e, sum_cast, ways_chapter n ps 1 (t - (n + 1 : Nat)) (Int.le_refl 1) (beh_of h) (t - (n + 1 : Nat) + 1).toNat (by omega)]
    refine sumN_congr fun i _ => ?_
    rw [cnt_ways n (t - (1 + (i : Int))) (subP i ps) (chok_sub _ h), subS_one]
    congr 2
    push_cast
    omega
theorem books_some {n : Nat} {t : Int} : booksL n t ≠ [] ↔ (t - n = 0 ∨ (0 < t - n ∧ 0 < n)) := by
  have h := cnt_ways n t [] trivial
  have e : (booksL n t).countP (fitsB []) = (booksL n t).length := List.countP_eq_length.mpr fun _ _ => rfl
  rw [e, plc, ways_cons, ways_nil, Int.mul_one] at h
  dsimp only at h
  rw [← lstN_last, ← h]
  rw [← List.length_pos_iff]
  omega
/-- where a chain breaks first -/
theorem dueC_first (n : Nat) : ∀ (ps : List (Int × Int)) (s r k : Int) (a b : Int), dueC n s r ps k = some (a, b) → ∃ i : Nat, i < ps.length ∧ a = k + i - 1 ∧ b = k + i ∧ (∀ j ≤ i, dueC n s r (ps.take j) k = none) ∧ dueC n s r (ps.take (i + 1)) k ≠ none
  | [], _, _, _, _, _, h => by cases h
  | p :: ps, s, r, k, a, b, h => by
    rw [dueC] at h
    by_cases c : p.2 - n < 0 ∨ ¬ (0 ≤ r - p.1 / s * (p.2 - n) ∧ r - p.1 / s * (p.2 - n) ≤ (n : Int) * (p.1 / s - 1))
    · rw [if_pos c] at h
      cases h
      refine ⟨0, by simp, by simp, by simp, fun j hj => ?_, ?_⟩
      · rw [Nat.le_zero.mp hj]; rfl
      · show dueC n s r (p :: []) k ≠ none
        rw [dueC, if_pos c]; exact fun z => by cases z
    · rw [if_neg c] at h
      obtain ⟨i, h1, h2, h3, h4, h5⟩ := dueC_first n ps p.1 (p.2 - n) (k + 1) a b h
      refine ⟨i + 1, by rw [List.length_cons]; omega, by push_cast; omega, by push_cast; omega, fun j hj => ?_, ?_⟩
      · cases j with
        | zero => rfl
        | succ j =>
          show dueC n s r (p :: ps.take j) k = none
          rw [dueC, if_neg c]; exact h4 j (by omega)
      · show dueC n s r (p :: ps.take (i + 1)) k ≠ none
        rw [dueC, if_neg c]; exact h5
theorem chok_take : ∀ {ps : List (Int × Int)} {b : Int} (i : Nat), ChOk b ps → ChOk b (ps.take i)
  | [], _, i, _ => by rw [List.take_nil]; trivial
  | _ :: _, _, 0, _ => trivial
  | _ :: _, _, i + 1, h => ⟨h.1, h.2.1, chok_take i h.2.2⟩
theorem fit_iff {n : Nat} {t : Int} {ps : List (Int × Int)} (ht : 0 ≤ t) (h : ChOk 0 ps) : (booksL n t).countP (fitsB ps) ≠ 0 ↔ dueX n t ps = none := by
  rw [← ways_due ht h, ← cnt_ways n t ps h]
  omega
/-- the pair that the law finds by trying -/
theorem due_found {n : Nat} {t : Int} {ps : List (Int × Int)} (ht : 0 ≤ t) (h : ChOk 0 ps) :
    ((booksL n t).countP (fitsB ps) ≠ 0 → dueX n t ps = none) ∧ (booksL n t = [] → dueX n t ps = some (-1, -1)) ∧
    (booksL n t ≠ [] → (booksL n t).countP (fitsB ps) = 0 → ∃ i : Nat, i < ps.length ∧ dueX n t ps = some ((i : Int) - 1, (i : Int)) ∧ (∀ j ≤ i, (booksL n t).countP (fitsB (ps.take j)) ≠ 0) ∧ (booksL n t).countP (fitsB (ps.take (i + 1))) = 0) := by
  refine ⟨(fit_iff ht h).mp, fun e => ?_, fun e c => ?_⟩
  · unfold dueX
    rw [if_neg fun z => books_some.mpr z e]
  · have z := books_some.mp e
    cases hd : dueX n t ps with
    | none => exact absurd c ((fit_iff ht h).mpr hd)
    | some p =>
      obtain ⟨a, b⟩ := p
      have hd' := hd
      unfold dueX at hd'
      rw [if_pos z] at hd'
      obtain ⟨i, h1, h2, h3, h4, h5⟩ := dueC_first n ps 1 (t - n) 0 a b hd'
      refine ⟨i, h1, by rw [h2, h3]; simp, fun j hj => ?_, ?_⟩
      · rw [fit_iff ht (chok_take j h)]
        unfold dueX
        rw [if_pos z]; exact h4 j hj
      · have : ¬ (booksL n t).countP (fitsB (ps.take (i + 1))) ≠ 0 := fun y => by
          rw [fit_iff ht (chok_take _ h)] at y
          unfold dueX at y
          rw [if_pos z] at y
          exact h5 y
        omega
theorem books_len : ∀ {n : Nat} {t : Int} {s : List Int}, s ∈ booksL n t → s.length = n ∧ (∀ x ∈ s, 1 ≤ x ∧ x ≤ t) ∧ s.sum = t
  | 0, t, s, h => by
    rw [booksL] at h
    by_cases c : t = 0
    · rw [if_pos c] at h
      cases List.mem_singleton.mp h
      exact ⟨rfl, fun x hx => absurd hx List.not_mem_nil, c.symm⟩
    · rw [if_neg c] at h; cases h
  | n + 1, t, s, h => by
    rw [booksL] at h
    obtain ⟨i, hi, h⟩ := List.mem_flatMap.mp h
    obtain ⟨r, hr, rfl⟩ := List.mem_map.mp h
    obtain ⟨h1, h2, h3⟩ := books_len hr
    have hi := List.mem_range.mp hi
    have p : (0 : Int) ≤ t - (1 + i) := by omega
    refine ⟨by rw [List.length_cons, h1], fun x hx => ?_, by rw [List.sum_cons, h3]; omega⟩
    rcases List.mem_cons.mp hx with e | hx
    · subst e; omega
    · have := h2 x hx; omega
theorem sum_le_mul {B : Nat} : ∀ {xs : List Nat}, (∀ x ∈ xs, x ≤ B) → xs.sum ≤ xs.length * B
  | [], _ => by simp
  | x :: r, h => by
    have h1 := h x List.mem_cons_self
    have h2 := sum_le_mul fun y hy => h y (List.mem_cons_of_mem x hy)
    rw [List.sum_cons, List.length_cons, Nat.succ_mul]; omega
theorem booksL_len : ∀ (n : Nat) (t : Int), t ≤ 13 → (booksL n t).length ≤ 13 ^ n
  | 0, t, _ => by rw [booksL]; split <;> decide
  | n + 1, t, h => by
    rw [booksL, List.length_flatMap]
    refine Nat.le_trans (sum_le_mul (B := 13 ^ n) fun x hx => ?_) ?_
    · obtain ⟨i, _, rfl⟩ := List.mem_map.mp hx
      rw [List.length_map]
      exact booksL_len n _ (by omega)
    · rw [List.length_map, List.length_range, Nat.pow_succ, Nat.mul_comm]
      exact Nat.mul_le_mul_left _ (by omega)
theorem flat_len (i m : Nat) (t : Int) (h : t ≤ 13) : ((List.range i).flatMap fun (i : Nat) => (booksL m (t - (1 + (i : Int)))).map fun s => (1 + (i : Int)) :: s).length ≤ i * 13 ^ m := by
  rw [List.length_flatMap]
  refine Nat.le_trans (sum_le_mul (B := 13 ^ m) fun x hx => ?_) (by rw [List.length_map, List.length_range]; exact Nat.le_refl _)
  obtain ⟨j, _, rfl⟩ := List.mem_map.mp hx
  rw [List.length_map]
  exact booksL_len m _ (by omega)
/-- what does not fit -/
theorem fits_filter (ps : List (Int × Int)) (xs : List (List Int)) : ((xs.filter (fitsB ps)).length : Nat) = xs.countP (fitsB ps) := (List.countP_eq_length_filter ..).symm
theorem pcount_few {w B : Int} (hw : 1 ≤ w) : ∀ {ls : List Int}, (∀ x ∈ ls, 1 ≤ x ∧ x ≤ B) → 0 ≤ pcount ls w ∧ pcount ls w ≤ B * ls.length
  | [], _ => by
    have : pcount [] w = 0 := rfl
    rw [this]; simp
  | x :: r, h => by
    have h1 := h x List.mem_cons_self
    have h2 := pcount_few hw fun y hy => h y (List.mem_cons_of_mem x hy)
    have e0 : 0 ≤ (x + w - 1) / w := Int.ediv_nonneg (by omega) (by omega)
    have e1 : (x + w - 1) / w ≤ x := by
      have : x + w - 1 ≤ x * w := by
        have h3 := Int.mul_le_mul_of_nonneg_left (show (1 : Int) ≤ w by omega) (show 0 ≤ x - 1 by omega)
        have h4 : (x - 1) * w = x * w - w := by rw [Int.sub_mul, Int.one_mul]
        omega
      have := Int.ediv_le_ediv (show 0 < w by omega) this
      rwa [Int.mul_ediv_cancel _ (by omega)] at this
    rw [pcount_cons, List.length_cons, show ((r.length + 1 : Nat) : Int) = r.length + 1 by push_cast; rfl, Int.mul_add]
    omega
/-! The digit that a book's number tells (nth_fitting): the shares, and where the number lies among them. -/
/-- the digit d: x' is the number within its share sh; ahead of it lie the shares of the smaller digits -/
structure Dig (n : Nat) (m t c x : Int) (d : Nat) (x' sh : Int) : Prop where
  eq_ : sh = c * lstN n m (t - d)
  at_ : x = x' + c * sumN d fun e => lstN n m (t - e)
  x0 : 0 ≤ x'
  x1 : x' < sh
theorem sumN_nonneg {f : Nat → Int} (h : ∀ i, 0 ≤ f i) : ∀ N, 0 ≤ sumN N f
  | 0 => Int.le_refl 0
  | N + 1 => by rw [sumN_succ]; have := sumN_nonneg h N; have := h N; omega
theorem sumN_mono {f : Nat → Int} (h : ∀ i, 0 ≤ f i) {N M : Nat} (l : N ≤ M) : sumN N f ≤ sumN M f := by
  obtain ⟨k, rfl⟩ := Nat.exists_eq_add_of_le l
  rw [sumN_shift]
  have := sumN_nonneg (f := fun d => f (N + d)) (fun i => h _) k
  omega
theorem sumN_none {f : Nat → Int} : ∀ N, (∀ i, i < N → f i = 0) → sumN N f = 0
  | 0, _ => rfl
  | N + 1, h => by rw [sumN_succ, sumN_none N fun i hi => h i (by omega), h N (by omega)]; rfl
/-- the lists of n + 1 by their first digit -/
theorem lstN_sum {n : Nat} {m t : Int} (hm : 1 ≤ m) : lstN (n + 1) m t = sumN m.toNat fun d => lstN n m (t - d) := by
  rw [lstN_Bq hm, bq_sum]
  exact sumN_congr fun d _ => (lstN_Bq hm).symm
theorem dig_lt {w : Nat → Int} {c x : Int} {M k : Nat} (hw : ∀ e, 0 ≤ w e) (hc : 0 ≤ c) (hx : x < c * sumN M w) (h : 0 ≤ x - c * sumN k w) : k < M := by
  apply Nat.lt_of_not_ge
  intro l
  have := Int.mul_le_mul_of_nonneg_left (sumN_mono hw l) hc
  omega
theorem share_is {c W v : Int} (h : W ≠ 0) : c * W * v / W = c * v := by
  rw [show c * W * v = W * (c * v) by rw [Int.mul_comm c W, Int.mul_assoc]]
  exact Int.mul_ediv_cancel_left _ h
theorem lstN_zero {n : Nat} {m t : Int} (hm : 1 ≤ m) (h : (n : Int) * (m - 1) < t) : lstN n m t = 0 := by
  have h1 := lstN_nonneg n m t
  by_cases c : 0 < lstN n m t
  · have := (lstN_pos hm).mp c
    omega
  · omega
/-- free digits: no limit is felt -/
theorem An_share {n : Nat} {f : Int} (hf : 0 ≤ f) : (f + (n + 1 : Nat)) * An (n + 1) f = (n + 1 : Nat) * An (n + 2) f := by
  rw [An_bin hf, show An (n + 2) f = An (n + 1 + 1) f from rfl, An_bin hf]
  obtain ⟨k, rfl⟩ := Int.eq_ofNat_of_zero_le hf
  have e1 : ((k : Int) + (n : Nat)).toNat = k + n := by omega
  have e2 : ((k : Int) + ((n + 1 : Nat) : Int)).toNat = k + n + 1 := by omega
  rw [e1, e2]
  have := binC_up (k + n) n (by omega)
  show ((k : Int) + ((n + 1 : Nat) : Int)) * ((HS.binC (k + n) n : Nat) : Int) = ((n + 1 : Nat) : Int) * ((HS.binC (k + n + 1) (n + 1) : Nat) : Int)
  rw [← Int.natCast_mul, this]
  push_cast
  rw [Int.add_assoc]
theorem free_share {n : Nat} {c f : Int} (hf : 0 ≤ f) : c * An (n + 2) f * (n + 1 : Nat) / (f + (n + 1 : Nat)) = c * An (n + 1) f := by
  have e : c * An (n + 2) f * (n + 1 : Nat) = (f + (n + 1 : Nat)) * (c * An (n + 1) f) := by
    rw [Int.mul_left_comm, An_share hf, Int.mul_assoc, Int.mul_comm (An (n + 2) f)]
  rw [e]
  exact Int.mul_ediv_cancel_left _ (by omega)
theorem free_rest {n : Nat} {c f : Int} : c * An (n + 1) f - c * An n f = c * An (n + 1) (f - 1) := by
  rw [← Int.mul_sub, An_step n f]
  congr 1
  omega
theorem An_0 (n : Nat) : An n 0 = 1 := by
  induction n with
  | zero => rfl
  | succ n ih => rw [An_step, ih, An_neg (by omega)]; rfl
theorem An_sub (n : Nat) (f : Int) : ∀ k : Nat, An (n + 1) f = An (n + 1) (f - k) + sumN k fun e => An n (f - e)
  | 0 => by rw [show sumN 0 (fun e => An n (f - e)) = 0 from rfl]; simp
  | k + 1 => by
    rw [An_sub n f k, sumN_succ, An_step n (f - k), show f - (k : Int) - 1 = f - ((k + 1 : Nat) : Int) by push_cast; omega]
    omega
/-- digits 0 and 1 -/
theorem two_step {n : Nat} {t : Int} : lstN (n + 1) 2 t = lstN n 2 t + lstN n 2 (t - 1) := by
  rw [lstN_sum (by decide)]
  show sumN 2 _ = _
  rw [sumN_succ, sumN_succ]
  show 0 + _ + _ = _
  simp
theorem two_bin : ∀ (n k : Nat), lstN n 2 k = (HS.binC n k : Nat)
  | 0, 0 => by rw [HS.binC_0]; rfl
  | 0, k + 1 => by
    rw [lstN_zero (by decide) (by push_cast; omega)]; rfl
  | n + 1, 0 => by
    rw [two_step, lstN_neg (show ((0 : Nat) : Int) - 1 < 0 by omega), show ((0 : Nat) : Int) = ((0 : Nat) : Int) from rfl, two_bin n 0, HS.binC_0, HS.binC_0]; rfl
  | n + 1, k + 1 => by
    rw [two_step, two_bin n (k + 1), show ((k + 1 : Nat) : Int) - 1 = (k : Nat) by omega, two_bin n k]
    show _ = ((HS.binC n k + HS.binC n (k + 1) : Nat) : Int)
    push_cast; omega
theorem binC_down (n k : Nat) : (n + 1 - k) * HS.binC (n + 1) k = (n + 1) * HS.binC n k := by
  cases k with
  | zero => rw [HS.binC_0, HS.binC_0, Nat.sub_zero]
  | succ k =>
    show (n + 1 - (k + 1)) * (HS.binC n k + HS.binC n (k + 1)) = _
    by_cases c : n < k
    · rw [HS.binC_above n k c, HS.binC_above n (k + 1) (by omega)]; simp
    · have h := HS.binC_next n k
      rw [Nat.mul_add, show n + 1 - (k + 1) = n - k by omega, ← h, ← Nat.add_mul]
      congr 1
      omega
theorem two_share {n : Nat} {c t : Int} (h0 : 0 ≤ t) (h1 : t ≤ (n + 1 : Nat)) : c * lstN (n + 1) 2 t * ((n + 1 : Nat) - t) / (n + 1 : Nat) = c * lstN n 2 t := by
  obtain ⟨k, rfl⟩ := Int.eq_ofNat_of_zero_le h0
  have e : ((n + 1 : Nat) : Int) - k = ((n + 1 - k : Nat) : Int) := by omega
  rw [two_bin, two_bin, e, Int.mul_assoc, ← Int.natCast_mul, Nat.mul_comm, binC_down, Int.natCast_mul, Int.mul_left_comm]
  exact Int.mul_ediv_cancel_left _ (by omega)
/-- the end of the walk through the shares -/
theorem dig_end {n : Nat} {m t c x x' : Int} {k : Nat} (e : x = x' + c * sumN k fun e => lstN n m (t - e)) (h0 : 0 ≤ x') (h : x' < c * lstN n m (t - k)) : Dig n m t c x k x' (c * lstN n m (t - k)) := ⟨rfl, e, h0, h⟩
theorem dig_next {n : Nat} {m t c x x' : Int} {k : Nat} (e : x = x' + c * sumN k fun e => lstN n m (t - e)) : x = x' - c * lstN n m (t - k) + c * sumN (k + 1) fun e => lstN n m (t - e) := by
  rw [sumN_succ, Int.mul_add]
  omega
/-- a digit that is told stays within what there is -/
theorem Dig.le {n : Nat} {m t c x x' sh : Int} {d : Nat} (h : Dig n m t c x d x' sh) (hc : 0 ≤ c) : (d : Int) ≤ t ∧ 0 < c ∧ 0 < lstN n m (t - d) := by
  have h1 := h.x0
  have h2 := h.x1
  rw [h.eq_] at h2
  have l0 := lstN_nonneg n m (t - d)
  have lp : 0 < lstN n m (t - d) := by
    apply Int.lt_of_not_ge
    intro g
    rw [show lstN n m (t - d) = 0 by omega, Int.mul_zero] at h2
    omega
  refine ⟨?_, ?_, lp⟩
  · apply Int.le_of_not_gt
    intro g
    rw [lstN_neg (by omega)] at lp
    omega
  · apply Int.lt_of_not_ge
    intro g
    rw [show c = 0 by omega, Int.zero_mul] at h2
    omega
/-- list_lengths: what a chapter's places have in common, one after another (dn done, the rest to come) -/
theorem ways_head (n : Nat) (dn : List (Int × Int × Int)) (p : Int × Int × Int) (r : List (Int × Int × Int)) : ways n dn * ways (n + 1) (p :: r) = ways n dn * ways (n + 1) r * lstN (n + 1) p.2.1 p.2.2 := by
  rw [ways_cons, Int.mul_assoc, Int.mul_comm (ways (n + 1) r)]
theorem ways_done (n : Nat) (dn r : List (Int × Int × Int)) (s m t : Int) : ways n dn * ways (n + 1) r * lstN n m t = ways n (dn ++ [(s, m, t)]) * ways (n + 1) r := by
  rw [ways_app, Int.mul_right_comm]
theorem lstN_0 (n : Nat) (m : Int) : lstN n m 0 = 1 := by unfold lstN; rw [if_pos rfl]
/-- places that are used up don't count -/
theorem ways_left (n : Nat) : ∀ ts : List (Int × Int × Int), (∀ t ∈ ts, 0 ≤ t.2.2) → ways n (ts.filter fun t => decide (0 < t.2.2)) = ways n ts
  | [], _ => rfl
  | t :: ts, h => by
    have ih := ways_left n ts fun u hu => h u (List.mem_cons_of_mem _ hu)
    have h0 := h t List.mem_cons_self
    by_cases c : 0 < t.2.2
    · rw [List.filter_cons_of_pos (by simpa using c), ways_cons, ways_cons, ih]
    · rw [List.filter_cons_of_neg (by simpa using c), ih, ways_cons, show t.2.2 = 0 by omega, lstN_0, Int.one_mul]
/-! All digits of a chapter, and all chapters of the book with a number (list_lengths). -/
abbrev T3 := Int × Int × Int
/-- the digits at the places, one after another; c is what the places done have in common, k what stands aside -/
def Digs (n : Nat) (k : Int) : Int → List T3 → List Nat → Int → Int → Int → Prop
  | c, [], [], x, c', x' => c' = c ∧ x' = x
  | c, p :: r, d :: ds, x, c', x' => ∃ y sh, Dig n p.2.1 p.2.2 (c * k * ways (n + 1) r) x d y sh ∧ Digs n k (c * lstN n p.2.1 (p.2.2 - d)) r ds y c' x'
  | _, [], _ :: _, _, _, _ => False
  | _, _ :: _, [], _, _, _ => False
def dsum : List T3 → List Nat → Int
  | p :: r, d :: ds => d * p.1 + dsum r ds
  | _, _ => 0
def sub3 : List T3 → List Nat → List T3
  | p :: r, d :: ds => (p.1, p.2.1, p.2.2 - d) :: sub3 r ds
  | _, _ => []
def pos3 (ts : List T3) : List T3 := ts.filter fun t => decide (0 < t.2.2)
theorem Dig.sh_le {n : Nat} {m t c x x' sh : Int} {d : Nat} (h : Dig n m t c x d x' sh) (hm : 1 ≤ m) (hc : 0 ≤ c) (hx : x < c * lstN (n + 1) m t) : (d : Int) < m ∧ sh ≤ c * lstN (n + 1) m t := by
  have hw : ∀ e : Nat, 0 ≤ lstN n m (t - e) := fun e => lstN_nonneg _ _ _
  rw [lstN_sum hm] at hx
  have h1 := h.at_
  have h2 := h.x0
  have dm : d < m.toNat := dig_lt (x := x) hw hc hx (by omega)
  refine ⟨by omega, ?_⟩
  rw [h.eq_, lstN_sum hm]
  refine Int.mul_le_mul_of_nonneg_left ?_ hc
  have a := sumN_mono hw (show d + 1 ≤ m.toNat by omega)
  rw [sumN_succ] at a
  have b := sumN_nonneg hw d
  omega
theorem digs_snoc (n : Nat) (k : Int) (b : T3) : ∀ (A : List T3) (c x c' x' : Int) (ds : List Nat), Digs n k c (A ++ [b]) ds x c' x' → ∃ dA d y cA sh, ds = dA ++ [d] ∧ Digs n (k * lstN (n + 1) b.2.1 b.2.2) c A dA x cA y ∧ Dig n b.2.1 b.2.2 (cA * k) y d x' sh ∧ c' = cA * lstN n b.2.1 (b.2.2 - d) ∧ dsum (A ++ [b]) ds = dsum A dA + d * b.1 ∧ sub3 (A ++ [b]) ds = sub3 A dA ++ [(b.1, b.2.1, b.2.2 - d)]
  | [], c, x, c', x', [], h => h.elim
  | [], c, x, c', x', [d], h => by
    obtain ⟨y, sh, h1, h2, h3⟩ := h
    subst h3
    refine ⟨[], d, x, c, sh, rfl, ⟨rfl, rfl⟩, ?_, h2, by show _ + 0 = 0 + _; omega, rfl⟩
    have : c * k * ways (n + 1) [] = c * k := by rw [ways_nil, Int.mul_one]
    rw [this] at h1
    exact h1
  | [], c, x, c', x', d :: e :: ds, h => by
    obtain ⟨y, sh, h1, h2⟩ := h
    exact h2.elim
  | a :: A, c, x, c', x', [], h => h.elim
  | a :: A, c, x, c', x', d :: ds, h => by
    obtain ⟨y, sh, h1, h2⟩ := h
    obtain ⟨dA, e, z, cA, sh', e1, e2, e3, e4, e5, e6⟩ := digs_snoc n k b A _ _ _ _ _ h2
    subst e1
    refine ⟨d :: dA, e, z, cA, sh', rfl, ⟨y, sh, ?_, e2⟩, e3, e4, ?_, ?_⟩
    · have : c * k * ways (n + 1) (A ++ [b]) = c * (k * lstN (n + 1) b.2.1 b.2.2) * ways (n + 1) A := by
        rw [ways_app, Int.mul_assoc, Int.mul_assoc, Int.mul_assoc, Int.mul_comm (ways (n + 1) A)]
      rw [← this]
      exact h1
    · show d * a.1 + dsum (A ++ [b]) (dA ++ [e]) = d * a.1 + dsum A dA + _
      rw [e5]; omega
    · show (a.1, a.2.1, a.2.2 - (d : Int)) :: sub3 (A ++ [b]) (dA ++ [e]) = (a.1, a.2.1, a.2.2 - (d : Int)) :: sub3 A dA ++ _
      rw [e6]; rfl
theorem digs_nonneg (n : Nat) (k : Int) (hk : 0 ≤ k) : ∀ (R : List T3) (c x c' x' : Int) (ds : List Nat), 0 ≤ c → Digs n k c R ds x c' x' → ∀ t ∈ sub3 R ds, 0 ≤ t.2.2
  | [], c, x, c', x', [], _, h, t, ht => by cases ht
  | [], c, x, c', x', _ :: _, _, h, t, ht => h.elim
  | _ :: _, c, x, c', x', [], _, h, t, ht => h.elim
  | p :: R, c, x, c', x', d :: ds, hc, h, t, ht => by
    obtain ⟨y, sh, h1, h2⟩ := h
    rcases List.mem_cons.mp ht with e | e
    · subst e
      have := (h1.le (Int.mul_nonneg (Int.mul_nonneg hc hk) (ways_nonneg _ _))).1
      show 0 ≤ p.2.2 - (d : Int)
      omega
    · exact digs_nonneg n k hk R _ y c' x' ds (Int.mul_nonneg hc (lstN_nonneg _ _ _)) h2 t e
/-- places without a digit may be left out -/
theorem digs_fill (n : Nat) (k : Int) : ∀ (R : List T3) (c x c' x' : Int) (ds : List Nat), (∀ t ∈ R, 0 ≤ t.2.2) → 0 ≤ x → x < c * k * ways (n + 1) R → Digs n k c (pos3 R) ds x c' x' → ∃ ds', Digs n k c R ds' x c' x' ∧ dsum R ds' = dsum (pos3 R) ds ∧ pos3 (sub3 R ds') = pos3 (sub3 (pos3 R) ds)
  | [], c, x, c', x', ds, _, _, _, h => ⟨ds, h, rfl, rfl⟩
  | p :: R, c, x, c', x', ds, h0, x0, x1, h => by
    have hp := h0 p List.mem_cons_self
    have hR := fun t ht => h0 t (List.mem_cons_of_mem _ ht)
    rw [ways_cons, Int.mul_comm (lstN _ _ _), ← Int.mul_assoc] at x1
    by_cases c0 : 0 < p.2.2
    · have ef : pos3 (p :: R) = p :: pos3 R := List.filter_cons_of_pos (by simpa using c0)
      rw [ef] at h ⊢
      cases ds with
      | nil => exact h.elim
      | cons d ds =>
        obtain ⟨y, sh, h1, h2⟩ := h
        have ew : ways (n + 1) (pos3 R) = ways (n + 1) R := ways_left (n + 1) R hR
        rw [ew] at h1
        obtain ⟨ds', a1, a2, a3⟩ := digs_fill n k R _ y c' x' ds hR h1.x0 (by
          have := h1.x1
          rw [h1.eq_] at this
          rw [Int.mul_right_comm c (lstN _ _ _), Int.mul_right_comm (c * k)]
          exact this) h2
        refine ⟨d :: ds', ⟨y, sh, h1, a1⟩, by show _ + _ = _ + _; rw [a2], ?_⟩
        show pos3 (_ :: sub3 R ds') = pos3 (_ :: sub3 (pos3 R) ds)
        by_cases g : 0 < p.2.2 - (d : Int)
        · have e1 : ∀ r : List T3, pos3 ((p.1, p.2.1, p.2.2 - (d : Int)) :: r) = (p.1, p.2.1, p.2.2 - (d : Int)) :: pos3 r := fun r => List.filter_cons_of_pos (by simpa using g)
          rw [e1, e1, a3]
        · have e1 : ∀ r : List T3, pos3 ((p.1, p.2.1, p.2.2 - (d : Int)) :: r) = pos3 r := fun r => List.filter_cons_of_neg (by simpa using g)
          rw [e1, e1, a3]
    · have ef : pos3 (p :: R) = pos3 R := List.filter_cons_of_neg (by simpa using c0)
      have z : p.2.2 = 0 := by omega
      rw [ef] at h ⊢
      rw [z, lstN_0, Int.mul_one] at x1
      obtain ⟨ds', a1, a2, a3⟩ := digs_fill n k R c x c' x' ds hR x0 x1 h
      have zl : lstN n p.2.1 (p.2.2 - ((0 : Nat) : Int)) = 1 := by rw [z]; exact lstN_0 n _
      refine ⟨0 :: ds', ⟨x, c * k * ways (n + 1) R, ⟨by rw [zl, Int.mul_one], by show x = x + _ * 0; simp, x0, x1⟩, by rw [zl, Int.mul_one]; exact a1⟩, ?_, ?_⟩
      · show ((0 : Nat) : Int) * p.1 + dsum R ds' = _
        rw [a2]; simp
      · have e1 : pos3 (sub3 (p :: R) (0 :: ds')) = pos3 (sub3 R ds') := List.filter_cons_of_neg (by
          show ¬ decide (0 < p.2.2 - ((0 : Nat) : Int)) = true
          rw [z]; decide)
        rw [e1, a3]
/-- the places of a chain, with another limit at the last one -/
def plcM (L c : Int) : Int → Int → List (Int × Int) → List T3
  | size, rest, [] => [(size, L, rest)]
  | size, rest, p :: r => (size, p.1 / size, rest - p.1 / size * (p.2 - c)) :: plcM L c p.1 (p.2 - c) r
/-- the sum at the last place -/
def lastR (c : Int) : Int → List (Int × Int) → Int
  | rest, [] => rest
  | _, p :: r => lastR c (p.2 - c) r
theorem plcM_self (c : Int) : ∀ (ps : List (Int × Int)) (s r : Int), plcM (lastR c r ps + 1) c s r ps = plc c s r ps
  | [], _, _ => rfl
  | p :: ps, s, r => by
    rw [plcM, plc, lastR, plcM_self c ps]
theorem lstN_lim {n : Nat} {L t : Int} (h : t < L) : lstN n L t = lstN n (t + 1) t := by
  by_cases c : t < 0
  · rw [lstN_neg c, lstN_neg c]
  · rw [lstN_free (by omega) h, lstN_free (by omega) (by omega)]
theorem ways_lim (n : Nat) (c L : Int) : ∀ (ps : List (Int × Int)) (s r : Int), lastR c r ps < L → ways n (plcM L c s r ps) = ways n (plc c s r ps)
  | [], s, r, h => by
    rw [plcM, plc, ways_cons, ways_cons]
    dsimp only
    rw [lstN_lim (show r < L from h)]
  | p :: ps, s, r, h => by
    rw [plcM, plc, ways_cons, ways_cons, ways_lim n c L ps p.1 _ h]
theorem ways_append (n : Nat) (A : List T3) : ∀ B : List T3, ways n (A ++ B) = ways n A * ways n B := by
  induction A with
  | nil => intro B; rw [List.nil_append, ways_nil, Int.one_mul]
  | cons a A ih => intro B; rw [List.cons_append, ways_cons, ih, ways_cons, Int.mul_assoc]
theorem ways_rev (n : Nat) : ∀ A : List T3, ways n A.reverse = ways n A
  | [] => rfl
  | a :: A => by rw [List.reverse_cons, ways_app, ways_rev n A, ways_cons, Int.mul_comm]
/-- the books of a chapter with m k + d lines more than one -/
theorem ways_block (n : Nat) {p : Int × Int} {ps : List (Int × Int)} {s r : Int} (hs : 1 ≤ s) (hb : Beh s (p :: ps)) {m : Nat} (em : p.1 / s = m) (k d : Nat) (hd : d < m) :
    ways n (plc n s (r - ((m * k + d : Nat) : Int)) (subS s (m * k + d) (p :: ps))) = lstN n m (r - m * (p.2 - (n + 1 : Nat)) - d) * ways n (plc n p.1 (p.2 - (n + 1 : Nat) - k) (subS p.1 k ps)) := by
  have hp : 1 ≤ p.1 := by have := hb.1; omega
  show ways n (plc n s (r - ((m * k + d : Nat) : Int)) ((p.1, p.2 - (((m * k + d : Nat) : Int) / (p.1 / s) + 1)) :: subS s (m * k + d) ps)) = _
  have ek : ((m * k + d : Nat) : Int) / (p.1 / s) = (k : Int) := by
    rw [em]
    have : ((m * k + d : Nat) : Int) / (m : Int) = (((m * k + d) / m : Nat) : Int) := by push_cast; rfl
    rw [this, Nat.mul_add_div (by omega), Nat.div_eq_of_lt hd, Nat.add_zero]
  rw [plc, ways_cons]
  dsimp only
  rw [ek, em]
  have e1 : subS s (m * k + d) ps = subS p.1 k ps := by
    unfold subS
    refine List.map_congr_left fun y hy => ?_
    have hy1 := chok_mul hb.2.2 hp y hy
    have e2 : y.1 / s = p.1 / s * (y.1 / p.1) := by
      obtain ⟨c1, hc1⟩ := Int.dvd_of_emod_eq_zero hb.2.1
      obtain ⟨c2, hc2⟩ := Int.dvd_of_emod_eq_zero hy1
      rw [hc2, hc1, Int.mul_assoc, Int.mul_ediv_cancel_left _ (by omega), Int.mul_ediv_cancel_left _ (by omega), ← Int.mul_assoc, Int.mul_ediv_cancel_left _ (by rw [← hc1]; omega)]
    rw [e2, ← Int.ediv_ediv_of_nonneg (by omega), ek]
  rw [e1]
  congr 2
  · rw [show p.2 - (n + 1 : Nat) = p.2 - ((k : Int) + 1) - n + k by push_cast; omega, Int.mul_add]
    push_cast
    omega
  · congr 1
    push_cast
    omega
theorem lastR_sub (n : Nat) : ∀ (ps : List (Int × Int)) (s : Int) (q : Nat) (r : Int), ps ≠ [] → (∀ p ∈ ps, 1 ≤ p.1 / s) → lastR n r (subS s q ps) ≤ lastR (n + 1 : Nat) r ps
  | [], _, _, _, h, _ => absurd rfl h
  | [p], s, q, r, _, h => by
    show p.2 - ((q : Int) / (p.1 / s) + 1) - n ≤ p.2 - (n + 1 : Nat)
    have := Int.ediv_nonneg (show 0 ≤ (q : Int) by omega) (show 0 ≤ p.1 / s by have := h p List.mem_cons_self; omega)
    push_cast
    omega
  | p :: p2 :: ps, s, q, r, _, h => by
    have ih := lastR_sub n (p2 :: ps) s q (p.2 - (n + 1 : Nat)) (by simp) fun t ht => h t (List.mem_cons_of_mem _ ht)
    exact ih
/-- the digits of a chapter tell how many lines it has more than one, and how many books lie ahead -/
theorem digs_chain (n : Nat) (L : Int) : ∀ (ps : List (Int × Int)) (s r k c x c' x' : Int) (ds : List Nat), 1 ≤ s → Beh s ps → lastR (n + 1 : Nat) r ps < L → 0 ≤ c → 0 ≤ k → x < c * k * ways (n + 1) (plc (n + 1 : Nat) s r ps) → Digs n k c (plcM L (n + 1 : Nat) s r ps).reverse ds x c' x' →
    ∃ q : Nat, dsum (plcM L (n + 1 : Nat) s r ps).reverse ds = s * q ∧ x = x' + c * k * (sumN q fun j => ways n (plc n s (r - j) (subS s j ps))) ∧ c' = c * ways n (plc n s (r - q) (subS s q ps)) ∧ sub3 (plcM L (n + 1 : Nat) s r ps).reverse ds = (plcM L n s (r - q) (subS s q ps)).reverse ∧ lastR n (r - q) (subS s q ps) < L ∧ 0 ≤ x' ∧ x' < c' * k
  | [], s, r, k, c, x, c', x', [], hs, hb, hL, hc, hk, hx, h => h.elim
  | [], s, r, k, c, x, c', x', _ :: _ :: _, hs, hb, hL, hc, hk, hx, h => by
    obtain ⟨_, _, _, h⟩ := h
    exact h.elim
  | [], s, r, k, c, x, c', x', [d], hs, hb, hL, hc, hk, hx, h => by
    obtain ⟨y, sh, h1, h2, h3⟩ := h
    subst h3
    have hL' : r < L := hL
    have ew : ∀ j : Nat, ways n (plc n s (r - j) (subS s j [])) = lstN n L (r - j) := fun j => by
      show ways n (plc n s (r - j) []) = _
      rw [plc, ways_cons, ways_nil, Int.mul_one]
      exact (lstN_lim (by omega)).symm
    have e1 : c * k * ways (n + 1) [] = c * k := by rw [ways_nil, Int.mul_one]
    rw [e1] at h1
    dsimp only at h1 h2
    refine ⟨d, by show (d : Int) * s + 0 = _; rw [Int.mul_comm]; omega, ?_, by rw [ew, h2], rfl, by show r - (d : Int) < L; omega, h1.x0, ?_⟩
    · rw [sumN_congr fun j _ => ew j]
      exact h1.at_
    · have := h1.x1
      rw [h1.eq_, Int.mul_right_comm] at this
      rw [h2]
      exact this
  | p :: ps, s, r, k, c, x, c', x', ds, hs, hb, hL, hc, hk, hx, h => by
    have hp : 1 ≤ p.1 := by have := hb.1; omega
    have hb2 : Beh p.1 ps := beh_ch hp hb.2.2
    have hm : 1 ≤ p.1 / s := (Int.le_ediv_iff_mul_le (by omega)).mpr (by have := hb.1; omega)
    obtain ⟨m, em⟩ := Int.eq_ofNat_of_zero_le (show 0 ≤ p.1 / s by omega)
    have hm1 : 1 ≤ m := by omega
    rw [plcM, em, List.reverse_cons] at h ⊢
    rw [plc, ways_cons, em] at hx
    dsimp only at hx
    obtain ⟨dA, d, y, cA, sh, e1, e2, e3, e4, e5, e6⟩ := digs_snoc n k _ _ _ _ _ _ _ h
    dsimp only at e2 e3 e4 e5 e6
    generalize htt : r - (m : Int) * (p.2 - ((n + 1 : Nat) : Int)) = tt at hx e2 e3 e4 e5 e6
    have W0 := lstN_nonneg (n + 1) m tt
    obtain ⟨q1, i1, i2, i3, i4, i5, i6, i7⟩ := digs_chain n L ps p.1 (p.2 - (n + 1 : Nat)) (k * lstN (n + 1) m tt) c x cA y dA hp hb2 hL hc (Int.mul_nonneg hk W0) (by
      rw [← Int.mul_assoc, Int.mul_assoc]; exact hx) e2
    have cA0 : 0 ≤ cA := by rw [i3]; exact Int.mul_nonneg hc (ways_nonneg _ _)
    obtain ⟨dm, _⟩ := e3.sh_le (by omega) (Int.mul_nonneg cA0 hk) (by rw [Int.mul_assoc]; exact i7)
    have blk := fun j e (he : e < m) => ways_block (n := n) (r := r) hs hb em j e he
    rw [htt] at blk
    have dm' : d < m := by omega
    have eq1 : ((m * q1 + d : Nat) : Int) / (p.1 / s) = q1 := by
      rw [em]
      have : ((m * q1 + d : Nat) : Int) / (m : Int) = (((m * q1 + d) / m : Nat) : Int) := by push_cast; rfl
      rw [this, Nat.mul_add_div (by omega), Nat.div_eq_of_lt dm', Nat.add_zero]
    have e1' : subS s (m * q1 + d) ps = subS p.1 q1 ps := by
      unfold subS
      refine List.map_congr_left fun y hy => ?_
      have hy1 := chok_mul hb.2.2 hp y hy
      have e2 : y.1 / s = p.1 / s * (y.1 / p.1) := by
        obtain ⟨c1, hc1⟩ := Int.dvd_of_emod_eq_zero hb.2.1
        obtain ⟨c2, hc2⟩ := Int.dvd_of_emod_eq_zero hy1
        rw [hc2, hc1, Int.mul_assoc, Int.mul_ediv_cancel_left _ (by omega), Int.mul_ediv_cancel_left _ (by omega), ← Int.mul_assoc, Int.mul_ediv_cancel_left _ (by rw [← hc1]; omega)]
      rw [e2, ← Int.ediv_ediv_of_nonneg (by omega), eq1]
    have esub : subS s (m * q1 + d) (p :: ps) = (p.1, p.2 - ((q1 : Int) + 1)) :: subS p.1 q1 ps := by
      show (p.1, p.2 - (((m * q1 + d : Nat) : Int) / (p.1 / s) + 1)) :: subS s (m * q1 + d) ps = _
      rw [eq1, e1']
    have er : p.2 - ((q1 : Int) + 1) - n = p.2 - ((n + 1 : Nat) : Int) - q1 := by push_cast; omega
    refine ⟨m * q1 + d, ?_, ?_, ?_, ?_, ?_, e3.x0, ?_⟩
    · rw [e5, i1]
      have : p.1 = s * m := by
        have := Int.mul_ediv_add_emod p.1 s
        rw [hb.2.1, em] at this
        omega
      rw [this]
      push_cast
      rw [Int.mul_add, Int.mul_comm (d : Int), Int.mul_assoc]
    · rw [sumN_shift, sumN_blocks, i2, e3.at_]
      have s1 : (sumN q1 fun j => sumN m fun e => ways n (plc n s (r - ((m * j + e : Nat) : Int)) (subS s (m * j + e) (p :: ps)))) = lstN (n + 1) m tt * sumN q1 fun j => ways n (plc n p.1 (p.2 - (n + 1 : Nat) - j) (subS p.1 j ps)) := by
        rw [← sumN_lmul]
        refine sumN_congr fun j _ => ?_
        rw [sumN_congr fun e he => blk j e he, sumN_mul, lstN_sum (by omega), show ((m : Int)).toNat = m by omega]
      have s2 : (sumN d fun e => ways n (plc n s (r - ((m * q1 + e : Nat) : Int)) (subS s (m * q1 + e) (p :: ps)))) = (sumN d fun e => lstN n m (tt - e)) * ways n (plc n p.1 (p.2 - (n + 1 : Nat) - q1) (subS p.1 q1 ps)) := by
        rw [sumN_congr fun e he => blk q1 e (by omega), sumN_mul]
      rw [s1, s2, i3]
      rw [Int.mul_add, ← Int.mul_assoc c k, Int.mul_assoc (c * k) (lstN _ _ _)]
      rw [show c * ways n (plc n p.1 (p.2 - (n + 1 : Nat) - q1) (subS p.1 q1 ps)) * k * (sumN d fun e => lstN n m (tt - e)) = c * k * ((sumN d fun e => lstN n m (tt - e)) * ways n (plc n p.1 (p.2 - (n + 1 : Nat) - q1) (subS p.1 q1 ps))) by
        rw [Int.mul_right_comm c, Int.mul_assoc (c * k), Int.mul_comm (ways _ _)]]
      omega
    · rw [blk q1 d dm', e4, i3, Int.mul_assoc, Int.mul_comm (ways _ _)]
    · rw [e6, i4, esub, plcM, List.reverse_cons, er, em]
      congr 3
      refine Prod.ext rfl ?_
      show tt - (d : Int) = _
      rw [← htt]
      dsimp only
      generalize p.2 - ((n + 1 : Nat) : Int) = z
      rw [Int.mul_sub, Int.natCast_add, Int.natCast_mul]
      omega
    · rw [esub, lastR, er]
      exact i5
    · have := e3.x1
      rw [e3.eq_, Int.mul_right_comm, ← e4] at this
      exact this
/-- the lengths of all chapters but the last, one after another -/
def Walk : Nat → List T3 → Int → List Int → Prop
  | 0, qs, x, ls => ls = [] ∧ 0 ≤ x ∧ x < ways 1 qs
  | n + 1, qs, x, l :: ls => ∃ ds x', Digs (n + 1) 1 1 qs ds x (ways (n + 1) (pos3 (sub3 qs ds))) x' ∧ l = 1 + dsum qs ds ∧ Walk n (pos3 (sub3 qs ds)) x' ls
  | _ + 1, _, _, [] => False
theorem flat_at {α : Type} {f : Nat → List α} {N q x : Nat} (hq : q < N) (hx : x < (f q).length) : ((List.range N).flatMap f)[((List.range q).map fun i => (f i).length).sum + x]? = (f q)[x]? := by
  obtain ⟨b, rfl⟩ : ∃ b, N = q + (b + 1) := ⟨N - q - 1, by omega⟩
  have e : List.range (q + (b + 1)) = List.range q ++ (List.range (b + 1)).map (q + ·) := List.range_add ..
  rw [e, List.flatMap_append]
  have l1 : ((List.range q).flatMap f).length = ((List.range q).map fun i => (f i).length).sum := by
    rw [List.length_flatMap]
  rw [List.getElem?_append_right (by omega), l1, Nat.add_sub_cancel_left, List.range_succ_eq_map, List.map_cons, List.flatMap_cons, List.getElem?_append_left (by simpa using hx)]
  rfl
def fitting (n : Nat) (t : Int) (ps : List (Int × Int)) : List (List Int) := (booksL n t).filter (fitsB ps)
theorem fitting_len (n : Nat) (t : Int) (ps : List (Int × Int)) (h : ChOk 0 ps) : (((fitting n t ps).length : Nat) : Int) = ways n (plc n 1 (t - n) ps) := by
  rw [← cnt_ways n t ps h, fitting, List.countP_eq_length_filter]
theorem fitting_more (n : Nat) (t : Int) (ps : List (Int × Int)) (h : ∀ p ∈ ps, 1 ≤ p.1) : fitting (n + 1) t ps = (List.range (t - (n + 1 : Nat) + 1).toNat).flatMap fun (i : Nat) => (fitting n (t - (1 + (i : Int))) (subP i ps)).map fun s => (1 + (i : Int)) :: s := by
  rw [fitting, booksL, List.filter_flatMap]
  congr 1
  funext i
  rw [List.filter_map, fitting]
  congr 1
  refine List.filter_congr fun s _ => ?_
  exact fits_cons h i s
theorem walk_book : ∀ (n : Nat) (t L x : Int) (ps : List (Int × Int)) (ls : List Int), ChOk 0 ps → lastR (n + 1 : Nat) (t - (n + 1 : Nat)) ps < L → (∀ p ∈ plcM L (n + 1 : Nat) 1 (t - (n + 1 : Nat)) ps, 0 ≤ p.2.2) → 0 ≤ x → x < ways (n + 1) (plc (n + 1 : Nat) 1 (t - (n + 1 : Nat)) ps) →
    Walk n (pos3 (plcM L (n + 1 : Nat) 1 (t - (n + 1 : Nat)) ps).reverse) x ls → (fitting (n + 1) t ps)[x.toNat]? = some (ls ++ [t - ls.sum])
  | 0, t, L, x, ps, ls, hc, hL, h0, x0, x1, h => by
    obtain ⟨e, _, _⟩ := h
    subst e
    have hl := fitting_len 1 t ps hc
    have x1' : x < ways 1 (plc ((1 : Nat) : Int) 1 (t - ((1 : Nat) : Int)) ps) := x1
    have hx : x.toNat < (fitting 1 t ps).length := by omega
    rw [List.getElem?_eq_getElem hx]
    congr 1
    have hmem := List.getElem_mem hx
    obtain ⟨h1, h2, h3⟩ := books_len (List.mem_filter.mp hmem).1
    generalize (fitting 1 t ps)[x.toNat] = s at h1 h3 ⊢
    match s, h1 with
    | [z], _ =>
      simp at h3 ⊢
      omega
  | n + 1, t, L, x, ps, [], hc, hL, h0, x0, x1, h => h.elim
  | n + 1, t, L, x, ps, l :: ls, hc, hL, h0, x0, x1, h => by
    obtain ⟨ds, x', h1, h2, h3⟩ := h
    have hps : ∀ p ∈ ps, 1 ≤ p.1 := fun p hp => by have := chok_pos hc (Int.le_refl 0) p hp; omega
    have ew : ways (n + 2) (plcM L (n + 2 : Nat) 1 (t - (n + 2 : Nat)) ps).reverse = ways (n + 2) (plc (n + 2 : Nat) 1 (t - (n + 2 : Nat)) ps) := by
      rw [ways_rev, ways_lim _ _ _ _ _ _ hL]
    obtain ⟨ds', a1, a2, a3⟩ := digs_fill (n + 1) 1 _ 1 x _ x' ds (fun p hp => h0 p (List.mem_reverse.mp hp)) x0 (by rw [Int.one_mul, Int.one_mul, ew]; exact x1) h1
    obtain ⟨q, i1, i2, i3, i4, i5, i6, i7⟩ := digs_chain (n + 1) L ps 1 (t - (n + 2 : Nat)) 1 1 x _ x' ds' (Int.le_refl 1) (beh_of hc) hL (by decide) (by decide) (by rw [Int.one_mul, Int.one_mul]; exact x1) a1
    rw [← a3, i4] at h3 i3
    rw [Int.one_mul] at i1 i3
    have er : t - ((n + 2 : Nat) : Int) - q = t - (1 + (q : Int)) - (n + 1 : Nat) := by push_cast; omega
    have ech : ChOk 0 (subP q ps) := chok_sub _ hc
    rw [subS_one, er] at i3 i4 i5 h3
    have c' : ways (n + 1) (pos3 (plcM L (n + 1 : Nat) 1 (t - (1 + (q : Int)) - (n + 1 : Nat)) (subP q ps)).reverse) = ways (n + 1) (plc (n + 1 : Nat) 1 (t - (1 + (q : Int)) - (n + 1 : Nat)) (subP q ps)) := i3
    have hn := digs_nonneg (n + 1) 1 (by decide) _ _ _ _ _ _ (by decide) a1
    rw [i4] at hn
    rw [Int.mul_one, ← a3, i4, c'] at i7
    have ih := walk_book n (t - (1 + (q : Int))) L x' (subP q ps) ls ech i5 (fun p hp => hn p (List.mem_reverse.mpr hp)) i6 i7 h3
    have hlen := fitting_len (n + 1) (t - (1 + (q : Int))) (subP q ps) ech
    rw [fitting_more (n + 1) t ps hps]
    have hq : q < (t - ((n + 1 + 1 : Nat) : Int) + 1).toNat := by
      have : ¬ t - (1 + (q : Int)) - (n + 1 : Nat) < 0 := fun z => by
        have := ways_low (n + 1) (subP q ps) 1 _ (Int.le_refl 1) (beh_of ech) z
        omega
      push_cast at this ⊢
      omega
    have ex : x.toNat = ((List.range q).map fun (i : Nat) => ((fitting (n + 1) (t - (1 + (i : Int))) (subP i ps)).map fun s => (1 + (i : Int)) :: s).length).sum + x'.toNat := by
      have e1 := sum_cast (fun (i : Nat) => ((fitting (n + 1) (t - (1 + (i : Int))) (subP i ps)).map fun s => (1 + (i : Int)) :: s).length) q
      have e2 : (sumN q fun (i : Nat) => ((((fitting (n + 1) (t - (1 + (i : Int))) (subP i ps)).map fun s => (1 + (i : Int)) :: s).length : Nat) : Int)) = sumN q fun j => ways (n + 1) (plc (n + 1 : Nat) 1 (t - (n + 2 : Nat) - j) (subS 1 j ps)) := sumN_congr fun i _ => by
        rw [List.length_map, fitting_len _ _ _ (show ChOk 0 (subP i ps) from chok_sub _ hc), subS_one]
        congr 2
        push_cast
        omega
      rw [e2] at e1
      rw [Int.one_mul, Int.one_mul, ← e1] at i2
      omega
    rw [ex, flat_at hq (by rw [List.length_map]; omega), List.getElem?_map, ih, Option.map_some, h2, ← a2, i1]
    simp
    omega
/-- a place that the program can count with -/
def GoodT (t : T3) : Prop := 1 ≤ t.1 ∧ t.1 < 2 ^ 150 ∧ 1 ≤ t.2.1 ∧ t.2.1 < 2 ^ 200 ∧ 0 ≤ t.2.2 ∧ t.2.2 < 2 ^ 200
theorem walk_len : ∀ {n : Nat} {qs : List T3} {x : Int} {ls : List Int}, Walk n qs x ls → ls.length = n
  | 0, _, _, _, h => by rw [h.1]; rfl
  | n + 1, _, _, [], h => h.elim
  | n + 1, _, _, _ :: _, h => by
    obtain ⟨_, _, _, _, h⟩ := h
    rw [List.length_cons, walk_len h]
/-! The books that fit stand in order, and there are not too many of them. -/
theorem books_asc : ∀ (n : Nat) (t : Int), (booksL n t).Pairwise (· < ·)
  | 0, t => by rw [booksL]; split <;> simp
  | n + 1, t => by
    rw [booksL, List.pairwise_flatMap]
    refine ⟨fun i _ => ?_, ?_⟩
    · rw [List.pairwise_map]
      exact (books_asc n _).imp fun h => List.cons_lt_cons_iff.mpr (.inr ⟨rfl, h⟩)
    · refine List.pairwise_lt_range.imp fun {i j} hij x hx y hy => ?_
      obtain ⟨s, _, rfl⟩ := List.mem_map.mp hx
      obtain ⟨s', _, rfl⟩ := List.mem_map.mp hy
      exact List.cons_lt_cons_iff.mpr (.inl (by omega))
theorem fitting_asc (n : Nat) (t : Int) (ps : List (Int × Int)) : (fitting n t ps).Pairwise (· < ·) := (books_asc n t).filter _
theorem fitting_lt {n : Nat} {t : Int} {ps : List (Int × Int)} {i j : Nat} {r s : List Int} (hi : (fitting n t ps)[i]? = some r) (hj : (fitting n t ps)[j]? = some s) (hij : i ≤ j) : decide (r < s) = decide (i < j) := by
  by_cases e : i = j
  · subst e
    rw [hi] at hj
    cases hj
    rw [decide_eq_false (Nat.lt_irrefl i), decide_eq_false (List.lt_irrefl r)]
  · obtain ⟨h1, e1⟩ := List.getElem?_eq_some_iff.mp hi
    obtain ⟨h2, e2⟩ := List.getElem?_eq_some_iff.mp hj
    have := List.pairwise_iff_getElem.mp (fitting_asc n t ps) i j h1 h2 (by omega)
    rw [e1, e2] at this
    rw [decide_eq_true this, decide_eq_true (by omega)]
theorem fitting_mem {n : Nat} {t : Int} {ps : List (Int × Int)} {s : List Int} (h : s ∈ fitting n t ps) : s.length = n ∧ (∀ x ∈ s, 1 ≤ x ∧ x ≤ t) ∧ s.sum = t ∧ fitsB ps s = true := by
  obtain ⟨h1, h2⟩ := List.mem_filter.mp h
  obtain ⟨a, b, c⟩ := books_len h1
  exact ⟨a, b, c, h2⟩
theorem books_few : ∀ n < 6, ∀ t < 16, (booksL n (t : Nat)).length ≤ 1001 := by decide +kernel
theorem books_most : ∀ (n : Nat) (t : Int), 0 ≤ t → (booksL n t).length ≤ t.toNat ^ n
  | 0, t, _ => by rw [booksL]; split <;> simp
  | n + 1, t, h => by
    rw [booksL, List.length_flatMap]
    have key : ∀ k : Nat, (k : Int) ≤ t → ((List.range k).map fun (i : Nat) => ((booksL n (t - (1 + (i : Int)))).map fun s => (1 + (i : Int)) :: s).length).sum ≤ k * t.toNat ^ n := fun k => by
      induction k with
      | zero => intro _; simp
      | succ k ih =>
        intro hk
        rw [List.range_succ, List.map_append, List.sum_append, List.map_singleton, List.sum_singleton, List.length_map, Nat.succ_mul]
        have h1 := ih (by omega)
        have h2 := books_most n (t - (1 + (k : Int))) (by omega)
        have h3 : (t - (1 + (k : Int))).toNat ^ n ≤ t.toNat ^ n := Nat.pow_le_pow_left (by omega) n
        omega
    have := key (t - (n + 1 : Nat) + 1).toNat (by omega)
    have h4 : (t - (n + 1 : Nat) + 1).toNat * t.toNat ^ n ≤ t.toNat * t.toNat ^ n := Nat.mul_le_mul_right _ (by omega)
    rw [Nat.pow_succ, Nat.mul_comm]
    omega
/-- a book fits its own page counts -/
theorem fits_own (s : List Int) (ws : List Int) : fitsB (ws.map fun w => (w, pcount s w)) s = true := by
  unfold fitsB
  rw [List.all_eq_true]
  intro p hp
  obtain ⟨w, _, rfl⟩ := List.mem_map.mp hp
  exact decide_eq_true rfl
theorem books_has : ∀ (s : List Int), (∀ x ∈ s, 1 ≤ x) → s ∈ booksL s.length s.sum
  | [], _ => by rw [List.length_nil, booksL]; simp
  | x :: s, h => by
    have hx := h x List.mem_cons_self
    have hs := fun y hy => h y (List.mem_cons_of_mem x hy)
    have ih := books_has s hs
    have hsum : (s.length : Int) ≤ s.sum := by
      clear ih h hx
      induction s with
      | nil => exact Int.le_refl 0
      | cons y r i =>
        have := i fun z hz => hs z (List.mem_cons_of_mem _ hz)
        have := hs y List.mem_cons_self
        rw [List.length_cons, List.sum_cons]
        push_cast
        omega
    rw [List.length_cons, booksL, List.mem_flatMap]
    refine ⟨(x - 1).toNat, List.mem_range.mpr ?_, List.mem_map.mpr ⟨s, ?_, ?_⟩⟩
    · rw [List.sum_cons]
      push_cast
      omega
    · rw [List.sum_cons, show x + s.sum - (1 + (((x - 1).toNat : Nat) : Int)) = s.sum by omega]
      exact ih
    · congr 1
      omega
theorem ways_each {n : Nat} : ∀ {ts : List T3}, 0 < ways n ts → ∀ t ∈ ts, 0 < lstN n t.2.1 t.2.2
  | [], _, t, h => by cases h
  | u :: ts, h, t, ht => by
    rw [ways_cons, mul_pos_iff (lstN_nonneg _ _ _) (ways_nonneg _ _)] at h
    rcases List.mem_cons.mp ht with e | e
    · rw [e]; exact h.1
    · exact ways_each h.2 t e
theorem lstN_pos0 {n : Nat} {m t : Int} (h : 0 < lstN n m t) : 0 ≤ t := by
  apply Int.le_of_not_gt
  intro g
  rw [lstN_neg g] at h
  omega
theorem plc_good (c : Int) : ∀ (ps : List (Int × Int)) (s r : Int), 1 ≤ s → s < 2 ^ 150 → Beh s ps → (∀ p ∈ ps, p.1 < 2 ^ 150) → ∀ t ∈ plc c s r ps, 1 ≤ t.1 ∧ t.1 < 2 ^ 150 ∧ (0 ≤ t.2.2 → 1 ≤ t.2.1)
  | [], s, r, h1, h2, _, _, t, ht => by
    rw [plc, List.mem_singleton] at ht
    subst ht
    exact ⟨h1, h2, fun h => by show 1 ≤ r + 1; have : 0 ≤ r := h; omega⟩
  | p :: ps, s, r, h1, h2, hb, hB, t, ht => by
    rw [plc] at ht
    have hp := hB p List.mem_cons_self
    have hb1 := hb.1
    rcases List.mem_cons.mp ht with e | e
    · subst e
      exact ⟨h1, h2, fun _ => (Int.le_ediv_iff_mul_le (by omega)).mpr (by omega)⟩
    · exact plc_good c ps p.1 _ (by omega) hp (beh_ch (by omega) hb.2.2) (fun q hq => hB q (List.mem_cons_of_mem _ hq)) t e
theorem ways_room {n : Nat} {ts : List T3} (hn : n ≤ 50) (h : ∀ t ∈ ts, t.2.1 < 2 ^ 200) : ways n ts < 2 ^ (10001 * ts.length + 1) := by
  have a := ways_lt hn h
  have b := ways_nonneg n ts
  have e : ((2 ^ (10001 * ts.length + 1) : Nat) : Int) = (2 : Int) ^ (10001 * ts.length + 1) := by push_cast; rfl
  rw [← e]
  omega
/-! One chapter's digits, place by place, as list_lengths takes them. -/
structure InL (q : Nat) (qs : List T3) (x : Int) (i : Nat) (ds : List Nat) (y bk A len : Int) (ots : List T3) : Prop where
  hb : bk = A * ways (q + 2) (qs.drop i)
  A0 : 0 ≤ A
  eA : A = ways (q + 1) ots
  y0 : 0 ≤ y
  y1 : y < bk
  dg : ∀ ds2 c' x', Digs (q + 1) 1 A (qs.drop i) ds2 y c' x' → Digs (q + 1) 1 1 qs (ds ++ ds2) x c' x'
  ln : ∀ ds2, dsum qs (ds ++ ds2) = len - 1 + dsum (qs.drop i) ds2
  ot : ∀ ds2, pos3 (sub3 qs (ds ++ ds2)) = ots ++ pos3 (sub3 (qs.drop i) ds2)
theorem InL.start {q : Nat} {qs : List T3} {x : Int} (x0 : 0 ≤ x) (x1 : x < ways (q + 2) qs) : InL q qs x 0 [] x (ways (q + 2) qs) 1 1 [] :=
  ⟨by rw [Int.one_mul]; rfl, by decide, rfl, x0, x1, fun ds2 c' x' h => h, fun ds2 => by show _ = 1 - 1 + dsum qs ds2; rw [List.nil_append]; omega, fun _ => rfl⟩
theorem drop_at {α : Type} {l : List α} {i : Nat} {p : α} (h : l[i]? = some p) : l.drop i = p :: l.drop (i + 1) := by
  obtain ⟨h1, h2⟩ := List.getElem?_eq_some_iff.mp h
  rw [List.drop_eq_getElem_cons h1, h2]
theorem InL.step {q : Nat} {qs : List T3} {x : Int} {i : Nat} {ds : List Nat} {y bk A len y' sh : Int} {ots : List T3} {p : T3} {d : Nat} (I : InL q qs x i ds y bk A len ots) (hp : qs[i]? = some p) (h0 : 0 ≤ p.2.2)
    (D : Dig (q + 1) p.2.1 p.2.2 (A * ways (q + 2) (qs.drop (i + 1))) y d y' sh) : (d : Int) ≤ p.2.2 ∧ InL q qs x (i + 1) (ds ++ [d]) y' sh (A * lstN (q + 1) p.2.1 (p.2.2 - d)) (len + d * p.1) (ots ++ if (d : Int) < p.2.2 then [(p.1, p.2.1, p.2.2 - d)] else []) := by
  have ed := drop_at hp
  have dle := (D.le (Int.mul_nonneg I.A0 (ways_nonneg _ _))).1
  refine ⟨dle, ?_, Int.mul_nonneg I.A0 (lstN_nonneg _ _ _), ?_, D.x0, D.x1, fun ds2 c' x' h => ?_, fun ds2 => ?_, fun ds2 => ?_⟩
  · rw [D.eq_, Int.mul_right_comm]
  · by_cases c : (d : Int) < p.2.2
    · rw [if_pos c, ways_app, I.eA]
    · rw [if_neg c, List.append_nil, show p.2.2 - (d : Int) = 0 by omega, lstN_0, Int.mul_one, I.eA]
  · rw [List.append_assoc]
    refine I.dg (d :: ds2) c' x' ?_
    rw [ed]
    exact ⟨y', sh, by rw [Int.mul_one]; exact D, h⟩
  · rw [List.append_assoc]
    have := I.ln ([d] ++ ds2)
    rw [this, ed]
    show len - 1 + (d * p.1 + dsum (qs.drop (i + 1)) ds2) = _
    omega
  · rw [List.append_assoc]
    have := I.ot ([d] ++ ds2)
    rw [this, ed, List.append_assoc]
    congr 1
    show pos3 ((p.1, p.2.1, p.2.2 - (d : Int)) :: sub3 (qs.drop (i + 1)) ds2) = _
    by_cases c : (d : Int) < p.2.2
    · rw [if_pos c]
      exact List.filter_cons_of_pos (decide_eq_true (by show 0 < p.2.2 - (d : Int); omega))
    · rw [if_neg c]
      exact List.filter_cons_of_neg (by show ¬ decide (0 < p.2.2 - (d : Int)) = true; rw [decide_eq_false (by omega)]; exact Bool.false_ne_true)
theorem InL.fin {q : Nat} {qs : List T3} {x : Int} {ds : List Nat} {y bk A len : Int} {ots : List T3} (I : InL q qs x qs.length ds y bk A len ots) : bk = ways (q + 1) ots ∧ ∀ n ls, Walk n ots y ls → ∀ z, z = len → n = q → Walk (q + 1) qs x (z :: ls) := by
  have h1 := I.hb
  rw [List.drop_length, ways_nil, Int.mul_one] at h1
  have h2 := I.dg [] A y (by rw [List.drop_length]; exact ⟨rfl, rfl⟩)
  have h3 := I.ln []
  have h4 := I.ot []
  rw [List.drop_length, List.append_nil] at h3 h4
  rw [List.append_nil] at h2
  have e : pos3 (sub3 qs ds) = ots := by rw [h4]; show ots ++ [] = _; rw [List.append_nil]
  refine ⟨by rw [h1, I.eA], fun n ls hW z hz hn => ?_⟩
  subst hn hz
  refine ⟨ds, y, by rw [e, ← I.eA]; exact h2, ?_, by rw [e]; exact hW⟩
  rw [h3]
  show z = 1 + (z - 1 + 0)
  omega
theorem InL.head {q : Nat} {qs : List T3} {x : Int} {i : Nat} {ds : List Nat} {y bk A len : Int} {ots : List T3} {p : T3} (I : InL q qs x i ds y bk A len ots) (hp : qs[i]? = some p) : bk = A * ways (q + 2) (qs.drop (i + 1)) * lstN (q + 2) p.2.1 p.2.2 := by
  rw [I.hb, drop_at hp, ways_cons, Int.mul_assoc, Int.mul_comm (ways _ _)]
theorem InL.two {q : Nat} {qs : List T3} {x : Int} {i : Nat} {ds : List Nat} {y bk A len : Int} {ots : List T3} {p : T3} (I : InL q qs x i ds y bk A len ots) (hp : qs[i]? = some p) (hm : 1 ≤ p.2.1) (ht : 0 < p.2.2) : 2 ≤ p.2.1 := by
  have h := I.head hp
  have h1 := I.y0
  have h2 := I.y1
  have h3 : 0 < A * ways (q + 2) (qs.drop (i + 1)) * lstN (q + 2) p.2.1 p.2.2 := by omega
  rw [mul_pos_iff (Int.mul_nonneg I.A0 (ways_nonneg _ _)) (lstN_nonneg _ _ _), lstN_pos hm] at h3
  apply Int.le_of_not_gt
  intro g
  rw [show p.2.1 - 1 = 0 by omega, Int.mul_zero] at h3
  omega
theorem InL.less {q : Nat} {qs : List T3} {x : Int} {i : Nat} {ds : List Nat} {y bk A len y' sh : Int} {ots : List T3} {p : T3} {d : Nat} (I : InL q qs x i ds y bk A len ots) (hp : qs[i]? = some p) (hm : 1 ≤ p.2.1) (D : Dig (q + 1) p.2.1 p.2.2 (A * ways (q + 2) (qs.drop (i + 1))) y d y' sh) : sh ≤ bk := by
  have h := I.head hp
  rw [h]
  exact (D.sh_le hm (Int.mul_nonneg I.A0 (ways_nonneg _ _)) (by rw [← h]; exact I.y1)).2
/-! math.factorial; how often books can be ordered. -/
def fct : Nat → Nat
  | 0 => 1
  | n + 1 => (n + 1) * fct n
theorem fct_pos : ∀ n, 0 < fct n
  | 0 => Nat.one_pos
  | n + 1 => Nat.mul_pos (Nat.succ_pos n) (fct_pos n)
theorem fct_le : ∀ n, n ≤ 127 → fct n ≤ 2 ^ (7 * n)
  | 0, _ => Nat.le_refl _
  | n + 1, h => by
    have ih := fct_le n (by omega)
    rw [show 7 * (n + 1) = 7 + 7 * n by omega, Nat.pow_add]
    exact Nat.mul_le_mul (by omega) ih
/-- a! (b + 1)! is at most (a + b)! for a from 1 on -/
theorem fct_join (a b : Nat) (ha : 1 ≤ a) : fct a * fct (b + 1) ≤ fct (a + b) := by
  induction b with
  | zero => show fct a * 1 ≤ fct a; omega
  | succ b ih =>
    show fct a * ((b + 1 + 1) * fct (b + 1)) ≤ (a + b + 1) * fct (a + b)
    rw [← Nat.mul_assoc, Nat.mul_comm (fct a), Nat.mul_assoc]
    exact Nat.mul_le_mul (by omega) ih
theorem fct_two (a b : Nat) (ha : 1 ≤ a) (hb : 1 ≤ b) : 2 * (fct a * fct b) ≤ fct (a + b) := by
  obtain ⟨c, rfl⟩ : ∃ c, b = c + 1 := ⟨b - 1, by omega⟩
  have h := fct_join a c ha
  show _ ≤ (a + c + 1) * fct (a + c)
  exact Nat.mul_le_mul (by omega) h
def fprod (cs : List Nat) : Nat := (cs.map fct).foldr (· * ·) 1
theorem fprod_cons (c : Nat) (cs : List Nat) : fprod (c :: cs) = fct c * fprod cs := rfl
theorem fprod_pos : ∀ cs, 0 < fprod cs
  | [] => Nat.one_pos
  | c :: cs => Nat.mul_pos (fct_pos c) (fprod_pos cs)
theorem fprod_le : ∀ cs : List Nat, (∀ c ∈ cs, 1 ≤ c) → fprod cs ≤ fct cs.sum
  | [], _ => Nat.le_refl _
  | c :: cs, h => by
    have ih := fprod_le cs fun x hx => h x (List.mem_cons_of_mem _ hx)
    rw [fprod_cons, List.sum_cons]
    cases cs with
    | nil => show fct c * 1 ≤ fct (c + 0); simp
    | cons d ds =>
      have h2 := fct_two c (d :: ds).sum (h c List.mem_cons_self) (by rw [List.sum_cons]; have := h d (by simp); omega)
      have := Nat.mul_le_mul_left (fct c) ih
      omega
theorem fprod_two {cs : List Nat} (h : ∀ c ∈ cs, 1 ≤ c) (h2 : 2 ≤ cs.length) : 2 * fprod cs ≤ fct cs.sum := by
  match cs, h2 with
  | c :: d :: ds, _ =>
    have ih := fprod_le (d :: ds) fun x hx => h x (List.mem_cons_of_mem _ hx)
    have h3 := fct_two c (d :: ds).sum (h c List.mem_cons_self) (by rw [List.sum_cons]; have := h d (by simp); omega)
    have := Nat.mul_le_mul_left (fct c) ih
    rw [fprod_cons, List.sum_cons]
    omega
theorem fold_div : ∀ (cs : List Nat) (a : Nat), cs.foldl (fun x c => x / fct c) a = a / fprod cs
  | [], a => by show a = a / 1; omega
  | c :: cs, a => by
    rw [List.foldl_cons, fold_div cs, Nat.div_div_eq_div_mul, fprod_cons]
/-- the numbers in their counts -/
theorem count_sum : ∀ (l D : List Int), D.Nodup → (∀ x ∈ l, x ∈ D) → (D.map fun v => l.count v).sum = l.length
  | [], D, _, _ => by
    have : ∀ D : List Int, (D.map fun v => ([] : List Int).count v).sum = 0 := fun D => by
      induction D with
      | nil => rfl
      | cons x r ih => rw [List.map_cons, List.sum_cons, ih]; rfl
    rw [this]; rfl
  | x :: r, D, hD, h => by
    have ih := count_sum r D hD fun y hy => h y (List.mem_cons_of_mem _ hy)
    have key : ∀ D : List Int, D.Nodup → (D.map fun v => (x :: r).count v).sum = (D.map fun v => r.count v).sum + if x ∈ D then 1 else 0 := fun D => by
      induction D with
      | nil => intro _; rfl
      | cons y s ih2 =>
        intro hn
        rw [List.nodup_cons] at hn
        rw [List.map_cons, List.map_cons, List.sum_cons, List.sum_cons, ih2 hn.2]
        by_cases c : y = x
        · subst c
          rw [List.count_cons_self, if_neg hn.1, if_pos List.mem_cons_self]; omega
        · rw [List.count_cons_of_ne (fun z => c z.symm)]
          by_cases g : x ∈ s
          · rw [if_pos g, if_pos (List.mem_cons_of_mem _ g)]; omega
          · rw [if_neg g, if_neg (fun z => (List.mem_cons.mp z).elim (fun e => c e.symm) g)]; omega
    rw [key D hD, ih, if_pos (h x List.mem_cons_self), List.length_cons]
/-- how many books have these lengths -/
def books (l : List Int) : Nat := fct l.length / fprod ((HS.dst l).map fun v => l.count v)
theorem books_fold (l : List Int) : (HS.dst l).foldl (fun x v => x / fct (l.count v)) (fct l.length) = books l := by
  unfold books
  rw [← fold_div, List.foldl_map]
theorem books_perm {xs ys : List Int} (p : xs.Perm ys) : books xs = books ys := by
  unfold books
  rw [p.length_eq, HS.dst_same fun x => p.mem_iff]
  congr 2
  exact List.map_congr_left fun v _ => p.count_eq v
theorem books_one (l : List Int) : books l = 1 ↔ (HS.dst l).length < 2 := by
  have hs := count_sum l (HS.dst l) (HS.dst_nodup l) fun x hx => HS.dst_mem.mpr hx
  have hp : ∀ c ∈ (HS.dst l).map fun v => l.count v, 1 ≤ c := fun c hc => by
    obtain ⟨v, hv, rfl⟩ := List.mem_map.mp hc
    exact List.count_pos_iff.mpr (HS.dst_mem.mp hv)
  have hl : ((HS.dst l).map fun v => l.count v).length = (HS.dst l).length := List.length_map ..
  unfold books
  rw [← hs]
  generalize (HS.dst l).map (fun v => l.count v) = cs at hp hl
  rw [← hl]
  constructor
  · intro h
    apply Nat.lt_of_not_le
    intro h2
    have := fprod_two hp h2
    have := (Nat.le_div_iff_mul_le (fprod_pos cs)).mpr this
    omega
  · intro h
    match cs, h with
    | [], _ => rfl
    | [c], _ => show fct (c + 0) / (fct c * 1) = 1; rw [Nat.add_zero, Nat.mul_one, Nat.div_self (fct_pos c)]
namespace HS
open PySem PySem.Spec PyProof.Rows L2
def rFact : List V → Hp → VK → Prop := fun vs H Q => ∃ n : Nat, vs = [.int (n : Int)] ∧ n ≤ 120 ∧ Q (.int (fct n : Nat)) H
theorem fact_fct : ∀ n, Builtin.Math.factorialNat n = fct n := by
  intro n
  induction n with
  | zero => rfl
  | succ n ih =>
    unfold Builtin.Math.factorialNat at ih ⊢
    rw [List.range_succ, List.foldl_append]
    rw [ih]
    show fct n * (n + 1) = (n + 1) * fct n
    exact Nat.mul_comm _ _
theorem cr_factorial {X : Cx} : CallR X (.builtin "math.factorial") rFact := by
  intro pins s σ H xs us Q I r ⟨n, e, hn, k⟩
  subst e
  obtain ⟨u, rfl, t, rfl⟩ := vals1 r
  have hz : (((fct n : Nat) : Int)).natAbs.log2 < bitsLine := by
    have h1 := fct_le n (by omega)
    have h2 : fct n < 2 ^ (7 * n + 1) := by rw [Nat.pow_succ]; have := Nat.two_pow_pos (7 * n); omega
    have h3 : (fct n).log2 < 7 * n + 1 := (Nat.log2_lt (by have := fct_pos n; omega)).mpr h2
    rw [Int.natAbs_natCast, bitsLine_eq]
    omega
  refine PySem.W.mg_factorial_v (c := ((fct n : Nat) : Int)) (by show ¬ ((n : Int) > _); unfold Builtin.Math.maxSsize; omega) (by omega) (by show ¬ ((n : Int) > _); unfold Builtin.Math.manyFactors; omega) (by rw [Int.toNat_natCast, fact_fct]) hz ⟨.int _, H, I.tok _, ⟨_, rfl⟩, k⟩
end HS
def readT (rows : List Int) (ch : Int) : Nat → List Int → Int ⊕ List Int
  | 0, ls => .inr (ls ++ List.replicate (ch - ls.length).toNat 1)
  | s + 1, ls =>
    if rows.getD s 0 - pcount ls ((s : Int) + 1) - (ch - ls.length) < 0 ∨ ch - ls.length < rows.getD s 0 - pcount ls ((s : Int) + 1) - (ch - ls.length) then .inl ((s : Int) + 1)
    else readT rows ch s (ls ++ List.replicate (rows.getD s 0 - pcount ls ((s : Int) + 1) - (ch - ls.length)).toNat ((s : Int) + 2))
def readAll (rows : List Int) : Int ⊕ List Int :=
  match rows.getLast? with
  | none => .inr []
  | some c => if c < 0 then .inl rows.length else readT rows c (rows.length - 1) []
/-! Sums from 1 on, and the numbers of Moebius up to 300. -/
/-- f 1 + .. + f n -/
def sg : Nat → (Nat → Int) → Int
  | 0, _ => 0
  | n + 1, f => sg n f + f (n + 1)
theorem sg_congr {f g : Nat → Int} : ∀ {n : Nat}, (∀ i, 1 ≤ i → i ≤ n → f i = g i) → sg n f = sg n g
  | 0, _ => rfl
  | n + 1, h => by
    show sg n f + f (n + 1) = sg n g + g (n + 1)
    rw [sg_congr (n := n) fun i h1 h2 => h i h1 (by omega), h (n + 1) (by omega) (Nat.le_refl _)]
theorem sg_zero {f : Nat → Int} {n : Nat} (h : ∀ i, 1 ≤ i → i ≤ n → f i = 0) : sg n f = 0 := by
  rw [sg_congr h]
  induction n with
  | zero => rfl
  | succ n ih => show sg n _ + 0 = 0; rw [ih fun i h1 h2 => h i h1 (by omega)]; rfl
theorem sg_add (f g : Nat → Int) : ∀ n, sg n (fun i => f i + g i) = sg n f + sg n g
  | 0 => rfl
  | n + 1 => by
    show sg n (fun i => f i + g i) + (f (n + 1) + g (n + 1)) = sg n f + f (n + 1) + (sg n g + g (n + 1))
    rw [sg_add f g n]; omega
theorem sg_mul (c : Int) (f : Nat → Int) : ∀ n, sg n (fun i => c * f i) = c * sg n f
  | 0 => (Int.mul_zero c).symm
  | n + 1 => by
    show sg n (fun i => c * f i) + c * f (n + 1) = c * (sg n f + f (n + 1))
    rw [sg_mul c f n, Int.mul_add]
theorem sg_swap (a : Nat → Nat → Int) : ∀ n m, sg n (fun i => sg m (fun j => a i j)) = sg m (fun j => sg n (fun i => a i j))
  | 0, m => (sg_zero fun _ _ _ => rfl).symm
  | n + 1, m => by
    show sg n (fun i => sg m (fun j => a i j)) + sg m (fun j => a (n + 1) j) = sg m (fun j => sg n (fun i => a i j) + a (n + 1) j)
    rw [sg_swap a n m, ← sg_add]
/-- the multiples of k up to n -/
theorem sg_mult (F : Nat → Int) {k : Nat} (hk : 1 ≤ k) : ∀ n, sg (n / k) (fun j => F (j * k)) = sg n (fun m => if k ∣ m then F m else 0)
  | 0 => by rw [Nat.zero_div]; rfl
  | n + 1 => by
    have ih := sg_mult F hk n
    rw [Nat.succ_div]
    by_cases h : k ∣ n + 1
    · rw [if_pos h]
      show sg (n / k) (fun j => F (j * k)) + F ((n / k + 1) * k) = sg n _ + (if k ∣ n + 1 then F (n + 1) else 0)
      rw [ih, if_pos h]
      have e : (n / k + 1) * k = n + 1 := by
        have h1 := Nat.succ_div (a := n) (b := k)
        rw [if_pos h] at h1
        rw [← h1]
        exact Nat.div_mul_cancel h
      rw [e]
    · rw [if_neg h]
      show sg (n / k + 0) _ = sg n _ + (if k ∣ n + 1 then F (n + 1) else 0)
      rw [if_neg h, Nat.add_zero, ih, Int.add_zero]
/-- the number of Moebius, as a loop over the divisors finds it -/
def muGo : List Nat → Nat → Int → Int
  | [], _, f => f
  | p :: ps, n, f => if n % p = 0 then (if n / p % p = 0 then 0 else muGo ps (n / p) (0 - f)) else muGo ps n f
def mu (n : Nat) : Int := muGo (List.range' 2 (n - 1)) n 1
def muTab : List Int := (List.range 300).map fun i => mu (i + 1)
/-- the sum over the divisors of m of a table -/
def dvSum (m : Nat) : Nat → List Int → Int
  | _, [] => 0
  | k, x :: r => (if m % k = 0 then x else 0) + dvSum m (k + 1) r
def dvAll (t : List Int) : Bool := (List.range 301).all fun m => decide (m < 2) || (dvSum m 1 (t.take m) == 0)
theorem mu_all : dvAll muTab = true := by decide +kernel
theorem mu_one : mu 1 = 1 := by decide
theorem dvSum_sg (m : Nat) (g : Nat → Int) : ∀ (n k : Nat), dvSum m (k + 1) ((List.range n).map fun i => g (k + i + 1)) = sg n (fun i => if (k + i) ∣ m then g (k + i) else 0)
  | 0, _ => rfl
  | n + 1, k => by
    rw [List.range_succ_eq_map, List.map_cons, List.map_map]
    show (if m % (k + 1) = 0 then g (k + 0 + 1) else 0) + dvSum m (k + 1 + 1) (List.map _ (List.range n)) = _
    have e := dvSum_sg m g n (k + 1)
    rw [show (List.range n).map ((fun i => g (k + i + 1)) ∘ Nat.succ) = (List.range n).map fun i => g (k + 1 + i + 1) from List.map_congr_left fun i _ => by show g (k + (i + 1) + 1) = _; rw [show k + (i + 1) + 1 = k + 1 + i + 1 by omega], e]
    have s : ∀ (f : Nat → Int) (n : Nat), f 1 + sg n (fun i => f (i + 1)) = sg (n + 1) f := by
      intro f n
      induction n with
      | zero => show f 1 + 0 = 0 + f 1; omega
      | succ n ih => show f 1 + (sg n (fun i => f (i + 1)) + f (n + 1 + 1)) = sg (n + 1) f + f (n + 1 + 1); omega
    rw [← s (fun i => if (k + i) ∣ m then g (k + i) else 0) n]
    congr 1
    · by_cases h : m % (k + 1) = 0
      · rw [if_pos h, if_pos (Nat.dvd_of_mod_eq_zero h)]
      · rw [if_neg h, if_neg fun z => h (Nat.mod_eq_zero_of_dvd z)]
    · exact sg_congr fun i _ _ => by rw [show k + 1 + i = k + (i + 1) by omega]
theorem mu_div {m : Nat} (h1 : 2 ≤ m) (h2 : m ≤ 300) : sg m (fun k => if k ∣ m then mu k else 0) = 0 := by
  have a := mu_all
  unfold dvAll at a
  have b := List.all_eq_true.mp a m (List.mem_range.mpr (by omega))
  rw [Bool.or_eq_true] at b
  rcases b with b | b
  · have := of_decide_eq_true b; omega
  · have c : dvSum m 1 (muTab.take m) = 0 := of_decide_eq_true (by simpa using b)
    have d : muTab.take m = (List.range m).map fun i => mu (i + 1) := by
      unfold muTab
      rw [← List.map_take, List.take_range, Nat.min_eq_left h2]
    rw [d] at c
    have e := dvSum_sg m mu m 0
    rw [show (List.range m).map (fun i => mu (0 + i + 1)) = (List.range m).map fun i => mu (i + 1) from List.map_congr_left fun i _ => by rw [Nat.zero_add], c] at e
    refine (sg_congr fun i _ _ => ?_).trans e.symm
    rw [Nat.zero_add]
/-- beyond m no number divides m -/
theorem mu_div' {m n : Nat} (h0 : 1 ≤ m) (h : m ≤ n) (h2 : n ≤ 300) : sg n (fun k => if k ∣ m then mu k else 0) = if m = 1 then 1 else 0 := by
  have cut : ∀ n, m ≤ n → sg n (fun k => if k ∣ m then mu k else 0) = sg m (fun k => if k ∣ m then mu k else 0) := by
    intro n hn
    induction n with
    | zero => rw [Nat.le_zero.mp hn]
    | succ n ih =>
      by_cases e : m = n + 1
      · rw [e]
      · show sg n _ + (if n + 1 ∣ m then mu (n + 1) else 0) = _
        rw [if_neg fun z => by have := Nat.le_of_dvd (by omega) z; omega, ih (by omega), Int.add_zero]
  rw [cut n h]
  by_cases e : m = 1
  · subst e; rw [if_pos rfl]; show 0 + (if 1 ∣ 1 then mu 1 else 0) = 1; rw [if_pos (Nat.dvd_refl 1), mu_one]; rfl
  · rw [if_neg e]; exact mu_div (by omega) (by omega)
/-- the inversion: the sums over multiples, told back -/
theorem mu_inv (F : Nat → Int) {n : Nat} (h1 : 1 ≤ n) (h : n ≤ 300) : sg n (fun k => mu k * sg (n / k) (fun j => F (j * k))) = F 1 := by
  have a : sg n (fun k => mu k * sg (n / k) (fun j => F (j * k))) = sg n (fun k => sg n (fun m => mu k * (if k ∣ m then F m else 0))) := sg_congr fun k hk _ => by rw [sg_mult F hk n, ← sg_mul]
  rw [a, sg_swap]
  have b : sg n (fun m => sg n (fun k => mu k * (if k ∣ m then F m else 0))) = sg n (fun m => if m = 1 then F 1 else 0) := sg_congr fun m hm hmn => by
    rw [show sg n (fun k => mu k * (if k ∣ m then F m else 0)) = F m * sg n (fun k => if k ∣ m then mu k else 0) from by
      rw [← sg_mul]
      exact sg_congr fun k _ _ => by by_cases z : k ∣ m <;> simp [z, Int.mul_comm]]
    rw [mu_div' hm hmn h]
    by_cases e : m = 1
    · subst e; rw [if_pos rfl, if_pos rfl, Int.mul_one]
    · rw [if_neg e, if_neg e, Int.mul_zero]
  rw [b]
  clear a b
  induction n with
  | zero => omega
  | succ n ih =>
    show sg n _ + (if n + 1 = 1 then F 1 else 0) = F 1
    by_cases e : n = 0
    · subst e; show 0 + (if 0 + 1 = 1 then F 1 else 0) = F 1; rw [if_pos rfl, Int.zero_add]
    · rw [ih (by omega) (by omega), if_neg (by omega), Int.add_zero]
/-! Reading a table, and the sums by which another finds where it stops. -/
def hereW (rows : List Int) (c : Int) (w : Nat) : Int := sg (rows.length / w) fun k => mu k * (rows.getD (k * w - 1) 0 - c)
def wrongGo (rows : List Int) (c : Int) : Nat → Int → Option Int
  | 0, _ => none
  | s + 1, late => if late ≤ hereW rows c (s + 1) ∧ hereW rows c (s + 1) ≤ c then wrongGo rows c s (hereW rows c (s + 1)) else some ((s : Int) + 1)
def wrongT (rows : List Int) : Option Int :=
  match rows.getLast? with
  | none => none
  | some c => if c < 0 then some rows.length else wrongGo rows c (rows.length - 1) 0
/-- the lengths above u -/
def gab (ls : List Int) (u : Nat) : Int := (ls.filter fun x => decide ((u : Int) < x)).length
theorem ceil_steps {v : Nat} (hv : 1 ≤ v) {x : Int} (hx : 1 ≤ x) : ∀ n : Nat, sg n (fun j => if ((j * v : Nat) : Int) < x then 1 else 0) = min (n : Int) ((x - 1) / v)
  | 0 => by
    have : 0 ≤ (x - 1) / (v : Int) := Int.ediv_nonneg (by omega) (by omega)
    show (0 : Int) = _
    rw [Int.min_def]; split <;> omega
  | n + 1 => by
    show sg n _ + (if (((n + 1) * v : Nat) : Int) < x then 1 else 0) = _
    rw [ceil_steps hv hx n]
    have key : (((n + 1) * v : Nat) : Int) < x ↔ (n : Int) + 1 ≤ (x - 1) / v := by
      rw [Int.le_ediv_iff_mul_le (by omega)]
      push_cast
      omega
    by_cases h : (((n + 1) * v : Nat) : Int) < x
    · rw [if_pos h]
      have := key.mp h
      rw [Int.min_def, Int.min_def]
      push_cast
      repeat' split
      all_goals omega
    · rw [if_neg h]
      have : ¬ (n : Int) + 1 ≤ (x - 1) / v := fun z => h (key.mpr z)
      rw [Int.min_def, Int.min_def]
      push_cast
      repeat' split
      all_goals omega
theorem pcount_steps {v top : Nat} (hv : 1 ≤ v) : ∀ {ls : List Int}, (∀ x ∈ ls, 1 ≤ x ∧ x ≤ top) → pcount ls v - ls.length = sg (top / v) (fun j => gab ls (j * v))
  | [], _ => (sg_zero fun _ _ _ => rfl).symm
  | x :: r, h => by
    have ih := pcount_steps hv (ls := r) fun y hy => h y (List.mem_cons_of_mem _ hy)
    obtain ⟨h1, h2⟩ := h x List.mem_cons_self
    have e1 : (x + (v : Int) - 1) / v = (x - 1) / v + 1 := (counted_eq (by omega)).symm
    have e2 := ceil_steps hv h1 (top / v)
    have e3 : (x - 1) / (v : Int) ≤ ((top / v : Nat) : Int) := by
      rw [Int.natCast_ediv]
      exact Int.ediv_le_ediv (by omega) (by omega)
    rw [Int.min_eq_right e3] at e2
    rw [pcount_cons, e1, List.length_cons]
    rw [show sg (top / v) (fun j => gab (x :: r) (j * v)) = sg (top / v) (fun j => (if ((j * v : Nat) : Int) < x then 1 else 0) + gab r (j * v)) from sg_congr fun j _ _ => by
      unfold gab
      by_cases z : ((j * v : Nat) : Int) < x
      · rw [List.filter_cons_of_pos (by simpa using z), if_pos z, List.length_cons]; push_cast; omega
      · rw [List.filter_cons_of_neg (by simpa using z), if_neg z]; omega]
    rw [sg_add, e2, ← ih]
    push_cast
    omega
theorem gab_all {ls : List Int} {u : Nat} (h : ∀ x ∈ ls, (u : Int) < x) : gab ls u = ls.length := by
  unfold gab
  rw [List.filter_eq_self.mpr fun x hx => decide_eq_true (h x hx)]
theorem pcount_app (a b : List Int) (j : Int) : pcount (a ++ b) j = pcount a j + pcount b j := by
  unfold pcount
  rw [List.map_append, List.sum_append]
theorem pcount_rep (x j : Int) : ∀ n : Nat, pcount (List.replicate n x) j = n * ((x + j - 1) / j)
  | 0 => by rw [show pcount (List.replicate 0 x) j = 0 from rfl]; simp
  | n + 1 => by
    rw [List.replicate_succ, pcount_cons, pcount_rep x j n]
    push_cast
    rw [Int.add_mul, Int.one_mul]; omega
/-- the lengths that are read from the sizes above s -/
structure Half (rows : List Int) (c : Int) (s : Nat) (ls : List Int) : Prop where
  mem : ∀ x ∈ ls, (s : Int) + 2 ≤ x ∧ x ≤ rows.length
  len : (ls.length : Int) ≤ c
  dsc : ls.Pairwise (· ≥ ·)
  tab : ∀ v : Nat, s < v → v ≤ rows.length → rows.getD (v - 1) 0 = pcount ls v + (c - ls.length)
/-- one step: what the sums find is what the reading finds -/
theorem half_here {rows : List Int} {c : Int} {s : Nat} {ls : List Int} (h : Half rows c (s + 1) ls) (hs : s + 1 ≤ rows.length) (hn : rows.length ≤ 300) :
    hereW rows c (s + 1) = (rows.getD s 0 - pcount ls ((s : Int) + 1) - (c - ls.length)) + ls.length := by
  have n1 : 1 ≤ rows.length / (s + 1) := (Nat.le_div_iff_mul_le (by omega)).mpr (by omega)
  have n2 : rows.length / (s + 1) ≤ 300 := Nat.le_trans (Nat.div_le_self _ _) hn
  have hm : ∀ x ∈ ls, 1 ≤ x ∧ x ≤ (rows.length : Int) := fun x hx => by have := h.mem x hx; push_cast at this; omega
  have P : ∀ v : Nat, s + 1 < v → v ≤ rows.length → rows.getD (v - 1) 0 - c = sg (rows.length / v) (fun j => gab ls (j * v)) := fun v h1 h2 => by
    rw [← pcount_steps (by omega) hm, h.tab v h1 h2]; omega
  have W := pcount_steps (v := s + 1) (top := rows.length) (by omega) hm
  push_cast at W
  generalize hnn : rows.length / (s + 1) = n at n1 n2 W
  obtain ⟨m, rfl⟩ : ∃ m, n = m + 1 := ⟨n - 1, by omega⟩
  have sh : ∀ (f : Nat → Int) (n : Nat), sg (n + 1) f = f 1 + sg n (fun i => f (i + 1)) := by
    intro f n
    induction n with
    | zero => show 0 + f 1 = f 1 + 0; omega
    | succ n ih => show sg (n + 1) f + f (n + 1 + 1) = f 1 + (sg n (fun i => f (i + 1)) + f (n + 1 + 1)); rw [ih]; omega
  have g1 : gab ls (s + 1) = ls.length := gab_all fun x hx => by have := h.mem x hx; push_cast at this ⊢; omega
  rw [sh, Nat.one_mul, g1] at W
  generalize hR : sg m (fun i => gab ls ((i + 1) * (s + 1))) = R at W
  have inv := mu_inv (fun q => if q = 1 then rows.getD s 0 - c - R else gab ls (q * (s + 1))) n1 n2
  rw [if_pos rfl] at inv
  have e : hereW rows c (s + 1) = sg (m + 1) (fun k => mu k * sg ((m + 1) / k) (fun j => (fun q => if q = 1 then rows.getD s 0 - c - R else gab ls (q * (s + 1))) (j * k))) := by
    unfold hereW
    rw [hnn]
    refine sg_congr fun k hk hkn => ?_
    congr 1
    by_cases k1 : k = 1
    · subst k1
      rw [Nat.div_one, sh, Nat.one_mul, Nat.add_sub_cancel, Nat.one_mul]
      show rows.getD s 0 - c = (if 1 = 1 then rows.getD s 0 - c - R else gab ls (1 * (s + 1))) + sg m fun i => if (i + 1) * 1 = 1 then rows.getD s 0 - c - R else gab ls ((i + 1) * 1 * (s + 1))
      rw [if_pos rfl]
      rw [show sg m (fun i => if (i + 1) * 1 = 1 then rows.getD s 0 - c - R else gab ls ((i + 1) * 1 * (s + 1))) = R from by
        rw [← hR]
        exact sg_congr fun i h1 _ => by rw [Nat.mul_one, if_neg (by omega)]]
      omega
    · have kk : 2 ≤ k := by omega
      have le : k * (s + 1) ≤ rows.length := by
        have := Nat.div_mul_le_self rows.length (s + 1)
        rw [hnn] at this
        exact Nat.le_trans (Nat.mul_le_mul_right _ hkn) this
      have lt : s + 1 < k * (s + 1) := by
        have := Nat.mul_le_mul_right (s + 1) kk
        omega
      rw [P _ lt le, Nat.mul_comm k (s + 1), ← Nat.div_div_eq_div_mul, hnn]
      exact sg_congr fun j h1 _ => by
        have : 2 ≤ j * k := Nat.le_trans kk (Nat.le_mul_of_pos_left k h1)
        show _ = if j * k = 1 then _ else gab ls (j * k * (s + 1))
        rw [if_neg (by omega), Nat.mul_comm (s + 1) k, Nat.mul_assoc]
  rw [e, inv]
  omega
theorem half_step {rows : List Int} {c : Int} {s : Nat} {ls : List Int} (h : Half rows c (s + 1) ls) (hs : s + 1 < rows.length) (h0 : 0 ≤ rows.getD s 0 - pcount ls ((s : Int) + 1) - (c - ls.length))
    (h1 : rows.getD s 0 - pcount ls ((s : Int) + 1) - (c - ls.length) ≤ c - ls.length) : Half rows c s (ls ++ List.replicate (rows.getD s 0 - pcount ls ((s : Int) + 1) - (c - ls.length)).toNat ((s : Int) + 2)) := by
  generalize hf : rows.getD s 0 - pcount ls ((s : Int) + 1) - (c - ls.length) = f at h0 h1 ⊢
  have ef : (f.toNat : Int) = f := Int.toNat_of_nonneg h0
  refine ⟨fun x hx => ?_, ?_, ?_, fun v hv1 hv2 => ?_⟩
  · rcases List.mem_append.mp hx with q | q
    · have := h.mem x q; push_cast at this; omega
    · have := (List.mem_replicate.mp q).2; subst this; omega
  · rw [List.length_append, List.length_replicate]; push_cast; omega
  · exact List.pairwise_append.mpr ⟨h.dsc, List.pairwise_replicate.mpr (.inr (Int.le_refl _)), fun x hx y hy => by
      have := h.mem x hx
      have e := (List.mem_replicate.mp hy).2
      subst e
      push_cast at this
      show (s : Int) + 2 ≤ x
      omega⟩
  · rw [pcount_app, pcount_rep, List.length_append, List.length_replicate]
    push_cast
    by_cases z : v = s + 1
    · subst z
      have := ceil_next (j := (s : Int) + 1) (by omega)
      push_cast
      rw [show (s : Int) + 2 + (s + 1) - 1 = (s : Int) + 1 + 1 + (s + 1) - 1 by omega, this, ef]
      omega
    · rw [ceil_small (by omega) (by omega : (s : Int) + 2 ≤ v), h.tab v (by omega) hv2]
      omega
theorem read_go {rows : List Int} {c : Int} (hn : rows.length ≤ 300) : ∀ {s : Nat} {ls : List Int}, Half rows c s ls → s < rows.length →
    (∀ w, readT rows c s ls = .inl w → wrongGo rows c s ls.length = some w) ∧
    (∀ rs, readT rows c s ls = .inr rs → wrongGo rows c s ls.length = none ∧ ∃ m, Half rows c 0 m ∧ rs = m ++ List.replicate (c - m.length).toNat 1)
  | 0, ls, h, _ => ⟨fun w e => (by cases e), fun rs e => ⟨rfl, ls, h, by injection e with e; exact e.symm⟩⟩
  | s + 1, ls, h, hs => by
    have e := half_here h (by omega) hn
    rw [readT, wrongGo, e]
    generalize hf : rows.getD s 0 - pcount ls ((s : Int) + 1) - (c - ls.length) = f
    by_cases z : f < 0 ∨ c - ls.length < f
    · rw [if_pos z, if_neg (by omega)]
      exact ⟨fun w q => by injection q with q; rw [q], fun rs q => by cases q⟩
    · rw [if_neg z, if_pos (by omega)]
      have st := half_step h hs (by omega) (by omega)
      rw [hf] at st
      have r := read_go hn st (by omega)
      rw [show ((ls ++ List.replicate f.toNat ((s : Int) + 2)).length : Int) = f + ls.length from by rw [List.length_append, List.length_replicate]; push_cast; omega] at r
      exact r
theorem read_all {rows : List Int} (hn : rows.length ≤ 300) : (∀ w, readAll rows = .inl w → wrongT rows = some w) ∧
    (∀ rs, readAll rows = .inr rs → wrongT rows = none ∧ tabl rs rows.length = rows ∧ (∀ x ∈ rs, 1 ≤ x ∧ x ≤ rows.length) ∧ rs.Pairwise (· ≥ ·)) := by
  unfold readAll wrongT
  cases hl : rows.getLast? with
  | none =>
    have e0 : rows = [] := List.getLast?_eq_none_iff.mp hl
    subst e0
    refine ⟨fun w q => ?_, fun rs q => ?_⟩
    · cases (show (Sum.inr [] : Int ⊕ List Int) = Sum.inl w from q)
    · have e := Sum.inr.inj (show (Sum.inr [] : Int ⊕ List Int) = Sum.inr rs from q)
      subst e
      exact ⟨rfl, rfl, by simp, .nil⟩
  | some c =>
    obtain ⟨r0, er⟩ := List.getLast?_eq_some_iff.mp hl
    have hl1 : rows.length = r0.length + 1 := by rw [er, List.length_append]; rfl
    show (∀ w, (if c < 0 then _ else _) = _ → (if c < 0 then _ else _) = _) ∧ (∀ rs, (if c < 0 then _ else _) = _ → (if c < 0 then _ else _) = _ ∧ _)
    by_cases z : c < 0
    · rw [if_pos z, if_pos z]
      exact ⟨fun w q => by injection q with q; rw [q], fun rs q => by cases q⟩
    · rw [if_neg z, if_neg z]
      have H0 : Half rows c (rows.length - 1) [] := ⟨by simp, by simp; omega, .nil, fun v h1 h2 => by
        have ev : v - 1 = r0.length := by omega
        rw [ev, er, List.getD_eq_getElem?_getD, List.getElem?_append_right (Nat.le_refl _), Nat.sub_self]
        show c = pcount [] v + (c - 0)
        rw [show pcount [] (v : Int) = 0 from rfl]; omega⟩
      obtain ⟨a, b⟩ := read_go hn H0 (by omega)
      refine ⟨a, fun rs q => ?_⟩
      obtain ⟨b1, m, b2, b3⟩ := b rs q
      refine ⟨b1, ?_, ?_, ?_⟩
      · apply List.ext_getElem?
        intro i
        by_cases hi : i < rows.length
        · rw [tabl_at hi]
          have t := b2.tab (i + 1) (by omega) (by omega)
          have lm := b2.len
          rw [Nat.add_sub_cancel, List.getD_eq_getElem?_getD] at t
          rw [List.getElem?_eq_getElem hi] at t ⊢
          rw [show rows[i] = (some rows[i]).getD 0 from rfl, t, b3, pcount_app, pcount_rep]
          congr 1
          push_cast
          rw [ceil_small (by omega) (by omega : (1 : Int) ≤ i + 1), Int.toNat_of_nonneg (by omega)]
          omega
        · rw [List.getElem?_eq_none (by rw [tabl_len]; omega), List.getElem?_eq_none (by omega)]
      · intro x hx
        rw [b3] at hx
        rcases List.mem_append.mp hx with y | y
        · have := b2.mem x y; omega
        · have := (List.mem_replicate.mp y).2; subst this; omega
      · rw [b3]
        exact List.pairwise_append.mpr ⟨b2.dsc, List.pairwise_replicate.mpr (.inr (Int.le_refl _)), fun x hx y hy => by
          have := b2.mem x hx
          have e := (List.mem_replicate.mp hy).2
          subst e
          show 1 ≤ x
          omega⟩
theorem muGo_abs : ∀ (ps : List Nat) (n : Nat) (f : Int), (muGo ps n f).natAbs ≤ f.natAbs
  | [], _, _ => Nat.le_refl _
  | p :: ps, n, f => by
    rw [muGo]
    split
    · split
      · exact Nat.zero_le _
      · exact Nat.le_trans (muGo_abs ps _ _) (by omega)
    · exact muGo_abs ps _ _
theorem mu_abs (n : Nat) : (mu n).natAbs ≤ 1 := muGo_abs _ _ _
theorem wrongGo_le {rows : List Int} {c : Int} : ∀ {s : Nat} {late w : Int}, wrongGo rows c s late = some w → 0 ≤ w ∧ w ≤ s
  | 0, _, _, h => by cases h
  | s + 1, late, w, h => by
    rw [wrongGo] at h
    split at h
    · have := wrongGo_le h; push_cast; omega
    · injection h with h; push_cast; omega
theorem wrongT_le {rows : List Int} {w : Int} (h : wrongT rows = some w) : 0 ≤ w ∧ w ≤ rows.length := by
  unfold wrongT at h
  cases hl : rows.getLast? with
  | none => rw [hl] at h; cases h
  | some c =>
    rw [hl] at h
    have h' : (if c < 0 then some (rows.length : Int) else wrongGo rows c (rows.length - 1) 0) = some w := h
    split at h'
    · injection h' with h'; omega
    · have := wrongGo_le h'; omega
/-! What is refused ahead of a chain: the chapters, the lines, the first bad size. -/
def badCh : Int → List (Int × Int) → Option Nat
  | _, [] => none
  | b, p :: r => if p.1 ≤ b ∨ (0 < b ∧ p.1 % b ≠ 0) then some 0 else (badCh p.1 r).map (· + 1)
def demX (c l : Int) (ps : List (Int × Int)) : Option (Nat × Int) := if c < 0 then some (2, c) else if l < 0 then some (2, l) else (badCh 0 ps).map fun i => (3, (i : Int))
theorem badCh_ok : ∀ {ps : List (Int × Int)} {b : Int}, badCh b ps = none → ChOk b ps
  | [], _, _ => trivial
  | p :: r, b, h => by
    rw [badCh] at h
    by_cases c : p.1 ≤ b ∨ (0 < b ∧ p.1 % b ≠ 0)
    · rw [if_pos c] at h
      cases h
    · rw [if_neg c, Option.map_eq_none_iff] at h
      exact ⟨by omega, fun hb => by
        by_cases z : p.1 % b = 0
        · exact z
        · exact absurd (.inr ⟨hb, z⟩) c, badCh_ok h⟩
theorem badCh_none : ∀ {ps : List (Int × Int)} {b : Int}, ChOk b ps → badCh b ps = none
  | [], _, _ => rfl
  | p :: r, b, h => by
    rw [badCh, if_neg (fun z => z.elim (fun z => by have := h.1; omega) fun z => z.2 (h.2.1 z.1)), badCh_none h.2.2]
    rfl
theorem demX_none {c l : Int} {ps : List (Int × Int)} (h : demX c l ps = none) : 0 ≤ c ∧ 0 ≤ l ∧ ChOk 0 ps := by
  unfold demX at h
  by_cases h1 : c < 0
  · rw [if_pos h1] at h; cases h
  rw [if_neg h1] at h
  by_cases h2 : l < 0
  · rw [if_pos h2] at h; cases h
  rw [if_neg h2] at h
  exact ⟨by omega, by omega, badCh_ok (by cases hb : badCh 0 ps with | none => rfl | some i => rw [hb] at h; cases h)⟩
theorem demX_lt {c l v : Int} {ps : List (Int × Int)} {k : Nat} (h : demX c l ps = some (k, v)) : k < 4 := by
  unfold demX at h
  split at h
  · cases h; decide
  · split at h
    · cases h; decide
    · cases hb : badCh 0 ps with
      | none => rw [hb] at h; cases h
      | some i => rw [hb] at h; cases h; decide
def nthX (c l x : Int) (ps : List (Int × Int)) : Option (Nat × Int) := match demX c l ps with
  | some e => some e
  | none => if 0 ≤ x ∧ x < (fitting c.toNat l ps).length then none else some (2, x)
/-! Answers of refused calls (no class of the program is named here). -/
def dueT (rows : List Int) : Option (Nat × Int) := (wrongT rows).map fun w => (0, w)
def dueB (xs ys : List Int) : Option Nat := match badAt xs with
  | some i => some i
  | none => badAt ys
theorem read_len {rows ls : List Int} (hs : rows.length ≤ 300) (hc : ∀ c, rows.getLast? = some c → c ≤ 120) (h : readAll rows = .inr ls) : ls.length ≤ 120 := by
  obtain ⟨_, h2, h3, _⟩ := (read_all hs).2 ls h
  rcases Nat.eq_zero_or_pos rows.length with z | z
  · cases ls with
    | nil => exact Nat.zero_le _
    | cons x r => have := h3 x List.mem_cons_self; omega
  · obtain ⟨N, hN⟩ : ∃ N, rows.length = N + 1 := ⟨rows.length - 1, by omega⟩
    rw [hN, tabl_succ] at h2
    have e : rows.getLast? = some (pcount ls ((N : Int) + 1)) := by rw [← h2, List.getLast?_concat]
    have := hc _ e
    rw [pcount_one (fun x hx => by have := h3 x hx; omega)] at this
    omega
end WK13
namespace WK13
open PySem PySem.Spec PyProof.Rows L2
local macro_rules | `(tactic| walk_at "ne") => `(tactic| first | assumption | (apply Ne.symm; assumption) | exact ne_of_none (by assumption) (by assumption) | exact (ne_of_none (by assumption) (by assumption)).symm | exact ne_of_none upd_same (by assumption) | exact (ne_of_none upd_same (by assumption)).symm)
local macro_rules | `(tactic| walk_at "hp") => `(tactic| first | assumption | exact upd_same | (rw [upd_ne (by walk_at "ne")]; walk_at "hp"))
local macro_rules | `(tactic| walk_at "side") => `(tactic| first | omega | decide | assumption | exact ⟨by decide, by decide⟩ | exact ⟨by omega, by omega⟩ | exact .inl (by omega) | exact .inr (by omega) | exact .inl (by decide) | exact .inr (by decide) | exact ⟨by decide, by decide, by decide⟩ | exact ⟨by decide, by decide, by omega⟩ | exact .inl ⟨by omega, by omega⟩ | exact .inr ⟨by omega, by omega⟩ | exact .inr ⟨by decide, by decide⟩ | exact .inl ⟨by decide, by decide⟩ | (show _ < _; omega))
local macro_rules | `(tactic| walk_at "len") => `(tactic| ((try simp only [List.length_map, List.length_append, List.length_cons, List.length_nil, List.length_set, List.length_replicate]); omega))
local macro_rules | `(tactic| walk_at "sq") => `(tactic| first | assumption | exact HS.sq (by walk_at "hp"))
local macro_rules | `(tactic| walk_at "st") => `(tactic| first | assumption | exact HS.st (by walk_at "hp"))
local macro_rules | `(tactic| walk_at "h1") => `(tactic| first
  | with_reducible refine HS.seq ?_
  | with_reducible refine HS.asg ?_
  | with_reducible refine HS.nm ?_
  | with_reducible refine HS.var rfl ?_
  | with_reducible refine HS.cst ?_
  | with_reducible refine HS.op ?_
  | with_reducible refine HS.i0 ?_
  | ((with_reducible refine HS.i1 ?_); first | refine ⟨by walk_at "side", ?_⟩ | skip)
  | with_reducible refine HS.u0 ?_
  | with_reducible refine HS.un ?_
  | with_reducible refine HS.eqI ?_
  | with_reducible refine HS.neI ?_
  | with_reducible refine HS.tst ?_
  | with_reducible refine HS.tb1 ?_
  | with_reducible refine HS.bex ?_
  | with_reducible refine HS.ifs ?_
  | with_reducible refine HS.ife ?_
  | with_reducible refine HS.and ?_
  | with_reducible refine HS.or ?_
  | with_reducible refine HS.not ?_
  | with_reducible refine HS.andV ?_
  | with_reducible refine HS.orV ?_
  | with_reducible refine HS.notV ?_
  | with_reducible refine HS.chn ?_
  | with_reducible refine HS.ret ?_
  | with_reducible refine HS.retN ?_
  | with_reducible refine HS.drp ?_
  | with_reducible refine HS.cb ?_
  | with_reducible refine HS.anil ?_
  | with_reducible refine HS.acons ?_
  | with_reducible refine HS.cal ?_
  | with_reducible refine HS.tup ?_
  | with_reducible refine HS.lst ?_
  | with_reducible refine HS.par ?_
  | with_reducible refine HS.ex2 ?_
  | with_reducible refine HS.aug rfl ?_
  | with_reducible refine HS.ipi ?_
  | with_reducible refine HS.addI ?_
  | with_reducible refine HS.nxt ?_
  | with_reducible refine HS.brk ?_
  | with_reducible refine HS.cnt ?_
  | with_reducible refine HS.sub ?_
  | with_reducible refine HS.pnx ?_
  | with_reducible refine HS.prt ?_
  | with_reducible refine HS.pbk ?_
  | with_reducible refine HS.pct ?_
  | with_reducible refine iteF ?_
  | with_reducible refine iteT ?_
  | with_reducible refine HS.ii ?_
  | with_reducible refine HS.bmL ?_
  | with_reducible refine HS.bmL0 ?_
  | ((with_reducible refine' HS.tyL ?e ?_); case e => walk_at "hp")
  | ((with_reducible refine' HS.app ?e ?_); (case e => walk_at "hp"))
  | ((with_reducible refine' HS.setL ?e ?f ?_); (case e => walk_at "hp"); (case f => rfl))
  | ((with_reducible refine' HS.wp ?e ?_); case e => rfl)
  | ((with_reducible refine' HS.szc ?e ?_); case e => walk_at "len")
  | ((with_reducible refine' HS.szd ?e ?_); case e => walk_at "len")
  | with_reducible refine HS.yes ?_
  | with_reducible refine HS.lc ?_
  | with_reducible refine HS.rng1 ?_
  | with_reducible refine HS.rng2 ?_
  | with_reducible refine HS.rng3 ?_
  | with_reducible refine HS.lis ?_
  | with_reducible refine HS.fr ?_
  | with_reducible refine HS.i1e ?_
  | with_reducible refine HS.gthen ?_
  | with_reducible refine HS.g0 ?_
  | with_reducible refine HS.gfr ?_
  | with_reducible refine HS.gpl ?_
  | with_reducible refine HS.gyl ?_
  | with_reducible refine HS.lgn ?_
  | with_reducible refine HS.calg ?_
  | with_reducible refine HS.revL ?_
  | with_reducible refine HS.sl ?_
  | with_reducible refine HS.noP ?_
  | with_reducible refine HS.part ?_
  | with_reducible refine HS.ie ?_
  | ((with_reducible refine' HS.slLs ?e ?_); case e => walk_at "sq")
  | ((with_reducible refine' HS.gtup ?e ?f ?_); (case e => walk_at "st"); (case f => rfl))
  | with_reducible refine HS.gcons ?_
  | with_reducible refine HS.gnil ?_
  | with_reducible refine HS.itup ?_
  | with_reducible refine HS.ienu ?_
  | ((with_reducible refine' HS.cat ?e ?f ?_); (case e => walk_at "hp"); (case f => walk_at "hp"))
  | ((with_reducible refine' HS.ext ?e ?f ?_); (case e => walk_at "hp"); (case f => walk_at "hp"))
  | ((with_reducible refine' HS.sumL ?e ?_); case e => walk_at "sq")
  | ((with_reducible refine' HS.lenL ?e ?_); case e => walk_at "sq")
  | ((with_reducible refine' HS.lenT ?e ?_); case e => walk_at "st")
  | with_reducible refine HS.ra ?_
  | ((with_reducible refine' HS.ixL ?e ?f ?_); (case e => walk_at "sq"); (case f => rfl))
  | ((with_reducible refine' HS.ixT ?e ?f ?_); (case e => walk_at "st"); (case f => rfl)))
local macro_rules | `(tactic| walk_at "hs") => `(tactic| repeat' (walk_at "h1"))
local macro_rules | `(tactic| walk_at "fold") => `(tactic| (walk_at "hs"; assumption))
local macro_rules | `(tactic| walk_at "ns") => `(tactic| first | exact (fun z => z) | assumption | exact HS.nS2 (by walk_at "ne") (by walk_at "ne") | exact HS.nS3 (by walk_at "ne") (by walk_at "ne") (by walk_at "ne"))
local macro_rules | `(tactic| walk_at "kp") => `(tactic| first
  | assumption
  | exact HS.Keep.refl
  | (refine HS.Keep.at ?_ (by first | exact .inl rfl | exact .inr rfl | exact .inr (.inl rfl) | exact .inr (.inr rfl)); walk_at "kp")
  | (refine HS.Keep.put ?_ (by assumption); walk_at "kp")
  | (refine HS.Keep.new' (by assumption) (by first | assumption | exact HS.Keep.refl) (by walk_at "ns") ?_; walk_at "kp"))
local macro_rules | `(tactic| walk_at "ev") => `(tactic| first | assumption | exact HS.Exv.new (by walk_at "ev") (by assumption))
local macro_rules | `(tactic| walk_at "h1") => `(tactic| first
  | with_reducible refine HS.ost ?_
  | with_reducible refine HS.fldV ?_
  | with_reducible refine HS.newV ?_
  | with_reducible refine HS.newK ?_
  | ((with_reducible refine' HS.isV ?T ?he ?hq ?_); (case T => assumption); (case he => walk_at "ev"); (case hq => assumption))
  | ((with_reducible refine' HS.isVt ?T ?he ?hq ?_); (case T => assumption); (case he => walk_at "ev"); (case hq => assumption)))
local macro_rules | `(tactic| walk_at "h1") => `(tactic| first
  | with_reducible refine HS.caln ?_
  | with_reducible refine HS.ckw ?_
  | with_reducible refine HS.izip ?_
  | with_reducible refine HS.orT ?_
  | with_reducible refine HS.srv ?_
  | with_reducible refine HS.nt ?_
  | with_reducible refine HS.nf ?_
  | ((with_reducible refine' HS.lnn ?e ?f ?_); (case e => rfl); (case f => rfl)))
local macro_rules | `(tactic| walk_at "kp") => `(tactic| (refine HS.Keep.at ?_ rfl; walk_at "kp"))
local macro_rules | `(tactic| walk_at "h1") => `(tactic| first
  | with_reducible refine HS.mkO ?_
  | with_reducible refine HS.callS ?_
  | with_reducible refine HS.xf ?_)
local macro_rules | `(tactic| walk_at "h1") => `(tactic| first
  | with_reducible refine HS.par3 ?_
  | with_reducible refine HS.ex3 ?_)
local macro_rules | `(tactic| walk_at "h1") => `(tactic| first
  | with_reducible refine HS.omtS ?_
  | with_reducible refine HS.omtN ?_
  | with_reducible refine HS.omkS ?_
  | with_reducible refine HS.omkN ?_
  | with_reducible refine HS.fldX ?_
  | ((with_reducible refine' HS.gunl ?e ?f ?_); (case e => walk_at "sq"); (case f => rfl)))
local macro_rules | `(tactic| walk_at "sub") => `(tactic| repeat' (first | exact List.Sublist.slnil | exact List.nil_sublist _ | apply List.Sublist.cons₂ | apply List.Sublist.cons))
local macro_rules | `(tactic| walk_at "h1") => `(tactic| first
  | with_reducible refine HS.calnS ?_)
def topS (i : Nat) : Stmt := PySem.Challenge.pw_pagecounts_k13_errors_of_tables_and_chai.main.body.getD i (.Pass ⟨0, 0, 0, 0⟩)
abbrev s_InvalidBook___init__ : Stmt := HS.inS (topS 3) 0
abbrev N_InvalidBook___init__ : List Str := ["self", "value"]
theorem sc_InvalidBook___init__ : FnScope N_InvalidBook___init__ ["self", "value"] (defScope s_InvalidBook___init__) := ⟨rfl, rfl, rfl, by decide +kernel, rfl, by decide +kernel, by decide +kernel⟩
abbrev s_InvalidTable___init__ : Stmt := HS.inS (topS 5) 0
abbrev N_InvalidTable___init__ : List Str := ["self", "value"]
theorem sc_InvalidTable___init__ : FnScope N_InvalidTable___init__ ["self", "value"] (defScope s_InvalidTable___init__) := ⟨rfl, rfl, rfl, by decide +kernel, rfl, by decide +kernel, by decide +kernel⟩
abbrev s_InvalidChain___init__ : Stmt := HS.inS (topS 6) 0
abbrev N_InvalidChain___init__ : List Str := ["self", "value"]
theorem sc_InvalidChain___init__ : FnScope N_InvalidChain___init__ ["self", "value"] (defScope s_InvalidChain___init__) := ⟨rfl, rfl, rfl, by decide +kernel, rfl, by decide +kernel, by decide +kernel⟩
abbrev s_InvalidNumber___init__ : Stmt := HS.inS (topS 7) 0
abbrev N_InvalidNumber___init__ : List Str := ["self", "value"]
theorem sc_InvalidNumber___init__ : FnScope N_InvalidNumber___init__ ["self", "value"] (defScope s_InvalidNumber___init__) := ⟨rfl, rfl, rfl, by decide +kernel, rfl, by decide +kernel, by decide +kernel⟩
abbrev s__law_rng : Stmt := topS 36
abbrev N__law_rng : List Str := ["script", "digits", "seed", "cell", "size"]
theorem sc__law_rng : FnScope N__law_rng ["script"] (defScope s__law_rng) := ⟨rfl, rfl, rfl, by decide +kernel, rfl, by decide +kernel, by decide +kernel⟩
abbrev s__law_draw : Stmt := topS 37
abbrev N__law_draw : List Str := ["rng", "limit", "found", "mixed"]
theorem sc__law_draw : FnScope N__law_draw ["rng", "limit"] (defScope s__law_draw) := ⟨rfl, rfl, rfl, by decide +kernel, rfl, by decide +kernel, by decide +kernel⟩
abbrev s__law_counted : Stmt := topS 38
abbrev N__law_counted : List Str := ["some", "wide", "one"]
theorem sc__law_counted : FnScope N__law_counted ["some", "wide"] (defScope s__law_counted) := ⟨rfl, rfl, rfl, by decide +kernel, rfl, by decide +kernel, by decide +kernel⟩
abbrev s__law_some : Stmt := topS 39
abbrev N__law_some : List Str := ["rng", "most", "longest", "kind", "found", "turn", "near", "one"]
theorem sc__law_some : FnScope N__law_some ["rng", "most", "longest"] (defScope s__law_some) := ⟨rfl, rfl, rfl, by decide +kernel, rfl, by decide +kernel, by decide +kernel⟩
abbrev s_check_book : Stmt := topS 11
abbrev N_check_book : List Str := ["book", "index", "length"]
theorem sc_check_book : FnScope N_check_book ["book"] (defScope s_check_book) := ⟨rfl, rfl, rfl, by decide +kernel, rfl, by decide +kernel, by decide +kernel⟩
abbrev s_check_not_negative : Stmt := topS 12
abbrev N_check_not_negative : List Str := ["number"]
theorem sc_check_not_negative : FnScope N_check_not_negative ["number"] (defScope s_check_not_negative) := ⟨rfl, rfl, rfl, by decide +kernel, rfl, by decide +kernel, by decide +kernel⟩
abbrev s_check_chain : Stmt := topS 13
abbrev N_check_chain : List Str := ["chain", "before", "index", "size", "_"]
theorem sc_check_chain : FnScope N_check_chain ["chain"] (defScope s_check_chain) := ⟨rfl, rfl, rfl, by decide +kernel, rfl, by decide +kernel, by decide +kernel⟩
abbrev s_check_demands : Stmt := topS 18
abbrev N_check_demands : List Str := ["chapters", "lines", "chain"]
theorem sc_check_demands : FnScope N_check_demands ["chapters", "lines", "chain"] (defScope s_check_demands) := ⟨rfl, rfl, rfl, by decide +kernel, rfl, by decide +kernel, by decide +kernel⟩
abbrev s_has_book : Stmt := topS 19
abbrev N_has_book : List Str := ["chapters", "many"]
theorem sc_has_book : FnScope N_has_book ["chapters", "many"] (defScope s_has_book) := ⟨rfl, rfl, rfl, by decide +kernel, rfl, by decide +kernel, by decide +kernel⟩
abbrev s_list_places : Stmt := topS 20
abbrev N_list_places : List Str := ["chapters", "lines", "chain", "places", "size", "rest", "larger", "many", "limit"]
theorem sc_list_places : FnScope N_list_places ["chapters", "lines", "chain"] (defScope s_list_places) := ⟨rfl, rfl, rfl, by decide +kernel, rfl, by decide +kernel, by decide +kernel⟩
abbrev s_count_lists : Stmt := topS 22
abbrev N_count_lists : List Str := ["terms", "limit", "total", "found", "sign", "chosen"]
theorem sc_count_lists : FnScope N_count_lists ["terms", "limit", "total"] (defScope s_count_lists) := ⟨rfl, rfl, rfl, by decide +kernel, rfl, by decide +kernel, by decide +kernel⟩
abbrev s_multiply_ways : Stmt := topS 21
abbrev N_multiply_ways : List Str := ["chapters", "places", "books", "_", "limit", "total"]
theorem sc_multiply_ways : FnScope N_multiply_ways ["chapters", "places"] (defScope s_multiply_ways) := ⟨rfl, rfl, rfl, by decide +kernel, rfl, by decide +kernel, by decide +kernel⟩
abbrev s_find_small_digit : Stmt := topS 26
abbrev N_find_small_digit : List Str := ["left", "total", "number", "books", "share"]
theorem sc_find_small_digit : FnScope N_find_small_digit ["left", "total", "number", "books"] (defScope s_find_small_digit) := ⟨rfl, rfl, rfl, by decide +kernel, rfl, by decide +kernel, by decide +kernel⟩
abbrev s_find_free_digit : Stmt := topS 25
abbrev N_find_free_digit : List Str := ["left", "total", "number", "books", "digit", "share"]
theorem sc_find_free_digit : FnScope N_find_free_digit ["left", "total", "number", "books"] (defScope s_find_free_digit) := ⟨rfl, rfl, rfl, by decide +kernel, rfl, by decide +kernel, by decide +kernel⟩
abbrev s_find_digit : Stmt := topS 24
abbrev N_find_digit : List Str := ["left", "limit", "total", "number", "books", "digit", "everything", "share"]
theorem sc_find_digit : FnScope N_find_digit ["left", "limit", "total", "number", "books"] (defScope s_find_digit) := ⟨rfl, rfl, rfl, by decide +kernel, rfl, by decide +kernel, by decide +kernel⟩
abbrev s_list_lengths : Stmt := topS 23
abbrev N_list_lengths : List Str := ["chapters", "places", "number", "books", "lengths", "left", "length", "others", "size", "limit", "total", "digit", "place"]
theorem sc_list_lengths : FnScope N_list_lengths ["chapters", "places", "number", "books"] (defScope s_list_lengths) := ⟨rfl, rfl, rfl, by decide +kernel, rfl, by decide +kernel, by decide +kernel⟩
abbrev s_count_fitting : Stmt := topS 15
abbrev N_count_fitting : List Str := ["chapters", "lines", "chain"]
theorem sc_count_fitting : FnScope N_count_fitting ["chapters", "lines", "chain"] (defScope s_count_fitting) := ⟨rfl, rfl, rfl, by decide +kernel, rfl, by decide +kernel, by decide +kernel⟩
abbrev s_contradiction : Stmt := topS 16
abbrev N_contradiction : List Str := ["chapters", "lines", "chain", "places", "index", "_", "many", "limit", "total"]
theorem sc_contradiction : FnScope N_contradiction ["chapters", "lines", "chain"] (defScope s_contradiction) := ⟨rfl, rfl, rfl, by decide +kernel, rfl, by decide +kernel, by decide +kernel⟩
abbrev s_nth_fitting : Stmt := topS 17
abbrev N_nth_fitting : List Str := ["chapters", "lines", "chain", "number", "places", "books", "book"]
theorem sc_nth_fitting : FnScope N_nth_fitting ["chapters", "lines", "chain", "number"] (defScope s_nth_fitting) := ⟨rfl, rfl, rfl, by decide +kernel, rfl, by decide +kernel, by decide +kernel⟩
abbrev s_same_counts : Stmt := topS 28
abbrev N_same_counts : List Str := ["first", "second"]
theorem sc_same_counts : FnScope N_same_counts ["first", "second"] (defScope s_same_counts) := ⟨rfl, rfl, rfl, by decide +kernel, rfl, by decide +kernel, by decide +kernel⟩
abbrev s_parting_size : Stmt := topS 29
abbrev N_parting_size : List Str := ["first", "second", "one", "other"]
theorem sc_parting_size : FnScope N_parting_size ["first", "second"] (defScope s_parting_size) := ⟨rfl, rfl, rfl, by decide +kernel, rfl, by decide +kernel, by decide +kernel⟩
abbrev s_count_pages : Stmt := topS 31
abbrev N_count_pages : List Str := ["book", "size", "length"]
theorem sc_count_pages : FnScope N_count_pages ["book", "size"] (defScope s_count_pages) := ⟨rfl, rfl, rfl, by decide +kernel, rfl, by decide +kernel, by decide +kernel⟩
abbrev s_lengths_of : Stmt := topS 33
abbrev N_lengths_of : List Str := ["table", "chapters", "lengths", "size", "others", "found"]
theorem sc_lengths_of : FnScope N_lengths_of ["table"] (defScope s_lengths_of) := ⟨rfl, rfl, rfl, by decide +kernel, rfl, by decide +kernel, by decide +kernel⟩
abbrev s_count_books : Stmt := topS 34
abbrev N_count_books : List Str := ["table", "lengths", "orders", "length"]
theorem sc_count_books : FnScope N_count_books ["table"] (defScope s_count_books) := ⟨rfl, rfl, rfl, by decide +kernel, rfl, by decide +kernel, by decide +kernel⟩
abbrev s__law_moebius : Stmt := topS 41
abbrev N__law_moebius : List Str := ["number", "found", "prime"]
theorem sc__law_moebius : FnScope N__law_moebius ["number"] (defScope s__law_moebius) := ⟨rfl, rfl, rfl, by decide +kernel, rfl, by decide +kernel, by decide +kernel⟩
abbrev s__law_wrong : Stmt := topS 42
abbrev N__law_wrong : List Str := ["rows", "top", "signs", "late", "wide", "here", "times", "number"]
theorem sc__law_wrong : FnScope N__law_wrong ["rows"] (defScope s__law_wrong) := ⟨rfl, rfl, rfl, by decide +kernel, rfl, by decide +kernel, by decide +kernel⟩
abbrev s__law_sizes : Stmt := topS 40
abbrev N__law_sizes : List Str := ["rng", "many", "most", "found", "wide", "turn"]
theorem sc__law_sizes : FnScope N__law_sizes ["rng", "many", "most"] (defScope s__law_sizes) := ⟨rfl, rfl, rfl, by decide +kernel, rfl, by decide +kernel, by decide +kernel⟩
abbrev s__law_told : Stmt := topS 43
abbrev N__law_told : List Str := ["way", "one", "other", "some", "caught", "e", "flags"]
theorem sc__law_told : FnScope N__law_told ["way", "one", "other", "some"] (defScope s__law_told) := ⟨rfl, rfl, rfl, by decide +kernel, rfl, by decide +kernel, by decide +kernel⟩
abbrev s__law_bad_book : Stmt := topS 44
abbrev N__law_bad_book : List Str := ["rng", "some", "found", "turn"]
theorem sc__law_bad_book : FnScope N__law_bad_book ["rng", "some"] (defScope s__law_bad_book) := ⟨rfl, rfl, rfl, by decide +kernel, rfl, by decide +kernel, by decide +kernel⟩
abbrev s__law_first : Stmt := topS 45
abbrev N__law_first : List Str := ["some", "low", "spot", "one"]
theorem sc__law_first : FnScope N__law_first ["some"] (defScope s__law_first) := ⟨rfl, rfl, rfl, by decide +kernel, rfl, by decide +kernel, by decide +kernel⟩
abbrev s__law_bad_chain : Stmt := topS 46
abbrev N__law_bad_chain : List Str := ["rows", "last", "spot", "wide", "number"]
theorem sc__law_bad_chain : FnScope N__law_bad_chain ["rows"] (defScope s__law_bad_chain) := ⟨rfl, rfl, rfl, by decide +kernel, rfl, by decide +kernel, by decide +kernel⟩
abbrev s__law_chains_right : Stmt := topS 47
abbrev N__law_chains_right : List Str := ["rng", "turn", "some", "wide", "rows", "number", "low", "every", "spot", "bad", "kept", "told", "way"]
theorem sc__law_chains_right : FnScope N__law_chains_right ["rng"] (defScope s__law_chains_right) := ⟨rfl, rfl, rfl, by decide +kernel, rfl, by decide +kernel, by decide +kernel⟩
abbrev s_law : Stmt := topS 48
abbrev N_law : List Str := ["script", "rng", "lap", "top", "rows", "wrong", "due", "one", "other", "wide"]
theorem sc_law : FnScope N_law ["script"] (defScope s_law) := ⟨rfl, rfl, rfl, by decide +kernel, rfl, by decide +kernel, by decide +kernel⟩
structure Ad where
  a_InvalidBook___init__ : Addr
  d_InvalidBook___init__ : FuncData
  a_InvalidTable___init__ : Addr
  d_InvalidTable___init__ : FuncData
  a_InvalidChain___init__ : Addr
  d_InvalidChain___init__ : FuncData
  a_InvalidNumber___init__ : Addr
  d_InvalidNumber___init__ : FuncData
  a__law_rng : Addr
  d__law_rng : FuncData
  a__law_draw : Addr
  d__law_draw : FuncData
  a__law_counted : Addr
  d__law_counted : FuncData
  a__law_some : Addr
  d__law_some : FuncData
  a_check_book : Addr
  d_check_book : FuncData
  a_check_not_negative : Addr
  d_check_not_negative : FuncData
  a_check_chain : Addr
  d_check_chain : FuncData
  a_check_demands : Addr
  d_check_demands : FuncData
  a_has_book : Addr
  d_has_book : FuncData
  a_list_places : Addr
  d_list_places : FuncData
  a_count_lists : Addr
  d_count_lists : FuncData
  a_multiply_ways : Addr
  d_multiply_ways : FuncData
  a_find_small_digit : Addr
  d_find_small_digit : FuncData
  a_find_free_digit : Addr
  d_find_free_digit : FuncData
  a_find_digit : Addr
  d_find_digit : FuncData
  a_list_lengths : Addr
  d_list_lengths : FuncData
  a_count_fitting : Addr
  d_count_fitting : FuncData
  a_contradiction : Addr
  d_contradiction : FuncData
  a_nth_fitting : Addr
  d_nth_fitting : FuncData
  a_same_counts : Addr
  d_same_counts : FuncData
  a_parting_size : Addr
  d_parting_size : FuncData
  a_count_pages : Addr
  d_count_pages : FuncData
  a_lengths_of : Addr
  d_lengths_of : FuncData
  a_count_books : Addr
  d_count_books : FuncData
  a__law_moebius : Addr
  d__law_moebius : FuncData
  a__law_wrong : Addr
  d__law_wrong : FuncData
  a__law_sizes : Addr
  d__law_sizes : FuncData
  a__law_told : Addr
  d__law_told : FuncData
  a__law_bad_book : Addr
  d__law_bad_book : FuncData
  a__law_first : Addr
  d__law_first : FuncData
  a__law_bad_chain : Addr
  d__law_bad_chain : FuncData
  a__law_chains_right : Addr
  d__law_chains_right : FuncData
  a_law : Addr
  d_law : FuncData
  c_BookError : Addr
  c_InvalidBook : Addr
  c_InvalidSize : Addr
  c_InvalidTable : Addr
  c_InvalidChain : Addr
  c_InvalidNumber : Addr
  c_NothingToUndo : Addr
  c_Unreadable : Addr
structure Txt (K : PySem.W.Frag) (mg : Str → Option Value) (A : Ad) : Prop where
  F_InvalidBook___init__ : Fun K "__init__" "InvalidBook.__init__" s_InvalidBook___init__ A.a_InvalidBook___init__ A.d_InvalidBook___init__
  b_InvalidBook___init__ : Binds K A.d_InvalidBook___init__ ["self", "value"] []
  F_InvalidTable___init__ : Fun K "__init__" "InvalidTable.__init__" s_InvalidTable___init__ A.a_InvalidTable___init__ A.d_InvalidTable___init__
  b_InvalidTable___init__ : Binds K A.d_InvalidTable___init__ ["self", "value"] []
  F_InvalidChain___init__ : Fun K "__init__" "InvalidChain.__init__" s_InvalidChain___init__ A.a_InvalidChain___init__ A.d_InvalidChain___init__
  b_InvalidChain___init__ : Binds K A.d_InvalidChain___init__ ["self", "value"] []
  F_InvalidNumber___init__ : Fun K "__init__" "InvalidNumber.__init__" s_InvalidNumber___init__ A.a_InvalidNumber___init__ A.d_InvalidNumber___init__
  b_InvalidNumber___init__ : Binds K A.d_InvalidNumber___init__ ["self", "value"] []
  F__law_rng : Fun K "_law_rng" "_law_rng" s__law_rng A.a__law_rng A.d__law_rng
  g__law_rng : mg "_law_rng" = some (.ref A.a__law_rng)
  b__law_rng : Binds K A.d__law_rng ["script"] []
  F__law_draw : Fun K "_law_draw" "_law_draw" s__law_draw A.a__law_draw A.d__law_draw
  g__law_draw : mg "_law_draw" = some (.ref A.a__law_draw)
  b__law_draw : Binds K A.d__law_draw ["rng", "limit"] []
  F__law_counted : Fun K "_law_counted" "_law_counted" s__law_counted A.a__law_counted A.d__law_counted
  g__law_counted : mg "_law_counted" = some (.ref A.a__law_counted)
  b__law_counted : Binds K A.d__law_counted ["some", "wide"] []
  F__law_some : Fun K "_law_some" "_law_some" s__law_some A.a__law_some A.d__law_some
  g__law_some : mg "_law_some" = some (.ref A.a__law_some)
  b__law_some : Binds K A.d__law_some ["rng", "most", "longest"] []
  F_check_book : Fun K "check_book" "check_book" s_check_book A.a_check_book A.d_check_book
  g_check_book : mg "check_book" = some (.ref A.a_check_book)
  b_check_book : Binds K A.d_check_book ["book"] []
  F_check_not_negative : Fun K "check_not_negative" "check_not_negative" s_check_not_negative A.a_check_not_negative A.d_check_not_negative
  g_check_not_negative : mg "check_not_negative" = some (.ref A.a_check_not_negative)
  b_check_not_negative : Binds K A.d_check_not_negative ["number"] []
  F_check_chain : Fun K "check_chain" "check_chain" s_check_chain A.a_check_chain A.d_check_chain
  g_check_chain : mg "check_chain" = some (.ref A.a_check_chain)
  b_check_chain : Binds K A.d_check_chain ["chain"] []
  F_check_demands : Fun K "check_demands" "check_demands" s_check_demands A.a_check_demands A.d_check_demands
  g_check_demands : mg "check_demands" = some (.ref A.a_check_demands)
  b_check_demands : Binds K A.d_check_demands ["chapters", "lines", "chain"] []
  F_has_book : Fun K "has_book" "has_book" s_has_book A.a_has_book A.d_has_book
  g_has_book : mg "has_book" = some (.ref A.a_has_book)
  b_has_book : Binds K A.d_has_book ["chapters", "many"] []
  F_list_places : Fun K "list_places" "list_places" s_list_places A.a_list_places A.d_list_places
  g_list_places : mg "list_places" = some (.ref A.a_list_places)
  b_list_places : Binds K A.d_list_places ["chapters", "lines", "chain"] []
  F_count_lists : Fun K "count_lists" "count_lists" s_count_lists A.a_count_lists A.d_count_lists
  g_count_lists : mg "count_lists" = some (.ref A.a_count_lists)
  b_count_lists : Binds K A.d_count_lists ["terms", "limit", "total"] []
  F_multiply_ways : Fun K "multiply_ways" "multiply_ways" s_multiply_ways A.a_multiply_ways A.d_multiply_ways
  g_multiply_ways : mg "multiply_ways" = some (.ref A.a_multiply_ways)
  b_multiply_ways : Binds K A.d_multiply_ways ["chapters", "places"] []
  F_find_small_digit : Fun K "find_small_digit" "find_small_digit" s_find_small_digit A.a_find_small_digit A.d_find_small_digit
  g_find_small_digit : mg "find_small_digit" = some (.ref A.a_find_small_digit)
  b_find_small_digit : Binds K A.d_find_small_digit ["left", "total", "number", "books"] []
  F_find_free_digit : Fun K "find_free_digit" "find_free_digit" s_find_free_digit A.a_find_free_digit A.d_find_free_digit
  g_find_free_digit : mg "find_free_digit" = some (.ref A.a_find_free_digit)
  b_find_free_digit : Binds K A.d_find_free_digit ["left", "total", "number", "books"] []
  F_find_digit : Fun K "find_digit" "find_digit" s_find_digit A.a_find_digit A.d_find_digit
  g_find_digit : mg "find_digit" = some (.ref A.a_find_digit)
  b_find_digit : Binds K A.d_find_digit ["left", "limit", "total", "number", "books"] []
  F_list_lengths : Fun K "list_lengths" "list_lengths" s_list_lengths A.a_list_lengths A.d_list_lengths
  g_list_lengths : mg "list_lengths" = some (.ref A.a_list_lengths)
  b_list_lengths : Binds K A.d_list_lengths ["chapters", "places", "number", "books"] []
  F_count_fitting : Fun K "count_fitting" "count_fitting" s_count_fitting A.a_count_fitting A.d_count_fitting
  g_count_fitting : mg "count_fitting" = some (.ref A.a_count_fitting)
  b_count_fitting : Binds K A.d_count_fitting ["chapters", "lines", "chain"] []
  F_contradiction : Fun K "contradiction" "contradiction" s_contradiction A.a_contradiction A.d_contradiction
  g_contradiction : mg "contradiction" = some (.ref A.a_contradiction)
  b_contradiction : Binds K A.d_contradiction ["chapters", "lines", "chain"] []
  F_nth_fitting : Fun K "nth_fitting" "nth_fitting" s_nth_fitting A.a_nth_fitting A.d_nth_fitting
  g_nth_fitting : mg "nth_fitting" = some (.ref A.a_nth_fitting)
  b_nth_fitting : Binds K A.d_nth_fitting ["chapters", "lines", "chain", "number"] []
  F_same_counts : Fun K "same_counts" "same_counts" s_same_counts A.a_same_counts A.d_same_counts
  g_same_counts : mg "same_counts" = some (.ref A.a_same_counts)
  b_same_counts : Binds K A.d_same_counts ["first", "second"] []
  F_parting_size : Fun K "parting_size" "parting_size" s_parting_size A.a_parting_size A.d_parting_size
  g_parting_size : mg "parting_size" = some (.ref A.a_parting_size)
  b_parting_size : Binds K A.d_parting_size ["first", "second"] []
  F_count_pages : Fun K "count_pages" "count_pages" s_count_pages A.a_count_pages A.d_count_pages
  g_count_pages : mg "count_pages" = some (.ref A.a_count_pages)
  b_count_pages : Binds K A.d_count_pages ["book", "size"] []
  F_lengths_of : Fun K "lengths_of" "lengths_of" s_lengths_of A.a_lengths_of A.d_lengths_of
  g_lengths_of : mg "lengths_of" = some (.ref A.a_lengths_of)
  b_lengths_of : Binds K A.d_lengths_of ["table"] []
  F_count_books : Fun K "count_books" "count_books" s_count_books A.a_count_books A.d_count_books
  g_count_books : mg "count_books" = some (.ref A.a_count_books)
  b_count_books : Binds K A.d_count_books ["table"] []
  F__law_moebius : Fun K "_law_moebius" "_law_moebius" s__law_moebius A.a__law_moebius A.d__law_moebius
  g__law_moebius : mg "_law_moebius" = some (.ref A.a__law_moebius)
  b__law_moebius : Binds K A.d__law_moebius ["number"] []
  F__law_wrong : Fun K "_law_wrong" "_law_wrong" s__law_wrong A.a__law_wrong A.d__law_wrong
  g__law_wrong : mg "_law_wrong" = some (.ref A.a__law_wrong)
  b__law_wrong : Binds K A.d__law_wrong ["rows"] []
  F__law_sizes : Fun K "_law_sizes" "_law_sizes" s__law_sizes A.a__law_sizes A.d__law_sizes
  g__law_sizes : mg "_law_sizes" = some (.ref A.a__law_sizes)
  b__law_sizes : Binds K A.d__law_sizes ["rng", "many", "most"] []
  F__law_told : Fun K "_law_told" "_law_told" s__law_told A.a__law_told A.d__law_told
  g__law_told : mg "_law_told" = some (.ref A.a__law_told)
  b__law_told : Binds K A.d__law_told ["way", "one", "other", "some"] []
  F__law_bad_book : Fun K "_law_bad_book" "_law_bad_book" s__law_bad_book A.a__law_bad_book A.d__law_bad_book
  g__law_bad_book : mg "_law_bad_book" = some (.ref A.a__law_bad_book)
  b__law_bad_book : Binds K A.d__law_bad_book ["rng", "some"] []
  F__law_first : Fun K "_law_first" "_law_first" s__law_first A.a__law_first A.d__law_first
  g__law_first : mg "_law_first" = some (.ref A.a__law_first)
  b__law_first : Binds K A.d__law_first ["some"] []
  F__law_bad_chain : Fun K "_law_bad_chain" "_law_bad_chain" s__law_bad_chain A.a__law_bad_chain A.d__law_bad_chain
  g__law_bad_chain : mg "_law_bad_chain" = some (.ref A.a__law_bad_chain)
  b__law_bad_chain : Binds K A.d__law_bad_chain ["rows"] []
  F__law_chains_right : Fun K "_law_chains_right" "_law_chains_right" s__law_chains_right A.a__law_chains_right A.d__law_chains_right
  g__law_chains_right : mg "_law_chains_right" = some (.ref A.a__law_chains_right)
  b__law_chains_right : Binds K A.d__law_chains_right ["rng"] []
  F_law : Fun K "law" "law" s_law A.a_law A.d_law
  g_law : mg "law" = some (.ref A.a_law)
  b_law : Binds K A.d_law ["script"] []
  z_ValueError : mg "ValueError" = none
  z_abs : mg "abs" = none
  z_enumerate : mg "enumerate" = none
  z_int : mg "int" = none
  z_isinstance : mg "isinstance" = none
  z_len : mg "len" = none
  z_list : mg "list" = none
  z_max : mg "max" = none
  z_min : mg "min" = none
  z_range : mg "range" = none
  z_repr : mg "repr" = none
  z_set : mg "set" = none
  z_sorted : mg "sorted" = none
  z_sum : mg "sum" = none
  z_zip : mg "zip" = none
  y_comb : mg "comb" = some (.builtin "math.comb")
  y_factorial : mg "factorial" = some (.builtin "math.factorial")
  kb_contradiction_0_chain_chapters_lines : HS.KBX K A.d_contradiction ["chapters", "lines", "chain"] 0 ["chain", "chapters", "lines"] (fun us ws => [ws.getD 1 .none, ws.getD 2 .none, ws.getD 0 .none]) (fun vs zs => [zs.getD 1 .non, zs.getD 2 .non, zs.getD 0 .non])
  kb_count_books_0_table : HS.KBX K A.d_count_books ["table"] 0 ["table"] (fun us ws => [ws.getD 0 .none]) (fun vs zs => [zs.getD 0 .non])
  kb_parting_size_0_second_first : HS.KBX K A.d_parting_size ["first", "second"] 0 ["second", "first"] (fun us ws => [ws.getD 1 .none, ws.getD 0 .none]) (fun vs zs => [zs.getD 1 .non, zs.getD 0 .non])
  m_BookError : mg "BookError" = some (.ref A.c_BookError)
  m_InvalidBook : mg "InvalidBook" = some (.ref A.c_InvalidBook)
  m_InvalidSize : mg "InvalidSize" = some (.ref A.c_InvalidSize)
  m_InvalidTable : mg "InvalidTable" = some (.ref A.c_InvalidTable)
  m_InvalidChain : mg "InvalidChain" = some (.ref A.c_InvalidChain)
  m_InvalidNumber : mg "InvalidNumber" = some (.ref A.c_InvalidNumber)
  m_NothingToUndo : mg "NothingToUndo" = some (.ref A.c_NothingToUndo)
  m_Unreadable : mg "Unreadable" = some (.ref A.c_Unreadable)
  C_InvalidBook : OexC K A.c_InvalidBook
  V_InvalidBook : ExcC K A.c_InvalidBook
  X_InvalidBook : XfC K A.c_InvalidBook
  n_InvalidBook : PySem.W.findIn K (.ref A.c_InvalidBook) "value" = some none
  i_InvalidBook : PySem.W.findIn K (.ref A.c_InvalidBook) "__init__" = some (some (.ref A.a_InvalidBook___init__))
  t_InvalidBook : PySem.W.typeIn K (.ref A.a_InvalidBook___init__) = some (.type "function")
  k_InvalidBook : KBn K A.d_InvalidBook___init__ ["self", "value"] 1 ["value"] (fun us ws => us ++ ws) (fun vs zs => vs ++ zs)
  q_InvalidBook_BookError : PySem.W.kitOne K (.ref A.c_InvalidBook) (.ref A.c_BookError) = some true
  q_InvalidBook_InvalidBook : PySem.W.kitOne K (.ref A.c_InvalidBook) (.ref A.c_InvalidBook) = some true
  q_InvalidBook_InvalidSize : PySem.W.kitOne K (.ref A.c_InvalidBook) (.ref A.c_InvalidSize) = some false
  q_InvalidBook_InvalidTable : PySem.W.kitOne K (.ref A.c_InvalidBook) (.ref A.c_InvalidTable) = some false
  q_InvalidBook_InvalidChain : PySem.W.kitOne K (.ref A.c_InvalidBook) (.ref A.c_InvalidChain) = some false
  q_InvalidBook_InvalidNumber : PySem.W.kitOne K (.ref A.c_InvalidBook) (.ref A.c_InvalidNumber) = some false
  q_InvalidBook_NothingToUndo : PySem.W.kitOne K (.ref A.c_InvalidBook) (.ref A.c_NothingToUndo) = some false
  q_InvalidBook_Unreadable : PySem.W.kitOne K (.ref A.c_InvalidBook) (.ref A.c_Unreadable) = some false
  q_InvalidBook_ValueError : PySem.W.kitOne K (.ref A.c_InvalidBook) (.type "ValueError") = some true
  C_InvalidTable : OexC K A.c_InvalidTable
  V_InvalidTable : ExcC K A.c_InvalidTable
  X_InvalidTable : XfC K A.c_InvalidTable
  n_InvalidTable : PySem.W.findIn K (.ref A.c_InvalidTable) "value" = some none
  i_InvalidTable : PySem.W.findIn K (.ref A.c_InvalidTable) "__init__" = some (some (.ref A.a_InvalidTable___init__))
  t_InvalidTable : PySem.W.typeIn K (.ref A.a_InvalidTable___init__) = some (.type "function")
  k_InvalidTable : KBn K A.d_InvalidTable___init__ ["self", "value"] 1 ["value"] (fun us ws => us ++ ws) (fun vs zs => vs ++ zs)
  q_InvalidTable_BookError : PySem.W.kitOne K (.ref A.c_InvalidTable) (.ref A.c_BookError) = some true
  q_InvalidTable_InvalidBook : PySem.W.kitOne K (.ref A.c_InvalidTable) (.ref A.c_InvalidBook) = some false
  q_InvalidTable_InvalidSize : PySem.W.kitOne K (.ref A.c_InvalidTable) (.ref A.c_InvalidSize) = some false
  q_InvalidTable_InvalidTable : PySem.W.kitOne K (.ref A.c_InvalidTable) (.ref A.c_InvalidTable) = some true
  q_InvalidTable_InvalidChain : PySem.W.kitOne K (.ref A.c_InvalidTable) (.ref A.c_InvalidChain) = some false
  q_InvalidTable_InvalidNumber : PySem.W.kitOne K (.ref A.c_InvalidTable) (.ref A.c_InvalidNumber) = some false
  q_InvalidTable_NothingToUndo : PySem.W.kitOne K (.ref A.c_InvalidTable) (.ref A.c_NothingToUndo) = some false
  q_InvalidTable_Unreadable : PySem.W.kitOne K (.ref A.c_InvalidTable) (.ref A.c_Unreadable) = some false
  q_InvalidTable_ValueError : PySem.W.kitOne K (.ref A.c_InvalidTable) (.type "ValueError") = some true
  C_InvalidChain : OexC K A.c_InvalidChain
  V_InvalidChain : ExcC K A.c_InvalidChain
  X_InvalidChain : XfC K A.c_InvalidChain
  n_InvalidChain : PySem.W.findIn K (.ref A.c_InvalidChain) "value" = some none
  i_InvalidChain : PySem.W.findIn K (.ref A.c_InvalidChain) "__init__" = some (some (.ref A.a_InvalidChain___init__))
  t_InvalidChain : PySem.W.typeIn K (.ref A.a_InvalidChain___init__) = some (.type "function")
  k_InvalidChain : KBn K A.d_InvalidChain___init__ ["self", "value"] 1 ["value"] (fun us ws => us ++ ws) (fun vs zs => vs ++ zs)
  q_InvalidChain_BookError : PySem.W.kitOne K (.ref A.c_InvalidChain) (.ref A.c_BookError) = some true
  q_InvalidChain_InvalidBook : PySem.W.kitOne K (.ref A.c_InvalidChain) (.ref A.c_InvalidBook) = some false
  q_InvalidChain_InvalidSize : PySem.W.kitOne K (.ref A.c_InvalidChain) (.ref A.c_InvalidSize) = some false
  q_InvalidChain_InvalidTable : PySem.W.kitOne K (.ref A.c_InvalidChain) (.ref A.c_InvalidTable) = some false
  q_InvalidChain_InvalidChain : PySem.W.kitOne K (.ref A.c_InvalidChain) (.ref A.c_InvalidChain) = some true
  q_InvalidChain_InvalidNumber : PySem.W.kitOne K (.ref A.c_InvalidChain) (.ref A.c_InvalidNumber) = some false
  q_InvalidChain_NothingToUndo : PySem.W.kitOne K (.ref A.c_InvalidChain) (.ref A.c_NothingToUndo) = some false
  q_InvalidChain_Unreadable : PySem.W.kitOne K (.ref A.c_InvalidChain) (.ref A.c_Unreadable) = some false
  q_InvalidChain_ValueError : PySem.W.kitOne K (.ref A.c_InvalidChain) (.type "ValueError") = some true
  C_InvalidNumber : OexC K A.c_InvalidNumber
  V_InvalidNumber : ExcC K A.c_InvalidNumber
  X_InvalidNumber : XfC K A.c_InvalidNumber
  n_InvalidNumber : PySem.W.findIn K (.ref A.c_InvalidNumber) "value" = some none
  i_InvalidNumber : PySem.W.findIn K (.ref A.c_InvalidNumber) "__init__" = some (some (.ref A.a_InvalidNumber___init__))
  t_InvalidNumber : PySem.W.typeIn K (.ref A.a_InvalidNumber___init__) = some (.type "function")
  k_InvalidNumber : KBn K A.d_InvalidNumber___init__ ["self", "value"] 1 ["value"] (fun us ws => us ++ ws) (fun vs zs => vs ++ zs)
  q_InvalidNumber_BookError : PySem.W.kitOne K (.ref A.c_InvalidNumber) (.ref A.c_BookError) = some true
  q_InvalidNumber_InvalidBook : PySem.W.kitOne K (.ref A.c_InvalidNumber) (.ref A.c_InvalidBook) = some false
  q_InvalidNumber_InvalidSize : PySem.W.kitOne K (.ref A.c_InvalidNumber) (.ref A.c_InvalidSize) = some false
  q_InvalidNumber_InvalidTable : PySem.W.kitOne K (.ref A.c_InvalidNumber) (.ref A.c_InvalidTable) = some false
  q_InvalidNumber_InvalidChain : PySem.W.kitOne K (.ref A.c_InvalidNumber) (.ref A.c_InvalidChain) = some false
  q_InvalidNumber_InvalidNumber : PySem.W.kitOne K (.ref A.c_InvalidNumber) (.ref A.c_InvalidNumber) = some true
  q_InvalidNumber_NothingToUndo : PySem.W.kitOne K (.ref A.c_InvalidNumber) (.ref A.c_NothingToUndo) = some false
  q_InvalidNumber_Unreadable : PySem.W.kitOne K (.ref A.c_InvalidNumber) (.ref A.c_Unreadable) = some false
  q_InvalidNumber_ValueError : PySem.W.kitOne K (.ref A.c_InvalidNumber) (.type "ValueError") = some true
  e_InvalidTable_BookError : PySem.W.exmOne K (.ref A.c_InvalidTable) (.ref A.c_BookError) = some true
  e_InvalidBook_BookError : PySem.W.exmOne K (.ref A.c_InvalidBook) (.ref A.c_BookError) = some true
  e_InvalidNumber_BookError : PySem.W.exmOne K (.ref A.c_InvalidNumber) (.ref A.c_BookError) = some true
  e_InvalidChain_BookError : PySem.W.exmOne K (.ref A.c_InvalidChain) (.ref A.c_BookError) = some true
/-! What a call told: nothing, or the class of its error and the value. -/
def clsOf (A : Ad) : Nat → Addr
  | 0 => A.c_InvalidTable
  | 1 => A.c_InvalidBook
  | 2 => A.c_InvalidNumber
  | _ => A.c_InvalidChain
def word4 : Nat → Str
  | 0 => "table"
  | 1 => "book"
  | 2 => "number"
  | _ => "chain"
abbrev Due := Option (Nat × Int)
def DueAt (H : Hp) (v : V) : Due → Prop
  | none => v = .non
  | some (k, z) => ∃ p, v = .ref p ∧ H p = some (.lst [.str (word4 k), .int z])
def dDue : Due → PyData
  | none => .none
  | some (k, z) => HS.dSI (word4 k) z
theorem DueAt.same {H H' : Hp} {v : V} {d : Due} (h : DueAt H v d) (k : HS.Keep (fun _ => False) H H') : DueAt H' v d := by
  cases d with
  | none => exact h
  | some x => obtain ⟨p, e, hp⟩ := h; exact ⟨p, e, k _ _ hp id⟩
theorem DueAt.put {H : Hp} {v : V} {d : Due} {D : Addr} {o : HO} (h : DueAt H v d) (n : v ≠ .ref D) : DueAt (upd H D o) v d := by
  cases d with
  | none => exact h
  | some x => obtain ⟨p, e, hp⟩ := h; exact ⟨p, e, by rw [upd_ne (fun z => n (by rw [e, z]))]; exact hp⟩
theorem DueAt.ne {H : Hp} {v : V} {d : Due} {D : Addr} (h : DueAt H v d) (n : H D = none) : v ≠ .ref D := fun z => by
  cases d with
  | none => rw [show v = .non from h] at z; cases z
  | some x => obtain ⟨p, e, hp⟩ := h; rw [e] at z; cases z; rw [n] at hp; cases hp
theorem DueAt.dp {K : PySem.W.Frag} {H : Hp} {v : V} {d : Due} (h : DueAt H v d) : Dp K H v (dDue d) := by
  cases d with
  | none =>
    have h : v = .non := h
    rw [h]; exact .non
  | some x => obtain ⟨p, e, hp⟩ := h; rw [e]; exact HS.dp_SI (HS.sq hp)
theorem word4_ok (k : Nat) : PyData.strOk (word4 k) = true := by
  match k with
  | 0 => decide +kernel
  | 1 => decide +kernel
  | 2 => decide +kernel
  | k + 3 => exact (by decide +kernel : PyData.strOk ("chain" : Str) = true)
theorem due_sh (d : Due) : PyData.canLay0 (dDue d) = true ∧ (dDue d).depth ≤ 2 := by
  cases d with
  | none => exact ⟨rfl, by simp [dDue, PyData.depth]⟩
  | some x => exact ⟨by simp [dDue, HS.dSI, PyData.canLay0, PyData.canLayAll0, word4_ok], by simp [dDue, HS.dSI, PyData.depth, PyData.depthAll]⟩
theorem due_eqv (d : Due) : PyData.eqv (dDue d) (dDue d) = true := by
  cases d with
  | none => rfl
  | some x => exact HS.eqv_SI _ _
theorem due_sh1 (d : Due) : SeqAt.shaped (dDue d) = true := by
  obtain ⟨h1, h2⟩ := due_sh d
  show (PyData.canLay0 (dDue d) && decide (PyData.depth (dDue d) ≤ 64)) = true
  rw [h1, decide_eq_true (by omega)]; rfl
theorem due_sh2 (d : Due) : SeqAt.shaped (.list [dDue d, dDue d]) = true := by
  obtain ⟨h1, h2⟩ := due_sh d
  have h3 : PyData.depth (.list [dDue d, dDue d]) ≤ 64 := by rw [PyData.depth, PyData.depthAll, PyData.depthAll, PyData.depthAll]; omega
  show (PyData.canLay0 (.list [dDue d, dDue d]) && decide (PyData.depth (.list [dDue d, dDue d]) ≤ 64)) = true
  rw [decide_eq_true h3, PyData.canLay0, PyData.canLayAll0, PyData.canLayAll0, PyData.canLayAll0, h1]; rfl
theorem due_eqv2 (d : Due) : PyData.eqv (.list [dDue d, dDue d]) (.list [dDue d, dDue d]) = true := by
  rw [PyData.eqv, PyData.eqvAll, PyData.eqvAll, PyData.eqvAll, due_eqv]; rfl
theorem word4_tame (k : Nat) : HS.tame (.str (word4 k)) = true ∧ PyData.bulk (.str (word4 k)) ≤ 40 := by
  match k with
  | 0 => exact ⟨by decide +kernel, by decide +kernel⟩
  | 1 => exact ⟨by decide +kernel, by decide +kernel⟩
  | 2 => exact ⟨by decide +kernel, by decide +kernel⟩
  | k + 3 => exact ⟨(by decide +kernel : HS.tame (.str ("chain" : Str)) = true), (by decide +kernel : PyData.bulk (.str ("chain" : Str)) ≤ 40)⟩
theorem due_tame (d : Due) (h : ∀ k z, d = some (k, z) → z.natAbs < 2 ^ 200) : HS.tame (dDue d) = true ∧ (dDue d).bulk ≤ 100 := by
  cases d with
  | none => exact ⟨rfl, by simp [dDue, PyData.bulk]⟩
  | some x =>
    obtain ⟨k, z⟩ := x
    obtain ⟨a, b⟩ := word4_tame k
    refine ⟨?_, ?_⟩
    · show HS.tame (.list [.str (word4 k), .int z]) = true
      rw [HS.tame, HS.tameAll, HS.tameAll, HS.tameAll, a, HS.tame, decide_eq_true (h k z rfl)]; rfl
    · show PyData.bulk (.list [.str (word4 k), .int z]) ≤ 100
      rw [PyData.bulk, PyData.bulkAll, PyData.bulkAll, PyData.bulkAll]
      have : PyData.bulk (.int z) ≤ 3 := by simp [PyData.bulk]
      omega
inductive Told (K : PySem.W.Frag) (H : Hp) (way : Nat) (one other sm : Addr) : Due → Prop
  | tab (rows : List Int) (hw : way = 0 ∨ way = 1) (h : SqL K H one (rows.map V.int)) (hl : rows.length ≤ 300) (hc : ∀ c, rows.getLast? = some c → c ≤ 120) : Told K H way one other sm (dueT rows)
  | two (xs ys : List Int) (hw : way = 2 ∨ way = 3) (h1 : SqL K H one (xs.map V.int)) (h2 : SqL K H other (ys.map V.int)) : Told K H way one other sm ((dueB xs ys).map fun i => (1, (i : Int)))
  | chn (c l : Int) (zs ws : List V) (ps : List (Int × Int)) (hw : way = 4 ∨ way = 5) (h1 : SqL K H one zs) (hP : HS.Prs H zs ps) (h2 : SqL K H sm (.int c :: .int l :: ws)) (hl : ps.length ≤ 8) (hB : ∀ p ∈ ps, -(2 ^ 98) < p.1 ∧ p.1 < 2 ^ 88 ∧ -(2 ^ 98) < p.2 ∧ p.2 < 2 ^ 98) (hc : c ≤ 11) (hl1 : l < 2 ^ 90) : Told K H way one other sm (demX c l ps)
  | nth (c l x : Int) (zs : List V) (ps : List (Int × Int)) (hw : way = 6) (h1 : SqL K H one zs) (hP : HS.Prs H zs ps) (h2 : SqL K H sm [.int c, .int l, .int x]) (hl : ps.length ≤ 8) (hB : ∀ p ∈ ps, -(2 ^ 98) < p.1 ∧ p.1 < 2 ^ 88 ∧ -(2 ^ 98) < p.2 ∧ p.2 < 2 ^ 98) (hc : c ≤ 11) (hl1 : l < 2 ^ 90) : Told K H way one other sm (nthX c l x ps)

section
variable {P : Program} {w : World} {K : PySem.W.Frag} {mg : Str → Option Value} {base : Heap} {A : Ad}
def sp_InvalidBook___init__ (K : PySem.W.Frag) : Sp := fun vs H Q _ => ∃ (a C : Addr) (w : V), vs = [.ref a, w] ∧ (OexC K C ∧ PySem.W.findIn K (.ref C) "value" = some none ∧ H a = some (exo a C none) ∧ ∀ H' d, HS.Keep (fun x => x = a) H H' → H d = none → d ≠ a → H' a = some (exo a C (some d)) → H' d = some (exd d [("value", w)]) → Q .non H')
theorem ok_InvalidBook___init__ (T : Txt K mg A) : FnOk P w K mg base CX0 1 A.a_InvalidBook___init__ A.d_InvalidBook___init__ ["self", "value"] (sp_InvalidBook___init__ K) := by
  refine T.F_InvalidBook___init__.ok sc_InvalidBook___init__ (fun vs H Q E h => ?_) (fun cdv A0 outer s H vs Q E hr h => ?_)
  · obtain ⟨a, C, w, rfl, hw⟩ := h
    rfl
  · obtain ⟨a, C, w, rfl, hw⟩ := h
    refine ⟨_, (pss_one (ps_ost (pv 0) (pv 1))), ?_⟩
    obtain ⟨T1, hv, ha, k⟩ := hw
    walk_at "hs"
    refine ⟨a, C, rfl, T1, hv, .inl ⟨ha, fun d hd hne => ?_⟩⟩
    walk_at "hs"
    exact k _ d ((HS.Keep.new hd).at rfl) hd (by first | exact hne | exact Ne.symm hne) upd_same (by rw [upd_ne hne]; exact upd_same)
def sp_InvalidTable___init__ (K : PySem.W.Frag) : Sp := fun vs H Q _ => ∃ (a C : Addr) (w : V), vs = [.ref a, w] ∧ (OexC K C ∧ PySem.W.findIn K (.ref C) "value" = some none ∧ H a = some (exo a C none) ∧ ∀ H' d, HS.Keep (fun x => x = a) H H' → H d = none → d ≠ a → H' a = some (exo a C (some d)) → H' d = some (exd d [("value", w)]) → Q .non H')
theorem ok_InvalidTable___init__ (T : Txt K mg A) : FnOk P w K mg base CX0 1 A.a_InvalidTable___init__ A.d_InvalidTable___init__ ["self", "value"] (sp_InvalidTable___init__ K) := by
  refine T.F_InvalidTable___init__.ok sc_InvalidTable___init__ (fun vs H Q E h => ?_) (fun cdv A0 outer s H vs Q E hr h => ?_)
  · obtain ⟨a, C, w, rfl, hw⟩ := h
    rfl
  · obtain ⟨a, C, w, rfl, hw⟩ := h
    refine ⟨_, (pss_one (ps_ost (pv 0) (pv 1))), ?_⟩
    obtain ⟨T1, hv, ha, k⟩ := hw
    walk_at "hs"
    refine ⟨a, C, rfl, T1, hv, .inl ⟨ha, fun d hd hne => ?_⟩⟩
    walk_at "hs"
    exact k _ d ((HS.Keep.new hd).at rfl) hd (by first | exact hne | exact Ne.symm hne) upd_same (by rw [upd_ne hne]; exact upd_same)
def sp_InvalidChain___init__ (K : PySem.W.Frag) : Sp := fun vs H Q _ => ∃ (a C : Addr) (w : V), vs = [.ref a, w] ∧ (OexC K C ∧ PySem.W.findIn K (.ref C) "value" = some none ∧ H a = some (exo a C none) ∧ ∀ H' d, HS.Keep (fun x => x = a) H H' → H d = none → d ≠ a → H' a = some (exo a C (some d)) → H' d = some (exd d [("value", w)]) → Q .non H')
theorem ok_InvalidChain___init__ (T : Txt K mg A) : FnOk P w K mg base CX0 1 A.a_InvalidChain___init__ A.d_InvalidChain___init__ ["self", "value"] (sp_InvalidChain___init__ K) := by
  refine T.F_InvalidChain___init__.ok sc_InvalidChain___init__ (fun vs H Q E h => ?_) (fun cdv A0 outer s H vs Q E hr h => ?_)
  · obtain ⟨a, C, w, rfl, hw⟩ := h
    rfl
  · obtain ⟨a, C, w, rfl, hw⟩ := h
    refine ⟨_, (pss_one (ps_ost (pv 0) (pv 1))), ?_⟩
    obtain ⟨T1, hv, ha, k⟩ := hw
    walk_at "hs"
    refine ⟨a, C, rfl, T1, hv, .inl ⟨ha, fun d hd hne => ?_⟩⟩
    walk_at "hs"
    exact k _ d ((HS.Keep.new hd).at rfl) hd (by first | exact hne | exact Ne.symm hne) upd_same (by rw [upd_ne hne]; exact upd_same)
def sp_InvalidNumber___init__ (K : PySem.W.Frag) : Sp := fun vs H Q _ => ∃ (a C : Addr) (w : V), vs = [.ref a, w] ∧ (OexC K C ∧ PySem.W.findIn K (.ref C) "value" = some none ∧ H a = some (exo a C none) ∧ ∀ H' d, HS.Keep (fun x => x = a) H H' → H d = none → d ≠ a → H' a = some (exo a C (some d)) → H' d = some (exd d [("value", w)]) → Q .non H')
theorem ok_InvalidNumber___init__ (T : Txt K mg A) : FnOk P w K mg base CX0 1 A.a_InvalidNumber___init__ A.d_InvalidNumber___init__ ["self", "value"] (sp_InvalidNumber___init__ K) := by
  refine T.F_InvalidNumber___init__.ok sc_InvalidNumber___init__ (fun vs H Q E h => ?_) (fun cdv A0 outer s H vs Q E hr h => ?_)
  · obtain ⟨a, C, w, rfl, hw⟩ := h
    rfl
  · obtain ⟨a, C, w, rfl, hw⟩ := h
    refine ⟨_, (pss_one (ps_ost (pv 0) (pv 1))), ?_⟩
    obtain ⟨T1, hv, ha, k⟩ := hw
    walk_at "hs"
    refine ⟨a, C, rfl, T1, hv, .inl ⟨ha, fun d hd hne => ?_⟩⟩
    walk_at "hs"
    exact k _ d ((HS.Keep.new hd).at rfl) hd (by first | exact hne | exact Ne.symm hne) upd_same (by rw [upd_ne hne]; exact upd_same)
def sp__law_rng (K : PySem.W.Frag) : Sp := fun vs H Q _ => ∃ (a : Addr) (ns : List Int), vs = [.ref a] ∧ (SqL K H a (ns.map V.int) ∧ ns.length ≤ 63 ∧ ∀ H' s, HS.Keep (fun _ => False) H H' → H s = none → Rng H' s 0 → Q (.ref s) H')
theorem ok__law_rng (T : Txt K mg A) : FnOk P w K mg base CX0 1 A.a__law_rng A.d__law_rng ["script"] (sp__law_rng K) := by
  refine T.F__law_rng.ok sc__law_rng (fun vs H Q E h => ?_) (fun cdv A0 outer s H vs Q E hr h => ?_)
  · obtain ⟨a, ns, rfl, hw⟩ := h
    rfl
  · obtain ⟨a, ns, rfl, hw⟩ := h
    refine ⟨_, (pss_cons (ps_asg (pe_tup (pa_cons pe_int (pa_cons pe_int pa_nil))) (HS.kgt K (pg_tup rfl (pgs_cons (pg_name (i := 1) sc__law_rng.nd rfl (.inl rfl)) (pgs_cons (pg_name (i := 2) sc__law_rng.nd rfl (.inl rfl)) pgs_nil)))))
    (pss_cons (ps_for PassesOwn.never rfl (HS.kil K (pi_list (pe_slice (HS.sll K) (pv 0) po_none (po_some pe_int)))) (pg_name (i := 3) sc__law_rng.nd rfl (.inl rfl))
      (pss_cons (ps_set (i := 4) sc__law_rng.nd rfl (.inl rfl) (pe_callB call_abs (by rfl) T.z_abs (by decide +kernel) (pa_cons (pv 3) pa_nil)))
    (pss_cons (ps_if (pt_cmpR op_ge (pv 4) (HS.pe_fold (1000000000000000000) (pe_op op_pow pe_int pe_int) (by intro σ H Q q; walk_at "fold")) (nomark _))
      (pss_one (ps_set (i := 1) sc__law_rng.nd rfl (.inl rfl) (pe_op op_add (pe_op op_mulW (pv 1) (HS.pe_fold (1000000000000000000000000000000000000000000000000000000000000) (pe_op op_pow pe_int pe_int) (by intro σ H Q q; walk_at "fold"))) (pe_op op_mod (pv 4) (HS.pe_fold (1000000000000000000000000000000000000000000000000000000000000) (pe_op op_pow pe_int pe_int) (by intro σ H Q q; walk_at "fold"))))))
      pss_nil)
    (pss_one (ps_set (i := 2) sc__law_rng.nd rfl (.inl rfl) (pe_op op_mod (pe_op op_add (pe_op op_add (pe_op op_mul (pv 2) pe_int) (pe_op op_mod (pv 3) pe_int)) pe_int) pe_int))))))
    (pss_one (ps_ret (pe_lst (pa_cons (pv 1) (pa_cons (pv 2) (pa_cons pe_int pa_nil)))))))), ?_⟩
    obtain ⟨hS, hl, k⟩ := hw
    walk_at "hs"
    intro t ht
    have hS2 := HS.Keep.sq (S := fun _ => False) (HS.Keep.new (o := .tup [.int 0, .int 88675123]) ht) hS id
    walk_at "hs"
    intro p hp
    have ec : cutV (ns.map V.int) none (some 63) = ns.map V.int := by
      rw [show (63 : Int) = ((63 : Nat) : Int) from rfl, HS.cut_to, List.take_of_length_le (by rw [List.length_map]; exact hl)]
    rw [ec]
    walk_at "hs"
    refine ⟨⟨_, HS.sq upd_same⟩, for_list (xs := ns.map V.int) (fun i σ H1 => H1 = upd (upd H t (.tup [.int 0, .int 88675123])) p (.lst (ns.map V.int)) ∧ i ≤ ns.length ∧ ∃ (dg m : Int) (x3 x4 : Option V), σ = [some (.ref a), some (.int dg), some (.int m), x3, x4] ∧ 0 ≤ dg ∧ dg < 2 ^ (200 * (i + 1)) ∧ 0 ≤ m ∧ m < 2 ^ 61) ?_ ?_ ?_ ?_⟩
    · exact ⟨rfl, Nat.zero_le _, _, _, _, _, rfl, by decide, by decide, by decide, by decide⟩
    · rintro i σ H1 _ ⟨rfl, _⟩
      exact HS.sq upd_same
    · rintro i x σ H1 hi ⟨rfl, _, dg, m, x3, x4, rfl, hd0, hd1, hm0, hm1⟩
      obtain ⟨z, rfl, _, hil⟩ := HS.get_int hi
      have hil' : i ≤ 63 := by omega
      walk_at "hs"
      have b0 : 0 ≤ (m * 1000003 + z % 2305843009213693921 + 7) % 2305843009213693951 := Int.emod_nonneg _ (by decide)
      have b1 : (m * 1000003 + z % 2305843009213693921 + 7) % 2305843009213693951 < 2 ^ 61 := Int.lt_trans (Int.emod_lt_of_pos _ (by decide)) (by decide)
      generalize (if z < 0 then -z else z) = y
      refine HS.itd (fun hy => ?_) (fun hy => ?_)
      · walk_at "hs"
        refine ⟨HS.mulW (200 * (i + 1)) 200 hd0 hd1 (by decide) (by decide) (by omega) (by decide) (by omega), ?_⟩
        walk_at "hs"
        have q0 : 0 ≤ y % 1000000000000000000000000000000000000000000000000000000000000 := Int.emod_nonneg _ (by decide)
        have q1 : y % 1000000000000000000000000000000000000000000000000000000000000 < 10 ^ 60 := Int.emod_lt_of_pos _ (by decide)
        obtain ⟨r0, r1⟩ := rng_step hd0 hd1 q0 q1
        exact ⟨rfl, hil, _, _, _, _, rfl, r0, r1, b0, b1⟩
      · walk_at "hs"
        exact ⟨rfl, hil, _, _, _, _, rfl, hd0, Int.lt_trans hd1 (pow_up i), b0, b1⟩
    · rintro σ H1 ⟨rfl, _, dg, m, x3, x4, rfl, hd0, hd1, hm0, hm1⟩
      walk_at "hs"
      intro s hs
      have K1 := (HS.Keep.new (S := fun _ => False) (o := .tup [.int 0, .int 88675123]) ht).trans (HS.Keep.new (o := .lst (ns.map V.int)) hp)
      exact k _ s (K1.trans (.new hs)) (K1.free hs id) ⟨dg, m, 0, upd_same, hd0, hm0, hm1, by decide, by decide⟩
def sp__law_draw (K : PySem.W.Frag) : Sp := fun vs H Q _ => ∃ (s : Addr) (many : Int) (n : Nat), vs = [.ref s, .int many] ∧ (Rng H s n ∧ 0 < many ∧ many < 2 ^ 200 ∧ n < 2 ^ 33 ∧ ∀ H' v, HS.Keep (fun a => a = s) H H' → Rng H' s (n + 1) → 0 ≤ v → v < many → Q (.int v) H')
theorem ok__law_draw (T : Txt K mg A) : FnOk P w K mg base CX0 1 A.a__law_draw A.d__law_draw ["rng", "limit"] (sp__law_draw K) := by
  refine T.F__law_draw.ok sc__law_draw (fun vs H Q E h => ?_) (fun cdv A0 outer s H vs Q E hr h => ?_)
  · obtain ⟨s, many, n, rfl, hw⟩ := h
    rfl
  · obtain ⟨s, many, n, rfl, hw⟩ := h
    refine ⟨_, (pss_cons (ps_if (pt_cmpR op_gt (pe_ix (HS.ixl K) (pv 0) pe_int (fun _ _ => rfl)) pe_int (nomark _))
      (pss_cons (ps_set (i := 2) sc__law_draw.nd rfl (.inl rfl) (pe_op op_mod (pe_ix (HS.ixl K) (pv 0) pe_int (fun _ _ => rfl)) (pv 1)))
    (pss_cons (ps_asg (pe_op op_fdivW (pe_ix (HS.ixl K) (pv 0) pe_int (fun _ _ => rfl)) (pv 1)) (pg_sub (pv 0) pe_int set_list))
    (pss_one (ps_ret (pv 2)))))
      pss_nil)
    (pss_cons (ps_asg (pe_op op_add (pe_ix (HS.ixl K) (pv 0) pe_int (fun _ _ => rfl)) pe_int) (pg_sub (pv 0) pe_int set_list))
    (pss_cons (ps_set (i := 3) sc__law_draw.nd rfl (.inl rfl) (pe_op op_mod (pe_op HS.op_powW (pe_op op_add (pe_ix (HS.ixl K) (pv 0) pe_int (fun _ _ => rfl)) (pe_op op_mul pe_int (pe_ix (HS.ixl K) (pv 0) pe_int (fun _ _ => rfl)))) pe_int) pe_int))
    (pss_cons (ps_set (i := 3) sc__law_draw.nd rfl (.inl rfl) (pe_op op_mod (pe_op HS.op_powW (pe_op op_add (pv 3) (pe_op op_mul pe_int (pe_ix (HS.ixl K) (pv 0) pe_int (fun _ _ => rfl)))) pe_int) pe_int))
    (pss_one (ps_ret (pe_op op_mod (pe_op op_fdivW (pv 3) pe_int) (pv 1)))))))), ?_⟩
    obtain ⟨⟨l, m, c, hs, hl0, hm0, hm1, hc0, hc1⟩, hn0, hn1, hn, k⟩ := hw
    walk_at "hs"
    refine HS.itd (fun hl => ?_) (fun hl => ?_)
    · walk_at "hs"
      refine ⟨HS.divW 200 hn0 hn1 (by decide) (by decide), ?_⟩
      walk_at "hs"
      exact k _ _ (by walk_at "kp") ⟨l / many, m, c, upd_same, Int.ediv_nonneg hl0 (by omega), hm0, hm1, hc0, by omega⟩ (Int.emod_nonneg _ (by omega)) (Int.emod_lt_of_pos _ hn0)
    · walk_at "hs"
      refine ⟨HS.powW 66 (by omega) (by omega) (by decide) (by decide), ?_⟩
      walk_at "hs"
      have m0 : 0 ≤ (m + 998244353 * (c + 1)) ^ Int.toNat 3 % 162259276829213363391578010288127 := Int.emod_nonneg _ (by decide)
      have m1 : (m + 998244353 * (c + 1)) ^ Int.toNat 3 % 162259276829213363391578010288127 < 162259276829213363391578010288127 := Int.emod_lt_of_pos _ (by decide)
      generalize (m + 998244353 * (c + 1)) ^ Int.toNat 3 % 162259276829213363391578010288127 = z at m0 m1 ⊢
      refine ⟨HS.powW 128 (by omega) (by omega) (by decide) (by decide), ?_⟩
      walk_at "hs"
      exact k _ _ (by walk_at "kp") ⟨l, m, c + 1, upd_same, hl0, hm0, hm1, by omega, by omega⟩ (Int.emod_nonneg _ (by omega)) (Int.emod_lt_of_pos _ hn0)
def sp__law_counted (K : PySem.W.Frag) : Sp := fun vs H Q _ => ∃ (b : Addr) (ls : List Int) (j : Int), vs = [.ref b, .int j] ∧ (SqL K H b (ls.map V.int) ∧ ls.length ≤ 50000 ∧ 1 ≤ j ∧ j < 2 ^ 200 ∧ ∀ H', HS.Keep (fun _ => False) H H' → Q (.int (pcount ls j)) H')
theorem ok__law_counted (T : Txt K mg A) : FnOk P w K mg base CX0 1 A.a__law_counted A.d__law_counted ["some", "wide"] (sp__law_counted K) := by
  refine T.F__law_counted.ok sc__law_counted (fun vs H Q E h => ?_) (fun cdv A0 outer s H vs Q E hr h => ?_)
  · obtain ⟨b, ls, j, rfl, hw⟩ := h
    rfl
  · obtain ⟨b, ls, j, rfl, hw⟩ := h
    refine ⟨_, (pss_one (ps_ret (pe_callB (HS.ksum K rfl) (by rfl) T.z_sum (by decide +kernel) (pa_cons (pe_lc (own := [("one", 2)]) (g := gName 2) (tt := tYes) rfl sc__law_counted.nd (HS.kil K (pi_list (pv 0))) (blkOk_by (own := [("one", 2)]) (N := N__law_counted) (sc := defScope s__law_counted) (by decide +kernel)) (fun _ _ _ _ _ => pg_name (i := 2) sc__law_counted.nd rfl (by first | exact .inl rfl | exact .inr rfl)) (fun _ _ _ _ _ => pts_nil) (fun _ _ _ _ _ => (pe_op op_add (pe_op op_fdivW (pe_op op_sub (pv 2) pe_int) (pv 1)) pe_int))) pa_nil)))), ?_⟩
    obtain ⟨hb, hl, h1, h2, k⟩ := hw
    walk_at "hs"
    refine ⟨⟨_, hb⟩, fun D hD => lc_list (xs := ls.map V.int) (fun i H' => HS.Keep (fun _ => False) H H' ∧ H' D = some (.lst (((ls.take i).map fun x => (x + j - 1) / j).map V.int))) ⟨.new hD, upd_same⟩ (fun i H' _ ⟨K', _⟩ => K'.sq hb id) ?_ ?_⟩
    · rintro i x H1 hi ⟨K1, h3⟩
      obtain ⟨z, rfl, hz, hil⟩ := HS.get_int hi
      walk_at "hs"
      refine ⟨HS.divW 200 (by omega) h2 (by decide) (by decide), ?_⟩
      walk_at "hs"
      rw [counted_eq h1]
      refine ⟨_, h3, HS.sz (by simp; omega), K1.put hD, ?_⟩
      rw [upd_same, List.take_add_one, hz, List.map_append, List.map_append]
      rfl
    · rintro H1 ⟨K1, h3⟩
      rw [List.length_map, List.take_length] at h3
      refine HS.sumL (HS.sq h3) ?_
      exact k _ K1
def sp__law_some (K : PySem.W.Frag) : Sp := fun vs H Q _ => ∃ (s : Addr) (most longest : Int) (n : Nat), vs = [.ref s, .int most, .int longest] ∧ (Rng H s n ∧ 0 ≤ most ∧ most ≤ 1000 ∧ 1 ≤ longest ∧ longest < 2 ^ 150 ∧ n < 2 ^ 32 ∧ ∀ H' p (ls : List Int), HS.Keep (fun a => a = s) H H' → H p = none → p ≠ s → H' p = some (.lst (ls.map V.int)) → (ls.length : Int) ≤ most → Lens ls longest → Rng H' s (n + 6000) → Q (.ref p) H')
theorem ok__law_some (T : Txt K mg A) : FnOk P w K mg base CX0 2 A.a__law_some A.d__law_some ["rng", "most", "longest"] (sp__law_some K) := by
  have G__law_draw : FnOk P w K mg base CX0 1 A.a__law_draw A.d__law_draw ["rng", "limit"] (sp__law_draw K) := ok__law_draw T
  refine T.F__law_some.ok sc__law_some (fun vs H Q E h => ?_) (fun cdv A0 outer s H vs Q E hr h => ?_)
  · obtain ⟨s, most, longest, n, rfl, hw⟩ := h
    rfl
  · obtain ⟨s, most, longest, n, rfl, hw⟩ := h
    refine ⟨_, (pss_cons (ps_par (i := 3) (j := 4) rfl sc__law_some.nd rfl rfl (by decide) rfl rfl (pa_cons (pe_call G__law_draw hr (by rfl) T.g__law_draw T.F__law_draw.kp T.b__law_draw .nil pass0 (pa_cons (pv 0) (pa_cons pe_int pa_nil))) (pa_cons (pe_lst pa_nil) pa_nil)) (by rfl))
    (pss_cons (ps_for PassesOwn.never rfl (pi_range1 (by rfl) T.z_range (pa_cons (pe_call G__law_draw hr (by rfl) T.g__law_draw T.F__law_draw.kp T.b__law_draw .nil pass0 (pa_cons (pv 0) (pa_cons (pe_op op_add (pv 1) pe_int) pa_nil))) pa_nil)) (pg_name (i := 5) sc__law_some.nd rfl (.inl rfl))
      (pss_cons (ps_set (i := 6) sc__law_some.nd rfl (.inl rfl) (pe_lst (pa_cons (pe_op op_add pe_int (pe_call G__law_draw hr (by rfl) T.g__law_draw T.F__law_draw.kp T.b__law_draw .nil pass0 (pa_cons (pv 0) (pa_cons pe_int pa_nil)))) (pa_cons (pe_op op_sub (pv 2) (pe_call G__law_draw hr (by rfl) T.g__law_draw T.F__law_draw.kp T.b__law_draw .nil pass0 (pa_cons (pv 0) (pa_cons pe_int pa_nil)))) (pa_cons (pe_op op_add (pe_op op_add pe_int (pe_op op_fdivW (pv 2) pe_int)) (pe_call G__law_draw hr (by rfl) T.g__law_draw T.F__law_draw.kp T.b__law_draw .nil pass0 (pa_cons (pv 0) (pa_cons pe_int pa_nil)))) pa_nil)))))
    (pss_cons (ps_set (i := 7) sc__law_some.nd rfl (.inl rfl) (pe_ix (HS.ixl K) (pe_op op_cat (pv 6) (pe_lst (pa_cons (pe_op op_add pe_int (pe_call G__law_draw hr (by rfl) T.g__law_draw T.F__law_draw.kp T.b__law_draw .nil pass0 (pa_cons (pv 0) (pa_cons (pv 2) pa_nil)))) pa_nil))) (pe_ifExp (pt_cmpR op_gt (pe_call G__law_draw hr (by rfl) T.g__law_draw T.F__law_draw.kp T.b__law_draw .nil pass0 (pa_cons (pv 0) (pa_cons pe_int pa_nil))) pe_int (nomark _)) (pv 3) pe_int) (fun _ _ => rfl)))
    (pss_one (ps_expr (HS.kbm K (pe_bm PySem.F.plainAttrs_list PySem.F.slot_list_append PySem.F.type_list_append mt_append (pv 4) (pa_cons (pe_callB (call_max2 rfl) (by rfl) T.z_max (by decide +kernel) (pa_cons pe_int (pa_cons (pe_callB (call_min2 rfl) (by rfl) T.z_min (by decide +kernel) (pa_cons (pv 2) (pa_cons (pv 7) pa_nil))) pa_nil))) pa_nil))))))))
    (pss_one (ps_ret (pv 4))))), ?_⟩
    obtain ⟨S0, hm0, hm1, hl0, hl1, hn, k⟩ := hw
    walk_at "hs"
    refine ⟨s, 4, n, rfl, S0, by decide, by decide, by omega, fun H1 kd K1 S1 k0 k1 => ?_⟩
    walk_at "hs"
    intro D hD
    have hDs := S1.ne hD
    walk_at "hs"
    refine ⟨s, _, n + 1, rfl, S1.new hD, by omega, by omega, by omega, fun H2 cnt K2 S2 c0 c1 => ?_⟩
    walk_at "hs"
    have hD0 : H D = none := K1.free hD (by walk_at "ns")
    refine ⟨by omega, by omega, for_range (n := cnt.toNat) (fun i σ H' => HS.Keep (fun a => a = s) H H' ∧ (∃ ls : List Int, H' D = some (.lst (ls.map V.int)) ∧ ls.length = i ∧ Lens ls longest) ∧ Rng H' s (n + 2 + 5 * i) ∧ ∃ x1 x2 x3, σ = [some (.ref s), some (.int most), some (.int longest), some (.int kd), some (.ref D), x1, x2, x3]) ?_ ?_ ?_⟩
    · exact ⟨(K1.put hD0).trans K2, ⟨[], K2 _ _ upd_same hDs, rfl, fun x hx => absurd hx List.not_mem_nil⟩, S2, _, _, _, rfl⟩
    · rintro i σ H3 hi ⟨K3, ⟨ls, hls, hll, hL⟩, S3, x1, x2, x3, rfl⟩
      walk_at "hs"
      refine ⟨s, 3, _, rfl, S3, by decide, by decide, by omega, fun H4 a K4 S4 a0 a1 => ?_⟩
      walk_at "hs"
      refine ⟨s, 3, _, rfl, S4, by decide, by decide, by omega, fun H5 b K5 S5 b0 b1 => ?_⟩
      walk_at "hs"
      refine ⟨s, 2, _, rfl, S5, by decide, by decide, by omega, fun H6 c K6 S6 c0 c1 => ?_⟩
      walk_at "hs"
      intro p hp
      have e1 := S6.ne hp
      walk_at "hs"
      refine ⟨s, longest, _, rfl, S6.new hp, by omega, by omega, by omega, fun H7 d K7 S7 d0 d1 => ?_⟩
      have hp7 := K7 _ _ (upd_same (H := H6) (a := p)) (by walk_at "ns")
      walk_at "hs"
      intro q hq
      have e2 := S7.ne hq
      walk_at "hs"
      intro r hr'
      have S8 := (S7.new (o := .lst [.int (1 + d)]) hq)
      have e3 := S8.ne hr'
      walk_at "hs"
      refine ⟨s, 4, _, rfl, S8.new hr', by decide, by decide, by omega, fun H8 e K8 S9 e0 e1 => ?_⟩
      have hr8 := K8 _ _ (upd_same (H := upd H7 q (.lst [.int (1 + d)])) (a := r)) (by walk_at "ns")
      have KK : HS.Keep (fun a => a = s) H3 H8 := K4.trans (K5.trans (K6.trans ((HS.Keep.new hp).trans (K7.trans ((HS.Keep.new hq).trans ((HS.Keep.new hr').trans K8))))))
      have hls8 := KK _ _ hls hDs
      walk_at "hs"
      refine HS.iteM (fun v H' => ∃ j, v = .int j ∧ 0 ≤ j ∧ j < 4 ∧ H' = H8) (fun hc Q' k' => ?_) (fun hc Q' k' => ?_) ?_
      · walk_at "hs"
        exact k' _ _ ⟨_, rfl, k0, k1, rfl⟩
      · walk_at "hs"
        exact k' _ _ ⟨3, rfl, by decide, by decide, rfl⟩
      · rintro v H' ⟨j, rfl, j0, j1, rfl⟩
        refine HS.ixI [1 + a, longest - b, 1 + longest / 2 + c, 1 + d] (HS.sq hr8) j0 j1 fun z _ _ => ?_
        walk_at "hs"
        refine ⟨(K3.trans KK).put hD0, ⟨ls ++ [_], by rw [upd_same, List.map_append]; rfl, by walk_at "len", ?_⟩, (S9.put hDs).up (by omega), _, _, _, rfl⟩
        intro x hx
        rcases List.mem_append.mp hx with hx | hx
        · exact hL x hx
        · rw [List.mem_singleton] at hx
          subst hx
          constructor
          · split <;> omega
          · split <;> split at * <;> omega
    · rintro σ H3 ⟨K3, ⟨ls, hls, hll, hL⟩, S3, x1, x2, x3, rfl⟩
      walk_at "hs"
      exact k _ D ls K3 hD0 hDs hls (by omega) hL (S3.up (by omega))
def sp_check_book (K : PySem.W.Frag) (A : Ad) : Sp := fun vs H Q E => ∃ (b : Addr) (ls : List Int), vs = [.ref b] ∧ (SqL K H b (ls.map V.int) ∧ (∀ i, badAt ls = some i → ∀ H' d, HS.Keep (fun _ => False) H H' → H d = none → H' d = some (.xd [("value", .int (i : Nat))]) → E (.ref A.c_InvalidBook) (some d) H') ∧
  (badAt ls = none → ∀ H', HS.Keep (fun _ => False) H H' → Q .non H'))
theorem ok_check_book (T : Txt K mg A) : FnOk P w K mg base (L2.CX P w) 3 A.a_check_book A.d_check_book ["book"] (sp_check_book K A) := by
  have G_InvalidBook___init__ : FnOk P w K mg base CX0 1 A.a_InvalidBook___init__ A.d_InvalidBook___init__ ["self", "value"] (sp_InvalidBook___init__ K) := ok_InvalidBook___init__ T
  refine L2.Fun.okX T.F_check_book sc_check_book (fun vs H Q E h => ?_) (fun cdv A0 outer s H vs Q E hr h => ?_)
  · obtain ⟨b, ls, rfl, hw⟩ := h
    rfl
  · obtain ⟨b, ls, rfl, hw⟩ := h
    refine ⟨_, (pss_one (ps_for (passes_of rfl) rfl (HS.kien K (pi_enum (by rfl) T.z_enumerate (pa_cons (pv 0) pa_nil))) (HS.kgt K (pg_tup rfl (pgs_cons (pg_name (i := 1) sc_check_book.nd rfl (.inl rfl)) (pgs_cons (pg_name (i := 2) sc_check_book.nd rfl (.inl rfl)) pgs_nil))))
      (pss_one (ps_if (pt_cmpR op_lt (pv 2) pe_int (nomark _))
      (pss_one (ps_raise rfl (takes_of rfl rfl rfl rfl) (pmk_oex T.C_InvalidBook T.i_InvalidBook T.t_InvalidBook G_InvalidBook___init__ hr T.b_InvalidBook___init__ .nil pass0 (by rfl) T.m_InvalidBook (pa_cons (pv 1) pa_nil))))
      pss_nil)))), ?_⟩
    obtain ⟨hb, kE, k⟩ := hw
    walk_at "hs"
    refine ⟨b, ls.map V.int, rfl, hb, for_it walk_enum (fun i σ H' => HS.Keep (fun _ => False) H H' ∧ badAt ls = (badAt (ls.drop i)).map (· + i) ∧ ∃ x1 x2, σ = [some (.ref b), x1, x2]) ⟨.refl, by rw [List.drop_zero]; cases badAt ls <;> rfl, _, _, rfl⟩ (fun i σ H' _ ⟨K', _⟩ => K'.sq hb id) ?_ ?_⟩
    · rintro i x σ H1 H2 hi ⟨K1, hd, x1, x2, rfl⟩ ⟨T1, u, v, rfl, hT, rfl, e1, e2⟩
      cases e1
      obtain ⟨z, rfl, hz, hil⟩ := HS.get_int e2
      have ez : ls.drop i = z :: ls.drop (i + 1) := by rw [List.drop_eq_getElem_cons hil]; rw [List.getElem?_eq_getElem hil] at hz; injection hz with hz; rw [hz]
      rw [ez, badAt] at hd
      have K2 := K1.put (o := .tup [V.int (i : Nat), V.int z]) (K1.free hT id)
      walk_at "hs"
      refine HS.itd (fun h1 => ?_) (fun h1 => ?_)
      · rw [if_pos h1] at hd
        have e0 : badAt ls = some i := by rw [hd, Option.map_some, Nat.zero_add]
        walk_at "hs"
        exact HS.mk1 (fun H' Q' E' b h1 h2 h3 h4 => ⟨b, _, _, rfl, h1, h2, h3, h4⟩) T.C_InvalidBook T.n_InvalidBook fun H' d k' hd' e => kE i e0 H' d (K2.trans k') (K2.free hd' id) e
      · rw [if_neg h1, Option.map_map] at hd
        walk_at "hs"
        refine ⟨K2, ?_, _, _, rfl⟩
        rw [hd]
        congr 1
        funext y
        show y + 1 + i = y + (i + 1)
        omega
    · rintro σ H1 ⟨K1, hd, x1, x2, rfl⟩
      rw [List.length_map, List.drop_length] at hd
      walk_at "hs"
      exact k hd _ K1
def sp_check_not_negative (K : PySem.W.Frag) (A : Ad) : Sp := fun vs H Q E => ∃ (j : Int), vs = [.int j] ∧ ((j < 0 → ∀ H' d, HS.Keep (fun _ => False) H H' → H d = none → H' d = some (.xd [("value", .int j)]) → E (.ref A.c_InvalidNumber) (some d) H') ∧ (0 ≤ j → Q .non H))
theorem ok_check_not_negative (T : Txt K mg A) : FnOk P w K mg base (L2.CX P w) 3 A.a_check_not_negative A.d_check_not_negative ["number"] (sp_check_not_negative K A) := by
  have G_InvalidNumber___init__ : FnOk P w K mg base CX0 1 A.a_InvalidNumber___init__ A.d_InvalidNumber___init__ ["self", "value"] (sp_InvalidNumber___init__ K) := ok_InvalidNumber___init__ T
  refine L2.Fun.okX T.F_check_not_negative sc_check_not_negative (fun vs H Q E h => ?_) (fun cdv A0 outer s H vs Q E hr h => ?_)
  · obtain ⟨j, rfl, hw⟩ := h
    rfl
  · obtain ⟨j, rfl, hw⟩ := h
    refine ⟨_, (pss_one (ps_if (pt_cmpR op_lt (pv 0) pe_int (nomark _))
      (pss_one (ps_raise rfl (takes_of rfl rfl rfl rfl) (pmk_oex T.C_InvalidNumber T.i_InvalidNumber T.t_InvalidNumber G_InvalidNumber___init__ hr T.b_InvalidNumber___init__ .nil pass0 (by rfl) T.m_InvalidNumber (pa_cons (pv 0) pa_nil))))
      pss_nil)), ?_⟩
    obtain ⟨kE, k⟩ := hw
    walk_at "hs"
    refine HS.itd (fun h1 => ?_) (fun h1 => ?_)
    · walk_at "hs"
      exact HS.mk1 (fun H' Q' E' b h1 h2 h3 h4 => ⟨b, _, _, rfl, h1, h2, h3, h4⟩) T.C_InvalidNumber T.n_InvalidNumber fun H' d k' hd' e => kE h1 H' d k' hd' e
    · walk_at "hs"
      exact k (by omega)
def sp_check_chain (K : PySem.W.Frag) (A : Ad) : Sp := fun vs H Q E => ∃ (b : Addr) (zs : List V) (ps : List (Int × Int)), vs = [.ref b] ∧ (SqL K H b zs ∧ HS.Prs H zs ps ∧ (∀ p ∈ ps, -(2 ^ 150) < p.1 ∧ p.1 < 2 ^ 150) ∧ (∀ i, badCh 0 ps = some i → ∀ H' d, HS.Keep (fun _ => False) H H' → H d = none → H' d = some (.xd [("value", .int (i : Nat))]) → E (.ref A.c_InvalidChain) (some d) H') ∧ (badCh 0 ps = none → ∀ H', HS.Keep (fun _ => False) H H' → Q .non H'))
theorem ok_check_chain (T : Txt K mg A) : FnOk P w K mg base (L2.CX P w) 3 A.a_check_chain A.d_check_chain ["chain"] (sp_check_chain K A) := by
  have G_InvalidChain___init__ : FnOk P w K mg base CX0 1 A.a_InvalidChain___init__ A.d_InvalidChain___init__ ["self", "value"] (sp_InvalidChain___init__ K) := ok_InvalidChain___init__ T
  refine L2.Fun.okX T.F_check_chain sc_check_chain (fun vs H Q E h => ?_) (fun cdv A0 outer s H vs Q E hr h => ?_)
  · obtain ⟨b, zs, ps, rfl, hw⟩ := h
    rfl
  · obtain ⟨b, zs, ps, rfl, hw⟩ := h
    refine ⟨_, (pss_cons (ps_set (i := 1) sc_check_chain.nd rfl (.inl rfl) pe_int)
    (pss_one (ps_for (passes_of rfl) rfl (HS.kien K (pi_enum (by rfl) T.z_enumerate (pa_cons (pv 0) pa_nil))) (HS.kgt K (pg_tup rfl (pgs_cons (pg_name (i := 2) sc_check_chain.nd rfl (.inl rfl)) (pgs_cons (HS.kgt K (pg_tup rfl (pgs_cons (pg_name (i := 3) sc_check_chain.nd rfl (.inl rfl)) (pgs_cons (pg_name (i := 4) sc_check_chain.nd rfl (.inl rfl)) pgs_nil)))) pgs_nil))))
      (pss_cons (ps_if (PW.pt (pw_or (pt_cmpR op_le (pv 3) (pv 1) (nomark _)) (pw_or1 (PW.pt (pw_and (pt_cmpR op_gt (pv 1) pe_int (nomark _)) (pw_and1 (pt_cmpR op_ne (pe_op op_mod (pv 3) (pv 1)) pe_int (nomark _))))))))
      (pss_one (ps_raise rfl (takes_of rfl rfl rfl rfl) (pmk_oex T.C_InvalidChain T.i_InvalidChain T.t_InvalidChain G_InvalidChain___init__ hr T.b_InvalidChain___init__ .nil pass0 (by rfl) T.m_InvalidChain (pa_cons (pv 2) pa_nil))))
      pss_nil)
    (pss_one (ps_set (i := 1) sc_check_chain.nd rfl (.inl rfl) (pv 3))))))), ?_⟩
    obtain ⟨hb, hP, hB, kE, k⟩ := hw
    walk_at "hs"
    refine ⟨b, zs, rfl, hb, for_it walk_enum (fun i σ H' => HS.Keep (fun _ => False) H H' ∧ ∃ (bf : Int) (x2 x3 x4 : Option V), σ = [some (.ref b), some (.int bf), x2, x3, x4] ∧ 0 ≤ bf ∧ bf < 2 ^ 150 ∧ badCh 0 ps = (badCh bf (ps.drop i)).map (· + i)) ⟨.refl, 0, _, _, _, rfl, Int.le_refl 0, by decide, by rw [List.drop_zero]; cases badCh 0 ps <;> rfl⟩ (fun i σ H' _ ⟨K', _⟩ => K'.sq hb id) ?_ ?_⟩
    · rintro i x σ H1 H2 hi ⟨K1, bf, x2, x3, x4, rfl, hb0, hb1, hch⟩ ⟨T1, u, v, rfl, hT1, rfl, e1, e2⟩
      cases e1
      obtain ⟨q, p, rfl, hp, hq⟩ := HS.Prs.at hP e2
      have hil := (List.getElem?_eq_some_iff.mp hp).1
      have hpB := hB p (List.mem_of_getElem? hp)
      have ed : ps.drop i = p :: ps.drop (i + 1) := by rw [List.drop_eq_getElem_cons hil]; congr 1; rw [List.getElem?_eq_getElem hil] at hp; exact Option.some.inj hp
      rw [ed, badCh] at hch
      have KT : HS.Keep (fun _ => False) H1 (upd H1 T1 (.tup [.int (i : Nat), .ref q])) := .new hT1
      have hq2 := KT _ _ (K1 _ _ hq id) id
      have hT2 := upd_same (H := H1) (a := T1) (o := .tup [.int (i : Nat), .ref q])
      have K2 := K1.trans KT
      generalize upd H1 T1 (.tup [.int (i : Nat), .ref q]) = H2 at KT hq2 hT2 K2 ⊢
      have bad : (p.1 ≤ bf ∨ (0 < bf ∧ p.1 % bf ≠ 0)) → badCh 0 ps = some i := fun z => by rw [hch, if_pos z, Option.map_some, Nat.zero_add]
      have good : ¬ (p.1 ≤ bf ∨ (0 < bf ∧ p.1 % bf ≠ 0)) → badCh 0 ps = (badCh p.1 (ps.drop (i + 1))).map (· + (i + 1)) := fun z => by
        rw [hch, if_neg z, Option.map_map]
        congr 1
        funext y
        show y + 1 + i = y + (i + 1)
        omega
      walk_at "hs"
      refine HS.itd (fun h0 => ?_) (fun h0 => ?_)
      · walk_at "hs"
        exact HS.mk1 (fun H' Q' E' b h1 h2 h3 h4 => ⟨b, _, _, rfl, h1, h2, h3, h4⟩) T.C_InvalidChain T.n_InvalidChain fun H' d k' hd' e => kE i (bad (.inl h0)) H' d (K2.trans k') (K2.free hd' id) e
      walk_at "hs"
      refine HS.itd (fun h => ?_) (fun h => ?_)
      · walk_at "hs"
        refine HS.itn (fun h2 => ?_) (fun h2 => ?_)
        · walk_at "hs"
          exact HS.mk1 (fun H' Q' E' b h1 h2 h3 h4 => ⟨b, _, _, rfl, h1, h2, h3, h4⟩) T.C_InvalidChain T.n_InvalidChain fun H' d k' hd' e => kE i (bad (.inr ⟨h, h2⟩)) H' d (K2.trans k') (K2.free hd' id) e
        · walk_at "hs"
          exact ⟨K2, p.1, _, _, _, rfl, by omega, hpB.2, good fun z => z.elim h0 fun z => z.2 h2⟩
      · walk_at "hs"
        exact ⟨K2, p.1, _, _, _, rfl, by omega, hpB.2, good fun z => z.elim h0 fun z => h z.1⟩
    · rintro σ H1 ⟨K1, bf, x2, x3, x4, rfl, _, _, hch⟩
      rw [hP.len, List.drop_length] at hch
      walk_at "hs"
      exact k hch _ K1
def sp_check_demands (K : PySem.W.Frag) (A : Ad) : Sp := fun vs H Q E => ∃ (b : Addr) (zs : List V) (ps : List (Int × Int)) (c l : Int), vs = [.int c, .int l, .ref b] ∧ (SqL K H b zs ∧ HS.Prs H zs ps ∧ (∀ p ∈ ps, -(2 ^ 150) < p.1 ∧ p.1 < 2 ^ 150) ∧ (∀ k v, demX c l ps = some (k, v) → ∀ H' d, HS.Keep (fun _ => False) H H' → H d = none → H' d = some (.xd [("value", .int v)]) → E (.ref (clsOf A k)) (some d) H') ∧ (demX c l ps = none → ∀ H', HS.Keep (fun _ => False) H H' → Q .non H'))
theorem ok_check_demands (T : Txt K mg A) : FnOk P w K mg base (L2.CX P w) 4 A.a_check_demands A.d_check_demands ["chapters", "lines", "chain"] (sp_check_demands K A) := by
  have G_check_not_negative : FnOk P w K mg base (L2.CX P w) 3 A.a_check_not_negative A.d_check_not_negative ["number"] (sp_check_not_negative K A) := ok_check_not_negative T
  have G_check_chain : FnOk P w K mg base (L2.CX P w) 3 A.a_check_chain A.d_check_chain ["chain"] (sp_check_chain K A) := ok_check_chain T
  refine L2.Fun.okX T.F_check_demands sc_check_demands (fun vs H Q E h => ?_) (fun cdv A0 outer s H vs Q E hr h => ?_)
  · obtain ⟨b, zs, ps, c, l, rfl, hw⟩ := h
    rfl
  · obtain ⟨b, zs, ps, c, l, rfl, hw⟩ := h
    refine ⟨_, (pss_cons (ps_expr (pe_call G_check_not_negative hr (by rfl) T.g_check_not_negative T.F_check_not_negative.kp T.b_check_not_negative .nil (passes_call (takes_of rfl rfl rfl rfl) (fun _ _ _ _ h => h)) (pa_cons (pv 0) pa_nil)))
    (pss_cons (ps_expr (pe_call G_check_not_negative hr (by rfl) T.g_check_not_negative T.F_check_not_negative.kp T.b_check_not_negative .nil (passes_call (takes_of rfl rfl rfl rfl) (fun _ _ _ _ h => h)) (pa_cons (pv 1) pa_nil)))
    (pss_one (ps_expr (pe_call G_check_chain hr (by rfl) T.g_check_chain T.F_check_chain.kp T.b_check_chain .nil (passes_call (takes_of rfl rfl rfl rfl) (fun _ _ _ _ h => h)) (pa_cons (pv 2) pa_nil)))))), ?_⟩
    obtain ⟨hb, hP, hB, kE, k⟩ := hw
    unfold demX at kE k
    walk_at "hs"
    refine ⟨c, rfl, fun h => ?_, fun h => ?_⟩
    · rw [if_pos h] at kE
      exact kE 2 c rfl
    rw [if_neg (by omega)] at kE k
    walk_at "hs"
    refine ⟨l, rfl, fun h => ?_, fun h => ?_⟩
    · rw [if_pos h] at kE
      exact kE 2 l rfl
    rw [if_neg (by omega)] at kE k
    walk_at "hs"
    refine ⟨b, zs, ps, rfl, hb, hP, hB, fun i hi => ?_, fun hi H1 K1 => ?_⟩
    · rw [hi] at kE
      exact kE 3 i rfl
    · rw [hi] at k
      walk_at "hs"
      exact k rfl _ K1
def sp_has_book (K : PySem.W.Frag) : Sp := fun vs H Q _ => ∃ (n : Nat) (l : Int), vs = [.int n, .int l] ∧ (Q (.bl (decide (l - n = 0 ∨ (0 < l - n ∧ 0 < n)))) H)
theorem ok_has_book (T : Txt K mg A) : FnOk P w K mg base CX0 1 A.a_has_book A.d_has_book ["chapters", "many"] (sp_has_book K) := by
  refine T.F_has_book.ok sc_has_book (fun vs H Q E h => ?_) (fun cdv A0 outer s H vs Q E hr h => ?_)
  · obtain ⟨n, l, rfl, hw⟩ := h
    rfl
  · obtain ⟨n, l, rfl, hw⟩ := h
    refine ⟨_, (pss_one (ps_ret (pe_or (pe_cmpR op_eq (pv 1) (pv 0) (nomark _)) (pe_one (pe_chain op_gt op_gt (pv 1) (pv 0) pe_int))))), ?_⟩
    have k := hw
    walk_at "hs"
    refine HS.itd (fun h => ?_) (fun h => ?_)
    · rw [decide_eq_true (show l - n = 0 ∨ (0 < l - n ∧ 0 < n) by omega)] at k
      exact k
    · walk_at "hs"
      refine HS.itd (fun h2 => ?_) (fun h2 => ?_)
      · walk_at "hs"
        rw [show decide (l - n = 0 ∨ (0 < l - n ∧ 0 < n)) = decide ((n : Int) > 0) from decide_eq_decide.mpr (by omega)] at k
        exact k
      · rw [decide_eq_false (show ¬ (l - n = 0 ∨ (0 < l - n ∧ 0 < n)) by omega)] at k
        exact k
def sp_list_places (K : PySem.W.Frag) : Sp := fun vs H Q _ => ∃ (b : Addr) (zs : List V) (ps : List (Int × Int)) (c l : Int), vs = [.int c, .int l, .ref b] ∧ (SqL K H b zs ∧ HS.Prs H zs ps ∧ ChOk 0 ps ∧ ps.length ≤ 1000 ∧ (∀ p ∈ ps, p.1 < 2 ^ 150 ∧ -(2 ^ 150) < p.2 ∧ p.2 < 2 ^ 150) ∧ -(2 ^ 150) < c ∧ c < 2 ^ 150 ∧ ∀ H' p us, HS.Keep (fun _ => False) H H' → H p = none → H' p = some (.lst us) → HS.Tri H' us (plc c 1 (l - c) ps) → Q (.ref p) H')
theorem ok_list_places (T : Txt K mg A) : FnOk P w K mg base CX0 1 A.a_list_places A.d_list_places ["chapters", "lines", "chain"] (sp_list_places K) := by
  refine T.F_list_places.ok sc_list_places (fun vs H Q E h => ?_) (fun cdv A0 outer s H vs Q E hr h => ?_)
  · obtain ⟨b, zs, ps, c, l, rfl, hw⟩ := h
    rfl
  · obtain ⟨b, zs, ps, c, l, rfl, hw⟩ := h
    refine ⟨_, (pss_cons (ps_set (i := 3) sc_list_places.nd rfl (.inl rfl) (pe_lst pa_nil))
    (pss_cons (ps_set (i := 4) sc_list_places.nd rfl (.inl rfl) pe_int)
    (pss_cons (ps_set (i := 5) sc_list_places.nd rfl (.inl rfl) (pe_op op_sub (pv 1) (pv 0)))
    (pss_cons (ps_for PassesOwn.never rfl (HS.kil K (pi_list (pv 2))) (HS.kgt K (pg_tup rfl (pgs_cons (pg_name (i := 6) sc_list_places.nd rfl (.inl rfl)) (pgs_cons (pg_name (i := 7) sc_list_places.nd rfl (.inl rfl)) pgs_nil))))
      (pss_cons (ps_set (i := 8) sc_list_places.nd rfl (.inl rfl) (pe_op op_fdivW (pv 6) (pv 4)))
    (pss_cons (ps_expr (HS.kbm K (pe_bm PySem.F.plainAttrs_list PySem.F.slot_list_append PySem.F.type_list_append mt_append (pv 3) (pa_cons (pe_tup (pa_cons (pv 4) (pa_cons (pv 8) (pa_cons (pe_op op_sub (pv 5) (pe_op op_mulW (pv 8) (pe_op op_sub (pv 7) (pv 0)))) pa_nil)))) pa_nil))))
    (pss_cons (ps_set (i := 4) sc_list_places.nd rfl (.inl rfl) (pv 6))
    (pss_one (ps_set (i := 5) sc_list_places.nd rfl (.inl rfl) (pe_op op_sub (pv 7) (pv 0))))))))
    (pss_cons (ps_expr (HS.kbm K (pe_bm PySem.F.plainAttrs_list PySem.F.slot_list_append PySem.F.type_list_append mt_append (pv 3) (pa_cons (pe_tup (pa_cons (pv 4) (pa_cons (pe_op op_add (pv 5) pe_int) (pa_cons (pv 5) pa_nil)))) pa_nil))))
    (pss_one (ps_ret (pv 3)))))))), ?_⟩
    obtain ⟨hb, hP, hc, hl, hB, c0, c1, k⟩ := hw
    have hpos := chok_pos hc (Int.le_refl 0)
    walk_at "hs"
    intro P hPn
    generalize hG_P : upd _ P _ = H0
    have at_P := HS.upgs hG_P
    have Kn_P := HS.upgK hG_P hPn
    clear hG_P
    have hb0 := Kn_P.sq hb id
    walk_at "hs"
    refine ⟨⟨_, hb0⟩, for_list (xs := zs) (fun i σ H' => HS.Keep (fun _ => False) H H' ∧ ∃ (us : List V) (ts : List (Int × Int × Int)) (size rest : Int) (x6 x7 x8 : Option V), σ = [some (.int c), some (.int l), some (.ref b), some (.ref P), some (.int size), some (.int rest), x6, x7, x8] ∧ H' P = some (.lst us) ∧ HS.Tri H' us ts ∧ ts.length = i ∧ ts ++ plc c size rest (ps.drop i) = plc c 1 (l - c) ps ∧ 1 ≤ size ∧ size < 2 ^ 150) ⟨Kn_P, [], [], 1, l - c, _, _, _, rfl, at_P, trivial, rfl, rfl, by decide, by decide⟩ (fun i σ H' _ ⟨K', _⟩ => K'.sq hb id) ?_ ?_⟩
    · rintro i x σ H1 hi ⟨K1, us, ts, size, rest, x6, x7, x8, rfl, hP1, hT, htl, hpl, s1, s2⟩
      obtain ⟨q, p, rfl, hp, hq⟩ := HS.Prs.at hP hi
      have hil := (List.getElem?_eq_some_iff.mp hp).1
      have hpB := hB p (List.mem_of_getElem? hp)
      have hp0 := hpos p (List.mem_of_getElem? hp)
      have ed : ps.drop i = p :: ps.drop (i + 1) := by rw [List.drop_eq_getElem_cons hil]; congr 1; rw [List.getElem?_eq_getElem hil] at hp; exact Option.some.inj hp
      rw [ed, plc] at hpl
      have hq1 := K1 _ _ hq id
      have ul := hT.len
      have q0 : 0 ≤ p.1 / size := Int.ediv_nonneg (by omega) (by omega)
      have q1 : p.1 / size ≤ p.1 := Int.ediv_le_self _ (by omega)
      walk_at "hs"
      refine ⟨HS.divW 150 (by omega) s2 (by decide) (by decide), ?_⟩
      walk_at "hs"
      refine ⟨wide_mul (a := 151) (b := 152) (by omega) (by omega) (by decide) (by decide) (by decide), ?_⟩
      walk_at "hs"
      intro r hr1
      have hPr : P ≠ r := ne_of_none hP1 hr1
      have hP2 := HS.Keep.new (S := fun _ => False) (o := .tup [.int size, .int (p.1 / size), .int (rest - p.1 / size * (p.2 - c))]) hr1 _ _ hP1 id
      have hr2 := upd_same (H := H1) (a := r) (o := .tup [.int size, .int (p.1 / size), .int (rest - p.1 / size * (p.2 - c))])
      have hT2 := hT.same (HS.Keep.new (o := .tup [.int size, .int (p.1 / size), .int (rest - p.1 / size * (p.2 - c))]) hr1)
      have K2 := K1.trans (HS.Keep.new (o := .tup [.int size, .int (p.1 / size), .int (rest - p.1 / size * (p.2 - c))]) hr1)
      generalize upd H1 r (.tup [.int size, .int (p.1 / size), .int (rest - p.1 / size * (p.2 - c))]) = H2 at hP2 hr2 hT2 K2 ⊢
      walk_at "hs"
      refine ⟨K2.put hPn, us ++ [.ref r], ts ++ [(size, p.1 / size, rest - p.1 / size * (p.2 - c))], p.1, p.2 - c, _, _, _, rfl, upd_same, ?_, by rw [List.length_append, htl]; rfl, by rw [← hpl, List.append_assoc]; rfl, by omega, hpB.1⟩
      refine (HS.Tri.put hP2 hT2).app ⟨⟨r, rfl, ?_⟩, trivial⟩
      rw [upd_ne (Ne.symm hPr), hr2]
    · rintro σ H1 ⟨K1, us, ts, size, rest, x6, x7, x8, rfl, hP1, hT, htl, hpl, s1, s2⟩
      have ul := hT.len
      have vl := hP.len
      rw [vl, List.drop_length, plc] at hpl
      walk_at "hs"
      intro r hr1
      have hPr : P ≠ r := ne_of_none hP1 hr1
      have hP2 := HS.Keep.new (S := fun _ => False) (o := .tup [.int size, .int (rest + 1), .int rest]) hr1 _ _ hP1 id
      have hr2 := upd_same (H := H1) (a := r) (o := .tup [.int size, .int (rest + 1), .int rest])
      have hT2 := hT.same (HS.Keep.new (o := .tup [.int size, .int (rest + 1), .int rest]) hr1)
      have K2 := K1.trans (HS.Keep.new (o := .tup [.int size, .int (rest + 1), .int rest]) hr1)
      generalize upd H1 r (.tup [.int size, .int (rest + 1), .int rest]) = H2 at hP2 hr2 hT2 K2 ⊢
      walk_at "hs"
      refine k _ P (us ++ [.ref r]) (K2.put hPn) hPn upd_same ?_
      rw [← hpl]
      refine (HS.Tri.put hP2 hT2).app ⟨⟨r, rfl, ?_⟩, trivial⟩
      rw [upd_ne (Ne.symm hPr), hr2]
def sp_count_lists (K : PySem.W.Frag) : Sp := fun vs H Q _ => ∃ (n : Nat) (m t : Int), vs = [.int n, .int m, .int t] ∧ (n ≤ 50 ∧ m < 2 ^ 200 ∧ -(2 ^ 200) < m ∧ t < 2 ^ 200 ∧ Q (.int (lstN n m t)) H)
theorem ok_count_lists (T : Txt K mg A) : FnOk P w K mg base CX0 1 A.a_count_lists A.d_count_lists ["terms", "limit", "total"] (sp_count_lists K) := by
  refine T.F_count_lists.ok sc_count_lists (fun vs H Q E h => ?_) (fun cdv A0 outer s H vs Q E hr h => ?_)
  · obtain ⟨n, m, t, rfl, hw⟩ := h
    rfl
  · obtain ⟨n, m, t, rfl, hw⟩ := h
    refine ⟨_, (pss_cons (ps_if (pt_cmpR op_eq (pv 2) pe_int (nomark _))
      (pss_one (ps_ret pe_int))
      pss_nil)
    (pss_cons (ps_set (i := 2) sc_count_lists.nd rfl (.inl rfl) (pe_callB (call_min2 rfl) (by rfl) T.z_min (by decide +kernel) (pa_cons (pv 2) (pa_cons (pe_op op_sub (pe_op op_mulW (pv 0) (pe_op op_sub (pv 1) pe_int)) (pv 2)) pa_nil))))
    (pss_cons (ps_if (pt_cmpR op_lt (pv 2) pe_int (nomark _))
      (pss_one (ps_ret pe_int))
      pss_nil)
    (pss_cons (ps_set (i := 3) sc_count_lists.nd rfl (.inl rfl) (pe_callBfun HS.cr_comb (by rfl) T.y_comb (pa_cons (pe_op op_sub (pe_op op_add (pv 2) (pv 0)) pe_int) (pa_cons (pe_op op_sub (pv 0) pe_int) pa_nil))))
    (pss_cons (ps_set (i := 4) sc_count_lists.nd rfl (.inl rfl) (pe_un un_neg pe_int))
    (pss_cons (ps_for PassesOwn.never rfl (pi_range2 (by rfl) T.z_range (pa_cons pe_int (pa_cons (pe_op op_add (pe_op op_fdivW (pv 2) (pv 1)) pe_int) pa_nil))) (pg_name (i := 5) sc_count_lists.nd rfl (.inl rfl))
      (pss_cons (ps_set (i := 3) sc_count_lists.nd rfl (.inl rfl) (pe_op op_add (pv 3) (pe_op op_mulW (pe_op op_mulW (pv 4) (pe_callBfun HS.cr_comb (by rfl) T.y_comb (pa_cons (pv 0) (pa_cons (pv 5) pa_nil)))) (pe_callBfun HS.cr_comb (by rfl) T.y_comb (pa_cons (pe_op op_sub (pe_op op_add (pe_op op_sub (pv 2) (pe_op op_mulW (pv 5) (pv 1))) (pv 0)) pe_int) (pa_cons (pe_op op_sub (pv 0) pe_int) pa_nil))))))
    (pss_one (ps_set (i := 4) sc_count_lists.nd rfl (.inl rfl) (pe_un un_neg (pv 4))))))
    (pss_one (ps_ret (pv 3))))))))), ?_⟩
    obtain ⟨hn, hm1, hm0, ht, k⟩ := hw
    walk_at "hs"
    refine HS.itd (fun h0 => ?_) (fun h0 => ?_)
    · walk_at "hs"
      rw [show lstN n m t = 1 from if_pos h0] at k
      exact k
    walk_at "hs"
    refine ⟨wide_mul (a := 6) (b := 201) (by omega) (by omega) (by decide) (by decide) (by decide), ?_⟩
    walk_at "hs"
    obtain ⟨T, hT⟩ : ∃ T, min t ((n : Int) * (m - 1) - t) = T := ⟨_, rfl⟩
    rw [show (if (n : Int) * (m - 1) - t < t then (n : Int) * (m - 1) - t else t) = T by rw [← hT, Int.min_def]; split <;> split <;> omega]
    have hTt : T ≤ t := by rw [← hT]; exact Int.min_le_left _ _
    have hTn : T ≤ (n : Int) * (m - 1) - t := by rw [← hT]; exact Int.min_le_right _ _
    have hflip : T = t ∨ T = (n : Int) * (m - 1) - t := by rw [← hT, Int.min_def]; split <;> simp
    walk_at "hs"
    refine HS.itd (fun hneg => ?_) (fun hneg => ?_)
    · walk_at "hs"
      rw [show lstN n m t = 0 by unfold lstN; rw [if_neg h0, hT, if_pos hneg]] at k
      exact k
    have hn1 : 1 ≤ n := by
      rcases Nat.eq_zero_or_pos n with z | z
      · rw [z] at hTn; simp at hTn; omega
      · exact z
    obtain ⟨n', rfl⟩ : ∃ n', n = n' + 1 := ⟨n - 1, by omega⟩
    have hm2 : 2 ≤ m := by
      rcases Int.lt_or_le m 2 with g | g
      · exfalso
        have : ((n' + 1 : Nat) : Int) * (m - 1) ≤ 0 := by
          have := Int.mul_le_mul_of_nonneg_left (show m - 1 ≤ 0 by omega) (show 0 ≤ ((n' + 1 : Nat) : Int) by omega)
          rw [Int.mul_zero] at this
          exact this
        omega
      · exact g
    have hL : lstN (n' + 1) m t = bnd m.toNat (n' + 1) (T + (n' + 1 : Nat)) := by
      rw [lstN_bnd (by omega)]
      rcases hflip with g | g
      · rw [g]
      · rw [bnd_flip, g, show ((m.toNat : Nat) : Int) = m by omega]
        congr 1
        rw [Int.mul_add, Int.mul_sub]
        omega
    have hTm : T / m ≤ 50 := by
      have : T < 51 * m := by
        have : ((n' + 1 : Nat) : Int) * (m - 1) ≤ 50 * (m - 1) := Int.mul_le_mul_of_nonneg_right (by omega) (by omega)
        omega
      have := (Int.ediv_lt_iff_lt_mul (show 0 < m by omega)).mpr this
      omega
    have hT0 : 0 ≤ T / m := Int.ediv_nonneg (by omega) (by omega)
    have e1 : (((n' + 1 : Nat) : Int) - 1) = ((n' : Nat) : Int) := by omega
    have pw : ∀ j : Nat, j ≤ 50 → (2 : Nat) ^ (250 * j) < 2 ^ 12501 := fun j hj => Nat.pow_lt_pow_right (by decide) (by omega)
    have cb : ∀ a b : Nat, b ≤ 50 → a + 1 ≤ 2 ^ 250 → HS.binC a b < 2 ^ 12501 := fun a b hb ha => by
      have p1 := HS.binC_pow a b
      have p2 : (a + 1) ^ b ≤ (2 ^ 250) ^ b := Nat.pow_le_pow_left ha b
      rw [← Nat.pow_mul] at p2
      have := pw b hb
      omega
    walk_at "hs"
    refine ⟨(T + n').toNat, n', by rw [show (((T + n').toNat : Nat) : Int) = T + ((n' + 1 : Nat) : Int) - 1 by omega, e1], by omega, by omega, by omega, ?_⟩
    walk_at "hs"
    refine ⟨HS.divW 200 (by omega) (by omega) (by decide) (by decide), ?_⟩
    walk_at "hs"
    refine ⟨by omega, ?_⟩
    rw [show (T / m + 1 - 1).toNat = (T / m).toNat by omega]
    refine for_range (lo := 1) (n := (T / m).toNat) (fun i σ H' => H' = H ∧ ∃ x5 : Option V, σ = [some (.int ((n' + 1 : Nat) : Int)), some (.int m), some (.int T), some (.int ((List.range (i + 1)).map fun (j : Nat) => sgn j * (bin (n' + 1) j : Nat) * (bin (T - (j : Int) * m + n').toNat n' : Nat)).sum), some (.int (sgn (i + 1))), x5]) ⟨rfl, _, by
      rw [show (List.range (0 + 1)).map (fun (j : Nat) => sgn j * ((bin (n' + 1) j : Nat) : Int) * ((bin (T - (j : Int) * m + n').toNat n' : Nat) : Int)) = [sgn 0 * ((bin (n' + 1) 0 : Nat) : Int) * ((bin (T - ((0 : Nat) : Int) * m + n').toNat n' : Nat) : Int)] from rfl]
      rw [List.sum_singleton, bin_0, show T - ((0 : Nat) : Int) * m + n' = T + n' by omega, show sgn 0 = 1 from rfl, show sgn (0 + 1) = -1 from rfl, Int.one_mul]
      simp
      rfl⟩ ?_ ?_
    · rintro i σ H1 hi ⟨rfl, x5, rfl⟩
      have hjm : (1 + (i : Int)) * m ≤ T := by
        have := (Int.le_ediv_iff_mul_le (show 0 < m by omega)).mp (show (1 + (i : Int)) ≤ T / m by omega)
        exact this
      have hi50 : 1 + i ≤ n' + 1 := by
        have : T < ((n' + 1 : Nat) : Int) * m := by
          have e : ((n' + 1 : Nat) : Int) * (m - 1) = ((n' + 1 : Nat) : Int) * m - (n' + 1 : Nat) := by rw [Int.mul_sub, Int.mul_one]
          omega
        have := (Int.ediv_lt_iff_lt_mul (show 0 < m by omega)).mpr this
        omega
      have j0 : 0 ≤ (1 + (i : Int)) * m := Int.mul_nonneg (by omega) (by omega)
      have sg1 : (sgn (i + 1)).natAbs < 2 ^ 2 := by unfold sgn; split <;> decide
      walk_at "hs"
      refine ⟨n' + 1, 1 + i, by push_cast; rfl, hi50, by omega, by omega, ?_⟩
      walk_at "hs"
      have b1 := cb (n' + 1) (1 + i) (by omega) (by omega)
      refine ⟨wide_mul (a := 2) (b := 12501) sg1 (by rw [Int.natAbs_natCast]; exact b1) (by decide) (by decide) (by decide), ?_⟩
      walk_at "hs"
      refine ⟨HS.mulW 62 200 (by omega) (by omega) (by omega) hm1 (by decide) (by decide) (by decide), ?_⟩
      walk_at "hs"
      refine ⟨(T - (1 + (i : Int)) * m + n').toNat, n', by rw [show (((T - (1 + (i : Int)) * m + n').toNat : Nat) : Int) = T - (1 + (i : Int)) * m + ((n' + 1 : Nat) : Int) - 1 by omega, e1], by omega, by omega, by omega, ?_⟩
      walk_at "hs"
      have b2 := cb (T - (1 + (i : Int)) * m + n').toNat n' (by omega) (by omega)
      have mm : (sgn (i + 1) * ((HS.binC (n' + 1) (1 + i) : Nat) : Int)).natAbs < 2 ^ 12504 := by
        rw [Int.natAbs_mul, Int.natAbs_natCast]
        have : (sgn (i + 1)).natAbs ≤ 1 := by unfold sgn; split <;> decide
        have := Nat.mul_le_mul this (Nat.le_refl (HS.binC (n' + 1) (1 + i)))
        have q : (2 : Nat) ^ 12501 < 2 ^ 12504 := Nat.pow_lt_pow_right (by decide) (by decide)
        omega
      refine ⟨wide_mul (a := 12504) (b := 12501) mm (by rw [Int.natAbs_natCast]; exact b2) (by decide) (by decide) (by decide), ?_⟩
      walk_at "hs"
      refine ⟨rfl, some (.int (1 + (i : Nat))), ?_⟩
      rw [List.range_succ (n := i + 1), List.map_append, List.sum_append, List.map_singleton, List.sum_singleton, sgn_succ (i + 1), show ((i + 1 : Nat) : Int) = 1 + (i : Int) by omega, show i + 1 = 1 + i by omega]
      rfl
    · rintro σ H1 ⟨rfl, x5, rfl⟩
      walk_at "hs"
      rw [bnd_prog hm2 (by omega), ← hL]
      exact k
def sp_multiply_ways (K : PySem.W.Frag) : Sp := fun vs H Q _ => ∃ (b : Addr) (zs : List V) (ts : List (Int × Int × Int)) (n : Nat), vs = [.int n, .ref b] ∧ (SqL K H b zs ∧ HS.Tri H zs ts ∧ n ≤ 50 ∧ ts.length ≤ 30 ∧ (∀ t ∈ ts, t.2.1 < 2 ^ 200 ∧ -(2 ^ 200) < t.2.1 ∧ t.2.2 < 2 ^ 200) ∧ Q (.int (ways n ts)) H)
theorem ok_multiply_ways (T : Txt K mg A) : FnOk P w K mg base CX0 2 A.a_multiply_ways A.d_multiply_ways ["chapters", "places"] (sp_multiply_ways K) := by
  have G_count_lists : FnOk P w K mg base CX0 1 A.a_count_lists A.d_count_lists ["terms", "limit", "total"] (sp_count_lists K) := ok_count_lists T
  refine T.F_multiply_ways.ok sc_multiply_ways (fun vs H Q E h => ?_) (fun cdv A0 outer s H vs Q E hr h => ?_)
  · obtain ⟨b, zs, ts, n, rfl, hw⟩ := h
    rfl
  · obtain ⟨b, zs, ts, n, rfl, hw⟩ := h
    refine ⟨_, (pss_cons (ps_set (i := 2) sc_multiply_ways.nd rfl (.inl rfl) pe_int)
    (pss_cons (ps_for PassesOwn.never rfl (HS.kil K (pi_list (pv 1))) (HS.kgt K (pg_tup rfl (pgs_cons (pg_name (i := 3) sc_multiply_ways.nd rfl (.inl rfl)) (pgs_cons (pg_name (i := 4) sc_multiply_ways.nd rfl (.inl rfl)) (pgs_cons (pg_name (i := 5) sc_multiply_ways.nd rfl (.inl rfl)) pgs_nil)))))
      (pss_one (ps_set (i := 2) sc_multiply_ways.nd rfl (.inl rfl) (pe_op op_mulW (pv 2) (pe_call G_count_lists hr (by rfl) T.g_count_lists T.F_count_lists.kp T.b_count_lists .nil pass0 (pa_cons (pv 0) (pa_cons (pv 4) (pa_cons (pv 5) pa_nil))))))))
    (pss_one (ps_ret (pv 2))))), ?_⟩
    obtain ⟨hb, hT, hn, hl, hB, k⟩ := hw
    walk_at "hs"
    refine ⟨⟨_, hb⟩, for_list (xs := zs) (fun i σ H' => H' = H ∧ ∃ (x3 x4 x5 : Option V), σ = [some (.int n), some (.ref b), some (.int (ways n (ts.take i))), x3, x4, x5]) ⟨rfl, _, _, _, rfl⟩ (fun i σ H' _ ⟨e, _⟩ => e ▸ hb) ?_ ?_⟩
    · rintro i x σ H1 hi ⟨rfl, x3, x4, x5, rfl⟩
      obtain ⟨q, p, rfl, hp, hq⟩ := hT.at hi
      have hpB := hB p (List.mem_of_getElem? hp)
      have il := (List.getElem?_eq_some_iff.mp hp).1
      have w1 := ways_lt hn (ts := ts.take i) (fun t h => (hB t (List.mem_of_mem_take h)).1)
      rw [List.length_take, Nat.min_eq_left (by omega)] at w1
      have w2 := lstN_lt (t := p.2.2) hn hpB.1
      walk_at "hs"
      refine ⟨n, p.2.1, p.2.2, rfl, hn, hpB.1, hpB.2.1, hpB.2.2, ?_⟩
      walk_at "hs"
      refine ⟨wide_mul (a := 10001 * i + 1) (b := 10001) w1 w2 (by omega) (by decide) (by omega), ?_⟩
      walk_at "hs"
      refine ⟨rfl, some (.int p.1), some (.int p.2.1), some (.int p.2.2), ?_⟩
      rw [ways_take hp]
      rfl
    · rintro σ H1 ⟨rfl, x3, x4, x5, rfl⟩
      rw [hT.len, List.take_length]
      walk_at "hs"
      exact k
def sp_find_small_digit (K : PySem.W.Frag) : Sp := fun vs H Q _ => ∃ (n B : Nat) (t c x : Int), vs = [.int n, .int t, .int x, .int (c * lstN (n + 1) 2 t)] ∧ (n ≤ 50 ∧ 0 ≤ t ∧ B ≤ 100000 ∧ c * lstN (n + 1) 2 t < 2 ^ (B + 1) ∧ 0 ≤ x ∧ x < c * lstN (n + 1) 2 t ∧ ∀ H' r (d : Nat) (x' sh : Int), HS.Keep (fun _ => False) H H' → H r = none → H' r = some (.tup [.int d, .int x', .int sh]) → Dig n 2 t c x d x' sh → Q (.ref r) H')
theorem ok_find_small_digit (T : Txt K mg A) : FnOk P w K mg base CX0 1 A.a_find_small_digit A.d_find_small_digit ["left", "total", "number", "books"] (sp_find_small_digit K) := by
  refine T.F_find_small_digit.ok sc_find_small_digit (fun vs H Q E h => ?_) (fun cdv A0 outer s H vs Q E hr h => ?_)
  · obtain ⟨n, B, t, c, x, rfl, hw⟩ := h
    rfl
  · obtain ⟨n, B, t, c, x, rfl, hw⟩ := h
    refine ⟨_, (pss_cons (ps_set (i := 4) sc_find_small_digit.nd rfl (.inl rfl) (pe_op op_fdivW (pe_op op_mulW (pv 3) (pe_op op_sub (pe_op op_add (pv 0) pe_int) (pv 1))) (pe_op op_add (pv 0) pe_int)))
    (pss_cons (ps_if (pt_cmpR op_lt (pv 2) (pv 4) (nomark _))
      (pss_one (ps_ret (pe_tup (pa_cons pe_int (pa_cons (pv 2) (pa_cons (pv 4) pa_nil))))))
      pss_nil)
    (pss_one (ps_ret (pe_tup (pa_cons pe_int (pa_cons (pe_op op_sub (pv 2) (pv 4)) (pa_cons (pe_op op_sub (pv 3) (pv 4)) pa_nil)))))))), ?_⟩
    obtain ⟨hn, t0, hB, hb, x0, x1, k⟩ := hw
    have t1 : t ≤ (n + 1 : Nat) := by
      apply Int.le_of_not_gt
      intro g
      rw [lstN_zero (by decide) (by omega), Int.mul_zero] at x1
      omega
    have e0 : c * lstN (n + 1) 2 t = c * lstN n 2 t + c * lstN n 2 (t - 1) := by rw [two_step, Int.mul_add]
    have es := two_share (n := n) (c := c) t0 t1
    rw [show ((n + 1 : Nat) : Int) = (n : Int) + 1 by omega] at es t1
    generalize hbk : c * lstN (n + 1) 2 t = bk at *
    walk_at "hs"
    refine ⟨HS.mulW (B + 1) 60 (by omega) hb (by omega) (by omega) (by omega) (by decide) (by omega), ?_⟩
    walk_at "hs"
    refine ⟨HS.divW 60 (by omega) (by omega) (by decide) (by decide), ?_⟩
    walk_at "hs"
    rw [es]
    refine HS.itd (fun h => ?_) (fun h => ?_)
    · walk_at "hs"
      intro r hr
      refine k _ r 0 x (c * lstN n 2 t) (.new hr) hr upd_same ⟨by simp, by show x = x + c * 0; simp, x0, h⟩
    · walk_at "hs"
      intro r hr
      refine k _ r 1 (x - c * lstN n 2 t) (bk - c * lstN n 2 t) (.new hr) hr upd_same ⟨by rw [e0]; show _ = c * lstN n 2 (t - 1); omega, ?_, by omega, by omega⟩
      show x = x - c * lstN n 2 t + c * sumN 1 _
      rw [show sumN 1 (fun e => lstN n 2 (t - (e : Nat))) = lstN n 2 t by rw [sumN_succ]; show 0 + _ = _; simp]
      omega
def FreeInv (q B : Nat) (m t c x : Int) (H : Hp) (w : Nat) (σ : L2.St) (H1 : Hp) : Prop := ∃ (j : Nat) (y : Int), w = (t - j).toNat ∧ H1 = H ∧ (j : Int) ≤ t ∧ x = y + c * sumN j (fun e => lstN (q + 1) m (t - e)) ∧ 0 ≤ y ∧ y < c * An (q + 2) (t - j) ∧ c * An (q + 2) (t - j) < 2 ^ (B + 1) ∧
  σ = [some (.int (q + 1 : Nat)), some (.int (t - j)), some (.int y), some (.int (c * An (q + 2) (t - j))), some (.int j), some (.int (c * An (q + 1) (t - j)))]
def sp_find_free_digit (K : PySem.W.Frag) : Sp := fun vs H Q _ => ∃ (q B : Nat) (m t c x : Int), vs = [.int (q + 1 : Nat), .int t, .int x, .int (c * An (q + 2) t)] ∧ (q ≤ 50 ∧ 0 ≤ t ∧ t < m ∧ t < 2 ^ 200 ∧ 0 ≤ c ∧ B ≤ 100000 ∧ c * An (q + 2) t < 2 ^ (B + 1) ∧ 0 ≤ x ∧ x < c * An (q + 2) t ∧ ∀ H' r (d : Nat) (x' sh : Int), HS.Keep (fun _ => False) H H' → H r = none → H' r = some (.tup [.int d, .int x', .int sh]) → Dig (q + 1) m t c x d x' sh → Q (.ref r) H')
theorem ok_find_free_digit (T : Txt K mg A) : FnOk P w K mg base CX0 1 A.a_find_free_digit A.d_find_free_digit ["left", "total", "number", "books"] (sp_find_free_digit K) := by
  refine T.F_find_free_digit.ok sc_find_free_digit (fun vs H Q E h => ?_) (fun cdv A0 outer s H vs Q E hr h => ?_)
  · obtain ⟨q, B, m, t, c, x, rfl, hw⟩ := h
    rfl
  · obtain ⟨q, B, m, t, c, x, rfl, hw⟩ := h
    refine ⟨_, (pss_cons (ps_set (i := 4) sc_find_free_digit.nd rfl (.inl rfl) pe_int)
    (pss_cons (ps_set (i := 5) sc_find_free_digit.nd rfl (.inl rfl) (pe_op op_fdivW (pe_op op_mulW (pv 3) (pv 0)) (pe_op op_add (pv 1) (pv 0))))
    (pss_cons (ps_while PassesOwn.never (pt_cmpR op_ge (pv 2) (pv 5) (nomark _))
      (pss_cons (ps_set (i := 2) sc_find_free_digit.nd rfl (.inl rfl) (pe_op op_sub (pv 2) (pv 5)))
    (pss_cons (ps_set (i := 3) sc_find_free_digit.nd rfl (.inl rfl) (pe_op op_sub (pv 3) (pv 5)))
    (pss_cons (ps_set (i := 4) sc_find_free_digit.nd rfl (.inl rfl) (pe_op op_add (pv 4) pe_int))
    (pss_cons (ps_set (i := 1) sc_find_free_digit.nd rfl (.inl rfl) (pe_op op_sub (pv 1) pe_int))
    (pss_one (ps_set (i := 5) sc_find_free_digit.nd rfl (.inl rfl) (pe_op op_fdivW (pe_op op_mulW (pv 3) (pv 0)) (pe_op op_add (pv 1) (pv 0))))))))))
    (pss_one (ps_ret (pe_tup (pa_cons (pv 4) (pa_cons (pv 2) (pa_cons (pv 5) pa_nil))))))))), ?_⟩
    obtain ⟨hq, t0, tm, t1, c0, hB, hb, x0, x1, k⟩ := hw
    have cA : ∀ f, 0 ≤ c * An (q + 1) f := fun f => Int.mul_nonneg c0 (cps_nonneg _ _)
    walk_at "hs"
    refine ⟨HS.mulW (B + 1) 60 (by omega) hb (by omega) (by omega) (by omega) (by decide) (by omega), ?_⟩
    walk_at "hs"
    refine ⟨HS.divW 201 (by omega) (by omega) (by decide) (by decide), ?_⟩
    walk_at "hs"
    rw [free_share t0]
    refine ⟨FreeInv q B m t c x H, ⟨_, 0, x, rfl, rfl, t0, by show x = x + c * 0; simp, x0, by rw [show t - ((0 : Nat) : Int) = t by omega]; exact x1, by rw [show t - ((0 : Nat) : Int) = t by omega]; exact hb, by rw [show t - ((0 : Nat) : Int) = t by omega]; rfl⟩, ?_⟩
    rintro w σ H1 ⟨j, y, rfl, rfl, jt, ex, y0, y1, yb, rfl⟩
    have ef : lstN (q + 1) m (t - j) = An (q + 1) (t - j) := lstN_free (by omega) (by omega)
    have fr := free_rest (n := q + 1) (c := c) (f := t - j)
    have cj := cA (t - j)
    walk_at "hs"
    refine HS.itd (fun h => ?_) (fun h => ?_)
    · have jlt : (j : Int) < t := by
        apply Int.lt_of_not_ge
        intro g
        have e : t - j = 0 := by omega
        rw [e, An_0, Int.mul_one] at y1
        rw [e, An_0, Int.mul_one] at h
        omega
      have e1 : t - j - 1 = t - ((j + 1 : Nat) : Int) := by push_cast; omega
      refine ⟨fun σ' H2 => ∃ m', m' < (t - j).toNat ∧ FreeInv q B m t c x H1 m' σ' H2, fun σ' H2 h => h, ?_⟩
      walk_at "hs"
      refine ⟨HS.mulW (B + 1) 60 (by omega) (by omega) (by omega) (by omega) (by omega) (by decide) (by omega), ?_⟩
      walk_at "hs"
      refine ⟨HS.divW 201 (by omega) (by omega) (by decide) (by decide), ?_⟩
      walk_at "hs"
      have fr2 : c * An (q + 2) (t - j) - c * An (q + 1) (t - j) = c * An (q + 2) (t - ((j + 1 : Nat) : Int)) := by rw [← e1]; exact fr
      refine ⟨(t - ((j + 1 : Nat) : Int)).toNat, by omega, j + 1, y - c * An (q + 1) (t - j), rfl, rfl, by omega, ?_, by omega, by omega, by omega, ?_⟩
      · have := dig_next ex
        rw [ef] at this
        exact this
      · rw [fr2, e1, free_share (by omega)]
        rfl
    · walk_at "hs"
      intro r hr
      have := dig_end ex y0 (by rw [ef]; omega)
      rw [ef] at this
      exact k _ r j y _ (.new hr) hr upd_same this
theorem lstN_few {n : Nat} {m t : Int} (hn : n ≤ 11) (hm : m < 2 ^ 200) : lstN n m t < 2 ^ 2201 := by
  have big : ∀ k : Nat, k ≤ 2200 → (2 : Nat) ^ k < 2 ^ 2201 := fun k h => Nat.pow_lt_pow_right (by decide) (by omega)
  have key : (lstN n m t).natAbs < 2 ^ 2201 := by
    unfold lstN
    split
    · exact Nat.lt_of_le_of_lt (show (1 : Int).natAbs ≤ 2 ^ 0 by decide) (big 0 (by omega))
    · split
      · exact Nat.lt_of_le_of_lt (show (0 : Int).natAbs ≤ 2 ^ 0 by decide) (big 0 (by omega))
      · have a := bnd_le m.toNat n (t + n)
        have b := bnd_nonneg m.toNat n (t + n)
        have c : m.toNat ^ n ≤ (2 ^ 200) ^ n := Nat.pow_le_pow_left (by omega) n
        rw [← Nat.pow_mul] at c
        have d := big (200 * n) (by omega)
        have e : (bnd m.toNat n (t + n)).natAbs ≤ m.toNat ^ n := by
          have : ((m.toNat : Nat) : Int) ^ n = ((m.toNat ^ n : Nat) : Int) := by push_cast; rfl
          rw [this] at a
          omega
        omega
  have l0 := lstN_nonneg n m t
  have e : ((2 ^ 2201 : Nat) : Int) = (2 : Int) ^ 2201 := by push_cast; rfl
  rw [← e]
  omega
def FullInv (q : Nat) (m t c x : Int) (H : Hp) (w : Nat) (σ : L2.St) (H1 : Hp) : Prop := ∃ (j : Nat) (y : Int), w = m.toNat - j ∧ HS.Keep (fun _ => False) H H1 ∧ x = y + c * sumN j (fun e => lstN (q + 1) m (t - e)) ∧ 0 ≤ y ∧
  σ = [some (.int (q + 1 : Nat)), some (.int m), some (.int t), some (.int y), some (.int (c * lstN (q + 2) m t)), some (.int j), some (.int (lstN (q + 2) m t)), some (.int (c * lstN (q + 1) m (t - j)))]
def sp_find_digit (K : PySem.W.Frag) : Sp := fun vs H Q _ => ∃ (q B : Nat) (m t c x : Int), vs = [.int (q + 1 : Nat), .int m, .int t, .int x, .int (c * lstN (q + 2) m t)] ∧ (q ≤ 9 ∧ 2 ≤ m ∧ m < 2 ^ 200 ∧ 0 ≤ t ∧ t < 2 ^ 200 ∧ 0 ≤ c ∧ B ≤ 100000 ∧ c * lstN (q + 2) m t < 2 ^ (B + 1) ∧ 0 ≤ x ∧ x < c * lstN (q + 2) m t ∧ ∀ H' r (d : Nat) (x' sh : Int), HS.Keep (fun _ => False) H H' → H r = none → H' r = some (.tup [.int d, .int x', .int sh]) → Dig (q + 1) m t c x d x' sh → Q (.ref r) H')
theorem ok_find_digit (T : Txt K mg A) : FnOk P w K mg base CX0 2 A.a_find_digit A.d_find_digit ["left", "limit", "total", "number", "books"] (sp_find_digit K) := by
  have G_find_free_digit : FnOk P w K mg base CX0 1 A.a_find_free_digit A.d_find_free_digit ["left", "total", "number", "books"] (sp_find_free_digit K) := ok_find_free_digit T
  have G_find_small_digit : FnOk P w K mg base CX0 1 A.a_find_small_digit A.d_find_small_digit ["left", "total", "number", "books"] (sp_find_small_digit K) := ok_find_small_digit T
  have G_count_lists : FnOk P w K mg base CX0 1 A.a_count_lists A.d_count_lists ["terms", "limit", "total"] (sp_count_lists K) := ok_count_lists T
  refine T.F_find_digit.ok sc_find_digit (fun vs H Q E h => ?_) (fun cdv A0 outer s H vs Q E hr h => ?_)
  · obtain ⟨q, B, m, t, c, x, rfl, hw⟩ := h
    rfl
  · obtain ⟨q, B, m, t, c, x, rfl, hw⟩ := h
    refine ⟨_, (pss_cons (ps_if (pt_cmpR op_lt (pv 2) (pv 1) (nomark _))
      (pss_one (ps_ret (pe_call G_find_free_digit hr (by rfl) T.g_find_free_digit T.F_find_free_digit.kp T.b_find_free_digit .nil pass0 (pa_cons (pv 0) (pa_cons (pv 2) (pa_cons (pv 3) (pa_cons (pv 4) pa_nil)))))))
      pss_nil)
    (pss_cons (ps_if (pt_cmpR op_eq (pv 1) pe_int (nomark _))
      (pss_one (ps_ret (pe_call G_find_small_digit hr (by rfl) T.g_find_small_digit T.F_find_small_digit.kp T.b_find_small_digit .nil pass0 (pa_cons (pv 0) (pa_cons (pv 2) (pa_cons (pv 3) (pa_cons (pv 4) pa_nil)))))))
      pss_nil)
    (pss_cons (ps_set (i := 5) sc_find_digit.nd rfl (.inl rfl) (pe_callB (call_max2 rfl) (by rfl) T.z_max (by decide +kernel) (pa_cons pe_int (pa_cons (pe_op op_sub (pv 2) (pe_op op_mulW (pv 0) (pe_op op_sub (pv 1) pe_int))) pa_nil))))
    (pss_cons (ps_set (i := 6) sc_find_digit.nd rfl (.inl rfl) (pe_call G_count_lists hr (by rfl) T.g_count_lists T.F_count_lists.kp T.b_count_lists .nil pass0 (pa_cons (pe_op op_add (pv 0) pe_int) (pa_cons (pv 1) (pa_cons (pv 2) pa_nil)))))
    (pss_cons (ps_set (i := 7) sc_find_digit.nd rfl (.inl rfl) (pe_op op_fdivW (pe_op op_mulW (pv 4) (pe_call G_count_lists hr (by rfl) T.g_count_lists T.F_count_lists.kp T.b_count_lists .nil pass0 (pa_cons (pv 0) (pa_cons (pv 1) (pa_cons (pe_op op_sub (pv 2) (pv 5)) pa_nil))))) (pv 6)))
    (pss_cons (ps_while PassesOwn.never (pt_cmpR op_ge (pv 3) (pv 7) (nomark _))
      (pss_cons (ps_set (i := 3) sc_find_digit.nd rfl (.inl rfl) (pe_op op_sub (pv 3) (pv 7)))
    (pss_cons (ps_set (i := 5) sc_find_digit.nd rfl (.inl rfl) (pe_op op_add (pv 5) pe_int))
    (pss_one (ps_set (i := 7) sc_find_digit.nd rfl (.inl rfl) (pe_op op_fdivW (pe_op op_mulW (pv 4) (pe_call G_count_lists hr (by rfl) T.g_count_lists T.F_count_lists.kp T.b_count_lists .nil pass0 (pa_cons (pv 0) (pa_cons (pv 1) (pa_cons (pe_op op_sub (pv 2) (pv 5)) pa_nil))))) (pv 6)))))))
    (pss_one (ps_ret (pe_tup (pa_cons (pv 5) (pa_cons (pv 3) (pa_cons (pv 7) pa_nil)))))))))))), ?_⟩
    obtain ⟨hq, m0, m1, t0, t1, c0, hB, hb, x0, x1, k⟩ := hw
    walk_at "hs"
    refine HS.itd (fun a1 => ?_) (fun a1 => ?_)
    · walk_at "hs"
      have e := lstN_free (n := q + 2) t0 a1
      rw [e] at hb x1 ⊢
      refine ⟨q, B, m, t, c, x, rfl, by omega, t0, a1, t1, c0, hB, hb, x0, x1, fun H' r d x' sh K hr h D => ?_⟩
      exact k _ r d x' sh K hr h D
    walk_at "hs"
    refine HS.itd (fun a2 => ?_) (fun a2 => ?_)
    · walk_at "hs"
      subst a2
      refine ⟨q + 1, B, t, c, x, rfl, by omega, t0, hB, hb, x0, x1, fun H' r d x' sh K hr h D => ?_⟩
      exact k _ r d x' sh K hr h D
    walk_at "hs"
    have P0 : 0 ≤ ((q + 1 : Nat) : Int) * (m - 1) := Int.mul_nonneg (by omega) (by omega)
    refine ⟨HS.mulW 60 201 (by omega) (by omega) (by omega) (by omega) (by decide) (by decide) (by decide), ?_⟩
    walk_at "hs"
    generalize hP : ((q + 1 : Nat) : Int) * (m - 1) = P at P0 ⊢
    generalize hD : (if t - P > 0 then t - P else 0) = D0
    have D1 : 0 ≤ D0 ∧ ∀ e : Nat, (e : Int) < D0 → P < t - e := by
      rw [← hD]
      constructor
      · split <;> omega
      · intro e
        split <;> omega
    obtain ⟨j0, rfl⟩ := Int.eq_ofNat_of_zero_le D1.1
    have hW : lstN (q + 2) m t ≠ 0 := fun z => by rw [z, Int.mul_zero] at x1; omega
    have hw0 : ∀ e : Nat, 0 ≤ lstN (q + 1) m (t - e) := fun e => lstN_nonneg _ _ _
    have hs : x < c * sumN m.toNat fun e => lstN (q + 1) m (t - e) := by
      rw [← lstN_sum (n := q + 1) (m := m) (t := t) (by omega)]
      exact x1
    have hz : sumN j0 (fun e => lstN (q + 1) m (t - e)) = 0 := sumN_none _ fun e he => lstN_zero (by omega) (by rw [hP]; exact D1.2 e (by omega))
    have Wlt := lstN_few (n := q + 2) (t := t) (show q + 2 ≤ 11 by omega) m1
    have W0 := lstN_nonneg (q + 2) m t
    have Vlt : ∀ u, lstN (q + 1) m u < 2 ^ 2201 := fun u => lstN_few (n := q + 1) (t := u) (by omega) m1
    refine ⟨q + 2, m, t, by rw [show ((q + 1 : Nat) : Int) + 1 = ((q + 2 : Nat) : Int) by omega], by omega, m1, by omega, t1, ?_⟩
    walk_at "hs"
    refine ⟨q + 1, m, t - j0, rfl, by omega, m1, by omega, by omega, ?_⟩
    walk_at "hs"
    refine ⟨HS.mulW (B + 1) 2201 (by omega) hb (lstN_nonneg _ _ _) (Vlt _) (by omega) (by omega) (by omega), ?_⟩
    walk_at "hs"
    refine ⟨HS.divW 2201 (by omega) Wlt (by omega) (by omega), ?_⟩
    walk_at "hs"
    rw [share_is hW]
    refine ⟨FullInv q m t c x H, ⟨_, j0, x, rfl, .refl, by rw [hz]; simp, x0, rfl⟩, ?_⟩
    rintro w σ H1 ⟨j, y, rfl, K1, ex, y0, rfl⟩
    have jm : j < m.toNat := dig_lt (x := x) hw0 c0 hs (by rw [show x - c * sumN j (fun e => lstN (q + 1) m (t - e)) = y by omega]; exact y0)
    walk_at "hs"
    refine HS.itd (fun h => ?_) (fun h => ?_)
    · refine ⟨fun σ' H2 => ∃ m', m' < m.toNat - j ∧ FullInv q m t c x H m' σ' H2, fun σ' H2 h => h, ?_⟩
      walk_at "hs"
      refine ⟨q + 1, m, t - ((j : Int) + 1), rfl, by omega, m1, by omega, by omega, ?_⟩
      walk_at "hs"
      refine ⟨HS.mulW (B + 1) 2201 (by omega) hb (lstN_nonneg _ _ _) (Vlt _) (by omega) (by omega) (by omega), ?_⟩
      walk_at "hs"
      refine ⟨HS.divW 2201 (by omega) Wlt (by omega) (by omega), ?_⟩
      walk_at "hs"
      rw [share_is hW]
      exact ⟨m.toNat - (j + 1), by omega, j + 1, y - c * lstN (q + 1) m (t - j), rfl, K1, dig_next ex, by omega, rfl⟩
    · walk_at "hs"
      intro r hr
      exact k _ r j y _ (K1.nw hr) (K1.free hr id) upd_same (dig_end ex y0 (by omega))
theorem tri_rev {H : Hp} : ∀ {us : List V} {ts : List T3}, HS.Tri H us ts → HS.Tri H us.reverse ts.reverse
  | [], [], _ => trivial
  | u :: us, t :: ts, ⟨a, h⟩ => by
    rw [List.reverse_cons, List.reverse_cons]
    exact (tri_rev h).app ⟨a, trivial⟩
theorem pos3_app (a b : List T3) : pos3 (a ++ b) = pos3 a ++ pos3 b := List.filter_append ..
theorem wd_swap {H0 H : Hp} {S : Addr → Prop} {a b : Addr × (HO → Prop)} (W : HS.Wd H0 H S [a, b]) : HS.Wd H0 H S [b, a] :=
  have f : ∀ x, x ∈ [b, a] → x ∈ [a, b] := fun x hx => by
    rcases List.mem_cons.mp hx with e | hx
    · rw [e]; exact List.mem_cons_of_mem _ List.mem_cons_self
    · rw [List.mem_singleton.mp hx]; exact List.mem_cons_self
  ⟨by
    have n := W.nd
    rw [List.map_cons, List.map_cons, List.map_nil, List.nodup_cons] at n
    refine List.nodup_cons.mpr ⟨fun z => n.1 ?_, List.nodup_cons.mpr ⟨List.not_mem_nil, .nil⟩⟩
    rw [List.map_cons, List.map_nil, List.mem_singleton] at z
    rw [← z]
    exact List.mem_cons_self, fun x hx => W.at_ x (f x hx), W.kp, fun x hx => W.fr x (f x hx)⟩
def OutL (n : Nat) (H : Hp) (qs0 : List T3) (x0 : Int) (B : Nat) (i : Nat) (σ : L2.St) (H' : Hp) : Prop := ∃ (L P : Addr) (ls : List Int) (us : List V) (qs : List T3) (x : Int) (x5 x6 x7 x8 x9 xa xb xc : Option V), HS.Wd H H' (fun _ => False) [(P, Eq (.lst us)), (L, Eq (.lst (ls.map V.int)))] ∧ HS.Tri H' us qs ∧ qs.length ≤ 30 ∧ (∀ t ∈ qs, GoodT t ∧ 0 < t.2.2) ∧ i ≤ n ∧ ls.length = i ∧ 0 ≤ x ∧ x < ways (n + 1 - i) qs ∧ ways (n + 1 - i) qs < 2 ^ (B + 1) ∧
  (∀ ls2, Walk (n - i) qs x ls2 → Walk n qs0 x0 (ls ++ ls2)) ∧ σ = [some (.int (n + 1 : Nat)), some (.ref P), some (.int x), some (.int (ways (n + 1 - i) qs)), some (.ref L), x5, x6, x7, x8, x9, xa, xb, xc]
def sp_list_lengths (K : PySem.W.Frag) : Sp := fun vs H Q _ => ∃ (b : Addr) (us : List V) (ts : List T3) (n B : Nat) (x : Int), vs = [.int (n + 1 : Nat), .ref b, .int x, .int (ways (n + 1) ts)] ∧ (n ≤ 10 ∧ SqL K H b us ∧ HS.Tri H us ts ∧ ts.length ≤ 30 ∧ (∀ t ∈ ts, GoodT t) ∧ B ≤ 100000 ∧ ways (n + 1) ts < 2 ^ (B + 1) ∧ 0 ≤ x ∧ x < ways (n + 1) ts ∧ ∀ H' p ls, HS.Keep (fun _ => False) H H' → H p = none → H' p = some (.lst (ls.map V.int)) → Walk n (pos3 ts.reverse) x ls → Q (.ref p) H')
theorem ok_list_lengths (T : Txt K mg A) : FnOk P w K mg base CX0 3 A.a_list_lengths A.d_list_lengths ["chapters", "places", "number", "books"] (sp_list_lengths K) := by
  have G_find_digit : FnOk P w K mg base CX0 2 A.a_find_digit A.d_find_digit ["left", "limit", "total", "number", "books"] (sp_find_digit K) := ok_find_digit T
  refine T.F_list_lengths.ok sc_list_lengths (fun vs H Q E h => ?_) (fun cdv A0 outer s H vs Q E hr h => ?_)
  · obtain ⟨b, us, ts, n, B, x, rfl, hw⟩ := h
    rfl
  · obtain ⟨b, us, ts, n, B, x, rfl, hw⟩ := h
    refine ⟨_, (pss_cons (ps_setLc (i := 1) (own := [("place", 12)]) (g := gName 12) rfl sc_list_lengths.nd rfl rfl (sw_true rfl rfl rfl (by decide +kernel)) (HS.kil K (pi_list (HS.krev K (pe_revL (pv 1))))) (blkOk_by (own := [("place", 12)]) (N := N_list_lengths) (sc := defScope s_list_lengths) (by decide +kernel)) (fun _ _ _ _ _ => pg_name (i := 12) sc_list_lengths.nd rfl (by first | exact .inl rfl | exact .inr rfl)) (fun _ _ _ _ _ => (pts_one (pt_cmpR op_gt (pe_ix (HS.ixt K) (pv 12) pe_int (fun _ _ => rfl)) pe_int (nomark _)))) (fun _ _ _ _ _ => (pv 12)))
    (pss_cons (ps_set (i := 4) sc_list_lengths.nd rfl (.inl rfl) (pe_lst pa_nil))
    (pss_cons (ps_for PassesOwn.never rfl (pi_range3 (by rfl) T.z_range (pa_cons (pe_op op_sub (pv 0) pe_int) (pa_cons pe_int (pa_cons (pe_un un_neg pe_int) pa_nil)))) (pg_name (i := 5) sc_list_lengths.nd rfl (.inl rfl))
      (pss_cons (ps_set (i := 6) sc_list_lengths.nd rfl (.inl rfl) pe_int)
    (pss_cons (ps_set (i := 7) sc_list_lengths.nd rfl (.inl rfl) (pe_lst pa_nil))
    (pss_cons (ps_for PassesOwn.never rfl (HS.kil K (pi_list (pv 1))) (HS.kgt K (pg_tup rfl (pgs_cons (pg_name (i := 8) sc_list_lengths.nd rfl (.inl rfl)) (pgs_cons (pg_name (i := 9) sc_list_lengths.nd rfl (.inl rfl)) (pgs_cons (pg_name (i := 10) sc_list_lengths.nd rfl (.inl rfl)) pgs_nil)))))
      (pss_cons (ps_asg (pe_call G_find_digit hr (by rfl) T.g_find_digit T.F_find_digit.kp T.b_find_digit .nil pass0 (pa_cons (pv 5) (pa_cons (pv 9) (pa_cons (pv 10) (pa_cons (pv 2) (pa_cons (pv 3) pa_nil)))))) (HS.kgt K (pg_tup rfl (pgs_cons (pg_name (i := 11) sc_list_lengths.nd rfl (.inl rfl)) (pgs_cons (pg_name (i := 2) sc_list_lengths.nd rfl (.inl rfl)) (pgs_cons (pg_name (i := 3) sc_list_lengths.nd rfl (.inl rfl)) pgs_nil))))))
    (pss_cons (ps_set (i := 6) sc_list_lengths.nd rfl (.inl rfl) (pe_op op_add (pv 6) (pe_op op_mulW (pv 11) (pv 8))))
    (pss_one (ps_if (pt_cmpR op_lt (pv 11) (pv 10) (nomark _))
      (pss_one (ps_expr (HS.kbm K (pe_bm PySem.F.plainAttrs_list PySem.F.slot_list_append PySem.F.type_list_append mt_append (pv 7) (pa_cons (pe_tup (pa_cons (pv 8) (pa_cons (pv 9) (pa_cons (pe_op op_sub (pv 10) (pv 11)) pa_nil)))) pa_nil)))))
      pss_nil)))))
    (pss_cons (ps_set (i := 1) sc_list_lengths.nd rfl (.inl rfl) (pv 7))
    (pss_one (ps_expr (HS.kbm K (pe_bm PySem.F.plainAttrs_list PySem.F.slot_list_append PySem.F.type_list_append mt_append (pv 4) (pa_cons (pv 6) pa_nil))))))))))
    (pss_one (ps_ret (pv 4)))))), ?_⟩
    obtain ⟨hn, hb, hT, htl, hG, hB, hbk, x0, x1, k⟩ := hw
    have hTr := tri_rev hT
    have W := HS.Wd.nil (H := H) (S := fun _ => False)
    walk_at "hs"
    refine ⟨b, us, rfl, hb, fun R hR => ?_⟩
    have K1 := HS.Keep.new (S := fun _ => False) (o := .lst us.reverse) hR
    have hR1 := upd_same (H := H) (a := R) (o := .lst us.reverse)
    generalize upd H R (.lst us.reverse) = H1 at K1 hR1 ⊢
    have hT1 := hTr.same K1
    replace W := W.same K1
    refine ⟨R, rfl, ⟨_, HS.sq hR1⟩, fun D hD => lc_list (xs := us.reverse) (fun i H' => HS.Keep (fun _ => False) H1 H' ∧ ∃ vs, H' D = some (.lst vs) ∧ HS.Tri H' vs (pos3 (ts.reverse.take i))) ⟨.new hD, [], upd_same, trivial⟩ (fun i H' _ ⟨K', _⟩ => HS.sq (K' _ _ hR1 id)) ?_ ?_⟩
    · rintro i v H2 hi ⟨K2, vs, hD2, hV⟩
      obtain ⟨q, p, rfl, hp, hq⟩ := hT1.at hi
      have hq2 := K2 _ _ hq id
      have vl := hV.len
      have fl : (pos3 (ts.reverse.take i)).length ≤ 30 := by
        have := List.length_filter_le (fun t : T3 => decide (0 < t.2.2)) (ts.reverse.take i)
        rw [List.length_take, List.length_reverse] at this
        unfold pos3
        omega
      have et : ts.reverse.take (i + 1) = ts.reverse.take i ++ [p] := by rw [List.take_add_one, hp]; rfl
      walk_at "hs"
      refine HS.itd (fun h0 => ?_) (fun h0 => ?_)
      · walk_at "hs"
        refine ⟨vs, hD2, HS.sz (by omega), K2.put hD, vs ++ [.ref q], upd_same, ?_⟩
        rw [et, pos3_app, show pos3 [p] = [p] from List.filter_cons_of_pos (decide_eq_true h0)]
        exact HS.Tri.put hD2 (hV.app ⟨⟨q, rfl, hq2⟩, trivial⟩)
      · refine ⟨K2, vs, hD2, ?_⟩
        rw [et, pos3_app, show pos3 [p] = [] from List.filter_cons_of_neg (by rw [decide_eq_false h0]; exact Bool.false_ne_true), List.append_nil]
        exact hV
    · rintro H2 ⟨K2, vs, hD2, hV⟩
      have eL : us.reverse.length = ts.reverse.length := by rw [List.length_reverse, List.length_reverse, hT.len]
      rw [eL, List.take_length] at hV
      have hD2n := (K1.free hD id)
      have W := HS.Wd.nil (H := H) (S := fun _ => False)
      replace W := W.made (K1.trans K2) hD2n hD2 (P := Eq _) rfl
      walk_at "hs"
      intro L hL
      generalize hG_L : upd _ L _ = H3
      have Kn_L := HS.upgK hG_L hL
      replace W := W.newG hG_L hL
      clear hG_L hL
      try dsimp only [List.set, List.cons_append, List.nil_append] at W
      have hV := hV.same Kn_L
      walk_at "hs"
      refine ⟨_, _, _, _, rfl, RgC.neg (by omega) (by omega) (by omega) (by omega), ?_⟩
      rw [show (((n + 1 : Nat) : Int) - 1 - 0).toNat = n by omega]
      have hp0 : ∀ t ∈ ts.reverse, 0 ≤ t.2.2 := fun t ht => (hG t (List.mem_reverse.mp ht)).2.2.2.2.1
      have ew : ways (n + 1) (pos3 ts.reverse) = ways (n + 1) ts := (ways_left (n + 1) _ hp0).trans (ways_rev _ _)
      have pl : (pos3 ts.reverse).length ≤ 30 := by
        have := List.length_filter_le (fun t : T3 => decide (0 < t.2.2)) ts.reverse
        rw [List.length_reverse] at this
        unfold pos3
        omega
      refine for_rangeC (fun i σ H' => OutL n H (pos3 ts.reverse) x B i σ H') ?_ ?_ ?_
      · exact ⟨L, D, [], vs, pos3 ts.reverse, x, _, _, _, _, _, _, _, _, W, hV, pl, fun t ht => ⟨hG t (List.mem_reverse.mp (List.mem_filter.mp ht).1), of_decide_eq_true (List.mem_filter.mp ht).2⟩, Nat.zero_le _, rfl, x0, by rw [Nat.sub_zero, ew]; exact x1, by rw [Nat.sub_zero, ew]; exact hbk, fun ls2 h => h, by rw [Nat.sub_zero, ew]; rfl⟩
      · rintro i σ H4 hi ⟨L, P, ls, us, qs, x, x5, x6, x7, x8, x9, xa, xb, xc, W, hT, ql, hq, hin, lsl, x0, x1, hbk, hk, rfl⟩
        obtain ⟨q, rfl⟩ : ∃ q, n = i + q + 1 := ⟨n - i - 1, by omega⟩
        have e2 : i + q + 1 + 1 - i = q + 2 := by omega
        have e1 : i + q + 1 - i = q + 1 := by omega
        have el : ((i + q + 1 + 1 : Nat) : Int) - 1 + (i : Nat) * -1 = ((q + 1 : Nat) : Int) := by push_cast; omega
        rw [e2] at x1 hbk ⊢
        rw [e1] at hk
        walk_at "hs"
        rw [el]
        intro O hO
        generalize hG_O : upd _ O _ = H5
        have Kn_O := HS.upgK hG_O hO
        replace W := W.newG hG_O hO
        clear hG_O hO
        try dsimp only [List.set, List.cons_append, List.nil_append] at W
        have hT := hT.same Kn_O
        walk_at "hs"
        refine ⟨⟨_, W.sq 0 rfl⟩, for_list (xs := us) (fun j σ H' => ∃ (ds : List Nat) (y bk A len : Int) (ots : List T3) (os : List V) (x8 x9 xa xb : Option V), HS.Wd H H' (fun _ => False) [(P, Eq (.lst us)), (L, Eq (.lst (ls.map V.int))), (O, Eq (.lst os))] ∧ HS.Tri H' us qs ∧ HS.Tri H' os ots ∧ InL q qs x j ds y bk A len ots ∧ bk < 2 ^ (B + 1) ∧ ots.length ≤ j ∧ (∀ t ∈ ots, GoodT t ∧ 0 < t.2.2) ∧ σ = [some (.int ((i + q + 1 + 1 : Nat) : Int)), some (.ref P), some (.int y), some (.int bk), some (.ref L), some (.int (q + 1 : Nat)), some (.int len), some (.ref O), x8, x9, xa, xb, xc]) ⟨[], x, _, 1, 1, [], [], _, _, _, _, W, hT, trivial, .start x0 x1, hbk, Nat.le_refl 0, fun t ht => absurd ht List.not_mem_nil, rfl⟩ (fun j σ H' _ ⟨_, _, _, _, _, _, _, _, _, _, _, W, _⟩ => W.sq 0 rfl) ?_ ?_⟩
        · rintro j v σ H6 hj ⟨ds, y, bk, A, len, ots, os, x8, x9, xa, xb, W, hT, hTo, I, hbk, ol, hot, rfl⟩
          obtain ⟨a, p, rfl, hp, hpa⟩ := hT.at hj
          obtain ⟨⟨g1, g2, g3, g4, g5, g6⟩, g7⟩ := hq p (List.mem_of_getElem? hp)
          have jl := (List.getElem?_eq_some_iff.mp hp).1
          have ih := I.head hp
          have osl := hTo.len
          walk_at "hs"
          refine ⟨q, B, p.2.1, p.2.2, A * ways (q + 2) (qs.drop (j + 1)), y, by rw [← ih], by omega, I.two hp g3 g7, g4, g5, g6, Int.mul_nonneg I.A0 (ways_nonneg _ _), hB, by rw [← ih]; exact hbk, I.y0, by rw [← ih]; exact I.y1, fun H7 r d y' sh K7 hr0 hr D => ?_⟩
          have le := I.less hp g3 D
          obtain ⟨dle, I'⟩ := I.step hp g5 D
          have hT := hT.same K7
          have hTo := hTo.same K7
          replace W := W.same K7
          walk_at "hs"
          refine ⟨HS.mulW 200 150 (by omega) (by omega) (by omega) (by omega) (by decide) (by decide) (by decide), ?_⟩
          walk_at "hs"
          refine HS.itd (fun c => ?_) (fun c => ?_)
          · have hO7 := W.at 2 rfl
            walk_at "hs"
            rw [if_pos c] at I'
            intro z hz
            generalize hG_z : upd _ z _ = H8
            have Kn_z := HS.upgK hG_z hz
            replace W := W.newG hG_z hz
            clear hG_z hz
            try dsimp only [List.set, List.cons_append, List.nil_append] at W
            have hO8 := W.at 2 rfl
            have hz8 := W.at 3 rfl
            have zO := W.ne 3 2 rfl rfl
            have hT := hT.same Kn_z
            have hTo := hTo.same Kn_z
            walk_at "hs"
            exact ⟨_, _, _, _, _, _, _, _, _, _, _, (W.put 2 rfl rfl).take 3, HS.Tri.put hO8 hT, (HS.Tri.put hO8 hTo).app (qs := [(p.1, p.2.1, p.2.2 - (d : Int))]) ⟨⟨z, rfl, by rw [upd_ne zO]; exact hz8⟩, trivial⟩, I', by omega, by rw [List.length_append]; show _ + 1 ≤ _; omega, fun t ht => by
              rcases List.mem_append.mp ht with e | e
              · exact hot t e
              · rw [List.mem_singleton] at e
                subst e
                exact ⟨⟨g1, g2, g3, g4, by show 0 ≤ p.2.2 - (d : Int); omega, by show p.2.2 - (d : Int) < _; omega⟩, by show 0 < p.2.2 - (d : Int); omega⟩, rfl⟩
          · walk_at "hs"
            rw [if_neg c, List.append_nil] at I'
            exact ⟨_, _, _, _, _, _, _, _, _, _, _, W, hT, hTo, I', by omega, by omega, hot, rfl⟩
        · rintro σ H6 ⟨ds, y, bk, A, len, ots, os, x8, x9, xa, xb, W, hT, hTo, I, hbk, ol, hot, rfl⟩
          rw [hT.len] at I ol
          obtain ⟨eb, hw⟩ := I.fin
          have hL6 := W.at 1 rfl
          walk_at "hs"
          have e3 : i + q + 1 + 1 - (i + 1) = q + 1 := by omega
          have e4 : i + q + 1 - (i + 1) = q := by omega
          have W2 : HS.Wd H H6 (fun _ => False) [(O, Eq (.lst os)), (L, Eq (.lst (ls.map V.int)))] := by
            exact wd_swap (W.sub (.cons _ (.cons₂ _ (.cons₂ _ .slnil))))
          exact ⟨L, O, ls ++ [len], os, ots, y, _, _, _, _, _, _, _, _, by rw [List.map_append]; exact W2.put 1 rfl rfl, HS.Tri.put hL6 hTo, by omega, hot, by omega, by rw [List.length_append, lsl]; rfl, I.y0, by rw [e3, ← eb]; exact I.y1, by rw [e3, ← eb]; exact hbk, fun ls2 h => by
            rw [e4] at h
            rw [List.append_assoc]
            exact hk _ (hw q ls2 h len rfl rfl), by rw [e3, ← eb]; rfl⟩
      · rintro σ H4 ⟨L, P, ls, us, qs, x, x5, x6, x7, x8, x9, xa, xb, xc, W, hT, ql, hq, hin, lsl, x0, x1, hbk, hk, rfl⟩
        have e1 : n - n = 0 := Nat.sub_self n
        have e2 : n + 1 - n = 1 := by omega
        rw [e1] at hk
        rw [e2] at x1
        have hW := hk [] ⟨rfl, x0, x1⟩
        rw [List.append_nil] at hW
        walk_at "hs"
        exact k _ L ls W.kp ((W.fr _ (List.mem_of_getElem? (i := 1) rfl)).elim False.elim id) (W.at 1 rfl) hW
def sp_count_fitting (K : PySem.W.Frag) (A : Ad) : Sp := fun vs H Q E => ∃ (b : Addr) (zs : List V) (ps : List (Int × Int)) (c l : Int), vs = [.int c, .int l, .ref b] ∧ (SqL K H b zs ∧ HS.Prs H zs ps ∧ ps.length ≤ 8 ∧ (∀ p ∈ ps, -(2 ^ 98) < p.1 ∧ p.1 < 2 ^ 88 ∧ -(2 ^ 98) < p.2 ∧ p.2 < 2 ^ 98) ∧ c ≤ 11 ∧ l < 2 ^ 90 ∧
  (∀ k v, demX c l ps = some (k, v) → ∀ H' d, HS.Keep (fun _ => False) H H' → H d = none → H' d = some (.xd [("value", .int v)]) → E (.ref (clsOf A k)) (some d) H') ∧ (demX c l ps = none → ∀ H', HS.Keep (fun _ => False) H H' → Q (.int (fitting c.toNat l ps).length) H'))
theorem ok_count_fitting (T : Txt K mg A) : FnOk P w K mg base (L2.CX P w) 5 A.a_count_fitting A.d_count_fitting ["chapters", "lines", "chain"] (sp_count_fitting K A) := by
  have G_check_demands : FnOk P w K mg base (L2.CX P w) 4 A.a_check_demands A.d_check_demands ["chapters", "lines", "chain"] (sp_check_demands K A) := ok_check_demands T
  have G_multiply_ways : FnOk P w K mg base CX0 2 A.a_multiply_ways A.d_multiply_ways ["chapters", "places"] (sp_multiply_ways K) := ok_multiply_ways T
  have G_list_places : FnOk P w K mg base CX0 1 A.a_list_places A.d_list_places ["chapters", "lines", "chain"] (sp_list_places K) := ok_list_places T
  refine L2.Fun.okX T.F_count_fitting sc_count_fitting (fun vs H Q E h => ?_) (fun cdv A0 outer s H vs Q E hr h => ?_)
  · obtain ⟨b, zs, ps, c, l, rfl, hw⟩ := h
    rfl
  · obtain ⟨b, zs, ps, c, l, rfl, hw⟩ := h
    refine ⟨_, (pss_cons (ps_expr (pe_call G_check_demands hr (by rfl) T.g_check_demands T.F_check_demands.kp T.b_check_demands .nil (passes_call (takes_of rfl rfl rfl rfl) (fun _ _ _ _ h => h)) (pa_cons (pv 0) (pa_cons (pv 1) (pa_cons (pv 2) pa_nil)))))
    (pss_one (ps_ret (pe_call G_multiply_ways (hr.mono (by decide)) (by rfl) T.g_multiply_ways T.F_multiply_ways.kp T.b_multiply_ways .nil pass0 (pa_cons (pv 0) (pa_cons (pe_call G_list_places (hr.mono (by decide)) (by rfl) T.g_list_places T.F_list_places.kp T.b_list_places .nil pass0 (pa_cons (pv 0) (pa_cons (pv 1) (pa_cons (pv 2) pa_nil)))) pa_nil)))))), ?_⟩
    obtain ⟨hb, hP, hl, hBX, hc1, hl1, kE, kk⟩ := hw
    walk_at "hs"
    refine ⟨b, zs, ps, c, l, rfl, hb, hP, fun p h => by have := hBX p h; omega, kE, fun hd H1 K1 => ?_⟩
    obtain ⟨c0, l0, hc⟩ := demX_none hd
    obtain ⟨n, rfl⟩ := Int.eq_ofNat_of_zero_le c0
    have hn : n ≤ 11 := by omega
    have k := kk hd
    have hB : ∀ p ∈ ps, 1 ≤ p.1 ∧ p.1 < 2 ^ 88 ∧ -(2 ^ 98) < p.2 ∧ p.2 < 2 ^ 98 := fun p h => by have := hBX p h; have := chok_pos hc (Int.le_refl 0) p h; omega
    have plb := plc_bound n (by omega) (ps := ps) (size := 1) (rest := l - n) hB (by decide) (by omega) (by omega)
    have fl := fitting_len n l ps hc
    rw [Int.toNat_natCast] at k
    have hb1 := K1.sq hb id
    have hP1 := HS.Prs.same hP K1
    walk_at "hs"
    refine ⟨b, zs, ps, n, l, rfl, hb1, hP1, hc, by omega, fun p h => by have := hB p h; omega, by omega, by omega, fun H2 p us K2 hp0 hp hT => ?_⟩
    walk_at "hs"
    refine ⟨p, us, _, n, rfl, HS.sq hp, hT, by omega, by rw [plc_len]; omega, plb, ?_⟩
    rw [← fl]
    exact k _ (K1.trans K2)
def sp_contradiction (K : PySem.W.Frag) (A : Ad) : Sp := fun vs H Q E => ∃ (b : Addr) (zs : List V) (ps : List (Int × Int)) (c l : Int), vs = [.int c, .int l, .ref b] ∧ (SqL K H b zs ∧ HS.Prs H zs ps ∧ ps.length ≤ 8 ∧ (∀ p ∈ ps, -(2 ^ 98) < p.1 ∧ p.1 < 2 ^ 88 ∧ -(2 ^ 98) < p.2 ∧ p.2 < 2 ^ 98) ∧ c ≤ 11 ∧ l < 2 ^ 90 ∧
  (∀ k v, demX c l ps = some (k, v) → ∀ H' d, HS.Keep (fun _ => False) H H' → H d = none → H' d = some (.xd [("value", .int v)]) → E (.ref (clsOf A k)) (some d) H') ∧ (demX c l ps = none → ∀ v H', HS.Keep (fun _ => False) H H' → Q v H'))
theorem ok_contradiction (T : Txt K mg A) : FnOk P w K mg base (L2.CX P w) 5 A.a_contradiction A.d_contradiction ["chapters", "lines", "chain"] (sp_contradiction K A) := by
  have G_check_demands : FnOk P w K mg base (L2.CX P w) 4 A.a_check_demands A.d_check_demands ["chapters", "lines", "chain"] (sp_check_demands K A) := ok_check_demands T
  have G_has_book : FnOk P w K mg base CX0 1 A.a_has_book A.d_has_book ["chapters", "many"] (sp_has_book K) := ok_has_book T
  have G_list_places : FnOk P w K mg base CX0 1 A.a_list_places A.d_list_places ["chapters", "lines", "chain"] (sp_list_places K) := ok_list_places T
  refine L2.Fun.okX T.F_contradiction sc_contradiction (fun vs H Q E h => ?_) (fun cdv A0 outer s H vs Q E hr h => ?_)
  · obtain ⟨b, zs, ps, c, l, rfl, hw⟩ := h
    rfl
  · obtain ⟨b, zs, ps, c, l, rfl, hw⟩ := h
    refine ⟨_, (pss_cons (ps_expr (pe_call G_check_demands hr (by rfl) T.g_check_demands T.F_check_demands.kp T.b_check_demands .nil (passes_call (takes_of rfl rfl rfl rfl) (fun _ _ _ _ h => h)) (pa_cons (pv 0) (pa_cons (pv 1) (pa_cons (pv 2) pa_nil)))))
    (pss_cons (ps_if (pt_not (pt_val (pe_call G_has_book (hr.mono (by decide)) (by rfl) T.g_has_book T.F_has_book.kp T.b_has_book .nil pass0 (pa_cons (pv 0) (pa_cons (pv 1) pa_nil)))))
      (pss_one (ps_ret (pe_tup (pa_cons (pe_un un_neg pe_int) (pa_cons (pe_un un_neg pe_int) pa_nil)))))
      pss_nil)
    (pss_cons (ps_set (i := 3) sc_contradiction.nd rfl (.inl rfl) (pe_call G_list_places (hr.mono (by decide)) (by rfl) T.g_list_places T.F_list_places.kp T.b_list_places .nil pass0 (pa_cons (pv 0) (pa_cons (pv 1) (pa_cons (pv 2) pa_nil)))))
    (pss_cons (ps_for (passes_of rfl) rfl (HS.kien K (pi_enum (by rfl) T.z_enumerate (pa_cons (pv 2) pa_nil))) (HS.kgt K (pg_tup rfl (pgs_cons (pg_name (i := 4) sc_contradiction.nd rfl (.inl rfl)) (pgs_cons (HS.kgt K (pg_tup rfl (pgs_cons (pg_name (i := 5) sc_contradiction.nd rfl (.inl rfl)) (pgs_cons (pg_name (i := 6) sc_contradiction.nd rfl (.inl rfl)) pgs_nil)))) pgs_nil))))
      (pss_cons (ps_asg (pe_ix (HS.ixl K) (pv 3) (pv 4) (fun _ _ => rfl)) (HS.kgt K (pg_tup rfl (pgs_cons (pg_name (i := 5) sc_contradiction.nd rfl (.inl rfl)) (pgs_cons (pg_name (i := 7) sc_contradiction.nd rfl (.inl rfl)) (pgs_cons (pg_name (i := 8) sc_contradiction.nd rfl (.inl rfl)) pgs_nil))))))
    (pss_one (ps_if (PW.pt (pw_or (pt_not (pt_chain op_le op_le pe_int (pv 8) (pe_op op_mulW (pv 0) (pe_op op_sub (pv 7) pe_int)))) (pw_or1 (pt_not (pt_val (pe_call G_has_book (hr.mono (by decide)) (by rfl) T.g_has_book T.F_has_book.kp T.b_has_book .nil pass0 (pa_cons (pv 0) (pa_cons (pv 6) pa_nil))))))))
      (pss_one (ps_ret (pe_tup (pa_cons (pe_op op_sub (pv 4) pe_int) (pa_cons (pv 4) pa_nil)))))
      pss_nil))))
    (pss_one (ps_ret pe_non)))))), ?_⟩
    obtain ⟨hb, hP, hl, hBX, hc1, hl1, kE, kk⟩ := hw
    walk_at "hs"
    refine ⟨b, zs, ps, c, l, rfl, hb, hP, fun p h => by have := hBX p h; omega, kE, fun hd H1 K1 => ?_⟩
    obtain ⟨c0, l0, hc⟩ := demX_none hd
    obtain ⟨n, rfl⟩ := Int.eq_ofNat_of_zero_le c0
    have hn : n ≤ 50 := by omega
    have k := kk hd
    have kN : dueX n l ps = none → ∀ H', HS.Keep (fun _ => False) H H' → Q .non H' := fun _ H' K' => k _ H' K'
    have kS : ∀ i j, dueX n l ps = some (i, j) → ∀ H' p, HS.Keep (fun _ => False) H H' → H p = none → H' p = some (.tup [.int i, .int j]) → Q (.ref p) H' := fun _ _ _ H' p K' _ _ => k _ H' K'
    have hB0 : ∀ p ∈ ps, 1 ≤ p.1 ∧ p.1 < 2 ^ 88 ∧ -(2 ^ 98) < p.2 ∧ p.2 < 2 ^ 98 := fun p h => by have := hBX p h; have := chok_pos hc (Int.le_refl 0) p h; omega
    have hB : ∀ p ∈ ps, p.1 < 2 ^ 150 ∧ -(2 ^ 150) < p.2 ∧ p.2 < 2 ^ 150 := fun p h => by have := hB0 p h; omega
    have hb1 := K1.sq hb id
    have hP1 := HS.Prs.same hP K1
    walk_at "hs"
    refine ⟨n, l, rfl, ?_⟩
    walk_at "hs"
    refine HS.itn (fun h => ?_) (fun h => ?_)
    · walk_at "hs"
      intro r hr1
      exact kS (-1) (-1) (if_neg h) _ r (K1.trans (.new hr1)) (K1.free hr1 id) upd_same
    have eX : dueX n l ps = dueC n 1 (l - n) ps 0 := if_pos h
    rw [eX] at kN kS
    walk_at "hs"
    refine ⟨b, zs, ps, n, l, rfl, hb1, hP1, hc, by omega, hB, by omega, by omega, fun H2 P us K2 hP0 hPl hT => ?_⟩
    have hb2 := K2.sq hb1 id
    have hP2 := HS.Prs.same hP1 K2
    walk_at "hs"
    refine ⟨b, zs, rfl, hb2, for_it walk_enum (fun i σ H' => HS.Keep (fun _ => False) H2 H' ∧ ∃ (size rest : Int) (x4 x5 x6 x7 x8 : Option V), σ = [some (.int n), some (.int l), some (.ref b), some (.ref P), x4, x5, x6, x7, x8] ∧ (plc n 1 (l - n) ps).drop i = plc n size rest (ps.drop i) ∧ dueC n size rest (ps.drop i) i = dueC n 1 (l - n) ps 0 ∧ 1 ≤ size ∧ size < 2 ^ 150 ∧ (n = 0 → rest = 0) ∧ (size = 1 ∨ ChOk size (ps.drop i))) ⟨.refl, 1, l - n, _, _, _, _, _, rfl, rfl, rfl, by decide, by decide, by omega, .inl rfl⟩ (fun i σ H' _ ⟨K', _⟩ => K'.sq hb2 id) ?_ ?_⟩
    · rintro i x σ H3 H4 hi ⟨K3, size, rest, x4, x5, x6, x7, x8, rfl, hpl, hdu, s1, s2, hn0, hch⟩ ⟨T1, u, v, rfl, hT1, rfl, e1, e2⟩
      cases e1
      obtain ⟨q, p, rfl, hp, hq⟩ := HS.Prs.at hP2 e2
      have hil := (List.getElem?_eq_some_iff.mp hp).1
      have hpB := hB p (List.mem_of_getElem? hp)
      have hp0 := chok_pos hc (Int.le_refl 0) p (List.mem_of_getElem? hp)
      have ed : ps.drop i = p :: ps.drop (i + 1) := by rw [List.drop_eq_getElem_cons hil]; congr 1; rw [List.getElem?_eq_getElem hil] at hp; exact Option.some.inj hp
      rw [ed, plc] at hpl
      rw [ed, dueC] at hdu
      have KT : HS.Keep (fun _ => False) H3 (upd H3 T1 (.tup [.int (i : Nat), .ref q])) := .new hT1
      have K4 := K3.trans KT
      have hq2 := K4 _ _ hq id
      have hT2 := upd_same (H := H3) (a := T1) (o := .tup [.int (i : Nat), .ref q])
      generalize upd H3 T1 (.tup [.int (i : Nat), .ref q]) = H4 at KT hq2 hT2 K4 ⊢
      have hpi : (plc n 1 (l - n) ps)[i]? = some (size, p.1 / size, rest - p.1 / size * (p.2 - n)) := by
        have := congrArg (fun z => z[0]?) hpl
        have e : ((plc n 1 (l - n) ps).drop i)[0]? = (plc n 1 (l - n) ps)[i]? := by rw [List.getElem?_drop]; rfl
        rw [← e, hpl]; rfl
      have hui : ∃ t, us[i]? = some (.ref t) ∧ H2 t = some (.tup [.int size, .int (p.1 / size), .int (rest - p.1 / size * (p.2 - n))]) := by
        have ul := hT.len
        have lt : i < us.length := by rw [ul]; exact (List.getElem?_eq_some_iff.mp hpi).1
        obtain ⟨t, z, e1, e2', e3⟩ := hT.at (i := i) (List.getElem?_eq_getElem lt)
        rw [hpi] at e2'
        have ez := Option.some.inj e2'
        subst ez
        exact ⟨t, by rw [List.getElem?_eq_getElem lt, e1], e3⟩
      obtain ⟨t, hut, ht⟩ := hui
      have ht2 := K4 _ _ ht id
      have hPl2 := K4 _ _ hPl id
      have q0 : 0 ≤ p.1 / size := Int.ediv_nonneg (by omega) (by omega)
      have q1 : p.1 / size ≤ p.1 := Int.ediv_le_self _ (by omega)
      walk_at "hs"
      refine ⟨P, us, (i : Nat), .ref t, rfl, rfl, HS.sq hPl2, at_of (j := i) rfl hut, ?_⟩
      have qq1 : 1 ≤ p.1 / size := by
        have : size ≤ p.1 := by
          rcases hch with h | h
          · omega
          · rw [ed] at h; have := h.1; omega
        exact (Int.le_ediv_iff_mul_le (by omega)).mpr (by omega)
      have cdr := chok_drop hc hp
      generalize hqq : p.1 / size = q' at hpl hdu ht2 q0 q1 qq1 ⊢
      generalize htt : rest - q' * (p.2 - n) = tt at hpl hdu ht2 ⊢
      have bad : (p.2 - n < 0 ∨ ¬ (0 ≤ tt ∧ tt ≤ (n : Int) * (q' - 1))) → ∀ r H', HS.Keep (fun _ => False) H4 H' → H4 r = none → H' r = some (.tup [.int ((i : Int) - 1), .int (i : Nat)]) → Q (.ref r) H' := fun hbad r H' K' hr0 hr1 => by
        rw [if_pos hbad] at hdu
        exact kS _ _ hdu.symm _ r ((K1.trans K2).trans (K4.trans K')) (((K1.trans K2).trans K4).free hr0 id) hr1
      walk_at "hs"
      refine HS.itd (fun h1 => ?_) (fun h1 => ?_)
      · walk_at "hs"
        refine ⟨wide_mul (a := 6) (b := 151) (by omega) (by omega) (by decide) (by decide) (by decide), ?_⟩
        walk_at "hs"
        refine HS.itn (fun h2 => ?_) (fun h2 => ?_)
        · walk_at "hs"
          intro r hr1
          exact bad (.inr fun z => h2 z.2) r _ (.new hr1) hr1 upd_same
        · walk_at "hs"
          refine ⟨n, p.2, rfl, ?_⟩
          walk_at "hs"
          have nb := no_book (n := n) (more := p.2 - n) qq1 hn0 (by omega)
          refine HS.itn (fun h3 => ?_) (fun h3 => ?_)
          · walk_at "hs"
            intro r hr1
            exact bad (.inl (nb.mp h3)) r _ (.new hr1) hr1 upd_same
          · have more0 : ¬ (p.2 - n < 0) := fun z => nb.mpr z h3
            rw [if_neg (by omega)] at hdu
            have hpl' : (plc n 1 (l - n) ps).drop (i + 1) = plc n p.1 (p.2 - n) (ps.drop (i + 1)) := by
              have := congrArg (fun z => z.drop 1) hpl
              have e : ((plc n 1 (l - n) ps).drop i).drop 1 = (plc n 1 (l - n) ps).drop (i + 1) := by rw [List.drop_drop]
              rw [← e, hpl]; rfl
            walk_at "hs"
            exact ⟨K4, p.1, p.2 - n, _, _, _, _, _, rfl, hpl', by push_cast; exact hdu, by omega, hpB.1, fun z => by rcases h3 with h | h <;> omega, .inr cdr⟩
      · walk_at "hs"
        intro r hr1
        exact bad (.inr fun z => h1 z.1) r _ (.new hr1) hr1 upd_same
    · rintro σ H3 ⟨K3, size, rest, x4, x5, x6, x7, x8, rfl, hpl, hdu, _⟩
      rw [hP.len, List.drop_length, dueC] at hdu
      walk_at "hs"
      exact kN hdu.symm _ ((K1.trans K2).trans K3)
def sp_nth_fitting (K : PySem.W.Frag) (A : Ad) : Sp := fun vs H Q E => ∃ (b : Addr) (zs : List V) (ps : List (Int × Int)) (c l x : Int), vs = [.int c, .int l, .ref b, .int x] ∧ (SqL K H b zs ∧ HS.Prs H zs ps ∧ ps.length ≤ 8 ∧ (∀ p ∈ ps, -(2 ^ 98) < p.1 ∧ p.1 < 2 ^ 88 ∧ -(2 ^ 98) < p.2 ∧ p.2 < 2 ^ 98) ∧ c ≤ 11 ∧ l < 2 ^ 90 ∧
  (∀ k v, demX c l ps = some (k, v) → ∀ H' d, HS.Keep (fun _ => False) H H' → H d = none → H' d = some (.xd [("value", .int v)]) → E (.ref (clsOf A k)) (some d) H') ∧ (demX c l ps = none → ¬ (0 ≤ x ∧ x < (fitting c.toNat l ps).length) → ∀ H' d, HS.Keep (fun _ => False) H H' → H d = none → H' d = some (.xd [("value", .int x)]) → E (.ref A.c_InvalidNumber) (some d) H') ∧
  (demX c l ps = none → 0 ≤ x ∧ x < (fitting c.toNat l ps).length → ∀ v H', HS.Keep (fun _ => False) H H' → Q v H'))
theorem ok_nth_fitting (T : Txt K mg A) : FnOk P w K mg base (L2.CX P w) 5 A.a_nth_fitting A.d_nth_fitting ["chapters", "lines", "chain", "number"] (sp_nth_fitting K A) := by
  have G_check_demands : FnOk P w K mg base (L2.CX P w) 4 A.a_check_demands A.d_check_demands ["chapters", "lines", "chain"] (sp_check_demands K A) := ok_check_demands T
  have G_list_places : FnOk P w K mg base CX0 1 A.a_list_places A.d_list_places ["chapters", "lines", "chain"] (sp_list_places K) := ok_list_places T
  have G_multiply_ways : FnOk P w K mg base CX0 2 A.a_multiply_ways A.d_multiply_ways ["chapters", "places"] (sp_multiply_ways K) := ok_multiply_ways T
  have G_InvalidNumber___init__ : FnOk P w K mg base CX0 1 A.a_InvalidNumber___init__ A.d_InvalidNumber___init__ ["self", "value"] (sp_InvalidNumber___init__ K) := ok_InvalidNumber___init__ T
  have G_list_lengths : FnOk P w K mg base CX0 3 A.a_list_lengths A.d_list_lengths ["chapters", "places", "number", "books"] (sp_list_lengths K) := ok_list_lengths T
  refine L2.Fun.okX T.F_nth_fitting sc_nth_fitting (fun vs H Q E h => ?_) (fun cdv A0 outer s H vs Q E hr h => ?_)
  · obtain ⟨b, zs, ps, c, l, x, rfl, hw⟩ := h
    rfl
  · obtain ⟨b, zs, ps, c, l, x, rfl, hw⟩ := h
    refine ⟨_, (pss_cons (ps_expr (pe_call G_check_demands hr (by rfl) T.g_check_demands T.F_check_demands.kp T.b_check_demands .nil (passes_call (takes_of rfl rfl rfl rfl) (fun _ _ _ _ h => h)) (pa_cons (pv 0) (pa_cons (pv 1) (pa_cons (pv 2) pa_nil)))))
    (pss_cons (ps_set (i := 4) sc_nth_fitting.nd rfl (.inl rfl) (pe_call G_list_places (hr.mono (by decide)) (by rfl) T.g_list_places T.F_list_places.kp T.b_list_places .nil pass0 (pa_cons (pv 0) (pa_cons (pv 1) (pa_cons (pv 2) pa_nil)))))
    (pss_cons (ps_set (i := 5) sc_nth_fitting.nd rfl (.inl rfl) (pe_call G_multiply_ways (hr.mono (by decide)) (by rfl) T.g_multiply_ways T.F_multiply_ways.kp T.b_multiply_ways .nil pass0 (pa_cons (pv 0) (pa_cons (pv 4) pa_nil))))
    (pss_cons (ps_if (PW.pt (pw_or (pt_cmpR op_lt (pv 3) pe_int (nomark _)) (pw_or1 (pt_cmpR op_ge (pv 3) (pv 5) (nomark _)))))
      (pss_one (ps_raise rfl (takes_of rfl rfl rfl rfl) (pmk_oex T.C_InvalidNumber T.i_InvalidNumber T.t_InvalidNumber G_InvalidNumber___init__ (hr.mono (by decide)) T.b_InvalidNumber___init__ .nil pass0 (by rfl) T.m_InvalidNumber (pa_cons (pv 3) pa_nil))))
      pss_nil)
    (pss_cons (ps_if (pt_cmpR op_eq (pv 0) pe_int (nomark _))
      (pss_one (ps_ret (pe_lst pa_nil)))
      pss_nil)
    (pss_cons (ps_set (i := 6) sc_nth_fitting.nd rfl (.inl rfl) (pe_call G_list_lengths (hr.mono (by decide)) (by rfl) T.g_list_lengths T.F_list_lengths.kp T.b_list_lengths .nil pass0 (pa_cons (pv 0) (pa_cons (pv 4) (pa_cons (pv 3) (pa_cons (pv 5) pa_nil))))))
    (pss_cons (ps_expr (HS.kbm K (pe_bm PySem.F.plainAttrs_list PySem.F.slot_list_append PySem.F.type_list_append mt_append (pv 6) (pa_cons (pe_op op_sub (pv 1) (pe_callB (HS.ksum K rfl) (by rfl) T.z_sum (by decide +kernel) (pa_cons (pv 6) pa_nil))) pa_nil))))
    (pss_one (ps_ret (pv 6)))))))))), ?_⟩
    obtain ⟨hb, hP, hl, hBX, hc1, hl1, kD, kX, kk⟩ := hw
    have W := HS.Wd.nil (H := H) (S := fun _ => False)
    walk_at "hs"
    refine ⟨b, zs, ps, c, l, rfl, hb, hP, fun p h => by have := hBX p h; omega, kD, fun hd H1 K1 => ?_⟩
    obtain ⟨c0, l0, hc⟩ := demX_none hd
    obtain ⟨n, rfl⟩ := Int.eq_ofNat_of_zero_le c0
    have hn : n ≤ 11 := by omega
    have kE := kX hd
    have kq := kk hd
    rw [Int.toNat_natCast] at kE kq
    have k : ∀ s, 0 ≤ x → (fitting n l ps)[x.toNat]? = some s → ∀ H' p, HS.Keep (fun _ => False) H H' → H p = none → H' p = some (.lst (s.map V.int)) → Q (.ref p) H' := fun s x0 hs H' p K' _ _ => kq ⟨x0, by have := (List.getElem?_eq_some_iff.mp hs).1; omega⟩ _ H' K'
    have hB : ∀ p ∈ ps, 1 ≤ p.1 ∧ p.1 < 2 ^ 88 ∧ -(2 ^ 98) < p.2 ∧ p.2 < 2 ^ 98 := fun p h => by have := hBX p h; have := chok_pos hc (Int.le_refl 0) p h; omega
    have plb := plc_bound n (by omega) (ps := ps) (size := 1) (rest := l - n) hB (by decide) (by omega) (by omega)
    have fl := fitting_len n l ps hc
    replace W := W.same K1
    walk_at "hs"
    refine ⟨b, zs, ps, n, l, rfl, W.kp.sq hb id, hP.same W.kp, hc, by omega, fun p h => by have := hB p h; omega, by omega, by omega, fun H2 p us K2 hp0 hp hT => ?_⟩
    replace W := W.made K2 hp0 hp (P := Eq _) rfl
    walk_at "hs"
    refine ⟨p, us, _, n, rfl, W.sq 0 rfl, hT, by omega, by rw [plc_len]; omega, plb, ?_⟩
    walk_at "hs"
    refine HS.itd (fun h1 => ?_) (fun h1 => ?_)
    · walk_at "hs"
      exact HS.mk1 (fun H' Q' E' b h1 h2 h3 h4 => ⟨b, _, _, rfl, h1, h2, h3, h4⟩) T.C_InvalidNumber T.n_InvalidNumber fun H' d k' hd' e => kE (by omega) H' d (W.kp.trans k') (W.kp.free hd' id) e
    walk_at "hs"
    refine HS.itd (fun h2 => ?_) (fun h2 => ?_)
    · walk_at "hs"
      exact HS.mk1 (fun H' Q' E' b h1 h2 h3 h4 => ⟨b, _, _, rfl, h1, h2, h3, h4⟩) T.C_InvalidNumber T.n_InvalidNumber fun H' d k' hd' e => kE (by omega) H' d (W.kp.trans k') (W.kp.free hd' id) e
    have x0 : 0 ≤ x := by omega
    have hx : x.toNat < (fitting n l ps).length := by omega
    have hs := List.getElem?_eq_getElem hx
    generalize (fitting n l ps)[x.toNat] = s at hs
    have k := k s x0 hs
    walk_at "hs"
    refine HS.itd (fun h3 => ?_) (fun h3 => ?_)
    · have n0 : n = 0 := by omega
      subst n0
      have sl := (fitting_mem (List.mem_of_getElem? hs)).1
      have s0 : s = [] := List.eq_nil_of_length_eq_zero sl
      subst s0
      walk_at "hs"
      intro q hq
      exact k _ q (W.kp.trans (.new hq)) (W.kp.free hq id) upd_same
    obtain ⟨n', rfl⟩ : ∃ n', n = n' + 1 := ⟨n - 1, by omega⟩
    have wpos : 0 < ways (n' + 1) (plc ((n' + 1 : Nat) : Int) 1 (l - (n' + 1 : Nat)) ps) := by omega
    have each := ways_each wpos
    have good := plc_good ((n' + 1 : Nat) : Int) ps 1 (l - (n' + 1 : Nat)) (Int.le_refl 1) (by decide) (beh_of hc) (fun p h => by have := hB p h; omega)
    have t0 : ∀ t ∈ plc ((n' + 1 : Nat) : Int) 1 (l - (n' + 1 : Nat)) ps, 0 ≤ t.2.2 := fun t ht => lstN_pos0 (each t ht)
    have room := ways_room (n := n' + 1) (by omega) fun t ht => (plb t ht).1
    have pl := plc_len ((n' + 1 : Nat) : Int) ps 1 (l - (n' + 1 : Nat))
    walk_at "hs"
    refine ⟨p, us, plc ((n' + 1 : Nat) : Int) 1 (l - (n' + 1 : Nat)) ps, n', _, x, rfl, by omega, W.sq 0 rfl, hT, by omega, fun t ht => ⟨(good t ht).1, (good t ht).2.1, (good t ht).2.2 (t0 t ht), (plb t ht).1, t0 t ht, (plb t ht).2.2⟩, by rw [pl]; omega, room, x0, by omega, fun H3 q ls K3 hq0 hq hW => ?_⟩
    replace W := W.made K3 hq0 hq (P := Eq _) rfl
    have wl := walk_len hW
    have wb := walk_book n' l (lastR ((n' + 1 : Nat) : Int) (l - (n' + 1 : Nat)) ps + 1) x ps ls hc (by omega) (by rw [plcM_self]; exact t0) x0 (by omega) (by rw [plcM_self]; exact hW)
    rw [hs] at wb
    cases wb
    walk_at "hs"
    have hq1 := K1.free (K2.free hq0 id) id
    exact k _ q (W.kp.put hq1) hq1 (by rw [List.map_append]; exact upd_same)
def sp_same_counts (K : PySem.W.Frag) (A : Ad) : Sp := fun vs H Q E => ∃ (b c : Addr) (xs ys : List Int), vs = [.ref b, .ref c] ∧ (SqL K H b (xs.map V.int) ∧ SqL K H c (ys.map V.int) ∧ (∀ i, dueB xs ys = some i → ∀ H' d, HS.Keep (fun _ => False) H H' → H d = none → H' d = some (.xd [("value", .int (i : Nat))]) → E (.ref A.c_InvalidBook) (some d) H') ∧ (dueB xs ys = none → ∀ v H', HS.Keep (fun _ => False) H H' → Q v H'))
theorem ok_same_counts (T : Txt K mg A) : FnOk P w K mg base (L2.CX P w) 4 A.a_same_counts A.d_same_counts ["first", "second"] (sp_same_counts K A) := by
  have G_check_book : FnOk P w K mg base (L2.CX P w) 3 A.a_check_book A.d_check_book ["book"] (sp_check_book K A) := ok_check_book T
  refine L2.Fun.okX T.F_same_counts sc_same_counts (fun vs H Q E h => ?_) (fun cdv A0 outer s H vs Q E hr h => ?_)
  · obtain ⟨b, c, xs, ys, rfl, hw⟩ := h
    rfl
  · obtain ⟨b, c, xs, ys, rfl, hw⟩ := h
    refine ⟨_, (pss_cons (ps_expr (pe_call G_check_book hr (by rfl) T.g_check_book T.F_check_book.kp T.b_check_book .nil (passes_call (takes_of rfl rfl rfl rfl) (fun _ _ _ _ h => h)) (pa_cons (pv 0) pa_nil)))
    (pss_cons (ps_expr (pe_call G_check_book hr (by rfl) T.g_check_book T.F_check_book.kp T.b_check_book .nil (passes_call (takes_of rfl rfl rfl rfl) (fun _ _ _ _ h => h)) (pa_cons (pv 1) pa_nil)))
    (pss_one (ps_ret (pe_cmpR (HS.keq K (hu64 hr)) (pe_callB (HS.ksort K) (by rfl) T.z_sorted (by decide +kernel) (pa_cons (pv 0) pa_nil)) (pe_callB (HS.ksort K) (by rfl) T.z_sorted (by decide +kernel) (pa_cons (pv 1) pa_nil)) (nomark _)))))), ?_⟩
    obtain ⟨hb, hc, kE, k⟩ := hw
    unfold dueB at kE k
    walk_at "hs"
    refine ⟨b, xs, rfl, hb, fun i hi => ?_, fun h1 H1 K1 => ?_⟩
    · rw [hi] at kE
      exact kE i rfl
    rw [h1] at kE k
    walk_at "hs"
    refine ⟨c, ys, rfl, K1.sq hc id, fun i hi H' d K' hd e => kE i hi H' d (K1.trans K') (K1.free hd id) e, fun h2 H2 K2 => ?_⟩
    walk_at "hs"
    refine ⟨b, xs, rfl, K2.sq (K1.sq hb id) id, fun H3 p K3 _ hp => ?_⟩
    walk_at "hs"
    refine ⟨c, ys, rfl, K3.sq (K2.sq (K1.sq hc id) id) id, fun H4 q K4 _ hq => ?_⟩
    refine HS.eqL (HS.sq (K4 _ _ hp id)) (HS.sq hq) ?_
    exact k h2 _ _ (K1.trans (K2.trans (K3.trans K4)))
def sp_parting_size (K : PySem.W.Frag) (A : Ad) : Sp := fun vs H Q E => ∃ (b c : Addr) (xs ys : List Int), vs = [.ref b, .ref c] ∧ (SqL K H b (xs.map V.int) ∧ SqL K H c (ys.map V.int) ∧ (∀ i, dueB xs ys = some i → ∀ H' d, HS.Keep (fun _ => False) H H' → H d = none → H' d = some (.xd [("value", .int (i : Nat))]) → E (.ref A.c_InvalidBook) (some d) H') ∧ (dueB xs ys = none → ∀ v H', HS.Keep (fun _ => False) H H' → Q v H'))
theorem ok_parting_size (T : Txt K mg A) : FnOk P w K mg base (L2.CX P w) 4 A.a_parting_size A.d_parting_size ["first", "second"] (sp_parting_size K A) := by
  have G_check_book : FnOk P w K mg base (L2.CX P w) 3 A.a_check_book A.d_check_book ["book"] (sp_check_book K A) := ok_check_book T
  refine L2.Fun.okX T.F_parting_size sc_parting_size (fun vs H Q E h => ?_) (fun cdv A0 outer s H vs Q E hr h => ?_)
  · obtain ⟨b, c, xs, ys, rfl, hw⟩ := h
    rfl
  · obtain ⟨b, c, xs, ys, rfl, hw⟩ := h
    refine ⟨_, (pss_cons (ps_expr (pe_call G_check_book hr (by rfl) T.g_check_book T.F_check_book.kp T.b_check_book .nil (passes_call (takes_of rfl rfl rfl rfl) (fun _ _ _ _ h => h)) (pa_cons (pv 0) pa_nil)))
    (pss_cons (ps_expr (pe_call G_check_book hr (by rfl) T.g_check_book T.F_check_book.kp T.b_check_book .nil (passes_call (takes_of rfl rfl rfl rfl) (fun _ _ _ _ h => h)) (pa_cons (pv 1) pa_nil)))
    (pss_cons (ps_if (pt_cmpR op_ne (pe_callB (HS.klen K) (by rfl) T.z_len PySem.boot_len (pa_cons (pv 0) pa_nil)) (pe_callB (HS.klen K) (by rfl) T.z_len PySem.boot_len (pa_cons (pv 1) pa_nil)) (nomark _))
      (pss_one (ps_ret pe_non))
      pss_nil)
    (pss_cons (ps_for (passes_of rfl) rfl (HS.kiz K (pi_zip (by rfl) T.z_zip (pa_cons (pe_callBK (HS.ksortR K) (by rfl) T.z_sorted (by decide +kernel) (pa_cons (pv 0) pa_nil) (pk_cons pe_bl pk_nil)) (pa_cons (pe_callBK (HS.ksortR K) (by rfl) T.z_sorted (by decide +kernel) (pa_cons (pv 1) pa_nil) (pk_cons pe_bl pk_nil)) pa_nil)))) (HS.kgt K (pg_tup rfl (pgs_cons (pg_name (i := 2) sc_parting_size.nd rfl (.inl rfl)) (pgs_cons (pg_name (i := 3) sc_parting_size.nd rfl (.inl rfl)) pgs_nil))))
      (pss_one (ps_if (pt_cmpR op_ne (pv 2) (pv 3) (nomark _))
      (pss_one (ps_ret (pe_op op_sub (pe_callB (call_max2 rfl) (by rfl) T.z_max (by decide +kernel) (pa_cons (pv 2) (pa_cons (pv 3) pa_nil))) pe_int)))
      pss_nil)))
    (pss_one (ps_ret pe_non)))))), ?_⟩
    obtain ⟨hb, hc, kE, k⟩ := hw
    unfold dueB at kE k
    walk_at "hs"
    refine ⟨b, xs, rfl, hb, fun i hi => ?_, fun h1 H1 K1 => ?_⟩
    · rw [hi] at kE
      exact kE i rfl
    rw [h1] at kE k
    walk_at "hs"
    refine ⟨c, ys, rfl, K1.sq hc id, fun i hi H' d K' hd e => kE i hi H' d (K1.trans K') (K1.free hd id) e, fun h2 H2 K2 => ?_⟩
    have k := k h2
    have hb2 := K2.sq (K1.sq hb id) id
    have hc2 := K2.sq (K1.sq hc id) id
    walk_at "hs"
    rw [List.length_map, List.length_map]
    refine HS.itn (fun hne => ?_) (fun he => ?_)
    · walk_at "hs"
      exact k _ _ (K1.trans K2)
    · have hl : xs.length = ys.length := by omega
      walk_at "hs"
      refine ⟨b, xs, rfl, rfl, hb2, fun H3 p K3 _ hp => ?_⟩
      walk_at "hs"
      refine ⟨c, ys, rfl, rfl, K3.sq hc2 id, fun H4 q K4 _ hq => ?_⟩
      have hp := K4 _ _ hp id
      refine ⟨p, q, _, _, rfl, HS.sq hp, HS.sq hq, for_it (walk_zip rfl) (fun i σ H' => HS.Keep (fun _ => False) H4 H' ∧ ∃ x2 x3, σ = [some (.ref b), some (.ref c), x2, x3]) ⟨.refl, _, _, rfl⟩ (fun i σ H' _ ⟨K', _⟩ => ⟨HS.sq (K' _ _ hp id), HS.sq (K' _ _ hq id)⟩) ?_ ?_⟩
      · rintro i x σ H5 H6 hi ⟨K5, x2, x3, rfl⟩ ⟨T1, u, v, rfl, hT, rfl, e1, e2⟩
        obtain ⟨z, rfl, hz, _⟩ := HS.get_int e1
        obtain ⟨y, rfl, hy', _⟩ := HS.get_int e2
        walk_at "hs"
        refine HS.itn (fun hne => ?_) (fun heq => ?_)
        · walk_at "hs"
          exact k _ _ (K1.trans (K2.trans (K3.trans (K4.trans (K5.nw hT)))))
        · walk_at "hs"
          exact ⟨K5.nw hT, _, _, rfl⟩
      · rintro σ H5 ⟨K5, x2, x3, rfl⟩
        walk_at "hs"
        exact k _ _ (K1.trans (K2.trans (K3.trans (K4.trans K5))))
def sp_count_pages (K : PySem.W.Frag) : Sp := fun vs H Q _ => ∃ (b : Addr) (ls : List Int) (j : Int), vs = [.ref b, .int j] ∧ (SqL K H b (ls.map V.int) ∧ ls.length ≤ 50000 ∧ 1 ≤ j ∧ j < 2 ^ 200 ∧ ∀ H', HS.Keep (fun _ => False) H H' → Q (.int (pcount ls j)) H')
theorem ok_count_pages (T : Txt K mg A) : FnOk P w K mg base CX0 2 A.a_count_pages A.d_count_pages ["book", "size"] (sp_count_pages K) := by
  refine T.F_count_pages.ok sc_count_pages (fun vs H Q E h => ?_) (fun cdv A0 outer s H vs Q E hr h => ?_)
  · obtain ⟨b, ls, j, rfl, hw⟩ := h
    rfl
  · obtain ⟨b, ls, j, rfl, hw⟩ := h
    refine ⟨_, (pss_one (ps_ret (pe_op op_add (pe_callB (HS.klen K) (by rfl) T.z_len PySem.boot_len (pa_cons (pv 0) pa_nil)) (pe_callB (HS.ksum K rfl) (by rfl) T.z_sum (by decide +kernel) (pa_cons (pe_lc (own := [("length", 2)]) (g := gName 2) (tt := tYes) rfl sc_count_pages.nd (HS.kil K (pi_list (pv 0))) (blkOk_by (own := [("length", 2)]) (N := N_count_pages) (sc := defScope s_count_pages) (by decide +kernel)) (fun _ _ _ _ _ => pg_name (i := 2) sc_count_pages.nd rfl (by first | exact .inl rfl | exact .inr rfl)) (fun _ _ _ _ _ => pts_nil) (fun _ _ _ _ _ => (pe_op op_fdivW (pe_op op_sub (pv 2) pe_int) (pv 1)))) pa_nil))))), ?_⟩
    obtain ⟨hb, hl, h1, h2, k⟩ := hw
    walk_at "hs"
    rw [List.length_map]
    refine ⟨⟨_, hb⟩, fun D hD => lc_list (xs := ls.map V.int) (fun i H' => HS.Keep (fun _ => False) H H' ∧ H' D = some (.lst (((ls.take i).map fun x => (x - 1) / j).map V.int))) ⟨.new hD, upd_same⟩ (fun i H' _ ⟨K', _⟩ => K'.sq hb id) ?_ ?_⟩
    · rintro i x H1 hi ⟨K1, h3⟩
      obtain ⟨z, rfl, hz, hil⟩ := HS.get_int hi
      walk_at "hs"
      refine ⟨HS.divW 200 (by omega) h2 (by decide) (by decide), ?_⟩
      refine ⟨_, h3, HS.sz (by simp; omega), K1.put hD, ?_⟩
      rw [upd_same, List.take_add_one, hz, List.map_append, List.map_append]
      rfl
    · rintro H1 ⟨K1, h3⟩
      rw [List.length_map, List.take_length] at h3
      walk_at "hs"
      rw [pcount_less1 h1]
      exact k _ K1
def sp_lengths_of (K : PySem.W.Frag) (A : Ad) : Sp := fun vs H Q E => ∃ (t : Addr) (rows : List Int), vs = [.ref t] ∧ (SqL K H t (rows.map V.int) ∧ rows.length ≤ 1000 ∧ (∀ c, rows.getLast? = some c → c ≤ 1000) ∧
  (∀ w, readAll rows = .inl w → ∀ H' d, HS.Keep (fun _ => False) H H' → H d = none → H' d = some (.xd [("value", .int w)]) → E (.ref A.c_InvalidTable) (some d) H') ∧
  (∀ ls, readAll rows = .inr ls → ∀ H' p, HS.Keep (fun _ => False) H H' → H p = none → H' p = some (.lst (ls.map V.int)) → Q (.ref p) H'))
theorem ok_lengths_of (T : Txt K mg A) : FnOk P w K mg base (L2.CX P w) 3 A.a_lengths_of A.d_lengths_of ["table"] (sp_lengths_of K A) := by
  have G_InvalidTable___init__ : FnOk P w K mg base CX0 1 A.a_InvalidTable___init__ A.d_InvalidTable___init__ ["self", "value"] (sp_InvalidTable___init__ K) := ok_InvalidTable___init__ T
  have G_count_pages : FnOk P w K mg base CX0 2 A.a_count_pages A.d_count_pages ["book", "size"] (sp_count_pages K) := ok_count_pages T
  refine L2.Fun.okX T.F_lengths_of sc_lengths_of (fun vs H Q E h => ?_) (fun cdv A0 outer s H vs Q E hr h => ?_)
  · obtain ⟨t, rows, rfl, hw⟩ := h
    rfl
  · obtain ⟨t, rows, rfl, hw⟩ := h
    refine ⟨_, (pss_cons (ps_if (pt_not (pt_truth (pv 0) (by intro _; rfl)))
      (pss_one (ps_ret (pe_lst pa_nil)))
      pss_nil)
    (pss_cons (ps_set (i := 1) sc_lengths_of.nd rfl (.inl rfl) (pe_ix (HS.ixl K) (pv 0) (pe_un un_neg pe_int) (fun _ _ => rfl)))
    (pss_cons (ps_if (pt_cmpR op_lt (pv 1) pe_int (nomark _))
      (pss_one (ps_raise rfl (takes_of rfl rfl rfl rfl) (pmk_oex T.C_InvalidTable T.i_InvalidTable T.t_InvalidTable G_InvalidTable___init__ hr T.b_InvalidTable___init__ .nil pass0 (by rfl) T.m_InvalidTable (pa_cons (pe_callB (HS.klen K) (by rfl) T.z_len PySem.boot_len (pa_cons (pv 0) pa_nil)) pa_nil))))
      pss_nil)
    (pss_cons (ps_set (i := 2) sc_lengths_of.nd rfl (.inl rfl) (pe_lst pa_nil))
    (pss_cons (ps_for (passes_of rfl) rfl (pi_range3 (by rfl) T.z_range (pa_cons (pe_op op_sub (pe_callB (HS.klen K) (by rfl) T.z_len PySem.boot_len (pa_cons (pv 0) pa_nil)) pe_int) (pa_cons pe_int (pa_cons (pe_un un_neg pe_int) pa_nil)))) (pg_name (i := 3) sc_lengths_of.nd rfl (.inl rfl))
      (pss_cons (ps_set (i := 4) sc_lengths_of.nd rfl (.inl rfl) (pe_op op_sub (pv 1) (pe_callB (HS.klen K) (by rfl) T.z_len PySem.boot_len (pa_cons (pv 2) pa_nil))))
    (pss_cons (ps_set (i := 5) sc_lengths_of.nd rfl (.inl rfl) (pe_op op_sub (pe_op op_sub (pe_ix (HS.ixl K) (pv 0) (pe_op op_sub (pv 3) pe_int) (fun _ _ => rfl)) (pe_call G_count_pages hr (by rfl) T.g_count_pages T.F_count_pages.kp T.b_count_pages .nil pass0 (pa_cons (pv 2) (pa_cons (pv 3) pa_nil)))) (pv 4)))
    (pss_cons (ps_if (PW.pt (pw_or (pt_cmpR op_lt (pv 5) pe_int (nomark _)) (pw_or1 (pt_cmpR op_gt (pv 5) (pv 4) (nomark _)))))
      (pss_one (ps_raise rfl (takes_of rfl rfl rfl rfl) (pmk_oex T.C_InvalidTable T.i_InvalidTable T.t_InvalidTable G_InvalidTable___init__ hr T.b_InvalidTable___init__ .nil pass0 (by rfl) T.m_InvalidTable (pa_cons (pv 3) pa_nil))))
      pss_nil)
    (pss_one (ps_expr (HS.kbm K (pe_bm PySem.F.plainAttrs_list PySem.F.slot_list_extend PySem.F.type_list_extend mt_extend (pv 2) (pa_cons (pe_op op_rep (pe_lst (pa_cons (pe_op op_add (pv 3) pe_int) pa_nil)) (pv 5)) pa_nil)))))))))
    (pss_cons (ps_expr (HS.kbm K (pe_bm PySem.F.plainAttrs_list PySem.F.slot_list_extend PySem.F.type_list_extend mt_extend (pv 2) (pa_cons (pe_op op_rep (pe_lst (pa_cons pe_int pa_nil)) (pe_op op_sub (pv 1) (pe_callB (HS.klen K) (by rfl) T.z_len PySem.boot_len (pa_cons (pv 2) pa_nil)))) pa_nil))))
    (pss_one (ps_ret (pv 2))))))))), ?_⟩
    obtain ⟨ht, hs, hc, kE, kQ⟩ := hw
    walk_at "hs"
    cases hl : rows.getLast? with
    | none =>
      have e0 : rows = [] := List.getLast?_eq_none_iff.mp hl
      subst e0
      refine ⟨_, .inl ⟨_, ht, rfl⟩, ?_⟩
      refine HS.ifT (by rfl) ?_
      walk_at "hs"
      intro p hp
      exact kQ [] rfl _ p (.new hp) hp upd_same
    | some c =>
      obtain ⟨r0, er⟩ := List.getLast?_eq_some_iff.mp hl
      have hn : rows.length = r0.length + 1 := by rw [er, List.length_append]; rfl
      have hc1 := hc c hl
      refine ⟨_, .inl ⟨_, ht, rfl⟩, ?_⟩
      refine HS.ifF (by rw [er]; simp) ?_
      walk_at "hs"
      refine ⟨t, _, -1, _, rfl, rfl, ht, HS.at_last (ys := r0.map V.int) (by rw [er, List.map_append]; rfl), ?_⟩
      walk_at "hs"
      have eA : readAll rows = if c < 0 then .inl rows.length else readT rows c (rows.length - 1) [] := by unfold readAll; rw [hl]
      refine HS.itd (fun hc0 => ?_) (fun hc0 => ?_)
      · walk_at "hs"
        rw [List.length_map]
        exact HS.mk1 (fun H' Q' E' b h1 h2 h3 h4 => ⟨b, _, _, rfl, h1, h2, h3, h4⟩) T.C_InvalidTable T.n_InvalidTable fun H' d k hd e => kE _ (by rw [eA, if_pos hc0]) H' d k hd e
      rw [if_neg hc0] at eA
      walk_at "hs"
      intro D hD
      have ht2 := HS.Keep.sq (S := fun _ => False) (HS.Keep.new (o := .lst []) hD) ht id
      walk_at "hs"
      rw [List.length_map, hn]
      refine ⟨_, _, _, _, rfl, RgC.neg (by omega) (by omega) (by omega) (by omega), ?_⟩
      rw [show (((r0.length + 1 : Nat) : Int) - 1 - 0).toNat = r0.length by omega]
      refine for_rangeC (fun i σ H' => HS.Keep (fun _ => False) H H' ∧ i ≤ r0.length ∧ ∃ ls : List Int, H' D = some (.lst (ls.map V.int)) ∧ (ls.length : Int) ≤ c ∧ readT rows c (r0.length - i) ls = readAll rows ∧ ∃ x3 x4 x5, σ = [some (.ref t), some (.int c), some (.ref D), x3, x4, x5]) ?_ ?_ ?_
      · exact ⟨.new hD, Nat.zero_le _, [], upd_same, by simp; omega, by rw [eA, hn]; rfl, _, _, _, rfl⟩
      · rintro i σ H1 hi ⟨K1, _, ls, hl1, hlc, hR, x3, x4, x5, rfl⟩
        obtain ⟨s, es⟩ : ∃ s, r0.length - i = s + 1 := ⟨r0.length - i - 1, by omega⟩
        have hsz : ((r0.length + 1 : Nat) : Int) - 1 + (i : Nat) * -1 = (s : Int) + 1 := by push_cast; omega
        obtain ⟨z, hz⟩ : ∃ z, rows[s]? = some z := ⟨_, List.getElem?_eq_getElem (by omega)⟩
        have hg : rows.getD s 0 = z := by rw [List.getD_eq_getElem?_getD, hz]; rfl
        rw [es, readT, hg] at hR
        rw [hsz]
        walk_at "hs"
        refine HS.ixZ (K1.sq ht id) (by omega) (by rw [show ((s : Int) + 1 - 1).toNat = s by omega]; exact hz) ?_
        walk_at "hs"
        refine ⟨D, _, _, rfl, HS.sq hl1, by omega, by omega, by omega, fun H2 K2 => ?_⟩
        have hl2 := K2 _ _ hl1 id
        walk_at "hs"
        rw [List.length_map]
        generalize hf : z - pcount ls ((s : Int) + 1) - (c - ls.length) = f at hR ⊢
        have KK := K1.trans K2
        refine HS.itd (fun h0 => ?_) (fun h0 => ?_)
        · walk_at "hs"
          exact HS.mk1 (fun H' Q' E' b h1 h2 h3 h4 => ⟨b, _, _, rfl, h1, h2, h3, h4⟩) T.C_InvalidTable T.n_InvalidTable fun H' d k hd e => kE _ (by rw [← hR, if_pos (.inl h0)]) H' d (KK.trans k) (KK.free hd id) e
        walk_at "hs"
        refine HS.itd (fun h1 => ?_) (fun h1 => ?_)
        · walk_at "hs"
          exact HS.mk1 (fun H' Q' E' b h1 h2 h3 h4 => ⟨b, _, _, rfl, h1, h2, h3, h4⟩) T.C_InvalidTable T.n_InvalidTable fun H' d k hd e => kE _ (by rw [← hR, if_pos (.inr h1)]) H' d (KK.trans k) (KK.free hd id) e
        rw [if_neg (by omega)] at hR
        walk_at "hs"
        intro p hp
        walk_at "hs"
        refine HS.rep1 upd_same (by omega) (by omega) fun q hq => ?_
        have hne1 := ne_of_none hl2 hp
        have hne2 : D ≠ q := ne_of_none (show upd H2 p _ D = _ by rw [upd_ne hne1]; exact hl2) hq
        walk_at "hs"
        refine ⟨((KK.put (KK.free hp id)).put (HS.Keep.free (KK.put (KK.free hp id)) hq id)).put hD, by omega, ls ++ List.replicate f.toNat ((s : Int) + 2), ?_, ?_, ?_, _, _, _, rfl⟩
        · rw [upd_same, List.map_append, List.map_replicate, show (s : Int) + 1 + 1 = s + 2 by omega]
        · rw [List.length_append, List.length_replicate]; omega
        · rw [show r0.length - (i + 1) = s by omega]; exact hR
      · rintro σ H1 ⟨K1, _, ls, hl1, hlc, hR, x3, x4, x5, rfl⟩
        rw [Nat.sub_self, readT] at hR
        walk_at "hs"
        intro p hp
        walk_at "hs"
        rw [List.length_map]
        refine HS.rep1 upd_same (by omega) (by omega) fun q hq => ?_
        have hne1 := ne_of_none hl1 hp
        have hne2 : D ≠ q := ne_of_none (show upd H1 p _ D = _ by rw [upd_ne hne1]; exact hl1) hq
        walk_at "hs"
        refine kQ _ hR.symm _ D ((((K1.put (K1.free hp id)).put (HS.Keep.free (K1.put (K1.free hp id)) hq id)).put hD)) hD ?_
        rw [upd_same, List.map_append, List.map_replicate]
def sp_count_books (K : PySem.W.Frag) (A : Ad) : Sp := fun vs H Q E => ∃ (t : Addr) (rows : List Int), vs = [.ref t] ∧ (SqL K H t (rows.map V.int) ∧ rows.length ≤ 300 ∧ (∀ c, rows.getLast? = some c → c ≤ 120) ∧
  (∀ w, readAll rows = .inl w → ∀ H' d, HS.Keep (fun _ => False) H H' → H d = none → H' d = some (.xd [("value", .int w)]) → E (.ref A.c_InvalidTable) (some d) H') ∧
  (∀ ls, readAll rows = .inr ls → ∀ v H', HS.Keep (fun _ => False) H H' → Q v H'))
theorem ok_count_books (T : Txt K mg A) : FnOk P w K mg base (L2.CX P w) 4 A.a_count_books A.d_count_books ["table"] (sp_count_books K A) := by
  have G_lengths_of : FnOk P w K mg base (L2.CX P w) 3 A.a_lengths_of A.d_lengths_of ["table"] (sp_lengths_of K A) := ok_lengths_of T
  refine L2.Fun.okX T.F_count_books sc_count_books (fun vs H Q E h => ?_) (fun cdv A0 outer s H vs Q E hr h => ?_)
  · obtain ⟨t, rows, rfl, hw⟩ := h
    rfl
  · obtain ⟨t, rows, rfl, hw⟩ := h
    refine ⟨_, (pss_cons (ps_set (i := 1) sc_count_books.nd rfl (.inl rfl) (pe_call G_lengths_of hr (by rfl) T.g_lengths_of T.F_lengths_of.kp T.b_lengths_of .nil (passes_call (takes_of rfl rfl rfl rfl) (fun _ _ _ _ h => h)) (pa_cons (pv 0) pa_nil)))
    (pss_cons (ps_set (i := 2) sc_count_books.nd rfl (.inl rfl) (pe_callBfun HS.cr_factorial (by rfl) T.y_factorial (pa_cons (pe_callB (HS.klen K) (by rfl) T.z_len PySem.boot_len (pa_cons (pv 1) pa_nil)) pa_nil)))
    (pss_cons (ps_for (passes_of rfl) rfl (HS.kil K (pi_list (pe_callB (HS.ksortS w rfl) (by rfl) T.z_sorted (by decide +kernel) (pa_cons (pe_callTy (HS.kset K w rfl) (by rfl) T.z_set (by decide +kernel) (pa_cons (pv 1) pa_nil)) pa_nil)))) (pg_name (i := 3) sc_count_books.nd rfl (.inl rfl))
      (pss_one (ps_set (i := 2) sc_count_books.nd rfl (.inl rfl) (pe_op op_fdivW (pv 2) (pe_callBfun HS.cr_factorial (by rfl) T.y_factorial (pa_cons (HS.kbm K (pe_bm PySem.F.plainAttrs_list PySem.F.slot_list_count PySem.F.type_list_count (HS.kcnt K) (pv 1) (pa_cons (pv 3) pa_nil))) pa_nil))))))
    (pss_one (ps_ret (pv 2)))))), ?_⟩
    obtain ⟨ht, hs, hc, kE, kQ⟩ := hw
    walk_at "hs"
    refine ⟨t, rows, rfl, ht, by omega, fun c h => by have := hc c h; omega, kE, fun ls hR H1 D K1 hD0 hD => ?_⟩
    have ll : ls.length ≤ 120 := read_len hs hc hR
    have k := kQ ls hR
    walk_at "hs"
    rw [List.length_map]
    refine ⟨ls.length, rfl, by omega, ?_⟩
    walk_at "hs"
    refine ⟨D, _, rfl, HS.sq hD, by omega, ?_⟩
    intro p hp
    generalize hG_p : upd _ p _ = H2
    have at_p := HS.upgs hG_p
    have Kn_p := HS.upgK hG_p hp
    clear hG_p
    have hD := Kn_p _ _ hD id
    walk_at "hs"
    refine ⟨p, _, rfl, at_p, fun H3 q K3 _ hq => ?_⟩
    have hD := K3 _ _ hD id
    walk_at "hs"
    have bd : ∀ n, n ≤ 120 → ((fct n : Nat) : Int) < 2 ^ 880 := fun n h => by
      have h1 := fct_le n (by omega)
      have h2 : (2 : Nat) ^ (7 * n) ≤ 2 ^ 840 := Nat.pow_le_pow_right (by decide) (by omega)
      have h3 : fct n < 2 ^ 880 := Nat.lt_of_le_of_lt (Nat.le_trans h1 h2) (Nat.pow_lt_pow_right (by decide) (by omega))
      have : ((fct n : Nat) : Int) < ((2 ^ 880 : Nat) : Int) := Int.ofNat_lt.mpr h3
      simpa using this
    refine ⟨⟨_, HS.sq hq⟩, for_list (xs := (HS.dst ls).map V.int) (fun i σ H' => HS.Keep (fun _ => False) H3 H' ∧ ∃ x3, σ = [some (.ref t), some (.ref D), some (.int (((HS.dst ls).take i).foldl (fun x v => x / fct (ls.count v)) (fct ls.length) : Nat)), x3]) ⟨.refl, _, rfl⟩ (fun i σ H' _ ⟨K', _⟩ => HS.sq (K' _ _ hq id)) ?_ ?_⟩
    · rintro i x σ H4 hi ⟨K4, x3, rfl⟩
      obtain ⟨z, rfl, hz, hil⟩ := HS.get_int hi
      have hD := K4 _ _ hD id
      walk_at "hs"
      refine HS.lcn (HS.sq hD) ?_
      have cl : ls.count z ≤ 120 := Nat.le_trans List.count_le_length (ll)
      refine ⟨_, rfl, cl, ?_⟩
      walk_at "hs"
      refine ⟨HS.divW 880 (by have := fct_pos (ls.count z); omega) (bd _ cl) (by decide) (by decide), ?_⟩
      walk_at "hs"
      refine ⟨K4, some (.int z), ?_⟩
      rw [List.take_add_one, hz, List.foldl_append]
      rfl
    · rintro σ H4 ⟨K4, x3, rfl⟩
      walk_at "hs"
      exact k _ _ (K1.trans (Kn_p.trans (K3.trans K4)))
def sp__law_moebius (K : PySem.W.Frag) : Sp := fun vs H Q _ => ∃ (n : Nat), vs = [.int n] ∧ (1 ≤ n ∧ n ≤ 400 ∧ Q (.int (mu n)) H)
theorem ok__law_moebius (T : Txt K mg A) : FnOk P w K mg base CX0 1 A.a__law_moebius A.d__law_moebius ["number"] (sp__law_moebius K) := by
  refine T.F__law_moebius.ok sc__law_moebius (fun vs H Q E h => ?_) (fun cdv A0 outer s H vs Q E hr h => ?_)
  · obtain ⟨n, rfl, hw⟩ := h
    rfl
  · obtain ⟨n, rfl, hw⟩ := h
    refine ⟨_, (pss_cons (ps_set (i := 1) sc__law_moebius.nd rfl (.inl rfl) pe_int)
    (pss_cons (ps_for PassesOwn.never rfl (pi_range2 (by rfl) T.z_range (pa_cons pe_int (pa_cons (pe_op op_add (pv 0) pe_int) pa_nil))) (pg_name (i := 2) sc__law_moebius.nd rfl (.inl rfl))
      (pss_one (ps_if (pt_cmpR op_eq (pe_op op_mod (pv 0) (pv 2)) pe_int (nomark _))
      (pss_cons (ps_set (i := 0) sc__law_moebius.nd rfl (.inl rfl) (pe_op op_fdivW (pv 0) (pv 2)))
    (pss_cons (ps_if (pt_cmpR op_eq (pe_op op_mod (pv 0) (pv 2)) pe_int (nomark _))
      (pss_one (ps_ret pe_int))
      pss_nil)
    (pss_one (ps_set (i := 1) sc__law_moebius.nd rfl (.inl rfl) (pe_op op_sub pe_int (pv 1))))))
      pss_nil)))
    (pss_one (ps_ret (pv 1))))), ?_⟩
    obtain ⟨h1, h2, k⟩ := hw
    walk_at "hs"
    refine ⟨⟨by decide, by decide, by omega, by omega⟩, ?_⟩
    rw [show ((n : Int) + 1 - 2).toNat = n - 1 by omega]
    refine for_range (lo := 2) (n := n - 1) (fun i σ H' => H' = H ∧ i ≤ n - 1 ∧ ∃ (q : Nat) (f : Int) (x2 : Option V), 1 ≤ q ∧ muGo (List.range' (2 + i) (n - 1 - i)) q f = mu n ∧ σ = [some (.int q), some (.int f), x2]) ?_ ?_ ?_
    · exact ⟨rfl, Nat.zero_le _, n, 1, _, h1, rfl, rfl⟩
    · rintro i σ H1 hi ⟨rfl, _, q, f, x2, hq, hm, rfl⟩
      rw [show n - 1 - i = (n - 1 - (i + 1)) + 1 by omega, List.range'_succ, muGo, show 2 + i + 1 = 2 + (i + 1) by omega] at hm
      have cm : ∀ q : Nat, ((q : Int) % (2 + (i : Nat)) = 0) ↔ q % (2 + i) = 0 := fun q => by
        rw [show (2 : Int) + (i : Nat) = ((2 + i : Nat) : Int) by push_cast; rfl]
        exact ⟨fun z => by exact_mod_cast z, fun z => by exact_mod_cast z⟩
      have cd : (q : Int) / (2 + (i : Nat)) = ((q / (2 + i) : Nat) : Int) := by push_cast; rfl
      walk_at "hs"
      refine HS.itd (fun z => ?_) (fun z => ?_)
      · rw [if_pos ((cm q).mp z)] at hm
        have q1 : 1 ≤ q / (2 + i) := by
          have := Nat.div_mul_cancel (Nat.dvd_of_mod_eq_zero ((cm q).mp z))
          rcases Nat.eq_zero_or_pos (q / (2 + i)) with e | e
          · rw [e] at this; omega
          · exact e
        walk_at "hs"
        refine ⟨HS.divW 62 (by omega) (by omega) (by decide) (by decide), ?_⟩
        rw [cd]
        walk_at "hs"
        refine HS.itd (fun y => ?_) (fun y => ?_)
        · rw [if_pos ((cm _).mp y)] at hm
          walk_at "hs"
          rw [hm]
          exact k
        · rw [if_neg fun y' => y ((cm _).mpr y')] at hm
          walk_at "hs"
          exact ⟨rfl, by omega, _, _, _, q1, hm, rfl⟩
      · rw [if_neg fun y => z ((cm q).mpr y)] at hm
        walk_at "hs"
        exact ⟨rfl, by omega, _, _, _, hq, hm, rfl⟩
    · rintro σ H1 ⟨rfl, _, q, f, x2, hq, hm, rfl⟩
      rw [Nat.sub_self, show List.range' (2 + (n - 1)) 0 = [] from rfl, muGo] at hm
      subst hm
      walk_at "hs"
      exact k
def sp__law_wrong (K : PySem.W.Frag) : Sp := fun vs H Q _ => ∃ (t : Addr) (rows : List Int), vs = [.ref t] ∧ (SqL K H t (rows.map V.int) ∧ 1 ≤ rows.length ∧ rows.length ≤ 300 ∧ (∀ x ∈ rows, -(2 ^ 120) < x ∧ x < 2 ^ 120) ∧ ∀ H' v, HS.Keep (fun _ => False) H H' → (wrongT rows = none → v = .non) → (∀ w, wrongT rows = some w → v = .int w) → Q v H')
theorem ok__law_wrong (T : Txt K mg A) : FnOk P w K mg base CX0 2 A.a__law_wrong A.d__law_wrong ["rows"] (sp__law_wrong K) := by
  have G__law_moebius : FnOk P w K mg base CX0 1 A.a__law_moebius A.d__law_moebius ["number"] (sp__law_moebius K) := ok__law_moebius T
  refine T.F__law_wrong.ok sc__law_wrong (fun vs H Q E h => ?_) (fun cdv A0 outer s H vs Q E hr h => ?_)
  · obtain ⟨t, rows, rfl, hw⟩ := h
    rfl
  · obtain ⟨t, rows, rfl, hw⟩ := h
    refine ⟨_, (pss_cons (ps_set (i := 1) sc__law_wrong.nd rfl (.inl rfl) (pe_callB (HS.klen K) (by rfl) T.z_len PySem.boot_len (pa_cons (pv 0) pa_nil)))
    (pss_cons (ps_if (PW.pt (pw_and (pt_cmpR (HS.kne K (hu64 hr)) (pv 0) (pe_lst pa_nil) (nomark _)) (pw_and1 (pt_cmpR op_lt (pe_ix (HS.ixl K) (pv 0) (pe_un un_neg pe_int) (fun _ _ => rfl)) pe_int (nomark _)))))
      (pss_one (ps_ret (pv 1)))
      pss_nil)
    (pss_cons (ps_par (i := 2) (j := 3) rfl sc__law_wrong.nd rfl rfl (by decide) rfl rfl (pa_cons (pe_lc (own := [("number", 7)]) (g := gName 7) (tt := tYes) rfl sc__law_wrong.nd (pi_range2 (by rfl) T.z_range (pa_cons pe_int (pa_cons (pe_op op_add (pv 1) pe_int) pa_nil))) (blkOk_by (own := [("number", 7)]) (N := N__law_wrong) (sc := defScope s__law_wrong) (by decide +kernel)) (fun _ _ _ _ _ => pg_name (i := 7) sc__law_wrong.nd rfl (by first | exact .inl rfl | exact .inr rfl)) (fun _ _ _ _ _ => pts_nil) (fun _ _ _ _ _ => (pe_call G__law_moebius hr (by rfl) T.g__law_moebius T.F__law_moebius.kp T.b__law_moebius .nil pass0 (pa_cons (pv 7) pa_nil)))) (pa_cons pe_int pa_nil)) (by rfl))
    (pss_cons (ps_for PassesOwn.never rfl (pi_range3 (by rfl) T.z_range (pa_cons (pe_op op_sub (pv 1) pe_int) (pa_cons pe_int (pa_cons (pe_un un_neg pe_int) pa_nil)))) (pg_name (i := 4) sc__law_wrong.nd rfl (.inl rfl))
      (pss_cons (ps_set (i := 5) sc__law_wrong.nd rfl (.inl rfl) pe_int)
    (pss_cons (ps_for PassesOwn.never rfl (pi_range2 (by rfl) T.z_range (pa_cons pe_int (pa_cons (pe_op op_add (pe_op op_fdivW (pv 1) (pv 4)) pe_int) pa_nil))) (pg_name (i := 6) sc__law_wrong.nd rfl (.inl rfl))
      (pss_one (ps_set (i := 5) sc__law_wrong.nd rfl (.inl rfl) (pe_op op_add (pv 5) (pe_op op_mulW (pe_ix (HS.ixl K) (pv 2) (pe_op op_sub (pv 6) pe_int) (fun _ _ => rfl)) (pe_op op_sub (pe_ix (HS.ixl K) (pv 0) (pe_op op_sub (pe_op op_mulW (pv 6) (pv 4)) pe_int) (fun _ _ => rfl)) (pe_ix (HS.ixl K) (pv 0) (pe_un un_neg pe_int) (fun _ _ => rfl))))))))
    (pss_cons (ps_if (pt_not (pt_chain op_le op_le (pv 3) (pv 5) (pe_ix (HS.ixl K) (pv 0) (pe_un un_neg pe_int) (fun _ _ => rfl))))
      (pss_one (ps_ret (pv 4)))
      pss_nil)
    (pss_one (ps_set (i := 3) sc__law_wrong.nd rfl (.inl rfl) (pv 5)))))))
    (pss_one (ps_ret pe_non)))))), ?_⟩
    obtain ⟨ht, hl1, hl, hB, k⟩ := hw
    walk_at "hs"
    intro p hp
    refine HS.neL (ys := []) (HS.Keep.sq (S := fun _ => False) (HS.Keep.new hp) ht id) (HS.sq upd_same) ?_
    have K0 : HS.Keep (fun _ => False) H (upd H p (.lst [])) := HS.Keep.new hp
    generalize upd H p (.lst []) = H0 at K0 ⊢
    refine ⟨_, rfl, ?_⟩
    cases hg : rows.getLast? with
    | none =>
      have e0 : rows = [] := List.getLast?_eq_none_iff.mp hg
      rw [e0] at hl1
      exact absurd hl1 (by decide)
    | some c =>
      obtain ⟨r0, er⟩ := List.getLast?_eq_some_iff.mp hg
      have hn : rows.length = r0.length + 1 := by rw [er, List.length_append]; rfl
      have eA : wrongT rows = if c < 0 then some (rows.length : Int) else wrongGo rows c (rows.length - 1) 0 := by unfold wrongT; rw [hg]
      have atl : atI (rows.map V.int) (-1) = some (.int c) := HS.at_last (ys := r0.map V.int) (by rw [er, List.map_append]; rfl)
      have hcB := hB c (by rw [er]; simp)
      rw [List.length_map]
      refine HS.ifT (by rw [er]; simp) ?_
      walk_at "hs"
      refine ⟨t, _, -1, _, rfl, rfl, K0.sq ht id, atl, ?_⟩
      walk_at "hs"
      refine HS.itd (fun hc0 => ?_) (fun hc0 => ?_)
      · walk_at "hs"
        rw [if_pos hc0] at eA
        exact k _ _ K0 (fun z => by rw [eA] at z; cases z) (fun w z => by rw [eA] at z; injection z with z; rw [z])
      rw [if_neg hc0, hn, Nat.add_sub_cancel] at eA
      walk_at "hs"
      refine ⟨by omega, fun S hS => lc_range (lo := 1) (n := ((rows.length : Int) + 1 - 1).toNat) (fun i H' => HS.Keep (fun _ => False) H H' ∧ H' S = some (.lst (((List.range i).map fun i => mu (i + 1)).map V.int))) ⟨K0.nw hS, upd_same⟩ ?_ ?_⟩
      · rintro i H1 hi ⟨K1, h3⟩
        walk_at "hs"
        refine ⟨1 + i, by push_cast; rfl, by omega, by omega, ?_⟩
        refine ⟨_, h3, HS.sz (by simp; omega), K1.put (K0.free hS id), ?_⟩
        rw [upd_same, List.range_succ, List.map_append, List.map_append, Nat.add_comm 1]
        rfl
      · rintro H1 ⟨K1, h3⟩
        rw [show ((rows.length : Int) + 1 - 1).toNat = rows.length by omega] at h3
        walk_at "hs"
        refine ⟨_, _, _, _, rfl, RgC.neg (by omega) (by omega) (by omega) (by omega), ?_⟩
        rw [show ((rows.length : Int) - 1 - 0).toNat = r0.length by omega]
        refine for_rangeC (fun i σ H' => H' = H1 ∧ i ≤ r0.length ∧ ∃ (late : Int) (x4 x5 x6 x7 : Option V), wrongGo rows c (r0.length - i) late = wrongT rows ∧ σ = [some (.ref t), some (.int rows.length), some (.ref S), some (.int late), x4, x5, x6, x7]) ?_ ?_ ?_
        · exact ⟨rfl, Nat.zero_le _, 0, _, _, _, _, eA.symm, rfl⟩
        · rintro i σ H2 hi ⟨rfl, _, late, x4, x5, x6, x7, hR, rfl⟩
          obtain ⟨s, es⟩ : ∃ s, r0.length - i = s + 1 := ⟨r0.length - i - 1, by omega⟩
          have hsz : (rows.length : Int) - 1 + (i : Nat) * -1 = (s : Int) + 1 := by omega
          rw [es, wrongGo] at hR
          rw [hsz]
          have hdv : (rows.length : Int) / ((s : Int) + 1) = ((rows.length / (s + 1) : Nat) : Int) := by push_cast; rfl
          have hdl : rows.length / (s + 1) ≤ 300 := Nat.le_trans (Nat.div_le_self _ _) hl
          walk_at "hs"
          refine ⟨HS.divW 62 (by omega) (by omega) (by decide) (by decide), ?_⟩
          rw [hdv]
          generalize hq : rows.length / (s + 1) = q at hdl ⊢
          walk_at "hs"
          refine ⟨⟨by decide, by decide, by omega, by omega⟩, ?_⟩
          rw [show ((q : Int) + 1 - 1).toNat = q by omega]
          refine for_range (lo := 1) (n := q) (fun j σ H' => H' = H2 ∧ ∃ (x6 : Option V), σ = [some (.ref t), some (.int rows.length), some (.ref S), some (.int late), some (.int ((s : Int) + 1)), some (.int (sg j fun k => mu k * (rows.getD (k * (s + 1) - 1) 0 - c))), x6, x7]) ?_ ?_ ?_
          · exact ⟨rfl, _, rfl⟩
          · rintro j σ H3 hj ⟨rfl, x6, rfl⟩
            have hle : (j + 1) * (s + 1) ≤ rows.length := by have := Nat.div_mul_le_self rows.length (s + 1); rw [hq] at this; exact Nat.le_trans (Nat.mul_le_mul_right _ hj) this
            have hpos : 1 ≤ (j + 1) * (s + 1) := Nat.mul_pos (by omega) (by omega)
            obtain ⟨z, hz⟩ : ∃ z, rows[(j + 1) * (s + 1) - 1]? = some z := ⟨_, List.getElem?_eq_getElem (by omega)⟩
            have hzB := hB z (List.mem_of_getElem? hz)
            have hgz : rows.getD ((j + 1) * (s + 1) - 1) 0 = z := by rw [List.getD_eq_getElem?_getD, hz]; rfl
            have hjr : j < rows.length := Nat.le_trans (Nat.le_mul_of_pos_right (j + 1) (by omega)) hle
            have em : (1 + (j : Int)) * ((s : Int) + 1) = (((j + 1) * (s + 1) : Nat) : Int) := by push_cast; rw [Int.add_comm 1 (j : Int)]
            walk_at "hs"
            refine HS.ixZ (HS.sq h3) (by omega) (by rw [show (1 + (j : Int) - 1).toNat = j by omega, List.getElem?_map, List.getElem?_range hjr]; rfl) ?_
            walk_at "hs"
            refine ⟨HS.mulW 62 62 (by omega) (by omega) (by omega) (by omega) (by decide) (by decide) (by decide), ?_⟩
            rw [em]
            walk_at "hs"
            refine HS.ixZ (K1.sq ht id) (by omega) (by rw [show ((((j + 1) * (s + 1) : Nat) : Int) - 1).toNat = (j + 1) * (s + 1) - 1 by omega]; exact hz) ?_
            walk_at "hs"
            refine ⟨t, _, -1, _, rfl, rfl, K1.sq ht id, atl, ?_⟩
            walk_at "hs"
            have ma := mu_abs (j + 1)
            refine ⟨wide_mul (a := 2) (b := 130) (show (mu (j + 1)).natAbs < 2 ^ 2 by omega) (by omega) (by decide) (by decide) (by decide), ?_⟩
            walk_at "hs"
            refine ⟨rfl, some (.int (1 + (j : Nat))), ?_⟩
            rw [sg, hgz]
            rfl
          · rintro σ H3 ⟨rfl, x6, rfl⟩
            have eh : (sg q fun k => mu k * (rows.getD (k * (s + 1) - 1) 0 - c)) = hereW rows c (s + 1) := by unfold hereW; rw [hq]
            rw [eh]
            generalize hereW rows c (s + 1) = W at hR ⊢
            walk_at "hs"
            refine HS.itd (fun y => ?_) (fun y => ?_)
            · walk_at "hs"
              refine ⟨t, _, -1, _, rfl, rfl, K1.sq ht id, atl, ?_⟩
              walk_at "hs"
              refine HS.itn (fun y2 => ?_) (fun y2 => ?_)
              · walk_at "hs"
                rw [if_neg fun z => y2 z.2] at hR
                exact k _ _ K1 (fun z => by rw [← hR] at z; cases z) (fun w z => by rw [← hR] at z; injection z with z; rw [z])
              · walk_at "hs"
                rw [if_pos ⟨y, y2⟩] at hR
                exact ⟨rfl, by omega, W, _, _, _, _, by rw [show r0.length - (i + 1) = s by omega]; exact hR, rfl⟩
            · walk_at "hs"
              rw [if_neg fun z => y z.1] at hR
              exact k _ _ K1 (fun z => by rw [← hR] at z; cases z) (fun w z => by rw [← hR] at z; injection z with z; rw [z])
        · rintro σ H2 ⟨rfl, _, late, x4, x5, x6, x7, hR, rfl⟩
          rw [Nat.sub_self, wrongGo] at hR
          walk_at "hs"
          exact k _ _ K1 (fun _ => rfl) (fun w z => by rw [← hR] at z; cases z)
def sp__law_sizes (K : PySem.W.Frag) : Sp := fun vs H Q _ => ∃ (s : Addr) (m q : Int) (n : Nat), vs = [.ref s, .int m, .int q] ∧ (Rng H s n ∧ 0 ≤ m ∧ m ≤ 20 ∧ 2 ≤ q ∧ q ≤ 20 ∧ n < 2 ^ 32 ∧ ∀ H' p (ls : List Int), HS.Keep (fun a => a = s) H H' → H p = none → p ≠ s → H' p = some (.lst (ls.map V.int)) → (ls.length : Int) ≤ m → Up 0 ls → (∀ x ∈ ls, 1 ≤ x ∧ x < 2 ^ 88 - 100) → Rng H' s (n + 30) → Q (.ref p) H')
theorem ok__law_sizes (T : Txt K mg A) : FnOk P w K mg base CX0 2 A.a__law_sizes A.d__law_sizes ["rng", "many", "most"] (sp__law_sizes K) := by
  have G__law_draw : FnOk P w K mg base CX0 1 A.a__law_draw A.d__law_draw ["rng", "limit"] (sp__law_draw K) := ok__law_draw T
  refine T.F__law_sizes.ok sc__law_sizes (fun vs H Q E h => ?_) (fun cdv A0 outer s H vs Q E hr h => ?_)
  · obtain ⟨s, m, q, n, rfl, hw⟩ := h
    rfl
  · obtain ⟨s, m, q, n, rfl, hw⟩ := h
    refine ⟨_, (pss_cons (ps_par (i := 3) (j := 4) rfl sc__law_sizes.nd rfl rfl (by decide) rfl rfl (pa_cons (pe_lst pa_nil) (pa_cons (pe_op op_add pe_int (pe_op op_mulW (pe_call G__law_draw hr (by rfl) T.g__law_draw T.F__law_draw.kp T.b__law_draw .nil pass0 (pa_cons (pv 0) (pa_cons (pv 2) pa_nil))) (pe_call G__law_draw hr (by rfl) T.g__law_draw T.F__law_draw.kp T.b__law_draw .nil pass0 (pa_cons (pv 0) (pa_cons pe_int pa_nil))))) pa_nil)) (by rfl))
    (pss_cons (ps_for PassesOwn.never rfl (pi_range1 (by rfl) T.z_range (pa_cons (pe_call G__law_draw hr (by rfl) T.g__law_draw T.F__law_draw.kp T.b__law_draw .nil pass0 (pa_cons (pv 0) (pa_cons (pe_op op_add (pv 1) pe_int) pa_nil))) pa_nil)) (pg_name (i := 5) sc__law_sizes.nd rfl (.inl rfl))
      (pss_cons (ps_expr (HS.kbm K (pe_bm PySem.F.plainAttrs_list PySem.F.slot_list_append PySem.F.type_list_append mt_append (pv 3) (pa_cons (pv 4) pa_nil))))
    (pss_one (ps_set (i := 4) sc__law_sizes.nd rfl (.inl rfl) (pe_op op_mulW (pv 4) (pe_op op_add pe_int (pe_call G__law_draw hr (by rfl) T.g__law_draw T.F__law_draw.kp T.b__law_draw .nil pass0 (pa_cons (pv 0) (pa_cons (pe_op op_sub (pv 2) pe_int) pa_nil)))))))))
    (pss_one (ps_ret (pv 3))))), ?_⟩
    obtain ⟨S0, m0, m1, q0, q1, hn, k⟩ := hw
    walk_at "hs"
    intro F hF
    have hFs := S0.ne hF
    walk_at "hs"
    refine ⟨s, q, n, rfl, S0.new hF, by omega, by omega, by omega, fun H1 d K1 S1 d0 d1 => ?_⟩
    walk_at "hs"
    refine ⟨s, 2, _, rfl, S1, by decide, by decide, by omega, fun H2 e K2 S2 e0 e1 => ?_⟩
    walk_at "hs"
    refine ⟨HS.mulW 62 62 d0 (by omega) e0 (by omega) (by decide) (by decide) (by decide), ?_⟩
    walk_at "hs"
    have de : 0 ≤ d * e ∧ d * e ≤ 19 := by
      have : e = 0 ∨ e = 1 := by omega
      rcases this with z | z
      · subst z; simp
      · subst z; rw [Int.mul_one]; omega
    have hF2 := K2 _ _ (K1 _ _ (upd_same (H := H) (a := F)) (by walk_at "ns")) (by walk_at "ns")
    have K02 : HS.Keep (fun a => a = s) H H2 := (HS.Keep.new hF).trans (K1.trans K2)
    refine ⟨s, m + 1, _, rfl, S2, by omega, by omega, by omega, fun H3 c K3 S3 c0 c1 => ?_⟩
    walk_at "hs"
    refine ⟨by omega, by omega, for_range (n := c.toNat) (fun i σ H' => HS.Keep (fun a => a = s) H H' ∧ Rng H' s (n + 3 + i) ∧ ∃ (ls : List Int) (wide : Int) (x5 : Option V), σ = [some (.ref s), some (.int m), some (.int q), some (.ref F), some (.int wide), x5] ∧ H' F = some (.lst (ls.map V.int)) ∧ ls.length = i ∧ Up 0 ls ∧ (∀ x, ((0 : Int) :: ls).getLast? = some x → x < wide ∧ (0 < x → wide % x = 0)) ∧ (∀ x ∈ ls, 1 ≤ x ∧ x < 2 ^ 88 - 100) ∧ 1 ≤ wide ∧ wide ≤ 21 ^ (i + 1)) ⟨K02.trans K3, S3, [], 1 + d * e, _, rfl, K3 _ _ hF2 (by walk_at "ns"), rfl, trivial, fun x hx => by have hx' : (0 : Int) = x := Option.some.inj hx; omega, fun x hx => absurd hx List.not_mem_nil, by omega, by show _ ≤ (21 : Int); omega⟩ ?_ ?_⟩
    · rintro i σ H4 hi ⟨K4, S4, ls, wide, x5, rfl, hF4, hll, hU, hL, hB, w1, w2⟩
      have p21 : (21 : Int) ^ (i + 1) ≤ 21 ^ 20 := by
        have : (21 : Nat) ^ (i + 1) ≤ 21 ^ 20 := Nat.pow_le_pow_right (by decide) (by omega)
        exact_mod_cast this
      have p88 : (21 : Int) ^ 20 < 2 ^ 88 - 100 := by decide
      walk_at "hs"
      refine ⟨s, q - 1, _, rfl, S4.put hFs, by omega, by omega, by omega, fun H5 f K5 S5 f0 f1 => ?_⟩
      have hF5 := K5 _ _ (upd_same (H := H4) (a := F)) (by walk_at "ns")
      walk_at "hs"
      refine ⟨HS.mulW 88 62 (by omega) (by omega) (by omega) (by omega) (by decide) (by decide) (by decide), ?_⟩
      walk_at "hs"
      have hw2 : wide ≤ wide * (2 + f) := by have := Int.mul_le_mul_of_nonneg_left (show (1 : Int) ≤ 2 + f by omega) (show 0 ≤ wide by omega); omega
      have hw3 : wide * 2 ≤ wide * (2 + f) := Int.mul_le_mul_of_nonneg_left (by omega) (by omega)
      refine ⟨(K4.put hF).trans K5, S5.up (by omega), ls ++ [wide], wide * (2 + f), _, rfl, by rw [hF5, List.map_append]; rfl, by rw [List.length_append, hll]; rfl, up_app hU hL, fun x hx => ?_, fun x hx => ?_, by omega, ?_⟩
      · rw [show (0 : Int) :: (ls ++ [wide]) = ((0 : Int) :: ls) ++ [wide] from rfl, List.getLast?_concat] at hx
        have hx' := Option.some.inj hx
        subst hx'
        exact ⟨by omega, fun _ => Int.mul_emod_right wide (2 + f)⟩
      · rcases List.mem_append.mp hx with hx | hx
        · exact hB x hx
        · rw [List.mem_singleton] at hx
          omega
      · rw [Int.pow_succ]
        exact Int.mul_le_mul w2 (by omega) (by omega) (Int.pow_nonneg (by decide))
    · rintro σ H4 ⟨K4, S4, ls, wide, x5, rfl, hF4, hll, hU, hL, hB, w1, w2⟩
      walk_at "hs"
      exact k _ F ls K4 hF hFs hF4 (by omega) hU hB (S4.up (by omega))
theorem exh_made {H' : Hp} {C a d : Addr} {v : Int} (ha : H' a = none) (e : H' d = some (.xd [("value", .int v)])) : HS.Exh (upd H' a (HS.exh a (.ref C) (some d))) a C [("value", .int v)] := ⟨d, upd_same, by rw [upd_ne (ne_of_none e ha)]; exact e⟩
structure F4 (K : PySem.W.Frag) (A : Ad) (D : Addr) (k : Nat) : Prop where
  V : ExcC K D
  X : XfC K D
  n : PySem.W.findIn K (.ref D) "value" = some none
  q0 : PySem.W.kitOne K (.ref D) (.ref A.c_InvalidTable) = some (decide (k = 0))
  q1 : PySem.W.kitOne K (.ref D) (.ref A.c_InvalidBook) = some (decide (k = 1))
  q2 : PySem.W.kitOne K (.ref D) (.ref A.c_InvalidNumber) = some (decide (k = 2))
  q3 : PySem.W.kitOne K (.ref D) (.ref A.c_InvalidChain) = some (decide (k = 3))
  s : PySem.W.kitAny K (.ref D) ([A.c_InvalidSize, A.c_NothingToUndo, A.c_Unreadable].map Value.ref) = some false
  v : PySem.W.kitOne K (.ref D) (.type "ValueError") = some true
theorem no3 {K : PySem.W.Frag} {D a b c : Addr} (h1 : PySem.W.kitOne K (.ref D) (.ref a) = some false) (h2 : PySem.W.kitOne K (.ref D) (.ref b) = some false) (h3 : PySem.W.kitOne K (.ref D) (.ref c) = some false) : PySem.W.kitAny K (.ref D) ([a, b, c].map Value.ref) = some false :=
  HS.kany_no fun x hx => by
    simp only [List.mem_cons, List.not_mem_nil, or_false] at hx
    rcases hx with rfl | rfl | rfl <;> assumption
theorem four {K : PySem.W.Frag} {mg : Str → Option Value} {A : Ad} (T : Txt K mg A) : ∀ k, k < 4 → F4 K A (clsOf A k) k
  | 0, _ => ⟨T.V_InvalidTable, T.X_InvalidTable, T.n_InvalidTable, T.q_InvalidTable_InvalidTable, T.q_InvalidTable_InvalidBook, T.q_InvalidTable_InvalidNumber, T.q_InvalidTable_InvalidChain, no3 T.q_InvalidTable_InvalidSize T.q_InvalidTable_NothingToUndo T.q_InvalidTable_Unreadable, T.q_InvalidTable_ValueError⟩
  | 1, _ => ⟨T.V_InvalidBook, T.X_InvalidBook, T.n_InvalidBook, T.q_InvalidBook_InvalidTable, T.q_InvalidBook_InvalidBook, T.q_InvalidBook_InvalidNumber, T.q_InvalidBook_InvalidChain, no3 T.q_InvalidBook_InvalidSize T.q_InvalidBook_NothingToUndo T.q_InvalidBook_Unreadable, T.q_InvalidBook_ValueError⟩
  | 2, _ => ⟨T.V_InvalidNumber, T.X_InvalidNumber, T.n_InvalidNumber, T.q_InvalidNumber_InvalidTable, T.q_InvalidNumber_InvalidBook, T.q_InvalidNumber_InvalidNumber, T.q_InvalidNumber_InvalidChain, no3 T.q_InvalidNumber_InvalidSize T.q_InvalidNumber_NothingToUndo T.q_InvalidNumber_Unreadable, T.q_InvalidNumber_ValueError⟩
  | 3, _ => ⟨T.V_InvalidChain, T.X_InvalidChain, T.n_InvalidChain, T.q_InvalidChain_InvalidTable, T.q_InvalidChain_InvalidBook, T.q_InvalidChain_InvalidNumber, T.q_InvalidChain_InvalidChain, no3 T.q_InvalidChain_InvalidSize T.q_InvalidChain_NothingToUndo T.q_InvalidChain_Unreadable, T.q_InvalidChain_ValueError⟩
def sp__law_told (K : PySem.W.Frag) : Sp := fun vs H Q _ => ∃ (way : Nat) (one other sm : Addr) (due : Due), vs = [.int way, .ref one, .ref other, .ref sm] ∧ (Told K H way one other sm due ∧ ∀ v H', HS.Keep (fun _ => False) H H' → DueAt H' v due → Q v H')
theorem ok__law_told (T : Txt K mg A) : FnOk P w K mg base CX0 6 A.a__law_told A.d__law_told ["way", "one", "other", "some"] (sp__law_told K) := by
  have G_lengths_of : FnOk P w K mg base (L2.CX P w) 3 A.a_lengths_of A.d_lengths_of ["table"] (sp_lengths_of K A) := ok_lengths_of T
  have G_count_books : FnOk P w K mg base (L2.CX P w) 4 A.a_count_books A.d_count_books ["table"] (sp_count_books K A) := ok_count_books T
  have G_same_counts : FnOk P w K mg base (L2.CX P w) 4 A.a_same_counts A.d_same_counts ["first", "second"] (sp_same_counts K A) := ok_same_counts T
  have G_parting_size : FnOk P w K mg base (L2.CX P w) 4 A.a_parting_size A.d_parting_size ["first", "second"] (sp_parting_size K A) := ok_parting_size T
  have G_count_fitting : FnOk P w K mg base (L2.CX P w) 5 A.a_count_fitting A.d_count_fitting ["chapters", "lines", "chain"] (sp_count_fitting K A) := ok_count_fitting T
  have G_contradiction : FnOk P w K mg base (L2.CX P w) 5 A.a_contradiction A.d_contradiction ["chapters", "lines", "chain"] (sp_contradiction K A) := ok_contradiction T
  have G_nth_fitting : FnOk P w K mg base (L2.CX P w) 5 A.a_nth_fitting A.d_nth_fitting ["chapters", "lines", "chain", "number"] (sp_nth_fitting K A) := ok_nth_fitting T
  refine T.F__law_told.ok sc__law_told (fun vs H Q E h => ?_) (fun cdv A0 outer s H vs Q E hr h => ?_)
  · obtain ⟨way, one, other, sm, due, rfl, hw⟩ := h
    rfl
  · obtain ⟨way, one, other, sm, due, rfl, hw⟩ := h
    refine ⟨_, (pss_cons (ps_set (i := 4) sc__law_told.nd rfl (.inl rfl) pe_non)
    (Evl.pss_cut (HS.ps_try_keep (i := 5) rfl rfl sc__law_told.nd rfl rfl ⟨rfl, by decide, Or.inl T.m_BookError⟩ takes0
      (fun W pn xe tk po => (pss_one (ps_if (pt_cmpR op_eq (pv 0) pe_int (nomark _))
      (pss_one (ps_expr (pe_callS G_lengths_of (hr.mono (by decide)) (by rfl) T.g_lengths_of T.F_lengths_of.kp T.b_lengths_of (fun σ => passAt tk σ) (pa_cons (pv 1) pa_nil))))
      (pss_one (ps_if (pt_cmpR op_eq (pv 0) pe_int (nomark _))
      (pss_one (ps_expr (HS.pe_kw0S G_count_books (hr.mono (by decide)) (by rfl) T.g_count_books T.F_count_books.kp T.kb_count_books_0_table (fun σ => passAt tk σ) (pk_cons (pv 1) pk_nil))))
      (pss_one (ps_if (pt_cmpR op_eq (pv 0) pe_int (nomark _))
      (pss_one (ps_expr (pe_callS G_same_counts (hr.mono (by decide)) (by rfl) T.g_same_counts T.F_same_counts.kp T.b_same_counts (fun σ => passAt tk σ) (pa_cons (pv 1) (pa_cons (pv 2) pa_nil)))))
      (pss_one (ps_if (pt_cmpR op_eq (pv 0) pe_int (nomark _))
      (pss_one (ps_expr (HS.pe_kw0S G_parting_size (hr.mono (by decide)) (by rfl) T.g_parting_size T.F_parting_size.kp T.kb_parting_size_0_second_first (fun σ => passAt tk σ) (pk_cons (pv 2) (pk_cons (pv 1) pk_nil)))))
      (pss_one (ps_if (pt_cmpR op_eq (pv 0) pe_int (nomark _))
      (pss_one (ps_expr (pe_callS G_count_fitting hr (by rfl) T.g_count_fitting T.F_count_fitting.kp T.b_count_fitting (fun σ => passAt tk σ) (pa_cons (pe_ix (HS.ixl K) (pv 3) pe_int (fun _ _ => rfl)) (pa_cons (pe_ix (HS.ixl K) (pv 3) pe_int (fun _ _ => rfl)) (pa_cons (pv 1) pa_nil))))))
      (pss_one (ps_if (pt_cmpR op_eq (pv 0) pe_int (nomark _))
      (pss_one (ps_expr (HS.pe_kw0S G_contradiction hr (by rfl) T.g_contradiction T.F_contradiction.kp T.kb_contradiction_0_chain_chapters_lines (fun σ => passAt tk σ) (pk_cons (pv 1) (pk_cons (pe_ix (HS.ixl K) (pv 3) pe_int (fun _ _ => rfl)) (pk_cons (pe_ix (HS.ixl K) (pv 3) pe_int (fun _ _ => rfl)) pk_nil))))))
      (pss_one (ps_expr (pe_callS G_nth_fitting hr (by rfl) T.g_nth_fitting T.F_nth_fitting.kp T.b_nth_fitting (fun σ => passAt tk σ) (pa_cons (pe_ix (HS.ixl K) (pv 3) pe_int (fun _ _ => rfl)) (pa_cons (pe_ix (HS.ixl K) (pv 3) pe_int (fun _ _ => rfl)) (pa_cons (pv 1) (pa_cons (pe_ix (HS.ixl K) (pv 3) pe_int (fun _ _ => rfl)) pa_nil))))))))))))))))))))
      (fun a oe cls d pn hz hf => (pss_one (ps_set (i := 4) sc__law_told.nd rfl (.inl rfl) (pv 5)))))
    (pss_cons (ps_if (pt_cmpR op_isN (pv 4) pe_non (nomark _))
      (pss_one (ps_ret pe_non))
      pss_nil)
    (pss_cons (ps_if (PW.pt (pw_or (pt_val (pe_callB (HS.kisXs K) (by rfl) T.z_isinstance (by decide +kernel) (pa_cons (pv 4) (pa_cons (pe_tup (pa_cons (pe_glob (v := .ref A.c_InvalidSize) (by rfl) T.m_InvalidSize rfl) (pa_cons (pe_glob (v := .ref A.c_NothingToUndo) (by rfl) T.m_NothingToUndo rfl) (pa_cons (pe_glob (v := .ref A.c_Unreadable) (by rfl) T.m_Unreadable rfl) pa_nil)))) pa_nil)))) (pw_or1 (pt_not (pt_val (pe_callB (HS.kisX K) (by rfl) T.z_isinstance (by decide +kernel) (pa_cons (pv 4) (pa_cons (pe_bltn (v := .ty "ValueError") (by rfl) T.z_ValueError (by decide +kernel) rfl) pa_nil))))))))
      (pss_one (ps_ret pe_str))
      pss_nil)
    (pss_cons (ps_set (i := 6) sc__law_told.nd rfl (.inl rfl) (pe_lst (pa_cons (pe_callB (HS.kisX K) (by rfl) T.z_isinstance (by decide +kernel) (pa_cons (pv 4) (pa_cons (pe_glob (v := .ref A.c_InvalidTable) (by rfl) T.m_InvalidTable rfl) pa_nil))) (pa_cons (pe_callB (HS.kisX K) (by rfl) T.z_isinstance (by decide +kernel) (pa_cons (pv 4) (pa_cons (pe_glob (v := .ref A.c_InvalidBook) (by rfl) T.m_InvalidBook rfl) pa_nil))) (pa_cons (pe_callB (HS.kisX K) (by rfl) T.z_isinstance (by decide +kernel) (pa_cons (pv 4) (pa_cons (pe_glob (v := .ref A.c_InvalidNumber) (by rfl) T.m_InvalidNumber rfl) pa_nil))) pa_nil)))))
    (pss_cons (ps_expr (HS.kbm K (pe_bm PySem.F.plainAttrs_list PySem.F.slot_list_append PySem.F.type_list_append mt_append (pv 6) (pa_cons (pe_callB (HS.kisX K) (by rfl) T.z_isinstance (by decide +kernel) (pa_cons (pv 4) (pa_cons (pe_glob (v := .ref A.c_InvalidChain) (by rfl) T.m_InvalidChain rfl) pa_nil))) pa_nil))))
    (pss_cons (ps_if (pt_cmpR op_ne (HS.kbm K (pe_bm PySem.F.plainAttrs_list PySem.F.slot_list_count PySem.F.type_list_count (HS.kcountD K (HS.hu65 hr)) (pv 6) (pa_cons pe_bl pa_nil))) pe_int (nomark _))
      (pss_one (ps_ret pe_str))
      pss_nil)
    (pss_one (ps_ret (pe_lst (pa_cons (pe_ix (HS.ixl K) (pe_lst (pa_cons pe_str (pa_cons pe_str (pa_cons pe_str (pa_cons pe_str pa_nil))))) (HS.kbm K (pe_bm PySem.F.plainAttrs_list PySem.F.slot_list_index PySem.F.type_list_index (HS.kindexD K (HS.hu65 hr)) (pv 6) (pa_cons pe_bl pa_nil))) (fun _ _ => rfl)) (pa_cons (HS.pe_fldX (pv 4)) pa_nil)))))))))))), ?_⟩
    obtain ⟨hT, k⟩ := hw
    have eB : ∀ k, k < 4 → PySem.W.exmOne K (.ref (clsOf A k)) (.ref A.c_BookError) = some true := fun k hk => by
      match k, hk with
      | 0, _ => exact T.e_InvalidTable_BookError
      | 1, _ => exact T.e_InvalidBook_BookError
      | 2, _ => exact T.e_InvalidNumber_BookError
      | 3, _ => exact T.e_InvalidChain_BookError
    walk_at "hs"
    refine HS.cut (fun σ' H' => HS.Keep (fun _ => False) H H' ∧ ∃ cv x6, σ' = [some (.int way), some (.ref one), some (.ref other), some (.ref sm), some cv, none, x6] ∧ ((due = none ∧ cv = .non) ∨ ∃ k v a, due = some (k, v) ∧ k < 4 ∧ cv = .ref a ∧ HS.Exh H' a (clsOf A k) [("value", .int v)])) ?_ ?_
    · cases hT with
      | tab rows hw h hl hc =>
        have rA := read_all hl
        have fE : ∀ w, readAll rows = .inl w → dueT rows = some (0, w) := fun w hw => by unfold dueT; rw [rA.1 w hw]; rfl
        have fN : ∀ ls, readAll rows = .inr ls → dueT rows = none := fun ls hls => by unfold dueT; rw [(rA.2 ls hls).1]; rfl
        rcases hw with rfl | rfl
        · walk_at "hs"
          refine HS.it1 rfl ?_
          walk_at "hs"
          refine ⟨one, rows, rfl, h, by omega, fun c h => by have := hc c h; omega, fun w hw H' d K1 hd e => ?_, fun ls hls H' p K1 hp0 hp => ?_⟩
          · refine ⟨true, eB 0 (by decide), fun _ a ha => ?_, fun z => by cases z⟩
            walk_at "hs"
            intro ha2
            exact ⟨K1.nw ha, _, _, rfl, .inr ⟨0, w, a, fE w hw, by decide, rfl, exh_made ha e⟩⟩
          · walk_at "hs"
            exact ⟨K1, _, _, rfl, .inl ⟨fN ls hls, rfl⟩⟩
        · walk_at "hs"
          refine HS.it0 (by decide) ?_
          walk_at "hs"
          refine HS.it1 rfl ?_
          walk_at "hs"
          refine ⟨one, rows, rfl, h, hl, hc, fun w hw H' d K1 hd e => ?_, fun ls hls v H' K1 => ?_⟩
          · refine ⟨true, eB 0 (by decide), fun _ a ha => ?_, fun z => by cases z⟩
            walk_at "hs"
            intro ha2
            exact ⟨K1.nw ha, _, _, rfl, .inr ⟨0, w, a, fE w hw, by decide, rfl, exh_made ha e⟩⟩
          · walk_at "hs"
            exact ⟨K1, _, _, rfl, .inl ⟨fN ls hls, rfl⟩⟩
      | two xs ys hw h1 h2 =>
        have fE : ∀ i, dueB xs ys = some i → ((dueB xs ys).map fun i => (1, (i : Int))) = some (1, (i : Int)) := fun i hi => by rw [hi]; rfl
        have fN : dueB xs ys = none → ((dueB xs ys).map fun i => (1, (i : Int))) = none := fun hi => by rw [hi]; rfl
        rcases hw with rfl | rfl
        · walk_at "hs"
          refine HS.it0 (by decide) ?_
          walk_at "hs"
          refine HS.it0 (by decide) ?_
          walk_at "hs"
          refine HS.it1 rfl ?_
          walk_at "hs"
          refine ⟨one, other, xs, ys, rfl, h1, h2, fun i hi H' d K1 hd e => ?_, fun hi v H' K1 => ?_⟩
          · refine ⟨true, eB 1 (by decide), fun _ a ha => ?_, fun z => by cases z⟩
            walk_at "hs"
            intro ha2
            exact ⟨K1.nw ha, _, _, rfl, .inr ⟨1, i, a, fE i hi, by decide, rfl, exh_made ha e⟩⟩
          · walk_at "hs"
            exact ⟨K1, _, _, rfl, .inl ⟨fN hi, rfl⟩⟩
        · walk_at "hs"
          refine HS.it0 (by decide) ?_
          walk_at "hs"
          refine HS.it0 (by decide) ?_
          walk_at "hs"
          refine HS.it0 (by decide) ?_
          walk_at "hs"
          refine HS.it1 rfl ?_
          walk_at "hs"
          refine ⟨one, other, xs, ys, rfl, h1, h2, fun i hi H' d K1 hd e => ?_, fun hi v H' K1 => ?_⟩
          · refine ⟨true, eB 1 (by decide), fun _ a ha => ?_, fun z => by cases z⟩
            walk_at "hs"
            intro ha2
            exact ⟨K1.nw ha, _, _, rfl, .inr ⟨1, i, a, fE i hi, by decide, rfl, exh_made ha e⟩⟩
          · walk_at "hs"
            exact ⟨K1, _, _, rfl, .inl ⟨fN hi, rfl⟩⟩
      | chn c l zs ws ps hw h1 hP h2 hl hB hc hl1 =>
        have x0 : ((0 : Int)) < ((V.int c :: V.int l :: ws).length : Nat) := by simp only [List.length_cons]; omega
        have x1 : ((1 : Int)) < ((V.int c :: V.int l :: ws).length : Nat) := by simp only [List.length_cons]; omega
        rcases hw with rfl | rfl
        · walk_at "hs"
          refine HS.it0 (by decide) ?_
          walk_at "hs"
          refine HS.it0 (by decide) ?_
          walk_at "hs"
          refine HS.it0 (by decide) ?_
          walk_at "hs"
          refine HS.it0 (by decide) ?_
          walk_at "hs"
          refine HS.it1 rfl ?_
          walk_at "hs"
          refine HS.ixV h2 (by decide) x0 fun v hv _ => ?_
          cases hv
          walk_at "hs"
          refine HS.ixV h2 (by decide) x1 fun v hv _ => ?_
          cases hv
          walk_at "hs"
          refine ⟨one, zs, ps, c, l, rfl, h1, hP, hl, hB, hc, hl1, fun kk v hd H' d K1 hd0 e => ?_, fun hd H' K1 => ?_⟩
          · have hk := demX_lt hd
            refine ⟨true, eB kk hk, fun _ a ha => ?_, fun z => by cases z⟩
            walk_at "hs"
            intro ha2
            exact ⟨K1.nw ha, _, _, rfl, .inr ⟨kk, v, a, hd, hk, rfl, exh_made ha e⟩⟩
          · walk_at "hs"
            exact ⟨K1, _, _, rfl, .inl ⟨hd, rfl⟩⟩
        · walk_at "hs"
          refine HS.it0 (by decide) ?_
          walk_at "hs"
          refine HS.it0 (by decide) ?_
          walk_at "hs"
          refine HS.it0 (by decide) ?_
          walk_at "hs"
          refine HS.it0 (by decide) ?_
          walk_at "hs"
          refine HS.it0 (by decide) ?_
          walk_at "hs"
          refine HS.it1 rfl ?_
          walk_at "hs"
          refine HS.ixV h2 (by decide) x0 fun v hv _ => ?_
          cases hv
          walk_at "hs"
          refine HS.ixV h2 (by decide) x1 fun v hv _ => ?_
          cases hv
          walk_at "hs"
          refine ⟨one, zs, ps, c, l, rfl, h1, hP, hl, hB, hc, hl1, fun kk v hd H' d K1 hd0 e => ?_, fun hd v H' K1 => ?_⟩
          · have hk := demX_lt hd
            refine ⟨true, eB kk hk, fun _ a ha => ?_, fun z => by cases z⟩
            walk_at "hs"
            intro ha2
            exact ⟨K1.nw ha, _, _, rfl, .inr ⟨kk, v, a, hd, hk, rfl, exh_made ha e⟩⟩
          · walk_at "hs"
            exact ⟨K1, _, _, rfl, .inl ⟨hd, rfl⟩⟩
      | nth c l x zs ps hw h1 hP h2 hl hB hc hl1 =>
        subst hw
        walk_at "hs"
        refine HS.it0 (by decide) ?_
        walk_at "hs"
        refine HS.it0 (by decide) ?_
        walk_at "hs"
        refine HS.it0 (by decide) ?_
        walk_at "hs"
        refine HS.it0 (by decide) ?_
        walk_at "hs"
        refine HS.it0 (by decide) ?_
        walk_at "hs"
        refine HS.it0 (by decide) ?_
        walk_at "hs"
        refine ⟨one, zs, ps, c, l, x, rfl, h1, hP, hl, hB, hc, hl1, fun kk v hd H' d K1 hd0 e => ?_, fun hd hx H' d K1 hd0 e => ?_, fun hd hx v H' K1 => ?_⟩
        · have hk := demX_lt hd
          refine ⟨true, eB kk hk, fun _ a ha => ?_, fun z => by cases z⟩
          walk_at "hs"
          intro ha2
          exact ⟨K1.nw ha, _, _, rfl, .inr ⟨kk, v, a, by unfold nthX; rw [hd], hk, rfl, exh_made ha e⟩⟩
        · refine ⟨true, eB 2 (by decide), fun _ a ha => ?_, fun z => by cases z⟩
          walk_at "hs"
          intro ha2
          exact ⟨K1.nw ha, _, _, rfl, .inr ⟨2, x, a, by unfold nthX; rw [hd]; exact if_neg hx, by decide, rfl, exh_made ha e⟩⟩
        · walk_at "hs"
          exact ⟨K1, _, _, rfl, .inl ⟨by unfold nthX; rw [hd]; exact if_pos hx, rfl⟩⟩
    · rintro σ' H' ⟨K1, cv, x6, rfl, hcv⟩
      have W := HS.Wd.nil (H := H') (S := fun _ => False)
      rcases hcv with ⟨rfl, rfl⟩ | ⟨kk, v, a, rfl, hk, rfl, hX⟩
      · walk_at "hs"
        refine ⟨rfl, ?_⟩
        walk_at "hs"
        refine HS.it1 rfl ?_
        walk_at "hs"
        exact k _ _ K1 rfl
      · have F := four T kk hk
        walk_at "hs"
        refine ⟨rfl, ?_⟩
        walk_at "hs"
        refine HS.it0 (fun z => by cases z) ?_
        walk_at "hs"
        intro tp htp
        generalize hG_tp : upd _ tp _ = H2
        have Kn_tp := HS.upgK hG_tp htp
        replace W := W.newG hG_tp htp
        clear hG_tp htp
        try dsimp only [List.set, List.cons_append, List.nil_append] at W
        walk_at "hs"
        refine HS.isXs (cs := [A.c_InvalidSize, A.c_NothingToUndo, A.c_Unreadable]) F.V (hX.same W.kp) (HS.st (W.at 0 rfl)) F.s ?_
        walk_at "hs"
        refine HS.isXt F.V (hX.same W.kp) F.v ?_
        walk_at "hs"
        refine HS.isX F.V (hX.same W.kp) F.q0 ?_
        walk_at "hs"
        refine HS.isX F.V (hX.same W.kp) F.q1 ?_
        walk_at "hs"
        refine HS.isX F.V (hX.same W.kp) F.q2 ?_
        walk_at "hs"
        intro fl hfl
        generalize hG_fl : upd _ fl _ = H3
        have Kn_fl := HS.upgK hG_fl hfl
        replace W := W.newG hG_fl hfl
        clear hG_fl hfl
        try dsimp only [List.set, List.cons_append, List.nil_append] at W
        have hf := W.at 1 rfl
        walk_at "hs"
        refine HS.isX F.V (hX.same W.kp) F.q3 ?_
        walk_at "hs"
        generalize hG_fl : upd _ fl _ = H4
        replace W := W.putG 1 rfl hG_fl
        clear hG_fl
        try dsimp only [List.set, List.cons_append, List.nil_append] at W
        have hk4 : kk = 0 ∨ kk = 1 ∨ kk = 2 ∨ kk = 3 := by omega
        have hD := fun (H : Hp) (h : H fl = _) => Dp.lst (K := K) (HS.sq h) (.cons (.bl (decide (kk = 0))) (.cons (.bl (decide (kk = 1))) (.cons (.bl (decide (kk = 2))) (.cons (.bl (decide (kk = 3))) .nil))))
        rcases hk4 with rfl | rfl | rfl | rfl
        all_goals
          refine ⟨fl, _, .bool true, _, rfl, rfl, hD _ (W.at 1 rfl), .bl true, by decide +kernel, by decide +kernel, ?_⟩
          rw [show (List.countP _ _ : Nat) = 1 from by decide +kernel]
          walk_at "hs"
          refine HS.in0 rfl ?_
          walk_at "hs"
          intro u hu
          generalize hG_u : upd _ u _ = H5
          have Kn_u := HS.upgK hG_u hu
          replace W := W.newG hG_u hu
          clear hG_u hu
          try dsimp only [List.set, List.cons_append, List.nil_append] at W
          walk_at "hs"
          refine HS.tyL (W.at 1 rfl) ?_
          walk_at "hs"
        · refine ⟨fl, _, .bool true, _, 0, .bool true, rfl, rfl, hD _ (W.at 1 rfl), .bl true, by decide +kernel, by decide +kernel, rfl, by decide +kernel, none_ahead (by decide +kernel), ?_⟩
          walk_at "hs"
          refine HS.ixV (W.sq 2 rfl) (by decide) (by decide) fun v hv _ => ?_
          cases hv
          walk_at "hs"
          refine ⟨a, _, _, _, rfl, F.X, F.n, hX.same W.kp, rfl, ?_⟩
          walk_at "hs"
          intro r hr
          exact k _ _ (K1.trans (W.kp.trans (.new hr))) ⟨r, rfl, upd_same⟩
        · refine ⟨fl, _, .bool true, _, 1, .bool true, rfl, rfl, hD _ (W.at 1 rfl), .bl true, by decide +kernel, by decide +kernel, rfl, by decide +kernel, none_ahead (by decide +kernel), ?_⟩
          walk_at "hs"
          refine HS.ixV (W.sq 2 rfl) (by decide) (by decide) fun v hv _ => ?_
          cases hv
          walk_at "hs"
          refine ⟨a, _, _, _, rfl, F.X, F.n, hX.same W.kp, rfl, ?_⟩
          walk_at "hs"
          intro r hr
          exact k _ _ (K1.trans (W.kp.trans (.new hr))) ⟨r, rfl, upd_same⟩
        · refine ⟨fl, _, .bool true, _, 2, .bool true, rfl, rfl, hD _ (W.at 1 rfl), .bl true, by decide +kernel, by decide +kernel, rfl, by decide +kernel, none_ahead (by decide +kernel), ?_⟩
          walk_at "hs"
          refine HS.ixV (W.sq 2 rfl) (by decide) (by decide) fun v hv _ => ?_
          cases hv
          walk_at "hs"
          refine ⟨a, _, _, _, rfl, F.X, F.n, hX.same W.kp, rfl, ?_⟩
          walk_at "hs"
          intro r hr
          exact k _ _ (K1.trans (W.kp.trans (.new hr))) ⟨r, rfl, upd_same⟩
        · refine ⟨fl, _, .bool true, _, 3, .bool true, rfl, rfl, hD _ (W.at 1 rfl), .bl true, by decide +kernel, by decide +kernel, rfl, by decide +kernel, none_ahead (by decide +kernel), ?_⟩
          walk_at "hs"
          refine HS.ixV (W.sq 2 rfl) (by decide) (by decide) fun v hv _ => ?_
          cases hv
          walk_at "hs"
          refine ⟨a, _, _, _, rfl, F.X, F.n, hX.same W.kp, rfl, ?_⟩
          walk_at "hs"
          intro r hr
          exact k _ _ (K1.trans (W.kp.trans (.new hr))) ⟨r, rfl, upd_same⟩
def sp__law_bad_book (K : PySem.W.Frag) : Sp := fun vs H Q _ => ∃ (s b : Addr) (ls : List Int) (n : Nat), vs = [.ref s, .ref b] ∧ (Rng H s n ∧ SqL K H b (ls.map V.int) ∧ ls.length ≤ 30 ∧ n < 2 ^ 32 ∧ ∀ H' p (ms : List Int), HS.Keep (fun a => a = s) H H' → H p = none → H' p = some (.lst (ms.map V.int)) → ms.length ≤ 40 → Rng H' s (n + 9) → Q (.ref p) H')
theorem ok__law_bad_book (T : Txt K mg A) : FnOk P w K mg base CX0 2 A.a__law_bad_book A.d__law_bad_book ["rng", "some"] (sp__law_bad_book K) := by
  have G__law_draw : FnOk P w K mg base CX0 1 A.a__law_draw A.d__law_draw ["rng", "limit"] (sp__law_draw K) := ok__law_draw T
  refine T.F__law_bad_book.ok sc__law_bad_book (fun vs H Q E h => ?_) (fun cdv A0 outer s H vs Q E hr h => ?_)
  · obtain ⟨s, b, ls, n, rfl, hw⟩ := h
    rfl
  · obtain ⟨s, b, ls, n, rfl, hw⟩ := h
    refine ⟨_, (pss_cons (ps_set (i := 2) sc__law_bad_book.nd rfl (.inl rfl) (pe_callTy (HS.klst K) (by rfl) T.z_list (by decide +kernel) (pa_cons (pv 1) pa_nil)))
    (pss_cons (ps_for PassesOwn.never rfl (pi_range1 (by rfl) T.z_range (pa_cons (pe_ix (HS.ixl K) (pe_lst (pa_cons pe_int (pa_cons pe_int (pa_cons pe_int (pa_cons pe_int pa_nil))))) (pe_call G__law_draw hr (by rfl) T.g__law_draw T.F__law_draw.kp T.b__law_draw .nil pass0 (pa_cons (pv 0) (pa_cons pe_int pa_nil))) (fun _ _ => rfl)) pa_nil)) (pg_name (i := 3) sc__law_bad_book.nd rfl (.inl rfl))
      (pss_one (ps_expr (HS.kbm K (pe_bm PySem.F.plainAttrs_list PySem.F.slot_list_insert PySem.F.type_list_insert mt_insert (pv 2) (pa_cons (pe_call G__law_draw hr (by rfl) T.g__law_draw T.F__law_draw.kp T.b__law_draw .nil pass0 (pa_cons (pv 0) (pa_cons (pe_op op_add (pe_callB (HS.klen K) (by rfl) T.z_len PySem.boot_len (pa_cons (pv 2) pa_nil)) pe_int) pa_nil))) (pa_cons (pe_op op_sub pe_int (pe_call G__law_draw hr (by rfl) T.g__law_draw T.F__law_draw.kp T.b__law_draw .nil pass0 (pa_cons (pv 0) (pa_cons (pe_ix (HS.ixl K) (pe_lst (pa_cons pe_int (pa_cons pe_int (pa_cons (HS.pe_fold (100000000000000000000000000000) (pe_op op_pow pe_int pe_int) (by intro σ H Q q; walk_at "fold")) pa_nil)))) (pe_call G__law_draw hr (by rfl) T.g__law_draw T.F__law_draw.kp T.b__law_draw .nil pass0 (pa_cons (pv 0) (pa_cons pe_int pa_nil))) (fun _ _ => rfl)) pa_nil)))) pa_nil)))))))
    (pss_one (ps_ret (pe_slice (HS.sll K) (pv 2) po_none (po_some pe_int)))))), ?_⟩
    obtain ⟨S0, hb, hl, hn, k⟩ := hw
    have W := wd_rng S0
    walk_at "hs"
    refine ⟨b, _, rfl, .inl hb, ?_⟩
    intro p hp
    generalize hG_p : upd _ p _ = H1
    have Kn_p := HS.upgK hG_p hp
    replace W := W.newG hG_p hp
    clear hG_p hp
    try dsimp only [List.set, List.cons_append, List.nil_append] at W
    walk_at "hs"
    intro p2 hp2
    generalize hG_p2 : upd _ p2 _ = H2
    have Kn_p2 := HS.upgK hG_p2 hp2
    replace W := W.newG hG_p2 hp2
    clear hG_p2 hp2
    try dsimp only [List.set, List.cons_append, List.nil_append] at W
    walk_at "hs"
    refine ⟨s, 4, _, rfl, W.rng 0 rfl, by decide, by decide, by omega, fun H3 d K3 S3 d0 d1 => ?_⟩
    replace W := W.drawn 0 rfl K3 S3
    refine HS.ixI [0, 0, 1, 2] (W.sq 2 rfl) d0 d1 fun z _ hz => ?_
    have hz1 : 0 ≤ z ∧ z ≤ 2 := by
      simp only [List.mem_cons, List.not_mem_nil, or_false] at hz
      omega
    replace W := W.take 2
    walk_at "hs"
    refine ⟨by omega, by omega, for_range (n := z.toNat) (fun i σ H' => ∃ ms : List Int, HS.Wd H H' (fun a => a = s) [(s, RngO (n + 1 + 3 * i)), (p, Eq (.lst (ms.map V.int)))] ∧ ms.length = ls.length + i ∧ ∃ x3, σ = [some (.ref s), some (.ref b), some (.ref p), x3]) ?_ ?_ ?_⟩
    · exact ⟨ls, W, rfl, _, rfl⟩
    · rintro i σ H4 hi ⟨ms, W, hm, x3, rfl⟩
      have hi2 : i < 2 := by omega
      walk_at "hs"
      refine HS.tyL (W.at 1 rfl) ?_
      walk_at "hs"
      refine HS.lenL (W.sq 1 rfl) ?_
      rw [List.length_map]
      walk_at "hs"
      refine ⟨s, _, _, rfl, W.rng 0 rfl, by omega, by omega, by omega, fun H5 g K5 S5 g0 g1 => ?_⟩
      replace W := W.drawn 0 rfl K5 S5
      walk_at "hs"
      intro q hq
      generalize hG_q : upd _ q _ = H6
      have Kn_q := HS.upgK hG_q hq
      replace W := W.newG hG_q hq
      clear hG_q hq
      try dsimp only [List.set, List.cons_append, List.nil_append] at W
      walk_at "hs"
      refine ⟨s, 3, _, rfl, W.rng 0 rfl, by decide, by decide, by omega, fun H7 f K7 S7 f0 f1 => ?_⟩
      replace W := W.drawn 0 rfl K7 S7
      refine HS.ixI [1, 2, 100000000000000000000000000000] (W.sq 2 rfl) f0 f1 fun y _ hy => ?_
      have hy1 : 1 ≤ y ∧ y < 2 ^ 150 := by
        simp only [List.mem_cons, List.not_mem_nil, or_false] at hy
        rcases hy with rfl | rfl | rfl <;> omega
      walk_at "hs"
      refine ⟨s, y, _, rfl, W.rng 0 rfl, by omega, by omega, by omega, fun H8 e K8 S8 e0 e1 => ?_⟩
      replace W := W.drawn 0 rfl K8 S8
      walk_at "hs"
      refine ⟨p, _, g, _, rfl, rfl, W.at 1 rfl, HS.sz (by rw [List.length_map]; omega), g0, by omega, ?_⟩
      have em : (ms.map V.int).take g.toNat ++ [V.int (0 - e)] ++ (ms.map V.int).drop g.toNat = (ms.take g.toNat ++ [0 - e] ++ ms.drop g.toNat).map V.int := by
        rw [List.map_append, List.map_append, List.map_take, List.map_drop]; rfl
      rw [em]
      replace W := (W.put 1 rfl (P' := Eq (HO.lst ((ms.take g.toNat ++ [0 - e] ++ ms.drop g.toNat).map V.int))) rfl).take 2
      walk_at "hs"
      refine ⟨_, W.rup 0 rfl (by omega), ?_, _, rfl⟩
      rw [List.length_append, List.length_append, List.length_take, List.length_drop, List.length_singleton]
      omega
    · rintro σ H4 ⟨ms, W, hm, x3, rfl⟩
      walk_at "hs"
      refine HS.slLs (W.sq 1 rfl) fun q hq => ?_
      have ec : cutV (ms.map V.int) none (some 40) = (ms.take 40).map V.int := by
        rw [show (40 : Int) = ((40 : Nat) : Int) from rfl, HS.cut_to, List.map_take]
      rw [ec]
      have W2 := W.new hq (P := fun _ => True) (o := .lst ((ms.take 40).map V.int)) trivial
      exact k _ q (ms.take 40) W2.kp (W.kp.free hq (W.no 0 rfl hq)) upd_same (by rw [List.length_take]; omega) ((W2.rng 0 rfl).up (by omega))
def sp__law_first (K : PySem.W.Frag) : Sp := fun vs H Q _ => ∃ (b : Addr) (ls : List Int), vs = [.ref b] ∧ (SqL K H b (ls.map V.int) ∧ ls.length ≤ 1000 ∧ ∀ v H', HS.Keep (fun _ => False) H H' → DueAt H' v ((badAt ls).map fun i => (1, (i : Int))) → Q v H')
theorem ok__law_first (T : Txt K mg A) : FnOk P w K mg base CX0 1 A.a__law_first A.d__law_first ["some"] (sp__law_first K) := by
  refine T.F__law_first.ok sc__law_first (fun vs H Q E h => ?_) (fun cdv A0 outer s H vs Q E hr h => ?_)
  · obtain ⟨b, ls, rfl, hw⟩ := h
    rfl
  · obtain ⟨b, ls, rfl, hw⟩ := h
    refine ⟨_, (pss_cons (ps_setLc (i := 1) (own := [("spot", 2), ("one", 3)]) (g := gTup K 2 (gCons (gName 2) (gCons (gName 3) gNil))) rfl sc__law_first.nd rfl rfl (sw_true rfl rfl rfl (by decide +kernel)) (HS.kien K (pi_enum (by rfl) T.z_enumerate (pa_cons (pv 0) pa_nil))) (blkOk_by (own := [("spot", 2), ("one", 3)]) (N := N__law_first) (sc := defScope s__law_first) (by decide +kernel)) (fun _ _ _ _ _ => HS.kgt K (pg_tup rfl (pgs_cons (pg_name (i := 2) sc__law_first.nd rfl (by first | exact .inl rfl | exact .inr rfl)) (pgs_cons (pg_name (i := 3) sc__law_first.nd rfl (by first | exact .inl rfl | exact .inr rfl)) pgs_nil)))) (fun _ _ _ _ _ => (pts_one (pt_cmpR op_lt (pv 3) pe_int (nomark _)))) (fun _ _ _ _ _ => (pv 2)))
    (pss_one (ps_ret (pe_ifExp (pt_cmpR (HS.kne K (hu64 hr)) (pv 1) (pe_lst pa_nil) (nomark _)) (pe_lst (pa_cons pe_str (pa_cons (pe_ix (HS.ixl K) (pv 1) pe_int (fun _ _ => rfl)) pa_nil))) pe_non)))), ?_⟩
    obtain ⟨hb, hl, k⟩ := hw
    walk_at "hs"
    refine ⟨b, _, rfl, hb, fun D hD => lc_it walk_enum (fun j H' => HS.Keep (fun _ => False) H H' ∧ H' D = some (.lst ((badsFrom 0 (ls.take j)).map V.int))) ⟨.new hD, upd_same⟩ (fun j H' _ ⟨K', _⟩ => K'.sq hb id) ?_ ?_⟩
    · rintro j x H4 H5 hj ⟨K4, h4⟩ ⟨T1, u, v, rfl, hT, rfl, e1, e2⟩
      cases e1
      obtain ⟨z, rfl, hz, hjl⟩ := HS.get_int e2
      have et : ls.take (j + 1) = ls.take j ++ [z] := by rw [List.take_add_one, hz]; rfl
      have nd : D ≠ T1 := ne_of_none h4 hT
      have K5 := K4.put (o := .tup [V.int (j : Nat), V.int z]) (K4.free hT id)
      have h5 : upd H4 T1 (.tup [V.int (j : Nat), V.int z]) D = some (.lst ((badsFrom 0 (ls.take j)).map V.int)) := by rw [upd_ne nd]; exact h4
      have bl := badsFrom_len 0 (ls.take j)
      rw [List.length_take] at bl
      walk_at "hs"
      refine HS.itd (fun c1 => ?_) (fun c1 => ?_)
      · walk_at "hs"
        refine ⟨_, h5, HS.sz (by rw [List.length_map]; omega), K5.put hD, ?_⟩
        rw [upd_same, et, badsFrom_snoc, if_pos c1, List.map_append, List.length_take, Nat.min_eq_left (by omega), Nat.zero_add]
        rfl
      · refine ⟨K5, ?_⟩
        rw [h5, et, badsFrom_snoc, if_neg c1, List.append_nil]
    · rintro H4 ⟨K4, h4⟩
      rw [List.length_map, List.take_length] at h4
      have W := HS.Wd.nil (H := H) (S := fun _ => False)
      replace W := W.made K4 hD h4 (P := Eq _) rfl
      walk_at "hs"
      intro u hu
      generalize hG_u : upd _ u _ = H6
      have Kn_u := HS.upgK hG_u hu
      replace W := W.newG hG_u hu
      clear hG_u hu
      try dsimp only [List.set, List.cons_append, List.nil_append] at W
      refine HS.neL (ys := []) (W.sq 0 rfl) (W.sq 1 rfl) ?_
      cases hbad : badAt ls with
      | none =>
        rw [hbad] at k
        refine ⟨_, rfl, HS.in0 (badsFrom_none 0 ls hbad) ?_⟩
        walk_at "hs"
        exact k _ _ W.kp rfl
      | some i =>
        rw [hbad] at k
        have b0 := badsFrom_head 0 ls i hbad
        rw [Nat.zero_add] at b0
        refine ⟨_, rfl, HS.in1 (fun z => by rw [z] at b0; cases b0) ?_⟩
        walk_at "hs"
        refine HS.ixZ (W.sq 0 rfl) (by decide) b0 ?_
        walk_at "hs"
        intro r hr
        generalize hG_r : upd _ r _ = H7
        have Kn_r := HS.upgK hG_r hr
        replace W := W.newG hG_r hr
        clear hG_r hr
        try dsimp only [List.set, List.cons_append, List.nil_append] at W
        exact k _ _ W.kp ⟨r, rfl, W.at 2 rfl⟩
def sp__law_bad_chain (K : PySem.W.Frag) : Sp := fun vs H Q _ => ∃ (b : Addr) (zs : List V) (ps : List (Int × Int)), vs = [.ref b] ∧ (SqL K H b zs ∧ HS.Prs H zs ps ∧ (∀ p ∈ ps, -(2 ^ 150) < p.1 ∧ p.1 < 2 ^ 150) ∧ ∀ v H', HS.Keep (fun _ => False) H H' → DueAt H' v ((badCh 0 ps).map fun i => (3, (i : Int))) → Q v H')
theorem ok__law_bad_chain (T : Txt K mg A) : FnOk P w K mg base CX0 1 A.a__law_bad_chain A.d__law_bad_chain ["rows"] (sp__law_bad_chain K) := by
  refine T.F__law_bad_chain.ok sc__law_bad_chain (fun vs H Q E h => ?_) (fun cdv A0 outer s H vs Q E hr h => ?_)
  · obtain ⟨b, zs, ps, rfl, hw⟩ := h
    rfl
  · obtain ⟨b, zs, ps, rfl, hw⟩ := h
    refine ⟨_, (pss_cons (ps_set (i := 1) sc__law_bad_chain.nd rfl (.inl rfl) pe_int)
    (pss_cons (ps_for PassesOwn.never rfl (HS.kien K (pi_enum (by rfl) T.z_enumerate (pa_cons (pv 0) pa_nil))) (HS.kgt K (pg_tup rfl (pgs_cons (pg_name (i := 2) sc__law_bad_chain.nd rfl (.inl rfl)) (pgs_cons (HS.kgt K (pg_tup rfl (pgs_cons (pg_name (i := 3) sc__law_bad_chain.nd rfl (.inl rfl)) (pgs_cons (pg_name (i := 4) sc__law_bad_chain.nd rfl (.inl rfl)) pgs_nil)))) pgs_nil))))
      (pss_cons (ps_if (PW.pt (pw_or (pt_cmpR op_le (pv 3) (pv 1) (nomark _)) (pw_or1 (pt_cmpR op_gt (pe_op op_mod (pv 3) (pe_callB (call_max2 rfl) (by rfl) T.z_max (by decide +kernel) (pa_cons pe_int (pa_cons (pv 1) pa_nil)))) pe_int (nomark _)))))
      (pss_one (ps_ret (pe_lst (pa_cons pe_str (pa_cons (pv 2) pa_nil)))))
      pss_nil)
    (pss_one (ps_set (i := 1) sc__law_bad_chain.nd rfl (.inl rfl) (pv 3)))))
    (pss_one (ps_ret pe_non)))), ?_⟩
    obtain ⟨hb, hP, hB, k⟩ := hw
    walk_at "hs"
    refine ⟨b, zs, rfl, hb, for_it walk_enum (fun i σ H' => HS.Keep (fun _ => False) H H' ∧ ∃ (bf : Int) (x2 x3 x4 : Option V), σ = [some (.ref b), some (.int bf), x2, x3, x4] ∧ 0 ≤ bf ∧ bf < 2 ^ 150 ∧ badCh 0 ps = (badCh bf (ps.drop i)).map (· + i)) ⟨.refl, 0, _, _, _, rfl, Int.le_refl 0, by decide, by rw [List.drop_zero]; cases badCh 0 ps <;> rfl⟩ (fun i σ H' _ ⟨K', _⟩ => K'.sq hb id) ?_ ?_⟩
    · rintro i x σ H1 H2 hi ⟨K1, bf, x2, x3, x4, rfl, hb0, hb1, hch⟩ ⟨T1, u, v, rfl, hT1, rfl, e1, e2⟩
      cases e1
      obtain ⟨q, p, rfl, hp, hq⟩ := HS.Prs.at hP e2
      have hil := (List.getElem?_eq_some_iff.mp hp).1
      have hpB := hB p (List.mem_of_getElem? hp)
      have ed : ps.drop i = p :: ps.drop (i + 1) := by rw [List.drop_eq_getElem_cons hil]; congr 1; rw [List.getElem?_eq_getElem hil] at hp; exact Option.some.inj hp
      rw [ed, badCh] at hch
      have KT : HS.Keep (fun _ => False) H1 (upd H1 T1 (.tup [.int (i : Nat), .ref q])) := .new hT1
      have hq2 := KT _ _ (K1 _ _ hq id) id
      have hT2 := upd_same (H := H1) (a := T1) (o := .tup [.int (i : Nat), .ref q])
      have K2 := K1.trans KT
      generalize upd H1 T1 (.tup [.int (i : Nat), .ref q]) = H2 at KT hq2 hT2 K2 ⊢
      have bad : (p.1 ≤ bf ∨ (0 < bf ∧ p.1 % bf ≠ 0)) → badCh 0 ps = some i := fun z => by rw [hch, if_pos z, Option.map_some, Nat.zero_add]
      have good : ¬ (p.1 ≤ bf ∨ (0 < bf ∧ p.1 % bf ≠ 0)) → badCh 0 ps = (badCh p.1 (ps.drop (i + 1))).map (· + (i + 1)) := fun z => by
        rw [hch, if_neg z, Option.map_map]
        congr 1
        funext y
        show y + 1 + i = y + (i + 1)
        omega
      walk_at "hs"
      refine HS.itd (fun h0 => ?_) (fun h0 => ?_)
      · walk_at "hs"
        intro r hr
        rw [bad (.inl h0)] at k
        exact k _ _ (K2.trans (.new hr)) ⟨r, rfl, upd_same⟩
      have em : (0 < p.1 % (if bf > 1 then bf else 1)) ↔ (0 < bf ∧ p.1 % bf ≠ 0) := by
        by_cases c : bf > 1
        · rw [if_pos c]
          have := Int.emod_nonneg p.1 (show bf ≠ 0 by omega)
          omega
        · rw [if_neg c, Int.emod_one]
          have e01 : bf = 0 ∨ bf = 1 := by omega
          rcases e01 with e | e
          · subst e; omega
          · subst e; rw [Int.emod_one]; omega
      walk_at "hs"
      refine HS.itd (fun h => ?_) (fun h => ?_)
      · walk_at "hs"
        intro r hr
        rw [bad (.inr (em.mp h))] at k
        exact k _ _ (K2.trans (.new hr)) ⟨r, rfl, upd_same⟩
      · walk_at "hs"
        exact ⟨K2, p.1, _, _, _, rfl, by omega, hpB.2, good fun z => z.elim h0 fun z => h (em.mpr z)⟩
    · rintro σ H1 ⟨K1, bf, x2, x3, x4, rfl, _, _, hch⟩
      rw [hP.len, List.drop_length] at hch
      rw [hch] at k
      walk_at "hs"
      exact k _ _ K1 rfl
theorem _root_.HS.ixN_v {K : PySem.W.Frag} {H : Hp} {Q : VK} {p : Addr} {i : Int} {xs : List V} (h : SqL K H p xs) (h0 : -(xs.length : Int) ≤ i) (h1 : i < xs.length) (q : ∀ v, v ∈ xs → Q v H) : rIxL K (.ref p) (.int i) H Q := by
  have key : ∃ j, ixN xs.length i = some j ∧ j < xs.length := by
    unfold ixN
    by_cases c : 0 ≤ i
    · rw [if_pos c, if_pos h1]; exact ⟨_, rfl, by omega⟩
    · rw [if_neg c, if_pos h0]; exact ⟨_, rfl, by omega⟩
  obtain ⟨j, e, hj⟩ := key
  exact ⟨p, xs, i, xs[j], rfl, rfl, h, by unfold atI; rw [e]; exact List.getElem?_eq_getElem hj, q _ (List.getElem_mem hj)⟩
theorem demX_ok {c l : Int} {ps : List (Int × Int)} (hc : 0 ≤ c) (hl : 0 ≤ l) (h : ChOk 0 ps) : demX c l ps = none := by
  unfold demX
  rw [if_neg (by omega), if_neg (by omega), badCh_none h]; rfl
def sp__law_chains_right (K : PySem.W.Frag) : Sp := fun vs H Q _ => ∃ (s : Addr) (n : Nat), vs = [.ref s] ∧ (Rng H s n ∧ n < 2 ^ 31 ∧ ∀ H', HS.Keep (fun a => a = s) H H' → Rng H' s (n + 100) → Q (.bl true) H')
theorem ok__law_chains_right (T : Txt K mg A) : HS.FnG P w K mg base CX0 7 A.a__law_chains_right A.d__law_chains_right ["rng"] (sp__law_chains_right K) := by
  have G__law_draw : FnOk P w K mg base CX0 1 A.a__law_draw A.d__law_draw ["rng", "limit"] (sp__law_draw K) := ok__law_draw T
  have G__law_sizes : FnOk P w K mg base CX0 2 A.a__law_sizes A.d__law_sizes ["rng", "many", "most"] (sp__law_sizes K) := ok__law_sizes T
  have G__law_counted : FnOk P w K mg base CX0 1 A.a__law_counted A.d__law_counted ["some", "wide"] (sp__law_counted K) := ok__law_counted T
  have G_count_fitting : FnOk P w K mg base (L2.CX P w) 5 A.a_count_fitting A.d_count_fitting ["chapters", "lines", "chain"] (sp_count_fitting K A) := ok_count_fitting T
  have G__law_bad_chain : FnOk P w K mg base CX0 1 A.a__law_bad_chain A.d__law_bad_chain ["rows"] (sp__law_bad_chain K) := ok__law_bad_chain T
  have G__law_told : FnOk P w K mg base CX0 6 A.a__law_told A.d__law_told ["way", "one", "other", "some"] (sp__law_told K) := ok__law_told T
  refine HS.Fun.okG T.F__law_chains_right sc__law_chains_right (fun vs H Q E h => ?_) (fun cdv A0 outer s H vs Q E hg hr h => ?_)
  · obtain ⟨s, n, rfl, hw⟩ := h
    rfl
  · obtain ⟨s, n, rfl, hw⟩ := h
    refine ⟨_, (pss_cons (ps_set (i := 2) sc__law_chains_right.nd rfl (.inr rfl) (pe_lc (own := [("turn", 1)]) (g := gName 1) (tt := tYes) rfl sc__law_chains_right.nd (pi_range1 (by rfl) T.z_range (pa_cons (pe_call G__law_draw (hr.mono (by decide)) (by rfl) T.g__law_draw T.F__law_draw.kp T.b__law_draw .nil pass0 (pa_cons (pv 0) (pa_cons pe_int pa_nil))) pa_nil)) (blkOk_by (own := [("turn", 1)]) (N := N__law_chains_right) (sc := defScope s__law_chains_right) (by decide +kernel)) (fun _ _ _ _ _ => pg_name (i := 1) sc__law_chains_right.nd rfl (by first | exact .inl rfl | exact .inr rfl)) (fun _ _ _ _ _ => pts_nil) (fun _ _ _ _ _ => (pe_op op_add pe_int (pe_call G__law_draw (hr.mono (by decide)) (by rfl) T.g__law_draw T.F__law_draw.kp T.b__law_draw .nil pass0 (pa_cons (pv 0) (pa_cons pe_int pa_nil)))))))
    (pss_cons (ps_set (i := 4) sc__law_chains_right.nd rfl (.inr rfl) (pe_lc (own := [("wide", 3)]) (g := gName 3) (tt := tYes) rfl sc__law_chains_right.nd (HS.kil K (pi_list (pe_call G__law_sizes (hr.mono (by decide)) (by rfl) T.g__law_sizes T.F__law_sizes.kp T.b__law_sizes .nil pass0 (pa_cons (pv 0) (pa_cons pe_int (pa_cons pe_int pa_nil)))))) (blkOk_by (own := [("wide", 3)]) (N := N__law_chains_right) (sc := defScope s__law_chains_right) (by decide +kernel)) (fun _ _ _ _ _ => pg_name (i := 3) sc__law_chains_right.nd rfl (by first | exact .inl rfl | exact .inr rfl)) (fun _ _ _ _ _ => pts_nil) (fun _ _ _ _ _ => (pe_tup (pa_cons (pv 3) (pa_cons (pe_call G__law_counted (hr.mono (by decide)) (by rfl) T.g__law_counted T.F__law_counted.kp T.b__law_counted .nil pass0 (pa_cons (pv 2) (pa_cons (pv 3) pa_nil))) pa_nil))))))
    (pss_cons (ps_set (i := 5) sc__law_chains_right.nd rfl (.inl rfl) (pe_ix (HS.ixl K) (pe_lst (pa_cons pe_int (pa_cons (pe_un un_neg pe_int) (pa_cons (HS.pe_fold (100000000000000000000000000000) (pe_op op_pow pe_int pe_int) (by intro σ H Q q; walk_at "fold")) pa_nil)))) (pe_call G__law_draw (hr.mono (by decide)) (by rfl) T.g__law_draw T.F__law_draw.kp T.b__law_draw .nil pass0 (pa_cons (pv 0) (pa_cons pe_int pa_nil))) (fun _ _ => rfl)))
    (pss_cons (ps_set (i := 6) sc__law_chains_right.nd rfl (.inr rfl) (pe_lst (pa_cons (pe_callB (HS.klen K) (by rfl) T.z_len PySem.boot_len (pa_cons (pv 2) pa_nil)) (pa_cons (pe_callB (HS.ksum K rfl) (by rfl) T.z_sum (by decide +kernel) (pa_cons (pv 2) pa_nil)) (pa_cons (pv 5) pa_nil)))))
    (Evl.pss_cut (ps_if (pt_cmpR op_eq (pe_call G__law_draw (hr.mono (by decide)) (by rfl) T.g__law_draw T.F__law_draw.kp T.b__law_draw .nil pass0 (pa_cons (pv 0) (pa_cons pe_int pa_nil))) pe_int (nomark _))
      (pss_cons (ps_set (i := 7) sc__law_chains_right.nd rfl (.inl rfl) (pe_call G_count_fitting (hr.mono (by decide)) (by rfl) T.g_count_fitting T.F_count_fitting.kp T.b_count_fitting .nil passL (pa_cons (pe_ix (HS.ixl K) (pv 6) pe_int (fun _ _ => rfl)) (pa_cons (pe_ix (HS.ixl K) (pv 6) pe_int (fun _ _ => rfl)) (pa_cons (pv 4) pa_nil)))))
    (pss_cons (ps_asg (pe_ix (HS.ixl K) (pe_lst (pa_cons (pv 7) (pa_cons (pe_op op_sub (pv 7) pe_int) (pa_cons (pe_op op_add (pv 7) (pe_call G__law_draw (hr.mono (by decide)) (by rfl) T.g__law_draw T.F__law_draw.kp T.b__law_draw .nil pass0 (pa_cons (pv 0) (pa_cons pe_int pa_nil)))) pa_nil)))) (pe_call G__law_draw (hr.mono (by decide)) (by rfl) T.g__law_draw T.F__law_draw.kp T.b__law_draw .nil pass0 (pa_cons (pv 0) (pa_cons pe_int pa_nil))) (fun _ _ => rfl)) (pg_sub (pv 6) pe_int set_list))
    (pss_one (ps_set (i := 5) sc__law_chains_right.nd rfl (.inl rfl) (pe_ix (HS.ixl K) (pv 6) pe_int (fun _ _ => rfl))))))
      pss_nil)
    (pss_cons (ps_for PassesOwn.never rfl (pi_range1 (by rfl) T.z_range (pa_cons (pe_op op_mulW (pe_call G__law_draw (hr.mono (by decide)) (by rfl) T.g__law_draw T.F__law_draw.kp T.b__law_draw .nil pass0 (pa_cons (pv 0) (pa_cons pe_int pa_nil))) (pe_callTy call_int1 (by rfl) T.z_int (by decide +kernel) (pa_cons (pe_cmpR (HS.kne K (hu64 hr)) (pv 4) (pe_lst pa_nil) (nomark _)) pa_nil))) pa_nil)) (pg_name (i := 1) sc__law_chains_right.nd rfl (.inl rfl))
      (pss_cons (ps_set (i := 8) sc__law_chains_right.nd rfl (.inl rfl) (pe_call G__law_draw (hr.mono (by decide)) (by rfl) T.g__law_draw T.F__law_draw.kp T.b__law_draw .nil pass0 (pa_cons (pv 0) (pa_cons (pe_callB (HS.klen K) (by rfl) T.z_len PySem.boot_len (pa_cons (pv 4) pa_nil)) pa_nil))))
    (pss_cons (ps_set (i := 3) sc__law_chains_right.nd rfl (.inl rfl) (pe_ix (HS.ixl K) (pe_lst (pa_cons pe_int (pa_cons (pe_un un_neg pe_int) (pa_cons (pe_op op_add (pe_ix (HS.ixt K) (pe_ix (HS.ixl K) (pv 4) (pv 8) (fun _ _ => rfl)) pe_int (fun _ _ => rfl)) pe_int) (pa_cons (pe_ix (HS.ixt K) (pe_ix (HS.ixl K) (pv 4) (pe_op op_sub (pv 8) pe_int) (fun _ _ => rfl)) pe_int (fun _ _ => rfl)) (pa_cons (pe_op op_sub pe_int (pe_call G__law_draw (hr.mono (by decide)) (by rfl) T.g__law_draw T.F__law_draw.kp T.b__law_draw .nil pass0 (pa_cons (pv 0) (pa_cons (HS.pe_fold (100000000000000000000000000000) (pe_op op_pow pe_int pe_int) (by intro σ H Q q; walk_at "fold")) pa_nil)))) pa_nil)))))) (pe_call G__law_draw (hr.mono (by decide)) (by rfl) T.g__law_draw T.F__law_draw.kp T.b__law_draw .nil pass0 (pa_cons (pv 0) (pa_cons pe_int pa_nil))) (fun _ _ => rfl)))
    (pss_cons (ps_set (i := 3) sc__law_chains_right.nd rfl (.inl rfl) (pe_ix (HS.ixl K) (pe_lst (pa_cons (pv 3) (pa_cons (pe_ix (HS.ixt K) (pe_ix (HS.ixl K) (pv 4) (pv 8) (fun _ _ => rfl)) pe_int (fun _ _ => rfl)) pa_nil))) (pe_call G__law_draw (hr.mono (by decide)) (by rfl) T.g__law_draw T.F__law_draw.kp T.b__law_draw .nil pass0 (pa_cons (pv 0) (pa_cons pe_int pa_nil))) (fun _ _ => rfl)))
    (pss_one (ps_asg (pe_tup (pa_cons (pv 3) (pa_cons (pe_op op_sub (pe_op op_add (pe_ix (HS.ixt K) (pe_ix (HS.ixl K) (pv 4) (pv 8) (fun _ _ => rfl)) pe_int (fun _ _ => rfl)) (pe_call G__law_draw (hr.mono (by decide)) (by rfl) T.g__law_draw T.F__law_draw.kp T.b__law_draw .nil pass0 (pa_cons (pv 0) (pa_cons pe_int pa_nil)))) pe_int) pa_nil))) (pg_sub (pv 4) (pv 8) set_list)))))))
    (Evl.pss_cut (ps_if (pt_cmpR op_eq (pe_call G__law_draw (hr.mono (by decide)) (by rfl) T.g__law_draw T.F__law_draw.kp T.b__law_draw .nil pass0 (pa_cons (pv 0) (pa_cons pe_int pa_nil))) pe_int (nomark _))
      (pss_one (ps_asg (pe_op op_sub (pe_un un_neg pe_int) (pe_call G__law_draw (hr.mono (by decide)) (by rfl) T.g__law_draw T.F__law_draw.kp T.b__law_draw .nil pass0 (pa_cons (pv 0) (pa_cons (pe_ix (HS.ixl K) (pe_lst (pa_cons pe_int (pa_cons (HS.pe_fold (100000000000000000000000000000) (pe_op op_pow pe_int pe_int) (by intro σ H Q q; walk_at "fold")) pa_nil))) (pe_call G__law_draw (hr.mono (by decide)) (by rfl) T.g__law_draw T.F__law_draw.kp T.b__law_draw .nil pass0 (pa_cons (pv 0) (pa_cons pe_int pa_nil))) (fun _ _ => rfl)) pa_nil)))) (pg_sub (pv 6) (pe_call G__law_draw (hr.mono (by decide)) (by rfl) T.g__law_draw T.F__law_draw.kp T.b__law_draw .nil pass0 (pa_cons (pv 0) (pa_cons pe_int pa_nil))) set_list)))
      pss_nil)
    (pss_cons (ps_set (i := 9) sc__law_chains_right.nd rfl (.inl rfl) (pe_call G__law_bad_chain (hr.mono (by decide)) (by rfl) T.g__law_bad_chain T.F__law_bad_chain.kp T.b__law_bad_chain .nil pass0 (pa_cons (pv 4) pa_nil)))
    (Evl.pss_cut (ps_if (pt_cmpR op_lt (pe_ix (HS.ixl K) (pv 6) pe_int (fun _ _ => rfl)) pe_int (nomark _))
      (pss_one (ps_set (i := 9) sc__law_chains_right.nd rfl (.inl rfl) (pe_lst (pa_cons pe_str (pa_cons (pe_ix (HS.ixl K) (pv 6) pe_int (fun _ _ => rfl)) pa_nil)))))
      pss_nil)
    (Evl.pss_cut (ps_if (pt_cmpR op_lt (pe_ix (HS.ixl K) (pv 6) pe_int (fun _ _ => rfl)) pe_int (nomark _))
      (pss_one (ps_set (i := 9) sc__law_chains_right.nd rfl (.inl rfl) (pe_lst (pa_cons pe_str (pa_cons (pe_ix (HS.ixl K) (pv 6) pe_int (fun _ _ => rfl)) pa_nil)))))
      pss_nil)
    (pss_cons (ps_set (i := 10) sc__law_chains_right.nd rfl (.inl rfl) (pe_callB (HS.krepr K hg hr) (by rfl) T.z_repr (by decide +kernel) (pa_cons (pv 4) pa_nil)))
    (pss_cons (ps_setLc (i := 11) (own := [("way", 12)]) (g := gName 12) (tt := tYes) rfl sc__law_chains_right.nd rfl rfl (sw_true rfl rfl rfl (by decide +kernel)) (HS.kit K (pi_tup (pe_tup (pa_cons pe_int (pa_cons pe_int (pa_cons pe_int pa_nil)))))) (blkOk_by (own := [("way", 12)]) (N := N__law_chains_right) (sc := defScope s__law_chains_right) (by decide +kernel)) (fun _ _ _ _ _ => pg_name (i := 12) sc__law_chains_right.nd rfl (by first | exact .inl rfl | exact .inr rfl)) (fun _ _ _ _ _ => pts_nil) (fun _ _ _ _ _ => (pe_call G__law_told hr (by rfl) T.g__law_told T.F__law_told.kp T.b__law_told .nil pass0 (pa_cons (pv 12) (pa_cons (pv 4) (pa_cons (pe_lst pa_nil) (pa_cons (pv 6) pa_nil)))))))
    (pss_cons (ps_if (PW.pt (pw_or (pt_cmpR (HS.kne K (hu64 hr)) (pe_slice (HS.sll K) (pv 11) po_none (po_some pe_int)) (pe_lst (pa_cons (pv 9) (pa_cons (pv 9) pa_nil))) (nomark _)) (pw_or1 (pt_cmpR op_ne (pe_callB (HS.krepr K hg hr) (by rfl) T.z_repr (by decide +kernel) (pa_cons (pv 4) pa_nil)) (pv 10) (nomark _)))))
      (pss_one (ps_ret pe_bl))
      pss_nil)
    (Evl.pss_cut (ps_if (pt_cmpR op_isN (pv 9) pe_non (nomark _))
      (pss_one (ps_set (i := 9) sc__law_chains_right.nd rfl (.inl rfl) (pe_ifExp (pt_chain op_le op_lt pe_int (pv 5) (pe_call G_count_fitting (hr.mono (by decide)) (by rfl) T.g_count_fitting T.F_count_fitting.kp T.b_count_fitting .nil passL (pa_cons (pe_ix (HS.ixl K) (pv 6) pe_int (fun _ _ => rfl)) (pa_cons (pe_ix (HS.ixl K) (pv 6) pe_int (fun _ _ => rfl)) (pa_cons (pv 4) pa_nil))))) pe_non (pe_lst (pa_cons pe_str (pa_cons (pv 5) pa_nil))))))
      pss_nil)
    (pss_one (ps_ret (pe_cmpR (HS.keq K (hu64 hr)) (pe_ix (HS.ixl K) (pv 11) pe_int (fun _ _ => rfl)) (pv 9) (nomark _)))))))))))))))))), ?_⟩
    obtain ⟨S0, hn, k⟩ := hw
    have W := wd_rng S0
    walk_at "hs"
    refine ⟨s, 5, _, rfl, W.rng 0 rfl, by decide, by decide, by omega, fun H1 m K1 S1 m0 m1 => ?_⟩
    replace W := W.drawn 0 rfl K1 S1
    clear K1 S1
    obtain ⟨m, rfl⟩ := Int.eq_ofNat_of_zero_le m0
    walk_at "hs"
    refine ⟨by omega, by omega, fun D hD => lc_range (lo := 0) (n := m) (fun j H' => ∃ ls : List Int, HS.Wd H H' (fun a => a = s) [(s, RngO (n + 1 + j)), (D, Eq (.lst (ls.map V.int)))] ∧ ls.length = j ∧ Lens ls 6) ⟨[], W.new hD rfl, rfl, fun x hx => absurd hx List.not_mem_nil⟩ ?_ ?_⟩
    · rintro j H4 hj ⟨ls, W, hll, hL⟩
      walk_at "hs"
      refine ⟨s, 6, _, rfl, W.rng 0 rfl, by decide, by decide, by omega, fun H6 e K6 S6 e0 e1 => ?_⟩
      replace W := W.drawn 0 rfl K6 S6
      clear K6 S6
      walk_at "hs"
      refine ⟨_, W.at 1 rfl, HS.sz (by rw [List.length_map]; omega), ls ++ [1 + e], (W.put 1 rfl (P' := Eq (.lst ((ls ++ [1 + e]).map V.int))) (by rw [List.map_append]; rfl)).rup 0 rfl (by omega), by rw [List.length_append, hll]; rfl, fun x hx => ?_⟩
      rcases List.mem_append.mp hx with hx | hx
      · exact hL x hx
      · rw [List.mem_singleton] at hx; omega
    rintro H4 ⟨ls, W, hll, hL⟩
    have hl1 := hL.one
    have lsum := lens_sum hL
    replace W := W.rup 0 rfl (show _ ≤ n + 5 by omega)
    walk_at "hs"
    refine ⟨s, 5, 4, _, rfl, W.rng 0 rfl, by decide, by decide, by decide, by decide, by omega, fun H6 z ws K6 hz0 hzs hz hwl hU hXB S6 => ?_⟩
    replace W := W.madeT (W.drawn 0 rfl K6 S6) rfl hz0 hz (P := Eq _) rfl
    walk_at "hs"
    refine ⟨⟨_, W.sq 2 rfl⟩, fun R hR => lc_list (xs := ws.map V.int) (fun j H' => ∃ zs, HS.Wd H H' (fun a => a = s) [(s, RngO (n + 5 + 30)), (D, Eq (.lst (ls.map V.int))), (z, Eq (.lst (ws.map V.int))), (R, Eq (.lst zs))] ∧ HS.Prs H' zs ((ws.take j).map fun w => (w, pcount ls w))) ⟨[], W.new hR rfl, trivial⟩ (fun j H' _ ⟨_, W', _⟩ => W'.sq 2 rfl) ?_ ?_⟩
    · rintro j x H7 hj ⟨zs, W, hP⟩
      obtain ⟨w, rfl, hw, hjl⟩ := HS.get_int hj
      have wB := hXB w (List.mem_of_getElem? hw)
      have zl := hP.len
      rw [List.length_map, List.length_take] at zl
      walk_at "hs"
      refine ⟨D, ls, w, rfl, W.sq 1 rfl, by omega, wB.1, by omega, fun H8 K8 => ?_⟩
      replace W := W.same K8
      replace hP := HS.Prs.same hP K8
      walk_at "hs"
      intro y hy
      generalize hG_y : upd _ y _ = H9
      have Kn_y := HS.upgK hG_y hy
      replace W := W.newG hG_y hy
      clear hG_y hy
      try dsimp only [List.set, List.cons_append, List.nil_append] at W
      replace hP := HS.Prs.same hP Kn_y
      refine ⟨_, W.at 3 rfl, HS.sz (by omega), zs ++ [.ref y], (W.put 3 rfl rfl).take 4, ?_⟩
      rw [List.take_add_one, hw, List.map_append]
      exact HS.Prs.put (W.at 3 rfl) (HS.Prs.snoc hP (W.at 4 rfl))
    rintro H7 ⟨zs, W, hP⟩
    rw [List.length_map, List.take_length] at hP
    have zl := hP.len
    rw [List.length_map] at zl
    have efst : (ws.map fun w => (w, pcount ls w)).map (·.1) = ws := by rw [List.map_map]; exact List.map_id _
    have hch : ChOk 0 (ws.map fun w => (w, pcount ls w)) := by rw [chok_up, efst]; exact hU
    have hpB : ∀ p ∈ ws.map fun w => (w, pcount ls w), 1 ≤ p.1 ∧ p.1 < 2 ^ 88 - 100 ∧ 0 ≤ p.2 ∧ p.2 ≤ 24 := fun p hp => by
      obtain ⟨w, hw, rfl⟩ := List.mem_map.mp hp
      have h1 := hXB w hw
      have h2 := pcount_pos (j := w) hl1 h1.1
      have h3 := pcount_le_sum (j := w) hl1 h1.1
      exact ⟨h1.1, h1.2, h2, by dsimp only; omega⟩
    have hql : (ws.map fun w => (w, pcount ls w)).length = ws.length := List.length_map ..
    generalize (ws.map fun w => (w, pcount ls w)) = qs at hP hch hpB hql efst
    have s0 : 0 ≤ ls.sum := by omega
    replace W : HS.Wd H H7 (fun a => a = s) [(s, RngO (n + 35)), (D, Eq (.lst (ls.map V.int))), (R, Eq (.lst zs))] := W.sub (.cons₂ _ (.cons₂ _ (.cons _ (.cons₂ _ .slnil))))
    walk_at "hs"
    intro p3 hp3
    generalize hG_p3 : upd _ p3 _ = H8
    have Kn_p3 := HS.upgK hG_p3 hp3
    replace W := W.newG hG_p3 hp3
    clear hG_p3 hp3
    try dsimp only [List.set, List.cons_append, List.nil_append] at W
    replace hP := HS.Prs.same hP Kn_p3
    walk_at "hs"
    refine ⟨s, 3, _, rfl, W.rng 0 rfl, by decide, by decide, by omega, fun H9 f K9 S9 f0 f1 => ?_⟩
    replace hP := (W.rng 0 rfl).prs K9 hP
    replace W := W.drawn 0 rfl K9 S9
    clear K9 S9
    refine HS.ixI [0, -1, 100000000000000000000000000000] (W.sq 3 rfl) f0 f1 fun num _ hnum => ?_
    have hnum' : -1 ≤ num ∧ num < 2 ^ 120 := by
      simp only [List.mem_cons, List.not_mem_nil, or_false] at hnum
      rcases hnum with rfl | rfl | rfl <;> omega
    replace W := W.take 3
    walk_at "hs"
    refine HS.lenL (W.sq 1 rfl) ?_
    rw [List.length_map, hll]
    walk_at "hs"
    refine HS.sumL (W.sq 1 rfl) ?_
    walk_at "hs"
    intro L hL
    generalize hG_L : upd _ L _ = HA
    have Kn_L := HS.upgK hG_L hL
    replace W := W.newG hG_L hL
    clear hG_L hL
    try dsimp only [List.set, List.cons_append, List.nil_append] at W
    replace hP := HS.Prs.same hP Kn_L
    have hd0 : demX m ls.sum qs = none := demX_ok (by omega) s0 hch
    have few : (fitting m ls.sum qs).length ≤ 24 ^ 4 := by
      have h1 : (fitting m ls.sum qs).length ≤ (booksL m ls.sum).length := List.length_filter_le _ _
      have h2 := books_most m ls.sum s0
      have h3 : ls.sum.toNat ^ m ≤ 24 ^ m := Nat.pow_le_pow_left (by omega) m
      have h4 : 24 ^ m ≤ 24 ^ 4 := Nat.pow_le_pow_right (by decide) (by omega)
      omega
    replace W : HS.Wd H HA (fun a => a = s) [(s, RngO (n + 36)), (R, Eq (.lst zs)), (L, Eq (.lst [.int m, .int ls.sum, .int num]))] := W.sub (.cons₂ _ (.cons _ (.cons₂ _ (.cons₂ _ .slnil))))
    have hLL := W.at 2 rfl
    walk_at "hs"
    refine HS.cut (fun σ' H' => ∃ (num : Int) (x1 x3 x7 x8 x9 xa xb xc : Option V), HS.Wd H H' (fun a => a = s) [(s, RngO (n + 40)), (R, Eq (.lst zs)), (L, Eq (.lst [.int m, .int ls.sum, .int num]))] ∧ HS.Prs H' zs qs ∧ -1 ≤ num ∧ num < 2 ^ 120 ∧ σ' = [some (.ref s), x1, some (.ref D), x3, some (.ref R), some (.int num), some (.ref L), x7, x8, x9, xa, xb, xc]) ?_ ?_
    · walk_at "hs"
      refine ⟨s, 2, _, rfl, W.rng 0 rfl, by decide, by decide, by omega, fun HB g KB SB g0 g1 => ?_⟩
      replace hP := (W.rng 0 rfl).prs KB hP
      replace W := W.drawn 0 rfl KB SB
      clear KB SB
      have hLB := W.at 2 rfl
      walk_at "hs"
      refine HS.itd (fun c => ?_) (fun c => ?_)
      · walk_at "hs"
        refine ⟨R, zs, qs, m, ls.sum, rfl, W.sq 1 rfl, hP, by omega, fun p hp => by have := hpB p hp; omega, by omega, by omega, fun kk v hd => (by rw [hd0] at hd; cases hd), fun _ HC KC => ?_⟩
        rw [Int.toNat_natCast]
        generalize (fitting m ls.sum qs).length = F at few ⊢
        replace W := W.same KC
        replace hP := HS.Prs.same hP KC
        walk_at "hs"
        refine ⟨s, 9, _, rfl, W.rng 0 rfl, by decide, by decide, by omega, fun HD e KD SD e0 e1 => ?_⟩
        replace hP := (W.rng 0 rfl).prs KD hP
        replace W := W.drawn 0 rfl KD SD
        clear KD SD
        walk_at "hs"
        intro p4 hp4
        generalize hG_p4 : upd _ p4 _ = HE
        have Kn_p4 := HS.upgK hG_p4 hp4
        replace W := W.newG hG_p4 hp4
        clear hG_p4 hp4
        try dsimp only [List.set, List.cons_append, List.nil_append] at W
        replace hP := HS.Prs.same hP Kn_p4
        walk_at "hs"
        refine ⟨s, 3, _, rfl, W.rng 0 rfl, by decide, by decide, by omega, fun HF h KF SF h0 h1 => ?_⟩
        replace hP := (W.rng 0 rfl).prs KF hP
        replace W := W.drawn 0 rfl KF SF
        clear KF SF
        refine HS.ixI [(F : Int), (F : Int) - 1, (F : Int) + e] (W.sq 3 rfl) h0 h1 fun y _ hy => ?_
        have hy' : -1 ≤ y ∧ y < 2 ^ 120 := by
          simp only [List.mem_cons, List.not_mem_nil, or_false] at hy
          rcases hy with rfl | rfl | rfl <;> omega
        walk_at "hs"
        refine HS.setL (j := 2) (W.at 2 rfl) rfl ?_
        replace hP := HS.Prs.put (o := .lst ([V.int m, V.int ls.sum, V.int num].set 2 (V.int y))) (W.at 2 rfl) hP
        replace W := (W.put 2 rfl (P' := Eq (.lst [.int m, .int ls.sum, .int y])) rfl).take 3
        have hLG := W.at 2 rfl
        walk_at "hs"
        exact ⟨y, _, _, _, _, _, _, _, _, W.rup 0 rfl (by omega), hP, hy'.1, hy'.2, rfl⟩
      · walk_at "hs"
        exact ⟨num, _, _, _, _, _, _, _, _, W.rup 0 rfl (by omega), hP, hnum'.1, hnum'.2, rfl⟩
    clear hP W hLL hnum' hnum hd0 few
    rintro σ' HB ⟨num, x1, x3, x7, x8, x9, xa, xb, xc, W, hP, n0, n1, rfl⟩
    walk_at "hs"
    refine ⟨s, 3, _, rfl, W.rng 0 rfl, by decide, by decide, by omega, fun HC d KC SC d0 d1 => ?_⟩
    replace hP := (W.rng 0 rfl).prs KC hP
    replace W := W.drawn 0 rfl KC SC
    clear KC SC
    walk_at "hs"
    intro e1 he1
    generalize hG_e1 : upd _ e1 _ = HD
    have Kn_e1 := HS.upgK hG_e1 he1
    replace W := W.newG hG_e1 he1
    clear hG_e1 he1
    try dsimp only [List.set, List.cons_append, List.nil_append] at W
    replace hP := HS.Prs.same hP Kn_e1
    walk_at "hs"
    refine HS.neP (ys := []) (W.sq 1 rfl) hP (W.sq 3 rfl) trivial ?_
    walk_at "hs"
    replace W := W.take 3
    refine .inr ⟨_, rfl, ?_⟩
    obtain ⟨B, hB⟩ : ∃ B : Int, (if (!decide (qs = [])) = true then (1 : Int) else 0) = B := ⟨_, rfl⟩
    have hB1 : (B = 0 ∨ B = 1) ∧ (B = 1 → qs ≠ []) := by
      rw [← hB]
      by_cases c : qs = []
      · rw [decide_eq_true c]; exact ⟨.inl rfl, fun z => by cases z⟩
      · rw [decide_eq_false c]; exact ⟨.inr rfl, fun _ => c⟩
    rw [hB]
    walk_at "hs"
    refine ⟨HS.mulW 60 60 d0 (by omega) (by omega) (by omega) (by decide) (by decide) (by decide), ?_⟩
    obtain ⟨T0, hT0⟩ : ∃ T0 : Int, d * B = T0 := ⟨_, rfl⟩
    have hT1 : 0 ≤ T0 ∧ T0 ≤ 2 ∧ (0 < T0 → qs ≠ []) := by
      rw [← hT0]
      rcases hB1.1 with e | e
      · subst e; rw [Int.mul_zero]; exact ⟨by decide, by decide, fun z => absurd z (by decide)⟩
      · rw [e, Int.mul_one]; exact ⟨d0, by omega, fun _ => hB1.2 e⟩
    rw [hT0]
    walk_at "hs"
    refine ⟨by omega, by omega, for_range (n := T0.toNat) (fun i σ H' => ∃ (zs : List V) (qs' : List (Int × Int)) (x1 x3 x7 x8 x9 xa xb xc : Option V), HS.Wd H H' (fun a => a = s) [(s, RngO (n + 41 + 10 * i)), (R, Eq (.lst zs)), (L, Eq (.lst [.int m, .int ls.sum, .int num]))] ∧ HS.Prs H' zs qs' ∧ qs'.length = qs.length ∧ (∀ p ∈ qs', -(2 ^ 98) < p.1 ∧ p.1 < 2 ^ 88 - 100 + i ∧ -1000 - (i : Int) ≤ p.2 ∧ p.2 ≤ 1000 + i) ∧ σ = [some (.ref s), x1, some (.ref D), x3, some (.ref R), some (.int num), some (.ref L), x7, x8, x9, xa, xb, xc]) ⟨zs, qs, _, _, _, _, _, _, _, _, W, hP, rfl, fun p hp => by have := hpB p hp; omega, rfl⟩ ?_ ?_⟩
    · clear hP W
      rintro i σ HE hi ⟨zs, qs', x1, x3, x7, x8, x9, xa, xb, xc, W, hP, hql', hpB', rfl⟩
      have i2 : i < 2 := by omega
      have q0 : 0 < qs.length := List.length_pos_iff.mpr (hT1.2.2 (by omega))
      have zl := hP.len
      walk_at "hs"
      refine HS.lenL (W.sq 1 rfl) ?_
      walk_at "hs"
      refine ⟨s, _, _, rfl, W.rng 0 rfl, by omega, by omega, by omega, fun HF sp KF SF sp0 sp1 => ?_⟩
      replace hP := (W.rng 0 rfl).prs KF hP
      replace W := W.drawn 0 rfl KF SF
      clear KF SF
      walk_at "hs"
      refine HS.ixV (W.sq 1 rfl) sp0 sp1 fun v hv _ => ?_
      obtain ⟨q, p0, rfl, hp0, hq⟩ := HS.Prs.at hP hv
      have pB0 := hpB' p0 (List.mem_of_getElem? hp0)
      walk_at "hs"
      refine HS.ixN_v (W.sq 1 rfl) (by omega) (by omega) fun v hv2 => ?_
      obtain ⟨j1, hj1⟩ := List.getElem?_of_mem hv2
      obtain ⟨q2, p2, rfl, hp2, hq2⟩ := HS.Prs.at hP hj1
      have pB2 := hpB' p2 (List.mem_of_getElem? hp2)
      walk_at "hs"
      refine ⟨s, 100000000000000000000000000000, _, rfl, W.rng 0 rfl, by decide, by decide, by omega, fun HG e KG SG e0 e1' => ?_⟩
      replace hP := (W.rng 0 rfl).prs KG hP
      replace W := W.drawn 0 rfl KG SG
      clear KG SG
      walk_at "hs"
      intro p5 hp5
      generalize hG_p5 : upd _ p5 _ = HH
      have Kn_p5 := HS.upgK hG_p5 hp5
      replace W := W.newG hG_p5 hp5
      clear hG_p5 hp5
      try dsimp only [List.set, List.cons_append, List.nil_append] at W
      replace hP := HS.Prs.same hP Kn_p5
      walk_at "hs"
      refine ⟨s, 5, _, rfl, W.rng 0 rfl, by decide, by decide, by omega, fun HI f KI SI f0 f1 => ?_⟩
      replace hP := (W.rng 0 rfl).prs KI hP
      replace W := W.drawn 0 rfl KI SI
      clear KI SI
      refine HS.ixI [0, -1, p0.1 + 1, p2.1, 0 - e] (W.sq 3 rfl) f0 f1 fun wd _ hwd => ?_
      have hwd' : -(2 ^ 98) < wd ∧ wd < 2 ^ 88 - 100 + (i : Int) + 1 := by
        simp only [List.mem_cons, List.not_mem_nil, or_false] at hwd
        rcases hwd with rfl | rfl | rfl | rfl | rfl <;> omega
      replace W := W.take 3
      walk_at "hs"
      refine HS.ixV (W.sq 1 rfl) sp0 sp1 fun v hv3 _ => ?_
      cases hv.symm.trans hv3
      obtain ⟨q', p0', eq', hp0', hq'⟩ := HS.Prs.at hP hv
      cases eq'
      cases hp0.symm.trans hp0'
      walk_at "hs"
      intro p6 hp6
      generalize hG_p6 : upd _ p6 _ = HJ
      have Kn_p6 := HS.upgK hG_p6 hp6
      replace W := W.newG hG_p6 hp6
      clear hG_p6 hp6
      try dsimp only [List.set, List.cons_append, List.nil_append] at W
      replace hP := HS.Prs.same hP Kn_p6
      walk_at "hs"
      refine ⟨s, 2, _, rfl, W.rng 0 rfl, by decide, by decide, by omega, fun HK g KK SK g0 g1 => ?_⟩
      replace hP := (W.rng 0 rfl).prs KK hP
      replace W := W.drawn 0 rfl KK SK
      clear KK SK
      refine HS.ixI [wd, p0.1] (W.sq 3 rfl) g0 g1 fun wx _ hwx => ?_
      have hwx' : -(2 ^ 98) < wx ∧ wx < 2 ^ 88 - 100 + (i : Int) + 1 := by
        simp only [List.mem_cons, List.not_mem_nil, or_false] at hwx
        rcases hwx with rfl | rfl <;> omega
      replace W := W.take 3
      walk_at "hs"
      refine HS.ixV (W.sq 1 rfl) sp0 sp1 fun v hv4 _ => ?_
      cases hv.symm.trans hv4
      obtain ⟨q', p0', eq', hp0', hq''⟩ := HS.Prs.at hP hv
      cases eq'
      cases hp0.symm.trans hp0'
      walk_at "hs"
      refine ⟨s, 3, _, rfl, W.rng 0 rfl, by decide, by decide, by omega, fun HL h KL SL h0 h1 => ?_⟩
      replace hP := (W.rng 0 rfl).prs KL hP
      replace W := W.drawn 0 rfl KL SL
      clear KL SL
      walk_at "hs"
      intro p7 hp7
      generalize hG_p7 : upd _ p7 _ = HM
      have Kn_p7 := HS.upgK hG_p7 hp7
      replace W := W.newG hG_p7 hp7
      clear hG_p7 hp7
      try dsimp only [List.set, List.cons_append, List.nil_append] at W
      replace hP := HS.Prs.same hP Kn_p7
      walk_at "hs"
      have ki : ixN zs.length sp = some sp.toNat := by unfold ixN; rw [if_pos sp0, if_pos (by omega)]
      refine HS.setL (W.at 1 rfl) ki ?_
      refine ⟨zs.set sp.toNat (.ref p7), qs'.set sp.toNat (wx, p0.2 + h - 1), _, _, _, _, _, _, _, _, ((W.put 1 rfl rfl).take 3).rup 0 rfl (by omega), HS.Prs.put (W.at 1 rfl) (HS.Prs.setAt (p := (wx, p0.2 + h - 1)) (W.at 3 rfl) hP), by rw [List.length_set]; exact hql', fun p hp => ?_, rfl⟩
      rcases List.mem_or_eq_of_mem_set hp with h | h
      · have := hpB' p h; omega
      · subst h
        dsimp only
        omega
    clear hP W
    rintro σ HE ⟨zs, qs', x1, x3, x7, x8, x9, xa, xb, xc, W, hP, hql', hpB', rfl⟩
    replace hpB' : ∀ p ∈ qs', -(2 ^ 98) < p.1 ∧ p.1 < 2 ^ 88 ∧ -2000 ≤ p.2 ∧ p.2 ≤ 2000 := fun p hp => by have := hpB' p hp; omega
    have hLE := W.at 2 rfl
    replace W := W.rup 0 rfl (show _ ≤ n + 70 by omega)
    walk_at "hs"
    refine HS.cut (fun σ' H' => ∃ (c l : Int) (x1 x3 x7 x8 x9 xa xb xc : Option V), HS.Wd H H' (fun a => a = s) [(s, RngO (n + 80)), (R, Eq (.lst zs)), (L, Eq (.lst [.int c, .int l, .int num]))] ∧ HS.Prs H' zs qs' ∧ -(2 ^ 120) < c ∧ c ≤ 11 ∧ -(2 ^ 120) < l ∧ l < 2 ^ 90 ∧ σ' = [some (.ref s), x1, some (.ref D), x3, some (.ref R), some (.int num), some (.ref L), x7, x8, x9, xa, xb, xc]) ?_ ?_
    · walk_at "hs"
      refine ⟨s, 3, _, rfl, W.rng 0 rfl, by decide, by decide, by omega, fun HF g KF SF g0 g1 => ?_⟩
      replace hP := (W.rng 0 rfl).prs KF hP
      replace W := W.drawn 0 rfl KF SF
      clear KF SF
      walk_at "hs"
      refine HS.itd (fun cc => ?_) (fun cc => ?_)
      · walk_at "hs"
        intro p8 hp8
        generalize hG_p8 : upd _ p8 _ = HG
        have Kn_p8 := HS.upgK hG_p8 hp8
        replace W := W.newG hG_p8 hp8
        clear hG_p8 hp8
        try dsimp only [List.set, List.cons_append, List.nil_append] at W
        replace hP := HS.Prs.same hP Kn_p8
        walk_at "hs"
        refine ⟨s, 2, _, rfl, W.rng 0 rfl, by decide, by decide, by omega, fun HH h KH SH h0 h1 => ?_⟩
        replace hP := (W.rng 0 rfl).prs KH hP
        replace W := W.drawn 0 rfl KH SH
        clear KH SH
        refine HS.ixI [1, 100000000000000000000000000000] (W.sq 3 rfl) h0 h1 fun y _ hy => ?_
        have hy' : 1 ≤ y ∧ y < 2 ^ 110 := by
          simp only [List.mem_cons, List.not_mem_nil, or_false] at hy
          rcases hy with rfl | rfl <;> omega
        walk_at "hs"
        refine ⟨s, y, _, rfl, W.rng 0 rfl, by omega, by omega, by omega, fun HI e KI SI e0 e1 => ?_⟩
        replace hP := (W.rng 0 rfl).prs KI hP
        replace W := W.drawn 0 rfl KI SI
        clear KI SI
        walk_at "hs"
        refine ⟨s, 2, _, rfl, W.rng 0 rfl, by decide, by decide, by omega, fun HJ t KJ SJ t0 t1 => ?_⟩
        replace hP := (W.rng 0 rfl).prs KJ hP
        replace W := (W.drawn 0 rfl KJ SJ).take 3
        clear KJ SJ
        have t01 : t = 0 ∨ t = 1 := by omega
        rcases t01 with rfl | rfl
        · refine HS.setL (j := 0) (W.at 2 rfl) rfl ?_
          replace hP := HS.Prs.put (o := .lst ([V.int m, V.int ls.sum, V.int num].set 0 (V.int (-1 - e)))) (W.at 2 rfl) hP
          exact ⟨-1 - e, ls.sum, _, _, _, _, _, _, _, _, (W.put 2 rfl (P' := Eq (.lst [.int (-1 - e), .int ls.sum, .int num])) rfl).rup 0 rfl (by omega), hP, by omega, by omega, by omega, by omega, rfl⟩
        · refine HS.setL (j := 1) (W.at 2 rfl) rfl ?_
          replace hP := HS.Prs.put (o := .lst ([V.int m, V.int ls.sum, V.int num].set 1 (V.int (-1 - e)))) (W.at 2 rfl) hP
          exact ⟨m, -1 - e, _, _, _, _, _, _, _, _, (W.put 2 rfl (P' := Eq (.lst [.int m, .int (-1 - e), .int num])) rfl).rup 0 rfl (by omega), hP, by omega, by omega, by omega, by omega, rfl⟩
      · walk_at "hs"
        exact ⟨m, ls.sum, _, _, _, _, _, _, _, _, W.rup 0 rfl (by omega), hP, by omega, by omega, by omega, by omega, rfl⟩
    clear hP W hLE x1 x3 x7 x8 x9 xa xb xc
    rintro σ' HF ⟨c, l, x1, x3, x7, x8, x9, xa, xb, xc, W, hP, c0, c1, l0, l1, rfl⟩
    walk_at "hs"
    refine ⟨R, zs, qs', rfl, W.sq 1 rfl, hP, fun p hp => by have := hpB' p hp; omega, fun bv HG KG hbv => ?_⟩
    replace W := W.same KG
    replace hP := HS.Prs.same hP KG
    have hLG := W.at 2 rfl
    clear KG
    walk_at "hs"
    refine HS.cut (fun σ' H' => ∃ (bv : V) (x1 x3 x7 x8 xa xb xc : Option V), HS.Wd H H' (fun a => a = s) [(s, RngO (n + 80)), (R, Eq (.lst zs)), (L, Eq (.lst [.int c, .int l, .int num]))] ∧ HS.Prs H' zs qs' ∧ DueAt H' bv (if l < 0 then some (2, l) else (badCh 0 qs').map fun i => (3, (i : Int))) ∧ σ' = [some (.ref s), x1, some (.ref D), x3, some (.ref R), some (.int num), some (.ref L), x7, x8, some bv, xa, xb, xc]) ?_ ?_
    · walk_at "hs"
      refine HS.itd (fun cc => ?_) (fun cc => ?_)
      · walk_at "hs"
        intro nb hnb
        generalize hG_nb : upd _ nb _ = HH
        have Kn_nb := HS.upgK hG_nb hnb
        replace W := W.newG hG_nb hnb
        clear hG_nb hnb
        try dsimp only [List.set, List.cons_append, List.nil_append] at W
        refine ⟨.ref nb, _, _, _, _, _, _, _, W.take 3, HS.Prs.same hP Kn_nb, ?_, rfl⟩
        rw [if_pos cc]
        exact ⟨nb, rfl, W.at 3 rfl⟩
      · walk_at "hs"
        refine ⟨bv, _, _, _, _, _, _, _, W, hP, ?_, rfl⟩
        rw [if_neg cc]
        exact hbv
    clear hbv hP W hLG x1 x3 x7 x8 x9 xa xb xc
    rintro σ' HG ⟨bv, x1, x3, x7, x8, xa, xb, xc, W, hP, hbv, rfl⟩
    have hLG := W.at 2 rfl
    walk_at "hs"
    refine HS.cut (fun σ' H' => ∃ (bv : V) (x1 x3 x7 x8 xa xb xc : Option V), HS.Wd H H' (fun a => a = s) [(s, RngO (n + 80)), (R, Eq (.lst zs)), (L, Eq (.lst [.int c, .int l, .int num]))] ∧ HS.Prs H' zs qs' ∧ DueAt H' bv (demX c l qs') ∧ σ' = [some (.ref s), x1, some (.ref D), x3, some (.ref R), some (.int num), some (.ref L), x7, x8, some bv, xa, xb, xc]) ?_ ?_
    · walk_at "hs"
      refine HS.itd (fun cc => ?_) (fun cc => ?_)
      · walk_at "hs"
        intro nb hnb
        generalize hG_nb : upd _ nb _ = HH
        have Kn_nb := HS.upgK hG_nb hnb
        replace W := W.newG hG_nb hnb
        clear hG_nb hnb
        try dsimp only [List.set, List.cons_append, List.nil_append] at W
        refine ⟨.ref nb, _, _, _, _, _, _, _, W.take 3, HS.Prs.same hP Kn_nb, ?_, rfl⟩
        unfold demX
        rw [if_pos cc]
        exact ⟨nb, rfl, W.at 3 rfl⟩
      · walk_at "hs"
        refine ⟨bv, _, _, _, _, _, _, _, W, hP, ?_, rfl⟩
        unfold demX
        rw [if_neg cc]
        exact hbv
    clear hbv hP W hLG x1 x3 x7 x8 xa xb xc
    rintro σ' HG ⟨bv, x1, x3, x7, x8, xa, xb, xc, W, hP, hbv, rfl⟩
    have hqB : ∀ p ∈ qs', -(2 ^ 98) < p.1 ∧ p.1 < 2 ^ 88 ∧ -(2 ^ 98) < p.2 ∧ p.2 < 2 ^ 98 := fun p hp => by have := hpB' p hp; omega
    walk_at "hs"
    refine HS.repP (W.sq 1 rfl) hP (fun p hp => by have := hpB' p hp; omega) (by omega) ?_
    walk_at "hs"
    intro tp htp
    generalize hG_tp : upd _ tp _ = HH
    have Kn_tp := HS.upgK hG_tp htp
    replace W := W.newG hG_tp htp
    clear hG_tp htp
    try dsimp only [List.set, List.cons_append, List.nil_append] at W
    replace hP := HS.Prs.same hP Kn_tp
    replace hbv := hbv.same Kn_tp
    walk_at "hs"
    refine ⟨⟨_, HS.st (W.at 3 rfl)⟩, fun D2 hD2 => lc_tup (xs := [V.int 4, V.int 5, V.int 6]) (fun j H' => ∃ vs : List V, HS.Wd H H' (fun a => a = s) [(s, RngO (n + 80)), (R, Eq (.lst zs)), (L, Eq (.lst [.int c, .int l, .int num])), (tp, Eq (.tup [.int 4, .int 5, .int 6])), (D2, Eq (.lst vs))] ∧ HS.Prs H' zs qs' ∧ DueAt H' bv (demX c l qs') ∧ bv ≠ .ref D2 ∧ vs.length = j ∧ ∀ (i : Nat) (v : V), vs[i]? = some v → v ≠ .ref D2 ∧ ∃ d : Due, ([demX c l qs', demX c l qs', nthX c l num qs'] : List Due)[i]? = some d ∧ DueAt H' v d) ⟨[], W.new hD2 rfl, HS.Prs.same hP (.new hD2), hbv.same (.new hD2), hbv.ne hD2, rfl, fun i v (hv : ([] : List V)[i]? = some v) => absurd hv (by simp)⟩ (fun j H' _ ⟨_, W', _⟩ => HS.st (W'.at 3 rfl)) ?_ ?_⟩
    · clear hP W hbv
      rintro j x HI hj ⟨vs, W, hP, hbv, hbn, hvl, hvs⟩
      obtain ⟨wy, rfl, hT⟩ : ∃ wy : Nat, x = .int wy ∧ ∃ d : Due, ([demX c l qs', demX c l qs', nthX c l num qs'] : List Due)[j]? = some d ∧ ∀ H' e, SqL K H' R zs → HS.Prs H' zs qs' → SqL K H' L [.int c, .int l, .int num] → Told K H' wy R e L d := by
        match j, hj with
        | 0, hj => cases hj; exact ⟨4, rfl, _, rfl, fun H' e h1 h2 h3 => .chn c l zs [.int num] qs' (.inl rfl) h1 h2 h3 (by omega) hqB c1 l1⟩
        | 1, hj => cases hj; exact ⟨5, rfl, _, rfl, fun H' e h1 h2 h3 => .chn c l zs [.int num] qs' (.inr rfl) h1 h2 h3 (by omega) hqB c1 l1⟩
        | 2, hj => cases hj; exact ⟨6, rfl, _, rfl, fun H' e h1 h2 h3 => .nth c l num zs qs' rfl h1 h2 h3 (by omega) hqB c1 l1⟩
        | j + 3, hj => simp at hj
      obtain ⟨d, hd, hT⟩ := hT
      have jl : j < 3 := (List.getElem?_eq_some_iff.mp hd).1
      walk_at "hs"
      intro e he
      generalize hG_e : upd _ e _ = HJ
      have Kn_e := HS.upgK hG_e he
      replace W := W.newG hG_e he
      clear hG_e he
      try dsimp only [List.set, List.cons_append, List.nil_append] at W
      replace hP := HS.Prs.same hP Kn_e
      walk_at "hs"
      refine ⟨wy, R, e, L, d, rfl, hT _ e (W.sq 1 rfl) hP (W.sq 2 rfl), fun v HK KK hv => ?_⟩
      replace W := W.same KK
      replace hP := HS.Prs.same hP KK
      have K2 := Kn_e.trans KK
      have vn : v ≠ .ref D2 := fun z => by
        rw [z] at hv
        cases d with
        | none => cases hv
        | some y =>
          obtain ⟨p, e1, hp⟩ := hv
          cases e1
          have h2 := W.at 4 rfl
          rw [hp] at h2
          have h3 := HO.lst.inj (Option.some.inj h2)
          have h4 := hvs 0 (.str (word4 y.1)) (by rw [← h3]; rfl)
          obtain ⟨_, d', _, h5⟩ := h4
          cases d' with
          | none => cases h5
          | some y' => obtain ⟨p', e', _⟩ := h5; cases e'
      walk_at "hs"
      refine ⟨vs, W.at 4 rfl, HS.sz (by omega), vs ++ [v], (W.put 4 rfl rfl).take 5, HS.Prs.put (W.at 4 rfl) hP, (hbv.same K2).put hbn, hbn, by rw [List.length_append, hvl]; rfl, fun i u hu => ?_⟩
      by_cases c2 : i < vs.length
      · rw [List.getElem?_append_left c2] at hu
        obtain ⟨h1, d', h2, h3⟩ := hvs i u hu
        exact ⟨h1, d', h2, (h3.same K2).put h1⟩
      · have il : i < (vs ++ [v]).length := (List.getElem?_eq_some_iff.mp hu).1
        rw [List.length_append, List.length_singleton] at il
        have ei : i = vs.length := by omega
        subst ei
        rw [List.getElem?_append_right (Nat.le_refl _), Nat.sub_self] at hu
        cases hu
        exact ⟨vn, d, by rw [hvl]; exact hd, hv.put vn⟩
    clear hP W hbv
    rintro HI ⟨vs, W, hP, hbv, hbn, hvl, hvs⟩
    obtain ⟨v4, v5, v6, rfl⟩ : ∃ a b c, vs = [a, b, c] := by
      match vs, hvl with
      | [a, b, c], _ => exact ⟨a, b, c, rfl⟩
    obtain ⟨_, d4, g4, h4⟩ := hvs 0 v4 rfl
    obtain ⟨_, d5, g5, h5⟩ := hvs 1 v5 rfl
    obtain ⟨_, d6, g6, h6⟩ := hvs 2 v6 rfl
    cases g4
    cases g5
    cases g6
    clear hvs
    walk_at "hs"
    refine HS.slLs (W.sq 4 rfl) fun q hq => ?_
    have ec : cutV [v4, v5, v6] none (some 2) = [v4, v5] := by
      rw [show (2 : Int) = ((2 : Nat) : Int) from rfl, HS.cut_to]; rfl
    rw [ec]
    generalize hG_q : upd HI q _ = HJ
    have Kn_q := HS.upgK hG_q hq
    replace W := W.newG hG_q hq
    clear hG_q
    try dsimp only [List.cons_append, List.nil_append] at W
    walk_at "hs"
    intro u hu
    generalize hG_u : upd _ u _ = HK
    have Kn_u := HS.upgK hG_u hu
    replace W := W.newG hG_u hu
    clear hG_u hu
    try dsimp only [List.set, List.cons_append, List.nil_append] at W
    have K3 := Kn_q.trans Kn_u
    replace hP := HS.Prs.same hP K3
    replace hbv := hbv.same K3
    replace h4 := h4.same K3
    replace h5 := h5.same K3
    replace h6 := h6.same K3
    refine HS.neSame (.lst (W.sq 5 rfl) (.cons h4.dp (.cons h5.dp .nil))) (.lst (W.sq 6 rfl) (.cons hbv.dp (.cons hbv.dp .nil))) (due_sh2 _) (due_eqv2 _) ?_
    walk_at "hs"
    refine HS.repP (W.sq 1 rfl) hP (fun p hp => by have := hpB' p hp; omega) (by omega) ?_
    walk_at "hs"
    refine HS.neSS ?_
    walk_at "hs"
    replace W : HS.Wd H HK (fun a => a = s) [(s, RngO (n + 80)), (R, Eq (.lst zs)), (L, Eq (.lst [.int c, .int l, .int num])), (D2, Eq (.lst [v4, v5, v6]))] := W.sub (.cons₂ _ (.cons₂ _ (.cons₂ _ (.cons _ (.cons₂ _ (.cons _ (.cons _ .slnil)))))))
    have hLK := W.at 2 rfl
    refine HS.cut (fun σ' H' => ∃ (bv : V) (x1 x3 x7 x8 xa xc : Option V), HS.Wd H H' (fun a => a = s) [(s, RngO (n + 80)), (R, Eq (.lst zs)), (L, Eq (.lst [.int c, .int l, .int num])), (D2, Eq (.lst [v4, v5, v6]))] ∧ DueAt H' v6 (nthX c l num qs') ∧ DueAt H' bv (nthX c l num qs') ∧ σ' = [some (.ref s), x1, some (.ref D), x3, some (.ref R), some (.int num), some (.ref L), x7, x8, some bv, xa, some (.ref D2), xc]) ?_ ?_
    · cases hdx : demX c l qs' with
      | none =>
        have hn : nthX c l num qs' = if 0 ≤ num ∧ num < (fitting c.toNat l qs').length then none else some (2, num) := by unfold nthX; rw [hdx]
        rw [hdx] at hbv
        have e : bv = .non := hbv
        subst e
        walk_at "hs"
        refine ⟨rfl, ?_⟩
        walk_at "hs"
        refine HS.it1 rfl ?_
        walk_at "hs"
        refine HS.itd (fun c2 => ?_) (fun c2 => ?_)
        · walk_at "hs"
          refine ⟨R, zs, qs', c, l, rfl, W.sq 1 rfl, hP, by omega, hqB, c1, l1, fun kk v hd => (by rw [hdx] at hd; cases hd), fun _ HL KL => ?_⟩
          replace W := W.same KL
          replace h6 := h6.same KL
          walk_at "hs"
          refine HS.itd (fun c3 => ?_) (fun c3 => ?_)
          · walk_at "hs"
            refine ⟨.non, _, _, _, _, _, _, W, h6, ?_, rfl⟩
            rw [hn, if_pos ⟨c2, c3⟩]; rfl
          · walk_at "hs"
            intro nb hnb
            generalize hG_nb : upd _ nb _ = HM
            have Kn_nb := HS.upgK hG_nb hnb
            replace W := W.newG hG_nb hnb
            clear hG_nb hnb
            try dsimp only [List.set, List.cons_append, List.nil_append] at W
            refine ⟨.ref nb, _, _, _, _, _, _, W.take 4, h6.same Kn_nb, ?_, rfl⟩
            rw [hn, if_neg fun z => c3 z.2]
            exact ⟨nb, rfl, W.at 4 rfl⟩
        · walk_at "hs"
          intro nb hnb
          generalize hG_nb : upd _ nb _ = HM
          have Kn_nb := HS.upgK hG_nb hnb
          replace W := W.newG hG_nb hnb
          clear hG_nb hnb
          try dsimp only [List.set, List.cons_append, List.nil_append] at W
          refine ⟨.ref nb, _, _, _, _, _, _, W.take 4, h6.same Kn_nb, ?_, rfl⟩
          rw [hn, if_neg fun z => c2 z.1]
          exact ⟨nb, rfl, W.at 4 rfl⟩
      | some y =>
        have hn : nthX c l num qs' = some y := by unfold nthX; rw [hdx]
        rw [hdx] at hbv
        obtain ⟨p, e, hp⟩ := hbv
        subst e
        walk_at "hs"
        refine ⟨rfl, ?_⟩
        walk_at "hs"
        refine HS.it0 (fun z => by cases z) ?_
        walk_at "hs"
        exact ⟨.ref p, _, _, _, _, _, _, W, h6, by rw [hn]; exact ⟨p, rfl, hp⟩, rfl⟩
    clear W hLK
    rintro σ' HL ⟨bw, x1, x3, x7, x8, xa, xc, W, h6, hbw, rfl⟩
    walk_at "hs"
    refine HS.ixV (W.sq 3 rfl) (by decide) (show (2 : Int) < 3 by decide) fun v hv _ => ?_
    cases hv
    walk_at "hs"
    refine HS.eqSame h6.dp hbw.dp (due_sh1 _) (due_eqv _) ?_
    exact k _ W.kp ((W.rng 0 rfl).up (by omega))
/-- the draws go on, and a new object is there (the numbers of draws are never compared) -/
theorem _root_.HS.Wd.drawMade {H0 H H' : Hp} {S : Addr → Prop} {l : HS.WdL} {s p : Addr} {n m : Nat} {o : HO} {P : HO → Prop} (W : HS.Wd H0 H S l) (i : Nat) (e : l[i]? = some (s, RngO n)) (k : HS.Keep (fun a => a = s) H H') (r : Rng H' s m) (h0 : H p = none) (h : H' p = some o) (z : P o) : HS.Wd H0 H' S (l.set i (s, RngO m) ++ [(p, P)]) :=
  W.madeT (W.drawn i e k r) (by rw [List.map_set]; exact set_id (by rw [List.getElem?_map, e]; rfl)) h0 h z
theorem badAt_lt : ∀ {ls : List Int} {i : Nat}, badAt ls = some i → i < ls.length
  | [], i, h => by cases h
  | x :: r, i, h => by
    rw [badAt] at h
    rw [List.length_cons]
    by_cases c : x < 1
    · rw [if_pos c] at h; cases h; omega
    · rw [if_neg c] at h
      obtain ⟨j, hj, e⟩ := Option.map_eq_some_iff.mp h
      have := badAt_lt hj
      omega
theorem dueB_lt0 {xs ys : List Int} {b : Nat} (h : dueB xs ys = some b) : b < xs.length + ys.length := by
  unfold dueB at h
  cases hx : badAt xs with
  | none => rw [hx] at h; have := badAt_lt h; omega
  | some i => rw [hx] at h; cases h; have := badAt_lt hx; omega
def sp_law (K : PySem.W.Frag) : Sp := fun vs H Q _ => ∃ (a : Addr) (ns : List Int), vs = [.ref a] ∧ (SqL K H a (ns.map V.int) ∧ ns.length ≤ 63 ∧ ∀ H', Q (.bl true) H')
theorem ok_law (T : Txt K mg A) : HS.FnG P w K mg base CX0 8 A.a_law A.d_law ["script"] (sp_law K) := by
  have G__law_rng : FnOk P w K mg base CX0 1 A.a__law_rng A.d__law_rng ["script"] (sp__law_rng K) := ok__law_rng T
  have G__law_draw : FnOk P w K mg base CX0 1 A.a__law_draw A.d__law_draw ["rng", "limit"] (sp__law_draw K) := ok__law_draw T
  have G__law_counted : FnOk P w K mg base CX0 1 A.a__law_counted A.d__law_counted ["some", "wide"] (sp__law_counted K) := ok__law_counted T
  have G__law_some : FnOk P w K mg base CX0 2 A.a__law_some A.d__law_some ["rng", "most", "longest"] (sp__law_some K) := ok__law_some T
  have G__law_wrong : FnOk P w K mg base CX0 2 A.a__law_wrong A.d__law_wrong ["rows"] (sp__law_wrong K) := ok__law_wrong T
  have G__law_told : FnOk P w K mg base CX0 6 A.a__law_told A.d__law_told ["way", "one", "other", "some"] (sp__law_told K) := ok__law_told T
  have G__law_bad_book : FnOk P w K mg base CX0 2 A.a__law_bad_book A.d__law_bad_book ["rng", "some"] (sp__law_bad_book K) := ok__law_bad_book T
  have G__law_first : FnOk P w K mg base CX0 1 A.a__law_first A.d__law_first ["some"] (sp__law_first K) := ok__law_first T
  have G__law_chains_right : HS.FnG P w K mg base CX0 7 A.a__law_chains_right A.d__law_chains_right ["rng"] (sp__law_chains_right K) := ok__law_chains_right T
  refine HS.Fun.okG T.F_law sc_law (fun vs H Q E h => ?_) (fun cdv A0 outer s H vs Q E hg hr h => ?_)
  · obtain ⟨a, ns, rfl, hw⟩ := h
    rfl
  · obtain ⟨a, ns, rfl, hw⟩ := h
    refine ⟨_, (pss_cons (ps_set (i := 1) sc_law.nd rfl (.inr rfl) (pe_call G__law_rng (hr.mono (by decide)) (by rfl) T.g__law_rng T.F__law_rng.kp T.b__law_rng .nil pass0 (pa_cons (pv 0) pa_nil)))
    (pss_cons (ps_for PassesOwn.never rfl (pi_range1 (by rfl) T.z_range (pa_cons (pe_op op_add pe_int (pe_callB (call_min2 rfl) (by rfl) T.z_min (by decide +kernel) (pa_cons pe_int (pa_cons (pe_callB (HS.klen K) (by rfl) T.z_len PySem.boot_len (pa_cons (pv 0) pa_nil)) pa_nil)))) pa_nil)) (pg_name (i := 2) sc_law.nd rfl (.inl rfl))
      (pss_cons (ps_set (i := 3) sc_law.nd rfl (.inr rfl) (pe_op op_add pe_int (pe_call G__law_draw (hr.mono (by decide)) (by rfl) T.g__law_draw T.F__law_draw.kp T.b__law_draw .nil pass0 (pa_cons (pv 1) (pa_cons (pe_ix (HS.ixl K) (pe_lst (pa_cons pe_int (pa_cons pe_int pa_nil))) (pe_call G__law_draw (hr.mono (by decide)) (by rfl) T.g__law_draw T.F__law_draw.kp T.b__law_draw .nil pass0 (pa_cons (pv 1) (pa_cons pe_int pa_nil))) (fun _ _ => rfl)) pa_nil)))))
    (pss_cons (ps_setLc (i := 4) (own := [("wide", 9)]) (g := gName 9) (tt := tYes) rfl sc_law.nd rfl rfl (sw_true rfl rfl rfl (by decide +kernel)) (pi_range2 (by rfl) T.z_range (pa_cons pe_int (pa_cons (pe_op op_add (pv 3) pe_int) pa_nil))) (blkOk_by (own := [("wide", 9)]) (N := N_law) (sc := defScope s_law) (by decide +kernel)) (fun _ _ _ _ _ => pg_name (i := 9) sc_law.nd rfl (by first | exact .inl rfl | exact .inr rfl)) (fun _ _ _ _ _ => pts_nil) (fun _ _ _ _ _ => (pe_call G__law_counted (hr.mono (by decide)) (by rfl) T.g__law_counted T.F__law_counted.kp T.b__law_counted .nil pass0 (pa_cons (pe_call G__law_some (hr.mono (by decide)) (by rfl) T.g__law_some T.F__law_some.kp T.b__law_some .nil pass0 (pa_cons (pv 1) (pa_cons pe_int (pa_cons (pv 3) pa_nil)))) (pa_cons (pv 9) pa_nil)))))
    (pss_cons (ps_asg (pe_op op_sub (pe_callB (call_min2 rfl) (by rfl) T.z_min (by decide +kernel) (pa_cons pe_int (pa_cons (pe_callB (call_max2 rfl) (by rfl) T.z_max (by decide +kernel) (pa_cons pe_int (pa_cons (pe_ix (HS.ixl K) (pv 4) (pe_un un_neg pe_int) (fun _ _ => rfl)) pa_nil))) pa_nil))) (pe_op op_mul pe_int (pe_callTy call_int1 (by rfl) T.z_int (by decide +kernel) (pa_cons (pe_cmpR op_eq (pe_call G__law_draw (hr.mono (by decide)) (by rfl) T.g__law_draw T.F__law_draw.kp T.b__law_draw .nil pass0 (pa_cons (pv 1) (pa_cons pe_int pa_nil))) pe_int (nomark _)) pa_nil)))) (pg_sub (pv 4) (pe_un un_neg pe_int) set_list))
    (pss_cons (ps_set (i := 5) sc_law.nd rfl (.inl rfl) (pe_call G__law_wrong (hr.mono (by decide)) (by rfl) T.g__law_wrong T.F__law_wrong.kp T.b__law_wrong .nil pass0 (pa_cons (pv 4) pa_nil)))
    (Evl.pss_cut (ps_set (i := 6) sc_law.nd rfl (.inl rfl) (pe_ifExp (pt_cmpR op_isN (pv 5) pe_non (nomark _)) pe_non (pe_lst (pa_cons pe_str (pa_cons (pv 5) pa_nil)))))
    (pss_cons (ps_if (pt_cmpR op_ne (pe_callB (HS.krepr K hg hr) (by rfl) T.z_repr (by decide +kernel) (pa_cons (pe_lst (pa_cons (pe_call G__law_told (hr.mono (by decide)) (by rfl) T.g__law_told T.F__law_told.kp T.b__law_told .nil pass0 (pa_cons pe_int (pa_cons (pv 4) (pa_cons (pe_lst pa_nil) (pa_cons (pe_lst pa_nil) pa_nil))))) (pa_cons (pe_call G__law_told (hr.mono (by decide)) (by rfl) T.g__law_told T.F__law_told.kp T.b__law_told .nil pass0 (pa_cons pe_int (pa_cons (pv 4) (pa_cons (pe_lst pa_nil) (pa_cons (pe_lst pa_nil) pa_nil))))) pa_nil))) pa_nil)) (pe_callB (HS.krepr K hg hr) (by rfl) T.z_repr (by decide +kernel) (pa_cons (pe_lst (pa_cons (pv 6) (pa_cons (pv 6) pa_nil))) pa_nil)) (nomark _))
      (pss_one (ps_ret pe_bl))
      pss_nil)
    (pss_cons (ps_par (i := 7) (j := 8) rfl sc_law.nd rfl rfl (by decide) rfl rfl (pa_cons (pe_call G__law_bad_book (hr.mono (by decide)) (by rfl) T.g__law_bad_book T.F__law_bad_book.kp T.b__law_bad_book .nil pass0 (pa_cons (pv 1) (pa_cons (pe_call G__law_some (hr.mono (by decide)) (by rfl) T.g__law_some T.F__law_some.kp T.b__law_some .nil pass0 (pa_cons (pv 1) (pa_cons pe_int (pa_cons pe_int pa_nil)))) pa_nil))) (pa_cons (pe_call G__law_bad_book (hr.mono (by decide)) (by rfl) T.g__law_bad_book T.F__law_bad_book.kp T.b__law_bad_book .nil pass0 (pa_cons (pv 1) (pa_cons (pe_call G__law_some (hr.mono (by decide)) (by rfl) T.g__law_some T.F__law_some.kp T.b__law_some .nil pass0 (pa_cons (pv 1) (pa_cons pe_int (pa_cons pe_int pa_nil)))) pa_nil))) pa_nil)) (by rfl))
    (Evl.pss_cut (ps_set (i := 6) sc_law.nd rfl (.inl rfl) (pe_ifExp (pt_cmpR op_notN (pe_call G__law_first (hr.mono (by decide)) (by rfl) T.g__law_first T.F__law_first.kp T.b__law_first .nil pass0 (pa_cons (pv 7) pa_nil)) pe_non (nomark _)) (pe_call G__law_first (hr.mono (by decide)) (by rfl) T.g__law_first T.F__law_first.kp T.b__law_first .nil pass0 (pa_cons (pv 7) pa_nil)) (pe_call G__law_first (hr.mono (by decide)) (by rfl) T.g__law_first T.F__law_first.kp T.b__law_first .nil pass0 (pa_cons (pv 8) pa_nil))))
    (pss_cons (ps_if (pt_cmpR op_ne (pe_callB (HS.krepr K hg hr) (by rfl) T.z_repr (by decide +kernel) (pa_cons (pe_lst (pa_cons (pe_call G__law_told (hr.mono (by decide)) (by rfl) T.g__law_told T.F__law_told.kp T.b__law_told .nil pass0 (pa_cons pe_int (pa_cons (pv 7) (pa_cons (pv 8) (pa_cons (pe_lst pa_nil) pa_nil))))) (pa_cons (pe_call G__law_told (hr.mono (by decide)) (by rfl) T.g__law_told T.F__law_told.kp T.b__law_told .nil pass0 (pa_cons pe_int (pa_cons (pv 7) (pa_cons (pv 8) (pa_cons (pe_lst pa_nil) pa_nil))))) pa_nil))) pa_nil)) (pe_callB (HS.krepr K hg hr) (by rfl) T.z_repr (by decide +kernel) (pa_cons (pe_lst (pa_cons (pv 6) (pa_cons (pv 6) pa_nil))) pa_nil)) (nomark _))
      (pss_one (ps_ret pe_bl))
      pss_nil)
    (pss_one (ps_if (pt_not (pt_val (HS.pe_callG hg G__law_chains_right hr (by rfl) T.g__law_chains_right T.F__law_chains_right.kp T.b__law_chains_right pass0 (pa_cons (pv 1) pa_nil))))
      (pss_one (ps_ret pe_bl))
      pss_nil))))))))))))
    (pss_one (ps_ret (pe_cmpR (HS.keq K (hu64 hr)) (pe_call G__law_told (hr.mono (by decide)) (by rfl) T.g__law_told T.F__law_told.kp T.b__law_told .nil pass0 (pa_cons pe_int (pa_cons (pe_lst (pa_cons (pe_tup (pa_cons pe_int (pa_cons pe_int pa_nil))) (pa_cons (pe_tup (pa_cons pe_int (pa_cons pe_int pa_nil))) pa_nil))) (pa_cons (pe_lst pa_nil) (pa_cons (pe_lst (pa_cons pe_int (pa_cons pe_int pa_nil))) pa_nil))))) (pe_lst (pa_cons pe_str (pa_cons pe_int pa_nil))) (nomark _)))))), ?_⟩
    obtain ⟨hS, hl, k⟩ := hw
    walk_at "hs"
    refine ⟨a, ns, rfl, hS, hl, fun H1 s K1 hs S1 => ?_⟩
    have hS1 := K1.sq hS id
    walk_at "hs"
    rw [List.length_map]
    refine ⟨by split <;> omega, by split <;> omega, for_range (n := _) (fun i σ H' => Rng H' s (400000 * i) ∧ ∃ x2 x3 x4 x5 x6 x7 x8 x9, σ = [some (.ref a), some (.ref s), x2, x3, x4, x5, x6, x7, x8, x9]) ⟨S1, _, _, _, _, _, _, _, _, rfl⟩ ?_ ?_⟩
    · rintro i σ H2 hi ⟨S2, x2, x3, x4, x5, x6, x7, x8, x9, rfl⟩
      have hi' : i < 19 := by split at hi <;> omega
      have W := wd_rng S2
      walk_at "hs"
      intro p1 hp1
      generalize hG_p1 : upd _ p1 _ = H3
      have Kn_p1 := HS.upgK hG_p1 hp1
      replace W := W.newG hG_p1 hp1
      clear hG_p1 hp1
      try dsimp only [List.set, List.cons_append, List.nil_append] at W
      walk_at "hs"
      refine ⟨s, 2, _, rfl, W.rng 0 rfl, by decide, by decide, by omega, fun H4 d K4 S4 d0 d1 => ?_⟩
      replace W := W.drawn 0 rfl K4 S4
      refine HS.ixI [4, 60] (W.sq 1 rfl) d0 d1 fun y _ hy => ?_
      have hy' : 4 ≤ y ∧ y ≤ 60 := by simp only [List.mem_cons, List.not_mem_nil, or_false] at hy; omega
      replace W := W.take 1
      walk_at "hs"
      refine ⟨s, y, _, rfl, W.rng 0 rfl, by omega, by omega, by omega, fun H5 e K5 S5 e0 e1 => ?_⟩
      replace W := W.drawn 0 rfl K5 S5
      obtain ⟨N, hN⟩ := Int.eq_ofNat_of_zero_le e0
      subst hN
      walk_at "hs"
      rw [show ((1 : Int) + (N : Nat) + 1 - 1).toNat = N + 1 by omega]
      refine ⟨by omega, fun R hR => lc_range (lo := 1) (n := N + 1) (fun j H' => ∃ rows : List Int, HS.Wd H2 H' (fun a => a = s) [(s, RngO (400000 * i + 2 + 6000 * j)), (R, Eq (.lst (rows.map V.int)))] ∧ rows.length = j ∧ ∀ x ∈ rows, 0 ≤ x ∧ x ≤ 1000) ⟨[], W.new hR rfl, rfl, fun x hx => absurd hx List.not_mem_nil⟩ ?_ ?_⟩
      · rintro j H6 hj ⟨rows, W, hrl, hrB⟩
        walk_at "hs"
        refine ⟨s, 9, 1 + (N : Nat), _, rfl, W.rng 0 rfl, by decide, by decide, by omega, by omega, by omega, fun H7 p ls K7 hp0 hps hp hll hL S7 => ?_⟩
        replace W := W.drawMade 0 rfl K7 S7 hp0 hp (P := Eq _) rfl
        have hl1 := hL.one
        have hsum : ls.sum ≤ 540 := by
          have h1 := (lens_sum hL).2
          have h2 := Int.mul_le_mul hll (show (1 : Int) + (N : Nat) ≤ 60 by omega) (by omega) (by decide)
          omega
        have pc0 := pcount_pos (j := 1 + (j : Int)) hl1 (by omega)
        have pc1 := pcount_le_sum (j := 1 + (j : Int)) hl1 (by omega)
        walk_at "hs"
        refine ⟨p, ls, 1 + (j : Nat), rfl, W.sq 2 rfl, by omega, by omega, by omega, fun H8 K8 => ?_⟩
        replace W := W.same K8
        walk_at "hs"
        refine ⟨_, W.at 1 rfl, HS.sz (by rw [List.length_map]; omega), rows ++ [pcount ls (1 + (j : Nat))], ((W.put 1 rfl (P' := Eq (.lst ((rows ++ [pcount ls (1 + (j : Nat))]).map V.int))) (by rw [List.map_append]; rfl)).take 2).rup 0 rfl (by omega), by rw [List.length_append, hrl]; rfl, fun x hx => ?_⟩
        rcases List.mem_append.mp hx with hx | hx
        · exact hrB x hx
        · rw [List.mem_singleton] at hx; omega
      rintro H6 ⟨rows, W, hrl, hrB⟩
      replace W := W.rup 0 rfl (show _ ≤ 400000 * i + 370000 by omega)
      walk_at "hs"
      refine HS.ixN_v (W.sq 1 rfl) (by rw [List.length_map]; omega) (by rw [List.length_map]; omega) fun v hv => ?_
      obtain ⟨x, hx, rfl⟩ := List.mem_map.mp hv
      walk_at "hs"
      refine ⟨s, 9, _, rfl, W.rng 0 rfl, by decide, by decide, by omega, fun H7 e K7 S7 e0 e1 => ?_⟩
      replace W := W.drawn 0 rfl K7 S7
      clear K7 S7 hv
      walk_at "hs"
      refine .inr ⟨_, rfl, ?_⟩
      walk_at "hs"
      refine HS.setL (j := N) (W.at 1 rfl) (by rw [List.length_map, hrl]; unfold ixN; rw [if_neg (by decide), if_pos (by omega)]; congr 1; omega) ?_
      generalize hZ : ((if (if x > 0 then x else 0) < 40 then if x > 0 then x else 0 else 40) - 2 * if decide (e = 0) = true then (1 : Int) else 0) = Z
      have hZ1 : -2 ≤ Z ∧ Z ≤ 40 := by
        have a1 : 0 ≤ (if decide (e = 0) = true then (1 : Int) else 0) ∧ (if decide (e = 0) = true then (1 : Int) else 0) ≤ 1 := by split <;> decide
        rw [← hZ]
        generalize (if decide (e = 0) = true then (1 : Int) else 0) = B at a1
        split <;> split <;> omega
      clear hZ
      replace W := W.put 1 rfl (P' := Eq (.lst ((rows.set N Z).map V.int))) (by rw [List.map_set])
      try dsimp only [List.set] at W
      have rl2 : (rows.set N Z).length = N + 1 := by rw [List.length_set]; exact hrl
      have rB2 : ∀ x ∈ rows.set N Z, -(2 ^ 120) < x ∧ x < 2 ^ 120 := fun x hx => by
        rcases List.mem_or_eq_of_mem_set hx with h | h
        · have := hrB x h; omega
        · omega
      have rc2 : ∀ c, (rows.set N Z).getLast? = some c → c ≤ 120 := fun c hc => by
        rw [List.getLast?_eq_getElem?, rl2, Nat.add_sub_cancel, List.getElem?_set_self (by omega)] at hc
        cases hc
        omega
      generalize upd H7 R _ = H8 at W ⊢
      generalize rows.set N Z = rws at W rl2 rB2 rc2
      have rtame : ∀ k z, dueT rws = some (k, z) → z.natAbs < 2 ^ 200 := fun k z h => by
        unfold dueT at h
        cases hw : wrongT rws with
        | none => rw [hw] at h; cases h
        | some w => rw [hw] at h; cases h; have := wrongT_le hw; omega
      clear hrB hx hrl x e e0 e1 hZ1 Z
      walk_at "hs"
      refine ⟨R, rws, rfl, W.sq 1 rfl, by omega, by omega, rB2, fun H9 v K9 hvn hvs => ?_⟩
      replace W := W.same K9
      walk_at "hs"
      refine HS.cut (fun σ' H' => ∃ (dv : V) (x5 x7 x8 x9 : Option V), HS.Wd H2 H' (fun a => a = s) [(s, RngO (400000 * i + 370000 + 1)), (R, Eq (.lst (rws.map V.int)))] ∧ DueAt H' dv (dueT rws) ∧ σ' = [some (.ref a), some (.ref s), some (.int (0 + (i : Int))), some (.int (1 + (N : Nat))), some (.ref R), x5, some dv, x7, x8, x9]) ?_ ?_
      · cases hw : wrongT rws with
        | none =>
          rw [hvn hw]
          walk_at "hs"
          refine ⟨rfl, ?_⟩
          walk_at "hs"
          refine HS.it1 rfl ?_
          walk_at "hs"
          exact ⟨.non, _, _, _, _, W, by unfold dueT; rw [hw]; rfl, rfl⟩
        | some w =>
          rw [hvs w hw]
          walk_at "hs"
          refine ⟨rfl, ?_⟩
          walk_at "hs"
          refine HS.it0 (fun z => by cases z) ?_
          walk_at "hs"
          intro nb hnb
          generalize hG_nb : upd _ nb _ = HA
          have Kn_nb := HS.upgK hG_nb hnb
          replace W := W.newG hG_nb hnb
          clear hG_nb hnb
          try dsimp only [List.set, List.cons_append, List.nil_append] at W
          exact ⟨.ref nb, _, _, _, _, W.take 2, by unfold dueT; rw [hw]; exact ⟨nb, rfl, W.at 2 rfl⟩, rfl⟩
      clear W hvn hvs K9
      rintro σ' HA ⟨dv, x5, x7, x8, x9, W, hdv, rfl⟩
      obtain ⟨dt1, dt2⟩ := due_tame (dueT rws) rtame
      have dt3 := (due_sh (dueT rws)).2
      walk_at "hs"
      intro e1 he1
      generalize hG_e1 : upd _ e1 _ = HB
      have Kn_e1 := HS.upgK hG_e1 he1
      replace W := W.newG hG_e1 he1
      clear hG_e1 he1
      try dsimp only [List.set, List.cons_append, List.nil_append] at W
      walk_at "hs"
      intro e2 he2
      generalize hG_e2 : upd _ e2 _ = HC
      have Kn_e2 := HS.upgK hG_e2 he2
      replace W := W.newG hG_e2 he2
      clear hG_e2 he2
      try dsimp only [List.set, List.cons_append, List.nil_append] at W
      walk_at "hs"
      refine ⟨0, R, e1, e2, dueT rws, rfl, .tab rws (.inl rfl) (W.sq 1 rfl) (by omega) rc2, fun v0 HD KD hv0 => ?_⟩
      replace W := W.same KD
      replace hdv := ((hdv.same Kn_e1).same Kn_e2).same KD
      walk_at "hs"
      intro e3 he3
      generalize hG_e3 : upd _ e3 _ = HE
      have Kn_e3 := HS.upgK hG_e3 he3
      replace W := W.newG hG_e3 he3
      clear hG_e3 he3
      try dsimp only [List.set, List.cons_append, List.nil_append] at W
      walk_at "hs"
      intro e4 he4
      generalize hG_e4 : upd _ e4 _ = HF
      have Kn_e4 := HS.upgK hG_e4 he4
      replace W := W.newG hG_e4 he4
      clear hG_e4 he4
      try dsimp only [List.set, List.cons_append, List.nil_append] at W
      walk_at "hs"
      refine ⟨1, R, e3, e4, dueT rws, rfl, .tab rws (.inr rfl) (W.sq 1 rfl) (by omega) rc2, fun v1 HG KG hv1 => ?_⟩
      replace W := W.same KG
      replace hdv := ((hdv.same Kn_e3).same Kn_e4).same KG
      replace hv0 := ((hv0.same Kn_e3).same Kn_e4).same KG
      walk_at "hs"
      intro e5 he5
      generalize hG_e5 : upd _ e5 _ = HH
      have Kn_e5 := HS.upgK hG_e5 he5
      replace W := W.newG hG_e5 he5
      clear hG_e5 he5
      try dsimp only [List.set, List.cons_append, List.nil_append] at W
      replace hdv := hdv.same Kn_e5
      walk_at "hs"
      refine HS.rep2 (W.sq 6 rfl) (hv0.same Kn_e5).dp (hv1.same Kn_e5).dp dt1 (by omega) dt2 ?_
      walk_at "hs"
      intro e6 he6
      generalize hG_e6 : upd _ e6 _ = HI
      have Kn_e6 := HS.upgK hG_e6 he6
      replace W := W.newG hG_e6 he6
      clear hG_e6 he6
      try dsimp only [List.set, List.cons_append, List.nil_append] at W
      replace hdv := hdv.same Kn_e6
      walk_at "hs"
      refine HS.rep2 (W.sq 7 rfl) hdv.dp hdv.dp dt1 (by omega) dt2 ?_
      refine HS.neSS ?_
      replace W := (W.take 1).rup 0 rfl (show _ ≤ 400000 * i + 371000 by omega)
      clear hdv hv0 hv1 Kn_e1 Kn_e2 Kn_e3 Kn_e4 Kn_e5 Kn_e6 KD KG dt1 dt2 dt3 rtame rc2 rB2 rl2
      walk_at "hs"
      refine ⟨s, 9, 9, _, rfl, W.rng 0 rfl, by decide, by decide, by decide, by decide, by omega, fun HJ p ls KJ hp0 hps hp hll hL SJ => ?_⟩
      replace W := W.drawMade 0 rfl KJ SJ hp0 hp (P := Eq _) rfl
      clear KJ SJ hL
      walk_at "hs"
      refine ⟨s, p, ls, _, rfl, W.rng 0 rfl, W.sq 1 rfl, by omega, by omega, fun HK q xs KK hq0 hq hql SK => ?_⟩
      replace W := W.drawMade 0 rfl KK SK hq0 hq (P := Eq _) rfl
      clear KK SK
      walk_at "hs"
      refine ⟨s, 9, 9, _, rfl, W.rng 0 rfl, by decide, by decide, by decide, by decide, by omega, fun HL p2 ls2 KL hp20 hps2 hp2 hll2 hL2 SL => ?_⟩
      replace W := W.drawMade 0 rfl KL SL hp20 hp2 (P := Eq _) rfl
      clear KL SL hL2
      walk_at "hs"
      refine ⟨s, p2, ls2, _, rfl, W.rng 0 rfl, W.sq 3 rfl, by omega, by omega, fun HM q2 ys KM hq20 hq2 hql2 SM => ?_⟩
      replace W := W.drawMade 0 rfl KM SM hq20 hq2 (P := Eq _) rfl
      clear KM SM
      replace W : HS.Wd H2 HM (fun a => a = s) [(s, RngO _), (q, Eq (.lst (xs.map V.int))), (q2, Eq (.lst (ys.map V.int)))] := W.sub (.cons₂ _ (.cons _ (.cons₂ _ (.cons _ (.cons₂ _ .slnil)))))
      replace W := W.rup 0 rfl (show _ ≤ 400000 * i + 390000 by omega)
      clear hp0 hp hps hll hq0 hq hp20 hps2 hp2 hll2 hq20 hq2
      walk_at "hs"
      obtain ⟨dd, hdd⟩ : ∃ dd : Due, ((dueB xs ys).map fun i => (1, (i : Int))) = dd := ⟨_, rfl⟩
      have tld : ∀ (H' : Hp) (w : Nat) (e : Addr), w = 2 ∨ w = 3 → SqL K H' q (xs.map V.int) → SqL K H' q2 (ys.map V.int) → Told K H' w q q2 e dd := fun H' w e hw h1 h2 => hdd ▸ .two xs ys hw h1 h2
      refine HS.cut (fun σ' H' => ∃ (dv : V) (x9 : Option V), HS.Wd H2 H' (fun a => a = s) [(s, RngO (400000 * i + 390000)), (q, Eq (.lst (xs.map V.int))), (q2, Eq (.lst (ys.map V.int)))] ∧ DueAt H' dv dd ∧ σ' = [some (.ref a), some (.ref s), some (.int (0 + (i : Int))), some (.int (1 + (N : Nat))), some (.ref R), x5, some dv, some (.ref q), some (.ref q2), x9]) ?_ ?_
      · walk_at "hs"
        refine ⟨q, xs, rfl, W.sq 1 rfl, by omega, fun v1 HN KN hv1 => ?_⟩
        replace W := W.same KN
        cases hb1 : badAt xs with
        | none =>
          rw [hb1] at hv1
          have ev : v1 = .non := hv1
          subst ev
          have edue : dueB xs ys = badAt ys := by unfold dueB; rw [hb1]
          walk_at "hs"
          refine ⟨rfl, ?_⟩
          walk_at "hs"
          refine HS.in0 rfl ?_
          walk_at "hs"
          refine ⟨q2, ys, rfl, W.sq 2 rfl, by omega, fun v2 HO KO hv2 => ?_⟩
          replace W := W.same KO
          walk_at "hs"
          exact ⟨v2, _, W, by rw [← hdd, edue]; exact hv2, rfl⟩
        | some b =>
          have edue : dueB xs ys = badAt xs := by unfold dueB; rw [hb1]
          rw [hb1] at hv1
          obtain ⟨pv, ev, hpv⟩ := hv1
          subst ev
          walk_at "hs"
          refine ⟨rfl, ?_⟩
          walk_at "hs"
          refine HS.in1 (fun z => by cases z) ?_
          walk_at "hs"
          refine ⟨q, xs, rfl, W.sq 1 rfl, by omega, fun v2 HO KO hv2 => ?_⟩
          replace W := W.same KO
          walk_at "hs"
          exact ⟨v2, _, W, by rw [← hdd, edue]; exact hv2, rfl⟩
      clear W
      rintro σ' HN ⟨dv, x9, W, hdv, rfl⟩
      have rtame : ∀ k z, dd = some (k, z) → z.natAbs < 2 ^ 200 := fun k z h => by
        rw [← hdd] at h
        cases hb : dueB xs ys with
        | none => rw [hb] at h; cases h
        | some b =>
          rw [hb] at h
          cases h
          have := dueB_lt0 hb
          omega
      obtain ⟨dt1, dt2⟩ := due_tame _ rtame
      have dt3 := (due_sh dd).2
      clear rtame hdd
      walk_at "hs"
      intro e2 he2
      generalize hG_e2 : upd _ e2 _ = HC
      have Kn_e2 := HS.upgK hG_e2 he2
      replace W := W.newG hG_e2 he2
      clear hG_e2 he2
      try dsimp only [List.set, List.cons_append, List.nil_append] at W
      walk_at "hs"
      refine ⟨2, q, q2, e2, dd, rfl, tld _ 2 e2 (.inl rfl) (W.sq 1 rfl) (W.sq 2 rfl), fun v0 HD KD hv0 => ?_⟩
      replace W := W.same KD
      replace hdv := (hdv.same Kn_e2).same KD
      walk_at "hs"
      intro e4 he4
      generalize hG_e4 : upd _ e4 _ = HF
      have Kn_e4 := HS.upgK hG_e4 he4
      replace W := W.newG hG_e4 he4
      clear hG_e4 he4
      try dsimp only [List.set, List.cons_append, List.nil_append] at W
      walk_at "hs"
      refine ⟨3, q, q2, e4, dd, rfl, tld _ 3 e4 (.inr rfl) (W.sq 1 rfl) (W.sq 2 rfl), fun v1 HG KG hv1 => ?_⟩
      replace W := W.same KG
      replace hdv := (hdv.same Kn_e4).same KG
      replace hv0 := (hv0.same Kn_e4).same KG
      walk_at "hs"
      intro e5 he5
      generalize hG_e5 : upd _ e5 _ = HH
      have Kn_e5 := HS.upgK hG_e5 he5
      replace W := W.newG hG_e5 he5
      clear hG_e5 he5
      try dsimp only [List.set, List.cons_append, List.nil_append] at W
      replace hdv := hdv.same Kn_e5
      walk_at "hs"
      refine HS.rep2 (W.sq 5 rfl) (hv0.same Kn_e5).dp (hv1.same Kn_e5).dp dt1 (by omega) dt2 ?_
      walk_at "hs"
      intro e6 he6
      generalize hG_e6 : upd _ e6 _ = HI
      have Kn_e6 := HS.upgK hG_e6 he6
      replace W := W.newG hG_e6 he6
      clear hG_e6 he6
      try dsimp only [List.set, List.cons_append, List.nil_append] at W
      replace hdv := hdv.same Kn_e6
      walk_at "hs"
      refine HS.rep2 (W.sq 6 rfl) hdv.dp hdv.dp dt1 (by omega) dt2 ?_
      refine HS.neSS ?_
      walk_at "hs"
      refine ⟨s, _, rfl, W.rng 0 rfl, by omega, fun HJ KJ SJ => ?_⟩
      walk_at "hs"
      exact ⟨SJ.up (by omega), _, _, _, _, _, _, _, _, rfl⟩
    · rintro σ H2 ⟨S2, x2, x3, x4, x5, x6, x7, x8, x9, rfl⟩
      clear S2
      have W := HS.Wd.nil (H := H2) (S := fun _ => False)
      walk_at "hs"
      intro y1 hy1
      generalize hG_y1 : upd _ y1 _ = H3
      have Kn_y1 := HS.upgK hG_y1 hy1
      replace W := W.newG hG_y1 hy1
      clear hG_y1 hy1
      try dsimp only [List.set, List.cons_append, List.nil_append] at W
      walk_at "hs"
      intro y2 hy2
      generalize hG_y2 : upd _ y2 _ = H4
      have Kn_y2 := HS.upgK hG_y2 hy2
      replace W := W.newG hG_y2 hy2
      clear hG_y2 hy2
      try dsimp only [List.set, List.cons_append, List.nil_append] at W
      walk_at "hs"
      intro y3 hy3
      generalize hG_y3 : upd _ y3 _ = H5
      have Kn_y3 := HS.upgK hG_y3 hy3
      replace W := W.newG hG_y3 hy3
      clear hG_y3 hy3
      try dsimp only [List.set, List.cons_append, List.nil_append] at W
      walk_at "hs"
      intro y4 hy4
      generalize hG_y4 : upd _ y4 _ = H6
      have Kn_y4 := HS.upgK hG_y4 hy4
      replace W := W.newG hG_y4 hy4
      clear hG_y4 hy4
      try dsimp only [List.set, List.cons_append, List.nil_append] at W
      walk_at "hs"
      intro y5 hy5
      generalize hG_y5 : upd _ y5 _ = H7
      have Kn_y5 := HS.upgK hG_y5 hy5
      replace W := W.newG hG_y5 hy5
      clear hG_y5 hy5
      try dsimp only [List.set, List.cons_append, List.nil_append] at W
      have hP : HS.Prs H7 [.ref y1, .ref y2] [(2, 2), (3, 2)] := ⟨⟨y1, rfl, W.at 0 rfl⟩, ⟨y2, rfl, W.at 1 rfl⟩, trivial⟩
      refine ⟨4, y3, y4, y5, demX 2 4 [(2, 2), (3, 2)], rfl, .chn 2 4 _ [] [(2, 2), (3, 2)] (.inl rfl) (W.sq 2 rfl) hP (W.sq 4 rfl) (by decide) (by decide) (by decide) (by decide), fun v H8 K8 hv => ?_⟩
      replace W := W.same K8
      walk_at "hs"
      intro y6 hy6
      generalize hG_y6 : upd _ y6 _ = H9
      have Kn_y6 := HS.upgK hG_y6 hy6
      replace W := W.newG hG_y6 hy6
      clear hG_y6 hy6
      try dsimp only [List.set, List.cons_append, List.nil_append] at W
      have hv := hv.same Kn_y6
      have e : demX 2 4 [(2, 2), (3, 2)] = some (3, 1) := by decide +kernel
      rw [e] at hv
      refine HS.eqSame (d := dDue (some (3, 1))) hv.dp (HS.dp_SI (W.sq 5 rfl)) (due_sh1 _) (due_eqv _) ?_
      exact k _
end
theorem all_mk {l : PySem.W.OpenLaw} {w : World} {K : PySem.W.Frag} {h : Heap} {mg : Str → Option Value} {fa f0 f1 f2 f3 f4 f5 f6 f7 f8 f9 f10 f11 f12 f13 f14 f15 f16 f17 f18 f19 f20 f21 f22 f23 f24 f25 f26 f27 f28 f29 f30 f31 f32 f33 f34 f35 f36 c_BookError c_InvalidBook c_InvalidSize c_InvalidTable c_InvalidChain c_InvalidNumber c_NothingToUndo c_Unreadable : Addr} (X : K.In h) (G : h.Ns mainGlobals mg) (hfa : mg "law" = some (.ref fa))
    {od0 an0 od1 an1 od2 an2 od3 an3 od4 an4 od5 an5 od6 an6 od7 an7 od8 an8 od9 an9 od10 an10 od11 an11 od12 an12 od13 an13 od14 an14 od15 an15 od16 an16 od17 an17 od18 an18 od19 an19 od20 an20 od21 an21 od22 an22 od23 an23 od24 an24 od25 an25 od26 an26 od27 an27 od28 an28 od29 an29 od30 an30 od31 an31 od32 an32 od33 an33 od34 an34 od35 an35 od36 an36 : Option Addr} {sl0 sl1 sl2 sl3 sl4 sl5 sl6 sl7 sl8 sl9 sl10 sl11 sl12 sl13 sl14 sl15 sl16 sl17 sl18 sl19 sl20 sl21 sl22 sl23 sl24 sl25 sl26 sl27 sl28 sl29 sl30 sl31 sl32 sl33 sl34 sl35 sl36 : Array (Option Value)} {oc0 kV0 dc0 pm0 cd0 ct0 oc1 kV1 dc1 pm1 cd1 ct1 oc2 kV2 dc2 pm2 cd2 ct2 oc3 kV3 dc3 pm3 cd3 ct3 oc4 kV4 dc4 pm4 cd4 ct4 oc5 kV5 dc5 pm5 cd5 ct5 oc6 kV6 dc6 pm6 cd6 ct6 oc7 kV7 dc7 pm7 cd7 ct7 oc8 kV8 dc8 pm8 cd8 ct8 oc9 kV9 dc9 pm9 cd9 ct9 oc10 kV10 dc10 pm10 cd10 ct10 oc11 kV11 dc11 pm11 cd11 ct11 oc12 kV12 dc12 pm12 cd12 ct12 oc13 kV13 dc13 pm13 cd13 ct13 oc14 kV14 dc14 pm14 cd14 ct14 oc15 kV15 dc15 pm15 cd15 ct15 oc16 kV16 dc16 pm16 cd16 ct16 oc17 kV17 dc17 pm17 cd17 ct17 oc18 kV18 dc18 pm18 cd18 ct18 oc19 kV19 dc19 pm19 cd19 ct19 oc20 kV20 dc20 pm20 cd20 ct20 oc21 kV21 dc21 pm21 cd21 ct21 oc22 kV22 dc22 pm22 cd22 ct22 oc23 kV23 dc23 pm23 cd23 ct23 oc24 kV24 dc24 pm24 cd24 ct24 oc25 kV25 dc25 pm25 cd25 ct25 oc26 kV26 dc26 pm26 cd26 ct26 oc27 kV27 dc27 pm27 cd27 ct27 oc28 kV28 dc28 pm28 cd28 ct28 oc29 kV29 dc29 pm29 cd29 ct29 oc30 kV30 dc30 pm30 cd30 ct30 oc31 kV31 dc31 pm31 cd31 ct31 oc32 kV32 dc32 pm32 cd32 ct32 oc33 kV33 dc33 pm33 cd33 ct33 oc34 kV34 dc34 pm34 cd34 ct34 oc35 kV35 dc35 pm35 cd35 ct35 oc36 kV36 dc36 pm36 cd36 ct36 : Value}
    (m_BookError : PySem.W.nsIn K mainGlobals "BookError" = some (some (.ref c_BookError)))
    (m_InvalidBook : PySem.W.nsIn K mainGlobals "InvalidBook" = some (some (.ref c_InvalidBook)))
    (m_InvalidSize : PySem.W.nsIn K mainGlobals "InvalidSize" = some (some (.ref c_InvalidSize)))
    (m_InvalidTable : PySem.W.nsIn K mainGlobals "InvalidTable" = some (some (.ref c_InvalidTable)))
    (m_InvalidChain : PySem.W.nsIn K mainGlobals "InvalidChain" = some (some (.ref c_InvalidChain)))
    (m_InvalidNumber : PySem.W.nsIn K mainGlobals "InvalidNumber" = some (some (.ref c_InvalidNumber)))
    (m_NothingToUndo : PySem.W.nsIn K mainGlobals "NothingToUndo" = some (some (.ref c_NothingToUndo)))
    (m_Unreadable : PySem.W.nsIn K mainGlobals "Unreadable" = some (some (.ref c_Unreadable)))
    (in_InvalidBook : PySem.W.findIn K (.ref c_InvalidBook) "__init__" = some (some (.ref f0)))
    (l0 : K.lookup f0 = some ⟨oc0, od0, .func (PySem.W.fnOf "__init__" "InvalidBook.__init__" (defArgs s_InvalidBook___init__) (defBody s_InvalidBook___init__) (defScope s_InvalidBook___init__) .none kV0 dc0 pm0 an0 cd0 ct0), sl0⟩) (c0 : PySem.W.codeIn K cd0 "InvalidBook.__init__" = true) (k0 : PySem.W.keepIn K (.ref f0) = true)
    (in_InvalidTable : PySem.W.findIn K (.ref c_InvalidTable) "__init__" = some (some (.ref f1)))
    (l1 : K.lookup f1 = some ⟨oc1, od1, .func (PySem.W.fnOf "__init__" "InvalidTable.__init__" (defArgs s_InvalidTable___init__) (defBody s_InvalidTable___init__) (defScope s_InvalidTable___init__) .none kV1 dc1 pm1 an1 cd1 ct1), sl1⟩) (c1 : PySem.W.codeIn K cd1 "InvalidTable.__init__" = true) (k1 : PySem.W.keepIn K (.ref f1) = true)
    (in_InvalidChain : PySem.W.findIn K (.ref c_InvalidChain) "__init__" = some (some (.ref f2)))
    (l2 : K.lookup f2 = some ⟨oc2, od2, .func (PySem.W.fnOf "__init__" "InvalidChain.__init__" (defArgs s_InvalidChain___init__) (defBody s_InvalidChain___init__) (defScope s_InvalidChain___init__) .none kV2 dc2 pm2 an2 cd2 ct2), sl2⟩) (c2 : PySem.W.codeIn K cd2 "InvalidChain.__init__" = true) (k2 : PySem.W.keepIn K (.ref f2) = true)
    (in_InvalidNumber : PySem.W.findIn K (.ref c_InvalidNumber) "__init__" = some (some (.ref f3)))
    (l3 : K.lookup f3 = some ⟨oc3, od3, .func (PySem.W.fnOf "__init__" "InvalidNumber.__init__" (defArgs s_InvalidNumber___init__) (defBody s_InvalidNumber___init__) (defScope s_InvalidNumber___init__) .none kV3 dc3 pm3 an3 cd3 ct3), sl3⟩) (c3 : PySem.W.codeIn K cd3 "InvalidNumber.__init__" = true) (k3 : PySem.W.keepIn K (.ref f3) = true)
    (a4 : PySem.W.nsIn K mainGlobals "_law_rng" = some (some (.ref f4)))
    (l4 : K.lookup f4 = some ⟨oc4, od4, .func (PySem.W.fnOf "_law_rng" "_law_rng" (defArgs s__law_rng) (defBody s__law_rng) (defScope s__law_rng) .none kV4 dc4 pm4 an4 cd4 ct4), sl4⟩) (c4 : PySem.W.codeIn K cd4 "_law_rng" = true) (k4 : PySem.W.keepIn K (.ref f4) = true)
    (a5 : PySem.W.nsIn K mainGlobals "_law_draw" = some (some (.ref f5)))
    (l5 : K.lookup f5 = some ⟨oc5, od5, .func (PySem.W.fnOf "_law_draw" "_law_draw" (defArgs s__law_draw) (defBody s__law_draw) (defScope s__law_draw) .none kV5 dc5 pm5 an5 cd5 ct5), sl5⟩) (c5 : PySem.W.codeIn K cd5 "_law_draw" = true) (k5 : PySem.W.keepIn K (.ref f5) = true)
    (a6 : PySem.W.nsIn K mainGlobals "_law_counted" = some (some (.ref f6)))
    (l6 : K.lookup f6 = some ⟨oc6, od6, .func (PySem.W.fnOf "_law_counted" "_law_counted" (defArgs s__law_counted) (defBody s__law_counted) (defScope s__law_counted) .none kV6 dc6 pm6 an6 cd6 ct6), sl6⟩) (c6 : PySem.W.codeIn K cd6 "_law_counted" = true) (k6 : PySem.W.keepIn K (.ref f6) = true)
    (a7 : PySem.W.nsIn K mainGlobals "_law_some" = some (some (.ref f7)))
    (l7 : K.lookup f7 = some ⟨oc7, od7, .func (PySem.W.fnOf "_law_some" "_law_some" (defArgs s__law_some) (defBody s__law_some) (defScope s__law_some) .none kV7 dc7 pm7 an7 cd7 ct7), sl7⟩) (c7 : PySem.W.codeIn K cd7 "_law_some" = true) (k7 : PySem.W.keepIn K (.ref f7) = true)
    (a8 : PySem.W.nsIn K mainGlobals "check_book" = some (some (.ref f8)))
    (l8 : K.lookup f8 = some ⟨oc8, od8, .func (PySem.W.fnOf "check_book" "check_book" (defArgs s_check_book) (defBody s_check_book) (defScope s_check_book) .none kV8 dc8 pm8 an8 cd8 ct8), sl8⟩) (c8 : PySem.W.codeIn K cd8 "check_book" = true) (k8 : PySem.W.keepIn K (.ref f8) = true)
    (a9 : PySem.W.nsIn K mainGlobals "check_not_negative" = some (some (.ref f9)))
    (l9 : K.lookup f9 = some ⟨oc9, od9, .func (PySem.W.fnOf "check_not_negative" "check_not_negative" (defArgs s_check_not_negative) (defBody s_check_not_negative) (defScope s_check_not_negative) .none kV9 dc9 pm9 an9 cd9 ct9), sl9⟩) (c9 : PySem.W.codeIn K cd9 "check_not_negative" = true) (k9 : PySem.W.keepIn K (.ref f9) = true)
    (a10 : PySem.W.nsIn K mainGlobals "check_chain" = some (some (.ref f10)))
    (l10 : K.lookup f10 = some ⟨oc10, od10, .func (PySem.W.fnOf "check_chain" "check_chain" (defArgs s_check_chain) (defBody s_check_chain) (defScope s_check_chain) .none kV10 dc10 pm10 an10 cd10 ct10), sl10⟩) (c10 : PySem.W.codeIn K cd10 "check_chain" = true) (k10 : PySem.W.keepIn K (.ref f10) = true)
    (a11 : PySem.W.nsIn K mainGlobals "check_demands" = some (some (.ref f11)))
    (l11 : K.lookup f11 = some ⟨oc11, od11, .func (PySem.W.fnOf "check_demands" "check_demands" (defArgs s_check_demands) (defBody s_check_demands) (defScope s_check_demands) .none kV11 dc11 pm11 an11 cd11 ct11), sl11⟩) (c11 : PySem.W.codeIn K cd11 "check_demands" = true) (k11 : PySem.W.keepIn K (.ref f11) = true)
    (a12 : PySem.W.nsIn K mainGlobals "has_book" = some (some (.ref f12)))
    (l12 : K.lookup f12 = some ⟨oc12, od12, .func (PySem.W.fnOf "has_book" "has_book" (defArgs s_has_book) (defBody s_has_book) (defScope s_has_book) .none kV12 dc12 pm12 an12 cd12 ct12), sl12⟩) (c12 : PySem.W.codeIn K cd12 "has_book" = true) (k12 : PySem.W.keepIn K (.ref f12) = true)
    (a13 : PySem.W.nsIn K mainGlobals "list_places" = some (some (.ref f13)))
    (l13 : K.lookup f13 = some ⟨oc13, od13, .func (PySem.W.fnOf "list_places" "list_places" (defArgs s_list_places) (defBody s_list_places) (defScope s_list_places) .none kV13 dc13 pm13 an13 cd13 ct13), sl13⟩) (c13 : PySem.W.codeIn K cd13 "list_places" = true) (k13 : PySem.W.keepIn K (.ref f13) = true)
    (a14 : PySem.W.nsIn K mainGlobals "count_lists" = some (some (.ref f14)))
    (l14 : K.lookup f14 = some ⟨oc14, od14, .func (PySem.W.fnOf "count_lists" "count_lists" (defArgs s_count_lists) (defBody s_count_lists) (defScope s_count_lists) .none kV14 dc14 pm14 an14 cd14 ct14), sl14⟩) (c14 : PySem.W.codeIn K cd14 "count_lists" = true) (k14 : PySem.W.keepIn K (.ref f14) = true)
    (a15 : PySem.W.nsIn K mainGlobals "multiply_ways" = some (some (.ref f15)))
    (l15 : K.lookup f15 = some ⟨oc15, od15, .func (PySem.W.fnOf "multiply_ways" "multiply_ways" (defArgs s_multiply_ways) (defBody s_multiply_ways) (defScope s_multiply_ways) .none kV15 dc15 pm15 an15 cd15 ct15), sl15⟩) (c15 : PySem.W.codeIn K cd15 "multiply_ways" = true) (k15 : PySem.W.keepIn K (.ref f15) = true)
    (a16 : PySem.W.nsIn K mainGlobals "find_small_digit" = some (some (.ref f16)))
    (l16 : K.lookup f16 = some ⟨oc16, od16, .func (PySem.W.fnOf "find_small_digit" "find_small_digit" (defArgs s_find_small_digit) (defBody s_find_small_digit) (defScope s_find_small_digit) .none kV16 dc16 pm16 an16 cd16 ct16), sl16⟩) (c16 : PySem.W.codeIn K cd16 "find_small_digit" = true) (k16 : PySem.W.keepIn K (.ref f16) = true)
    (a17 : PySem.W.nsIn K mainGlobals "find_free_digit" = some (some (.ref f17)))
    (l17 : K.lookup f17 = some ⟨oc17, od17, .func (PySem.W.fnOf "find_free_digit" "find_free_digit" (defArgs s_find_free_digit) (defBody s_find_free_digit) (defScope s_find_free_digit) .none kV17 dc17 pm17 an17 cd17 ct17), sl17⟩) (c17 : PySem.W.codeIn K cd17 "find_free_digit" = true) (k17 : PySem.W.keepIn K (.ref f17) = true)
    (a18 : PySem.W.nsIn K mainGlobals "find_digit" = some (some (.ref f18)))
    (l18 : K.lookup f18 = some ⟨oc18, od18, .func (PySem.W.fnOf "find_digit" "find_digit" (defArgs s_find_digit) (defBody s_find_digit) (defScope s_find_digit) .none kV18 dc18 pm18 an18 cd18 ct18), sl18⟩) (c18 : PySem.W.codeIn K cd18 "find_digit" = true) (k18 : PySem.W.keepIn K (.ref f18) = true)
    (a19 : PySem.W.nsIn K mainGlobals "list_lengths" = some (some (.ref f19)))
    (l19 : K.lookup f19 = some ⟨oc19, od19, .func (PySem.W.fnOf "list_lengths" "list_lengths" (defArgs s_list_lengths) (defBody s_list_lengths) (defScope s_list_lengths) .none kV19 dc19 pm19 an19 cd19 ct19), sl19⟩) (c19 : PySem.W.codeIn K cd19 "list_lengths" = true) (k19 : PySem.W.keepIn K (.ref f19) = true)
    (a20 : PySem.W.nsIn K mainGlobals "count_fitting" = some (some (.ref f20)))
    (l20 : K.lookup f20 = some ⟨oc20, od20, .func (PySem.W.fnOf "count_fitting" "count_fitting" (defArgs s_count_fitting) (defBody s_count_fitting) (defScope s_count_fitting) .none kV20 dc20 pm20 an20 cd20 ct20), sl20⟩) (c20 : PySem.W.codeIn K cd20 "count_fitting" = true) (k20 : PySem.W.keepIn K (.ref f20) = true)
    (a21 : PySem.W.nsIn K mainGlobals "contradiction" = some (some (.ref f21)))
    (l21 : K.lookup f21 = some ⟨oc21, od21, .func (PySem.W.fnOf "contradiction" "contradiction" (defArgs s_contradiction) (defBody s_contradiction) (defScope s_contradiction) .none kV21 dc21 pm21 an21 cd21 ct21), sl21⟩) (c21 : PySem.W.codeIn K cd21 "contradiction" = true) (k21 : PySem.W.keepIn K (.ref f21) = true)
    (a22 : PySem.W.nsIn K mainGlobals "nth_fitting" = some (some (.ref f22)))
    (l22 : K.lookup f22 = some ⟨oc22, od22, .func (PySem.W.fnOf "nth_fitting" "nth_fitting" (defArgs s_nth_fitting) (defBody s_nth_fitting) (defScope s_nth_fitting) .none kV22 dc22 pm22 an22 cd22 ct22), sl22⟩) (c22 : PySem.W.codeIn K cd22 "nth_fitting" = true) (k22 : PySem.W.keepIn K (.ref f22) = true)
    (a23 : PySem.W.nsIn K mainGlobals "same_counts" = some (some (.ref f23)))
    (l23 : K.lookup f23 = some ⟨oc23, od23, .func (PySem.W.fnOf "same_counts" "same_counts" (defArgs s_same_counts) (defBody s_same_counts) (defScope s_same_counts) .none kV23 dc23 pm23 an23 cd23 ct23), sl23⟩) (c23 : PySem.W.codeIn K cd23 "same_counts" = true) (k23 : PySem.W.keepIn K (.ref f23) = true)
    (a24 : PySem.W.nsIn K mainGlobals "parting_size" = some (some (.ref f24)))
    (l24 : K.lookup f24 = some ⟨oc24, od24, .func (PySem.W.fnOf "parting_size" "parting_size" (defArgs s_parting_size) (defBody s_parting_size) (defScope s_parting_size) .none kV24 dc24 pm24 an24 cd24 ct24), sl24⟩) (c24 : PySem.W.codeIn K cd24 "parting_size" = true) (k24 : PySem.W.keepIn K (.ref f24) = true)
    (a25 : PySem.W.nsIn K mainGlobals "count_pages" = some (some (.ref f25)))
    (l25 : K.lookup f25 = some ⟨oc25, od25, .func (PySem.W.fnOf "count_pages" "count_pages" (defArgs s_count_pages) (defBody s_count_pages) (defScope s_count_pages) .none kV25 dc25 pm25 an25 cd25 ct25), sl25⟩) (c25 : PySem.W.codeIn K cd25 "count_pages" = true) (k25 : PySem.W.keepIn K (.ref f25) = true)
    (a26 : PySem.W.nsIn K mainGlobals "lengths_of" = some (some (.ref f26)))
    (l26 : K.lookup f26 = some ⟨oc26, od26, .func (PySem.W.fnOf "lengths_of" "lengths_of" (defArgs s_lengths_of) (defBody s_lengths_of) (defScope s_lengths_of) .none kV26 dc26 pm26 an26 cd26 ct26), sl26⟩) (c26 : PySem.W.codeIn K cd26 "lengths_of" = true) (k26 : PySem.W.keepIn K (.ref f26) = true)
    (a27 : PySem.W.nsIn K mainGlobals "count_books" = some (some (.ref f27)))
    (l27 : K.lookup f27 = some ⟨oc27, od27, .func (PySem.W.fnOf "count_books" "count_books" (defArgs s_count_books) (defBody s_count_books) (defScope s_count_books) .none kV27 dc27 pm27 an27 cd27 ct27), sl27⟩) (c27 : PySem.W.codeIn K cd27 "count_books" = true) (k27 : PySem.W.keepIn K (.ref f27) = true)
    (a28 : PySem.W.nsIn K mainGlobals "_law_moebius" = some (some (.ref f28)))
    (l28 : K.lookup f28 = some ⟨oc28, od28, .func (PySem.W.fnOf "_law_moebius" "_law_moebius" (defArgs s__law_moebius) (defBody s__law_moebius) (defScope s__law_moebius) .none kV28 dc28 pm28 an28 cd28 ct28), sl28⟩) (c28 : PySem.W.codeIn K cd28 "_law_moebius" = true) (k28 : PySem.W.keepIn K (.ref f28) = true)
    (a29 : PySem.W.nsIn K mainGlobals "_law_wrong" = some (some (.ref f29)))
    (l29 : K.lookup f29 = some ⟨oc29, od29, .func (PySem.W.fnOf "_law_wrong" "_law_wrong" (defArgs s__law_wrong) (defBody s__law_wrong) (defScope s__law_wrong) .none kV29 dc29 pm29 an29 cd29 ct29), sl29⟩) (c29 : PySem.W.codeIn K cd29 "_law_wrong" = true) (k29 : PySem.W.keepIn K (.ref f29) = true)
    (a30 : PySem.W.nsIn K mainGlobals "_law_sizes" = some (some (.ref f30)))
    (l30 : K.lookup f30 = some ⟨oc30, od30, .func (PySem.W.fnOf "_law_sizes" "_law_sizes" (defArgs s__law_sizes) (defBody s__law_sizes) (defScope s__law_sizes) .none kV30 dc30 pm30 an30 cd30 ct30), sl30⟩) (c30 : PySem.W.codeIn K cd30 "_law_sizes" = true) (k30 : PySem.W.keepIn K (.ref f30) = true)
    (a31 : PySem.W.nsIn K mainGlobals "_law_told" = some (some (.ref f31)))
    (l31 : K.lookup f31 = some ⟨oc31, od31, .func (PySem.W.fnOf "_law_told" "_law_told" (defArgs s__law_told) (defBody s__law_told) (defScope s__law_told) .none kV31 dc31 pm31 an31 cd31 ct31), sl31⟩) (c31 : PySem.W.codeIn K cd31 "_law_told" = true) (k31 : PySem.W.keepIn K (.ref f31) = true)
    (a32 : PySem.W.nsIn K mainGlobals "_law_bad_book" = some (some (.ref f32)))
    (l32 : K.lookup f32 = some ⟨oc32, od32, .func (PySem.W.fnOf "_law_bad_book" "_law_bad_book" (defArgs s__law_bad_book) (defBody s__law_bad_book) (defScope s__law_bad_book) .none kV32 dc32 pm32 an32 cd32 ct32), sl32⟩) (c32 : PySem.W.codeIn K cd32 "_law_bad_book" = true) (k32 : PySem.W.keepIn K (.ref f32) = true)
    (a33 : PySem.W.nsIn K mainGlobals "_law_first" = some (some (.ref f33)))
    (l33 : K.lookup f33 = some ⟨oc33, od33, .func (PySem.W.fnOf "_law_first" "_law_first" (defArgs s__law_first) (defBody s__law_first) (defScope s__law_first) .none kV33 dc33 pm33 an33 cd33 ct33), sl33⟩) (c33 : PySem.W.codeIn K cd33 "_law_first" = true) (k33 : PySem.W.keepIn K (.ref f33) = true)
    (a34 : PySem.W.nsIn K mainGlobals "_law_bad_chain" = some (some (.ref f34)))
    (l34 : K.lookup f34 = some ⟨oc34, od34, .func (PySem.W.fnOf "_law_bad_chain" "_law_bad_chain" (defArgs s__law_bad_chain) (defBody s__law_bad_chain) (defScope s__law_bad_chain) .none kV34 dc34 pm34 an34 cd34 ct34), sl34⟩) (c34 : PySem.W.codeIn K cd34 "_law_bad_chain" = true) (k34 : PySem.W.keepIn K (.ref f34) = true)
    (a35 : PySem.W.nsIn K mainGlobals "_law_chains_right" = some (some (.ref f35)))
    (l35 : K.lookup f35 = some ⟨oc35, od35, .func (PySem.W.fnOf "_law_chains_right" "_law_chains_right" (defArgs s__law_chains_right) (defBody s__law_chains_right) (defScope s__law_chains_right) .none kV35 dc35 pm35 an35 cd35 ct35), sl35⟩) (c35 : PySem.W.codeIn K cd35 "_law_chains_right" = true) (k35 : PySem.W.keepIn K (.ref f35) = true)
    (a36 : PySem.W.nsIn K mainGlobals "law" = some (some (.ref f36)))
    (l36 : K.lookup f36 = some ⟨oc36, od36, .func (PySem.W.fnOf "law" "law" (defArgs s_law) (defBody s_law) (defScope s_law) .none kV36 dc36 pm36 an36 cd36 ct36), sl36⟩) (c36 : PySem.W.codeIn K cd36 "law" = true) (k36 : PySem.W.keepIn K (.ref f36) = true)
    (z0 : PySem.W.nsIn K mainGlobals "ValueError" = some none)
    (z1 : PySem.W.nsIn K mainGlobals "abs" = some none)
    (z2 : PySem.W.nsIn K mainGlobals "enumerate" = some none)
    (z3 : PySem.W.nsIn K mainGlobals "int" = some none)
    (z4 : PySem.W.nsIn K mainGlobals "isinstance" = some none)
    (z5 : PySem.W.nsIn K mainGlobals "len" = some none)
    (z6 : PySem.W.nsIn K mainGlobals "list" = some none)
    (z7 : PySem.W.nsIn K mainGlobals "max" = some none)
    (z8 : PySem.W.nsIn K mainGlobals "min" = some none)
    (z9 : PySem.W.nsIn K mainGlobals "range" = some none)
    (z10 : PySem.W.nsIn K mainGlobals "repr" = some none)
    (z11 : PySem.W.nsIn K mainGlobals "set" = some none)
    (z12 : PySem.W.nsIn K mainGlobals "sorted" = some none)
    (z13 : PySem.W.nsIn K mainGlobals "sum" = some none)
    (z14 : PySem.W.nsIn K mainGlobals "zip" = some none)
    (y_comb : PySem.W.nsIn K mainGlobals "comb" = some (some (.builtin "math.comb")))
    (y_factorial : PySem.W.nsIn K mainGlobals "factorial" = some (some (.builtin "math.factorial")))
    {nm_InvalidBook qn_InvalidBook : Str} {N_InvalidBook : Addr} {bs_InvalidBook bm_InvalidBook : List Value} {sn_InvalidBook : List Str} {sub_InvalidBook : List Value} {ab_InvalidBook : Bool} {col_InvalidBook : Option Bool} {dd_InvalidBook : Option Addr} {k0_InvalidBook k1_InvalidBook k2_InvalidBook k3_InvalidBook k5_InvalidBook : Option Value}
    (l_InvalidBook : K.lookup c_InvalidBook = some (excClassObj nm_InvalidBook qn_InvalidBook c_InvalidBook N_InvalidBook bs_InvalidBook bm_InvalidBook true sn_InvalidBook sub_InvalidBook ab_InvalidBook col_InvalidBook dd_InvalidBook k0_InvalidBook k1_InvalidBook k2_InvalidBook k3_InvalidBook k5_InvalidBook "ValueError.__new__"))
    (r_InvalidBook : PySem.HandSPX.refsVE bm_InvalidBook = true)
    (sa_InvalidBook : PySem.W.findIn K (.ref c_InvalidBook) "__setattr__" = some (some (.builtin "object.__setattr__")))
    (ex_InvalidBook : PySem.W.subIn K (.ref c_InvalidBook) (.type "BaseException") = some true)
    (ty_InvalidBook : PySem.W.typeIn K (.ref c_InvalidBook) = some (.type "type"))
    (kc_InvalidBook : PySem.W.keepIn K (.ref c_InvalidBook) = true)
    (ga_InvalidBook : PySem.W.findIn K (.ref c_InvalidBook) "__getattribute__" = some (some (.builtin "BaseException.__getattribute__")))
    (gg_InvalidBook : PySem.W.findIn K (.ref c_InvalidBook) "__getattr__" = some none)
    (hd_InvalidBook : PySem.W.hasDictIn K c_InvalidBook = true)
    (ha_InvalidBook : PySem.W.findIn K (.ref c_InvalidBook) "__class__" = some (some (.builtin "object.__class__")))
    (hn_InvalidBook : PySem.W.specialIn K (.builtin "object.__class__") "__get__" = some (some (.builtin "getset_descriptor.__get__")))
    (ht_InvalidBook : PySem.W.takesIn K (.builtin "object.__class__") = some true)
    (hm_InvalidBook : PySem.W.mroIn K c_InvalidBook (.type "object") = some true)
    (nv_InvalidBook : PySem.W.findIn K (.ref c_InvalidBook) "value" = some none)
    (ti_InvalidBook : PySem.W.typeIn K (.ref f0) = some (.type "function"))
    (kq_InvalidBook_BookError : PySem.W.kitOne K (.ref c_InvalidBook) (.ref c_BookError) = some true)
    (kq_InvalidBook_InvalidBook : PySem.W.kitOne K (.ref c_InvalidBook) (.ref c_InvalidBook) = some true)
    (kq_InvalidBook_InvalidSize : PySem.W.kitOne K (.ref c_InvalidBook) (.ref c_InvalidSize) = some false)
    (kq_InvalidBook_InvalidTable : PySem.W.kitOne K (.ref c_InvalidBook) (.ref c_InvalidTable) = some false)
    (kq_InvalidBook_InvalidChain : PySem.W.kitOne K (.ref c_InvalidBook) (.ref c_InvalidChain) = some false)
    (kq_InvalidBook_InvalidNumber : PySem.W.kitOne K (.ref c_InvalidBook) (.ref c_InvalidNumber) = some false)
    (kq_InvalidBook_NothingToUndo : PySem.W.kitOne K (.ref c_InvalidBook) (.ref c_NothingToUndo) = some false)
    (kq_InvalidBook_Unreadable : PySem.W.kitOne K (.ref c_InvalidBook) (.ref c_Unreadable) = some false)
    (kq_InvalidBook_ValueError : PySem.W.kitOne K (.ref c_InvalidBook) (.type "ValueError") = some true)
    {nm_InvalidTable qn_InvalidTable : Str} {N_InvalidTable : Addr} {bs_InvalidTable bm_InvalidTable : List Value} {sn_InvalidTable : List Str} {sub_InvalidTable : List Value} {ab_InvalidTable : Bool} {col_InvalidTable : Option Bool} {dd_InvalidTable : Option Addr} {k0_InvalidTable k1_InvalidTable k2_InvalidTable k3_InvalidTable k5_InvalidTable : Option Value}
    (l_InvalidTable : K.lookup c_InvalidTable = some (excClassObj nm_InvalidTable qn_InvalidTable c_InvalidTable N_InvalidTable bs_InvalidTable bm_InvalidTable true sn_InvalidTable sub_InvalidTable ab_InvalidTable col_InvalidTable dd_InvalidTable k0_InvalidTable k1_InvalidTable k2_InvalidTable k3_InvalidTable k5_InvalidTable "ValueError.__new__"))
    (r_InvalidTable : PySem.HandSPX.refsVE bm_InvalidTable = true)
    (sa_InvalidTable : PySem.W.findIn K (.ref c_InvalidTable) "__setattr__" = some (some (.builtin "object.__setattr__")))
    (ex_InvalidTable : PySem.W.subIn K (.ref c_InvalidTable) (.type "BaseException") = some true)
    (ty_InvalidTable : PySem.W.typeIn K (.ref c_InvalidTable) = some (.type "type"))
    (kc_InvalidTable : PySem.W.keepIn K (.ref c_InvalidTable) = true)
    (ga_InvalidTable : PySem.W.findIn K (.ref c_InvalidTable) "__getattribute__" = some (some (.builtin "BaseException.__getattribute__")))
    (gg_InvalidTable : PySem.W.findIn K (.ref c_InvalidTable) "__getattr__" = some none)
    (hd_InvalidTable : PySem.W.hasDictIn K c_InvalidTable = true)
    (ha_InvalidTable : PySem.W.findIn K (.ref c_InvalidTable) "__class__" = some (some (.builtin "object.__class__")))
    (hn_InvalidTable : PySem.W.specialIn K (.builtin "object.__class__") "__get__" = some (some (.builtin "getset_descriptor.__get__")))
    (ht_InvalidTable : PySem.W.takesIn K (.builtin "object.__class__") = some true)
    (hm_InvalidTable : PySem.W.mroIn K c_InvalidTable (.type "object") = some true)
    (nv_InvalidTable : PySem.W.findIn K (.ref c_InvalidTable) "value" = some none)
    (ti_InvalidTable : PySem.W.typeIn K (.ref f1) = some (.type "function"))
    (kq_InvalidTable_BookError : PySem.W.kitOne K (.ref c_InvalidTable) (.ref c_BookError) = some true)
    (kq_InvalidTable_InvalidBook : PySem.W.kitOne K (.ref c_InvalidTable) (.ref c_InvalidBook) = some false)
    (kq_InvalidTable_InvalidSize : PySem.W.kitOne K (.ref c_InvalidTable) (.ref c_InvalidSize) = some false)
    (kq_InvalidTable_InvalidTable : PySem.W.kitOne K (.ref c_InvalidTable) (.ref c_InvalidTable) = some true)
    (kq_InvalidTable_InvalidChain : PySem.W.kitOne K (.ref c_InvalidTable) (.ref c_InvalidChain) = some false)
    (kq_InvalidTable_InvalidNumber : PySem.W.kitOne K (.ref c_InvalidTable) (.ref c_InvalidNumber) = some false)
    (kq_InvalidTable_NothingToUndo : PySem.W.kitOne K (.ref c_InvalidTable) (.ref c_NothingToUndo) = some false)
    (kq_InvalidTable_Unreadable : PySem.W.kitOne K (.ref c_InvalidTable) (.ref c_Unreadable) = some false)
    (kq_InvalidTable_ValueError : PySem.W.kitOne K (.ref c_InvalidTable) (.type "ValueError") = some true)
    {nm_InvalidChain qn_InvalidChain : Str} {N_InvalidChain : Addr} {bs_InvalidChain bm_InvalidChain : List Value} {sn_InvalidChain : List Str} {sub_InvalidChain : List Value} {ab_InvalidChain : Bool} {col_InvalidChain : Option Bool} {dd_InvalidChain : Option Addr} {k0_InvalidChain k1_InvalidChain k2_InvalidChain k3_InvalidChain k5_InvalidChain : Option Value}
    (l_InvalidChain : K.lookup c_InvalidChain = some (excClassObj nm_InvalidChain qn_InvalidChain c_InvalidChain N_InvalidChain bs_InvalidChain bm_InvalidChain true sn_InvalidChain sub_InvalidChain ab_InvalidChain col_InvalidChain dd_InvalidChain k0_InvalidChain k1_InvalidChain k2_InvalidChain k3_InvalidChain k5_InvalidChain "ValueError.__new__"))
    (r_InvalidChain : PySem.HandSPX.refsVE bm_InvalidChain = true)
    (sa_InvalidChain : PySem.W.findIn K (.ref c_InvalidChain) "__setattr__" = some (some (.builtin "object.__setattr__")))
    (ex_InvalidChain : PySem.W.subIn K (.ref c_InvalidChain) (.type "BaseException") = some true)
    (ty_InvalidChain : PySem.W.typeIn K (.ref c_InvalidChain) = some (.type "type"))
    (kc_InvalidChain : PySem.W.keepIn K (.ref c_InvalidChain) = true)
    (ga_InvalidChain : PySem.W.findIn K (.ref c_InvalidChain) "__getattribute__" = some (some (.builtin "BaseException.__getattribute__")))
    (gg_InvalidChain : PySem.W.findIn K (.ref c_InvalidChain) "__getattr__" = some none)
    (hd_InvalidChain : PySem.W.hasDictIn K c_InvalidChain = true)
    (ha_InvalidChain : PySem.W.findIn K (.ref c_InvalidChain) "__class__" = some (some (.builtin "object.__class__")))
    (hn_InvalidChain : PySem.W.specialIn K (.builtin "object.__class__") "__get__" = some (some (.builtin "getset_descriptor.__get__")))
    (ht_InvalidChain : PySem.W.takesIn K (.builtin "object.__class__") = some true)
    (hm_InvalidChain : PySem.W.mroIn K c_InvalidChain (.type "object") = some true)
    (nv_InvalidChain : PySem.W.findIn K (.ref c_InvalidChain) "value" = some none)
    (ti_InvalidChain : PySem.W.typeIn K (.ref f2) = some (.type "function"))
    (kq_InvalidChain_BookError : PySem.W.kitOne K (.ref c_InvalidChain) (.ref c_BookError) = some true)
    (kq_InvalidChain_InvalidBook : PySem.W.kitOne K (.ref c_InvalidChain) (.ref c_InvalidBook) = some false)
    (kq_InvalidChain_InvalidSize : PySem.W.kitOne K (.ref c_InvalidChain) (.ref c_InvalidSize) = some false)
    (kq_InvalidChain_InvalidTable : PySem.W.kitOne K (.ref c_InvalidChain) (.ref c_InvalidTable) = some false)
    (kq_InvalidChain_InvalidChain : PySem.W.kitOne K (.ref c_InvalidChain) (.ref c_InvalidChain) = some true)
    (kq_InvalidChain_InvalidNumber : PySem.W.kitOne K (.ref c_InvalidChain) (.ref c_InvalidNumber) = some false)
    (kq_InvalidChain_NothingToUndo : PySem.W.kitOne K (.ref c_InvalidChain) (.ref c_NothingToUndo) = some false)
    (kq_InvalidChain_Unreadable : PySem.W.kitOne K (.ref c_InvalidChain) (.ref c_Unreadable) = some false)
    (kq_InvalidChain_ValueError : PySem.W.kitOne K (.ref c_InvalidChain) (.type "ValueError") = some true)
    {nm_InvalidNumber qn_InvalidNumber : Str} {N_InvalidNumber : Addr} {bs_InvalidNumber bm_InvalidNumber : List Value} {sn_InvalidNumber : List Str} {sub_InvalidNumber : List Value} {ab_InvalidNumber : Bool} {col_InvalidNumber : Option Bool} {dd_InvalidNumber : Option Addr} {k0_InvalidNumber k1_InvalidNumber k2_InvalidNumber k3_InvalidNumber k5_InvalidNumber : Option Value}
    (l_InvalidNumber : K.lookup c_InvalidNumber = some (excClassObj nm_InvalidNumber qn_InvalidNumber c_InvalidNumber N_InvalidNumber bs_InvalidNumber bm_InvalidNumber true sn_InvalidNumber sub_InvalidNumber ab_InvalidNumber col_InvalidNumber dd_InvalidNumber k0_InvalidNumber k1_InvalidNumber k2_InvalidNumber k3_InvalidNumber k5_InvalidNumber "ValueError.__new__"))
    (r_InvalidNumber : PySem.HandSPX.refsVE bm_InvalidNumber = true)
    (sa_InvalidNumber : PySem.W.findIn K (.ref c_InvalidNumber) "__setattr__" = some (some (.builtin "object.__setattr__")))
    (ex_InvalidNumber : PySem.W.subIn K (.ref c_InvalidNumber) (.type "BaseException") = some true)
    (ty_InvalidNumber : PySem.W.typeIn K (.ref c_InvalidNumber) = some (.type "type"))
    (kc_InvalidNumber : PySem.W.keepIn K (.ref c_InvalidNumber) = true)
    (ga_InvalidNumber : PySem.W.findIn K (.ref c_InvalidNumber) "__getattribute__" = some (some (.builtin "BaseException.__getattribute__")))
    (gg_InvalidNumber : PySem.W.findIn K (.ref c_InvalidNumber) "__getattr__" = some none)
    (hd_InvalidNumber : PySem.W.hasDictIn K c_InvalidNumber = true)
    (ha_InvalidNumber : PySem.W.findIn K (.ref c_InvalidNumber) "__class__" = some (some (.builtin "object.__class__")))
    (hn_InvalidNumber : PySem.W.specialIn K (.builtin "object.__class__") "__get__" = some (some (.builtin "getset_descriptor.__get__")))
    (ht_InvalidNumber : PySem.W.takesIn K (.builtin "object.__class__") = some true)
    (hm_InvalidNumber : PySem.W.mroIn K c_InvalidNumber (.type "object") = some true)
    (nv_InvalidNumber : PySem.W.findIn K (.ref c_InvalidNumber) "value" = some none)
    (ti_InvalidNumber : PySem.W.typeIn K (.ref f3) = some (.type "function"))
    (kq_InvalidNumber_BookError : PySem.W.kitOne K (.ref c_InvalidNumber) (.ref c_BookError) = some true)
    (kq_InvalidNumber_InvalidBook : PySem.W.kitOne K (.ref c_InvalidNumber) (.ref c_InvalidBook) = some false)
    (kq_InvalidNumber_InvalidSize : PySem.W.kitOne K (.ref c_InvalidNumber) (.ref c_InvalidSize) = some false)
    (kq_InvalidNumber_InvalidTable : PySem.W.kitOne K (.ref c_InvalidNumber) (.ref c_InvalidTable) = some false)
    (kq_InvalidNumber_InvalidChain : PySem.W.kitOne K (.ref c_InvalidNumber) (.ref c_InvalidChain) = some false)
    (kq_InvalidNumber_InvalidNumber : PySem.W.kitOne K (.ref c_InvalidNumber) (.ref c_InvalidNumber) = some true)
    (kq_InvalidNumber_NothingToUndo : PySem.W.kitOne K (.ref c_InvalidNumber) (.ref c_NothingToUndo) = some false)
    (kq_InvalidNumber_Unreadable : PySem.W.kitOne K (.ref c_InvalidNumber) (.ref c_Unreadable) = some false)
    (kq_InvalidNumber_ValueError : PySem.W.kitOne K (.ref c_InvalidNumber) (.type "ValueError") = some true)
    (ks_InvalidTable_BookError : PySem.W.subIn K (.ref c_InvalidTable) (.ref c_BookError) = some true)
    (ex_BookError : PySem.W.subIn K (.ref c_BookError) (.type "BaseException") = some true)
    (ty_BookError : PySem.W.typeIn K (.ref c_BookError) = some (.type "type"))
    (hd_BookError : PySem.W.hasDictIn K c_BookError = true)
    (ks_InvalidBook_BookError : PySem.W.subIn K (.ref c_InvalidBook) (.ref c_BookError) = some true)
    (ks_InvalidNumber_BookError : PySem.W.subIn K (.ref c_InvalidNumber) (.ref c_BookError) = some true)
    (ks_InvalidChain_BookError : PySem.W.subIn K (.ref c_InvalidChain) (.ref c_BookError) = some true)
    : ∃ fd : FuncData, (∀ (s : Shared) (v : Value), BindsTo s fd ⟨[v], []⟩ [("script", v)]) ∧ ∀ base : Heap, K.In base → base.Ns mainGlobals mg → HS.FnG l.prog w K mg base CX0 8 fa fd ["script"] (sp_law K) := by
  have e := hfa.symm.trans (PySem.W.mg_of X G a36)
  cases e
  have F0 := fun_mk (st := s_InvalidBook___init__) l0 c0 k0
  have F1 := fun_mk (st := s_InvalidTable___init__) l1 c1 k1
  have F2 := fun_mk (st := s_InvalidChain___init__) l2 c2 k2
  have F3 := fun_mk (st := s_InvalidNumber___init__) l3 c3 k3
  have F4 := fun_mk (st := s__law_rng) l4 c4 k4
  have F5 := fun_mk (st := s__law_draw) l5 c5 k5
  have F6 := fun_mk (st := s__law_counted) l6 c6 k6
  have F7 := fun_mk (st := s__law_some) l7 c7 k7
  have F8 := fun_mk (st := s_check_book) l8 c8 k8
  have F9 := fun_mk (st := s_check_not_negative) l9 c9 k9
  have F10 := fun_mk (st := s_check_chain) l10 c10 k10
  have F11 := fun_mk (st := s_check_demands) l11 c11 k11
  have F12 := fun_mk (st := s_has_book) l12 c12 k12
  have F13 := fun_mk (st := s_list_places) l13 c13 k13
  have F14 := fun_mk (st := s_count_lists) l14 c14 k14
  have F15 := fun_mk (st := s_multiply_ways) l15 c15 k15
  have F16 := fun_mk (st := s_find_small_digit) l16 c16 k16
  have F17 := fun_mk (st := s_find_free_digit) l17 c17 k17
  have F18 := fun_mk (st := s_find_digit) l18 c18 k18
  have F19 := fun_mk (st := s_list_lengths) l19 c19 k19
  have F20 := fun_mk (st := s_count_fitting) l20 c20 k20
  have F21 := fun_mk (st := s_contradiction) l21 c21 k21
  have F22 := fun_mk (st := s_nth_fitting) l22 c22 k22
  have F23 := fun_mk (st := s_same_counts) l23 c23 k23
  have F24 := fun_mk (st := s_parting_size) l24 c24 k24
  have F25 := fun_mk (st := s_count_pages) l25 c25 k25
  have F26 := fun_mk (st := s_lengths_of) l26 c26 k26
  have F27 := fun_mk (st := s_count_books) l27 c27 k27
  have F28 := fun_mk (st := s__law_moebius) l28 c28 k28
  have F29 := fun_mk (st := s__law_wrong) l29 c29 k29
  have F30 := fun_mk (st := s__law_sizes) l30 c30 k30
  have F31 := fun_mk (st := s__law_told) l31 c31 k31
  have F32 := fun_mk (st := s__law_bad_book) l32 c32 k32
  have F33 := fun_mk (st := s__law_first) l33 c33 k33
  have F34 := fun_mk (st := s__law_bad_chain) l34 c34 k34
  have F35 := fun_mk (st := s__law_chains_right) l35 c35 k35
  have F36 := fun_mk (st := s_law) l36 c36 k36
  have T : Txt K mg ⟨f0, PySem.W.fnOf "__init__" "InvalidBook.__init__" (defArgs s_InvalidBook___init__) (defBody s_InvalidBook___init__) (defScope s_InvalidBook___init__) .none kV0 dc0 pm0 an0 cd0 ct0, f1, PySem.W.fnOf "__init__" "InvalidTable.__init__" (defArgs s_InvalidTable___init__) (defBody s_InvalidTable___init__) (defScope s_InvalidTable___init__) .none kV1 dc1 pm1 an1 cd1 ct1, f2, PySem.W.fnOf "__init__" "InvalidChain.__init__" (defArgs s_InvalidChain___init__) (defBody s_InvalidChain___init__) (defScope s_InvalidChain___init__) .none kV2 dc2 pm2 an2 cd2 ct2, f3, PySem.W.fnOf "__init__" "InvalidNumber.__init__" (defArgs s_InvalidNumber___init__) (defBody s_InvalidNumber___init__) (defScope s_InvalidNumber___init__) .none kV3 dc3 pm3 an3 cd3 ct3, f4, PySem.W.fnOf "_law_rng" "_law_rng" (defArgs s__law_rng) (defBody s__law_rng) (defScope s__law_rng) .none kV4 dc4 pm4 an4 cd4 ct4, f5, PySem.W.fnOf "_law_draw" "_law_draw" (defArgs s__law_draw) (defBody s__law_draw) (defScope s__law_draw) .none kV5 dc5 pm5 an5 cd5 ct5, f6, PySem.W.fnOf "_law_counted" "_law_counted" (defArgs s__law_counted) (defBody s__law_counted) (defScope s__law_counted) .none kV6 dc6 pm6 an6 cd6 ct6, f7, PySem.W.fnOf "_law_some" "_law_some" (defArgs s__law_some) (defBody s__law_some) (defScope s__law_some) .none kV7 dc7 pm7 an7 cd7 ct7, f8, PySem.W.fnOf "check_book" "check_book" (defArgs s_check_book) (defBody s_check_book) (defScope s_check_book) .none kV8 dc8 pm8 an8 cd8 ct8, f9, PySem.W.fnOf "check_not_negative" "check_not_negative" (defArgs s_check_not_negative) (defBody s_check_not_negative) (defScope s_check_not_negative) .none kV9 dc9 pm9 an9 cd9 ct9, f10, PySem.W.fnOf "check_chain" "check_chain" (defArgs s_check_chain) (defBody s_check_chain) (defScope s_check_chain) .none kV10 dc10 pm10 an10 cd10 ct10, f11, PySem.W.fnOf "check_demands" "check_demands" (defArgs s_check_demands) (defBody s_check_demands) (defScope s_check_demands) .none kV11 dc11 pm11 an11 cd11 ct11, f12, PySem.W.fnOf "has_book" "has_book" (defArgs s_has_book) (defBody s_has_book) (defScope s_has_book) .none kV12 dc12 pm12 an12 cd12 ct12, f13, PySem.W.fnOf "list_places" "list_places" (defArgs s_list_places) (defBody s_list_places) (defScope s_list_places) .none kV13 dc13 pm13 an13 cd13 ct13, f14, PySem.W.fnOf "count_lists" "count_lists" (defArgs s_count_lists) (defBody s_count_lists) (defScope s_count_lists) .none kV14 dc14 pm14 an14 cd14 ct14, f15, PySem.W.fnOf "multiply_ways" "multiply_ways" (defArgs s_multiply_ways) (defBody s_multiply_ways) (defScope s_multiply_ways) .none kV15 dc15 pm15 an15 cd15 ct15, f16, PySem.W.fnOf "find_small_digit" "find_small_digit" (defArgs s_find_small_digit) (defBody s_find_small_digit) (defScope s_find_small_digit) .none kV16 dc16 pm16 an16 cd16 ct16, f17, PySem.W.fnOf "find_free_digit" "find_free_digit" (defArgs s_find_free_digit) (defBody s_find_free_digit) (defScope s_find_free_digit) .none kV17 dc17 pm17 an17 cd17 ct17, f18, PySem.W.fnOf "find_digit" "find_digit" (defArgs s_find_digit) (defBody s_find_digit) (defScope s_find_digit) .none kV18 dc18 pm18 an18 cd18 ct18, f19, PySem.W.fnOf "list_lengths" "list_lengths" (defArgs s_list_lengths) (defBody s_list_lengths) (defScope s_list_lengths) .none kV19 dc19 pm19 an19 cd19 ct19, f20, PySem.W.fnOf "count_fitting" "count_fitting" (defArgs s_count_fitting) (defBody s_count_fitting) (defScope s_count_fitting) .none kV20 dc20 pm20 an20 cd20 ct20, f21, PySem.W.fnOf "contradiction" "contradiction" (defArgs s_contradiction) (defBody s_contradiction) (defScope s_contradiction) .none kV21 dc21 pm21 an21 cd21 ct21, f22, PySem.W.fnOf "nth_fitting" "nth_fitting" (defArgs s_nth_fitting) (defBody s_nth_fitting) (defScope s_nth_fitting) .none kV22 dc22 pm22 an22 cd22 ct22, f23, PySem.W.fnOf "same_counts" "same_counts" (defArgs s_same_counts) (defBody s_same_counts) (defScope s_same_counts) .none kV23 dc23 pm23 an23 cd23 ct23, f24, PySem.W.fnOf "parting_size" "parting_size" (defArgs s_parting_size) (defBody s_parting_size) (defScope s_parting_size) .none kV24 dc24 pm24 an24 cd24 ct24, f25, PySem.W.fnOf "count_pages" "count_pages" (defArgs s_count_pages) (defBody s_count_pages) (defScope s_count_pages) .none kV25 dc25 pm25 an25 cd25 ct25, f26, PySem.W.fnOf "lengths_of" "lengths_of" (defArgs s_lengths_of) (defBody s_lengths_of) (defScope s_lengths_of) .none kV26 dc26 pm26 an26 cd26 ct26, f27, PySem.W.fnOf "count_books" "count_books" (defArgs s_count_books) (defBody s_count_books) (defScope s_count_books) .none kV27 dc27 pm27 an27 cd27 ct27, f28, PySem.W.fnOf "_law_moebius" "_law_moebius" (defArgs s__law_moebius) (defBody s__law_moebius) (defScope s__law_moebius) .none kV28 dc28 pm28 an28 cd28 ct28, f29, PySem.W.fnOf "_law_wrong" "_law_wrong" (defArgs s__law_wrong) (defBody s__law_wrong) (defScope s__law_wrong) .none kV29 dc29 pm29 an29 cd29 ct29, f30, PySem.W.fnOf "_law_sizes" "_law_sizes" (defArgs s__law_sizes) (defBody s__law_sizes) (defScope s__law_sizes) .none kV30 dc30 pm30 an30 cd30 ct30, f31, PySem.W.fnOf "_law_told" "_law_told" (defArgs s__law_told) (defBody s__law_told) (defScope s__law_told) .none kV31 dc31 pm31 an31 cd31 ct31, f32, PySem.W.fnOf "_law_bad_book" "_law_bad_book" (defArgs s__law_bad_book) (defBody s__law_bad_book) (defScope s__law_bad_book) .none kV32 dc32 pm32 an32 cd32 ct32, f33, PySem.W.fnOf "_law_first" "_law_first" (defArgs s__law_first) (defBody s__law_first) (defScope s__law_first) .none kV33 dc33 pm33 an33 cd33 ct33, f34, PySem.W.fnOf "_law_bad_chain" "_law_bad_chain" (defArgs s__law_bad_chain) (defBody s__law_bad_chain) (defScope s__law_bad_chain) .none kV34 dc34 pm34 an34 cd34 ct34, f35, PySem.W.fnOf "_law_chains_right" "_law_chains_right" (defArgs s__law_chains_right) (defBody s__law_chains_right) (defScope s__law_chains_right) .none kV35 dc35 pm35 an35 cd35 ct35, fa, PySem.W.fnOf "law" "law" (defArgs s_law) (defBody s_law) (defScope s_law) .none kV36 dc36 pm36 an36 cd36 ct36, c_BookError, c_InvalidBook, c_InvalidSize, c_InvalidTable, c_InvalidChain, c_InvalidNumber, c_NothingToUndo, c_Unreadable⟩ :=
    { F_InvalidBook___init__ := F0,
      b_InvalidBook___init__ := F0.binds (ps := ["self", "value"]) fun _ _ _ _ _ _ us hl => match us, hl with | [_, _], _ => rfl,
      F_InvalidTable___init__ := F1,
      b_InvalidTable___init__ := F1.binds (ps := ["self", "value"]) fun _ _ _ _ _ _ us hl => match us, hl with | [_, _], _ => rfl,
      F_InvalidChain___init__ := F2,
      b_InvalidChain___init__ := F2.binds (ps := ["self", "value"]) fun _ _ _ _ _ _ us hl => match us, hl with | [_, _], _ => rfl,
      F_InvalidNumber___init__ := F3,
      b_InvalidNumber___init__ := F3.binds (ps := ["self", "value"]) fun _ _ _ _ _ _ us hl => match us, hl with | [_, _], _ => rfl,
      F__law_rng := F4,
      g__law_rng := PySem.W.mg_of X G a4,
      b__law_rng := F4.binds (ps := ["script"]) fun _ _ _ _ _ _ us hl => match us, hl with | [_], _ => rfl,
      F__law_draw := F5,
      g__law_draw := PySem.W.mg_of X G a5,
      b__law_draw := F5.binds (ps := ["rng", "limit"]) fun _ _ _ _ _ _ us hl => match us, hl with | [_, _], _ => rfl,
      F__law_counted := F6,
      g__law_counted := PySem.W.mg_of X G a6,
      b__law_counted := F6.binds (ps := ["some", "wide"]) fun _ _ _ _ _ _ us hl => match us, hl with | [_, _], _ => rfl,
      F__law_some := F7,
      g__law_some := PySem.W.mg_of X G a7,
      b__law_some := F7.binds (ps := ["rng", "most", "longest"]) fun _ _ _ _ _ _ us hl => match us, hl with | [_, _, _], _ => rfl,
      F_check_book := F8,
      g_check_book := PySem.W.mg_of X G a8,
      b_check_book := F8.binds (ps := ["book"]) fun _ _ _ _ _ _ us hl => match us, hl with | [_], _ => rfl,
      F_check_not_negative := F9,
      g_check_not_negative := PySem.W.mg_of X G a9,
      b_check_not_negative := F9.binds (ps := ["number"]) fun _ _ _ _ _ _ us hl => match us, hl with | [_], _ => rfl,
      F_check_chain := F10,
      g_check_chain := PySem.W.mg_of X G a10,
      b_check_chain := F10.binds (ps := ["chain"]) fun _ _ _ _ _ _ us hl => match us, hl with | [_], _ => rfl,
      F_check_demands := F11,
      g_check_demands := PySem.W.mg_of X G a11,
      b_check_demands := F11.binds (ps := ["chapters", "lines", "chain"]) fun _ _ _ _ _ _ us hl => match us, hl with | [_, _, _], _ => rfl,
      F_has_book := F12,
      g_has_book := PySem.W.mg_of X G a12,
      b_has_book := F12.binds (ps := ["chapters", "many"]) fun _ _ _ _ _ _ us hl => match us, hl with | [_, _], _ => rfl,
      F_list_places := F13,
      g_list_places := PySem.W.mg_of X G a13,
      b_list_places := F13.binds (ps := ["chapters", "lines", "chain"]) fun _ _ _ _ _ _ us hl => match us, hl with | [_, _, _], _ => rfl,
      F_count_lists := F14,
      g_count_lists := PySem.W.mg_of X G a14,
      b_count_lists := F14.binds (ps := ["terms", "limit", "total"]) fun _ _ _ _ _ _ us hl => match us, hl with | [_, _, _], _ => rfl,
      F_multiply_ways := F15,
      g_multiply_ways := PySem.W.mg_of X G a15,
      b_multiply_ways := F15.binds (ps := ["chapters", "places"]) fun _ _ _ _ _ _ us hl => match us, hl with | [_, _], _ => rfl,
      F_find_small_digit := F16,
      g_find_small_digit := PySem.W.mg_of X G a16,
      b_find_small_digit := F16.binds (ps := ["left", "total", "number", "books"]) fun _ _ _ _ _ _ us hl => match us, hl with | [_, _, _, _], _ => rfl,
      F_find_free_digit := F17,
      g_find_free_digit := PySem.W.mg_of X G a17,
      b_find_free_digit := F17.binds (ps := ["left", "total", "number", "books"]) fun _ _ _ _ _ _ us hl => match us, hl with | [_, _, _, _], _ => rfl,
      F_find_digit := F18,
      g_find_digit := PySem.W.mg_of X G a18,
      b_find_digit := F18.binds (ps := ["left", "limit", "total", "number", "books"]) fun _ _ _ _ _ _ us hl => match us, hl with | [_, _, _, _, _], _ => rfl,
      F_list_lengths := F19,
      g_list_lengths := PySem.W.mg_of X G a19,
      b_list_lengths := F19.binds (ps := ["chapters", "places", "number", "books"]) fun _ _ _ _ _ _ us hl => match us, hl with | [_, _, _, _], _ => rfl,
      F_count_fitting := F20,
      g_count_fitting := PySem.W.mg_of X G a20,
      b_count_fitting := F20.binds (ps := ["chapters", "lines", "chain"]) fun _ _ _ _ _ _ us hl => match us, hl with | [_, _, _], _ => rfl,
      F_contradiction := F21,
      g_contradiction := PySem.W.mg_of X G a21,
      b_contradiction := F21.binds (ps := ["chapters", "lines", "chain"]) fun _ _ _ _ _ _ us hl => match us, hl with | [_, _, _], _ => rfl,
      F_nth_fitting := F22,
      g_nth_fitting := PySem.W.mg_of X G a22,
      b_nth_fitting := F22.binds (ps := ["chapters", "lines", "chain", "number"]) fun _ _ _ _ _ _ us hl => match us, hl with | [_, _, _, _], _ => rfl,
      F_same_counts := F23,
      g_same_counts := PySem.W.mg_of X G a23,
      b_same_counts := F23.binds (ps := ["first", "second"]) fun _ _ _ _ _ _ us hl => match us, hl with | [_, _], _ => rfl,
      F_parting_size := F24,
      g_parting_size := PySem.W.mg_of X G a24,
      b_parting_size := F24.binds (ps := ["first", "second"]) fun _ _ _ _ _ _ us hl => match us, hl with | [_, _], _ => rfl,
      F_count_pages := F25,
      g_count_pages := PySem.W.mg_of X G a25,
      b_count_pages := F25.binds (ps := ["book", "size"]) fun _ _ _ _ _ _ us hl => match us, hl with | [_, _], _ => rfl,
      F_lengths_of := F26,
      g_lengths_of := PySem.W.mg_of X G a26,
      b_lengths_of := F26.binds (ps := ["table"]) fun _ _ _ _ _ _ us hl => match us, hl with | [_], _ => rfl,
      F_count_books := F27,
      g_count_books := PySem.W.mg_of X G a27,
      b_count_books := F27.binds (ps := ["table"]) fun _ _ _ _ _ _ us hl => match us, hl with | [_], _ => rfl,
      F__law_moebius := F28,
      g__law_moebius := PySem.W.mg_of X G a28,
      b__law_moebius := F28.binds (ps := ["number"]) fun _ _ _ _ _ _ us hl => match us, hl with | [_], _ => rfl,
      F__law_wrong := F29,
      g__law_wrong := PySem.W.mg_of X G a29,
      b__law_wrong := F29.binds (ps := ["rows"]) fun _ _ _ _ _ _ us hl => match us, hl with | [_], _ => rfl,
      F__law_sizes := F30,
      g__law_sizes := PySem.W.mg_of X G a30,
      b__law_sizes := F30.binds (ps := ["rng", "many", "most"]) fun _ _ _ _ _ _ us hl => match us, hl with | [_, _, _], _ => rfl,
      F__law_told := F31,
      g__law_told := PySem.W.mg_of X G a31,
      b__law_told := F31.binds (ps := ["way", "one", "other", "some"]) fun _ _ _ _ _ _ us hl => match us, hl with | [_, _, _, _], _ => rfl,
      F__law_bad_book := F32,
      g__law_bad_book := PySem.W.mg_of X G a32,
      b__law_bad_book := F32.binds (ps := ["rng", "some"]) fun _ _ _ _ _ _ us hl => match us, hl with | [_, _], _ => rfl,
      F__law_first := F33,
      g__law_first := PySem.W.mg_of X G a33,
      b__law_first := F33.binds (ps := ["some"]) fun _ _ _ _ _ _ us hl => match us, hl with | [_], _ => rfl,
      F__law_bad_chain := F34,
      g__law_bad_chain := PySem.W.mg_of X G a34,
      b__law_bad_chain := F34.binds (ps := ["rows"]) fun _ _ _ _ _ _ us hl => match us, hl with | [_], _ => rfl,
      F__law_chains_right := F35,
      g__law_chains_right := PySem.W.mg_of X G a35,
      b__law_chains_right := F35.binds (ps := ["rng"]) fun _ _ _ _ _ _ us hl => match us, hl with | [_], _ => rfl,
      F_law := F36,
      g_law := PySem.W.mg_of X G a36,
      b_law := F36.binds (ps := ["script"]) fun _ _ _ _ _ _ us hl => match us, hl with | [_], _ => rfl,
      z_ValueError := PySem.W.mg_none_of X G z0,
      z_abs := PySem.W.mg_none_of X G z1,
      z_enumerate := PySem.W.mg_none_of X G z2,
      z_int := PySem.W.mg_none_of X G z3,
      z_isinstance := PySem.W.mg_none_of X G z4,
      z_len := PySem.W.mg_none_of X G z5,
      z_list := PySem.W.mg_none_of X G z6,
      z_max := PySem.W.mg_none_of X G z7,
      z_min := PySem.W.mg_none_of X G z8,
      z_range := PySem.W.mg_none_of X G z9,
      z_repr := PySem.W.mg_none_of X G z10,
      z_set := PySem.W.mg_none_of X G z11,
      z_sorted := PySem.W.mg_none_of X G z12,
      z_sum := PySem.W.mg_none_of X G z13,
      z_zip := PySem.W.mg_none_of X G z14,
      kb_contradiction_0_chain_chapters_lines := ⟨fun s us ws h1 h2 => match us, ws, h1, h2 with | [], [_, _, _], _, _ => .of_eq rfl, fun r1 r2 => .cons (HS.relAt r2 1) (.cons (HS.relAt r2 2) (.cons (HS.relAt r2 0) (.nil)))⟩,
      kb_count_books_0_table := ⟨fun s us ws h1 h2 => match us, ws, h1, h2 with | [], [_], _, _ => .of_eq rfl, fun r1 r2 => .cons (HS.relAt r2 0) (.nil)⟩,
      kb_parting_size_0_second_first := ⟨fun s us ws h1 h2 => match us, ws, h1, h2 with | [], [_, _], _, _ => .of_eq rfl, fun r1 r2 => .cons (HS.relAt r2 1) (.cons (HS.relAt r2 0) (.nil))⟩,
      y_comb := PySem.W.mg_of X G y_comb,
      y_factorial := PySem.W.mg_of X G y_factorial,
      m_BookError := PySem.W.mg_of X G m_BookError,
      m_InvalidBook := PySem.W.mg_of X G m_InvalidBook,
      m_InvalidSize := PySem.W.mg_of X G m_InvalidSize,
      m_InvalidTable := PySem.W.mg_of X G m_InvalidTable,
      m_InvalidChain := PySem.W.mg_of X G m_InvalidChain,
      m_InvalidNumber := PySem.W.mg_of X G m_InvalidNumber,
      m_NothingToUndo := PySem.W.mg_of X G m_NothingToUndo,
      m_Unreadable := PySem.W.mg_of X G m_Unreadable,
      C_InvalidBook := ⟨⟨_, _, _, _, _, _, _, _, _, _, _, _, _, _, _, l_InvalidBook, r_InvalidBook⟩, sa_InvalidBook, ex_InvalidBook, ty_InvalidBook, kc_InvalidBook⟩,
      V_InvalidBook := ⟨ga_InvalidBook, gg_InvalidBook, ex_InvalidBook, hd_InvalidBook, ha_InvalidBook, hn_InvalidBook, ht_InvalidBook, hm_InvalidBook⟩,
      X_InvalidBook := ⟨ga_InvalidBook, gg_InvalidBook, ex_InvalidBook, hd_InvalidBook⟩,
      n_InvalidBook := nv_InvalidBook,
      i_InvalidBook := in_InvalidBook,
      t_InvalidBook := ti_InvalidBook,
      k_InvalidBook := ⟨fun s us ws _ h1 h2 => match us, ws, h1, h2 with | [_], [_], _, _ => .of_eq rfl, fun r1 r2 => r1.append r2⟩,
      q_InvalidBook_BookError := kq_InvalidBook_BookError,
      q_InvalidBook_InvalidBook := kq_InvalidBook_InvalidBook,
      q_InvalidBook_InvalidSize := kq_InvalidBook_InvalidSize,
      q_InvalidBook_InvalidTable := kq_InvalidBook_InvalidTable,
      q_InvalidBook_InvalidChain := kq_InvalidBook_InvalidChain,
      q_InvalidBook_InvalidNumber := kq_InvalidBook_InvalidNumber,
      q_InvalidBook_NothingToUndo := kq_InvalidBook_NothingToUndo,
      q_InvalidBook_Unreadable := kq_InvalidBook_Unreadable,
      q_InvalidBook_ValueError := kq_InvalidBook_ValueError,
      C_InvalidTable := ⟨⟨_, _, _, _, _, _, _, _, _, _, _, _, _, _, _, l_InvalidTable, r_InvalidTable⟩, sa_InvalidTable, ex_InvalidTable, ty_InvalidTable, kc_InvalidTable⟩,
      V_InvalidTable := ⟨ga_InvalidTable, gg_InvalidTable, ex_InvalidTable, hd_InvalidTable, ha_InvalidTable, hn_InvalidTable, ht_InvalidTable, hm_InvalidTable⟩,
      X_InvalidTable := ⟨ga_InvalidTable, gg_InvalidTable, ex_InvalidTable, hd_InvalidTable⟩,
      n_InvalidTable := nv_InvalidTable,
      i_InvalidTable := in_InvalidTable,
      t_InvalidTable := ti_InvalidTable,
      k_InvalidTable := ⟨fun s us ws _ h1 h2 => match us, ws, h1, h2 with | [_], [_], _, _ => .of_eq rfl, fun r1 r2 => r1.append r2⟩,
      q_InvalidTable_BookError := kq_InvalidTable_BookError,
      q_InvalidTable_InvalidBook := kq_InvalidTable_InvalidBook,
      q_InvalidTable_InvalidSize := kq_InvalidTable_InvalidSize,
      q_InvalidTable_InvalidTable := kq_InvalidTable_InvalidTable,
      q_InvalidTable_InvalidChain := kq_InvalidTable_InvalidChain,
      q_InvalidTable_InvalidNumber := kq_InvalidTable_InvalidNumber,
      q_InvalidTable_NothingToUndo := kq_InvalidTable_NothingToUndo,
      q_InvalidTable_Unreadable := kq_InvalidTable_Unreadable,
      q_InvalidTable_ValueError := kq_InvalidTable_ValueError,
      C_InvalidChain := ⟨⟨_, _, _, _, _, _, _, _, _, _, _, _, _, _, _, l_InvalidChain, r_InvalidChain⟩, sa_InvalidChain, ex_InvalidChain, ty_InvalidChain, kc_InvalidChain⟩,
      V_InvalidChain := ⟨ga_InvalidChain, gg_InvalidChain, ex_InvalidChain, hd_InvalidChain, ha_InvalidChain, hn_InvalidChain, ht_InvalidChain, hm_InvalidChain⟩,
      X_InvalidChain := ⟨ga_InvalidChain, gg_InvalidChain, ex_InvalidChain, hd_InvalidChain⟩,
      n_InvalidChain := nv_InvalidChain,
      i_InvalidChain := in_InvalidChain,
      t_InvalidChain := ti_InvalidChain,
      k_InvalidChain := ⟨fun s us ws _ h1 h2 => match us, ws, h1, h2 with | [_], [_], _, _ => .of_eq rfl, fun r1 r2 => r1.append r2⟩,
      q_InvalidChain_BookError := kq_InvalidChain_BookError,
      q_InvalidChain_InvalidBook := kq_InvalidChain_InvalidBook,
      q_InvalidChain_InvalidSize := kq_InvalidChain_InvalidSize,
      q_InvalidChain_InvalidTable := kq_InvalidChain_InvalidTable,
      q_InvalidChain_InvalidChain := kq_InvalidChain_InvalidChain,
      q_InvalidChain_InvalidNumber := kq_InvalidChain_InvalidNumber,
      q_InvalidChain_NothingToUndo := kq_InvalidChain_NothingToUndo,
      q_InvalidChain_Unreadable := kq_InvalidChain_Unreadable,
      q_InvalidChain_ValueError := kq_InvalidChain_ValueError,
      C_InvalidNumber := ⟨⟨_, _, _, _, _, _, _, _, _, _, _, _, _, _, _, l_InvalidNumber, r_InvalidNumber⟩, sa_InvalidNumber, ex_InvalidNumber, ty_InvalidNumber, kc_InvalidNumber⟩,
      V_InvalidNumber := ⟨ga_InvalidNumber, gg_InvalidNumber, ex_InvalidNumber, hd_InvalidNumber, ha_InvalidNumber, hn_InvalidNumber, ht_InvalidNumber, hm_InvalidNumber⟩,
      X_InvalidNumber := ⟨ga_InvalidNumber, gg_InvalidNumber, ex_InvalidNumber, hd_InvalidNumber⟩,
      n_InvalidNumber := nv_InvalidNumber,
      i_InvalidNumber := in_InvalidNumber,
      t_InvalidNumber := ti_InvalidNumber,
      k_InvalidNumber := ⟨fun s us ws _ h1 h2 => match us, ws, h1, h2 with | [_], [_], _, _ => .of_eq rfl, fun r1 r2 => r1.append r2⟩,
      q_InvalidNumber_BookError := kq_InvalidNumber_BookError,
      q_InvalidNumber_InvalidBook := kq_InvalidNumber_InvalidBook,
      q_InvalidNumber_InvalidSize := kq_InvalidNumber_InvalidSize,
      q_InvalidNumber_InvalidTable := kq_InvalidNumber_InvalidTable,
      q_InvalidNumber_InvalidChain := kq_InvalidNumber_InvalidChain,
      q_InvalidNumber_InvalidNumber := kq_InvalidNumber_InvalidNumber,
      q_InvalidNumber_NothingToUndo := kq_InvalidNumber_NothingToUndo,
      q_InvalidNumber_Unreadable := kq_InvalidNumber_Unreadable,
      q_InvalidNumber_ValueError := kq_InvalidNumber_ValueError,
      e_InvalidTable_BookError := PySem.W.exm_ref ex_BookError hd_BookError ty_BookError ks_InvalidTable_BookError,
      e_InvalidBook_BookError := PySem.W.exm_ref ex_BookError hd_BookError ty_BookError ks_InvalidBook_BookError,
      e_InvalidNumber_BookError := PySem.W.exm_ref ex_BookError hd_BookError ty_BookError ks_InvalidNumber_BookError,
      e_InvalidChain_BookError := PySem.W.exm_ref ex_BookError hd_BookError ty_BookError ks_InvalidChain_BookError }
  exact ⟨_, fun s v => .of_eq rfl, fun base _ _ => ok_law T⟩
end WK13
open PySem PySem.W PyProof.Rows
set_option maxHeartbeats 0 in
theorem PySem.Challenge.cw_pagecounts_k13_errors_of_tables_and_chai_holds : PySem.Challenge.rw_pagecounts_k13_errors_of_tables_and_chai.Holds := by
  w_on; o_law; k_head; (case hw => w_witness2)
  k_fill
  refine HS.walk_ofG (l := PySem.Challenge.rw_pagecounts_k13_errors_of_tables_and_chai) (n := 63) (k := 8) (x := "script") (CX := fun _ => L2.CX0) (sp := fun w => WK13.sp_law _) rfl (by decide) rfl ⟨rfl, by decide, by decide⟩ (fun w h Y => PySem.W.kIn_of Y) ?F (fun _ _ a ns hl _ hS => ⟨a, ns, rfl, hS, hl, fun _ => rfl⟩) (fun _ _ _ _ _ h => h)
  case F =>
    intro w mg fa h KX G hmg
    refine' WK13.all_mk KX G hmg ?m_BookError ?m_InvalidBook ?m_InvalidSize ?m_InvalidTable ?m_InvalidChain ?m_InvalidNumber ?m_NothingToUndo ?m_Unreadable ?in_InvalidBook ?l0 ?c0 ?k0 ?in_InvalidTable ?l1 ?c1 ?k1 ?in_InvalidChain ?l2 ?c2 ?k2 ?in_InvalidNumber ?l3 ?c3 ?k3 ?a4 ?l4 ?c4 ?k4 ?a5 ?l5 ?c5 ?k5 ?a6 ?l6 ?c6 ?k6 ?a7 ?l7 ?c7 ?k7 ?a8 ?l8 ?c8 ?k8 ?a9 ?l9 ?c9 ?k9 ?a10 ?l10 ?c10 ?k10 ?a11 ?l11 ?c11 ?k11 ?a12 ?l12 ?c12 ?k12 ?a13 ?l13 ?c13 ?k13 ?a14 ?l14 ?c14 ?k14 ?a15 ?l15 ?c15 ?k15 ?a16 ?l16 ?c16 ?k16 ?a17 ?l17 ?c17 ?k17 ?a18 ?l18 ?c18 ?k18 ?a19 ?l19 ?c19 ?k19 ?a20 ?l20 ?c20 ?k20 ?a21 ?l21 ?c21 ?k21 ?a22 ?l22 ?c22 ?k22 ?a23 ?l23 ?c23 ?k23 ?a24 ?l24 ?c24 ?k24 ?a25 ?l25 ?c25 ?k25 ?a26 ?l26 ?c26 ?k26 ?a27 ?l27 ?c27 ?k27 ?a28 ?l28 ?c28 ?k28 ?a29 ?l29 ?c29 ?k29 ?a30 ?l30 ?c30 ?k30 ?a31 ?l31 ?c31 ?k31 ?a32 ?l32 ?c32 ?k32 ?a33 ?l33 ?c33 ?k33 ?a34 ?l34 ?c34 ?k34 ?a35 ?l35 ?c35 ?k35 ?a36 ?l36 ?c36 ?k36 ?z0 ?z1 ?z2 ?z3 ?z4 ?z5 ?z6 ?z7 ?z8 ?z9 ?z10 ?z11 ?z12 ?z13 ?z14 ?y_comb ?y_factorial ?l_InvalidBook ?r_InvalidBook ?sa_InvalidBook ?ex_InvalidBook ?ty_InvalidBook ?kc_InvalidBook ?ga_InvalidBook ?gg_InvalidBook ?hd_InvalidBook ?ha_InvalidBook ?hn_InvalidBook ?ht_InvalidBook ?hm_InvalidBook ?nv_InvalidBook ?ti_InvalidBook ?kq_InvalidBook_BookError ?kq_InvalidBook_InvalidBook ?kq_InvalidBook_InvalidSize ?kq_InvalidBook_InvalidTable ?kq_InvalidBook_InvalidChain ?kq_InvalidBook_InvalidNumber ?kq_InvalidBook_NothingToUndo ?kq_InvalidBook_Unreadable ?kq_InvalidBook_ValueError ?l_InvalidTable ?r_InvalidTable ?sa_InvalidTable ?ex_InvalidTable ?ty_InvalidTable ?kc_InvalidTable ?ga_InvalidTable ?gg_InvalidTable ?hd_InvalidTable ?ha_InvalidTable ?hn_InvalidTable ?ht_InvalidTable ?hm_InvalidTable ?nv_InvalidTable ?ti_InvalidTable ?kq_InvalidTable_BookError ?kq_InvalidTable_InvalidBook ?kq_InvalidTable_InvalidSize ?kq_InvalidTable_InvalidTable ?kq_InvalidTable_InvalidChain ?kq_InvalidTable_InvalidNumber ?kq_InvalidTable_NothingToUndo ?kq_InvalidTable_Unreadable ?kq_InvalidTable_ValueError ?l_InvalidChain ?r_InvalidChain ?sa_InvalidChain ?ex_InvalidChain ?ty_InvalidChain ?kc_InvalidChain ?ga_InvalidChain ?gg_InvalidChain ?hd_InvalidChain ?ha_InvalidChain ?hn_InvalidChain ?ht_InvalidChain ?hm_InvalidChain ?nv_InvalidChain ?ti_InvalidChain ?kq_InvalidChain_BookError ?kq_InvalidChain_InvalidBook ?kq_InvalidChain_InvalidSize ?kq_InvalidChain_InvalidTable ?kq_InvalidChain_InvalidChain ?kq_InvalidChain_InvalidNumber ?kq_InvalidChain_NothingToUndo ?kq_InvalidChain_Unreadable ?kq_InvalidChain_ValueError ?l_InvalidNumber ?r_InvalidNumber ?sa_InvalidNumber ?ex_InvalidNumber ?ty_InvalidNumber ?kc_InvalidNumber ?ga_InvalidNumber ?gg_InvalidNumber ?hd_InvalidNumber ?ha_InvalidNumber ?hn_InvalidNumber ?ht_InvalidNumber ?hm_InvalidNumber ?nv_InvalidNumber ?ti_InvalidNumber ?kq_InvalidNumber_BookError ?kq_InvalidNumber_InvalidBook ?kq_InvalidNumber_InvalidSize ?kq_InvalidNumber_InvalidTable ?kq_InvalidNumber_InvalidChain ?kq_InvalidNumber_InvalidNumber ?kq_InvalidNumber_NothingToUndo ?kq_InvalidNumber_Unreadable ?kq_InvalidNumber_ValueError ?ks_InvalidTable_BookError ?ex_BookError ?ty_BookError ?hd_BookError ?ks_InvalidBook_BookError ?ks_InvalidNumber_BookError ?ks_InvalidChain_BookError
    (case m_BookError => k_is); (case m_InvalidBook => k_is); (case m_InvalidSize => k_is); (case m_InvalidTable => k_is); (case m_InvalidChain => k_is); (case m_InvalidNumber => k_is); (case m_NothingToUndo => k_is); (case m_Unreadable => k_is); (case in_InvalidBook => k_is); (case l0 => k_is); (case c0 => k_is); (case k0 => k_is); (case in_InvalidTable => k_is); (case l1 => k_is); (case c1 => k_is); (case k1 => k_is); (case in_InvalidChain => k_is); (case l2 => k_is); (case c2 => k_is); (case k2 => k_is); (case in_InvalidNumber => k_is); (case l3 => k_is); (case c3 => k_is); (case k3 => k_is); (case a4 => k_is); (case l4 => k_is); (case c4 => k_is); (case k4 => k_is); (case a5 => k_is); (case l5 => k_is); (case c5 => k_is); (case k5 => k_is); (case a6 => k_is); (case l6 => k_is); (case c6 => k_is); (case k6 => k_is); (case a7 => k_is); (case l7 => k_is); (case c7 => k_is); (case k7 => k_is); (case a8 => k_is); (case l8 => k_is); (case c8 => k_is); (case k8 => k_is); (case a9 => k_is); (case l9 => k_is); (case c9 => k_is); (case k9 => k_is); (case a10 => k_is); (case l10 => k_is); (case c10 => k_is); (case k10 => k_is); (case a11 => k_is); (case l11 => k_is); (case c11 => k_is); (case k11 => k_is); (case a12 => k_is); (case l12 => k_is); (case c12 => k_is); (case k12 => k_is); (case a13 => k_is); (case l13 => k_is); (case c13 => k_is); (case k13 => k_is); (case a14 => k_is); (case l14 => k_is); (case c14 => k_is); (case k14 => k_is); (case a15 => k_is); (case l15 => k_is); (case c15 => k_is); (case k15 => k_is); (case a16 => k_is); (case l16 => k_is); (case c16 => k_is); (case k16 => k_is); (case a17 => k_is); (case l17 => k_is); (case c17 => k_is); (case k17 => k_is); (case a18 => k_is); (case l18 => k_is); (case c18 => k_is); (case k18 => k_is); (case a19 => k_is); (case l19 => k_is); (case c19 => k_is); (case k19 => k_is); (case a20 => k_is); (case l20 => k_is); (case c20 => k_is); (case k20 => k_is); (case a21 => k_is); (case l21 => k_is); (case c21 => k_is); (case k21 => k_is); (case a22 => k_is); (case l22 => k_is); (case c22 => k_is); (case k22 => k_is); (case a23 => k_is); (case l23 => k_is); (case c23 => k_is); (case k23 => k_is); (case a24 => k_is); (case l24 => k_is); (case c24 => k_is); (case k24 => k_is); (case a25 => k_is); (case l25 => k_is); (case c25 => k_is); (case k25 => k_is); (case a26 => k_is); (case l26 => k_is); (case c26 => k_is); (case k26 => k_is); (case a27 => k_is); (case l27 => k_is); (case c27 => k_is); (case k27 => k_is); (case a28 => k_is); (case l28 => k_is); (case c28 => k_is); (case k28 => k_is); (case a29 => k_is); (case l29 => k_is); (case c29 => k_is); (case k29 => k_is); (case a30 => k_is); (case l30 => k_is); (case c30 => k_is); (case k30 => k_is); (case a31 => k_is); (case l31 => k_is); (case c31 => k_is); (case k31 => k_is); (case a32 => k_is); (case l32 => k_is); (case c32 => k_is); (case k32 => k_is); (case a33 => k_is); (case l33 => k_is); (case c33 => k_is); (case k33 => k_is); (case a34 => k_is); (case l34 => k_is); (case c34 => k_is); (case k34 => k_is); (case a35 => k_is); (case l35 => k_is); (case c35 => k_is); (case k35 => k_is); (case a36 => k_is); (case l36 => k_is); (case c36 => k_is); (case k36 => k_is); (case z0 => k_is); (case z1 => k_is); (case z2 => k_is); (case z3 => k_is); (case z4 => k_is); (case z5 => k_is); (case z6 => k_is); (case z7 => k_is); (case z8 => k_is); (case z9 => k_is); (case z10 => k_is); (case z11 => k_is); (case z12 => k_is); (case z13 => k_is); (case z14 => k_is); (case y_comb => k_is); (case y_factorial => k_is); (case l_InvalidBook => k_is); (case r_InvalidBook => rfl); (case sa_InvalidBook => k_is); (case ex_InvalidBook => k_is); (case ty_InvalidBook => k_is); (case kc_InvalidBook => k_is); (case ga_InvalidBook => k_is); (case gg_InvalidBook => k_is); (case hd_InvalidBook => k_is); (case ha_InvalidBook => k_is); (case hn_InvalidBook => k_is); (case ht_InvalidBook => k_is); (case hm_InvalidBook => k_is); (case nv_InvalidBook => k_is); (case ti_InvalidBook => k_is); (case kq_InvalidBook_BookError => kit_is); (case kq_InvalidBook_InvalidBook => kit_is); (case kq_InvalidBook_InvalidSize => kit_is); (case kq_InvalidBook_InvalidTable => kit_is); (case kq_InvalidBook_InvalidChain => kit_is); (case kq_InvalidBook_InvalidNumber => kit_is); (case kq_InvalidBook_NothingToUndo => kit_is); (case kq_InvalidBook_Unreadable => kit_is); (case kq_InvalidBook_ValueError => kit_is); (case l_InvalidTable => k_is); (case r_InvalidTable => rfl); (case sa_InvalidTable => k_is); (case ex_InvalidTable => k_is); (case ty_InvalidTable => k_is); (case kc_InvalidTable => k_is); (case ga_InvalidTable => k_is); (case gg_InvalidTable => k_is); (case hd_InvalidTable => k_is); (case ha_InvalidTable => k_is); (case hn_InvalidTable => k_is); (case ht_InvalidTable => k_is); (case hm_InvalidTable => k_is); (case nv_InvalidTable => k_is); (case ti_InvalidTable => k_is); (case kq_InvalidTable_BookError => kit_is); (case kq_InvalidTable_InvalidBook => kit_is); (case kq_InvalidTable_InvalidSize => kit_is); (case kq_InvalidTable_InvalidTable => kit_is); (case kq_InvalidTable_InvalidChain => kit_is); (case kq_InvalidTable_InvalidNumber => kit_is); (case kq_InvalidTable_NothingToUndo => kit_is); (case kq_InvalidTable_Unreadable => kit_is); (case kq_InvalidTable_ValueError => kit_is); (case l_InvalidChain => k_is); (case r_InvalidChain => rfl); (case sa_InvalidChain => k_is); (case ex_InvalidChain => k_is); (case ty_InvalidChain => k_is); (case kc_InvalidChain => k_is); (case ga_InvalidChain => k_is); (case gg_InvalidChain => k_is); (case hd_InvalidChain => k_is); (case ha_InvalidChain => k_is); (case hn_InvalidChain => k_is); (case ht_InvalidChain => k_is); (case hm_InvalidChain => k_is); (case nv_InvalidChain => k_is); (case ti_InvalidChain => k_is); (case kq_InvalidChain_BookError => kit_is); (case kq_InvalidChain_InvalidBook => kit_is); (case kq_InvalidChain_InvalidSize => kit_is); (case kq_InvalidChain_InvalidTable => kit_is); (case kq_InvalidChain_InvalidChain => kit_is); (case kq_InvalidChain_InvalidNumber => kit_is); (case kq_InvalidChain_NothingToUndo => kit_is); (case kq_InvalidChain_Unreadable => kit_is); (case kq_InvalidChain_ValueError => kit_is); (case l_InvalidNumber => k_is); (case r_InvalidNumber => rfl); (case sa_InvalidNumber => k_is); (case ex_InvalidNumber => k_is); (case ty_InvalidNumber => k_is); (case kc_InvalidNumber => k_is); (case ga_InvalidNumber => k_is); (case gg_InvalidNumber => k_is); (case hd_InvalidNumber => k_is); (case ha_InvalidNumber => k_is); (case hn_InvalidNumber => k_is); (case ht_InvalidNumber => k_is); (case hm_InvalidNumber => k_is); (case nv_InvalidNumber => k_is); (case ti_InvalidNumber => k_is); (case kq_InvalidNumber_BookError => kit_is); (case kq_InvalidNumber_InvalidBook => kit_is); (case kq_InvalidNumber_InvalidSize => kit_is); (case kq_InvalidNumber_InvalidTable => kit_is); (case kq_InvalidNumber_InvalidChain => kit_is); (case kq_InvalidNumber_InvalidNumber => kit_is); (case kq_InvalidNumber_NothingToUndo => kit_is); (case kq_InvalidNumber_Unreadable => kit_is); (case kq_InvalidNumber_ValueError => kit_is); (case ks_InvalidTable_BookError => k_is); (case ex_BookError => k_is); (case ty_BookError => k_is); (case hd_BookError => k_is); (case ks_InvalidBook_BookError => k_is); (case ks_InvalidNumber_BookError => k_is); (case ks_InvalidChain_BookError => k_is)

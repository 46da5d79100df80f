import PyProof.Rows.All
import Wide.All
import OpenK.AllK
import Wide.FinOn
import HandS.Evl
import HandS.GenList
import HandS.Walk
import HandS.WordsExc
import HandS.ForMost
import HandS.Wide
import HandS.Style
import HandS.SortInts
import HandS.SortKw
import HandS.SetFor
import HandS.Flow
import HandS.Gcd
import HandS.Strs
import HandS.Property
import HandS.ExcInit
import HandS.ExcIs
import HandS.ExcField
import HandS.ExcOwn
import HandS.Deep
import HandS.NoneIn
import HandS.IsInst
import HandS.Defaults
import HandS.Star
import KE.KExcIs
import KE.KIsAll
import KE.DatumOrd
import KE.GoesMore
import KE.GoesEnum
import KE.KMathG
import HandS.RaiseMore
import PyProof.ReprRoads
import PyProof.ReprBulk
import PyProof.FitsInt
import PySem.Challenge.RW_pagecounts_k07_sizes_with_a_number_of_pa
set_option Elab.async false
set_option linter.all false
set_option maxRecDepth 100000
set_option maxHeartbeats 4000000
/-! Readings, step by step, from their heads (own lemmas over HandS). -/
namespace HS
open PySem PySem.Spec PyProof.Rows L2
section
variable {σ : L2.St} {H : Hp} {Q : VK} {t u : TS} {te ta tb tx : TE} {tt tv : TT} {n bk ct : L2.St → Hp → Prop} {rt : VK} {K : PySem.W.Frag}
theorem seq (h : t ⟨u ⟨n, rt, bk, ct⟩, rt, bk, ct⟩ σ H) : tSeq t u ⟨n, rt, bk, ct⟩ σ H := h
theorem nxt (h : n σ H) : tNext ⟨n, rt, bk, ct⟩ σ H := h
theorem brk (h : bk σ H) : tBreak ⟨n, rt, bk, ct⟩ σ H := h
theorem cnt (h : ct σ H) : tCont ⟨n, rt, bk, ct⟩ σ H := h
theorem asg {g : TG} (h : te σ H fun x H1 => g x σ H1 n) : tAsg te g ⟨n, rt, bk, ct⟩ σ H := h
theorem nm {v : V} {i : Nat} {q : L2.St → Hp → Prop} (h : q (σ.set i (some v)) H) : gName i v σ H q := h
theorem sub {to ti : TE} {ts : TSet} {v : V} {q : L2.St → Hp → Prop} (h : to σ H fun o H1 => ti σ H1 fun i H2 => ts o i v H2 fun H3 => q σ H3) : gSub to ti ts v σ H q := h
theorem var {i : Nat} {v : V} (h : σ[i]? = some (some v)) (q : Q v H) : tVar i σ H Q := ⟨v, h, q⟩
theorem cst {v : V} (q : Q v H) : tC v σ H Q := q
theorem op {r : R2} (h : ta σ H fun x H1 => tb σ H1 fun y H2 => r x y H2 Q) : tOp r ta tb σ H Q := h
theorem un {r : V → Hp → VK → Prop} (h : ta σ H fun x H1 => r x H1 Q) : tUn r ta σ H Q := h
theorem i0 {g : Int → Int → V} {i j : Int} (q : Q (g i j) H) : rI0 g (.int i) (.int j) H Q := ⟨i, j, rfl, rfl, q⟩
theorem i1 {C : Int → Int → Prop} {g : Int → Int → V} {i j : Int} (q : C i j ∧ Q (g i j) H) : rI C g (.int i) (.int j) H Q := ⟨i, j, rfl, rfl, q⟩
theorem u0 {g : Int → V} {i : Int} (q : Q (g i) H) : rU g (.int i) H Q := ⟨i, rfl, q⟩
theorem eqI {i j : Int} (q : Q (.bl (decide (i = j))) H) : rEq (.int i) (.int j) H Q := ⟨rfl, by
  have e : decide ((V.int i) = V.int j) = decide (i = j) := by
    by_cases h : i = j
    · rw [h]; simp
    · have h2 : ¬ (V.int i = V.int j) := fun z => h (V.int.inj z)
      rw [decide_eq_false h, decide_eq_false h2]
  rw [e]; exact q⟩
theorem neI {i j : Int} (q : Q (.bl (!decide (i = j))) H) : rNe (.int i) (.int j) H Q := ⟨rfl, by
  have e : decide ((V.int i) = V.int j) = decide (i = j) := by
    by_cases h : i = j
    · rw [h]; simp
    · have h2 : ¬ (V.int i = V.int j) := fun z => h (V.int.inj z)
      rw [decide_eq_false h, decide_eq_false h2]
  rw [e]; exact q⟩
theorem tst {q : Bool → Hp → Prop} (h : te σ H fun x H' => ∃ k, x = .bl k ∧ q k H') : tTest te σ H q := h
theorem tb1 {q : Bool → Hp → Prop} (h : te σ H fun x H' => ∃ k, x = .bl k ∧ q k H') : tB te σ H q := h
theorem bex {b : Bool} {q : Bool → Prop} (h : q b) : ∃ k, V.bl b = V.bl k ∧ q k := ⟨b, rfl, h⟩
theorem ifs (h : tt σ H fun b H1 => if b = true then t ⟨n, rt, bk, ct⟩ σ H1 else u ⟨n, rt, bk, ct⟩ σ H1) : tIfS tt t u ⟨n, rt, bk, ct⟩ σ H := h
theorem ife (h : tt σ H fun b H1 => if b = true then ta σ H1 Q else tb σ H1 Q) : tIf tt ta tb σ H Q := h
theorem and {q : Bool → Hp → Prop} (h : tt σ H fun c H1 => if c = true then tv σ H1 q else q false H1) : tAnd tt tv σ H q := h
theorem or {q : Bool → Hp → Prop} (h : tt σ H fun c H1 => if c = true then q true H1 else tv σ H1 q) : tOr tt tv σ H q := h
theorem not {q : Bool → Hp → Prop} (h : tt σ H fun c H1 => q (!c) H1) : tNot tt σ H q := h
theorem andV (h : ta σ H fun x H1 => ∃ c, x = .bl c ∧ if c = true then tb σ H1 Q else Q (.bl false) H1) : tAndV ta tb σ H Q := h
theorem orV (h : ta σ H fun x H1 => ∃ c, x = .bl c ∧ if c = true then Q (.bl true) H1 else tb σ H1 Q) : tOrV ta tb σ H Q := h
theorem notV (h : ta σ H fun x H1 => ∃ c, x = .bl c ∧ Q (.bl (!c)) H1) : tNotV ta σ H Q := h
theorem chn {r r' : R2} {tc : TE} (h : ta σ H fun x H1 => tb σ H1 fun y H2 => r x y H2 fun z H3 => ∃ k, z = .bl k ∧ if k = true then tc σ H3 fun w H4 => r' y w H4 Q else Q (.bl false) H3) : tChain r r' ta tb tc σ H Q := h
theorem ret (h : te σ H rt) : tRet te ⟨n, rt, bk, ct⟩ σ H := h
theorem retN (h : rt .non H) : tRetN ⟨n, rt, bk, ct⟩ σ H := h
theorem drp (h : te σ H fun _ H1 => n σ H1) : tDrop te ⟨n, rt, bk, ct⟩ σ H := h
theorem cb {r : List V → Hp → VK → Prop} {tl : TA} (h : tl σ H fun vs H1 => r vs H1 Q) : tCB r tl σ H Q := h
theorem anil {q : List V → Hp → Prop} (h : q [] H) : tNil σ H q := h
theorem acons {tl : TA} {q : List V → Hp → Prop} (h : te σ H fun x H1 => tl σ H1 fun xs H2 => q (x :: xs) H2) : tCons te tl σ H q := h
theorem cal {sp : Sp} {E : XK} {tl : TA} (h : tl σ H fun vs H1 => sp vs H1 Q E) : tCall sp [] E tl σ H Q := by
  show tl σ H fun vs H1 => sp (vs ++ []) H1 Q E
  simp only [List.append_nil]; exact h
theorem tup {tl : TA} (h : tl σ H fun xs H1 => xs.length ≤ sizeLine ∧ ∀ p, H1 p = none → Q (.ref p) (upd H1 p (.tup xs))) : tTup tl σ H Q := h
theorem lst {tl : TA} (h : tl σ H fun xs H1 => xs.length ≤ sizeLine ∧ ∀ p, H1 p = none → Q (.ref p) (upd H1 p (.lst xs))) : tLst tl σ H Q := h
theorem par {i j : Nat} {tl : TA} (h : tl σ H fun vs H1 => ∃ v w, vs = [v, w] ∧ n ((σ.set i (some v)).set j (some w)) H1) : tPar i j tl ⟨n, rt, bk, ct⟩ σ H := h
theorem ex2 {v w : V} {q : V → V → Prop} (h : q v w) : ∃ a b, [v, w] = [a, b] ∧ q a b := ⟨v, w, rfl, h⟩
theorem aug {i : Nat} {ti : TIp} {x : V} (e : σ[i]? = some (some x)) (h : te σ H fun y H1 => ti x y H1 fun z H2 => n (σ.set i (some z)) H2) : tAug i te ti ⟨n, rt, bk, ct⟩ σ H := ⟨x, e, h⟩
theorem ipi {f : Int → Int → Int} {i j : Int} (q : Q (.int (f i j)) H) : ipI f (.int i) (.int j) H Q := ⟨i, j, rfl, rfl, q⟩
theorem addI {i j : Int} (q : Q (.int (i + j)) H) : rAdd (.int i) (.int j) H Q := ⟨i, j, rfl, rfl, q⟩
theorem ixL {p : Addr} {xs : List V} {i : Int} {v : V} (h : SqL K H p xs) (e : atI xs i = some v) (q : Q v H) : rIxL K (.ref p) (.int i) H Q := ⟨p, xs, i, v, rfl, rfl, h, e, q⟩
theorem ixT {p : Addr} {xs : List V} {i : Int} {v : V} (h : SqT K H p xs) (e : atI xs i = some v) (q : Q v H) : rIxT K (.ref p) (.int i) H Q := ⟨p, xs, i, v, rfl, rfl, h, e, q⟩
/-- an if over a decided thing -/
theorem itd {c A B : Prop} [Decidable c] (h1 : c → A) (h2 : ¬ c → B) : if decide c = true then A else B := by
  by_cases h : c
  · rw [decide_eq_true h, if_pos rfl]; exact h1 h
  · rw [decide_eq_false h, if_neg Bool.false_ne_true]; exact h2 h
theorem itn {c A B : Prop} [Decidable c] (h1 : ¬ c → A) (h2 : c → B) : if (!decide c) = true then A else B := by
  by_cases h : c
  · rw [decide_eq_true h]; exact iteF (h2 h)
  · rw [decide_eq_false h]; exact iteT (h1 h)
theorem it1 {c A B : Prop} [Decidable c] (hc : c) (h : A) : if decide c = true then A else B := itd (fun _ => h) fun z => absurd hc z
theorem it0 {c A B : Prop} [Decidable c] (hc : ¬ c) (h : B) : if decide c = true then A else B := itd (fun z => absurd z hc) fun _ => h
theorem in1 {c A B : Prop} [Decidable c] (hc : ¬ c) (h : A) : if (!decide c) = true then A else B := itn (fun _ => h) fun z => absurd z hc
theorem in0 {c A B : Prop} [Decidable c] (hc : c) (h : B) : if (!decide c) = true then A else B := itn (fun z => absurd hc z) fun _ => h
end
/-! ### heaps: all but S stands -/
def Keep (S : Addr → Prop) (H H' : Hp) : Prop := ∀ a o, H a = some o → ¬ S a → H' a = some o
section
variable {S : Addr → Prop} {H H1 H2 : Hp} {p q : Addr} {o u : HO}
theorem Keep.refl : Keep S H H := fun _ _ h _ => h
theorem Keep.trans (a : Keep S H H1) (b : Keep S H1 H2) : Keep S H H2 := fun x o h n => b x o (a x o h n) n
theorem Keep.new (h : H p = none) : Keep S H (upd H p o) := fun a u e _ => by rw [upd_ne (ne_of_none e h)]; exact e
theorem Keep.put (k : Keep S H H1) (h : H p = none) : Keep S H (upd H1 p o) := fun a u e n => by rw [upd_ne (ne_of_none e h)]; exact k a u e n
theorem Keep.at (k : Keep S H H1) (h : S p) : Keep S H (upd H1 p o) := fun a u e n => by rw [upd_ne (fun z => n (by rw [z]; exact h))]; exact k a u e n
theorem Keep.free (k : Keep S H H1) (h : H1 p = none) (n : ¬ S p) : H p = none := by
  cases e : H p with
  | none => rfl
  | some o => have z := k p o e n; rw [h] at z; cases z
theorem Keep.sq {K : PySem.W.Frag} {xs : List V} (k : Keep S H H1) (h : SqL K H p xs) (n : ¬ S p) : SqL K H1 p xs := by
  rcases h with (h | ⟨o, h⟩) | h
  · exact .inl (.inl (k _ _ h n))
  · exact .inl (.inr ⟨o, k _ _ h n⟩)
  · exact .inr h
theorem Keep.st {K : PySem.W.Frag} {xs : List V} (k : Keep S H H1) (h : SqT K H p xs) (n : ¬ S p) : SqT K H1 p xs := by
  rcases h with (h | ⟨o, h⟩) | h
  · exact .inl (.inl (k _ _ h n))
  · exact .inl (.inr ⟨o, k _ _ h n⟩)
  · exact .inr h
theorem sq {K : PySem.W.Frag} {xs : List V} (h : H p = some (.lst xs)) : SqL K H p xs := .inl (.inl h)
theorem st {K : PySem.W.Frag} {xs : List V} (h : H p = some (.tup xs)) : SqT K H p xs := .inl (.inl h)
end
end HS
theorem hu64 {A : PySem.Around} {k : Nat} (hr : L2.Room k A) : A.units + 64 < PySem.cLine := hr.units
namespace HS
open PySem PySem.Spec PyProof.Rows L2
section
variable {σ : L2.St} {H : Hp} {Q : VK} {te ta tb tx : TE} {K : PySem.W.Frag} {X : Cx}
theorem sz {n : Nat} (h : n ≤ 100000) : n < sizeLine := Nat.lt_of_le_of_lt h (by decide)
theorem szl {n : Nat} (h : n ≤ 100000) : n ≤ sizeLine := Nat.le_of_lt (sz h)
theorem pe_fold {e : Expr} {t : TE} (z : Int) (h : PE X e t) (k : ∀ (σ : L2.St) (H : Hp) (Q : VK), Q (.int z) H → t σ H Q) : PE X e (tC (.int z)) :=
  ⟨fun pins s σ H Q I q => h.run pins s σ H Q I (k σ H Q q)⟩
theorem ii {a b : Int} {q : Int → Int → Prop} (h : q a b) : ∃ i j, [V.int a, V.int b] = [V.int i, V.int j] ∧ q i j := ⟨a, b, rfl, h⟩
theorem bmL {r : V → List V → Hp → VK → Prop} {tl : TA} (h : ta σ H fun x H1 => tyV K "list" x H1 ∧ tl σ H1 fun xs H2 => r x xs H2 Q) : tBM K "list" r ta tl σ H Q := h
theorem bmL0 {r : V → List V → Hp → VK → Prop} (h : ta σ H fun x H1 => tyV K "list" x H1 ∧ r x [] H1 Q) : tBM0 K "list" r ta σ H Q := h
theorem tyL {p : Addr} {xs : List V} {A : Prop} (h : H p = some (.lst xs)) (q : A) : tyV K "list" (.ref p) H ∧ A := ⟨.inl ⟨rfl, _, .inl (.inl h)⟩, q⟩
theorem app {l : Addr} {xs : List V} {y : V} (h : H l = some (.lst xs)) (q : xs.length < sizeLine ∧ Q .non (upd H l (.lst (xs ++ [y])))) : rAppend (.ref l) [y] H Q := ⟨l, xs, y, rfl, rfl, h, q⟩
theorem pop0 {l : Addr} {y : V} {ys : List V} (h : H l = some (.lst (y :: ys))) (q : Q y (upd H l (.lst ys))) : rPopAt (.ref l) [.int 0] H Q := ⟨l, y :: ys, 0, 0, y, rfl, rfl, h, by decide, by decide, by simp [seqIndex?], rfl, q⟩
theorem setL {p : Addr} {xs : List V} {k : Int} {j : Nat} {v : V} {q : Hp → Prop} (h : H p = some (.lst xs)) (e : ixN xs.length k = some j) (g : q (upd H p (.lst (xs.set j v)))) : rSetL (.ref p) (.int k) v H q := ⟨p, xs, _, j, rfl, rfl, h, e, g⟩
theorem mulW {i j : Int} (a b : Nat) (h0 : 0 ≤ i) (h1 : i < 2 ^ a) (g0 : 0 ≤ j) (g1 : j < 2 ^ b) (ha : 0 < a) (hb : 0 < b) (h : a + b ≤ 1000000) : CMulW i j := by
  refine wide_mul (a := a) (b := b) ?_ ?_ ha hb h
  · have : ((i.natAbs : Nat) : Int) < ((2 ^ a : Nat) : Int) := by rw [Int.natAbs_of_nonneg h0]; simpa using h1
    exact Int.ofNat_lt.mp this
  · have : ((j.natAbs : Nat) : Int) < ((2 ^ b : Nat) : Int) := by rw [Int.natAbs_of_nonneg g0]; simpa using g1
    exact Int.ofNat_lt.mp this
theorem divW {i j : Int} (b : Nat) (h : 0 < j) (h1 : j < 2 ^ b) (hb : 0 < b) (h9 : b ≤ 9000) : CDivW i j := by
  refine wide_div (b := b) h ?_ hb h9
  have : ((j.natAbs : Nat) : Int) < ((2 ^ b : Nat) : Int) := by rw [Int.natAbs_of_nonneg (by omega)]; simpa using h1
  exact Int.ofNat_lt.mp this
theorem get_int {ns : List Int} {i : Nat} {x : V} (hi : (ns.map V.int)[i]? = some x) : ∃ z, x = .int z ∧ ns[i]? = some z ∧ i < ns.length := by
  rw [List.getElem?_map] at hi
  cases e : ns[i]? with
  | none => rw [e] at hi; cases hi
  | some z => rw [e] at hi; exact ⟨z, (Option.some.inj hi).symm, rfl, (List.getElem?_eq_some_iff.mp e).1⟩
end
end HS
namespace HS
open PySem PySem.Spec PyProof.Rows L2
theorem Keep.new' {S : Addr → Prop} {H H0 H1 : Hp} {p : Addr} {o : HO} (h : H0 p = none) (k0 : Keep S H H0) (n : ¬ S p) (k : Keep S H H1) : Keep S H (upd H1 p o) := k.put (k0.free h n)
theorem nS2 {p a b : Addr} (h1 : p ≠ a) (h2 : p ≠ b) : ¬ (p = a ∨ p = b) := fun z => z.elim h1 h2
theorem nS3 {p a b c : Addr} (h1 : p ≠ a) (h2 : p ≠ b) (h3 : p ≠ c) : ¬ (p = a ∨ p = b ∨ p = c) := fun z => z.elim h1 fun z => z.elim h2 h3
end HS
namespace HS
open PySem PySem.Spec PyProof.Rows L2
section
variable {σ : L2.St} {H : Hp} {t u : TS} {n bk ct : L2.St → Hp → Prop} {rt : VK}
theorem pnx (h : n σ H) : Ends.nx ⟨n, rt, bk, ct⟩ σ H := h
theorem pbk (h : bk σ H) : Ends.bk ⟨n, rt, bk, ct⟩ σ H := h
theorem pct (h : ct σ H) : Ends.ct ⟨n, rt, bk, ct⟩ σ H := h
theorem prt {v : V} (h : rt v H) : Ends.rt ⟨n, rt, bk, ct⟩ v H := h
theorem cut (M : L2.St → Hp → Prop) (h : t ⟨M, rt, bk, ct⟩ σ H) (k : ∀ σ' H', M σ' H' → u ⟨n, rt, bk, ct⟩ σ' H') : Evl.tCut t u ⟨n, rt, bk, ct⟩ σ H := ⟨M, h, k⟩
theorem pow_lt {i : Int} {a : Nat} (k : Nat) (h0 : 0 ≤ i) (h : i < 2 ^ a) : 0 ≤ i ^ k ∧ (i ^ k < 2 ^ (a * k) ∨ k = 0) := by
  refine ⟨Int.pow_nonneg h0, ?_⟩
  cases k with
  | zero => exact .inr rfl
  | succ k =>
    refine .inl ?_
    obtain ⟨m, rfl⟩ := Int.eq_ofNat_of_zero_le h0
    have h' : m < 2 ^ a := by have : ((m : Nat) : Int) < ((2 ^ a : Nat) : Int) := by simpa using h
                              exact Int.ofNat_lt.mp this
    have := Nat.pow_lt_pow_left h' (Nat.succ_ne_zero k)
    rw [← Nat.pow_mul] at this
    have z : ((m ^ (k + 1) : Nat) : Int) < ((2 ^ (a * (k + 1)) : Nat) : Int) := Int.ofNat_lt.mpr this
    simpa using z
end
end HS
namespace HS
open PySem PySem.Spec PyProof.Rows L2
section
variable {σ : L2.St} {H : Hp} {Q : VK} {ta tb te : TE} {K : PySem.W.Frag}
theorem szc {n : Nat} {A : Prop} (h : n ≤ 100000) (q : A) : n ≤ sizeLine ∧ A := ⟨szl h, q⟩
theorem szd {n : Nat} {A : Prop} (h : n ≤ 100000) (q : A) : n < sizeLine ∧ A := ⟨sz h, q⟩
theorem wp {σ1 σ2 : L2.St} {vs : List Nat} {A : Prop} (e : wipe σ2 vs = wipe σ1 vs) (q : A) : wipe σ2 vs = wipe σ1 vs ∧ A := ⟨e, q⟩
theorem yes {q : Bool → Hp → Prop} (h : q true H) : tYes σ H q := h
theorem ixI {p : Addr} {i : Int} (ns : List Int) (h : SqL K H p (ns.map V.int)) (h0 : 0 ≤ i) (h1 : i < ns.length) (q : ∀ z, ns[i.toNat]? = some z → z ∈ ns → Q (.int z) H) : rIxL K (.ref p) (.int i) H Q := by
  have hi : i.toNat < ns.length := by omega
  have e : ns[i.toNat]? = some ns[i.toNat] := List.getElem?_eq_getElem hi
  refine ⟨p, ns.map V.int, i, .int ns[i.toNat], rfl, rfl, h, ?_, q _ e (List.getElem_mem hi)⟩
  exact at_of (j := i.toNat) (by omega) (by rw [List.getElem?_map, e]; rfl)
theorem ixV {p : Addr} {i : Int} {xs : List V} (h : SqL K H p xs) (h0 : 0 ≤ i) (h1 : i < xs.length) (q : ∀ v, xs[i.toNat]? = some v → v ∈ xs → Q v H) : rIxL K (.ref p) (.int i) H Q := by
  have hi : i.toNat < xs.length := by omega
  have e : xs[i.toNat]? = some xs[i.toNat] := List.getElem?_eq_getElem hi
  refine ⟨p, xs, i, xs[i.toNat], rfl, rfl, h, ?_, q _ e (List.getElem_mem hi)⟩
  exact at_of (j := i.toNat) (by omega) e
theorem ixVT {p : Addr} {i : Int} {xs : List V} (h : SqT K H p xs) (h0 : 0 ≤ i) (h1 : i < xs.length) (q : ∀ v, xs[i.toNat]? = some v → v ∈ xs → Q v H) : rIxT K (.ref p) (.int i) H Q := by
  have hi : i.toNat < xs.length := by omega
  have e : xs[i.toNat]? = some xs[i.toNat] := List.getElem?_eq_getElem hi
  refine ⟨p, xs, i, xs[i.toNat], rfl, rfl, h, ?_, q _ e (List.getElem_mem hi)⟩
  exact at_of (j := i.toNat) (by omega) e
theorem lc {wi : TI} {g : TG} {tt : TT} {vs : List Nat} (h : wi σ H fun J H1 => ∀ D, H1 D = none → ∃ W : Nat → Nat → Hp → Prop, (∃ m, W 0 m (upd H1 D (.lst []))) ∧ ∀ i m H, W i m H → (J.stop i H ∧ Q (.ref D) H) ∨ (J.go i H ∧ ∃ Nx : Hp → Prop, (∀ H', Nx H' → ∃ m', m' < m ∧ W (i + 1) m' H') ∧ ∀ x H', J.yld i H x H' → g x (wipe σ vs) H' fun σ2 H2 => wipe σ2 vs = wipe σ vs ∧ tt σ2 H2 fun b H3 => if b = true then te σ2 H3 fun y H4 => ∃ acc, H4 D = some (.lst acc) ∧ acc.length < sizeLine ∧ Nx (upd H4 D (.lst (acc ++ [y]))) else Nx H3)) : tLc wi g tt te vs σ H Q := h
theorem rng1 {tl : TA} {R : It → Hp → Prop} (h : tl σ H fun vs H1 => ∃ j : Int, vs = [.int j] ∧ -(2 ^ 62) ≤ j ∧ j < 2 ^ 62 ∧ R (Itr 0 j.toNat) H1) : iRng1 tl σ H R := h
theorem rng2 {tl : TA} {R : It → Hp → Prop} (h : tl σ H fun vs H1 => ∃ i j : Int, vs = [.int i, .int j] ∧ (-(2 ^ 62) ≤ i ∧ i < 2 ^ 62 ∧ -(2 ^ 62) ≤ j ∧ j < 2 ^ 62) ∧ R (Itr i (j - i).toNat) H1) : iRng2 tl σ H R := h
theorem lis {tl : TE} {R : It → Hp → Prop} (h : tl σ H fun x H1 => ∃ a, x = .ref a ∧ (∃ xs, SqL K H1 a xs) ∧ R (Itl K a) H1) : iList K tl σ H R := h
theorem ra {a : Addr} {q : Addr → Prop} (h : q a) : ∃ b, V.ref a = V.ref b ∧ q b := ⟨a, rfl, h⟩
theorem i1e {a : Int} {q : Int → Prop} (h : q a) : ∃ i, [V.int a] = [V.int i] ∧ q i := ⟨a, rfl, h⟩
theorem fr {wi : TI} {g : TG} {tb : TS} {D : Ends} (h : wi σ H fun J H1 => ∃ W : Nat → Nat → L2.St → Hp → Prop, (∃ m, W 0 m σ H1) ∧ ∀ i m σ H, W i m σ H →
    (J.stop i H ∧ D.nx σ H) ∨ (J.go i H ∧ ∃ N : L2.St → Hp → Prop, (∀ σ' H', N σ' H' → ∃ m', m' < m ∧ W (i + 1) m' σ' H') ∧ ∀ x H', J.yld i H x H' → g x σ H' fun σ2 H2 => tb { D with nx := N, ct := N, bk := D.nx } σ2 H2)) : tFor wi g tb D σ H := h
end
end HS
namespace HS
open PySem PySem.Spec PyProof.Rows L2
theorem iteM {c : Bool} {ta tb : TE} {σ : L2.St} {H1 : Hp} {Q : VK} (M : VK) (h : c = true → ∀ Q' : VK, (∀ v H', M v H' → Q' v H') → ta σ H1 Q') (g : c = false → ∀ Q' : VK, (∀ v H', M v H' → Q' v H') → tb σ H1 Q') (k : ∀ v H', M v H' → Q v H') :
    if c = true then ta σ H1 Q else tb σ H1 Q := by
  cases c with
  | true => rw [if_pos rfl]; exact h rfl Q k
  | false => rw [if_neg Bool.false_ne_true]; exact g rfl Q k
/-- ceilings -/
theorem ceil_eq {i j : Int} (hj : 1 ≤ j) : (i + j - 1) / j = i / j + (if 0 < i % j then 1 else 0) := by
  have h0 := Int.emod_nonneg i (by omega : j ≠ 0)
  have h1 := Int.emod_lt_of_pos i (by omega : 0 < j)
  have e := Int.mul_ediv_add_emod i j
  generalize i / j = q at e ⊢
  generalize i % j = r at e h0 h1 ⊢
  subst e
  split
  · rename_i h
    rw [show j * q + r + j - 1 = (r - 1) + j * (q + 1) by rw [Int.mul_add]; omega, Int.add_mul_ediv_left _ _ (by omega), Int.ediv_eq_zero_of_lt (by omega) (by omega)]
    omega
  · rename_i h
    rw [show j * q + r + j - 1 = (j - 1) + j * q by omega, Int.add_mul_ediv_left _ _ (by omega), Int.ediv_eq_zero_of_lt (by omega) (by omega)]
    omega
end HS
namespace HS
open PySem PySem.Spec PyProof.Rows L2
section
variable {σ : L2.St} {H : Hp} {te : TE} {t : TS} {tg ug : TGn} {n bk ct : List V → L2.St → Hp → Prop} {rt : List V → VK} {ys : List V} {Q : VK}
theorem gthen (h : tg ⟨fun ys' σ' H' => ug ⟨n, rt, bk, ct⟩ ys' σ' H', rt, bk, ct⟩ ys σ H) : tGThen tg ug ⟨n, rt, bk, ct⟩ ys σ H := h
theorem g0 (h : n ys σ H) : tG0 ⟨n, rt, bk, ct⟩ ys σ H := h
theorem gpl (h : t ⟨n ys, rt ys, bk ys, ct ys⟩ σ H) : tPlain t ⟨n, rt, bk, ct⟩ ys σ H := h
theorem gyl (h : ys.length < sizeLine ∧ te σ H fun x H1 => n (ys ++ [x]) σ H1) : tGYield te ⟨n, rt, bk, ct⟩ ys σ H := h
theorem lgn {tg : TGen} (h : tg σ H fun out H2 => ∀ p, H2 p = none → Q (.ref p) (upd H2 p (.lst out))) : tListG tg σ H Q := h
theorem calg {sp : SpG} {E : XK} {tl : TA} {q : List V → Hp → Prop} (h : tl σ H fun vs H1 => sp vs H1 q E) : tCallG sp [] E tl σ H q := by
  show tl σ H fun vs H1 => sp (vs ++ []) H1 q E
  simp only [List.append_nil]; exact h
end
end HS
namespace HS
open PySem PySem.Spec PyProof.Rows L2
section
variable {H : Hp} {Q : VK} {K : PySem.W.Frag}
theorem ixZ {p : Addr} {i z : Int} {ns : List Int} (h : SqL K H p (ns.map V.int)) (h0 : 0 ≤ i) (e : ns[i.toNat]? = some z) (q : Q (.int z) H) : rIxL K (.ref p) (.int i) H Q :=
  ⟨p, ns.map V.int, i, .int z, rfl, rfl, h, at_of (j := i.toNat) (by omega) (by rw [List.getElem?_map, e]; rfl), q⟩
theorem cut_to (xs : List V) (n : Nat) : cutV xs none (some (n : Int)) = xs.take n := by
  unfold cutV
  rw [HT.sIx_none, HT.sIx_nat, List.drop_zero, Nat.sub_zero]
  rw [List.take_eq_take_iff]
  omega
theorem cut_from (xs : List V) (n : Nat) : cutV xs (some (n : Int)) none = xs.drop n := by
  unfold cutV
  rw [HT.sIx_none, HT.sIx_nat]
  rw [List.take_of_length_le (by rw [List.length_drop]; omega)]
  by_cases h : n ≤ xs.length
  · rw [Nat.min_eq_left h]
  · rw [Nat.min_eq_right (by omega), List.drop_eq_nil_of_le (Nat.le_refl _), List.drop_eq_nil_of_le (by omega)]
end
end HS
namespace HS
open PySem PySem.Spec PyProof.Rows L2
theorem Keep.any {S : Addr → Prop} {H H1 : Hp} (k : Keep (fun _ => False) H H1) : Keep S H H1 := fun a o e _ => k a o e id
theorem Keep.mono {S T : Addr → Prop} {H H1 : Hp} (k : Keep S H H1) (h : ∀ a, S a → T a) : Keep T H H1 := fun a o e n => k a o e fun z => n (h a z)
end HS
namespace HS
open PySem PySem.Spec PyProof.Rows L2
theorem cut_toI {i : Int} (ls : List Int) (h : 0 ≤ i) : cutV (ls.map V.int) none (some i) = (ls.take i.toNat).map V.int := by
  obtain ⟨n, rfl⟩ := Int.eq_ofNat_of_zero_le h
  rw [cut_to, List.map_take]; simp
theorem cut_fromI {i : Int} (ls : List Int) (h : 0 ≤ i) : cutV (ls.map V.int) (some i) none = (ls.drop i.toNat).map V.int := by
  obtain ⟨n, rfl⟩ := Int.eq_ofNat_of_zero_le h
  rw [cut_from, List.map_drop]; simp
end HS
namespace HS
theorem ifT {c : Bool} {A B : Prop} (e : c = true) (h : A) : if c = true then A else B := by rw [if_pos e]; exact h
theorem ifF {c : Bool} {A B : Prop} (e : c = false) (h : B) : if c = true then A else B := by rw [if_neg (by rw [e]; exact Bool.false_ne_true)]; exact h
end HS
namespace HS
open PySem PySem.Spec PyProof.Rows L2
/-- a new object behind what stands -/
theorem Keep.nw {H H1 : Hp} {p : Addr} {o : HO} (k : Keep (fun _ => False) H H1) (h : H1 p = none) : Keep (fun _ => False) H (upd H1 p o) := k.put (k.free h id)
theorem Keep.nwS {S : Addr → Prop} {H H1 : Hp} {p : Addr} {o : HO} (k : Keep S H H1) (h : H1 p = none) (n : ¬ S p) : Keep S H (upd H1 p o) := k.put (k.free h n)
end HS
namespace HS
theorem nt {A B : Prop} (h : B) : if (!true) = true then A else B := by rw [if_neg (show ¬ ((!true) = true) from Bool.false_ne_true)]; exact h
theorem nf {A B : Prop} (h : A) : if (!false) = true then A else B := by rw [if_pos (show (!false) = true from rfl)]; exact h
end HS
namespace HS
open PySem PySem.Spec PyProof.Rows L2
section
variable {H H' : Hp} {p x : Addr} {o u : HO}
theorem upgs (e : upd H p o = H') : H' p = some o := by rw [← e]; exact upd_same
theorem upgK (e : upd H p o = H') (h : H p = none) : Keep (fun _ => False) H H' := by rw [← e]; exact Keep.new h
end
end HS
/-! Data of ints, lists and tuples, and == of such. -/
namespace HS
open PySem PySem.Spec PyProof.Rows L2
def dInts (ns : List Int) : PyData := .list (ns.map .int)
section
variable {K : PySem.W.Frag} {H : Hp}
theorem dpAll_ints : ∀ ns : List Int, DpAll K H (ns.map V.int) (ns.map .int)
  | [] => .nil
  | n :: r => .cons (.int n) (dpAll_ints r)
theorem dp_ints {a : Addr} {ns : List Int} (h : SqL K H a (ns.map V.int)) : Dp K H (.ref a) (dInts ns) := .lst h (dpAll_ints ns)
theorem lay_ints : ∀ ns : List Int, PyData.canLayAll0 (ns.map .int) = true
  | [] => rfl
  | n :: r => by rw [List.map_cons, PyData.canLayAll0, lay_ints r]; rfl
theorem dep_ints : ∀ ns : List Int, PyData.depthAll (ns.map .int) = 0
  | [] => rfl
  | n :: r => by rw [List.map_cons, PyData.depthAll, dep_ints r]; rfl
theorem sh_ints (ns : List Int) : SeqAt.shaped (dInts ns) = true := by
  unfold SeqAt.shaped dInts
  rw [PyData.canLay0, PyData.depth, lay_ints, dep_ints]; rfl
theorem eqv_int (i j : Int) : PyData.eqv (.int i) (.int j) = decide (i = j) := by
  rw [PyData.eqv]; exact Bool.beq_eq_decide_eq i j
theorem eqvAll_ints : ∀ xs ys : List Int, PyData.eqvAll (xs.map .int) (ys.map .int) = decide (xs = ys)
  | [], [] => rfl
  | [], y :: ys => rfl
  | x :: xs, [] => rfl
  | x :: xs, y :: ys => by
    rw [List.map_cons, List.map_cons, PyData.eqvAll, eqv_int, eqvAll_ints xs ys]
    by_cases h : x = y <;> by_cases g : xs = ys <;> simp [h, g]
theorem eqv_ints (xs ys : List Int) : PyData.eqv (dInts xs) (dInts ys) = decide (xs = ys) := by
  unfold dInts; rw [PyData.eqv]; exact eqvAll_ints xs ys
/-- == and != of two lists of ints -/
theorem eqL {a b : Addr} {xs ys : List Int} {Q : VK} (h1 : SqL K H a (xs.map V.int)) (h2 : SqL K H b (ys.map V.int)) (q : Q (.bl (decide (xs = ys))) H) : rEqD K (.ref a) (.ref b) H Q :=
  ⟨_, _, dp_ints h1, dp_ints h2, sh_ints _, sh_ints _, by rw [eqv_ints]; exact q⟩
theorem neL {a b : Addr} {xs ys : List Int} {Q : VK} (h1 : SqL K H a (xs.map V.int)) (h2 : SqL K H b (ys.map V.int)) (q : Q (.bl (!decide (xs = ys))) H) : rNeD K (.ref a) (.ref b) H Q :=
  ⟨_, _, dp_ints h1, dp_ints h2, sh_ints _, sh_ints _, by rw [eqv_ints]; exact q⟩
end
end HS
/-! Rules told with the written part K by its own letter. -/
namespace HS
open PySem PySem.Spec PyProof.Rows L2
section
variable {X : Cx} (K : PySem.W.Frag)
theorem ixl (h : X.K = K := by rfl) : IxR X (rIxL K) := h ▸ ix_list
theorem ixt (h : X.K = K := by rfl) : IxR X (rIxT K) := h ▸ ix_tup
theorem sll (h : X.K = K := by rfl) : SlR X (rSlL K) := h ▸ sl_list
theorem slt (h : X.K = K := by rfl) : SlR X (rSlT K) := h ▸ sl_tup
theorem kbm {E : Expr} {T : String} {r : V → List V → Hp → VK → Prop} {to : TE} {t : TA} (p : PE X E (tBM X.K T r to t)) (h : X.K = K := by rfl) : PE X E (tBM K T r to t) := h ▸ p
theorem kbm0 {E : Expr} {T : String} {r : V → List V → Hp → VK → Prop} {to : TE} (p : PE X E (tBM0 X.K T r to)) (h : X.K = K := by rfl) : PE X E (tBM0 K T r to) := h ▸ p
theorem kil {tg l : Expr} {tl : TE} (p : PI X tg l (iList X.K tl)) (h : X.K = K := by rfl) : PI X tg l (iList K tl) := h ▸ p
theorem kit {tg l : Expr} {tl : TE} (p : PI X tg l (iTup X.K tl)) (h : X.K = K := by rfl) : PI X tg l (iTup K tl) := h ▸ p
theorem kien {tg l : Expr} {tl : TA} (p : PI X tg l (iEnum X.K tl)) (h : X.K = K := by rfl) : PI X tg l (iEnum K tl) := h ▸ p
theorem kgt {tg : Expr} {n : Nat} {t : TGs} (p : PG X tg (gTup X.K n t)) (h : X.K = K := by rfl) : PG X tg (gTup K n t) := h ▸ p
theorem keq (hu : X.A.units + 64 < cLine) (h : X.K = K := by rfl) : OpR X (compareOp .Eq) (rEqD K) := h ▸ op_eqD hu
theorem kne (hu : X.A.units + 64 < cLine) (h : X.K = K := by rfl) : OpR X (compareOp .NotEq) (rNeD K) := h ▸ op_neD hu
theorem kin (h : X.K = K := by rfl) : OpR X (compareOp .In) (rIn K false) := h ▸ op_in_seq
theorem knin (h : X.K = K := by rfl) : OpR X (compareOp .NotIn) (rIn K true) := h ▸ op_notIn_seq
theorem kcatT (h : X.K = K := by rfl) : OpR X (binaryOp .Add) (rCatT K) := h ▸ op_catT
def rLen : List V → Hp → VK → Prop := fun xs H Q => ∃ p ys, xs = [.ref p] ∧ (SqL K H p ys ∨ SqT K H p ys) ∧ Q (.int ys.length) H
def rLst : List V → Hp → VK → Prop := fun xs H Q => ∃ p ys, xs = [.ref p] ∧ (SqL K H p ys ∨ SqT K H p ys) ∧ ∀ l, H l = none → Q (.ref l) (upd H l (.lst ys))
theorem klen (h : X.K = K := by rfl) : CallR X (.builtin "len") (rLen K) := h ▸ call_len_seq
theorem klst (h : X.K = K := by rfl) : CallR X (.type "list") (rLst K) := h ▸ call_list_of
theorem ksum (hc : X.calm = true) (h : X.K = K := by rfl) : CallR X (.builtin "sum") (rSum K) := h ▸ cr_sum hc
theorem kmax (hc : X.calm = true) (h : X.K = K := by rfl) : CallR X (.builtin "max") (rMax K) := h ▸ cr_max hc
theorem kmin (hc : X.calm = true) (h : X.K = K := by rfl) : CallR X (.builtin "min") (rMin K) := h ▸ cr_min hc
theorem krev {E : Expr} {te : TE} (p : PE X E (tRevL X.K te)) (h : X.K = K := by rfl) : PE X E (tRevL K te) := h ▸ p
/-- the names of a block within a block -/
def relab (scO sc : Scope) : Scope := { scO with names := scO.names.map fun (n, k) => if (k == .free && sc.kind == .function && sc.names.lookup n == some .cell) then (n, .cell) else (n, k) }
/-- a list comprehension within a comprehension's block -/
theorem pe_lcIn {X : Cx} {s0 : Shared} {H0 : Hp} {C0 : Addr} {cl0 : List (Str × Addr)} {fp0 : List Addr} {scO : Scope} {elt tg iter : Expr} {ifs : List Expr} {scope : Scope} {own : List (Str × Nat)} {pos : Pos} {wi : TI} {g : TG} {tt : TT} {te : TE} (hc : X.calm = true) (hN : X.N.Nodup) (hi : PI (X.blk s0 H0 scO (compEnvC scO cl0 C0 X.env) fp0) tg iter wi) (sc : Scope) (hsc : X.env.scope = sc) (ok : BlkOk X.N (relab scO sc) scope own)
    (hg : ∀ (s : Shared) (H : Hp) (C : Addr) (cl : List (Str × Addr)) (fp : List Addr), PG ((X.blk s0 H0 scO (compEnvC scO cl0 C0 X.env) fp0).blk s H scope (compEnvC scope cl C (compEnvC scO cl0 C0 X.env)) fp) tg g) (ht : ∀ (s : Shared) (H : Hp) (C : Addr) (cl : List (Str × Addr)) (fp : List Addr), PTs ((X.blk s0 H0 scO (compEnvC scO cl0 C0 X.env) fp0).blk s H scope (compEnvC scope cl C (compEnvC scO cl0 C0 X.env)) fp) ifs tt)
    (he : ∀ (s : Shared) (H : Hp) (C : Addr) (cl : List (Str × Addr)) (fp : List Addr), PE ((X.blk s0 H0 scO (compEnvC scO cl0 C0 X.env) fp0).blk s H scope (compEnvC scope cl C (compEnvC scO cl0 C0 X.env)) fp) elt te) (hs : ∀ x, foldedSetIterable iter (compEnvC scO cl0 C0 X.env) x = pure x := by intro _; rfl) :
    PE (X.blk s0 H0 scO (compEnvC scO cl0 C0 X.env) fp0) (.ListComp elt [⟨tg, iter, ifs, 0⟩] scope pos) (tLc wi g tt te (own.map (·.2))) :=
  by subst hsc; exact pe_lc (X := X.blk s0 H0 scO (compEnvC scO cl0 C0 X.env) fp0) hc hN hi ok hg ht he hs
end
section
variable {σ : L2.St} {H : Hp} {Q : VK} {te : TE} {K : PySem.W.Frag}
theorem lenL {p : Addr} {ys : List V} (h : SqL K H p ys) (q : Q (.int ys.length) H) : rLen K [.ref p] H Q := ⟨p, ys, rfl, .inl h, q⟩
theorem lenT {p : Addr} {ys : List V} (h : SqT K H p ys) (q : Q (.int ys.length) H) : rLen K [.ref p] H Q := ⟨p, ys, rfl, .inr h, q⟩
theorem sumL {p : Addr} {ns : List Int} (h : SqL K H p (ns.map V.int)) (q : Q (.int ns.sum) H) : rSum K [.ref p] H Q := ⟨p, ns, rfl, h, q⟩
theorem revL (h : te σ H fun x H1 => ∃ a xs, x = .ref a ∧ SqL K H1 a xs ∧ ∀ p, H1 p = none → Q (.ref p) (upd H1 p (.lst xs.reverse))) : tRevL K te σ H Q := h
theorem sl {r : V → Option Int → Option Int → Hp → VK → Prop} {tl th : TO} (h : te σ H fun x H1 => tl σ H1 fun l H2 => th σ H2 fun u H3 => r x l u H3 Q) : tSl r te tl th σ H Q := h
theorem noP {q : Option Int → Hp → Prop} (h : q none H) : tNoPart σ H q := h
theorem part {q : Option Int → Hp → Prop} (h : te σ H fun x H1 => ∃ i, x = .int i ∧ q (some i) H1) : tPart te σ H q := h
theorem ie {a : Int} {q : Int → Prop} (h : q a) : ∃ i, V.int a = V.int i ∧ q i := ⟨a, rfl, h⟩
theorem slLs {p : Addr} {xs : List V} {lo hi : Option Int} (h : SqL K H p xs) (q : ∀ p, H p = none → Q (.ref p) (upd H p (.lst (cutV xs lo hi)))) : rSlL K (.ref p) lo hi H Q := ⟨p, xs, rfl, h, q⟩
theorem gtup {n : Nat} {t : TGs} {a : Addr} {xs : List V} {q : L2.St → Hp → Prop} (h : SqT K H a xs) (e : xs.length = n) (k : t xs σ H q) : gTup K n t (.ref a) σ H q := ⟨a, xs, rfl, h, e, k⟩
theorem gcons {t : TG} {u : TGs} {v : V} {r : List V} {q : L2.St → Hp → Prop} (h : t v σ H fun σ' H' => u r σ' H' q) : gCons t u (v :: r) σ H q := ⟨v, r, rfl, h⟩
theorem gnil {q : L2.St → Hp → Prop} (h : q σ H) : gNil [] σ H q := ⟨rfl, h⟩
theorem itup {R : It → Hp → Prop} (h : te σ H fun x H1 => ∃ a, x = .ref a ∧ (∃ xs, SqT K H1 a xs) ∧ R (Itt K a) H1) : iTup K te σ H R := h
theorem ienu {tl : TA} {R : It → Hp → Prop} (h : tl σ H fun vs H1 => ∃ a xs, vs = [.ref a] ∧ SqL K H1 a xs ∧ R (Ite K a) H1) : iEnum K tl σ H R := h
theorem cat {l b : Addr} {xs zs : List V} (h1 : H l = some (.lst xs)) (h2 : H b = some (.lst zs)) (q : xs.length + zs.length ≤ sizeLine ∧ ∀ p, H p = none → Q (.ref p) (upd H p (.lst (xs ++ zs)))) : rCat (.ref l) (.ref b) H Q := ⟨l, b, xs, zs, rfl, rfl, h1, h2, q⟩
theorem ext {l b : Addr} {xs zs : List V} (h1 : H l = some (.lst xs)) (h2 : H b = some (.lst zs)) (q : xs.length + zs.length ≤ sizeLine ∧ Q .non (upd H l (.lst (xs ++ zs)))) : rExtend (.ref l) [.ref b] H Q := ⟨l, b, xs, zs, rfl, rfl, h1, h2, q⟩
end
end HS
/-! Lists of new pairs of ints, and == of such; ranges by steps. -/
namespace HS
open PySem PySem.Spec PyProof.Rows L2
/-- the refs of vs are tuples of these pairs -/
def Prs (H : Hp) : List V → List (Int × Int) → Prop
  | [], [] => True
  | v :: vs, p :: ps => (∃ t, v = .ref t ∧ H t = some (.tup [.int p.1, .int p.2])) ∧ Prs H vs ps
  | _, _ => False
theorem Prs.keep {S : Addr → Prop} {H H' : Hp} (k : Keep S H H') : ∀ {vs : List V} {ps : List (Int × Int)}, Prs H vs ps → (∀ v ∈ vs, ∀ t, v = .ref t → ¬ S t) → Prs H' vs ps
  | [], [], h, _ => h
  | _ :: _, _ :: _, ⟨⟨t, e, o⟩, h⟩, n => ⟨⟨t, e, k t _ o (n _ List.mem_cons_self t e)⟩, h.keep k fun v hv => n v (List.mem_cons_of_mem _ hv)⟩
theorem Prs.app {H : Hp} : ∀ {vs ws : List V} {ps qs : List (Int × Int)}, Prs H vs ps → Prs H ws qs → Prs H (vs ++ ws) (ps ++ qs)
  | [], _, [], _, _, g => g
  | _ :: _, _, _ :: _, _, ⟨a, h⟩, g => ⟨a, h.app g⟩
theorem Prs.len {H : Hp} : ∀ {vs : List V} {ps : List (Int × Int)}, Prs H vs ps → vs.length = ps.length
  | [], [], _ => rfl
  | _ :: _, _ :: _, ⟨_, h⟩ => by rw [List.length_cons, List.length_cons, h.len]
def dPr (p : Int × Int) : PyData := .tuple [.int p.1, .int p.2]
def dPrs (ps : List (Int × Int)) : PyData := .list (ps.map dPr)
section
variable {K : PySem.W.Frag} {H : Hp}
theorem dpAll_prs : ∀ {vs : List V} {ps : List (Int × Int)}, Prs H vs ps → DpAll K H vs (ps.map dPr)
  | [], [], _ => .nil
  | _ :: _, p :: _, ⟨⟨t, e, o⟩, h⟩ => .cons (by rw [e]; exact .tup (st o) (.cons (.int p.1) (.cons (.int p.2) .nil))) (dpAll_prs h)
theorem lay_prs : ∀ ps : List (Int × Int), PyData.canLayAll0 (ps.map dPr) = true
  | [] => rfl
  | p :: r => by rw [List.map_cons, PyData.canLayAll0, lay_prs r]; rfl
theorem dep_prs : ∀ ps : List (Int × Int), PyData.depthAll (ps.map dPr) ≤ 2
  | [] => by simp [PyData.depthAll]
  | p :: r => by
    have h := dep_prs r
    have h2 : (dPr p).depth ≤ 2 := by simp [dPr, PyData.depth, PyData.depthAll]
    rw [List.map_cons, PyData.depthAll]; omega
theorem sh_prs (ps : List (Int × Int)) : SeqAt.shaped (dPrs ps) = true := by
  have h1 := dep_prs ps
  have h2 : PyData.depth (dPrs ps) ≤ 64 := by unfold dPrs; rw [PyData.depth]; omega
  show (PyData.canLay0 (dPrs ps) && decide (PyData.depth (dPrs ps) ≤ 64)) = true
  rw [Bool.and_eq_true]
  exact ⟨by unfold dPrs; rw [PyData.canLay0]; exact lay_prs ps, decide_eq_true h2⟩
theorem eqv_pr (p q : Int × Int) : PyData.eqv (dPr p) (dPr q) = decide (p = q) := by
  unfold dPr
  rw [PyData.eqv, PyData.eqvAll, PyData.eqvAll, PyData.eqvAll, eqv_int, eqv_int]
  obtain ⟨a, b⟩ := p
  obtain ⟨c, d⟩ := q
  by_cases h : a = c <;> by_cases g : b = d <;> simp [h, g]
theorem eqvAll_prs : ∀ xs ys : List (Int × Int), PyData.eqvAll (xs.map dPr) (ys.map dPr) = decide (xs = ys)
  | [], [] => rfl
  | [], y :: ys => rfl
  | x :: xs, [] => rfl
  | x :: xs, y :: ys => by
    rw [List.map_cons, List.map_cons, PyData.eqvAll, eqv_pr, eqvAll_prs xs ys]
    by_cases h : x = y <;> by_cases g : xs = ys <;> simp [h, g]
/-- == of two lists of pairs of ints -/
theorem eqP {a b : Addr} {vs ws : List V} {xs ys : List (Int × Int)} {Q : VK} (h1 : SqL K H a vs) (g1 : Prs H vs xs) (h2 : SqL K H b ws) (g2 : Prs H ws ys) (q : Q (.bl (decide (xs = ys))) H) : rEqD K (.ref a) (.ref b) H Q := by
  refine ⟨dPrs xs, dPrs ys, .lst h1 (dpAll_prs g1), .lst h2 (dpAll_prs g2), sh_prs _, sh_prs _, ?_⟩
  rw [show PyData.eqv (dPrs xs) (dPrs ys) = decide (xs = ys) by unfold dPrs; rw [PyData.eqv]; exact eqvAll_prs xs ys]
  exact q
end
theorem RgC.up {j c : Int} (hc : 1 ≤ c) (hc2 : c < 2 ^ 30) (h0 : 0 ≤ j) (h1 : j < 2 ^ 61) : RgC 0 j c ((j + c - 1) / c).toNat := by
  have hn : 0 ≤ (j + c - 1) / c := Int.ediv_nonneg (by omega) (by omega)
  have e : Builtin.Range.rangeSize 0 j c = (j + c - 1) / c := by
    unfold Builtin.Range.rangeSize
    rw [if_pos (by omega)]
    split
    · rw [show j + c - 1 = (j - 0 - 1) + c * 1 by omega, Int.add_mul_ediv_left _ _ (by omega)]
    · rw [show j = 0 by omega, Int.ediv_eq_zero_of_lt (by omega) (by omega)]
  have hl : (j + c - 1) / c ≤ j + c := Int.le_trans (Int.ediv_le_self _ (by omega)) (by omega)
  refine ⟨by omega, by omega, ?_, by rw [e]; omega⟩
  unfold Builtin.Range.small
  rw [e]
  simp only [Builtin.Range.rangeFitsLong, Bool.and_eq_true, Bool.or_eq_true, decide_eq_true_eq, beq_iff_eq]
  rw [if_pos (show c > 0 by omega)]
  simp only [Bool.and_eq_true, decide_eq_true_eq]
  omega
end HS
namespace HS
open PySem PySem.Spec PyProof.Rows L2
section
variable {σ : L2.St} {H : Hp}
theorem rng3 {tl : TA} {R : It → Hp → Prop} (h : tl σ H fun vs H1 => ∃ (i j c : Int) (n : Nat), vs = [.int i, .int j, .int c] ∧ RgC i j c n ∧ R (Itc i c n) H1) : iRng3 tl σ H R := h
end
end HS
namespace HS
open PySem PySem.Spec PyProof.Rows L2
theorem Prs.new {H : Hp} {p : Addr} {o : HO} (hp : H p = none) {vs : List V} {ps : List (Int × Int)} (h : Prs H vs ps) : Prs (upd H p o) vs ps :=
  h.keep (S := fun _ => False) (Keep.new hp) fun _ _ _ _ z => z
theorem Prs.same {H H' : Hp} {vs : List V} {ps : List (Int × Int)} (h : Prs H vs ps) (k : Keep (fun _ => False) H H') : Prs H' vs ps :=
  h.keep (S := fun _ => False) k fun _ _ _ _ z => z
theorem Prs.lst {H : Hp} {L : Addr} {ws : List V} (hL : H L = some (.lst ws)) : ∀ {vs : List V} {ps : List (Int × Int)}, Prs H vs ps → ∀ v ∈ vs, ∀ t, v = .ref t → t ≠ L
  | [], [], _, _, hv, _, _ => absurd hv List.not_mem_nil
  | _ :: _, _ :: _, ⟨⟨t', e', o'⟩, h⟩, v, hv, t, e => by
    rcases List.mem_cons.mp hv with hv | hv
    · subst hv
      rw [e'] at e
      have := V.ref.inj e
      subst this
      intro z
      rw [z, hL] at o'
      cases o'
    · exact h.lst hL v hv t e
theorem Prs.put {H : Hp} {L : Addr} {ws : List V} {o : HO} (hL : H L = some (.lst ws)) {vs : List V} {ps : List (Int × Int)} (h : Prs H vs ps) : Prs (upd H L o) vs ps :=
  h.keep (S := fun a => a = L) (Keep.at Keep.refl rfl) (h.lst hL)
theorem Prs.snoc {H : Hp} {vs : List V} {ps : List (Int × Int)} {t : Addr} {a b : Int} (h : Prs H vs ps) (e : H t = some (.tup [.int a, .int b])) : Prs H (vs ++ [.ref t]) (ps ++ [(a, b)]) :=
  h.app ⟨⟨t, rfl, e⟩, trivial⟩
end HS
/-! Exceptions of own classes as values: made, asked, read (own rules over HandS). -/
namespace HS
open PySem PySem.Spec PyProof.Rows L2
/-- the j-th row of a class's block -/
def inS (s : Stmt) (j : Nat) : Stmt := match s with
  | .ClassDef _ _ _ body _ _ _ _ _ _ _ => body.getD j (.Pass ⟨0, 0, 0, 0⟩)
  | s => s
/-- an own exception that stands in the heap, with its fields -/
def Exv (H : Hp) (a C : Addr) (fs : List (Str × V)) : Prop := ∃ d, H a = some (exo a C (some d)) ∧ H d = some (exd d fs)
def rIsV (K : PySem.W.Frag) : List V → Hp → VK → Prop := fun xs H Q => ∃ (a D : Addr) (fs : List (Str × V)) (c : V) (cv : Value) (b : Bool), xs = [.ref a, c] ∧ ExcC K D ∧ Exv H a D fs ∧ ClsV c cv ∧ PySem.W.kitOne K (.ref D) cv = some b ∧ Q (.bl b) H
theorem call_isV {X : Cx} : CallR X (.builtin "isinstance") (rIsV X.K) := by
  intro pins s σ H xs us Q I r hw
  obtain ⟨a, D, fs, c, cv, b, e0, T, ⟨d, ea, ed⟩, hcv, hb, q⟩ := hw
  subst e0
  match us, r with
  | [_, _], .cons rx (.cons rt .nil) =>
    cases rx
    have e1 := hcv.eq rt
    subst e1
    obtain ⟨t1, ho⟩ := exo_at I.hok ea
    obtain ⟨mA, hns, _⟩ := exd_at I.hok ed
    obtain ⟨od, hod, _⟩ := lookIn_ns hns
    obtain ⟨cd, hcd, _⟩ := PySem.W.any_some T.hd
    have here : PySem.W.InstAt s.heap a _ D (some od) := ⟨ho, rfl, rfl, hod⟩
    exact PySem.W.kia_one (PySem.W.kitx_exc (by rw [hcd]; rfl) T.hg T.hk T.hs T.ha T.hn T.ht T.hm) I.kIn here hb (fun z => nomatch z) fun tk => ⟨.bl b, H, I.kept (t' := tk) fun _ _ z => z, rfl, q⟩
/-- e.f of such an exception -/
def tFldV (K : PySem.W.Frag) (f : Str) (te : TE) : TE := fun σ H Q => te σ H fun x H1 => ∃ (a C : Addr) (fs : List (Str × V)) (v : V), x = .ref a ∧ XfC K C ∧ PySem.W.findIn K (.ref C) f = some none ∧ Exv H1 a C fs ∧ fs.lookup f = some v ∧ Q v H1
theorem pe_fldV {X : Cx} {e : Expr} {te : TE} {pos : Pos} {f : Str} (he : PE X e te) (hb : attributeBase e f X.env (eval e X.env) = eval e X.env := by rfl) : PE X (.Attribute e f pos) (tFldV X.K f te) := by
  refine ⟨fun pins s σ H Q I hw => attr_of hb (thn (he.run pins s σ H _ I hw) fun u s1 ⟨x, H1, I1, rx, a, C, fs, v, e0, T, hno, ⟨d, ea, ed⟩, l, q⟩ => ?_)⟩
  subst e0
  cases rx
  obtain ⟨t1, ho⟩ := exo_at I1.hok ea
  obtain ⟨mA, hns, hr⟩ := exd_at I1.hok ed
  obtain ⟨od, hod, hl⟩ := lookIn_ns hns
  obtain ⟨w, hw, rw'⟩ := RelO.some_of (v := v) (o := mA f) (by rw [← l]; exact hr f)
  have here : PySem.W.InstAt s1.heap a _ C (some od) := ⟨ho, rfl, rfl, hod⟩
  exact HandSPX.exc_get I1.kIn here T.ga T.gg T.exC (PySem.W.findObj_own T.hdC hno rfl (by rw [hl, hw])) (handed_of rw') ⟨v, H1, I1.tok _, rw', q⟩
/-- C(e, ..) as a value -/
def tNewV (C : Addr) (sp : Sp) (ta : TA) : TE := fun σ H Q => ta σ H fun vs H1 => vs.length ≤ 1000 ∧ ∀ a, H1 a = none → sp (.ref a :: vs) (upd H1 a (exo a C none)) (fun v H2 => v = .non ∧ Q (.ref a) H2) (fun _ _ _ => False)
section
variable {X : Cx} {CX : CXT} {x : Str} {C fI : Addr} {k : Nat} {fd : FuncData} {ps : List Str} {sp : Sp} {e : Expr} {es : List Expr} {ta : TA} {p pos : Pos}
theorem pe_newV (T : OexC X.K C) (iC : PySem.W.findIn X.K (.ref C) "__init__" = some (some (.ref fI))) (tI : PySem.W.typeIn X.K (.ref fI) = some (.type "function"))
    (F1 : FnOk X.prog X.w X.K X.mg X.base CX k fI fd ps sp) (hr : Room (k + 1) X.A) (hb : Binds X.K fd ps []) (hx : Passes CX X (fun _ _ _ => False)) (hg : Gl X x) (hm : X.mg x = some (.ref C)) (ha : PA X (e :: es) ta)
    (hdb : (x == ("__debug__" : Str)) = false := by decide) (he : starEach (e :: es) X.env = (false, eval e X.env) :: starEach es X.env := by rfl) (hpl : (backTo pos (starEach es X.env)).any (·.1) = false := by rfl) :
    PE X (.Call (.Name x p) (e :: es) [] pos) (tNewV C sp ta) := by
  refine ⟨fun pins s σ H Q I hw => wpAny_Call_Name_kw (ld_glob I hg hm ?_ hdb)⟩
  obtain ⟨nm, qn, N, bs, bm, sn, sub, ab, col, dd, k0, k1, k2, k3, k5, hC, hbm⟩ := T.cls
  refine PySem.W.callWith_K (h₀ := X.base) I.ok.mod.kin T.kC (thn (ha.run pos pins s σ H _ I hw) fun us s1 ⟨vs, H1, I1, r1, hz, q1⟩ => ⟨I1.kIn, ?_⟩) he hpl
  show wpAny _ _ (call (.ref C) us) _ _ _
  obtain ⟨hp, g, dr, tk, os⟩ := s1
  have le1 : hp.objs.size ≤ hp.objs.size + 1 := by omega
  have kept : ∀ b o, hp.get? b = some o → ((hp.push (PySem.W.kdv_tup us)).push (PySem.HandSPX.excO C hp.objs.size)).get? b = some o := fun _ _ z => Heap.get?_push_of_some _ (Heap.get?_push_of_some _ z)
  have at1 : ((hp.push (PySem.W.kdv_tup us)).push (PySem.HandSPX.excO C hp.objs.size)).get? (hp.objs.size + 1) = some (PySem.HandSPX.excO C hp.objs.size) := by heap_get
  have J : Inv X pins σ (upd H1 (hp.objs.size + 1) (exo (hp.objs.size + 1) C none)) ⟨(hp.push (PySem.W.kdv_tup us)).push (PySem.HandSPX.excO C hp.objs.size), g, dr, tk, os⟩ := I1.laid (t' := tk) kept le1 (exo_ok at1)
  have q2 := q1 (hp.objs.size + 1) (I1.hok.fresh le1)
  have r2 : Vals (V.ref (hp.objs.size + 1) :: vs) (Value.ref (hp.objs.size + 1) :: us) := .cons rfl r1
  have len2 : (Value.ref (hp.objs.size + 1) :: us).length = ps.length := r2.length.symm.trans (F1.len _ _ _ _ q2)
  have small : us.length ≤ sizeLine := by have := Paired.length r1; rw [sizeLine_eq]; omega
  have bnd := hb _ (Value.ref (hp.objs.size + 1) :: us) J.kIn (by simpa using len2)
  refine wpAny_call (PySem.HandSPX.call_own F.excBase_ValueError (fun Y => PySem.HandSPX.refsVE_contains Y bm hbm) (I1.kIn _ _ hC) (PySem.W.looks_findIn I1.kIn iC) (fun self => PySem.W.bind_fn I1.kIn self tI) small
    (codeAny_mono (F1.run _ X.stack _ _ ⟨Value.ref (hp.objs.size + 1) :: us, []⟩ _ _ _ _ (hr.make C us []) (J.env0.make C us []) bnd (by simpa using r2) q2) fun r s' back => ?_))
  match r, back with
  | .error er, back => exact hx pins σ _ _ er s' J back
  | .ok (.ret u), back =>
    obtain ⟨v, H', J', rv, ev, q3⟩ := J.after back
    subst ev
    exact ⟨rv, ⟨V.ref (hp.objs.size + 1), H', J', rfl, q3⟩⟩
end
section
variable {σ : L2.St} {H : Hp} {Q : VK} {te to : TE} {ta : TA} {K : PySem.W.Frag} {n bk ct : L2.St → Hp → Prop} {rt : VK} {f : Str} {C : Addr} {sp : Sp}
theorem ost (h : te σ H fun y H1 => to σ H1 fun x H2 => ∃ a C : Addr, x = .ref a ∧ OexC K C ∧ PySem.W.findIn K (.ref C) f = some none ∧
  ((H2 a = some (exo a C none) ∧ ∀ dx, H2 dx = none → dx ≠ a → n σ (upd (upd H2 dx (exd dx [(f, y)])) a (exo a C (some dx)))) ∨
    ∃ (dx : Addr) (fs : List (Str × V)), H2 a = some (exo a C (some dx)) ∧ H2 dx = some (exd dx fs) ∧ fs.length ≤ 900 ∧ n σ (upd H2 dx (exd dx ((f, y) :: fs))))) : tOst K f to te ⟨n, rt, bk, ct⟩ σ H := h
theorem fldV (h : te σ H fun x H1 => ∃ (a C : Addr) (fs : List (Str × V)) (v : V), x = .ref a ∧ XfC K C ∧ PySem.W.findIn K (.ref C) f = some none ∧ Exv H1 a C fs ∧ fs.lookup f = some v ∧ Q v H1) : tFldV K f te σ H Q := h
theorem newV (h : ta σ H fun vs H1 => vs.length ≤ 1000 ∧ ∀ a, H1 a = none → sp (.ref a :: vs) (upd H1 a (exo a C none)) (fun v H2 => v = .non ∧ Q (.ref a) H2) (fun _ _ _ => False)) : tNewV C sp ta σ H Q := h
end
end HS
namespace HS
open PySem PySem.Spec PyProof.Rows L2
/-- the refs of vs are tuples of these two values -/
def PrV (H : Hp) : List V → List (V × V) → Prop
  | [], [] => True
  | v :: vs, p :: ps => (∃ t, v = .ref t ∧ H t = some (.tup [p.1, p.2])) ∧ PrV H vs ps
  | _, _ => False
theorem PrV.keep {S : Addr → Prop} {H H' : Hp} (k : Keep S H H') : ∀ {vs : List V} {ps : List (V × V)}, PrV H vs ps → (∀ v ∈ vs, ∀ t, v = .ref t → ¬ S t) → PrV H' vs ps
  | [], [], h, _ => h
  | _ :: _, _ :: _, ⟨⟨t, e, o⟩, h⟩, n => ⟨⟨t, e, k t _ o (n _ List.mem_cons_self t e)⟩, h.keep k fun v hv => n v (List.mem_cons_of_mem _ hv)⟩
theorem PrV.same {H H' : Hp} {vs : List V} {ps : List (V × V)} (h : PrV H vs ps) (k : Keep (fun _ => False) H H') : PrV H' vs ps :=
  h.keep k fun _ _ _ _ z => z
theorem PrV.len {H : Hp} : ∀ {vs : List V} {ps : List (V × V)}, PrV H vs ps → vs.length = ps.length
  | [], [], _ => rfl
  | _ :: _, _ :: _, ⟨_, h⟩ => by rw [List.length_cons, List.length_cons, h.len]
theorem PrV.at {H : Hp} : ∀ {vs : List V} {ps : List (V × V)} {i : Nat} {v : V}, PrV H vs ps → vs[i]? = some v → ∃ t p, v = .ref t ∧ ps[i]? = some p ∧ H t = some (.tup [p.1, p.2])
  | [], [], i, _, _, e => by cases i <;> cases e
  | x :: _, p :: _, 0, v, ⟨⟨t, e', o⟩, _⟩, e => ⟨t, p, by rw [← Option.some.inj e]; exact e', rfl, o⟩
  | _ :: vs, _ :: ps, i + 1, v, ⟨_, h⟩, e => h.at (i := i) (by rw [List.getElem?_cons_succ] at e; exact e)
end HS
namespace HS
open PySem PySem.Spec PyProof.Rows L2
theorem kisV {X : Cx} (K : PySem.W.Frag) (h : X.K = K := by rfl) : CallR X (.builtin "isinstance") (rIsV K) := h ▸ call_isV
theorem kisi {X : Cx} (K : PySem.W.Frag) (h : X.K = K := by rfl) : CallR X (.builtin "isinstance") (rIsi K) := h ▸ call_isi
section
variable {K : PySem.W.Frag} {H H' : Hp} {Q : VK} {a D C p : Addr} {fs : List (Str × V)} {b : Bool} {o : HO}
theorem Exv.same (h : Exv H a C fs) (k : Keep (fun _ => False) H H') : Exv H' a C fs := by
  obtain ⟨d, e1, e2⟩ := h
  exact ⟨d, k _ _ e1 id, k _ _ e2 id⟩
theorem Exv.new (h : Exv H a C fs) (hp : H p = none) : Exv (upd H p o) a C fs := h.same (Keep.new hp)
theorem isV (T : ExcC K D) (he : Exv H a D fs) (hq : PySem.W.kitOne K (.ref D) (.ref C) = some b) (q : Q (.bl b) H) : rIsV K [.ref a, .ref C] H Q := ⟨a, D, fs, _, _, b, rfl, T, he, .own C, hq, q⟩
theorem isVt {n : String} (T : ExcC K D) (he : Exv H a D fs) (hq : PySem.W.kitOne K (.ref D) (.type n) = some b) (q : Q (.bl b) H) : rIsV K [.ref a, .ty n] H Q := ⟨a, D, fs, _, _, b, rfl, T, he, .ty n, hq, q⟩
end
end HS
namespace HS
open PySem PySem.Spec PyProof.Rows L2
theorem PrV.app {H : Hp} : ∀ {vs ws : List V} {ps qs : List (V × V)}, PrV H vs ps → PrV H ws qs → PrV H (vs ++ ws) (ps ++ qs)
  | [], _, [], _, _, g => g
  | _ :: _, _, _ :: _, _, ⟨a, h⟩, g => ⟨a, h.app g⟩
theorem PrV.new {H : Hp} {p : Addr} {o : HO} {vs : List V} {ps : List (V × V)} (h : PrV H vs ps) (hp : H p = none) : PrV (upd H p o) vs ps := h.same (Keep.new hp)
section
variable {H : Hp} {t0 t1 l : Addr} {x0 y0 x1 y1 : V}
theorem pair2 (h0 : H t0 = none) (h1 : upd H t0 (.tup [x0, y0]) t1 = none) (h2 : upd (upd H t0 (.tup [x0, y0])) t1 (.tup [x1, y1]) l = none) :
    ∃ H1, upd (upd (upd H t0 (.tup [x0, y0])) t1 (.tup [x1, y1])) l (.lst [.ref t0, .ref t1]) = H1 ∧ Keep (fun _ => False) H H1 ∧ PrV H1 [.ref t0, .ref t1] [(x0, y0), (x1, y1)] ∧ H1 l = some (.lst [.ref t0, .ref t1]) := by
  have n1 : t0 ≠ t1 := ne_of_none upd_same h1
  have e0 : upd (upd H t0 (.tup [x0, y0])) t1 (.tup [x1, y1]) t0 = some (.tup [x0, y0]) := by rw [upd_ne n1]; exact upd_same
  have e1 : upd (upd H t0 (.tup [x0, y0])) t1 (.tup [x1, y1]) t1 = some (.tup [x1, y1]) := upd_same
  refine ⟨_, rfl, (Keep.new h0).trans ((Keep.new h1).trans (Keep.new h2)), ⟨⟨t0, rfl, ?_⟩, ⟨t1, rfl, ?_⟩, trivial⟩, upd_same⟩
  · rw [upd_ne (ne_of_none e0 h2)]; exact e0
  · rw [upd_ne (ne_of_none e1 h2)]; exact e1
theorem pair1 (h0 : H t0 = none) (h2 : upd H t0 (.tup [x0, y0]) l = none) :
    ∃ H1, upd (upd H t0 (.tup [x0, y0])) l (.lst [.ref t0]) = H1 ∧ Keep (fun _ => False) H H1 ∧ PrV H1 [.ref t0] [(x0, y0)] ∧ H1 l = some (.lst [.ref t0]) := by
  refine ⟨_, rfl, (Keep.new h0).trans (Keep.new h2), ⟨⟨t0, rfl, ?_⟩, trivial⟩, upd_same⟩
  rw [upd_ne (ne_of_none upd_same h2)]; exact upd_same
end
end HS
namespace HS
open PySem PySem.Spec PyProof.Rows L2
theorem Keep.over {H H' : Hp} {a : Addr} {o : HO} (k : Keep (fun x => x = a) (upd H a o) H') (h : H a = none) : Keep (fun _ => False) H H' := fun p u e _ => by
  have n := ne_of_none e h
  exact k p u (by rw [upd_ne n]; exact e) n
end HS
namespace HS
open PySem PySem.Spec PyProof.Rows L2
/-- the same by the law's own look: leaves, lists and tuples of such -/
inductive SmV (K : PySem.W.Frag) (H : Hp) : Nat → V → V → Prop
  | non {n : Nat} : SmV K H n .non .non
  | bl {n : Nat} (b : Bool) : SmV K H n (.bl b) (.bl b)
  | int {n : Nat} (i : Int) : SmV K H n (.int i) (.int i)
  | str {n : Nat} (x : Str) : SmV K H n (.str x) (.str x)
  | lst {n : Nat} {a b : Addr} {xs ys : List V} : H a = some (.lst xs) → H b = some (.lst ys) → xs.length = ys.length → xs.length ≤ 1000 → (∀ (i : Nat) (x y : V), xs[i]? = some x → ys[i]? = some y → SmV K H n x y) → SmV K H (n + 1) (.ref a) (.ref b)
  | tup {n : Nat} {a b : Addr} {xs ys : List V} : H a = some (.tup xs) → H b = some (.tup ys) → xs.length = ys.length → xs.length ≤ 1000 → (∀ (i : Nat) (x y : V), xs[i]? = some x → ys[i]? = some y → SmV K H n x y) → SmV K H (n + 1) (.ref a) (.ref b)
theorem SmV.same {K : PySem.W.Frag} {H H' : Hp} (k : Keep (fun _ => False) H H') : ∀ {n : Nat} {x y : V}, SmV K H n x y → SmV K H' n x y
  | _, _, _, .non => .non
  | _, _, _, .bl b => .bl b
  | _, _, _, .int i => .int i
  | _, _, _, .str x => .str x
  | _, _, _, .lst h1 h2 h3 h4 h => .lst (k _ _ h1 id) (k _ _ h2 id) h3 h4 fun i x y e1 e2 => (h i x y e1 e2).same k
  | _, _, _, .tup h1 h2 h3 h4 h => .tup (k _ _ h1 id) (k _ _ h2 id) h3 h4 fun i x y e1 e2 => (h i x y e1 e2).same k
/-- x[i] of a list or a tuple -/
def rIxA (K : PySem.W.Frag) : R2 := fun x y H Q => rIxL K x y H Q ∨ rIxT K x y H Q
theorem ixa {X : Cx} (K : PySem.W.Frag) (h : X.K = K := by rfl) : IxR X (rIxA K) := fun value slice pins s σ H x y v u Q I rx ry r =>
  r.elim (fun r => ixl K h value slice pins s σ H x y v u Q I rx ry r) fun r => ixt K h value slice pins s σ H x y v u Q I rx ry r
section
variable {K : PySem.W.Frag} {H : Hp} {Q : VK}
theorem isi {x : V} {m n : String} (b : Bool) (ty : TyX K H x (.type m)) (hq : kitB m n = some b) (q : Q (.bl b) H) : rIsi K [x, .ty n] H Q := ⟨x, _, _, _, b, rfl, .ty n, ty, kit_ty hq, q⟩
theorem isN {x : V} (q : Q (.bl (decide (x = .non))) H) : (fun x y H Q => y = V.non ∧ Q (.bl (decide (x = .non))) H : R2) x .non H Q := ⟨rfl, q⟩
theorem eqS {x y : V} (hs : scal x y = true) (e : x = y) (q : Q (.bl true) H) : rEq x y H Q := ⟨hs, by rw [decide_eq_true e]; exact q⟩
theorem neB {b c : Bool} (q : Q (.bl (!decide (b = c))) H) : rNe (.bl b) (.bl c) H Q := ⟨rfl, by
  have e : decide (V.bl b = V.bl c) = decide (b = c) := by cases b <;> cases c <;> rfl
  rw [e]; exact q⟩
theorem kb_bb : kitB "bool" "bool" = some true := by decide +kernel
theorem kb_ib : kitB "int" "bool" = some false := by decide +kernel
theorem kb_ii : kitB "int" "int" = some true := by decide +kernel
theorem kb_sb : kitB "str" "bool" = some false := by decide +kernel
theorem kb_si : kitB "str" "int" = some false := by decide +kernel
theorem kb_ss : kitB "str" "str" = some true := by decide +kernel
theorem kb_lb : kitB "list" "bool" = some false := by decide +kernel
theorem kb_li : kitB "list" "int" = some false := by decide +kernel
theorem kb_ls : kitB "list" "str" = some false := by decide +kernel
theorem kb_ll : kitB "list" "list" = some true := by decide +kernel
theorem kb_lt : kitB "list" "tuple" = some false := by decide +kernel
theorem kb_tb : kitB "tuple" "bool" = some false := by decide +kernel
theorem kb_ti : kitB "tuple" "int" = some false := by decide +kernel
theorem kb_ts : kitB "tuple" "str" = some false := by decide +kernel
theorem kb_tl : kitB "tuple" "list" = some false := by decide +kernel
theorem kb_tt : kitB "tuple" "tuple" = some true := by decide +kernel
end
end HS
/-! An own exception class called with keywords. -/
namespace PySem
namespace HSK
open HandSPX Builtin Builtin.ObjectAttr
section
variable {prog : Program} {w : World} {A : Around} {E : Value → Shared → Prop} {R : Result → Shared → Prop} {h : Heap} {g : Array GenState} {d : Drawn} {t : Nat} {os : OsState} {kw : List (Str × Value)} {fI : Addr}
variable {nm q : Str} {C N : Addr} {bs bm bmB : List Value} {hdct : Bool} {sn : List Str} {sub : List Value} {ab : Bool} {col : Option Bool} {dd : Option Addr} {k0 k1 k2 k3 k5 : Option Value} {B newId initId : String}
theorem kw_check_new {M : Model} (F : ExcBaseFacts B newId initId bmB) (hT : ∀ X : String, bm.contains (.type X) = bmB.contains (.type X)) {Q : Unit → Shared → Prop} (hC : h.get? C = some (excClassObj nm q C N bs bm hdct sn sub ab col dd k0 k1 k2 k3 k5 newId)) (z : Q () ⟨h, g, d, t, os⟩) :
    wpAny M A (checkBuiltinCall newId ⟨[.ref C], kw⟩) Q E ⟨h, g, d, t, os⟩ := by
  have inB : (Value.ref C :: bm).contains (.type B) = true := by rw [List.contains_cons, hT, F.hasB, Bool.or_true]
  have star := F.noStar
  simp only [checkBuiltinCall, F.newKind, F.newSplit, F.newRow]
  repeat (first | refine wpAny_loadPart_at hC ?_ | (refine wpAny_isSubtype_exc hC ?_; rw [inB]) | refine wpAny_staticBase_exc hC ?_ | refine wpAny_madeBy_exc hC ?_ | simp only [bne_self_eq_false, Bool.false_eq_true, if_false] | wp_step)
  exact z
theorem kw_new (F : ExcBaseFacts B newId initId bmB) (hT : ∀ X : String, bm.contains (.type X) = bmB.contains (.type X)) (hC : h.get? C = some (excClassObj nm q C N bs bm hdct sn sub ab col dd k0 k1 k2 k3 k5 newId))
    (z : R (.ok (.ret (.ref (h.objs.size + 1)))) ⟨(h.push (W.kdv_tup [])).push (excO C h.objs.size), g, d, t, os⟩) : codeAny (model prog w) A (.builtin newId ⟨[.ref C], kw⟩) R ⟨h, g, d, t, os⟩ := by
  have ends := F.ends
  have inB : (Value.ref C :: bm).contains (.type B) = true := by rw [List.contains_cons, hT, F.hasB, Bool.or_true]
  have noA : (Value.ref C :: bm).contains (.type "AttributeError") = false := by rw [List.contains_cons, hT, F.noAttr]; rfl
  have noN : (Value.ref C :: bm).contains (.type "NameError") = false := by rw [List.contains_cons, hT, F.noName]; rfl
  have tiny : ([] : List Value).length ≤ sizeLine := Nat.zero_le _
  refine codeAny_builtinAt F.entry ?_
  unfold Builtin.«BaseException.__new__»
  refine wpAt_bind ?_
  show wpAt _ _ _ (stack >>= _) _ _ _
  refine wpAt_bind (wpAt_stack fun p below => wpAt_of_wpAny ?_)
  wp_walk
  refine wpAt_of_wpAny ?_
  rw [F.owner]
  repeat (first | with_reducible refine wpAny_madeHere_exc F.canon hC ?_ | with_reducible refine wpAny_loadPart_at hC ?_ | (with_reducible refine wpAny_isSubtype_exc hC ?_; first | rw [inB] | rw [noA] | rw [noN]) | wp_step)
  show R _ _
  rw [Heap.size_push]
  exact z
theorem kw_type_call (F : ExcBaseFacts B newId initId bmB) (hT : ∀ X : String, bm.contains (.type X) = bmB.contains (.type X)) {Q : Fin → Shared → Prop} (hC : h.get? C = some (excClassObj nm q C N bs bm hdct sn sub ab col dd k0 k1 k2 k3 k5 newId))
    (li : W.Looks (model prog w) h (typeLookup (.ref C) "__init__") (some (.ref fI))) (lb : ∀ self, W.Looks (model prog w) h (bindSpecial (.ref fI) self) (.ref fI, [self]))
    (run : codeAny (model prog w) A (.call (.ref fI) ⟨[.ref (h.objs.size + 1)], kw⟩) (fun r s' => match r with | .ok (.ret v) => v = .none ∧ Q (.done (.ret (.ref (h.objs.size + 1)))) s' | .ok _ => False | .error e => E e s')
      ⟨(h.push (W.kdv_tup [])).push (excO C h.objs.size), g, d, t, os⟩) : wpAny (model prog w) A (Builtin.«type.__call__» ⟨[.ref C], kw⟩) Q E ⟨h, g, d, t, os⟩ := by
  repeat (first | with_reducible refine wpAny_loadPart_at hC ?_ | with_reducible refine wpAny_madeBy_exc hC ?_ | wp_step)
  refine codeAny_call_builtin_code (Code.quiet_builtin _ F.quiet) (kw_check_new F hT hC (kw_new F hT hC ?_))
  have up : ∀ b o, h.get? b = some o → ((h.push (W.kdv_tup [])).push (excO C h.objs.size)).get? b = some o := fun _ _ y => Heap.get?_push_of_some _ (Heap.get?_push_of_some _ y)
  have hC2 := up _ _ hC
  have hE : ((h.push (W.kdv_tup [])).push (excO C h.objs.size)).get? (h.objs.size + 1) = some (excO C h.objs.size) := by heap_get
  have isC : (Value.ref C :: bm).contains (.ref C) = true := by simp
  have li2 := li.keeps up
  have lb2 := (lb (.ref (h.objs.size + 1))).keeps up
  show wpAny _ _ _ _ _ _
  unfold isInstance
  repeat (first | with_reducible refine wpAny_loadPart_at hE ?_ | (with_reducible refine wpAny_isSubtype_exc hC2 ?_; rw [isC]) | wp_step)
  show wpAny _ _ (typeLookup (.ref C) _) _ _ _
  refine li2.at (wpAny_holding (wpAny_bind (lb2.at (wpAny_bind (wpAny_call (codeAny_mono run fun r s' y => ?_))))))
  rcases r with e | (v | _ | _ | _) <;> first | exact y | exact y.elim | skip
  obtain ⟨y0, y⟩ := y
  subst y0
  first
    | exact wpAny_pure (wpAny_pure y)
    | (wp_walk; exact y)
theorem kw_call (F : ExcBaseFacts B newId initId bmB) (hT : ∀ X : String, bm.contains (.type X) = bmB.contains (.type X)) (hC : h.get? C = some (excClassObj nm q C N bs bm hdct sn sub ab col dd k0 k1 k2 k3 k5 newId))
    (li : W.Looks (model prog w) h (typeLookup (.ref C) "__init__") (some (.ref fI))) (lb : ∀ self, W.Looks (model prog w) h (bindSpecial (.ref fI) self) (.ref fI, [self]))
    (run : codeAny (model prog w) (A.under (.builtin "type.__call__" ⟨[.ref C], kw⟩)) (.call (.ref fI) ⟨[.ref (h.objs.size + 1)], kw⟩) (W.InitBack (h.objs.size + 1) R) ⟨(h.push (W.kdv_tup [])).push (excO C h.objs.size), g, d, t, os⟩) :
    codeAny (model prog w) A (.call (.ref C) ⟨[], kw⟩) R ⟨h, g, d, t, os⟩ := by
  have c1 := tc_lookup
  have c2 := tc_bind (.ref C)
  have ty : (⟨h, g, d, t, os⟩ : Shared).TypeIs (.ref C) "type" := ⟨_, hC, rfl⟩
  refine codeAny_of_tree ?_
  show wpAny _ _ (callAny (.ref C) _) _ _ _
  repeat (any_goals (first | assumption | with_reducible refine wpAny_loadPart_at hC ?_ | wp_step))
  refine ⟨rfl, codeAny_call_builtin_at (Code.quiet_builtin _ (by decide +kernel)) entry_typeCall (wpAny_check_type_call_sub hC (kw_type_call F hT hC li lb ?_))⟩
  refine codeAny_mono run fun r s' y => ?_
  rcases r with e | (v | _ | _ | _) <;> exact y
end
end HSK
end PySem
namespace HS
open PySem PySem.Spec PyProof.Rows L2
/-- C(k = v) as a value -/
def tNewK (C : Addr) (n : Nat) (sp : Sp) (gV : List V → List V → List V) (tk : TA) : TE := fun σ H Q => tk σ H fun zs H1 => zs.length = n ∧ ∀ a, H1 a = none → sp (gV [.ref a] zs) (upd H1 a (exo a C none)) (fun v H2 => v = .non ∧ Q (.ref a) H2) (fun _ _ _ => False)
section
variable {X : Cx} {CX : CXT} {x : Str} {C fI : Addr} {k : Nat} {fd : FuncData} {ps ks : List Str} {sp : Sp} {kws : List Keyword} {tk : TA} {p pos : Pos} {g : List Value → List Value → List Value} {gV : List V → List V → List V}
theorem pe_newK (T : OexC X.K C) (iC : PySem.W.findIn X.K (.ref C) "__init__" = some (some (.ref fI))) (tI : PySem.W.typeIn X.K (.ref fI) = some (.type "function"))
    (F1 : FnOk X.prog X.w X.K X.mg X.base CX k fI fd ps sp) (hr : Room (k + 1) X.A) (hb : KBn X.K fd ps 1 ks g gV) (hx : Passes CX X (fun _ _ _ => False)) (hg : Gl X x) (hm : X.mg x = some (.ref C)) (hkw : PK X kws tk)
    (hall : (backToKw pos (keywordEach kws X.env)).all (·.1.isSome) = true := by rfl) (hks : (backToKw pos (keywordEach kws X.env)).filterMap (·.1) = ks := by rfl) (hdb : (x == ("__debug__" : Str)) = false := by decide)
    (hpl : ((backTo pos (starEach [] X.env)).any (·.1) || (backToKw pos (keywordEach kws X.env)).any (·.1.isNone)) = false := by rfl) : PE X (.Call (.Name x p) [] kws pos) (tNewK C ks.length sp gV tk) := by
  refine ⟨fun pins s σ H Q I hw => wpAny_Call_Name_kw (ld_glob I hg hm (PySem.W.callWith_KW0 (h₀ := X.base) I.ok.mod.kin T.kC hall (thn (hkw.run pos pins s σ H _ I hw) fun ws s1 ⟨zs, H1, I1, rz, lz, q1⟩ => ⟨I1.kIn, ?_⟩) hpl) hdb)⟩
  obtain ⟨nm, qn, N, bs, bm, sn, sub, ab, col, dd, k0, k1, k2, k3, k5, hC, hbm⟩ := T.cls
  rw [hks]
  obtain ⟨hp, g0, dr, t, os⟩ := s1
  have le1 : hp.objs.size ≤ hp.objs.size + 1 := by omega
  have kept : ∀ b o, hp.get? b = some o → ((hp.push (PySem.W.kdv_tup [])).push (PySem.HandSPX.excO C hp.objs.size)).get? b = some o := fun _ _ z => Heap.get?_push_of_some _ (Heap.get?_push_of_some _ z)
  have at1 : ((hp.push (PySem.W.kdv_tup [])).push (PySem.HandSPX.excO C hp.objs.size)).get? (hp.objs.size + 1) = some (PySem.HandSPX.excO C hp.objs.size) := by heap_get
  have J : Inv X pins σ (upd H1 (hp.objs.size + 1) (exo (hp.objs.size + 1) C none)) ⟨(hp.push (PySem.W.kdv_tup [])).push (PySem.HandSPX.excO C hp.objs.size), g0, dr, t, os⟩ := I1.laid (t' := t) kept le1 (exo_ok at1)
  have q2 := q1 (hp.objs.size + 1) (I1.hok.fresh le1)
  have r1 : Vals [V.ref (hp.objs.size + 1)] [Value.ref (hp.objs.size + 1)] := .cons rfl .nil
  have bnd := hb.to _ [Value.ref (hp.objs.size + 1)] ws J.kIn rfl (rz.length.symm.trans lz)
  refine wpAny_call (PySem.HSK.kw_call F.excBase_ValueError (fun Y => PySem.HandSPX.refsVE_contains Y bm hbm) (I1.kIn _ _ hC) (PySem.W.looks_findIn I1.kIn iC) (fun self => PySem.W.bind_fn I1.kIn self tI)
    (codeAny_mono (F1.run _ X.stack _ _ ⟨[Value.ref (hp.objs.size + 1)], ks.zip ws⟩ _ _ _ _ (hr.make C [] (ks.zip ws)) (J.env0.make C [] (ks.zip ws)) bnd (hb.rel r1 rz) q2) fun r s' back => ?_))
  match r, back with
  | .error er, back => exact hx pins σ _ _ er s' J back
  | .ok (.ret u), back =>
    obtain ⟨v, H', J', rv, ev, q3⟩ := J.after back
    subst ev
    exact ⟨rv, ⟨V.ref (hp.objs.size + 1), H', J', rfl, q3⟩⟩
end
section
variable {σ : L2.St} {H : Hp} {Q : VK} {C : Addr} {sp : Sp} {m : Nat} {gV : List V → List V → List V} {tk : TA}
theorem newK (h : tk σ H fun zs H1 => zs.length = m ∧ ∀ a, H1 a = none → sp (gV [.ref a] zs) (upd H1 a (exo a C none)) (fun v H2 => v = .non ∧ Q (.ref a) H2) (fun _ _ _ => False)) : tNewK C m sp gV tk σ H Q := h
end
end HS
namespace HS
open PySem PySem.Spec PyProof.Rows L2
/-! ### own exceptions that are raised and caught -/
section
variable {C a : Addr} {sp : Sp} {dvs : List V} {ta : TA} {te : TE} {σ : L2.St} {H H1 H2 : Hp} {R : XK} {Q : VK} {d : Addr} {u o : HO}
theorem mkO (h : ta σ H fun vs H1 => vs.length ≤ 1000 ∧ ∀ a, H1 a = none → sp (.ref a :: (vs ++ dvs)) (upd H1 a (exo a C none))
    (fun v H2 => v = .non ∧ ∃ (d : Addr) (fs : List (Str × V)), H2 a = some (exo a C (some d)) ∧ H2 d = some (exd d fs) ∧ H1 d = none ∧ R (.ref C) (some d) (upd (del H2 a) d (.xd fs))) (fun _ _ _ => False)) : tMkO C sp dvs ta σ H R := h
theorem callS {E : L2.St → XK} (h : ta σ H fun vs H1 => sp vs H1 Q (E σ)) : tCallS sp E ta σ H Q := h
theorem xf {cls : Value} {dx : Option Addr} {f : Str} (h : te σ H fun x H1 => x = .ref a ∧ cls = .ref C ∧ ∃ (dd : Addr) (fs : List (Str × V)) (v : V), dx = some dd ∧ H1 dd = some (.xd fs) ∧ fs.lookup f = some v ∧ Q v H1) : tXf a cls dx C f te σ H Q := h
/-- what stood ahead of the new exception a stands, and its dict at d besides -/
theorem Keep.exc (k : Keep (fun x => x = a) (upd H a o) H2) (ha : H a = none) (hd : H d = none) : Keep (fun _ => False) H (upd (del H2 a) d u) := fun b q e _ => by
  have hba : b ≠ a := ne_of_none e ha
  rw [upd_ne (ne_of_none e hd)]
  show (if b = a then none else H2 b) = some q
  rw [if_neg hba]
  exact k b q (by rw [upd_ne hba]; exact e) hba
/-- one value, put into a new exception whose maker holds the usual promise -/
theorem mk1 {K : PySem.W.Frag} {w : V}
    (hsp : ∀ (H' : Hp) (Q' : VK) (E' : XK) (b : Addr), OexC K C → PySem.W.findIn K (.ref C) "value" = some none → H' b = some (exo b C none) →
      (∀ H3 d, HS.Keep (fun x => x = b) H' H3 → H' d = none → d ≠ b → H3 b = some (exo b C (some d)) → H3 d = some (exd d [("value", w)]) → Q' .non H3) → sp [.ref b, w] H' Q' E')
    (T1 : OexC K C) (hv : PySem.W.findIn K (.ref C) "value" = some none)
    (h : ∀ H' d, Keep (fun _ => False) H H' → H d = none → H' d = some (.xd [("value", w)]) → R (.ref C) (some d) H') :
    [w].length ≤ 1000 ∧ ∀ a, H a = none → sp (.ref a :: ([w] ++ [])) (upd H a (exo a C none))
      (fun v H2 => v = .non ∧ ∃ (d : Addr) (fs : List (Str × V)), H2 a = some (exo a C (some d)) ∧ H2 d = some (exd d fs) ∧ H d = none ∧ R (.ref C) (some d) (upd (del H2 a) d (.xd fs))) (fun _ _ _ => False) :=
  ⟨show 1 ≤ 1000 by decide, fun a ha => hsp _ _ _ a T1 hv upd_same fun H3 d k hd hne e1 e2 =>
    have hd' : H d = none := by rw [upd_ne hne] at hd; exact hd
    ⟨rfl, d, _, e1, e2, hd', h _ d (k.exc ha hd') hd' upd_same⟩⟩
end
end HS
/-! Defs that are called while nothing is being shown (no repr stands on the stack), so that they may call repr of a list. -/
namespace HS
open PySem PySem.Spec PyProof.Rows L2
/-- a def's promise where no repr is under way -/
structure FnG (Pg : Program) (wd : World) (K : PySem.W.Frag) (mg : Str → Option Value) (base : Heap) (C : CXT) (n : Nat) (f : Addr) (fd : FuncData) (ps : List Str) (sp : Sp) : Prop where
  len : ∀ vs H Q E, sp vs H Q E → vs.length = ps.length
  go : ∀ (B : Around) (o : List Env) (s : Shared) (H : Hp) (ar : Args) (us : List Value) (vs : List V) (Q : VK) (E : XK), B.guards = some [] → Room n B → Env0 Pg wd K mg base B o s H →
    BindsTo s fd ar (ps.zip us) → Vals vs us → sp vs H Q E → codeAny (model Pg wd) B (.call (.ref f) ar) (CR C o Pg wd H s Q E) s
section
variable {Pg : Program} {wd : World} {K : PySem.W.Frag} {mg : Str → Option Value} {base : Heap} {C : CXT} {n : Nat} {f : Addr} {fd : FuncData} {ps : List Str} {sp : Sp}
/-- a finished body's end is the call's end -/
theorem g_end {N : List Str} {q : Str} {sc : Scope} {cd : Value} {B : Around} {o : List Env} {s : Shared} {H : Hp} {E : XK} {Q : VK} {x : Cx} (hx : x = cxOf C Pg wd K mg base N q sc f cd B o s H E) (fl : Flow) {s' : Shared} :
    SP x [] { nx := fun _ H' => Q .non H', rt := Q } fl s' → CR C o Pg wd H s Q E (.ok (.ret (match fl with | .ret v => v | _ => .none))) s' := by
  subst hx
  intro h
  cases fl
  case ret u => obtain ⟨v, st, H', J, rv, y⟩ := h; exact ⟨v, H', J.os, J.bare, J.base, J.hok, rv, y⟩
  case next => obtain ⟨st, H', J, y⟩ := h; exact ⟨.non, H', J.os, J.bare, J.base, J.hok, rfl, y⟩
  all_goals exact h.elim fun _ z => z.elim fun _ z => z.2.elim
theorem Fun.okG {x qn : Str} {st : Stmt} {N : List Str} (F : L2.Fun K x qn st f fd) (S : FnScope N ps (defScope st)) (len : ∀ vs H Q E, sp vs H Q E → vs.length = ps.length)
    (hb : ∀ (cd : Value) (B : Around) (o : List Env) (s : Shared) (H : Hp) (vs : List V) (Q : VK) (E : XK), B.guards = some [] → Room n (B.deeper (envOfC qn (defScope st) s.heap.objs.size f cd)) → sp vs H Q E →
      ∃ t, PSs (cxOf L2.CX0 Pg wd K mg base N qn (defScope st) f cd B o s H E).nox (defBody st) t ∧ t { nx := fun _ H' => Q .non H', rt := Q } (start N vs) H) : FnG Pg wd K mg base L2.CX0 (n + 1) f fd ps sp := by
  obtain ⟨_, _, _, _, _, _, cd, _, _, rfl, lk, hcd⟩ := F.ex
  refine ⟨len, fun B o s H ar us vs Q E hg hr e0 bd rv hs => ?_⟩
  have kin : K.In s.heap := e0.mod.kin.keeps fun b u e => (e0.bs b u e).1
  have kinds : ∀ y ∈ ps.zip us, (defScope st).names.lookup y.1 = some .local ∨ ((defScope st).names.lookup y.1 = some .cell ∧ ((cellsFrom (s.heap.objs.size + 1) (defScope st).names []).lookup y.1).isSome = true) := by
    rintro ⟨z, v⟩ hy
    exact (S.par z (List.of_mem_zip hy).1).elim .inl fun c => .inr ⟨c, PySem.W.cellsFrom_some _ _ _ (.inl c)⟩
  refine codeAny_call_function hr.depth (kin _ _ lk) rfl S.co S.gen rfl (PySem.W.codeRec_of kin hcd) (bd _ _ _ _ (wpAny_newFunctionEnv_cells S.kind kinds fun _ he s1 made => ?_))
  subst he
  obtain ⟨t, ht, hq⟩ := hb cd B o s H vs Q E hg (hr.deeper _) hs
  have start0 := inv_start (CX := L2.CX0) (E := E) (qual := qn) (cd := cd) (f := f) S hr.hd e0 (len _ _ _ _ hs) rv made
  exact ⟨(e0.mod.nolimit.keeps fun b u e => (e0.bs b u e).1).keeps made.toInCall.keep, codeAny_func (wpAny_mono (ht.nox.run [] s1 _ H _ start0 hq) (fun fl s' => g_end rfl fl) fun _ _ h => h)⟩
end
/-! ### calls -/
/-- the call of a def, whichever way its arguments come -/
theorem after_call {X : Cx} {C : CXT} {E : XK} {pins : List (Addr × Obj)} {σ : L2.St} {H : Hp} {s : Shared} {Q : VK} {f : Addr} {us : List Value} {kw : List (Str × Value)} (hx : Passes C X E) (I : Inv X pins σ H s)
    (h : codeAny (model X.prog X.w) X.A (.call (.ref f) ⟨us, kw⟩) (CR C X.stack X.prog X.w H s Q E) s) : wpAny (model X.prog X.w) X.A (call (.ref f) us kw) (EP X pins σ Q) X.xe s :=
  wpAny_call (codeAny_mono h fun r s' y => match r, y with
    | .error e, y => hx pins σ H s e s' I y
    | .ok (.ret _), y => I.after y)
/-- how a call with keywords binds, where the numbers of its arguments are written -/
structure KBX (K : PySem.W.Frag) (fd : FuncData) (ps : List Str) (n : Nat) (ks : List Str) (g : List Value → List Value → List Value) (gV : List V → List V → List V) : Prop where
  to : ∀ (s : Shared) (us ws : List Value), us.length = n → ws.length = ks.length → BindsTo s fd ⟨us, ks.zip ws⟩ (ps.zip (g us ws))
  rel : ∀ {vs : List V} {us : List Value} {zs : List V} {ws : List Value}, Vals vs us → Vals zs ws → Vals (gV vs zs) (g us ws)
def tCallN (n m : Nat) (sp : Sp) (gV : List V → List V → List V) (E : XK) (t tk : TA) : TE := fun σ H Q => t σ H fun vs H1 => tk σ H1 fun zs H2 => vs.length = n ∧ zs.length = m ∧ sp (gV vs zs) H2 Q E
theorem relAt : ∀ {vs : List V} {us : List Value} (_ : Vals vs us) (i : Nat), RelV (vs.getD i .non) (us.getD i .none)
  | [], _, r, i => by cases r; exact rfl
  | _ :: _, _, r, 0 => by cases r with | cons a _ => exact a
  | _ :: _, _, r, i + 1 => by cases r with | cons _ b => exact relAt b i
section
variable {X : Cx} {C : CXT} {n m : Nat} {f : Addr} {fd : FuncData} {ps ks : List Str} {sp : Sp} {E : XK} {x : Str} {p q : Pos} {e : Expr} {es : List Expr} {kws : List Keyword} {t tk : TA} {g : List Value → List Value → List Value} {gV : List V → List V → List V}
theorem pe_callG (hG : X.A.guards = some []) (F : FnG X.prog X.w X.K X.mg X.base C n f fd ps sp) (hr : Room n X.A) (gl : Gl X x) (mf : X.mg x = some (.ref f)) (kf : PySem.W.keepIn X.K (.ref f) = true) (bd : Binds X.K fd ps []) (hx : Passes C X E) (ha : PA X (e :: es) t)
    (h1 : (x == ("__debug__" : Str)) = false := by decide) (h2 : starEach (e :: es) X.env = (false, eval e X.env) :: starEach es X.env := by rfl) (h3 : (backTo q (starEach es X.env)).any (·.1) = false := by rfl) :
    PE X (.Call (.Name x p) (e :: es) [] q) (tCall sp [] E t) := by
  constructor
  intro pins s σ H Q I h
  refine wpAny_Call_Name_kw (ld_glob I gl mf (PySem.W.callWith_K (h₀ := X.base) I.ok.mod.kin kf (thn (ha.run q pins s σ H _ I h) fun us s1 ⟨vs, H1, I1, r, y⟩ => ⟨I1.kIn, ?_⟩) h2 h3) h1)
  have y : sp (vs ++ []) H1 Q E := y
  rw [List.append_nil] at y
  have hl : (us ++ []).length = ps.length := by rw [List.append_nil, ← r.length]; exact F.len _ _ _ _ y
  exact after_call hx I1 (F.go X.A X.stack s1 H1 _ (us ++ []) vs Q E hG hr I1.env0 (bd s1 us I1.kIn hl) (by rw [List.append_nil]; exact r) y)
/-- f(e, .., k = v, ..), f(k = v, ..) -/
theorem kw_to (hb : KBX X.K fd ps n ks g gV) {pins : List (Addr × Obj)} {σ : L2.St} {H : Hp} {s : Shared} {Q : VK} {vs zs : List V} {us ws : List Value}
    (run : ∀ (bs : List Value) (bv : List V), BindsTo s fd ⟨us, ks.zip ws⟩ (ps.zip bs) → Vals bv bs → sp bv H Q E → codeAny (model X.prog X.w) X.A (.call (.ref f) ⟨us, ks.zip ws⟩) (CR C X.stack X.prog X.w H s Q E) s)
    (hx : Passes C X E) (I : Inv X pins σ H s) (r : Vals vs us) (rz : Vals zs ws) (l1 : vs.length = n) (l2 : zs.length = ks.length) (y : sp (gV vs zs) H Q E) : wpAny (model X.prog X.w) X.A (call (.ref f) us (ks.zip ws)) (EP X pins σ Q) X.xe s :=
  after_call hx I (run _ _ (hb.to s us ws (by rw [← r.length]; exact l1) (by rw [← rz.length]; exact l2)) (hb.rel r rz) y)
theorem pe_kwG (hG : X.A.guards = some []) (F : FnG X.prog X.w X.K X.mg X.base C m f fd ps sp) (hr : Room m X.A) (gl : Gl X x) (mf : X.mg x = some (.ref f)) (kf : PySem.W.keepIn X.K (.ref f) = true) (hb : KBX X.K fd ps n ks g gV) (hx : Passes C X E) (ha : PA X (e :: es) t) (hk : PK X kws tk)
    (h0 : (backToKw q (keywordEach kws X.env)).all (·.1.isSome) = true := by rfl) (hks : (backToKw q (keywordEach kws X.env)).filterMap (·.1) = ks := by rfl) (h1 : (x == ("__debug__" : Str)) = false := by decide) (h2 : starEach (e :: es) X.env = (false, eval e X.env) :: starEach es X.env := by rfl)
    (h3 : ((backTo q (starEach (e :: es) X.env)).any (·.1) || (backToKw q (keywordEach kws X.env)).any (·.1.isNone)) = false := by rfl) : PE X (.Call (.Name x p) (e :: es) kws q) (tCallN n ks.length sp gV E t tk) := by
  constructor
  intro pins s σ H Q I h
  refine wpAny_Call_Name_kw (ld_glob I gl mf (PySem.W.callWith_KW (h₀ := X.base) I.ok.mod.kin kf h0 (thn (ha.run q pins s σ H _ I h) fun us s1 ⟨vs, H1, I1, r, y⟩ => thn (hk.run q pins s1 σ H1 _ I1 y) fun ws s2 ⟨zs, H2, I2, rz, l1, l2, y2⟩ => ⟨I2.kIn, ?_⟩) h3 h2) h1)
  rw [hks]
  exact kw_to hb (fun bs bv b1 b2 b3 => F.go X.A X.stack s2 H2 _ bs bv Q E hG hr I2.env0 b1 b2 b3) hx I2 r rz l1 l2 y2
theorem pe_kwG0 (hG : X.A.guards = some []) (F : FnG X.prog X.w X.K X.mg X.base C m f fd ps sp) (hr : Room m X.A) (gl : Gl X x) (mf : X.mg x = some (.ref f)) (kf : PySem.W.keepIn X.K (.ref f) = true) (hb : KBX X.K fd ps 0 ks g gV) (hx : Passes C X E) (hk : PK X kws tk)
    (h0 : (backToKw q (keywordEach kws X.env)).all (·.1.isSome) = true := by rfl) (hks : (backToKw q (keywordEach kws X.env)).filterMap (·.1) = ks := by rfl) (h1 : (x == ("__debug__" : Str)) = false := by decide)
    (h3 : ((backTo q (starEach [] X.env)).any (·.1) || (backToKw q (keywordEach kws X.env)).any (·.1.isNone)) = false := by rfl) : PE X (.Call (.Name x p) [] kws q) (tCallN 0 ks.length sp gV E tNil tk) := by
  constructor
  intro pins s σ H Q I h
  refine wpAny_Call_Name_kw (ld_glob I gl mf (PySem.W.callWith_KW0 (h₀ := X.base) I.ok.mod.kin kf h0 (thn (hk.run q pins s σ H _ I h) fun ws s2 ⟨zs, H2, I2, rz, l1, l2, y2⟩ => ⟨I2.kIn, ?_⟩) h3) h1)
  rw [hks]
  exact kw_to hb (fun bs bv b1 b2 b3 => F.go X.A X.stack s2 H2 _ bs bv Q E hG hr I2.env0 b1 b2 b3) hx I2 .nil rz rfl l2 y2
/-- the same of a def that may be called anywhere -/
theorem pe_kw (F : FnOk X.prog X.w X.K X.mg X.base C m f fd ps sp) (hr : Room m X.A) (gl : Gl X x) (mf : X.mg x = some (.ref f)) (kf : PySem.W.keepIn X.K (.ref f) = true) (hb : KBX X.K fd ps n ks g gV) (hx : Passes C X E) (ha : PA X (e :: es) t) (hk : PK X kws tk)
    (h0 : (backToKw q (keywordEach kws X.env)).all (·.1.isSome) = true := by rfl) (hks : (backToKw q (keywordEach kws X.env)).filterMap (·.1) = ks := by rfl) (h1 : (x == ("__debug__" : Str)) = false := by decide) (h2 : starEach (e :: es) X.env = (false, eval e X.env) :: starEach es X.env := by rfl)
    (h3 : ((backTo q (starEach (e :: es) X.env)).any (·.1) || (backToKw q (keywordEach kws X.env)).any (·.1.isNone)) = false := by rfl) : PE X (.Call (.Name x p) (e :: es) kws q) (tCallN n ks.length sp gV E t tk) := by
  constructor
  intro pins s σ H Q I h
  refine wpAny_Call_Name_kw (ld_glob I gl mf (PySem.W.callWith_KW (h₀ := X.base) I.ok.mod.kin kf h0 (thn (ha.run q pins s σ H _ I h) fun us s1 ⟨vs, H1, I1, r, y⟩ => thn (hk.run q pins s1 σ H1 _ I1 y) fun ws s2 ⟨zs, H2, I2, rz, l1, l2, y2⟩ => ⟨I2.kIn, ?_⟩) h3 h2) h1)
  rw [hks]
  exact kw_to hb (fun bs bv b1 b2 b3 => F.run X.A X.stack s2 H2 _ bs bv Q E hr I2.env0 b1 b2 b3) hx I2 r rz l1 l2 y2
theorem pe_kw0 (F : FnOk X.prog X.w X.K X.mg X.base C m f fd ps sp) (hr : Room m X.A) (gl : Gl X x) (mf : X.mg x = some (.ref f)) (kf : PySem.W.keepIn X.K (.ref f) = true) (hb : KBX X.K fd ps 0 ks g gV) (hx : Passes C X E) (hk : PK X kws tk)
    (h0 : (backToKw q (keywordEach kws X.env)).all (·.1.isSome) = true := by rfl) (hks : (backToKw q (keywordEach kws X.env)).filterMap (·.1) = ks := by rfl) (h1 : (x == ("__debug__" : Str)) = false := by decide)
    (h3 : ((backTo q (starEach [] X.env)).any (·.1) || (backToKw q (keywordEach kws X.env)).any (·.1.isNone)) = false := by rfl) : PE X (.Call (.Name x p) [] kws q) (tCallN 0 ks.length sp gV E tNil tk) := by
  constructor
  intro pins s σ H Q I h
  refine wpAny_Call_Name_kw (ld_glob I gl mf (PySem.W.callWith_KW0 (h₀ := X.base) I.ok.mod.kin kf h0 (thn (hk.run q pins s σ H _ I h) fun ws s2 ⟨zs, H2, I2, rz, l1, l2, y2⟩ => ⟨I2.kIn, ?_⟩) h3) h1)
  rw [hks]
  exact kw_to hb (fun bs bv b1 b2 b3 => F.run X.A X.stack s2 H2 _ bs bv Q E hr I2.env0 b1 b2 b3) hx I2 .nil rz rfl l2 y2
end
section
variable {σ : L2.St} {H : Hp} {Q : VK} {t tk : TA} {sp : Sp} {gV : List V → List V → List V} {E : XK} {n m : Nat}
theorem caln (h : t σ H fun vs H1 => tk σ H1 fun zs H2 => vs.length = n ∧ zs.length = m ∧ sp (gV vs zs) H2 Q E) : tCallN n m sp gV E t tk σ H Q := h
theorem lnn {a b c d : Nat} {A : Prop} (e : a = c) (f : b = d) (h : A) : a = c ∧ b = d ∧ A := ⟨e, f, h⟩
end
/-! ### repr -/
mutual
/-- data of ints below 2 ^ 200, bools, None, in lists and tuples -/
def tame : PyData → Bool
  | .none | .bool _ => true
  | .int i => decide (i.natAbs < 2 ^ 200)
  | .list ds | .tuple ds => tameAll ds
  | _ => false
def tameAll : List PyData → Bool
  | [] => true
  | d :: ds => tame d && tameAll ds
end
theorem tame_int {i : Int} (h : i.natAbs < 2 ^ 200) : i.natAbs.log2 < 200 := by
  by_cases z : i.natAbs = 0
  · rw [z]; decide
  · exact (Nat.log2_lt z).mpr h
mutual
theorem tame_ok : ∀ d : PyData, tame d = true → d.showable = true ∧ d.hasDict = false ∧ d.leavesShort 201 = true
  | .none, _ => ⟨rfl, rfl, rfl⟩
  | .bool _, _ => ⟨rfl, rfl, rfl⟩
  | .int i, h => by
    have h' := tame_int (of_decide_eq_true (by simpa only [tame] using h))
    refine ⟨by simp only [PyData.showable]; exact decide_eq_true (by omega), rfl, ?_⟩
    simp only [PyData.leavesShort]
    exact decide_eq_true (by show (Str.ofString (toString i)).length ≤ 201; rw [PySem.ofString_length]; exact PySem.int_text_length_le (by decide) h')
  | .str _, h => by simp [tame] at h
  | .dict _, h => by simp [tame] at h
  | .list ds, h => by
    have := tame_okAll ds (by simpa only [tame] using h)
    simpa only [PyData.showable, PyData.hasDict, PyData.leavesShort] using this
  | .tuple ds, h => by
    have := tame_okAll ds (by simpa only [tame] using h)
    simpa only [PyData.showable, PyData.hasDict, PyData.leavesShort] using this
theorem tame_okAll : ∀ ds : List PyData, tameAll ds = true → PyData.showableAll ds = true ∧ PyData.hasDictAll ds = false ∧ PyData.leavesShortAll 201 ds = true
  | [], _ => ⟨rfl, rfl, rfl⟩
  | d :: ds, h => by
    have h' : tame d = true ∧ tameAll ds = true := by simpa only [tameAll, Bool.and_eq_true] using h
    obtain ⟨a, b, c⟩ := tame_ok d h'.1
    obtain ⟨a', b', c'⟩ := tame_okAll ds h'.2
    simp only [PyData.showableAll, PyData.hasDictAll, PyData.leavesShortAll, a, b, c, a', b', c']
    decide
end
/-- repr of a list or a tuple -/
def rRepr (K : PySem.W.Frag) : List V → Hp → VK → Prop := fun vs H Q => ∃ a d, vs = [.ref a] ∧ Dp K H (.ref a) d ∧ tame d = true ∧ d.depth ≤ 60 ∧ d.bulk ≤ 60000 ∧ Q (.str d.shown) H
theorem krepr (K : PySem.W.Frag) {X : Cx} {k : Nat} (hG : X.A.guards = some []) (hr : Room k X.A) (h : X.K = K := by rfl) : CallR X (.builtin "repr") (rRepr K) := by
  subst h
  intro pins s σ H xs us Q I r hq
  obtain ⟨a, d, rfl, hd, ht, hdp, hb, q⟩ := hq
  obtain ⟨u, rfl, ru⟩ := vals1 r
  obtain rfl : u = Value.ref a := ru
  obtain ⟨as, rd⟩ := Dp.reads I d _ _ hd rfl
  obtain ⟨o1, o2, o3⟩ := tame_ok d ht
  have fits := PyData.shown_le_bulk 201 (by decide) d o3
  have un := hr.units
  refine repr_of_reads' rd o1 (PyData.noDict_hsm o2) hG (by omega) (fun _ _ e => e) (fun h' u tk hk => ⟨.str d.shown, H, ?_, ⟨u, rfl⟩, q⟩) (by rw [sizeLine_eq]; omega)
  exact I.kept hk
end HS
/-! The end of a proof whose law def is called while nothing is being shown. -/
namespace HS
open PySem PySem.Spec PyProof.Rows L2
section
variable {Pg : Program} {wd : World} {K : PySem.W.Frag} {mg mb : Str → Option Value} {C : CXT} {n : Nat} {fa a : Addr} {fd : FuncData} {x : Str} {sp : Sp} {s1 : Shared} {vs : List Value} {ns : List Int}
/-- what the caller's heap holds where the abstract heap tracks the script alone, or nothing -/
structure AtTop (Pg : Program) (wd : World) (K : PySem.W.Frag) (a : Addr) (ns : List Int) (s1 : Shared) (H : Hp) : Prop where
  only : Only H
  here : SqL K H a (ns.map V.int)
  hok : HOk Pg wd H s1.heap
  one : ∀ b, b ≠ a → H b = none
  out : H a = none ∨ K.lookup a = none
theorem top_run (T : AtTop Pg wd K a ns s1 H) (KX : K.In s1.heap) (g : s1.heap.Ns mainGlobals mg) (gb : s1.heap.Ns builtinsNs mb) (hb : ∀ y : Str, y ≠ "__name__" → mb y = bootBuiltins y) (lim : s1.heap.NoLimit) (hg : s1.gens = #[])
    (seq : ∃ o, s1.heap.get? a = some o ∧ ∃ us m, o.data = .seq us m) (hr : Room n callerA) (F : ∀ base : Heap, K.In base → base.Ns mainGlobals mg → FnG Pg wd K mg base C n fa fd [x] sp) (bd : ∀ (s : Shared) (u : Value), BindsTo s fd ⟨[u], []⟩ [(x, u)])
    (want : ∀ H : Hp, Only H → SqL K H a (ns.map V.int) → sp [.ref a] H (fun v _ => v = .bl true) fun _ _ _ => False) (noX : ∀ H e s', C [] H s1 (fun _ _ _ => False) e s' → False) :
    codeAny (model Pg wd) callerA (.call (.ref fa) ⟨[.ref a], []⟩) (fun r s' => r = .ok (.ret (.bool true)) ∧ OldK s1.heap s'.heap ∧ s'.os = s1.os ∧ AllBare s'.gens) s1 := by
  obtain ⟨oa, ea, us, m, da⟩ := seq
  -- the base: all but what is tracked
  have stays : ∀ {b : Addr} {o : Obj}, s1.heap.get? b = some o → (b = a → H a = none) → (hidT s1.heap H).get? b = some o := fun {b o} e h =>
    hidT_get e (by by_cases q : b = a; · subst q; exact h rfl
                   · exact T.one b q)
  have dict : ∀ {b : Addr} {f : Str → Option Value}, s1.heap.Ns b f → (hidT s1.heap H).Ns b f := by
    rintro b f ⟨o, es, ep, e, d, r⟩
    refine ⟨o, es, ep, stays e fun q => ?_, d, r⟩
    subst q
    rw [ea] at e
    cases e
    rw [da] at d
    cases d
  have kin : K.In (hidT s1.heap H) := fun b o e => stays (KX b o e) fun q => by
    subst q
    rcases T.out with h | h
    · exact h
    · rw [h] at e; cases e
  have md : Mod K mg (hidT s1.heap H) := ⟨kin, dict g, ⟨mb, dict gb, hb⟩, by obtain ⟨mc, l1, l2⟩ := lim; exact ⟨mc, dict l1, l2⟩⟩
  have e0 : Env0 Pg wd K mg (hidT s1.heap H) callerA [] s1 H := ⟨rfl, md, fun _ _ e => of_hidT e, Nat.le_of_eq (hidT_size _ _), trivial, nofun, T.hok, .of_eq hg⟩
  refine codeAny_mono ((F _ kin (dict g)).go callerA [] s1 H ⟨[.ref a], []⟩ [.ref a] [.ref a] _ _ rfl hr e0 (bd s1 (.ref a)) (.cons rfl .nil) (want H T.only T.here)) fun r s' y => ?_
  match r, y with
  | .error e, y => exact (noX H e s' y).elim
  | .ok (.ret u), y =>
    obtain ⟨v, H', os, bare, un, ok', rv, rfl⟩ := y
    obtain rfl : u = Value.bool true := rv
    refine ⟨rfl, OldK.of_keep fun b o e => ?_, os, bare⟩
    rcases T.only b with z | ⟨ob, xs, z⟩
    · exact un.keep b o e z nofun nofun
    · have t1 := (T.hok b _ z).1
      rw [e] at t1
      rw [Option.some.inj t1]
      exact (ok' b _ (un.frzs b ob _ z)).1
theorem top_at (KX : K.In s1.heap) (ha : s1.heap.get? a = some { cls := .type "list", data := .seq vs.toArray }) (hi : IntsAre vs ns) (hl : ns.length ≤ sizeLine) : ∃ H, AtTop Pg wd K a ns s1 H := by
  have rv := vals_ints hi
  by_cases hk : K.lookup a = none
  · refine ⟨fun b => if b = a then some (.frz { cls := .type "list", data := .seq vs.toArray } (.lst (ns.map V.int))) else none, fun b => ?_, .inl (.inr ⟨_, if_pos rfl⟩), fun b u z => ?_, fun b q => if_neg q, .inr hk⟩
    · by_cases q : b = a
      · exact .inr ⟨_, _, if_pos q⟩
      · exact .inl (if_neg q)
    · by_cases q : b = a
      · subst q
        rw [if_pos rfl] at z
        cases z
        exact ⟨ha, by rw [List.length_map]; exact hl, vs, _, rv, ha⟩
      · rw [if_neg q] at z
        cases z
  · obtain ⟨o, ho⟩ := Option.ne_none_iff_exists'.mp hk
    have e := KX a o ho
    rw [ha] at e
    cases e
    exact ⟨fun _ => none, fun _ => .inl rfl, .inr ⟨_, vs.toArray, _, ho, rfl, rfl, rfl, by rw [List.size_toArray, hi.length]; exact hl, by simpa using rv⟩, (fun _ _ z => nomatch z), fun _ _ => rfl, .inl rfl⟩
end
theorem walk_ofG {l : PySem.W.OpenLaw} {n k : Nat} {q : Program} {loose : List Str} {XP : (Str → Option Value) → Heap → Prop} {YP : World → Heap → Prop} {d : DefRec} {K : Params → PySem.W.Frag} {CX : World → CXT} {sp : World → Sp} {x : Str}
    (h1 : l.most = some n) (h2 : n ≤ sizeLine) (h3 : d.params.defaults = []) (hr : Room k callerA) (hY : ∀ (w : World) (h : Heap), YP w h → (K w.params).In h)
    (F : ∀ (w : World) (mg : Str → Option Value) (fa : Addr) (h : Heap), (K w.params).In h → h.Ns mainGlobals mg → mg d.name = some (.ref fa) → ∃ fd : FuncData, (∀ (s : Shared) (u : Value), BindsTo s fd ⟨[u], []⟩ [(x, u)]) ∧
      ∀ base : Heap, (K w.params).In base → base.Ns mainGlobals mg → FnG l.prog w (K w.params) mg base (CX w) k fa fd [x] (sp w))
    (want : ∀ (w : World) (H : Hp) (a : Addr) (ns : List Int), ns.length ≤ n → Only H → SqL (K w.params) H a (ns.map V.int) → sp w [.ref a] H (fun v _ => v = .bl true) fun _ _ _ => False)
    (noX : ∀ (w : World) (H : Hp) (s : Shared) (e : Value) (s' : Shared), CX w [] H s (fun _ _ _ => False) e s' → False) : PySem.W.WalkO q loose XP YP l.row.toRowW d [] (fun f vs => PySem.call f vs) :=
  Att.attach_call h1 h3 fun w _ s1 mg _ fa _ _ _ _ a vs ns G Y _ _ _ hm ho hi hl hg => by
    obtain ⟨fd, bd, hF⟩ := F w mg fa _ (hY w _ Y) G.T.g hm
    obtain ⟨H, T⟩ := top_at (Pg := l.prog) (wd := w) (hY w _ Y) ho hi (Nat.le_trans hl h2)
    exact top_run T (hY w _ Y) G.T.g G.T.b G.T.builtins G.T.nolimit hg ⟨_, ho, _, _, rfl⟩ hr hF bd (fun H o => want w H a ns hl o) fun H e s' => noX w H s1 e s'
end HS
/-! sorted of ints; lists in descending order. -/
namespace HS
open PySem PySem.Spec PyProof.Rows L2
section
variable {X : Cx} (K : PySem.W.Frag)
end
/-- in descending order -/
def desc (ls : List Int) : List Int := ls.mergeSort fun a b => decide (b ≤ a)
theorem desc_perm (ls : List Int) : (desc ls).Perm ls := List.mergeSort_perm ls _
theorem desc_pair (ls : List Int) : (desc ls).Pairwise (· ≥ ·) := by
  have h := List.pairwise_mergeSort (le := fun a b : Int => decide (b ≤ a)) (fun a b c h1 h2 => by simp only [decide_eq_true_eq] at *; omega) (fun a b => by simp only [Bool.or_eq_true, decide_eq_true_eq]; omega) ls
  exact h.imp fun h => by simpa using h
theorem same_desc : ∀ {xs ys : List Int}, xs.Perm ys → xs.Pairwise (· ≥ ·) → ys.Pairwise (· ≥ ·) → xs = ys
  | [], ys, p, _, _ => (List.nil_perm.mp p).symm ▸ rfl
  | x :: xs, [], p, _, _ => absurd (List.perm_nil.mp p) (by simp)
  | x :: xs, y :: ys, p, h1, h2 => by
    rw [List.pairwise_cons] at h1 h2
    have e : x = y := by
      have a := p.mem_iff.mp List.mem_cons_self
      have b := p.mem_iff.mpr (List.mem_cons_self (a := y) (l := ys))
      rcases List.mem_cons.mp a with a | a
      · exact a
      · rcases List.mem_cons.mp b with b | b
        · exact b.symm
        · have := h1.1 y b
          have := h2.1 x a
          omega
    subst e
    rw [same_desc (List.Perm.cons_inv p) h1.2 h2.2]
theorem desc_of {xs ys : List Int} (p : xs.Perm ys) (h : xs.Pairwise (· ≥ ·)) : xs = desc ys := same_desc (p.trans (desc_perm ys).symm) h (desc_pair ys)
theorem desc_rev {xs ys : List Int} (p : xs.Perm ys) (h : xs.Pairwise (· ≤ ·)) : xs.reverse = desc ys := desc_of ((List.reverse_perm xs).trans p) (List.pairwise_reverse.mpr h)
theorem desc_same {xs ys : List Int} (p : xs.Perm ys) : desc xs = desc ys := desc_of ((desc_perm xs).trans p) (desc_pair xs)
theorem desc_len (ls : List Int) : (desc ls).length = ls.length := (desc_perm ls).length_eq
theorem desc_mem {ls : List Int} {x : Int} : x ∈ desc ls ↔ x ∈ ls := (desc_perm ls).mem_iff
theorem desc_count (ls : List Int) (x : Int) : (desc ls).count x = ls.count x := (desc_perm ls).count_eq x
theorem desc_desc (ls : List Int) : desc (desc ls) = desc ls := desc_same (desc_perm ls)
/-- those greater than v -/
def above (ls : List Int) (v : Int) : List Int := (desc ls).filter fun x => decide (v < x)
theorem filter_none {ls : List Int} {v : Int} (h : ∀ x ∈ ls, x ≤ v) : (ls.filter fun x => decide (v < x)) = [] := by
  rw [List.filter_eq_nil_iff]
  intro x hx
  have := h x hx
  simp; omega
theorem filter_step : ∀ {D : List Int} (v : Int), D.Pairwise (· ≥ ·) → (D.filter fun x => decide (v < x)) = (D.filter fun x => decide (v + 1 < x)) ++ List.replicate (D.count (v + 1)) (v + 1)
  | [], _, _ => rfl
  | x :: r, v, h => by
    rw [List.pairwise_cons] at h
    have ih := filter_step v h.2
    by_cases c1 : v + 1 < x
    · rw [List.filter_cons_of_pos (by simp; omega), List.filter_cons_of_pos (by simp; omega), List.count_cons_of_ne (by omega), ih]
      rfl
    · have c3 : (r.filter fun x => decide (v + 1 < x)) = [] := filter_none fun y hy => by have := h.1 y hy; omega
      rw [List.filter_cons_of_neg (a := x) (p := fun x => decide (v + 1 < x)) (by simp; omega), c3]
      rw [c3] at ih
      by_cases c2 : x = v + 1
      · subst c2
        rw [List.filter_cons_of_pos (p := fun x => decide (v < x)) (decide_eq_true (show v < v + 1 by omega)), List.count_cons_self, ih, List.replicate_succ]
        rfl
      · rw [List.filter_cons_of_neg (by simp; omega), List.count_cons_of_ne (by omega), ih]
theorem above_step (ls : List Int) (v : Int) : above ls v = above ls (v + 1) ++ List.replicate (ls.count (v + 1)) (v + 1) := by
  unfold above; rw [filter_step v (desc_pair ls), desc_count]
theorem above_top {ls : List Int} {v : Int} (h : ∀ x ∈ ls, x ≤ v) : above ls v = [] := filter_none fun x hx => h x (desc_mem.mp hx)
theorem above_all {ls : List Int} (h : ∀ x ∈ ls, 1 ≤ x) : above ls 0 = desc ls := by
  unfold above
  rw [List.filter_eq_self]
  intro x hx
  have := h x (desc_mem.mp hx)
  simp; omega
theorem above_le (ls : List Int) (v : Int) : (above ls v).length ≤ ls.length := by
  rw [← desc_len ls]; exact List.length_filter_le _ _
theorem at_last {xs ys : List V} {v : V} (h : xs = ys ++ [v]) : atI xs (-1) = some v := by
  rw [h]
  unfold atI ixN
  rw [if_neg (by omega), List.length_append, List.length_singleton]
  rw [if_pos (by push_cast; omega)]
  show (ys ++ [v])[_]? = _
  rw [show (-1 + ((ys.length + 1 : Nat) : Int)).toNat = ys.length by omega]
  simp
theorem desc_nil : desc [] = [] := by
  have := desc_perm []
  exact List.perm_nil.mp this
end HS
namespace HS
open PySem PySem.Spec PyProof.Rows L2
/-- sorted(b)[::-1] -/
def revQ (K : PySem.W.Frag) (Q : VK) : VK := fun x H1 => ∃ a xs, x = .ref a ∧ SqL K H1 a xs ∧ ∀ p, H1 p = none → Q (.ref p) (upd H1 p (.lst xs.reverse))
def srvQ (K : PySem.W.Frag) (Q : VK) : List V → Hp → Prop := fun vs H1 => ∃ b ls, vs = [.ref b] ∧ SqL K H1 b (ls.map V.int) ∧ ∀ H' p, Keep (fun _ => False) H1 H' → H1 p = none → H' p = some (.lst ((desc ls).map V.int)) → Q (.ref p) H'
def tSrv (K : PySem.W.Frag) (tl : TA) : TE := fun σ H Q => tl σ H (srvQ K Q)
theorem pe_srv (K : PySem.W.Frag) {X : Cx} {E C : Expr} {tl : TA} (h : ∀ r, CallR X (.builtin "sorted") r → PE X C (tCB r tl)) (rev : ∀ te, PE X C te → PE X E (tRevL X.K te)) (hK : X.K = K := by rfl) : PE X E (tSrv K tl) := by
  subst hK
  refine ⟨fun pins s σ H Q I hq => ?_⟩
  refine (rev _ (h (fun vs H1 Q' => srvQ X.K Q vs H1 ∧ Q' = revQ X.K Q) ?_)).run pins s σ H Q I ?_
  · intro pins s σ H xs us Q' I r h2
    obtain ⟨⟨b, ls, e, hs, k⟩, rfl⟩ := h2
    refine cr_sortedI pins s σ H xs us _ I r ⟨b, ls, e, hs, fun us p hperm hpair hp => ⟨_, _, rfl, HS.sq upd_same, fun q hq => ?_⟩⟩
    have K1 : Keep (fun _ => False) H (upd H p (.lst (us.map V.int))) := Keep.new hp
    rw [← List.map_reverse, desc_rev hperm hpair]
    exact k _ q (K1.nw hq) (K1.free hq id) upd_same
  · show tl σ H fun vs H1 => srvQ X.K Q vs H1 ∧ revQ X.K Q = revQ X.K Q
    have e : (fun vs H1 => srvQ X.K Q vs H1 ∧ revQ X.K Q = revQ X.K Q) = srvQ X.K Q := by
      funext vs H1
      exact propext ⟨fun z => z.1, fun z => ⟨z, rfl⟩⟩
    rw [e]
    exact hq
theorem srv {K : PySem.W.Frag} {tl : TA} {σ : L2.St} {H : Hp} {Q : VK} (h : tl σ H fun vs H1 => ∃ b ls, vs = [.ref b] ∧ SqL K H1 b (ls.map V.int) ∧ ∀ H' p, Keep (fun _ => False) H1 H' → H1 p = none → H' p = some (.lst ((desc ls).map V.int)) → Q (.ref p) H') : tSrv K tl σ H Q := h
end HS
namespace HS
open PySem PySem.Spec PyProof.Rows L2
/-- in ascending order -/
def asc (ls : List Int) : List Int := (desc ls).reverse
theorem asc_perm (ls : List Int) : (asc ls).Perm ls := (List.reverse_perm _).trans (desc_perm ls)
theorem asc_of {xs ys : List Int} (p : xs.Perm ys) (h : xs.Pairwise (· ≤ ·)) : xs = asc ys := by
  unfold asc; rw [← desc_rev p h, List.reverse_reverse]
theorem asc_pair (ls : List Int) : (asc ls).Pairwise (· ≤ ·) := by
  unfold asc
  rw [List.pairwise_reverse]
  exact desc_pair ls
theorem asc_len (ls : List Int) : (asc ls).length = ls.length := (asc_perm ls).length_eq
theorem asc_mem {ls : List Int} {x : Int} : x ∈ asc ls ↔ x ∈ ls := (asc_perm ls).mem_iff
theorem asc_inj {xs ys : List Int} : asc xs = asc ys ↔ desc xs = desc ys := List.reverse_inj
def rAsc (K : PySem.W.Frag) : List V → Hp → VK → Prop := fun vs H Q => ∃ b ls, vs = [.ref b] ∧ SqL K H b (ls.map V.int) ∧ ∀ H' p, Keep (fun _ => False) H H' → H p = none → H' p = some (.lst ((asc ls).map V.int)) → Q (.ref p) H'
def rDesc (K : PySem.W.Frag) : List V → List V → Hp → VK → Prop := fun vs zs H Q => ∃ b ls, vs = [.ref b] ∧ zs = [.bl true] ∧ SqL K H b (ls.map V.int) ∧ ∀ H' p, Keep (fun _ => False) H H' → H p = none → H' p = some (.lst ((desc ls).map V.int)) → Q (.ref p) H'
section
variable {X : Cx} (K : PySem.W.Frag)
theorem ksort (h : X.K = K := by rfl) : CallR X (.builtin "sorted") (rAsc K) := by
  subst h
  intro pins s σ H xs us Q I r ⟨b, ls, e, hs, k⟩
  exact cr_sortedI pins s σ H xs us Q I r ⟨b, ls, e, hs, fun us p hperm hpair hp => k _ p (Keep.new hp) hp (by rw [upd_same, asc_of hperm hpair])⟩
theorem ksortR (h : X.K = K := by rfl) : CallRK X (.builtin "sorted") [Str.ofString "reverse"] (rDesc K) := by
  subst h
  intro pins s σ H xs zs us ws Q I r rz ⟨b, ls, e, ez, hs, k⟩
  exact cr_sortedRev (b := true) pins s σ H xs zs us ws Q I r rz ⟨b, ls, e, ez, hs, fun us p hperm hpair hp => k _ p (Keep.new hp) hp (by rw [upd_same, desc_of hperm hpair])⟩
theorem kiz {tg l : Expr} {tl : TA} (p : PI X tg l (iZip X.K tl)) (h : X.K = K := by rfl) : PI X tg l (iZip K tl) := h ▸ p
theorem kcnt (h : X.K = K := by rfl) : MtR X "list.count" (rCntI K) := h ▸ mt_lcount
theorem korT {E : Expr} {ta tb : TE} (p : PE X E (tOrT X.K ta tb)) (h : X.K = K := by rfl) : PE X E (tOrT K ta tb) := h ▸ p
end
section
variable {σ : L2.St} {H : Hp} {Q : VK} {K : PySem.W.Frag}
theorem ckw {r : List V → List V → Hp → VK → Prop} {t tk : TA} (h : t σ H fun vs H1 => tk σ H1 fun zs H2 => r vs zs H2 Q) : tCKw r t tk σ H Q := h
theorem izip {tl : TA} {R : It → Hp → Prop} (h : tl σ H fun vs H1 => ∃ a b xs ys, vs = [.ref a, .ref b] ∧ SqL K H1 a xs ∧ SqL K H1 b ys ∧ R (Itz K a b) H1) : iZip K tl σ H R := h
theorem lcn {p : Addr} {ns : List Int} {k : Int} (h : SqL K H p (ns.map V.int)) (q : Q (.int (ns.count k : Nat)) H) : rCntI K (.ref p) [.int k] H Q := ⟨p, ns, k, rfl, rfl, h, q⟩
theorem orT {ta tb : TE} (h : ta σ H fun x H1 => ∃ k, TruV K x H1 k ∧ if k = true then Q x H1 else tb σ H1 Q) : tOrT K ta tb σ H Q := h
end
end HS
/-! set(xs) of a list of ints, len and sorted of it. -/
namespace HS
open PySem PySem.Spec PyProof.Rows L2
/-- a set just made -/
abbrev set0 (w : World) : Obj := { cls := .type "set", dict := none, data := .set #[] 0 (.fresh 0 0 (!w.params.followText "set-order")) }
section
variable {P : Program} {w : World} {A : Around} {E : Value → Shared → Prop} {s : Shared}
set_option maxHeartbeats 3200000 in
theorem set_of_list {l : Addr} {xs : Array Value} (ns : List Int) {Q : Value → Shared → Prop} (calm : A.handled = none) (isl : s.heap.IsList l xs) (jnts : IntsAre xs.toList ns) (few : ns.length + 1 < scanBound)
    (k : ∀ (g : Heap) (tk c : Nat), SetR w g s.heap.objs.size (fun j => decide (j ∈ ns)) c → (∀ b o, s.heap.get? b = some o → g.get? b = some o) → Q (.ref s.heap.objs.size) { s with heap := g, toks := tk }) :
    wpAny (model P w) A (call (.type "set") [.ref l]) Q E s := by
  have len : xs.size = ns.length := by rw [← Array.length_toList]; exact IntsAre.length jnts
  have m1 := F.called_set.mro
  have m2 := F.called_set.made
  have m3 := F.called_set.sub
  have m4 := F.called_set.notType
  have m5 := F.called_set.canCreate
  have m6 := F.typeCall_set_1 (.ref l)
  obtain ⟨_, _, m1⟩ := m1
  apply wpAny_call
  apply codeAny_of_tree
  show wpAny _ _ (callAny (.type "set") _) _ _ _
  refine wpAny_pure ⟨Code.quiet_builtin _ (by decide +kernel), codeAny_builtin F.entry_type_call ?_⟩
  rw [Around.under_plain (weight_type_call_type "set" [.ref l] []) rfl]
  repeat any_goals first | assumption | wp_step
  let h1 := s.heap.push (set0 w)
  refine codeAny_mono (code_set_led1 (.ref l) (E := E) (Q₁ := fun v t => v = .ref s.heap.objs.size ∧ t = { s with heap := h1 }) ⟨rfl, rfl⟩) ?_
  rintro (e | v | _ | _ | _) t ht <;> first | exact ht | exact ht.elim | skip
  obtain ⟨rfl, rfl⟩ := ht
  have at0 : h1.get? s.heap.objs.size = some (set0 w) := Heap.get?_push_size _ rfl
  have ty0 : Shared.TypeIs { s with heap := h1 } (.ref s.heap.objs.size) "set" := ⟨_, at0, rfl⟩
  have m7 := F.called_set.init.lookup
  have m8 := F.called_set.init.bind (.ref s.heap.objs.size)
  repeat any_goals first | assumption | wp_step
  refine codeAny_mono (codeAny_call_builtin (R := wants (fun v t => v = .none ∧ ∃ g tk c, t = { s with heap := g, toks := tk } ∧ SetR w g s.heap.objs.size (fun j => decide (j ∈ ns)) c ∧ ∀ b o, s.heap.get? b = some o → g.get? b = some o) E)
    F.called_set.init.plain F.entry_set_init (check_set_init_1 ty0 ?_)) ?_
  · obtain ⟨⟨c, d, dat, sl⟩, e1, e2, n1, e3⟩ := isl
    dsimp only at e2 e3
    subst e2 e3
    have e4 : h1.get? l = some { cls := .type "list", dict := d, data := .seq xs n1, slots := sl } := Heap.get?_push_of_some _ e1
    have s1 := F.sub_list_set
    have s2 := F.sub_list_frozenset
    have s3 : (Value.type "list" == Value.type "dict") = false := by decide
    have isl1 : h1.IsList l xs := ⟨_, e4, rfl, n1, rfl⟩
    have lo : l < s.heap.objs.size := Heap.lt_size e1
    have sz : h1.objs.size = s.heap.objs.size + 1 := Heap.size_push ..
    unfold Builtin.«set.__init__» noKeywords Builtin.Frozenset.updateFrom
    generalize hIt : pyIter = It
    wp_walk
    subst hIt
    refine wpAny_pyIter_list isl1 (wpAny_bind (wpAny_runValue ?_))
    have c3 : A.in1.in1.in1.handled = none := by simp [calm]
    have d1 : l ≠ h1.objs.size := by rw [sz]; exact Nat.ne_of_lt (Nat.lt_succ_of_lt lo)
    have d2 : s.heap.objs.size ∉ [h1.objs.size, l] := by
      intro z
      rcases List.mem_cons.mp z with z | z
      · rw [sz] at z; exact absurd z (Nat.ne_of_lt (Nat.lt_succ_self _))
      · rw [List.mem_singleton] at z; exact absurd z (Nat.ne_of_gt lo)
    have val : ∀ (i : Nat) (v : Value), xs[i]? = some v → ∃ x t, ns[i]? = some x ∧ v = .int x t := by
      intro i v hv
      have hi : i < ns.length := by rw [← len]; exact (Array.getElem?_eq_some_iff.mp hv).1
      obtain ⟨t, e⟩ := IntsAre.int_at jnts i v (by rw [Array.getElem?_toList]; exact hv)
      rw [List.getD_eq_getElem?_getD, List.getElem?_eq_getElem hi, Option.getD_some] at e
      exact ⟨_, t, List.getElem?_eq_getElem hi, e⟩
    refine set_update_ints ((Walks.list c3 _ l d1 xs).toS) s.heap.objs.size d2 ns len few val (xs.size - 0) 0 _ (by omega) (Nat.zero_le _) ⟨⟨_, Heap.get?_push_size _ rfl, rfl, rfl⟩, isl1.push _⟩ ⟨0, Nat.le_refl 0, setR_new_at (Heap.get?_push_of_some _ at0)⟩ ?_
    intro t c mv _ R
    obtain ⟨g, g2, g3, tk, g4⟩ := t
    have q1 : g2 = s.gens := mv.gens
    have q2 : g3 = s.drawn := mv.drawn
    have q3 : g4 = s.os := mv.os
    subst q1 q2 q3
    show wpAny _ _ _ _ _ _
    refine wpAny_pure ?_
    show wpAny _ _ (PySem.ret Value.none) _ _ _
    refine wpAny_pure ⟨rfl, g, tk, c, rfl, R, fun b o e => ?_⟩
    have bl : b < s.heap.objs.size := Heap.lt_size e
    refine mv.heap b o ?_ (Heap.get?_push_of_some _ (Heap.get?_push_of_some _ e))
    intro z
    rcases List.mem_cons.mp z with z | z
    · exact absurd z (Nat.ne_of_lt bl)
    · rw [List.mem_singleton] at z
      have z : b = h1.objs.size := z
      rw [sz] at z
      exact absurd z (Nat.ne_of_lt (Nat.lt_succ_of_lt bl))
  · rintro (e | v | _ | _ | _) t ht <;> first | exact ht | exact ht.elim | skip
    obtain ⟨rfl, g, tk, c, rfl, R, up⟩ := ht
    repeat any_goals first | assumption | wp_step
    exact k _ _ _ R up
theorem sorted_of_set {a : Addr} {S : Int → Bool} {n : Nat} {Q : Value → Shared → Prop} (R : SetR w s.heap a S n) (calm : A.handled = none)
    (k : ∀ t p (out : Array Value) (c : Nat) (ns : List Int), (∀ b o, s.heap.get? b = some o → t.heap.get? b = some o) → t.gens = s.gens → t.os = s.os → s.heap.objs.size ≤ p → t.heap.get? p = some (seqObj "list" out c) →
      IntsAre out.toList ns → ns.Pairwise (· ≤ ·) → ns.Nodup → (∀ j, j ∈ ns ↔ S j = true) → ns.length = n → Q (.ref p) t) : wpAny (model P w) A (call (.builtin "sorted") [.ref a]) Q E s := by
  obtain ⟨o, es, ep, tb, ho, ex, hd, good, nd, mem, few, fit, cnt, ris, led⟩ := R
  apply Calls.call_function_entry kind_sorted plain_sorted entry_sorted (args_sorted1 _)
  unfold Builtin.«sorted»
  refine wpAny_bind (m := checkCount "sorted" 1 1 _) (wpAny_pure (wpAny_bind (collect_set (A := A.in1) calm ⟨o, ho, ex.1, hd⟩ fit few ris led fun t vs up big eg eo pm => ?_)))
  have lv : vs.length = n := by rw [pm.length_eq, List.length_map, Array.length_toList]; exact cnt
  have jnts : IntsAre vs (vs.map Builtin.Re.reRawOf) := ints_of vs fun v hv => by
    obtain ⟨e, he, rfl⟩ := List.mem_map.mp (pm.mem_iff.mp hv)
    obtain ⟨x, tk, h1, _⟩ := good e he
    exact ⟨x, tk, h1⟩
  have pk : (vs.map Builtin.Re.reRawOf).Perm (es.toList.map keyOf) := by
    have := pm.map Builtin.Re.reRawOf
    rwa [List.map_map] at this
  have szv : vs.length ≤ sizeLine := by rw [lv, sizeLine_eq]; unfold scanBound at few; omega
  refine wpAny_bind (wpAny_newList ?_ szv)
  have atL : (t.heap.push (seqObj "list" vs.toArray 0)).get? t.heap.objs.size = some (seqObj "list" vs.toArray 0) := Heap.get?_push_size _ rfl
  refine wpAny_bind (wpAny_holding (wpAny_call_entry slot_list_sort ⟨_, atL, rfl⟩ entry_list_sort (SrtO.list_sort_ord SrtO.swo_int atL szv (fun h2 => SrtO.ints_sortable jnts h2) fun out h1 h2 => ⟨_, rfl, ?_⟩) (args_list_sort _)))
  obtain ⟨j1, j2, j3⟩ := SrtO.ints_out jnts h1 h2
  obtain ⟨c, hc⟩ := sortedHeap_at (vs := vs) (out := out.toArray) atL
  have pn := j2.trans pk
  refine wpAny_pure ⟨_, rfl, k _ t.heap.objs.size out.toArray c _ (fun b u e => ?_) eg eo big hc j1 j3 (pn.nodup_iff.mpr nd) (fun x => by rw [pn.mem_iff, ← mem x]) (by rw [pn.length_eq, List.length_map, Array.length_toList]; exact cnt)⟩
  have q := up b u e
  have lt := Heap.lt_size q
  show (sortedHeap (t.heap.push (seqObj "list" vs.toArray 0)) t.heap.objs.size vs out.toArray).get? b = some u
  rw [sortedHeap_old (Nat.ne_of_lt lt) (by rw [size_push']; exact Nat.lt_succ_of_lt lt)]
  exact Heap.get?_push_of_some _ q
end
/-- the different numbers, ascending -/
def dd : List Int → List Int
  | [] => []
  | x :: r => if x ∈ r then dd r else x :: dd r
theorem dd_mem {x : Int} : ∀ {l : List Int}, x ∈ dd l ↔ x ∈ l
  | [] => Iff.rfl
  | y :: r => by
    unfold dd
    by_cases c : y ∈ r
    · rw [if_pos c, dd_mem, List.mem_cons]
      exact ⟨.inr, fun h => h.elim (fun e => by rw [e]; exact c) id⟩
    · rw [if_neg c, List.mem_cons, List.mem_cons, dd_mem]
theorem dd_nodup : ∀ l : List Int, (dd l).Nodup
  | [] => List.nodup_nil
  | y :: r => by
    unfold dd
    by_cases c : y ∈ r
    · rw [if_pos c]; exact dd_nodup r
    · rw [if_neg c, List.nodup_cons]
      exact ⟨fun z => c (dd_mem.mp z), dd_nodup r⟩
def dst (l : List Int) : List Int := asc (dd l)
theorem dst_mem {l : List Int} {x : Int} : x ∈ dst l ↔ x ∈ l := by unfold dst; rw [asc_mem, dd_mem]
theorem dst_nodup (l : List Int) : (dst l).Nodup := (asc_perm (dd l)).nodup_iff.mpr (dd_nodup l)
theorem dd_len : ∀ l : List Int, (dd l).length ≤ l.length
  | [] => Nat.le_refl _
  | y :: r => by
    unfold dd
    have := dd_len r
    split
    · rw [List.length_cons]; omega
    · rw [List.length_cons, List.length_cons]; omega
theorem dst_len (l : List Int) : (dst l).length ≤ l.length := by unfold dst; rw [asc_len]; exact dd_len l
theorem perm_of_mem {xs ys : List Int} (h1 : xs.Nodup) (h2 : ys.Nodup) (h : ∀ x, x ∈ xs ↔ x ∈ ys) : xs.Perm ys := by
  rw [List.perm_iff_count]
  intro x
  rw [List.Nodup.count h1, List.Nodup.count h2]
  by_cases c : x ∈ xs
  · rw [if_pos c, if_pos ((h x).mp c)]
  · rw [if_neg c, if_neg fun z => c ((h x).mpr z)]
theorem dst_of {xs l : List Int} (h1 : xs.Nodup) (h2 : xs.Pairwise (· ≤ ·)) (h : ∀ x, x ∈ xs ↔ x ∈ l) : xs = dst l :=
  asc_of (perm_of_mem h1 (dd_nodup l) fun x => by rw [h, dd_mem]) h2
theorem dst_same {xs ys : List Int} (h : ∀ x, x ∈ xs ↔ x ∈ ys) : dst xs = dst ys := dst_of (dst_nodup xs) (asc_pair _) fun x => by rw [dst_mem, h]
/-- a set of the numbers of a list, by what it holds -/
def rSet (w : World) (K : PySem.W.Frag) : List V → Hp → VK → Prop := fun vs H Q => ∃ a ns, vs = [.ref a] ∧ SqL K H a (ns.map V.int) ∧ ns.length ≤ 4000 ∧ ∀ p, H p = none → Q (.ref p) (upd H p (SetO w p (fun j => decide (j ∈ ns)) (dst ns).length))
def rSortS (w : World) : List V → Hp → VK → Prop := fun vs H Q => ∃ a ns, vs = [.ref a] ∧ H a = some (SetO w a (fun j => decide (j ∈ ns)) (dst ns).length) ∧ ∀ H' p, Keep (fun _ => False) H H' → H p = none → H' p = some (.lst ((dst ns).map V.int)) → Q (.ref p) H'
def rLenS (w : World) : List V → Hp → VK → Prop := fun vs H Q => ∃ a S n, vs = [.ref a] ∧ H a = some (SetO w a S n) ∧ Q (.int (n : Nat)) H
theorem setR_count {w : World} {h : Heap} {a : Addr} {ns : List Int} {n : Nat} (R : SetR w h a (fun j => decide (j ∈ ns)) n) : n = (dst ns).length := by
  obtain ⟨o, es, ep, tb, ho, ex, hd, good, nd, mem, few, fit, cnt, ris, led⟩ := R
  have p : (es.toList.map keyOf).Perm (dst ns) := perm_of_mem nd (dst_nodup ns) fun x => by rw [← mem x, dst_mem]; simp
  rw [← p.length_eq, List.length_map, Array.length_toList]; exact cnt.symm
section
variable {X : Cx} (K : PySem.W.Frag)
theorem kset (w : World) (hc : X.calm = true) (h : X.K = K := by rfl) (hw : X.w = w := by rfl) : CallR X (.type "set") (rSet w K) := by
  subst h hw
  intro pins s σ H xs us Q I r ⟨a, ns, e, hs, hl, k⟩
  subst e
  rw [Vals.ref1 r]
  obtain ⟨its, rv, pl, hz⟩ := I.list hs
  refine set_of_list ns (I.ok.hd hc) pl.isList rv.ints (by unfold scanBound; omega) fun g tk c R up => ?_
  rw [setR_count R] at R
  exact ⟨.ref _, upd H s.heap.objs.size (SetO X.w s.heap.objs.size (fun j => decide (j ∈ ns)) (dst ns).length), I.laid (t' := tk) up (Nat.le_refl _) (setO_new R), rfl, k _ (I.hok.fresh (Nat.le_refl _))⟩
theorem ksortS (w : World) (hc : X.calm = true) (hw : X.w = w := by rfl) : CallR X (.builtin "sorted") (rSortS w) := by
  subst hw
  intro pins s σ H xs us Q I r ⟨a, ns, e, ha, k⟩
  subst e
  rw [Vals.ref1 r]
  refine sorted_of_set (setO_get I ha) (I.ok.hd hc) fun t p out c ms up eg eo big at1 jnts pw nd mem cnt => ?_
  have free : H p = none := I.hok.fresh big
  have em : ms = dst ns := dst_of nd pw fun x => by rw [mem x]; simp
  subst em
  have lz : ((dst ns).map V.int).length ≤ sizeLine := by
    rw [List.length_map, cnt, sizeLine_eq]
    obtain ⟨o, es, ep, tb, _, _, _, _, _, _, few, _, cnt2, _⟩ := setO_get I ha
    unfold scanBound at few
    omega
  have J : Inv X pins σ (upd H p (.lst ((dst ns).map V.int))) { s with heap := t.heap, gens := t.gens, drawn := t.drawn, toks := t.toks } :=
    I.call (ch := []) (Un.laid up big free) (I.hok.laid up big ⟨lz, out.toList, c, vals_of_ints jnts, at1⟩) (by rw [eg]; exact I.bare) nofun
  have et : t = { s with heap := t.heap, gens := t.gens, drawn := t.drawn, toks := t.toks } := by
    obtain ⟨_, _, _, _, _⟩ := t
    obtain ⟨_, _, _, _, _⟩ := s
    cases eo
    rfl
  rw [et]
  exact ⟨.ref p, _, J, rfl, k _ p (Keep.new free) free upd_same⟩
theorem klenS (w : World) (hw : X.w = w := by rfl) : CallR X (.builtin "len") (rLenS w) := by
  subst hw
  intro pins s σ H xs us Q I r ⟨a, S, n, e, ha, k⟩
  subst e
  rw [Vals.ref1 r]
  obtain ⟨o, es, ep, tb, ho, ex, hd, _, _, _, few, fit, cnt, _⟩ := setO_get I ha
  refine call_len_set ho ex hd fit (by unfold scanBound at few; omega) ⟨.int n, H, I.tok _, ⟨_, by rw [cnt]⟩, k⟩
end
end HS
/-! Powers of great numbers, [x] * n. -/
namespace HS
open PySem PySem.Spec PyProof.Rows L2
def CPowW (i j : Int) : Prop := 0 ≤ j ∧ (Builtin.Int.intBits i : Int) * j ≤ 2 ^ 27
section
variable {X : Cx} {σ : L2.St} {H : Hp} {Q : VK}
theorem op_powW : OpR X (binaryOp .Pow) (rI CPowW fun i j => .int (i ^ j.toNat)) := opI fun _ _ _ _ _ _ _ hc q => pow_int hc.1 hc.2 q
theorem bits_le {i : Int} (k : Nat) (h0 : 0 ≤ i) (h : i < 2 ^ k) : Builtin.Int.intBits i ≤ k := by
  unfold Builtin.Int.intBits
  by_cases z : i = 0
  · subst z; exact Nat.zero_le _
  · rw [if_neg (by simpa using z)]
    have z' : i.natAbs ≠ 0 := by omega
    have : i.natAbs.log2 < k := (Nat.log2_lt z').mpr (by
      have : ((i.natAbs : Nat) : Int) < ((2 ^ k : Nat) : Int) := by rw [Int.natAbs_of_nonneg h0]; simpa using h
      exact Int.ofNat_lt.mp this)
    omega
theorem powW {i : Int} (k : Nat) {j : Int} (h0 : 0 ≤ i) (h : i < 2 ^ k) (hj : 0 ≤ j) (hk : (k : Int) * j ≤ 2 ^ 27) : CPowW i j := by
  refine ⟨hj, Int.le_trans (Int.mul_le_mul_of_nonneg_right ?_ hj) hk⟩
  exact Int.ofNat_le.mpr (bits_le k h0 h)
theorem flat_one {v : V} : ∀ n : Nat, (List.replicate n [v]).flatten = List.replicate n v
  | 0 => rfl
  | n + 1 => by rw [List.replicate_succ, List.flatten_cons, flat_one n]; rfl
theorem rep1 {p : Addr} {v : V} {k : Int} (h : H p = some (.lst [v])) (hk : k ≤ 1000000) (h0 : 0 ≤ k) (q : ∀ p, H p = none → Q (.ref p) (upd H p (.lst (List.replicate k.toNat v)))) : rRep (.ref p) (.int k) H Q := by
  refine ⟨p, k, _, rfl, rfl, h, by omega, by omega, ?_, fun p hp => ?_⟩
  · rw [List.length_singleton, sizeLine_eq]; omega
  · rw [flat_one]; exact q p hp
end
end HS
/-! repr of lists of ints, and == of texts. -/
namespace HS
open PySem PySem.Spec PyProof.Rows L2
section
variable {H : Hp} {Q : VK} {K : PySem.W.Frag}
theorem rep {a : Addr} {d : PyData} (h : Dp K H (.ref a) d) (t : tame d = true) (hd : d.depth ≤ 60) (hb : d.bulk ≤ 60000) (q : Q (.str d.shown) H) : rRepr K [.ref a] H Q := ⟨a, d, rfl, h, t, hd, hb, q⟩
theorem eqSS {x : Str} (q : Q (.bl true) H) : rEq (.str x) (.str x) H Q := ⟨rfl, by rw [decide_eq_true rfl]; exact q⟩
theorem neSS {x : Str} (q : Q (.bl false) H) : rNe (.str x) (.str x) H Q := ⟨rfl, by rw [decide_eq_true rfl]; exact q⟩
/-- ints that are shown -/
def Tm (ns : List Int) : Prop := (∀ x ∈ ns, x.natAbs < 2 ^ 200) ∧ ns.length ≤ 5000
theorem tame_ints : ∀ ns : List Int, (∀ x ∈ ns, x.natAbs < 2 ^ 200) → tameAll (ns.map .int) = true
  | [], _ => rfl
  | n :: r, h => by
    rw [List.map_cons, tameAll, tame_ints r fun x hx => h x (List.mem_cons_of_mem _ hx)]
    simp only [tame, Bool.and_true]
    exact decide_eq_true (h n List.mem_cons_self)
theorem bulk_ints : ∀ ns : List Int, PyData.bulkAll (ns.map .int) = ns.length
  | [] => rfl
  | n :: r => by rw [List.map_cons, PyData.bulkAll, bulk_ints r, PyData.bulk, List.length_cons]; omega
theorem tm_tame {ns : List Int} (h : Tm ns) : tame (dInts ns) = true := by unfold dInts; rw [tame]; exact tame_ints ns h.1
theorem tm_bulk {ns : List Int} (h : Tm ns) : (dInts ns).bulk ≤ 5000 := by unfold dInts; rw [PyData.bulk, bulk_ints]; exact h.2
theorem dInts_depth (ns : List Int) : (dInts ns).depth = 1 := by unfold dInts; rw [PyData.depth, dep_ints]
/-- repr of a list of ints -/
theorem repI {a : Addr} {ns : List Int} (h : SqL K H a (ns.map V.int)) (t : Tm ns) (q : Q (.str (dInts ns).shown) H) : rRepr K [.ref a] H Q :=
  rep (dp_ints h) (tm_tame t) (by rw [dInts_depth]; decide) (Nat.le_trans (tm_bulk t) (by decide)) q
/-- repr of a list of two lists of ints -/
def dII (xs ys : List Int) : PyData := .list [dInts xs, dInts ys]
theorem repII {a p r : Addr} {xs ys : List Int} (h : SqL K H a [.ref p, .ref r]) (h1 : SqL K H p (xs.map V.int)) (h2 : SqL K H r (ys.map V.int)) (t1 : Tm xs) (t2 : Tm ys) (q : Q (.str (dII xs ys).shown) H) : rRepr K [.ref a] H Q := by
  refine rep (.lst h (.cons (dp_ints h1) (.cons (dp_ints h2) .nil))) ?_ ?_ ?_ q
  · rw [tame, tameAll, tameAll, tameAll, tm_tame t1, tm_tame t2]; rfl
  · rw [PyData.depth, PyData.depthAll, PyData.depthAll, PyData.depthAll, dInts_depth, dInts_depth]; decide
  · have := tm_bulk t1
    have := tm_bulk t2
    rw [PyData.bulk, PyData.bulkAll, PyData.bulkAll, PyData.bulkAll]; omega
theorem tm_of {ns : List Int} {B : Int} (hB : B < 2 ^ 200) (h : ∀ x ∈ ns, 0 ≤ x ∧ x ≤ B) (hl : ns.length ≤ 5000) : Tm ns := ⟨fun x hx => by have := h x hx; omega, hl⟩
end
end HS
/-! Own classes: a field, a stored field, a method, a property, a new object, from the head. -/
namespace HS
open PySem PySem.Spec PyProof.Rows L2
section
variable {σ : L2.St} {H : Hp} {Q : VK} {ta tv : TE} {t : TA} {K : PySem.W.Frag} {f : Str} {n bk ct : L2.St → Hp → Prop} {rt : VK} {C : Addr} {sp : Sp} {dvs : List V} {E : XK}
theorem ofld (h : ta σ H fun x H1 => ∃ a C dx fs v, x = .ref a ∧ H1 a = some (.ins C dx fs) ∧ Cls K C ∧ NoAttr K C f ∧ fs.lookup f = some v ∧ Q v H1) : tFld K ta f σ H Q := h
theorem osfl (h : tv σ H fun y H1 => ta σ H1 fun x H2 => ∃ a C dx fs, x = .ref a ∧ H2 a = some (.ins C dx fs) ∧ Cls K C ∧ NoAttr K C f ∧ fs.length < 1000 ∧ n σ (upd H2 a (.ins C dx (putF f y fs)))) : sFld K ta tv f ⟨n, rt, bk, ct⟩ σ H := h
theorem omet (h : ta σ H fun x H1 => ∃ a dx fs, x = .ref a ∧ H1 a = some (.ins C dx fs) ∧ fs.lookup f = none ∧ t σ H1 fun vs H2 => sp (x :: (vs ++ dvs)) H2 Q E) : tMeth C f sp dvs E ta t σ H Q := h
theorem opro (h : ta σ H fun x H1 => ∃ a dx fs, x = .ref a ∧ H1 a = some (.ins C dx fs) ∧ sp (.ref a :: dvs) H1 Q E) : tProp C sp dvs E ta σ H Q := h
theorem omak (h : t σ H fun vs H1 => ∀ x dx, H1 x = none → H1 dx = none → dx ≠ x → sp (.ref x :: (vs ++ dvs)) (upd (upd H1 dx (.own x)) x (.ins C dx [])) (fun v H2 => v = .non ∧ Q (.ref x) H2) E) : tMake C sp dvs E t σ H Q := h
end
end HS
/-! An exception that is kept behind its suite; methods and classes called where an exception may come. -/
namespace HS
open PySem PySem.Spec PyProof.Rows L2
/-- at a: an exception of this class that was caught -/
def exh (a : Addr) (cls : Value) (d : Option Addr) : HO := .ext fun h => ∃ (oe : Obj) (vs : Array Value), h.get? a = some oe ∧ oe.cls = cls ∧ oe.dict = d ∧ oe.data = .fields vs
theorem exh_ok {P : Program} {w : World} {H : Hp} {h : Heap} {a : Addr} {cls : Value} {d : Option Addr} {oe : Obj} {vs : Array Value} (e : h.get? a = some oe) (z : Zc cls d oe) (f : oe.data = .fields vs) : ObjOk P w H h a (exh a cls d) :=
  ⟨⟨oe, vs, e, z.1, z.2, f⟩, ⟨oe, e⟩, fun _ _ ⟨o, v, q, r⟩ k => ⟨o, v, k o q, r⟩⟩
/-- a caught exception that stands in the heap, with its fields -/
def Exh (H : Hp) (a C : Addr) (fs : List (Str × V)) : Prop := ∃ d, H a = some (exh a (.ref C) (some d)) ∧ H d = some (.xd fs)
theorem Exh.keep {S : Addr → Prop} {H H' : Hp} {a C : Addr} {fs : List (Str × V)} (h : Exh H a C fs) (k : Keep S H H') (ha : ¬ S a) (hd : ∀ d, H d = some (.xd fs) → ¬ S d) : Exh H' a C fs := by
  obtain ⟨d, e1, e2⟩ := h
  exact ⟨d, k _ _ e1 ha, k _ _ e2 (hd d e2)⟩
theorem Exh.same {H H' : Hp} {a C : Addr} {fs : List (Str × V)} (h : Exh H a C fs) (k : Keep (fun _ => False) H H') : Exh H' a C fs := h.keep k id fun _ _ => id
theorem Exh.new {H : Hp} {a C p : Addr} {fs : List (Str × V)} {o : HO} (h : Exh H a C fs) (hp : H p = none) : Exh (upd H p o) a C fs := h.same (Keep.new hp)
/-- an object that stands in the state, made behind the entry, is tracked from now on -/
theorem track {X : Cx} {pins : List (Addr × Obj)} {σ : L2.St} {H : Hp} {s : Shared} {a : Addr} {o : HO} (I : Inv X pins σ H s) (na : H a = none) (n0 : X.s_0.heap.get? a = none) (nL : a ≠ X.env.locals)
    (nC : ∀ x c, X.env.cells.lookup x = some c → c ≠ a) (nP : ∀ p ∈ X.pn ++ pins, p.1 ≠ a) (new : ObjOk X.prog X.w (upd H a o) s.heap a o) : Inv X pins σ (upd H a o) s := by
  refine ⟨I.ok, I.os, I.bare, ⟨I.base.keep, I.base.slot, fun b u e n hx => ?_, I.base.there, fun b xs e => ?_, fun b u xs e => ?_, fun b ps e => ?_⟩, I.loc, I.cell, ?_, fun x c e => ?_, fun p hp => ?_, fun b u e => ?_, I.len⟩
  · rw [upd_ne (fun z => by rw [z, n0] at e; cases e)]; exact I.base.free b u e n hx
  · have q := I.base.tups b xs e; rw [upd_ne (ne_of_none q na)]; exact q
  · have q := I.base.frzs b u xs e; rw [upd_ne (ne_of_none q na)]; exact q
  · obtain ⟨m, q⟩ := I.base.tbls b ps e; exact ⟨m, by rw [upd_ne (ne_of_none q na)]; exact q⟩
  · rw [upd_ne (Ne.symm nL)]; exact I.free
  · rw [upd_ne (nC x c e)]; exact I.freeC x c e
  · obtain ⟨e, n, r⟩ := I.pin p hp; exact ⟨e, by rw [upd_ne (nP p hp)]; exact n, r⟩
  · by_cases hb : b = a
    · subst hb; rw [upd_same] at e; cases e; exact new
    · rw [upd_ne hb] at e
      exact (I.hok b u e).stay (fun c v _ q => q) (fun c q => by rw [upd_ne (ne_of_none q na)]; exact q) fun c xs q => by rw [upd_ne (ne_of_none q na)]; exact q
theorem unsuite1 {X : Cx} {pins pn' : List (Addr × Obj)} {σ : L2.St} {H : Hp} {s : Shared} {a : Addr} {q : Addr × Obj} (I : Inv (X.suite a (q :: (X.pn ++ pins))) pn' σ H s) (ok : X.Ok) : Inv X (q :: pins) σ H s :=
  ⟨ok, I.os, I.bare, I.base, I.loc, I.cell, I.free, I.freeC, fun p hp => I.pin p (List.mem_append_left _ (by
    rcases List.mem_append.mp hp with h | h
    · exact List.mem_cons_of_mem _ (List.mem_append_left _ h)
    · rcases List.mem_cons.mp h with e | h
      · rw [e]; exact List.mem_cons_self
      · exact List.mem_cons_of_mem _ (List.mem_append_right _ h))), I.hok, I.len⟩
/-- what the clause wishes of an exception of the body: behind the suite's end the exception stands in the heap -/
def wKeep (K : PySem.W.Frag) (c : Value) (i : Nat) (ts : Addr → Value → Option Addr → TS) (Wout : WX) (D : Ends) : WX := fun cls d σ H =>
  ∃ b, PySem.W.exmOne K cls c = some b ∧ (b = true → ∀ a, H a = none → ts a cls d { nx := fun σ' H' => H' a = none → D.nx (σ'.set i none) (upd H' a (exh a cls d)), rt := D.rt, bk := fun σ' H' => D.bk (σ'.set i none) H', ct := fun σ' H' => D.ct (σ'.set i none) H' } (σ.set i (some (.ref a))) H) ∧
    (b = false → Wout cls d σ H)
section
variable {X : Cx} {x n : Str} {c : Value} {i : Nat} {body suite : List Stmt} {b₀ : Stmt} {np pos pos' : Pos} {tb : WX → TS} {ts : Addr → Value → Option Addr → TS} {Wout : WX}
theorem ps_try_keep (hs : X.stack = X.env :: X.outer) (hf : X.env.frame = some X.env.locals) (hN : X.N.Nodup) (hi : X.N[i]? = some n) (hln : X.env.kindOf n = some .local) (hc : Names X x c) (tk : Takes X Wout)
    (hb : ∀ (W : WX) (pn : List (Addr × Obj)) (xe : Value → Shared → Prop), Takes (X.tr pn xe) W → PassesOwn (model X.prog X.w) X.A X.env xe → PSs (X.tr pn xe) body (tb W))
    (hsu : ∀ (a : Addr) (oe : Obj) (cls : Value) (d : Option Addr) (pn : List (Addr × Obj)), Zc cls d oe → (∃ vs, oe.data = .fields vs) → PSs (X.suite a ((a, oe) :: pn)) (b₀ :: suite) (ts a cls d))
    (hex : X.ex = [] := by rfl) :
    PS X (.Try body [.ExceptHandler (some (.Name x np)) (some n) (b₀ :: suite) pos'] [] [] pos) (fun D σ H => tb (wKeep X.K c i ts Wout D) D σ H) := by
  refine ⟨fun pins s σ H D I hw => ?_⟩
  have ok := I.ok
  have fr0 : X.A.frames = some (X.env :: X.outer) := by rw [ok.frames, hs]
  have loc0 : Loc X.env.scope n := .inl hln
  refine wpAny_Try_except ?_
  refine wpAny_mono ((hb (wKeep X.K c i ts Wout D) (X.pn ++ pins) (fun e s₁ => wpAny (model X.prog X.w) X.A (noteFrame e X.env) (fun _ s₂ => wpAny (model X.prog X.w) X.A (setFlight e none) (fun _ s₃ =>
    wpAny (model X.prog X.w) X.A (handleBy e X.env [.ExceptHandler (some (.Name x np)) (some n) (b₀ :: suite) pos']) (SP X pins D) X.xe s₃) X.xe s₂) X.xe s₁) (fun u s' xx => ?_) PassesOwn.looking).run [] s σ H D (I.toTry _) hw) (fun f s1 hsp => ?_) (fun e s1 he => he)
  · obtain ⟨a, B, sI, pins', σ', H', cls, d, rfl, J', nb, up, sky, na, os, ag, b, hb1, hyes, hno⟩ := xx
    have J : Inv X pins σ' H' sI := J'.ofTry ok
    have sky' : Sky B (X.env :: X.outer) a (Zc cls d) X.env.locals s'.heap := by rw [← hs]; exact sky
    show wpAny (model X.prog X.w) X.A (noteFrame (.ref a) X.env) _ _ _
    refine Sky.land Zc.steady fr0 hf sky' fun h3 fl3 up3 => ?_
    have J3 : Inv X pins σ' H' { s' with heap := h3 } := J.landed nb fl3.1 (up.trans up3) os ag
    obtain ⟨oe3, vs3, he3, hz3, hd3⟩ := fl3.there
    have nfr : a ∉ frs (X.env :: X.outer) := fun hm => by
      obtain ⟨_, o', e', hnf⟩ := fl3.2.2.1.mem hm
      rw [he3] at e'; cases e'
      exact hnf _ hd3
    have nL : a ≠ X.env.locals := fun z => nfr (List.mem_filterMap.mpr ⟨X.env, List.mem_cons_self, by rw [hf, z]⟩)
    have nF : a ∉ X.fs := fun hm => by
      obtain ⟨e, he, q⟩ := List.mem_filterMap.mp hm
      exact nfr (List.mem_filterMap.mpr ⟨e, List.mem_cons_of_mem _ he, q⟩)
    have nI : sI.heap.get? a = none := by
      cases q : sI.heap.get? a with
      | none => rfl
      | some o =>
        have z := nb a o q (by rw [hs]; exact nfr)
        rw [fl3.2.1] at z; cases z
    have n0 : X.s_0.heap.get? a = none := by
      cases q : X.s_0.heap.get? a with
      | none => rfl
      | some o =>
        obtain ⟨o', z⟩ := J.base.there a o q (by rw [hex]; exact fun z => nomatch z)
        rw [nI] at z; cases z
    have S3 := J3.suite he3 hd3 na nL nF
    refine wpAny_handleBy_cons (codeAny_handlers_test ?_) (by intro q; cases q)
    have LT : PySem.W.Looks (model X.prog X.w) h3 (typeOf (.ref a)) cls := fun A Q E s k q => wpAny_typeOf_ref (k _ _ he3) (by rw [hz3.1]; exact q)
    have LM := PySem.W.exm_one (M := model X.prog X.w) (J3.kIn) LT hb1
    have test : ∀ {Q : Value → Shared → Prop} {E : Value → Shared → Prop}, Q c { s' with heap := h3 } → wpAny (model X.prog X.w) (X.A.mark (some (.ref a))) (eval (.Name x np) X.env) Q E { s' with heap := h3 } := fun {Q E} q => by
      obtain ⟨hg, hdbg, hm | ⟨hm, hv, hnn⟩⟩ := hc
      · exact ld_glob (X := X.suite a ((a, oe3) :: (X.pn ++ pins))) S3 hg hm q hdbg
      · exact ld_blt (X := X.suite a ((a, oe3) :: (X.pn ++ pins))) S3 hg hm hv q hnn hdbg
    refine test (LM.here ?_)
    cases b with
    | true =>
      refine codeAny_handlers_suite_as ?_
      refine HandSPX.lands_againZ fl3 fun h4 fl4 up4 => ?_
      have J4 : Inv X pins σ' H' { s' with heap := h4 } := J.landed nb fl4.1 ((up.trans up3).trans up4) os ag
      obtain ⟨oe4, vs4, he4, hz4, hd4⟩ := fl4.there
      have S4 := J4.suite he4 hd4 na nL nF
      refine store_ok (X := X.suite a ((a, oe4) :: (X.pn ++ pins))) (v := .ref a) S4 hN hi loc0 rfl (fun s5 S5 => ?_) (.inr hln)
      refine wpAny_mono ((hsu a oe4 cls d (X.pn ++ pins) hz4 ⟨_, hd4⟩).run [] s5 _ H' _ S5 (hyes rfl a na)) (fun f s6 hsp => ?_) (fun _ _ z => False.elim z)
      have fin : ∀ {σ6 : L2.St} {H6 : Hp} {Q : Shared → Prop}, Inv (X.suite a ((a, oe4) :: (X.pn ++ pins))) [] σ6 H6 s6 → (∀ s7, Inv X ((a, oe4) :: pins) (σ6.set i none) H6 s7 → Q s7) →
          wpAny (model X.prog X.w) X.A (do bindName X.env n .none; unbindBehindTheSuite X.env n pos') (fun _ s7 => Q s7) X.xe s6 := fun {σ6 H6 Q} S6 hq => gone_ok (unsuite1 S6 ok) hN hi hln hq
      have less : ∀ {σ7 : L2.St} {H7 : Hp} {s7 : Shared}, Inv X ((a, oe4) :: pins) σ7 H7 s7 → Inv X pins σ7 H7 s7 := fun J7 => ⟨J7.ok, J7.os, J7.bare, J7.base, J7.loc, J7.cell, J7.free, J7.freeC, fun p hp => J7.pin p (by
        rcases List.mem_append.mp hp with h | h
        · exact List.mem_append_left _ h
        · exact List.mem_append_right _ (List.mem_cons_of_mem _ h)), J7.hok, J7.len⟩
      cases f with
      | next =>
        obtain ⟨σ6, H6, S6, q6⟩ := hsp
        refine fin S6 fun s7 J7 => ?_
        obtain ⟨g1, g2, _⟩ := J7.pin (a, oe4) (List.mem_append_right _ List.mem_cons_self)
        refine ⟨_, _, track (less J7) g2 n0 nL (fun x c e z => ?_) (fun p hp z => ?_) (exh_ok g1 hz4 hd4), q6 g2⟩
        · obtain ⟨v, o, ho, hd⟩ := J7.cell x c e
          rw [z, g1] at ho; cases ho
          rw [hd4] at hd; cases hd
        · have P1 := (J.pin p hp).1
          rw [z, nI] at P1; cases P1
      | brk =>
        obtain ⟨σ6, H6, S6, q6⟩ := hsp
        exact fin S6 fun s7 J7 => ⟨_, _, less J7, q6⟩
      | cont =>
        obtain ⟨σ6, H6, S6, q6⟩ := hsp
        exact fin S6 fun s7 J7 => ⟨_, _, less J7, q6⟩
      | ret u =>
        obtain ⟨v6, σ6, H6, S6, r6, q6⟩ := hsp
        exact fin S6 fun s7 J7 => ⟨_, _, _, less J7, r6, q6⟩
    | false =>
      show wpAny _ X.A (handleBy (.ref a) X.env []) _ _ _
      refine wpAny_handleBy_nil ?_
      obtain ⟨k1, k2, k3, oe, vs, T, oT, ts', he, hz, hd, h1, hr⟩ := id fl3
      unfold PySem.passOn
      refine wpAny_bind (wpAny_field he hd h1 ?_)
      rw [if_neg (show ¬ ((Value.ref T == Value.none) = true) from by simp)]
      have gone : wpAny (model X.prog X.w) X.A (setFlight (.ref a) X.env.frame) (fun _ s4 => wpAny (model X.prog X.w) X.A (throw (.ref a) : Sem Flow) (SP X pins D) X.xe s4) X.xe { s' with heap := h3 } := by
        rw [hf]
        refine HandSPX.setFlight_upZ fl3 fun h4 hh4 up4 => wpAny_throw (tk _ _ ?_)
        exact ⟨a, B, sI, pins, σ', H', cls, d, rfl, J, nb, (up.trans up3).trans up4, .inr (.inr (by rw [hs]; exact hh4)), na, os, ag, hno rfl⟩
      first
        | exact wpAny_bind (wpAny_pure (wpAny_bind gone))
        | exact wpAny_bind gone
  · cases f with
    | next =>
      obtain ⟨σ', H', J', q⟩ := hsp
      exact wpAny_execs_nil ⟨σ', H', J'.ofTry ok, q⟩
    | brk =>
      obtain ⟨σ', H', J', q⟩ := hsp
      exact ⟨σ', H', J'.ofTry ok, q⟩
    | cont =>
      obtain ⟨σ', H', J', q⟩ := hsp
      exact ⟨σ', H', J'.ofTry ok, q⟩
    | ret u =>
      obtain ⟨v, σ', H', J', r, q⟩ := hsp
      exact ⟨v, σ', H', J'.ofTry ok, r, q⟩
end
/-! ### asked and read -/
theorem exh_at {X : Cx} {pins : List (Addr × Obj)} {σ : L2.St} {H : Hp} {s : Shared} {a D : Addr} {fs : List (Str × V)} (I : Inv X pins σ H s) (h : Exh H a D fs) :
    ∃ (oe : Obj) (od : Obj) (d : Addr) (mA : Str → Option Value), PySem.W.InstAt s.heap a oe D (some od) ∧ s.heap.Ns1 d mA ∧ (∀ f, RelO (fs.lookup f) (mA f)) := by
  obtain ⟨d, ea, ed⟩ := h
  have x1 : ObjOk X.prog X.w H s.heap a (.ext fun h => ∃ (oe : Obj) (vs : Array Value), h.get? a = some oe ∧ oe.cls = .ref D ∧ oe.dict = some d ∧ oe.data = .fields vs) := I.hok a _ ea
  obtain ⟨oe, vs, ho, hc, hdd, hv⟩ := x1.1
  have x2 : ObjOk X.prog X.w H s.heap d (.xd fs) := I.hok d _ ed
  obtain ⟨mA, hns, hr⟩ := x2
  obtain ⟨od, hod, _⟩ := lookIn_ns hns
  exact ⟨oe, od, d, mA, ⟨ho, hc, by unfold PySem.W.notCls; rw [hv] <;> rfl, by rw [hdd]; exact hod⟩, hns, hr⟩
def rIsX (K : PySem.W.Frag) : List V → Hp → VK → Prop := fun xs H Q => ∃ (a D : Addr) (fs : List (Str × V)) (c : V) (cv : Value) (b : Bool), xs = [.ref a, c] ∧ ExcC K D ∧ Exh H a D fs ∧ ClsV c cv ∧ PySem.W.kitOne K (.ref D) cv = some b ∧ Q (.bl b) H
theorem call_isX {X : Cx} : CallR X (.builtin "isinstance") (rIsX X.K) := by
  intro pins s σ H xs us Q I r hw
  obtain ⟨a, D, fs, c, cv, b, e0, T, hE, hcv, hb, q⟩ := hw
  subst e0
  match us, r with
  | [_, _], .cons rx (.cons rt .nil) =>
    cases rx
    have e1 := hcv.eq rt
    subst e1
    obtain ⟨oe, od, d, mA, here, _⟩ := exh_at I hE
    obtain ⟨cd, hcd, _⟩ := PySem.W.any_some T.hd
    exact PySem.W.kia_one (PySem.W.kitx_exc (by rw [hcd]; rfl) T.hg T.hk T.hs T.ha T.hn T.ht T.hm) I.kIn here hb (fun z => nomatch z) fun tk => ⟨.bl b, H, I.kept (t' := tk) fun _ _ z => z, rfl, q⟩
theorem kisX {X : Cx} (K : PySem.W.Frag) (h : X.K = K := by rfl) : CallR X (.builtin "isinstance") (rIsX K) := h ▸ call_isX
def tFldX (K : PySem.W.Frag) (f : Str) (te : TE) : TE := fun σ H Q => te σ H fun x H1 => ∃ (a C : Addr) (fs : List (Str × V)) (v : V), x = .ref a ∧ XfC K C ∧ PySem.W.findIn K (.ref C) f = some none ∧ Exh H1 a C fs ∧ fs.lookup f = some v ∧ Q v H1
theorem pe_fldX {X : Cx} {e : Expr} {te : TE} {pos : Pos} {f : Str} (he : PE X e te) (hb : attributeBase e f X.env (eval e X.env) = eval e X.env := by rfl) : PE X (.Attribute e f pos) (tFldX X.K f te) := by
  refine ⟨fun pins s σ H Q I hw => attr_of hb (thn (he.run pins s σ H _ I hw) fun u s1 ⟨x, H1, I1, rx, a, C, fs, v, e0, T, hno, ⟨d, ea, ed⟩, l, q⟩ => ?_)⟩
  subst e0
  cases rx
  have x1 : ObjOk X.prog X.w H1 s1.heap a (.ext fun h => ∃ (oe : Obj) (vs : Array Value), h.get? a = some oe ∧ oe.cls = .ref C ∧ oe.dict = some d ∧ oe.data = .fields vs) := I1.hok a _ ea
  obtain ⟨oe, vs, ho, hc, hdd, hv⟩ := x1.1
  have x2 : ObjOk X.prog X.w H1 s1.heap d (.xd fs) := I1.hok d _ ed
  obtain ⟨mA, hns, hr⟩ := x2
  obtain ⟨od, hod, hl⟩ := lookIn_ns hns
  obtain ⟨w, hw, rw'⟩ := RelO.some_of (v := v) (o := mA f) (by rw [← l]; exact hr f)
  have here : PySem.W.InstAt s1.heap a oe C (some od) := ⟨ho, hc, by unfold PySem.W.notCls; rw [hv] <;> rfl, by rw [hdd]; exact hod⟩
  exact HandSPX.exc_get I1.kIn here T.ga T.gg T.exC (PySem.W.findObj_own T.hdC hno rfl (by rw [hl, hw])) (handed_of rw') ⟨v, H1, I1.tok _, rw', q⟩
section
variable {K : PySem.W.Frag} {σ : L2.St} {H : Hp} {Q : VK} {a D C : Addr} {fs : List (Str × V)} {b : Bool} {te : TE} {f : Str}
theorem isX (T : ExcC K D) (he : Exh H a D fs) (hq : PySem.W.kitOne K (.ref D) (.ref C) = some b) (q : Q (.bl b) H) : rIsX K [.ref a, .ref C] H Q := ⟨a, D, fs, _, _, b, rfl, T, he, .own C, hq, q⟩
theorem isXt {n : String} (T : ExcC K D) (he : Exh H a D fs) (hq : PySem.W.kitOne K (.ref D) (.type n) = some b) (q : Q (.bl b) H) : rIsX K [.ref a, .ty n] H Q := ⟨a, D, fs, _, _, b, rfl, T, he, .ty n, hq, q⟩
theorem fldX (h : te σ H fun x H1 => ∃ (a C : Addr) (fs : List (Str × V)) (v : V), x = .ref a ∧ XfC K C ∧ PySem.W.findIn K (.ref C) f = some none ∧ Exh H1 a C fs ∧ fs.lookup f = some v ∧ Q v H1) : tFldX K f te σ H Q := h
end
end HS
namespace HS
open PySem PySem.Spec PyProof.Rows L2
/-! ### methods and classes that may raise, called where the slots are known -/
def tMethS (C : Addr) (m : Str) (sp : Sp) (E : L2.St → XK) (ta : TE) (t : TA) : TE := fun σ H Q => ta σ H fun x H1 => ∃ a dx fs, x = .ref a ∧ H1 a = some (.ins C dx fs) ∧ fs.lookup m = none ∧ t σ H1 fun vs H2 => sp (x :: vs) H2 Q (E σ)
def tMethN (C : Addr) (m : Str) (n k : Nat) (gV : List V → List V → List V) (sp : Sp) (E : L2.St → XK) (ta : TE) (t tk : TA) : TE := fun σ H Q => ta σ H fun x H1 => ∃ a dx fs, x = .ref a ∧ H1 a = some (.ins C dx fs) ∧ fs.lookup m = none ∧ t σ H1 fun vs H2 => tk σ H2 fun zs H3 => (x :: vs).length = n ∧ zs.length = k ∧ sp (gV (x :: vs) zs) H3 Q (E σ)
def tMakeS (C : Addr) (sp : Sp) (E : L2.St → XK) (t : TA) : TE := fun σ H Q => t σ H fun vs H1 => ∀ x dx, H1 x = none → H1 dx = none → dx ≠ x → sp (.ref x :: vs) (upd (upd H1 dx (.own x)) x (.ins C dx [])) (fun v H2 => v = .non ∧ Q (.ref x) H2) (E σ)
def tMakeN (C : Addr) (n k : Nat) (gV : List V → List V → List V) (sp : Sp) (E : L2.St → XK) (t tk : TA) : TE := fun σ H Q => t σ H fun vs H1 => tk σ H1 fun zs H2 => ∀ x dx, H2 x = none → H2 dx = none → dx ≠ x → (V.ref x :: vs).length = n ∧ zs.length = k ∧ sp (gV (.ref x :: vs) zs) (upd (upd H2 dx (.own x)) x (.ins C dx [])) (fun v H3 => v = .non ∧ Q (.ref x) H3) (E σ)
section
variable {X : Cx} {CX : CXT} {k n : Nat} {f C : Addr} {fd : FuncData} {ps ks : List Str} {sp : Sp} {E : L2.St → XK} {E0 : XK} {x m : Str} {p pos apos : Pos} {e o : Expr} {es : List Expr} {kws : List Keyword} {ta : TE} {t tk : TA} {g : List Value → List Value → List Value} {gV : List V → List V → List V}
theorem passSt (h : Passes CX X E0) (σ : L2.St) : PassesAt CX X σ E0 := fun pins H s e s' I c => h pins σ H s e s' I c
theorem runK {pins : List (Addr × Obj)} {σ : L2.St} {H : Hp} {s : Shared} {Q : VK} {us ws : List Value} {vs zs : List V} (F : FnOk X.prog X.w X.K X.mg X.base CX k f fd ps sp) (hr : Room k X.A) (hb : KBX X.K fd ps n ks g gV) (hx : PassesAt CX X σ (E σ))
    (I : Inv X pins σ H s) (r : Vals vs us) (rz : Vals zs ws) (l1 : vs.length = n) (l2 : zs.length = ks.length) (h : sp (gV vs zs) H Q (E σ)) : wpAny (model X.prog X.w) X.A (call (.ref f) us (ks.zip ws)) (EP X pins σ Q) X.xe s := by
  have l3 : us.length = n := by rw [← r.length]; exact l1
  have l4 : ws.length = ks.length := by rw [← rz.length]; exact l2
  refine wpAny_call (codeAny_mono (F.run X.A X.stack s H ⟨us, ks.zip ws⟩ (g us ws) (gV vs zs) Q (E σ) hr I.env0 (hb.to s us ws l3 l4) (hb.rel r rz) h) fun r s' hq => ?_)
  match r, hq with
  | .error e, hq => exact hx pins H s e s' I hq
  | .ok (.ret u), hq => exact I.after hq
theorem pe_methS {pl : Sem Bool} (he : PE X o ta) (c : Cls X.K C) (hm : Meth X.K C m f) (F : FnOk X.prog X.w X.K X.mg X.base CX k f fd ps sp) (hr : Room k X.A) (hb : Binds X.K fd ps []) (hx : ∀ σ, PassesAt CX X σ (E σ)) (ha : PA X (e :: es) t)
    (hst : starEach (e :: es) X.env = (false, eval e X.env) :: starEach es X.env := by rfl) (hpl : (backTo pos (starEach es X.env)).any (·.1) = false := by rfl)
    (ht : eval (.Call (.Attribute o m apos) (e :: es) [] pos) X.env = (do
      let ov ← eval o X.env
      standAt apos.atName
      let (f, first) ← holding [ov] (getMethod ov m pl)
      callWith pos f first (backTo pos (starEach (e :: es) X.env)) (backToKw pos (keywordEach [] X.env))) := by rfl) :
    PE X (.Call (.Attribute o m apos) (e :: es) [] pos) (tMethS C m sp E ta t) := by
  refine ⟨fun pins s σ H Q I hw => ?_⟩
  refine PySem.W.methodCall_KW (pl := pl) (thn (he.run pins s σ H _ I hw) fun u s1 ⟨x, H1, I1, rx, a, dx, fs, ex, ea, l, q⟩ => ?_) ht
  subst ex
  cases rx
  refine getmeth_ok I1 ea c hm l ?_
  refine PySem.W.callWith_K (first := [.ref a]) (h₀ := X.base) I.ok.mod.kin hm.kp (thn (ha.run pos pins s1 σ H1 _ I1 q) fun us s2 ⟨vs, H2, I2, r, q2⟩ => ⟨I2.kIn, ?_⟩) hst hpl
  exact run_fnS (us := .ref a :: us) (vs := .ref a :: vs) F hr hb (hx σ) I2 (.cons rfl r) q2
theorem pe_methS0 {pl : Sem Bool} (he : PE X o ta) (c : Cls X.K C) (hm : Meth X.K C m f) (F : FnOk X.prog X.w X.K X.mg X.base CX k f fd ps sp) (hr : Room k X.A) (hb : Binds X.K fd ps []) (hx : ∀ σ, PassesAt CX X σ (E σ))
    (ht : eval (.Call (.Attribute o m apos) [] [] pos) X.env = (do
      let ov ← eval o X.env
      standAt apos.atName
      let (f, first) ← holding [ov] (getMethod ov m pl)
      callWith pos f first (backTo pos (starEach [] X.env)) (backToKw pos (keywordEach [] X.env))) := by rfl) :
    PE X (.Call (.Attribute o m apos) [] [] pos) (tMethS C m sp E ta tNil) := by
  refine ⟨fun pins s σ H Q I hw => ?_⟩
  refine PySem.W.methodCall_KW (pl := pl) (thn (he.run pins s σ H _ I hw) fun u s1 ⟨x, H1, I1, rx, a, dx, fs, ex, ea, l, q⟩ => ?_) ht
  subst ex
  cases rx
  refine getmeth_ok I1 ea c hm l ?_
  exact PySem.W.callWith_K0 (first := [.ref a]) I1.kIn hm.kp (run_fnS (us := [.ref a]) (vs := [.ref a]) F hr hb (hx σ) I1 (.cons rfl .nil) q)
/-- o.m(k = v, ..) -/
theorem pe_methN0 {pl : Sem Bool} (he : PE X o ta) (c : Cls X.K C) (hm : Meth X.K C m f) (F : FnOk X.prog X.w X.K X.mg X.base CX k f fd ps sp) (hr : Room k X.A) (hb : KBX X.K fd ps n ks g gV) (hx : ∀ σ, PassesAt CX X σ (E σ)) (hkw : PK X kws tk)
    (h0 : (backToKw pos (keywordEach kws X.env)).all (·.1.isSome) = true := by rfl) (hks : (backToKw pos (keywordEach kws X.env)).filterMap (·.1) = ks := by rfl)
    (h3 : ((backTo pos (starEach [] X.env)).any (·.1) || (backToKw pos (keywordEach kws X.env)).any (·.1.isNone)) = false := by rfl)
    (ht : eval (.Call (.Attribute o m apos) [] kws pos) X.env = (do
      let ov ← eval o X.env
      standAt apos.atName
      let (f, first) ← holding [ov] (getMethod ov m pl)
      callWith pos f first (backTo pos (starEach [] X.env)) (backToKw pos (keywordEach kws X.env))) := by rfl) :
    PE X (.Call (.Attribute o m apos) [] kws pos) (tMethN C m n ks.length gV sp E ta tNil tk) := by
  refine ⟨fun pins s σ H Q I hw => ?_⟩
  refine PySem.W.methodCall_KW (pl := pl) (thn (he.run pins s σ H _ I hw) fun u s1 ⟨x, H1, I1, rx, a, dx, fs, ex, ea, l, q⟩ => ?_) ht
  subst ex
  cases rx
  refine getmeth_ok I1 ea c hm l ?_
  refine PySem.W.callWith_KW0 (first := [.ref a]) (h₀ := X.base) I.ok.mod.kin hm.kp h0 (thn (hkw.run pos pins s1 σ H1 _ I1 q) fun ws s2 ⟨zs, H2, I2, rz, l1, l2, y2⟩ => ⟨I2.kIn, ?_⟩) h3
  rw [hks]
  exact runK (us := [.ref a]) (vs := [.ref a]) F hr hb (hx σ) I2 (.cons rfl .nil) rz l1 l2 y2
/-- a new instance whose maker may raise -/
theorem runMk {pins : List (Addr × Obj)} {σ : L2.St} {H : Hp} {s : Shared} {Q : VK} {us ws : List Value} (M : Mk X.K C f) (F : FnOk X.prog X.w X.K X.mg X.base CX k f fd ps sp) (hr : Room (k + 1) X.A)
    (hx : PassesAt CX X σ (E σ)) (I : Inv X pins σ H s) {args : List V} {as' : List Value} (ra : ∀ x, Vals (.ref x :: args) (.ref x :: as')) (hbt : ∀ s', X.K.In s'.heap → BindsTo s' fd ⟨Value.ref (s.heap.objs.size + 1) :: us, ks.zip ws⟩ (ps.zip (Value.ref (s.heap.objs.size + 1) :: as')))
    (h : ∀ x dx, H x = none → H dx = none → dx ≠ x → sp (.ref x :: args) (upd (upd H dx (.own x)) x (.ins C dx [])) (fun v H2 => v = .non ∧ Q (.ref x) H2) (E σ)) :
    wpAny (model X.prog X.w) X.A (call (.ref C) us (ks.zip ws)) (EP X pins σ Q) X.xe s := by
  have hq := h (s.heap.objs.size + 1) s.heap.objs.size (I.hok.fresh (Nat.le_succ _)) (I.hok.fresh (Nat.le_refl _)) (Nat.ne_of_lt (Nat.lt_succ_self _))
  have I2 := Inv.made (C := C) I
  refine wpAny_call (make_map (f := f) I.kIn M.makes M.init (beq_iff_eq.mp M.fn) (codeAny_mono (F.run _ X.stack _ _ ⟨Value.ref (s.heap.objs.size + 1) :: us, ks.zip ws⟩ (Value.ref (s.heap.objs.size + 1) :: as') _ _ (E σ) (hr.make C us (ks.zip ws))
    (I2.env0.make C us (ks.zip ws)) (hbt _ I2.kIn) (ra _) hq) fun r s' hq' => ?_))
  match r, hq' with
  | .error e, hq' => exact hx pins _ _ e s' I2 hq'
  | .ok (.ret u), hq' =>
    obtain ⟨v, H', I3, rv, ev, q3⟩ := I2.after hq'
    subst ev
    exact ⟨rv, ⟨V.ref (s.heap.objs.size + 1), H', I3, rfl, q3⟩⟩
theorem pe_makeS (M : Mk X.K C f) (F : FnOk X.prog X.w X.K X.mg X.base CX k f fd ps sp) (hr : Room (k + 1) X.A) (hg : Gl X x) (hm : X.mg x = some (.ref C)) (hb : Binds X.K fd ps []) (hx : ∀ σ, PassesAt CX X σ (E σ))
    (ha : PA X (e :: es) t) (hdb : (x == ("__debug__" : Str)) = false := by decide) (he : starEach (e :: es) X.env = (false, eval e X.env) :: starEach es X.env := by rfl) (hpl : (backTo pos (starEach es X.env)).any (·.1) = false := by rfl) :
    PE X (.Call (.Name x p) (e :: es) [] pos) (tMakeS C sp E t) := by
  refine ⟨fun pins s σ H Q I hw => ?_⟩
  refine wpAny_Call_Name_kw (ld_glob I hg hm ?_ hdb)
  refine PySem.W.callWith_K (h₀ := X.base) I.ok.mod.kin M.kp (thn (ha.run pos pins s σ H _ I hw) fun us s1 ⟨vs, H1, I1, r, q⟩ => ⟨I1.kIn, ?_⟩) he hpl
  have q0 := q (s1.heap.objs.size + 1) s1.heap.objs.size (I1.hok.fresh (Nat.le_succ _)) (I1.hok.fresh (Nat.le_refl _)) (Nat.ne_of_lt (Nat.lt_succ_self _))
  have hl : (Value.ref (s1.heap.objs.size + 1) :: us).length = ps.length := by
    have r2 : Vals (V.ref (s1.heap.objs.size + 1) :: vs) (Value.ref (s1.heap.objs.size + 1) :: us) := .cons rfl r
    rw [← r2.length]; exact F.len _ _ _ _ q0
  refine runMk (us := us) (ks := []) (ws := []) M F hr (hx σ) I1 (fun x => .cons rfl r) (fun s' k' => ?_) q
  have b := hb s' (Value.ref (s1.heap.objs.size + 1) :: us) k' (by rw [List.append_nil]; exact hl)
  rw [List.append_nil] at b
  exact b
/-- C(k = v, ..) -/
theorem pe_makeN0 (M : Mk X.K C f) (F : FnOk X.prog X.w X.K X.mg X.base CX k f fd ps sp) (hr : Room (k + 1) X.A) (hg : Gl X x) (hm : X.mg x = some (.ref C)) (hb : KBX X.K fd ps n ks g gV) (hx : ∀ σ, PassesAt CX X σ (E σ)) (hkw : PK X kws tk) (hg1 : ∀ (a : Value) (ws : List Value), ∃ as', g [a] ws = a :: as' ∧ ∀ b, g [b] ws = b :: as')
    (hg2 : ∀ (a : V) (zs : List V), ∃ as', gV [a] zs = a :: as' ∧ ∀ b, gV [b] zs = b :: as')
    (h0 : (backToKw pos (keywordEach kws X.env)).all (·.1.isSome) = true := by rfl) (hks : (backToKw pos (keywordEach kws X.env)).filterMap (·.1) = ks := by rfl)
    (hdb : (x == ("__debug__" : Str)) = false := by decide) (h3 : ((backTo pos (starEach [] X.env)).any (·.1) || (backToKw pos (keywordEach kws X.env)).any (·.1.isNone)) = false := by rfl) :
    PE X (.Call (.Name x p) [] kws pos) (tMakeN C n ks.length gV sp E tNil tk) := by
  refine ⟨fun pins s σ H Q I hw => ?_⟩
  refine wpAny_Call_Name_kw (ld_glob I hg hm ?_ hdb)
  refine PySem.W.callWith_KW0 (h₀ := X.base) I.ok.mod.kin M.kp h0 (thn (hkw.run pos pins s σ H _ I hw) fun ws s1 ⟨zs, H1, I1, rz, q⟩ => ⟨I1.kIn, ?_⟩) h3
  rw [hks]
  have q0 := q (s1.heap.objs.size + 1) s1.heap.objs.size (I1.hok.fresh (Nat.le_succ _)) (I1.hok.fresh (Nat.le_refl _)) (Nat.ne_of_lt (Nat.lt_succ_self _))
  obtain ⟨l1, l2, _⟩ := q0
  obtain ⟨as', e1, e2⟩ := hg1 (.ref (s1.heap.objs.size + 1)) ws
  obtain ⟨av, f1, f2⟩ := hg2 (.ref (s1.heap.objs.size + 1)) zs
  refine runMk (us := []) (ks := ks) (ws := ws) (args := av) (as' := as') M F hr (hx σ) I1 (fun x => ?_) (fun s' k' => ?_) (fun x dx n1 n2 n3 => ?_)
  · have r := hb.rel (vs := [.ref x]) (us := [.ref x]) (.cons rfl .nil) rz
    rw [f2, e2] at r
    exact r
  · have b := hb.to s' [Value.ref (s1.heap.objs.size + 1)] ws l1 (by rw [← rz.length]; exact l2)
    rw [e1] at b
    exact b
  · have q1 := (q x dx n1 n2 n3).2.2
    rw [f2] at q1
    exact q1
end
section
variable {σ : L2.St} {H : Hp} {Q : VK} {C : Addr} {m : Str} {n k : Nat} {gV : List V → List V → List V} {sp : Sp} {E : L2.St → XK} {ta : TE} {t tk : TA}
theorem omtS (h : ta σ H fun x H1 => ∃ a dx fs, x = .ref a ∧ H1 a = some (.ins C dx fs) ∧ fs.lookup m = none ∧ t σ H1 fun vs H2 => sp (x :: vs) H2 Q (E σ)) : tMethS C m sp E ta t σ H Q := h
theorem omtN (h : ta σ H fun x H1 => ∃ a dx fs, x = .ref a ∧ H1 a = some (.ins C dx fs) ∧ fs.lookup m = none ∧ t σ H1 fun vs H2 => tk σ H2 fun zs H3 => (x :: vs).length = n ∧ zs.length = k ∧ sp (gV (x :: vs) zs) H3 Q (E σ)) : tMethN C m n k gV sp E ta t tk σ H Q := h
theorem omkS (h : t σ H fun vs H1 => ∀ x dx, H1 x = none → H1 dx = none → dx ≠ x → sp (.ref x :: vs) (upd (upd H1 dx (.own x)) x (.ins C dx [])) (fun v H2 => v = .non ∧ Q (.ref x) H2) (E σ)) : tMakeS C sp E t σ H Q := h
theorem omkN (h : t σ H fun vs H1 => tk σ H1 fun zs H2 => ∀ x dx, H2 x = none → H2 dx = none → dx ≠ x → (V.ref x :: vs).length = n ∧ zs.length = k ∧ sp (gV (.ref x :: vs) zs) (upd (upd H2 dx (.own x)) x (.ins C dx [])) (fun v H3 => v = .non ∧ Q (.ref x) H3) (E σ)) : tMakeN C n k gV sp E t tk σ H Q := h
end
end HS
namespace HS
open PySem PySem.Spec PyProof.Rows L2
/-! ### xs.count(y) of plain data -/
def rCntD (K : PySem.W.Frag) : V → List V → Hp → VK → Prop := fun x xs H Q => ∃ (a : Addr) (y : V) (d : PyData) (ds : List PyData), x = V.ref a ∧ xs = [y] ∧ Dp K H (V.ref a) (.list ds) ∧ Dp K H y d ∧ SeqAt.shaped (.list ds) = true ∧ SeqAt.shaped d = true ∧ Q (.int (ds.countP fun z => PyData.eqv z d : Nat)) H
theorem mt_countD {X : Cx} (hu : X.A.units + 65 < cLine) : MtR X "list.count" (rCntD X.K) := by
  intro pins s σ H x xs v us Q I rx rxs h
  obtain ⟨a, y, d, ds, rfl, rfl, hl, hy, sl, sd, q⟩ := h
  cases rx
  match us, rxs with
  | [uy], .cons ry .nil =>
    obtain ⟨bs, r1⟩ := Dp.reads I d y uy hy ry
    have hxs : PyData.canLayAll0 ds = true := SeqAt.canLay_of_shaped sl
    have hroom : X.A.units + 1 + min (PyData.depthAll ds) d.depth < cLine := room_in_shaped sd hu
    match hl with
    | .lst hs ha =>
      obtain ⟨its, rv, ⟨⟨cls, dd, data, sls⟩, n, ho, hc, hdn, hdt⟩, hlen⟩ := I.list hs
      simp only at hc hdt
      subst hc hdt
      obtain ⟨as, h4⟩ := Dp.readsAll I ds _ its ha rv
      have hmap : its.map (SeqAt.readOf s.heap) = ds := SeqAt.readsAll_map ds its as hxs h4
      have ec : its.toArray.toList.countP (fun u => PyData.eqv (SeqAt.readOf s.heap u) d) = ds.countP fun z => PyData.eqv z d := by
        rw [← hmap, List.countP_map]; rfl
      refine call_meets PySem.F.slot_list_count ⟨_, ho, rfl⟩ PySem.F.entry_list_count (PySem.F.args_list_count_2 _ _)
        (SeqAt.list_countAt a its.toArray n dd sls uy (fun u => PyData.eqv (SeqAt.readOf s.heap u) d)) ⟨ho, SeqAt.items_eqAt (vs := its.toArray) (show ReadsAll s.heap its.toArray.toList ds as from h4) r1 hxs (SeqAt.canLay_of_shaped sd) hroom, ?_⟩
      refine ⟨.int (ds.countP fun z => PyData.eqv z d : Nat), H, I.tok _, ⟨s.toks, ?_⟩, q⟩
      show Value.int ((its.toArray.toList.countP (fun u => PyData.eqv (SeqAt.readOf s.heap u) d) : Nat) : Int) s.toks = Value.int ((ds.countP fun z => PyData.eqv z d : Nat) : Int) s.toks
      rw [ec]
end HS
namespace HS
open PySem PySem.Spec PyProof.Rows L2
theorem hu65 {A : PySem.Around} {k : Nat} (hr : L2.Room k A) : A.units + 65 < PySem.cLine := by have := hr.un; omega
section
variable {X : Cx} (K : PySem.W.Frag)
theorem kcountD (hu : X.A.units + 65 < cLine) (h : X.K = K := by rfl) : MtR X "list.count" (rCntD K) := h ▸ mt_countD hu
theorem kindexD (hu : X.A.units + 65 < cLine) (h : X.K = K := by rfl) : MtR X "list.index" (rIndexD K) := h ▸ mt_indexD hu
theorem kunl {tg : Expr} {n : Nat} {t : TGs} (p : PG X tg (gUnl X.K n t)) (h : X.K = K := by rfl) : PG X tg (gUnl K n t) := h ▸ p
end
section
variable {K : PySem.W.Frag} {σ : L2.St} {H : Hp} {Q : VK}
theorem gunl {n : Nat} {t : TGs} {a : Addr} {xs : List V} {q : L2.St → Hp → Prop} (h : SqL K H a xs) (e : xs.length = n) (k : t xs σ H q) : gUnl K n t (.ref a) σ H q := ⟨a, xs, rfl, h, e, k⟩
end
end HS
/-! What stands in a heap, told as one list: addresses that differ, each with what is known of its object. -/
namespace HS
open PySem PySem.Spec PyProof.Rows L2
abbrev WdL := List (Addr × (HO → Prop))
/-- H0: the heap at the entry; S: what may have changed there; l: what is known now -/
structure Wd (H0 H : Hp) (S : Addr → Prop) (l : WdL) : Prop where
  nd : (l.map (·.1)).Nodup
  at_ : ∀ x ∈ l, ∃ o, H x.1 = some o ∧ x.2 o
  kp : Keep S H0 H
  fr : ∀ x ∈ l, S x.1 ∨ H0 x.1 = none
section
variable {H0 H H' : Hp} {S : Addr → Prop} {l l' : WdL} {p q : Addr} {o : HO} {P P' : HO → Prop} {i j : Nat}
theorem Wd.nil : Wd H H S [] := ⟨.nil, fun _ h => absurd h List.not_mem_nil, .refl, fun _ h => absurd h List.not_mem_nil⟩
theorem nd_snoc {l : WdL} {P : HO → Prop} (nd : (l.map (·.1)).Nodup) (n : ∀ x ∈ l, x.1 ≠ p) : ((l ++ [(p, P)]).map (·.1)).Nodup := by
  rw [List.map_append, List.nodup_append]
  refine ⟨nd, List.nodup_cons.mpr ⟨List.not_mem_nil, .nil⟩, fun a ha b hb e => ?_⟩
  obtain ⟨x, hx, rfl⟩ := List.mem_map.mp ha
  have hb' : b = p := List.mem_singleton.mp hb
  exact n x hx (e.trans hb')
theorem mem_snoc {l : WdL} {x y : Addr × (HO → Prop)} (h : x ∈ l ++ [y]) : x ∈ l ∨ x = y := by
  rcases List.mem_append.mp h with h | h
  · exact .inl h
  · exact .inr (List.mem_singleton.mp h)
/-- what stood at the entry and may change -/
theorem Wd.old (W : Wd H0 H S l) (h : H p = some o) (hp : P o) (s : S p) (n : ∀ x ∈ l, x.1 ≠ p) : Wd H0 H S (l ++ [(p, P)]) := by
  refine ⟨nd_snoc W.nd n, fun x hx => ?_, W.kp, fun x hx => ?_⟩
  · rcases mem_snoc hx with hx | e
    · exact W.at_ x hx
    · subst e; exact ⟨o, h, hp⟩
  · rcases mem_snoc hx with hx | e
    · exact W.fr x hx
    · subst e; exact .inl s
theorem Wd.one (h : H p = some o) (hp : P o) (s : S p) : Wd H H S [(p, P)] := Wd.nil.old h hp s fun _ h => absurd h List.not_mem_nil
theorem Wd.get (W : Wd H0 H S l) (i : Nat) (e : l[i]? = some (p, P)) : ∃ o, H p = some o ∧ P o := W.at_ _ (List.mem_of_getElem? e)
theorem Wd.at (W : Wd H0 H S l) (i : Nat) (e : l[i]? = some (p, Eq o)) : H p = some o := by
  obtain ⟨o', h, e'⟩ := W.get i e
  cases e'; exact h
theorem Wd.sq {K : PySem.W.Frag} {xs : List V} (W : Wd H0 H S l) (i : Nat) (e : l[i]? = some (p, Eq (.lst xs))) : SqL K H p xs := HS.sq (W.at i e)
theorem Wd.same (W : Wd H0 H S l) (k : Keep (fun _ => False) H H') : Wd H0 H' S l :=
  ⟨W.nd, fun x hx => let ⟨o, h, z⟩ := W.at_ x hx; ⟨o, k _ _ h id, z⟩, W.kp.trans k.any, W.fr⟩
theorem Wd.miss (W : Wd H0 H S l) (h : H p = none) : ∀ x ∈ l, x.1 ≠ p := fun x hx e => by
  obtain ⟨o', h', _⟩ := W.at_ x hx
  rw [e, h] at h'; cases h'
/-- an object that some call has made: it was not there before the call -/
theorem Wd.made (W : Wd H0 H S l) {H1 : Hp} (k : Keep (fun _ => False) H H1) (h0 : H p = none) (h : H1 p = some o) (z : P o) : Wd H0 H1 S (l ++ [(p, P)]) := by
  have W1 := W.same k
  refine ⟨nd_snoc W.nd (W.miss h0), fun x hx => ?_, W1.kp, fun x hx => ?_⟩
  · rcases mem_snoc hx with hx | e
    · exact W1.at_ x hx
    · subst e; exact ⟨o, h, z⟩
  · rcases mem_snoc hx with hx | e
    · exact W.fr x hx
    · subst e
      by_cases s : S p
      · exact .inl s
      · exact .inr (W.kp.free h0 s)
theorem Wd.new (W : Wd H0 H S l) (h : H p = none) (z : P o) : Wd H0 (upd H p o) S (l ++ [(p, P)]) := W.made (Keep.new h) h upd_same z
/-- the same, the new heap by its name -/
theorem Wd.newG (W : Wd H0 H S l) (e : upd H p o = H') (h : H p = none) : Wd H0 H' S (l ++ [(p, Eq o)]) := e ▸ W.new h rfl
theorem nd_ne {l : WdL} (nd : (l.map (·.1)).Nodup) (e1 : l[i]? = some (p, P)) (e2 : l[j]? = some (q, P')) (h : i ≠ j) : p ≠ q := fun z => by
  have f1 : (l.map (·.1))[i]? = some p := by rw [List.getElem?_map, e1]; rfl
  have f2 : (l.map (·.1))[j]? = some q := by rw [List.getElem?_map, e2]; rfl
  have hl : i < (l.map (·.1)).length := (List.getElem?_eq_some_iff.mp f1).1
  exact h ((List.getElem?_inj hl nd).mp (by rw [f1, f2, z]))
theorem Wd.ne (W : Wd H0 H S l) (i j : Nat) (e1 : l[i]? = some (p, P)) (e2 : l[j]? = some (q, P')) (h : i ≠ j := by decide) : p ≠ q := nd_ne W.nd e1 e2 h
theorem Wd.no (W : Wd H0 H S l) (i : Nat) (e : l[i]? = some (p, P)) (h : H q = none) : q ≠ p := fun z => by
  obtain ⟨o, h', _⟩ := W.get i e
  rw [z, h'] at h; cases h
/-- the i-th object changes, all else stands -/
theorem Wd.chg (W : Wd H0 H S l) (i : Nat) (e : l[i]? = some (p, P)) (k : Keep (fun a => a = p) H H') (h : H' p = some o) (z : P' o) : Wd H0 H' S (l.set i (p, P')) := by
  have hi : i < l.length := (List.getElem?_eq_some_iff.mp e).1
  have em : (l.set i (p, P')).map (·.1) = l.map (·.1) := by
    apply List.ext_getElem?
    intro j
    rw [List.getElem?_map, List.getElem?_map, List.getElem?_set]
    by_cases hj : i = j
    · subst hj; rw [if_pos rfl, if_pos hi, e]; rfl
    · rw [if_neg hj]
  have hm : ∀ x ∈ l.set i (p, P'), x = (p, P') ∨ (x ∈ l ∧ x.1 ≠ p) := fun x hx => by
    obtain ⟨j, hj⟩ := List.getElem?_of_mem hx
    rw [List.getElem?_set] at hj
    by_cases hij : i = j
    · rw [if_pos hij, if_pos hi] at hj
      exact .inl (Option.some.inj hj).symm
    · rw [if_neg hij] at hj
      exact .inr ⟨List.mem_of_getElem? hj, fun y => nd_ne W.nd e (show l[j]? = some (x.1, x.2) from hj) hij y.symm⟩
  have sp := W.fr _ (List.mem_of_getElem? e)
  refine ⟨by rw [em]; exact W.nd, fun x hx => ?_, fun a u ha n => ?_, fun x hx => ?_⟩
  · rcases hm x hx with rfl | ⟨hx, n⟩
    · exact ⟨o, h, z⟩
    · obtain ⟨u, hu, y⟩ := W.at_ x hx
      exact ⟨u, k _ _ hu n, y⟩
  · refine k _ _ (W.kp _ _ ha n) fun y => ?_
    subst y
    rcases sp with sp | sp
    · exact n sp
    · rw [sp] at ha; cases ha
  · rcases hm x hx with rfl | ⟨hx, n⟩
    · exact sp
    · exact W.fr x hx
theorem Wd.chgE (W : Wd H0 H S l) (i : Nat) (e : l[i]? = some (p, P)) (k : Keep (fun a => a = p) H H') (h : H' p = some o) : Wd H0 H' S (l.set i (p, Eq o)) := W.chg i e k h rfl
theorem Wd.put (W : Wd H0 H S l) (i : Nat) (e : l[i]? = some (p, P)) (z : P' o) : Wd H0 (upd H p o) S (l.set i (p, P')) := W.chg i e (Keep.refl.at rfl) upd_same z
theorem Wd.putG (W : Wd H0 H S l) (i : Nat) (e : l[i]? = some (p, P)) (g : upd H p o = H') : Wd H0 H' S (l.set i (p, Eq o)) := g ▸ W.put i e rfl
/-- only some of it is told further -/
theorem Wd.sub (W : Wd H0 H S l) (h : l'.Sublist l) : Wd H0 H S l' := ⟨W.nd.sublist (h.map _), fun x hx => W.at_ x (h.subset hx), W.kp, fun x hx => W.fr x (h.subset hx)⟩
theorem Wd.take (W : Wd H0 H S l) (n : Nat) : Wd H0 H S (l.take n) := W.sub (List.take_sublist n l)
theorem Wd.weak (W : Wd H0 H S l) (i : Nat) (e : l[i]? = some (p, P)) (z : ∀ o, P o → P' o) : Wd H0 H S (l.set i (p, P')) := by
  obtain ⟨o, h, y⟩ := W.get i e
  exact W.chg i e .refl h (z o y)
/-- an object that a call has made which changed told objects besides: W before it, W' behind it -/
theorem Wd.madeT {H1 : Hp} (W : Wd H0 H S l) (W' : Wd H0 H1 S l') (e : l'.map (·.1) = l.map (·.1)) (h0 : H p = none) (h : H1 p = some o) (z : P o) : Wd H0 H1 S (l' ++ [(p, P)]) := by
  have n : ∀ x ∈ l', x.1 ≠ p := fun x hx y => by
    have hm : p ∈ l.map (·.1) := by rw [← e, ← y]; exact List.mem_map_of_mem hx
    obtain ⟨u, hu, eu⟩ := List.mem_map.mp hm
    exact W.miss h0 u hu eu
  refine ⟨nd_snoc W'.nd n, fun x hx => ?_, W'.kp, fun x hx => ?_⟩
  · rcases mem_snoc hx with hx | e
    · exact W'.at_ x hx
    · subst e; exact ⟨o, h, z⟩
  · rcases mem_snoc hx with hx | e
    · exact W'.fr x hx
    · subst e
      by_cases s : S p
      · exact .inl s
      · exact .inr (W.kp.free h0 s)
theorem Wd.keep (W : Wd H0 H S l) : Keep S H0 H := W.kp
/-- a change of several told objects and of nothing else -/
theorem Wd.chgs {T : Addr → Prop} (W : Wd H0 H S l) (k : Keep T H H') (hT : ∀ a, T a → S a ∨ H0 a = none) (f : ∀ x ∈ l, ¬ T x.1 ∨ ∃ o, H' x.1 = some o ∧ x.2 o) : Wd H0 H' S l := by
  refine ⟨W.nd, fun x hx => ?_, fun a u ha n => k _ _ (W.kp _ _ ha n) fun y => ?_, W.fr⟩
  · rcases f x hx with n | y
    · obtain ⟨u, hu, y⟩ := W.at_ x hx
      exact ⟨u, k _ _ hu n, y⟩
    · exact y
  · rcases hT a y with z | z
    · exact n z
    · rw [z] at ha; cases ha
theorem Wd.chgO (W : Wd H0 H S l) (k : Keep (fun a => a = p) H H') (hp : ∀ x ∈ l, x.1 ≠ p) (s : S p ∨ H0 p = none) : Wd H0 H' S l :=
  W.chgs k (fun a e => by cases (show a = p from e); exact s) fun x hx => .inl (hp x hx)
end
end HS
/-! Equal plain data: an error told as a tuple. -/
namespace HS
open PySem PySem.Spec PyProof.Rows L2
section
variable {K : PySem.W.Frag} {H : Hp} {Q : VK} {x y : V} {d : PyData}
theorem neSame (h1 : Dp K H x d) (h2 : Dp K H y d) (sh : SeqAt.shaped d = true) (e : PyData.eqv d d = true) (q : Q (.bl false) H) : rNeD K x y H Q := ⟨d, d, h1, h2, sh, sh, by rw [e]; exact q⟩
theorem eqSame (h1 : Dp K H x d) (h2 : Dp K H y d) (sh : SeqAt.shaped d = true) (e : PyData.eqv d d = true) (q : Q (.bl true) H) : rEqD K x y H Q := ⟨d, d, h1, h2, sh, sh, by rw [e]; exact q⟩
end
end HS
/-! A dict of four cells: the law's draws (own lemmas over HandS.Dict). -/
namespace HS
open PySem PySem.Spec PyProof.Rows L2
section
variable {σ : L2.St} {H : Hp} {Q : VK} {td ty tv : TE} {n bk ct : L2.St → Hp → Prop} {rt : VK} {a : Addr} {kvs : List (Key × V)} {x : Str} {v : V}
theorem dget (h : td σ H fun x H1 => ty σ H1 fun y H2 => ∃ a v, x = .ref a ∧ DGet H2 a y (some v) ∧ Q v H2) : tDGet td ty σ H Q := h
theorem dput (h : tv σ H fun v H1 => td σ H1 fun x H2 => ty σ H2 fun y H3 => ∃ a H4, x = .ref a ∧ DPut H3 a y v H4 ∧ n σ H4) : sDPut td ty tv ⟨n, rt, bk, ct⟩ σ H := h
theorem daug {rd : V → V → Hp → VK → Prop} (h : td σ H fun x H1 => ty σ H1 fun y H2 => ∃ a v, x = .ref a ∧ DGet H2 a y (some v) ∧ tv σ H2 fun y2 H3 => rd v y2 H3 fun z H4 => ∃ H5, DPut H4 a y z H5 ∧ n σ H5) : sDAug td ty tv rd ⟨n, rt, bk, ct⟩ σ H := h
theorem dgS {R : Addr → V → Prop} (v : V) (e : H a = some (.dK kvs)) (f : valV kvs (.inr x) = some v) (q : R a v) : ∃ a' v', V.ref a = .ref a' ∧ DGet H a' (.str x) (some v') ∧ R a' v' := ⟨a, v, rfl, by rw [← f]; exact DGet.k (k := .inr x) e, q⟩
theorem dpS {R : Hp → Prop} (e : H a = some (.dK kvs)) (hl : kvs.length ≤ 100000) (q : R (upd H a (.dK (putK kvs (.inr x) v)))) : ∃ a' H4, V.ref a = .ref a' ∧ DPut H a' (.str x) v H4 ∧ R H4 := ⟨a, _, rfl, DPut.k (k := .inr x) e (sz hl), q⟩
theorem dpS1 {R : Hp → Prop} (e : H a = some (.dK kvs)) (hl : kvs.length ≤ 100000) (q : R (upd H a (.dK (putK kvs (.inr x) v)))) : ∃ H4, DPut H a (.str x) v H4 ∧ R H4 := ⟨_, DPut.k (k := .inr x) e (sz hl), q⟩
theorem abI {i : Int} (q : Q (.int (if i < 0 then -i else i)) H) : (fun xs H Q => ∃ i, xs = [V.int i] ∧ Q (.int (if i < 0 then -i else i)) H : List V → Hp → VK → Prop) [.int i] H Q := ⟨i, rfl, q⟩
end
end HS
namespace HS
open PySem PySem.Spec PyProof.Rows L2
theorem disp {σ : L2.St} {H : Hp} {Q : VK} {trs : List (TE × TE)} (h : ∀ p, H p = none → tPairs trs σ (upd H p (.dK [])) fun ps H2 => H2 p = some (.dK []) ∧ ∃ kvs : List (Key × V), ps = kvs.map (fun kv => (kV kv.1, kv.2)) ∧ kvs.length ≤ 15 ∧ Q (.ref p) (upd H2 p (.dK (mergeK [] kvs)))) : tDisp trs σ H Q := h
end HS
namespace HS
open PySem PySem.Spec PyProof.Rows L2
/-- the four cells of a bag -/
def cells (d : Addr) (l c m : Int) : List (Key × V) := [(.inr "great", .ref d), (.inr "left", .int l), (.inr "turn", .int c), (.inr "blend", .int m)]
section
variable {H : Hp} {a d : Addr} {l c m z : Int} {R : Hp → Prop} {S : Addr → V → Prop}
theorem bagL (e : H a = some (.dK (cells d l c m))) (q : R (upd H a (.dK (cells d z c m)))) : ∃ a' H4, V.ref a = .ref a' ∧ DPut H a' (.str "left") (.int z) H4 ∧ R H4 := dpS e (Nat.le_of_ble_eq_true rfl) q
theorem bagT (e : H a = some (.dK (cells d l c m))) (q : R (upd H a (.dK (cells d l z m)))) : ∃ H4, DPut H a (.str "turn") (.int z) H4 ∧ R H4 := dpS1 e (Nat.le_of_ble_eq_true rfl) q
theorem bgG (e : H a = some (.dK (cells d l c m))) (q : S a (.ref d)) : ∃ a' v', V.ref a = .ref a' ∧ DGet H a' (.str "great") (some v') ∧ S a' v' := dgS _ e rfl q
theorem bgL (e : H a = some (.dK (cells d l c m))) (q : S a (.int l)) : ∃ a' v', V.ref a = .ref a' ∧ DGet H a' (.str "left") (some v') ∧ S a' v' := dgS _ e rfl q
theorem bgT (e : H a = some (.dK (cells d l c m))) (q : S a (.int c)) : ∃ a' v', V.ref a = .ref a' ∧ DGet H a' (.str "turn") (some v') ∧ S a' v' := dgS _ e rfl q
theorem bgB (e : H a = some (.dK (cells d l c m))) (q : S a (.int m)) : ∃ a' v', V.ref a = .ref a' ∧ DGet H a' (.str "blend") (some v') ∧ S a' v' := dgS _ e rfl q
end
end HS
/-! enumerate of a tuple; max with a default (own lemmas over PyProof.Draws and KE.DatumOrd). -/
namespace HS
open PySem PySem.Spec PyProof.Rows L2
/-- enumerate(t) where t's iterator begins as told -/
theorem enum_from1 {v : Value} {o : Obj} {G : Heap → Prop} (B : Begins v o G) :
    Meets (Builtin.«enumerate.__new__» ⟨[.type "enumerate", v], []⟩) (fun _ R s => G s.heap ∧
      R (.ok (.ret (.ref (s.heap.push o).objs.size))) { s with heap := (s.heap.push o).push { cls := .type "enumerate", data := .fields #[.none, .bool false, .ref s.heap.objs.size, rawInt 0, .none, .none] } }) := by
  refine .of_wp fun prog w A R s h => ?_
  obtain ⟨hp, g, d, tk, os⟩ := s
  obtain ⟨hg, hR⟩ := h
  have hsub := sub_enumerate
  have start : ∀ {A' : Around} {E Q : Value → Shared → Prop}, Q (.ref hp.objs.size) ⟨hp.push o, g, d, tk, os⟩ → wpAny (model prog w) A' (pyIter v) Q E ⟨hp, g, d, tk, os⟩ := fun q => B.iter prog w _ _ ⟨hp, g, d, tk, os⟩ _ hg q
  wp_walk using start
  refine wpAny_stack_any fun st => wpAny_pure ?_
  split
  · rename_i c _ _ _ _ _
    cases (c == Value.type "enumerate")
    all_goals
      wp_walk using start
      exact ⟨_, rfl, hR⟩
  · wp_walk using start
    exact ⟨_, rfl, hR⟩
theorem enum_new1 {prog : Program} {w : World} {A : Around} {E : Value → Shared → Prop} {s : Shared} {v : Value} {o : Obj} {G : Heap → Prop} {Q : Value → Shared → Prop} (B : Begins v o G) (hg : G s.heap)
    (h : ∀ h', IsEnum h' (s.heap.objs.size + 1) s.heap.objs.size 0 .none → h'.get? s.heap.objs.size = some o → (∀ b u, s.heap.get? b = some u → h'.get? b = some u) → Q (.ref (s.heap.objs.size + 1)) { s with heap := h' }) :
    wpAny (model prog w) A (call (.type "enumerate") [v]) Q E s := by
  have z1 : (s.heap.push o).objs.size = s.heap.objs.size + 1 := Heap.size_push ..
  have he : IsEnum ((s.heap.push o).push { cls := .type "enumerate", data := .fields #[.none, .bool false, .ref s.heap.objs.size, rawInt 0, .none, .none] }) (s.heap.objs.size + 1) s.heap.objs.size 0 .none :=
    z1 ▸ Heap.get?_push_size (s.heap.push o) rfl
  refine callType_new PySem.F.called_enumerate (by decide) (PySem.F.typeCall_enumerate_1 _) (PySem.F.newCall_enumerate_1 _) (fun obj => PySem.F.args_object_init_2 obj _) PySem.F.entry_enumerate_new (enum_from1 B) ⟨hg, ?_⟩
  show _ ∧ _
  rw [z1]
  exact ⟨⟨_, he, rfl⟩, h _ he (Heap.get?_push_of_some _ (Heap.get?_push_size _ B.free)) fun b u e => Heap.get?_push_of_some _ (Heap.get?_push_of_some _ e)⟩
/-- the tuple at a, each item in a new pair with its place -/
def IteT (K : PySem.W.Frag) (a : Addr) : It :=
  ⟨fun i H => ∃ (xs : List V) (x : V), SqT K H a xs ∧ xs[i]? = some x, fun i H v H' => ∃ T x, v = .ref T ∧ H T = none ∧ H' = upd H T (.tup [.int (i : Nat), x]) ∧ ∀ xs, SqT K H a xs → xs[i]? = some x, fun i H => ∃ xs : List V, SqT K H a xs ∧ xs.length ≤ i⟩
theorem turn_enumT {P : Program} {w : World} {K : PySem.W.Frag} {elts : List Expr} {kk : Nat} {tpos : Pos} (a e it : Addr) :
    Turn P w K (.Tuple elts kk tpos) (IteT K a) [e, it] e (fun i h => (∃ old, IsEnum h e it ((i : Nat) : Int) old) ∧ h.IsTupleIter it a i ∧ e ≠ it) where
  mem := List.mem_cons_self
  obj := fun i h ⟨⟨old, he⟩, ⟨o, ho, hc, hd⟩, _⟩ b hb => by
    rcases List.mem_cons.mp hb with z | z
    · rw [z]
      exact ⟨_, he, fun v q => nomatch q⟩
    · exact ⟨o, (List.mem_singleton.mp z) ▸ ho, fun v q => by rw [hd] at q; cases q⟩
  keep := fun i h h' ⟨⟨old, he⟩, hi, hne⟩ k => ⟨⟨old, k e List.mem_cons_self _ he⟩, hi.at fun o q => k it (List.mem_cons_of_mem _ List.mem_cons_self) o q, hne⟩
  item := by
    intro X hP hw hK hc i pins s σ H E I hf st hg
    subst hP hw hK
    obtain ⟨⟨old, he⟩, hit, hne⟩ := st
    obtain ⟨xs, x, hq, hx⟩ := hg
    obtain ⟨its, rv, pt, _⟩ := I.tuple hq
    obtain ⟨u, hu, ru⟩ := rv.get hx
    have hel := Heap.lt_size he
    have hil : it < s.heap.objs.size := let ⟨_, q, _⟩ := hit; Heap.lt_size q
    have ait : a ≠ it := fun z => by
      obtain ⟨o1, g1, c1, _⟩ := pt
      obtain ⟨o2, g2, c2, _⟩ := hit
      rw [z, g2] at g1
      cases g1
      rw [c2] at c1
      exact absurd (Value.type.inj c1) (by decide)
    have ae : e ≠ a := fun z => by
      obtain ⟨o1, g1, c1, _⟩ := pt
      rw [← z, he] at g1
      cases g1
      exact absurd (Value.type.inj c1) (by decide)
    have hi : i < its.toArray.size := by rw [List.size_toArray]; exact (List.getElem?_eq_some_iff.mp hu).1
    refine wpAny_pyNext_enum_itemD (Draws.tuple (A := X.A.in1) (show X.A.in1.handled = none from I.ok.hd hc) it a ait its.toArray) he ⟨hit, pt⟩ hi hne (fun z => ?_) fun y h' tk py ho st' hT _ hk => ?_
    · rcases List.mem_cons.mp z with z | z
      · exact hne z
      · exact ae (List.mem_singleton.mp z)
    have ey : y = u := by
      have py' : its.toArray[i]? = some y := py
      rw [List.getElem?_toArray, hu] at py'
      exact (Option.some.inj py').symm
    subst ey
    refine ⟨_, rfl, wpAny_letOwnedTupleGo_enum (s := { s with heap := h', toks := tk + 1 }) ho fun h2 he2 sb => ?_⟩
    have hT2 : h2.get? s.heap.objs.size = some { cls := .type "tuple", data := .seq #[.int i tk, y] } := (sb.2 _ (Nat.ne_of_gt hel)).trans hT
    have new : ObjOk X.prog X.w (upd H s.heap.objs.size (.tup [.int (i : Nat), x])) h2 s.heap.objs.size (.tup [.int (i : Nat), x]) :=
      ⟨by show 2 ≤ sizeLine; decide, [.int i tk, y], .cons ⟨_, rfl⟩ (.cons ru .nil), ⟨_, hT2, rfl, _, rfl⟩⟩
    have I1 : Inv X pins σ (upd H s.heap.objs.size (.tup [.int (i : Nat), x])) { s with heap := h2, toks := tk + 1 } :=
      I.turnedNew (ch := [e, it]) (fun b ob hb q => (sb.2 b fun z => hb (z ▸ List.mem_cons_self)).trans (hk b ob (fun z => hb (z ▸ List.mem_cons_self)) (fun z => hb (z ▸ List.mem_cons_of_mem _ List.mem_cons_self)) q)) hf (Nat.le_refl _) new
    refine ⟨.ref s.heap.objs.size, _, I1, rfl, ⟨_, x, rfl, I.hok.fresh (Nat.le_refl _), rfl, fun ys hy => by rw [I.tuple_inj hy hq]; exact hx⟩, ⟨⟨y, ?_⟩, st'.1.at fun o q => (sb.2 it (Ne.symm hne)).trans q, hne⟩, fun b hb => ?_⟩
    · rw [show ((i + 1 : Nat) : Int) = (i : Int) + 1 by omega]
      exact he2
    · have hlt : b < s.heap.objs.size := by
        rcases List.mem_cons.mp hb with z | z
        · exact z ▸ hel
        · exact (List.mem_singleton.mp z) ▸ hil
      rw [upd_ne (Nat.ne_of_lt hlt)]
      exact (hf b hb).1
  done := by
    intro X hP hw hK hc i pins s σ H E I hf st hg
    subst hP hw hK
    obtain ⟨⟨old, he⟩, hit, hne⟩ := st
    obtain ⟨xs, hq, hx⟩ := hg
    obtain ⟨its, rv, pt, _⟩ := I.tuple hq
    obtain ⟨f0, f1, f2, f3, f4, f5⟩ := hf it (List.mem_cons_of_mem _ List.mem_cons_self)
    have hl := rv.length
    have T : s.TypeIs (.ref e) "enumerate" := ⟨_, he, rfl⟩
    unfold pyNext
    refine wpAny_bind (wpAny_attempt (wpAny_callSpecial?_slot (name := Str.ofString "__next__") T PySem.F.slot_enumerate_next
      (wpAny_call_entry PySem.F.slot_enumerate_next T PySem.F.entry_enumerate_next ?_ (PySem.F.args_enumerate_next_1 _))))
    show wpAny _ _ (field (.ref e) 2 >>= _) _ _ _
    refine wpAny_bind (wpAny_field he rfl (x := .ref it) rfl ?_)
    refine wpAny_bind (wpAny_nextOf_tuple_end (I.ok.hd hc) hit pt (by simp; omega) fun h' z hb hz => ?_)
    obtain ⟨o, ho, hcl⟩ := hz
    refine wpAny_bind (wpAny_isInstance (T := "StopIteration") (b := true) ⟨o, ho, hcl⟩ isSubtype_stop ?_)
    exact wpAny_pure ⟨rfl, I.turned (t' := s.toks) (fun b ob nb q => hb b ob nb q) f0 f1 f3 f4 f5⟩
  self := fun A i s Q E ⟨⟨_, he⟩, _⟩ h => wpAny_pyIter_enum he h
/-- enumerate of a list or of a tuple -/
def iEnumA (K : PySem.W.Frag) (ta : TA) : TI := fun σ H R => ta σ H fun vs H1 => ∃ a xs, vs = [.ref a] ∧ ((SqL K H1 a xs ∧ R (Ite K a) H1) ∨ (SqT K H1 a xs ∧ R (IteT K a) H1))
theorem pi_enumA {X : Cx} {e : Expr} {ta : TA} {p pos tpos : Pos} {elts : List Expr} {kk : Nat} (hg : Gl X "enumerate") (hm : X.mg "enumerate" = none) (ha : PA X [e] ta) (hs : starEach [e] X.env = [(false, eval e X.env)] := by rfl) :
    PI X (.Tuple elts kk tpos) (.Call (.Name "enumerate" p) [e] [] pos) (iEnumA X.K ta) := by
  refine ⟨fun pins s σ H R I h => ?_⟩
  refine Call_ (ld_blt I hg hm boot_enumerate (PyProof.Rows.callWith_type1 (thn (ha.run pos pins s σ H _ I h) fun us s1 ⟨vs, H1, I1, r1, a, xs, ex, q⟩ => ?_) hs rfl))
  subst ex
  cases r1 with
  | cons r rr =>
    cases rr
    cases r
    have ends : ∀ {h' : Heap} {fp : List Addr}, (∀ b u, s1.heap.get? b = some u → h'.get? b = some u) → ∀ b ∈ [s1.heap.objs.size + 1, s1.heap.objs.size], FpOk X pins H1 b := fun _ b hb => by
      have : s1.heap.objs.size ≤ b := by
        rcases List.mem_cons.mp hb with z | z
        · exact z ▸ Nat.le_succ _
        · exact (List.mem_singleton.mp z) ▸ Nat.le_refl _
      exact I1.fpOk this (I1.hok.fresh this)
    rcases q with ⟨hq, q⟩ | ⟨hq, q⟩
    · obtain ⟨its, _, pl, _⟩ := I1.list hq
      refine enum_new1 (begins_list a its.toArray) pl.isList fun h' he hi hk => wpAny_pyIter_enum he ?_
      exact ⟨_, [s1.heap.objs.size + 1, s1.heap.objs.size], _, _, H1, rfl, I1.kept (t' := s1.toks) hk, turn_enum a _ _, ⟨⟨.none, he⟩, ⟨_, hi, rfl, rfl⟩, Nat.succ_ne_self _⟩, ends (fp := []) hk, q⟩
    · obtain ⟨its, _, pt, _⟩ := I1.tuple hq
      refine enum_new1 (begins_tuple a its.toArray) pt fun h' he hi hk => wpAny_pyIter_enum he ?_
      exact ⟨_, [s1.heap.objs.size + 1, s1.heap.objs.size], _, _, H1, rfl, I1.kept (t' := s1.toks) hk, turn_enumT a _ _, ⟨⟨.none, he⟩, ⟨_, hi, rfl, rfl⟩, Nat.succ_ne_self _⟩, ends (fp := []) hk, q⟩
theorem walk_enumT {K : PySem.W.Frag} {a : Addr} {xs : List V} : Walk (IteT K a) xs.length (fun H => SqT K H a xs) (YPair (fun i => some (.int (i : Nat))) (fun i => xs[i]?)) :=
  ⟨fun i _ hi q => ⟨xs, xs[i], q, List.getElem?_eq_getElem hi⟩, fun _ q => ⟨xs, q, Nat.le_refl _⟩, fun i H v H' _ q ⟨T, x, h1, h2, h3, h4⟩ => ⟨T, .int (i : Nat), x, h1, h2, h3, rfl, h4 xs q⟩⟩
/-- a list or a tuple -/
def SqA (K : PySem.W.Frag) (H : Hp) (a : Addr) (xs : List V) : Prop := SqL K H a xs ∨ SqT K H a xs
section
variable {X : Cx} (K : PySem.W.Frag)
theorem kenA {tg l : Expr} {tl : TA} (p : PI X tg l (iEnumA X.K tl)) (h : X.K = K := by rfl) : PI X tg l (iEnumA K tl) := h ▸ p
end
/-- max(l, default=d) of whole numbers -/
def rMaxD (K : PySem.W.Frag) : List V → List V → Hp → VK → Prop := fun vs zs H Q => ∃ (a : Addr) (ns : List Int) (d : V), vs = [.ref a] ∧ zs = [d] ∧ SqL K H a (ns.map V.int) ∧ (ns = [] → Q d H) ∧ ∀ m, m ∈ ns → (∀ y ∈ ns, y ≤ m) → Q (.int m) H
theorem maxOf_int : ∀ (xs : List Int) (x : Int), PySem.W.maxOf x xs ∈ x :: xs ∧ ∀ y ∈ x :: xs, y ≤ PySem.W.maxOf x xs
  | [], x => ⟨List.mem_cons_self, fun y hy => by rw [List.mem_singleton.mp hy]; exact Int.le_refl _⟩
  | z :: zs, x => by
    have e : PySem.W.maxOf x (z :: zs) = PySem.W.maxOf (if x < z then z else x) zs := by
      unfold PySem.W.maxOf
      rw [List.foldl_cons]
      congr 1
      show (if decide (x < z) = true then z else x) = _
      by_cases h : x < z
      · rw [if_pos h, if_pos (decide_eq_true h)]
      · rw [if_neg h, if_neg (by simpa using h)]
    obtain ⟨h1, h2⟩ := maxOf_int zs (if x < z then z else x)
    rw [e]
    have h0 := h2 _ List.mem_cons_self
    have g1 : x ≤ (if x < z then z else x) ∧ z ≤ (if x < z then z else x) := by split <;> omega
    refine ⟨?_, fun y hy => ?_⟩
    · rcases List.mem_cons.mp h1 with h | h
      · rw [h]
        split
        · exact List.mem_cons_of_mem _ List.mem_cons_self
        · exact List.mem_cons_self
      · exact List.mem_cons_of_mem _ (List.mem_cons_of_mem _ h)
    · rcases List.mem_cons.mp hy with h | h
      · rw [h]
        exact Int.le_trans g1.1 h0
      · rcases List.mem_cons.mp h with h | h
        · rw [h]
          exact Int.le_trans g1.2 h0
        · exact h2 y (List.mem_cons_of_mem _ h)
theorem kmaxD {X : Cx} (K : PySem.W.Frag) (hc : X.calm = true) (hu : X.A.units + 65 < cLine) (h : X.K = K := by rfl) : CallRK X (.builtin "max") [Str.ofString "default"] (rMaxD K) := by
  subst h
  intro pins s σ H xs zs us ws Q I r rz ⟨a, ns, d, ex, ez, hs, q0, q⟩
  subst ex ez
  obtain ⟨its, rv, hl, _⟩ := I.list hs
  rw [Vals.ref1 r]
  cases rz with
  | cons rd rn =>
    cases rn
    rename_i u
    have ho : PySem.W.HoldAll s.heap its.toArray.toList ns := .of_ints rv.ints
    refine PySem.W.max_list_datum_default (α := Int) (I.ok.hd hc) hl.isList ho (by have : PySem.W.Datum.depth Int = 0 := rfl; omega) (fun e h' tk hk => ⟨d, H, I.kept hk, rd, q0 e⟩) fun y ys i v h' tk e hv hh hk => ?_
    obtain ⟨m1, m2⟩ := maxOf_int ys y
    obtain ⟨t, et⟩ : ∃ t, v = .int (PySem.W.maxOf y ys) t := PySem.W.int_of_holds hh
    exact ⟨.int (PySem.W.maxOf y ys), H, I.kept hk, ⟨t, et⟩, q _ (by rw [e]; exact m1) (by rw [e]; exact m2)⟩
section
variable {K : PySem.W.Frag} {σ : L2.St} {H : Hp} {Q : VK}
theorem mxd {a : Addr} {ns : List Int} {d : V} (h : SqL K H a (ns.map V.int)) (q0 : ns = [] → Q d H) (q : ∀ m, m ∈ ns → (∀ y ∈ ns, y ≤ m) → Q (.int m) H) : rMaxD K [.ref a] [d] H Q := ⟨a, ns, d, rfl, rfl, h, q0, q⟩
end
/-- a def with a star parameter: what it promises, the tuple told as the last argument -/
def starS (n : Nat) (sp : Sp) : Sp := fun vs H Q E => ∃ ws rest, vs = ws ++ rest ∧ ws.length = n ∧ rest.length ≤ sizeLine ∧ ∀ p, H p = none → sp (ws ++ [V.ref p]) (upd H p (.tup rest)) Q E
theorem Fun.star {P : Program} {w : World} {K : PySem.W.Frag} {mg : Str → Option Value} {base : Heap} {x qual pv : Str} {st : Stmt} {f : Addr} {fd : FuncData} {N ps : List Str} {k : Nat} {sp : Sp} (F : Fun K x qual st f fd) (S : FnScope N (ps ++ [pv]) (defScope st))
    (hb : ∀ us rest : List Value, us.length = ps.length → bindArgs fd ⟨us ++ rest, []⟩ = (newTuple rest >>= fun t => pure (ps.zip us ++ [(pv, t)])))
    (hbody : ∀ (cdv : Value) (A : Around) (outer : List Env) (s : Shared) (H : Hp) (vs : List V) (Q : VK) (E : XK), Room k (A.deeper (envOfC qual (defScope st) s.heap.objs.size f cdv)) → sp vs H Q E →
      ∃ t, PSs (cxOf (L2.CX P w) P w K mg base N qual (defScope st) f cdv A outer s H E) (defBody st) t ∧ t { nx := fun _ H' => Q .non H', rt := Q } (start N vs) H) :
    FnR P w K mg base (L2.CX P w) (k + 1) f (starS ps.length sp) := by
  obtain ⟨oc, od, kV, doc, pm, an, cdv, ct, osl, rfl, lk, hcd⟩ := F.ex
  exact StX.fn_star lk hcd S StX.cxUp hb fun A outer s H vs Q E hr h => hbody cdv A outer s H vs Q E hr h
section
variable {K : PySem.W.Frag} {σ : L2.St} {H : Hp} {Q : VK}
theorem oenA {ta : TA} {R : It → Hp → Prop} (h : ta σ H fun vs H1 => ∃ a xs, vs = [.ref a] ∧ ((SqL K H1 a xs ∧ R (Ite K a) H1) ∨ (SqT K H1 a xs ∧ R (IteT K a) H1))) : iEnumA K ta σ H R := h
theorem omR {C : Addr} {m : Str} {sp : Sp} {E : XK} {ta : TE} {t : TA} (h : ta σ H fun x H1 => ∃ a dx fs, x = .ref a ∧ H1 a = some (.ins C dx fs) ∧ fs.lookup m = none ∧ t σ H1 fun vs H2 => sp (x :: vs) H2 Q E) : tMethR C m sp E ta t σ H Q := h
end
end HS
/-! In a suite of a base class: isinstance of the exception, also by a tuple of classes, and its value. -/
namespace HS
open PySem PySem.Spec PyProof.Rows L2
theorem exc_here {X : Cx} {a D d : Addr} {oe : Obj} {pn pins : List (Addr × Obj)} {σ : L2.St} {H : Hp} {s : Shared} {fs : List (Str × V)} (I : Inv (X.suite a ((a, oe) :: pn)) pins σ H s) (hz : Zc (.ref D) (some d) oe) (hf : ∃ vs, oe.data = .fields vs) (hd : H d = some (.xd fs)) :
    ∃ (od : Obj) (mA : Str → Option Value), PySem.W.InstAt s.heap a oe D (some od) ∧ (∀ f, RelO (fs.lookup f) (mA f)) ∧ ∀ f, PySem.W.lookIn f od = some (mA f) := by
  obtain ⟨hget, _⟩ := I.pin (a, oe) (List.mem_append.mpr (.inl List.mem_cons_self))
  obtain ⟨vs, hv⟩ := hf
  have x2 : ObjOk X.prog X.w H s.heap d (.xd fs) := I.hok d _ hd
  obtain ⟨mA, hns, hr⟩ := x2
  obtain ⟨od, hod, hl⟩ := lookIn_ns hns
  exact ⟨od, mA, ⟨hget, hz.1, by unfold PySem.W.notCls; rw [hv] <;> rfl, by rw [hz.2]; exact hod⟩, hr, hl⟩
/-- what is asked of isinstance: a class, or a tuple of own classes -/
def AskB (K : PySem.W.Frag) (H : Hp) (D : Addr) (c : V) (b : Bool) : Prop := (∃ cv, ClsV c cv ∧ PySem.W.kitOne K (.ref D) cv = some b) ∨ ∃ (t : Addr) (cs : List Addr), c = .ref t ∧ SqT K H t (cs.map V.ref) ∧ PySem.W.kitAny K (.ref D) (cs.map Value.ref) = some b
def rIsP (K : PySem.W.Frag) (a : Addr) (cls : Value) (dx : Option Addr) : List V → Hp → VK → Prop := fun xs H Q => ∃ (D d : Addr) (fs : List (Str × V)) (c : V) (b : Bool), xs = [.ref a, c] ∧ cls = .ref D ∧ dx = some d ∧ H d = some (.xd fs) ∧ ExcC K D ∧ AskB K H D c b ∧ Q (.bl b) H
theorem vals_refs : ∀ {cs : List Addr} {its : List Value}, Vals (cs.map V.ref) its → its = cs.map Value.ref
  | [], _, .nil => rfl
  | c :: cs, _, .cons r rr => by cases r; rw [vals_refs rr]; rfl
theorem call_isP {X : Cx} {a : Addr} {oe : Obj} {cls : Value} {dx : Option Addr} {pn : List (Addr × Obj)} (K : PySem.W.Frag) (hz : Zc cls dx oe) (hf : ∃ vs, oe.data = .fields vs) (hK : X.K = K := by rfl) : CallR (X.suite a ((a, oe) :: pn)) (.builtin "isinstance") (rIsP K a cls dx) := by
  subst hK
  intro pins s σ H xs us Q I r hw
  obtain ⟨D, d, fs, c, b, e0, ec, ed, hd, T, ask, q⟩ := hw
  subst e0 ec ed
  match us, r with
  | [_, _], .cons rx (.cons rt .nil) =>
    cases rx
    obtain ⟨od, mA, here, _, _⟩ := exc_here I hz hf hd
    obtain ⟨cd, hcd, _⟩ := PySem.W.any_some T.hd
    rcases ask with ⟨cv, hcv, hb⟩ | ⟨t, cs, e1, ht, hb⟩
    · have e1 := hcv.eq rt
      subst e1
      exact PySem.W.kia_one (PySem.W.kitx_exc (by rw [hcd]; rfl) T.hg T.hk T.hs T.ha T.hn T.ht T.hm) I.kIn here hb (fun z => nomatch z) fun tk => ⟨.bl b, H, I.kept (t' := tk) fun _ _ z => z, rfl, q⟩
    · subst e1
      cases rt
      obtain ⟨its, rv, ⟨⟨oc, od', odt, osl⟩, ho, hc, n, hdt⟩, _⟩ := I.tuple ht
      dsimp only at hc hdt
      subst hc hdt
      rw [← vals_refs rv] at hb
      exact PySem.W.kia_tup (PySem.W.kitx_exc (by rw [hcd]; rfl) T.hg T.hk T.hs T.ha T.hn T.ht T.hm) I.kIn here ho hb (fun z => nomatch z) fun tk => ⟨.bl b, H, I.kept (t' := tk) fun _ _ z => z, rfl, q⟩
def tFldP (K : PySem.W.Frag) (a : Addr) (cls : Value) (dx : Option Addr) (f : Str) (te : TE) : TE := fun σ H Q => te σ H fun x H1 => x = .ref a ∧ ∃ (C d : Addr) (fs : List (Str × V)) (v : V), cls = .ref C ∧ dx = some d ∧ XfC K C ∧ PySem.W.findIn K (.ref C) f = some none ∧ H1 d = some (.xd fs) ∧ fs.lookup f = some v ∧ Q v H1
theorem pe_fldP {X : Cx} {a : Addr} {oe : Obj} {cls : Value} {dx : Option Addr} {pn : List (Addr × Obj)} {e : Expr} {te : TE} {pos : Pos} {f : Str} (K : PySem.W.Frag) (hz : Zc cls dx oe) (hf : ∃ vs, oe.data = .fields vs) (he : PE (X.suite a ((a, oe) :: pn)) e te)
    (hK : X.K = K := by rfl) (hb : attributeBase e f X.env (eval e X.env) = eval e X.env := by rfl) : PE (X.suite a ((a, oe) :: pn)) (.Attribute e f pos) (tFldP K a cls dx f te) := by
  subst hK
  refine ⟨fun pins s σ H Q I hw => attr_of hb (thn (he.run pins s σ H _ I hw) fun u s1 ⟨x, H1, I1, rx, e0, C, d, fs, v, ec, ed, T, hno, hd, l, q⟩ => ?_)⟩
  subst e0 ec ed
  cases rx
  obtain ⟨od, mA, here, hr, hl⟩ := exc_here I1 hz hf hd
  obtain ⟨w, hw, rw'⟩ := RelO.some_of (v := v) (o := mA f) (by rw [← l]; exact hr f)
  exact HandSPX.exc_get I1.kIn here T.ga T.gg T.exC (PySem.W.findObj_own T.hdC hno rfl (by rw [hl, hw])) (handed_of rw') ⟨v, H1, I1.tok _, rw', q⟩
section
variable {K : PySem.W.Frag} {σ : L2.St} {H : Hp} {Q : VK} {a D C d t : Addr} {fs : List (Str × V)} {b : Bool} {te : TE} {f : Str} {v : V}
theorem isP (T : ExcC K D) (hd : H d = some (.xd fs)) (hq : PySem.W.kitOne K (.ref D) (.ref C) = some b) (q : Q (.bl b) H) : rIsP K a (.ref D) (some d) [.ref a, .ref C] H Q := ⟨D, d, fs, _, b, rfl, rfl, rfl, hd, T, .inl ⟨_, .own C, hq⟩, q⟩
theorem isPt {n : String} (T : ExcC K D) (hd : H d = some (.xd fs)) (hq : PySem.W.kitOne K (.ref D) (.type n) = some b) (q : Q (.bl b) H) : rIsP K a (.ref D) (some d) [.ref a, .ty n] H Q := ⟨D, d, fs, _, b, rfl, rfl, rfl, hd, T, .inl ⟨_, .ty n, hq⟩, q⟩
theorem isPs {cs : List Addr} (T : ExcC K D) (hd : H d = some (.xd fs)) (ht : SqT K H t (cs.map V.ref)) (hq : PySem.W.kitAny K (.ref D) (cs.map Value.ref) = some b) (q : Q (.bl b) H) : rIsP K a (.ref D) (some d) [.ref a, .ref t] H Q := ⟨D, d, fs, _, b, rfl, rfl, rfl, hd, T, .inr ⟨t, cs, rfl, ht, hq⟩, q⟩
theorem fldP (h : te σ H fun x H1 => x = .ref a ∧ ∃ (C' d' : Addr) (fs : List (Str × V)) (v : V), Value.ref C = .ref C' ∧ some d = some d' ∧ XfC K C' ∧ PySem.W.findIn K (.ref C') f = some none ∧ H1 d' = some (.xd fs) ∧ fs.lookup f = some v ∧ Q v H1) : tFldP K a (.ref C) (some d) f te σ H Q := h
theorem kany_no {D : Addr} : ∀ {cs : List Addr}, (∀ c ∈ cs, PySem.W.kitOne K (.ref D) (.ref c) = some false) → PySem.W.kitAny K (.ref D) (cs.map Value.ref) = some false
  | [], _ => rfl
  | c :: cs, h => by
    unfold PySem.W.kitAny
    rw [List.map_cons]
    dsimp only
    rw [h c List.mem_cons_self]
    exact kany_no fun x hx => h x (List.mem_cons_of_mem _ hx)
end
end HS
namespace WK07
open PySem PySem.Spec PyProof.Rows L2
local macro_rules | `(tactic| walk_at "ne") => `(tactic| first | assumption | (apply Ne.symm; assumption) | exact ne_of_none (by assumption) (by assumption) | exact (ne_of_none (by assumption) (by assumption)).symm | exact ne_of_none upd_same (by assumption) | exact (ne_of_none upd_same (by assumption)).symm)
local macro_rules | `(tactic| walk_at "hp") => `(tactic| first | assumption | exact upd_same | (rw [upd_ne (by walk_at "ne")]; walk_at "hp"))
local macro_rules | `(tactic| walk_at "side") => `(tactic| first | omega | decide | assumption | exact ⟨by decide, by decide⟩ | exact ⟨by omega, by omega⟩ | exact .inl (by omega) | exact .inr (by omega) | exact .inl (by decide) | exact .inr (by decide) | exact ⟨by decide, by decide, by decide⟩ | exact ⟨by decide, by decide, by omega⟩ | exact .inl ⟨by omega, by omega⟩ | exact .inr ⟨by omega, by omega⟩ | exact .inr ⟨by decide, by decide⟩ | exact .inl ⟨by decide, by decide⟩ | (show _ < _; omega))
local macro_rules | `(tactic| walk_at "len") => `(tactic| ((try simp only [List.length_map, List.length_append, List.length_cons, List.length_nil, List.length_set, List.length_replicate]); omega))
local macro_rules | `(tactic| walk_at "sq") => `(tactic| first | assumption | exact HS.sq (by walk_at "hp"))
local macro_rules | `(tactic| walk_at "st") => `(tactic| first | assumption | exact HS.st (by walk_at "hp"))
local macro_rules | `(tactic| walk_at "h1") => `(tactic| first
  | with_reducible refine HS.seq ?_
  | with_reducible refine HS.asg ?_
  | with_reducible refine HS.nm ?_
  | with_reducible refine HS.var rfl ?_
  | with_reducible refine HS.cst ?_
  | with_reducible refine HS.op ?_
  | with_reducible refine HS.i0 ?_
  | ((with_reducible refine HS.i1 ?_); first | refine ⟨by walk_at "side", ?_⟩ | skip)
  | with_reducible refine HS.u0 ?_
  | with_reducible refine HS.un ?_
  | with_reducible refine HS.eqI ?_
  | with_reducible refine HS.neI ?_
  | with_reducible refine HS.tst ?_
  | with_reducible refine HS.tb1 ?_
  | with_reducible refine HS.bex ?_
  | with_reducible refine HS.ifs ?_
  | with_reducible refine HS.ife ?_
  | with_reducible refine HS.and ?_
  | with_reducible refine HS.or ?_
  | with_reducible refine HS.not ?_
  | with_reducible refine HS.andV ?_
  | with_reducible refine HS.orV ?_
  | with_reducible refine HS.notV ?_
  | with_reducible refine HS.chn ?_
  | with_reducible refine HS.ret ?_
  | with_reducible refine HS.retN ?_
  | with_reducible refine HS.drp ?_
  | with_reducible refine HS.cb ?_
  | with_reducible refine HS.anil ?_
  | with_reducible refine HS.acons ?_
  | with_reducible refine HS.cal ?_
  | with_reducible refine HS.tup ?_
  | with_reducible refine HS.lst ?_
  | with_reducible refine HS.par ?_
  | with_reducible refine HS.ex2 ?_
  | with_reducible refine HS.aug rfl ?_
  | with_reducible refine HS.ipi ?_
  | with_reducible refine HS.addI ?_
  | with_reducible refine HS.nxt ?_
  | with_reducible refine HS.brk ?_
  | with_reducible refine HS.cnt ?_
  | with_reducible refine HS.sub ?_
  | with_reducible refine HS.pnx ?_
  | with_reducible refine HS.prt ?_
  | with_reducible refine HS.pbk ?_
  | with_reducible refine HS.pct ?_
  | with_reducible refine iteF ?_
  | with_reducible refine iteT ?_
  | with_reducible refine HS.ii ?_
  | with_reducible refine HS.bmL ?_
  | with_reducible refine HS.bmL0 ?_
  | ((with_reducible refine' HS.tyL ?e ?_); case e => walk_at "hp")
  | ((with_reducible refine' HS.app ?e ?_); (case e => walk_at "hp"))
  | ((with_reducible refine' HS.setL ?e ?f ?_); (case e => walk_at "hp"); (case f => rfl))
  | ((with_reducible refine' HS.wp ?e ?_); case e => rfl)
  | ((with_reducible refine' HS.szc ?e ?_); case e => walk_at "len")
  | ((with_reducible refine' HS.szd ?e ?_); case e => walk_at "len")
  | with_reducible refine HS.yes ?_
  | with_reducible refine HS.lc ?_
  | with_reducible refine HS.rng1 ?_
  | with_reducible refine HS.rng2 ?_
  | with_reducible refine HS.rng3 ?_
  | with_reducible refine HS.lis ?_
  | with_reducible refine HS.fr ?_
  | with_reducible refine HS.i1e ?_
  | with_reducible refine HS.gthen ?_
  | with_reducible refine HS.g0 ?_
  | with_reducible refine HS.gfr ?_
  | with_reducible refine HS.gpl ?_
  | with_reducible refine HS.gyl ?_
  | with_reducible refine HS.lgn ?_
  | with_reducible refine HS.calg ?_
  | with_reducible refine HS.revL ?_
  | with_reducible refine HS.sl ?_
  | with_reducible refine HS.noP ?_
  | with_reducible refine HS.part ?_
  | with_reducible refine HS.ie ?_
  | ((with_reducible refine' HS.slLs ?e ?_); case e => walk_at "sq")
  | ((with_reducible refine' HS.gtup ?e ?f ?_); (case e => walk_at "st"); (case f => rfl))
  | with_reducible refine HS.gcons ?_
  | with_reducible refine HS.gnil ?_
  | with_reducible refine HS.itup ?_
  | with_reducible refine HS.ienu ?_
  | ((with_reducible refine' HS.cat ?e ?f ?_); (case e => walk_at "hp"); (case f => walk_at "hp"))
  | ((with_reducible refine' HS.ext ?e ?f ?_); (case e => walk_at "hp"); (case f => walk_at "hp"))
  | ((with_reducible refine' HS.sumL ?e ?_); case e => walk_at "sq")
  | ((with_reducible refine' HS.lenL ?e ?_); case e => walk_at "sq")
  | ((with_reducible refine' HS.lenT ?e ?_); case e => walk_at "st")
  | with_reducible refine HS.ra ?_
  | ((with_reducible refine' HS.ixL ?e ?f ?_); (case e => walk_at "sq"); (case f => rfl))
  | ((with_reducible refine' HS.ixT ?e ?f ?_); (case e => walk_at "st"); (case f => rfl)))
local macro_rules | `(tactic| walk_at "hs") => `(tactic| repeat' (walk_at "h1"))
local macro_rules | `(tactic| walk_at "fold") => `(tactic| (walk_at "hs"; assumption))
local macro_rules | `(tactic| walk_at "ns") => `(tactic| first | exact (fun z => z) | assumption | exact HS.nS2 (by walk_at "ne") (by walk_at "ne") | exact HS.nS3 (by walk_at "ne") (by walk_at "ne") (by walk_at "ne"))
local macro_rules | `(tactic| walk_at "kp") => `(tactic| first
  | assumption
  | exact HS.Keep.refl
  | (refine HS.Keep.at ?_ (by first | exact .inl rfl | exact .inr rfl | exact .inr (.inl rfl) | exact .inr (.inr rfl)); walk_at "kp")
  | (refine HS.Keep.put ?_ (by assumption); walk_at "kp")
  | (refine HS.Keep.new' (by assumption) (by first | assumption | exact HS.Keep.refl) (by walk_at "ns") ?_; walk_at "kp"))
local macro_rules | `(tactic| walk_at "ev") => `(tactic| first | assumption | exact HS.Exv.new (by walk_at "ev") (by assumption))
local macro_rules | `(tactic| walk_at "h1") => `(tactic| first
  | with_reducible refine HS.ost ?_
  | with_reducible refine HS.fldV ?_
  | with_reducible refine HS.newV ?_
  | with_reducible refine HS.newK ?_
  | ((with_reducible refine' HS.isV ?T ?he ?hq ?_); (case T => assumption); (case he => walk_at "ev"); (case hq => assumption))
  | ((with_reducible refine' HS.isVt ?T ?he ?hq ?_); (case T => assumption); (case he => walk_at "ev"); (case hq => assumption)))
local macro_rules | `(tactic| walk_at "h1") => `(tactic| first
  | with_reducible refine HS.dget ?_
  | with_reducible refine HS.dput ?_
  | with_reducible refine HS.daug ?_
  | ((with_reducible refine' HS.bgG ?e ?_); case e => walk_at "hp")
  | ((with_reducible refine' HS.bgL ?e ?_); case e => walk_at "hp")
  | ((with_reducible refine' HS.bgT ?e ?_); case e => walk_at "hp")
  | ((with_reducible refine' HS.bgB ?e ?_); case e => walk_at "hp")
  | ((with_reducible refine' HS.bagL ?e ?_); case e => walk_at "hp")
  | ((with_reducible refine' HS.bagT ?e ?_); case e => walk_at "hp"))
local macro_rules | `(tactic| walk_at "h1") => `(tactic| first
  | with_reducible refine HS.caln ?_
  | with_reducible refine HS.ckw ?_
  | with_reducible refine HS.izip ?_
  | with_reducible refine HS.orT ?_
  | with_reducible refine HS.srv ?_
  | with_reducible refine HS.nt ?_
  | with_reducible refine HS.nf ?_
  | ((with_reducible refine' HS.lnn ?e ?f ?_); (case e => rfl); (case f => rfl)))
local macro_rules | `(tactic| walk_at "h1") => `(tactic| first
  | with_reducible refine HS.mkO ?_
  | with_reducible refine HS.callS ?_
  | with_reducible refine HS.xf ?_)
local macro_rules | `(tactic| walk_at "h1") => `(tactic| first
  | with_reducible refine HS.ofld ?_
  | with_reducible refine HS.osfl ?_
  | with_reducible refine HS.omet ?_
  | with_reducible refine HS.opro ?_
  | with_reducible refine HS.omak ?_)
local macro_rules | `(tactic| walk_at "h1") => `(tactic| first
  | with_reducible refine HS.omtS ?_
  | with_reducible refine HS.omtN ?_
  | with_reducible refine HS.omkS ?_
  | with_reducible refine HS.omkN ?_
  | with_reducible refine HS.fldX ?_
  | ((with_reducible refine' HS.gunl ?e ?f ?_); (case e => walk_at "sq"); (case f => rfl)))
local macro_rules | `(tactic| walk_at "sub") => `(tactic| repeat' (first | exact List.Sublist.slnil | exact List.nil_sublist _ | apply List.Sublist.cons₂ | apply List.Sublist.cons))
local macro_rules | `(tactic| walk_at "h1") => `(tactic| first
  | with_reducible refine HS.oenA ?_
  | with_reducible refine HS.omR ?_
  | with_reducible refine HS.fldP ?_
  | ((with_reducible refine' HS.mxd ?e ?_ ?_); case e => walk_at "sq"))
def topS (i : Nat) : Stmt := PySem.Challenge.pw_pagecounts_k07_sizes_with_a_number_of_pa.main.body.getD i (.Pass ⟨0, 0, 0, 0⟩)
abbrev s_InvalidBook___init__ : Stmt := HS.inS (topS 3) 0
abbrev N_InvalidBook___init__ : List Str := ["self", "value"]
theorem sc_InvalidBook___init__ : FnScope N_InvalidBook___init__ ["self", "value"] (defScope s_InvalidBook___init__) := ⟨rfl, rfl, rfl, by decide +kernel, rfl, by decide +kernel, by decide +kernel⟩
abbrev s_check_book : Stmt := topS 5
abbrev N_check_book : List Str := ["book", "index", "length"]
theorem sc_check_book : FnScope N_check_book ["book"] (defScope s_check_book) := ⟨rfl, rfl, rfl, by decide +kernel, rfl, by decide +kernel, by decide +kernel⟩
abbrev s_count_pages : Stmt := topS 7
abbrev N_count_pages : List Str := ["book", "size", "length"]
theorem sc_count_pages : FnScope N_count_pages ["book", "size"] (defScope s_count_pages) := ⟨rfl, rfl, rfl, by decide +kernel, rfl, by decide +kernel, by decide +kernel⟩
abbrev s_search_size : Stmt := topS 10
abbrev N_search_size : List Str := ["book", "most", "low", "high", "middle"]
theorem sc_search_size : FnScope N_search_size ["book", "most"] (defScope s_search_size) := ⟨rfl, rfl, rfl, by decide +kernel, rfl, by decide +kernel, by decide +kernel⟩
abbrev s_sizes_with : Stmt := topS 9
abbrev N_sizes_with : List Str := ["book", "number", "least"]
theorem sc_sizes_with : FnScope N_sizes_with ["book", "number"] (defScope s_sizes_with) := ⟨rfl, rfl, rfl, by decide +kernel, rfl, by decide +kernel, by decide +kernel⟩
abbrev s_LiveBook__change_to : Stmt := HS.inS (topS 12) 11
abbrev N_LiveBook__change_to : List Str := ["self", "lengths"]
theorem sc_LiveBook__change_to : FnScope N_LiveBook__change_to ["self", "lengths"] (defScope s_LiveBook__change_to) := ⟨rfl, rfl, rfl, by decide +kernel, rfl, by decide +kernel, by decide +kernel⟩
abbrev s_LiveBook___init__ : Stmt := HS.inS (topS 12) 0
abbrev N_LiveBook___init__ : List Str := ["self", "book"]
theorem sc_LiveBook___init__ : FnScope N_LiveBook___init__ ["self", "book"] (defScope s_LiveBook___init__) := ⟨rfl, rfl, rfl, by decide +kernel, rfl, by decide +kernel, by decide +kernel⟩
abbrev s_LiveBook_add : Stmt := HS.inS (topS 12) 5
abbrev N_LiveBook_add : List Str := ["self", "lengths"]
theorem sc_LiveBook_add : FnScope N_LiveBook_add ["self", "lengths"] (defScope s_LiveBook_add) := ⟨rfl, rfl, rfl, by decide +kernel, rfl, by decide +kernel, by decide +kernel⟩
abbrev s_LiveBook_book : Stmt := HS.inS (topS 12) 2
abbrev N_LiveBook_book : List Str := ["self"]
theorem sc_LiveBook_book : FnScope N_LiveBook_book ["self"] (defScope s_LiveBook_book) := ⟨rfl, rfl, rfl, by decide +kernel, rfl, by decide +kernel, by decide +kernel⟩
abbrev s__law_bag : Stmt := topS 14
abbrev N__law_bag : List Str := ["script", "blend", "great", "cell"]
theorem sc__law_bag : FnScope N__law_bag ["script"] (defScope s__law_bag) := ⟨rfl, rfl, rfl, by decide +kernel, rfl, by decide +kernel, by decide +kernel⟩
abbrev s__law_draw : Stmt := topS 15
abbrev N__law_draw : List Str := ["bag", "many", "drawn", "turn", "mixed"]
theorem sc__law_draw : FnScope N__law_draw ["bag", "many"] (defScope s__law_draw) := ⟨rfl, rfl, rfl, by decide +kernel, rfl, by decide +kernel, by decide +kernel⟩
abbrev s__law_lengths : Stmt := topS 16
abbrev N__law_lengths : List Str := ["bag", "upto", "far", "found", "spot", "many"]
theorem sc__law_lengths : FnScope N__law_lengths ["bag", "upto", "far"] (defScope s__law_lengths) := ⟨rfl, rfl, rfl, by decide +kernel, rfl, by decide +kernel, by decide +kernel⟩
abbrev s__law_great : Stmt := topS 17
abbrev N__law_great : List Str := ["bag"]
theorem sc__law_great : FnScope N__law_great ["bag"] (defScope s__law_great) := ⟨rfl, rfl, rfl, by decide +kernel, rfl, by decide +kernel, by decide +kernel⟩
abbrev s__law_needed : Stmt := topS 18
abbrev N__law_needed : List Str := ["chapters", "wide", "many"]
theorem sc__law_needed : FnScope N__law_needed ["chapters", "wide"] (defScope s__law_needed) := ⟨rfl, rfl, rfl, by decide +kernel, rfl, by decide +kernel, by decide +kernel⟩
abbrev s__law_first : Stmt := topS 19
abbrev N__law_first : List Str := ["chapters", "most", "low", "high", "middle"]
theorem sc__law_first : FnScope N__law_first ["chapters", "most"] (defScope s__law_first) := ⟨rfl, rfl, rfl, by decide +kernel, rfl, by decide +kernel, by decide +kernel⟩
abbrev s__law_right : Stmt := topS 20
abbrev N__law_right : List Str := ["told", "chapters", "pages_wanted", "low", "high"]
theorem sc__law_right : FnScope N__law_right ["told", "chapters", "pages_wanted"] (defScope s__law_right) := ⟨rfl, rfl, rfl, by decide +kernel, rfl, by decide +kernel, by decide +kernel⟩
abbrev s__law_longer : Stmt := topS 21
abbrev N__law_longer : List Str := ["bag", "chapters", "live", "many"]
theorem sc__law_longer : FnScope N__law_longer ["bag", "chapters"] (defScope s__law_longer) := ⟨rfl, rfl, rfl, by decide +kernel, rfl, by decide +kernel, by decide +kernel⟩
abbrev s_law : Stmt := topS 22
abbrev N_law : List Str := ["script", "bag", "turn", "chapters", "wide", "there", "some", "pages_wanted", "told", "fits", "one", "size_now"]
theorem sc_law : FnScope N_law ["script"] (defScope s_law) := ⟨rfl, rfl, rfl, by decide +kernel, rfl, by decide +kernel, by decide +kernel⟩
structure Ad where
  a_InvalidBook___init__ : Addr
  d_InvalidBook___init__ : FuncData
  a_check_book : Addr
  d_check_book : FuncData
  a_count_pages : Addr
  d_count_pages : FuncData
  a_search_size : Addr
  d_search_size : FuncData
  a_sizes_with : Addr
  d_sizes_with : FuncData
  a_LiveBook__change_to : Addr
  d_LiveBook__change_to : FuncData
  a_LiveBook___init__ : Addr
  d_LiveBook___init__ : FuncData
  a_LiveBook_add : Addr
  d_LiveBook_add : FuncData
  a_LiveBook_book : Addr
  d_LiveBook_book : FuncData
  a__law_bag : Addr
  d__law_bag : FuncData
  a__law_draw : Addr
  d__law_draw : FuncData
  a__law_lengths : Addr
  d__law_lengths : FuncData
  a__law_great : Addr
  d__law_great : FuncData
  a__law_needed : Addr
  d__law_needed : FuncData
  a__law_first : Addr
  d__law_first : FuncData
  a__law_right : Addr
  d__law_right : FuncData
  a__law_longer : Addr
  d__law_longer : FuncData
  a_law : Addr
  d_law : FuncData
  c_BookError : Addr
  c_InvalidBook : Addr
  c_LiveBook : Addr
  p_LiveBook_book : Addr
structure Txt (K : PySem.W.Frag) (mg : Str → Option Value) (A : Ad) : Prop where
  F_InvalidBook___init__ : Fun K "__init__" "InvalidBook.__init__" s_InvalidBook___init__ A.a_InvalidBook___init__ A.d_InvalidBook___init__
  b_InvalidBook___init__ : Binds K A.d_InvalidBook___init__ ["self", "value"] []
  F_check_book : Fun K "check_book" "check_book" s_check_book A.a_check_book A.d_check_book
  g_check_book : mg "check_book" = some (.ref A.a_check_book)
  b_check_book : Binds K A.d_check_book ["book"] []
  F_count_pages : Fun K "count_pages" "count_pages" s_count_pages A.a_count_pages A.d_count_pages
  g_count_pages : mg "count_pages" = some (.ref A.a_count_pages)
  b_count_pages : Binds K A.d_count_pages ["book", "size"] []
  F_search_size : Fun K "search_size" "search_size" s_search_size A.a_search_size A.d_search_size
  g_search_size : mg "search_size" = some (.ref A.a_search_size)
  b_search_size : Binds K A.d_search_size ["book", "most"] []
  F_sizes_with : Fun K "sizes_with" "sizes_with" s_sizes_with A.a_sizes_with A.d_sizes_with
  g_sizes_with : mg "sizes_with" = some (.ref A.a_sizes_with)
  b_sizes_with : Binds K A.d_sizes_with ["book", "number"] []
  F_LiveBook__change_to : Fun K "_change_to" "LiveBook._change_to" s_LiveBook__change_to A.a_LiveBook__change_to A.d_LiveBook__change_to
  b_LiveBook__change_to : Binds K A.d_LiveBook__change_to ["self", "lengths"] []
  F_LiveBook___init__ : Fun K "__init__" "LiveBook.__init__" s_LiveBook___init__ A.a_LiveBook___init__ A.d_LiveBook___init__
  b_LiveBook___init__ : Binds K A.d_LiveBook___init__ ["self", "book"] []
  F_LiveBook_add : Fun K "add" "LiveBook.add" s_LiveBook_add A.a_LiveBook_add A.d_LiveBook_add
  bs_LiveBook_add : ∀ us rest : List Value, us.length = 1 → bindArgs A.d_LiveBook_add ⟨us ++ rest, []⟩ = (newTuple rest >>= fun t => pure ((["self"] : List Str).zip us ++ [(("lengths" : Str), t)]))
  F_LiveBook_book : Fun K "book" "LiveBook.book" s_LiveBook_book A.a_LiveBook_book A.d_LiveBook_book
  b_LiveBook_book : Binds K A.d_LiveBook_book ["self"] []
  F__law_bag : Fun K "_law_bag" "_law_bag" s__law_bag A.a__law_bag A.d__law_bag
  g__law_bag : mg "_law_bag" = some (.ref A.a__law_bag)
  b__law_bag : Binds K A.d__law_bag ["script"] []
  F__law_draw : Fun K "_law_draw" "_law_draw" s__law_draw A.a__law_draw A.d__law_draw
  g__law_draw : mg "_law_draw" = some (.ref A.a__law_draw)
  b__law_draw : Binds K A.d__law_draw ["bag", "many"] []
  F__law_lengths : Fun K "_law_lengths" "_law_lengths" s__law_lengths A.a__law_lengths A.d__law_lengths
  g__law_lengths : mg "_law_lengths" = some (.ref A.a__law_lengths)
  b__law_lengths : Binds K A.d__law_lengths ["bag", "upto", "far"] []
  F__law_great : Fun K "_law_great" "_law_great" s__law_great A.a__law_great A.d__law_great
  g__law_great : mg "_law_great" = some (.ref A.a__law_great)
  b__law_great : Binds K A.d__law_great ["bag"] []
  F__law_needed : Fun K "_law_needed" "_law_needed" s__law_needed A.a__law_needed A.d__law_needed
  g__law_needed : mg "_law_needed" = some (.ref A.a__law_needed)
  b__law_needed : Binds K A.d__law_needed ["chapters", "wide"] []
  F__law_first : Fun K "_law_first" "_law_first" s__law_first A.a__law_first A.d__law_first
  g__law_first : mg "_law_first" = some (.ref A.a__law_first)
  b__law_first : Binds K A.d__law_first ["chapters", "most"] []
  F__law_right : Fun K "_law_right" "_law_right" s__law_right A.a__law_right A.d__law_right
  g__law_right : mg "_law_right" = some (.ref A.a__law_right)
  b__law_right : Binds K A.d__law_right ["told", "chapters", "pages_wanted"] []
  F__law_longer : Fun K "_law_longer" "_law_longer" s__law_longer A.a__law_longer A.d__law_longer
  g__law_longer : mg "_law_longer" = some (.ref A.a__law_longer)
  b__law_longer : Binds K A.d__law_longer ["bag", "chapters"] []
  F_law : Fun K "law" "law" s_law A.a_law A.d_law
  g_law : mg "law" = some (.ref A.a_law)
  b_law : Binds K A.d_law ["script"] []
  z_abs : mg "abs" = none
  z_enumerate : mg "enumerate" = none
  z_isinstance : mg "isinstance" = none
  z_len : mg "len" = none
  z_list : mg "list" = none
  z_max : mg "max" = none
  z_min : mg "min" = none
  z_range : mg "range" = none
  z_sum : mg "sum" = none
  z_tuple : mg "tuple" = none
  kb_sizes_with_0_number_book : HS.KBX K A.d_sizes_with ["book", "number"] 0 ["number", "book"] (fun us ws => [ws.getD 1 .none, ws.getD 0 .none]) (fun vs zs => [zs.getD 1 .non, zs.getD 0 .non])
  m_BookError : mg "BookError" = some (.ref A.c_BookError)
  m_InvalidBook : mg "InvalidBook" = some (.ref A.c_InvalidBook)
  m_LiveBook : mg "LiveBook" = some (.ref A.c_LiveBook)
  C_LiveBook : Cls K A.c_LiveBook
  n_LiveBook__lengths : NoAttr K A.c_LiveBook "_lengths"
  n_LiveBook__past : NoAttr K A.c_LiveBook "_past"
  M_LiveBook__change_to : Meth K A.c_LiveBook "_change_to" A.a_LiveBook__change_to
  K_LiveBook : Mk K A.c_LiveBook A.a_LiveBook___init__
  M_LiveBook_add : Meth K A.c_LiveBook "add" A.a_LiveBook_add
  P_LiveBook_book : PropOf K A.c_LiveBook "book" A.p_LiveBook_book A.a_LiveBook_book
  C_InvalidBook : OexC K A.c_InvalidBook
  V_InvalidBook : ExcC K A.c_InvalidBook
  X_InvalidBook : XfC K A.c_InvalidBook
  n_InvalidBook : PySem.W.findIn K (.ref A.c_InvalidBook) "value" = some none
  i_InvalidBook : PySem.W.findIn K (.ref A.c_InvalidBook) "__init__" = some (some (.ref A.a_InvalidBook___init__))
  t_InvalidBook : PySem.W.typeIn K (.ref A.a_InvalidBook___init__) = some (.type "function")
  k_InvalidBook : KBn K A.d_InvalidBook___init__ ["self", "value"] 1 ["value"] (fun us ws => us ++ ws) (fun vs zs => vs ++ zs)
  q_InvalidBook_BookError : PySem.W.kitOne K (.ref A.c_InvalidBook) (.ref A.c_BookError) = some true
  q_InvalidBook_InvalidBook : PySem.W.kitOne K (.ref A.c_InvalidBook) (.ref A.c_InvalidBook) = some true
  q_InvalidBook_ValueError : PySem.W.kitOne K (.ref A.c_InvalidBook) (.type "ValueError") = some true
/-- the source of draws at s, its digits at d; n: at most so many mixed draws so far -/
def Src (H : Hp) (s d : Addr) (n : Nat) : Prop := s ≠ d ∧ ∃ (gs : List Int) (l m c : Int), H s = some (.lst [.ref d, .int l, .int m, .int c]) ∧ H d = some (.lst (gs.map V.int)) ∧ (∀ x ∈ gs, 0 ≤ x) ∧ gs.length ≤ 63 ∧ 0 ≤ l ∧ 0 ≤ m ∧ m < 2 ^ 61 ∧ 0 ≤ c ∧ c ≤ n
/-- lengths of chapters -/
def Book (ls : List Int) : Prop := ∀ x ∈ ls, 1 ≤ x ∧ x < 10 ^ 30
theorem Src.keep {H H' : Hp} {s d : Addr} {n : Nat} (h : Src H s d n) (e1 : H' s = H s) (e2 : H' d = H d) : Src H' s d n := by
  obtain ⟨hsd, gs, l, m, c, h1, h2, h3⟩ := h
  exact ⟨hsd, gs, l, m, c, by rw [e1]; exact h1, by rw [e2]; exact h2, h3⟩
theorem Src.new {H : Hp} {s d p : Addr} {n : Nat} {o : HO} (h : Src H s d n) (hp : H p = none) : Src (upd H p o) s d n := by
  obtain ⟨hsd, gs, l, m, c, h1, h2, h3⟩ := h
  exact ⟨hsd, gs, l, m, c, by rw [upd_ne (ne_of_none h1 hp)]; exact h1, by rw [upd_ne (ne_of_none h2 hp)]; exact h2, h3⟩
theorem Src.put {H : Hp} {s d p : Addr} {n : Nat} {o : HO} (h : Src H s d n) (e1 : p ≠ s) (e2 : p ≠ d) : Src (upd H p o) s d n := by
  obtain ⟨hsd, gs, l, m, c, h1, h2, h3⟩ := h
  exact ⟨hsd, gs, l, m, c, by rw [upd_ne e1.symm]; exact h1, by rw [upd_ne e2.symm]; exact h2, h3⟩
theorem Src.ne1 {H : Hp} {s d p : Addr} {n : Nat} (h : Src H s d n) (hp : H p = none) : p ≠ s := by
  obtain ⟨hsd, gs, l, m, c, h1, h2, h3⟩ := h
  exact (ne_of_none h1 hp).symm
theorem Src.ne2 {H : Hp} {s d p : Addr} {n : Nat} (h : Src H s d n) (hp : H p = none) : p ≠ d := by
  obtain ⟨hsd, gs, l, m, c, h1, h2, h3⟩ := h
  exact (ne_of_none h2 hp).symm
theorem Src.up {H : Hp} {s d : Addr} {n m : Nat} (h : Src H s d n) (e : n ≤ m) : Src H s d m := by
  obtain ⟨hsd, gs, l, m', c, h1, h2, h3, h4, h5, h6, h7, h8, h9⟩ := h
  exact ⟨hsd, gs, l, m', c, h1, h2, h3, h4, h5, h6, h7, h8, by omega⟩
/-- the page count of an edition -/
def pcount (ls : List Int) (j : Int) : Int := (ls.map fun x => (x + j - 1) / j).sum
theorem pcount_nil (j : Int) : pcount [] j = 0 := rfl
theorem pcount_cons (x : Int) (ls : List Int) (j : Int) : pcount (x :: ls) j = (x + j - 1) / j + pcount ls j := by unfold pcount; rw [List.map_cons, List.sum_cons]
theorem pcount_append (xs ys : List Int) (j : Int) : pcount (xs ++ ys) j = pcount xs j + pcount ys j := by unfold pcount; rw [List.map_append, List.sum_append]
/-- a page for each chapter, and one more for each full page of its other lines -/
theorem pcount_less1 {j : Int} (hj : 1 ≤ j) : ∀ ls : List Int, (ls.length : Int) + (ls.map fun x => (x - 1) / j).sum = pcount ls j
  | [] => rfl
  | x :: r => by
    have e : (x + j - 1) / j = (x - 1) / j + 1 := by rw [show x + j - 1 = (x - 1) + j * 1 by omega, Int.add_mul_ediv_left _ _ (by omega)]
    rw [pcount_cons, ← pcount_less1 hj r, e, List.length_cons, List.map_cons, List.sum_cons]
    push_cast
    omega
theorem pcount_take {ls : List Int} {i : Nat} {x : Int} (j : Int) (h : ls[i]? = some x) : pcount (ls.take (i + 1)) j = pcount (ls.take i) j + (x + j - 1) / j := by
  obtain ⟨h1, h2⟩ := List.getElem?_eq_some_iff.mp h
  rw [List.take_add_one, h, pcount_append]
  show _ + pcount [x] j = _
  rw [pcount_cons, pcount_nil]; omega
theorem ceil_pos {x j : Int} (hx : 1 ≤ x) (hj : 1 ≤ j) : 1 ≤ (x + j - 1) / j := by
  rw [Int.le_ediv_iff_mul_le (by omega)]; omega
theorem pcount_len {ls : List Int} {j : Int} (hp : ∀ x ∈ ls, 1 ≤ x) (hj : 1 ≤ j) : (ls.length : Int) ≤ pcount ls j := by
  induction ls with
  | nil => exact Int.le_refl 0
  | cons x r ih =>
    rw [pcount_cons, List.length_cons]
    have := ceil_pos (hp x List.mem_cons_self) hj
    have := ih fun y hy => hp y (List.mem_cons_of_mem _ hy)
    omega
theorem pcount_pos {ls : List Int} {j : Int} (hp : ∀ x ∈ ls, 1 ≤ x) (hj : 1 ≤ j) : 0 ≤ pcount ls j := by
  have := pcount_len hp hj; omega
theorem take_all {ls : List Int} {P : Int → Prop} (h : ∀ x ∈ ls, P x) (n : Nat) : ∀ x ∈ ls.take n, P x := fun x hx => h x (List.mem_of_mem_take hx)
theorem Src.same {H H' : Hp} {s d : Addr} {n : Nat} (h : Src H s d n) (k : HS.Keep (fun _ => False) H H') : Src H' s d n := by
  obtain ⟨hsd, gs, l, m, c, h1, h2, h3⟩ := h
  exact ⟨hsd, gs, l, m, c, k _ _ h1 id, k _ _ h2 id, h3⟩
theorem sum_book {ls : List Int} (h : Book ls) : (ls.length : Int) ≤ ls.sum ∧ ls.sum ≤ ls.length * (10 ^ 30) := by
  induction ls with
  | nil => exact ⟨Int.le_refl _, Int.le_refl _⟩
  | cons x r ih =>
    have := ih fun y hy => h y (List.mem_cons_of_mem _ hy)
    have := h x List.mem_cons_self
    rw [List.sum_cons, List.length_cons]
    push_cast
    omega
/-! Sums of ceilings. -/
theorem ceil_le {x j q : Int} (hj : 1 ≤ j) : (x + j - 1) / j ≤ q ↔ x ≤ q * j := by
  rw [← Int.lt_add_one_iff, Int.ediv_lt_iff_lt_mul (by omega), Int.add_mul]
  omega
theorem ceil_up {x j : Int} (hj : 1 ≤ j) : x ≤ (x + j - 1) / j * j := (ceil_le hj).mp (Int.le_refl _)
theorem ceil_dn {x j : Int} (hj : 1 ≤ j) : (x + j - 1) / j * j ≤ x + j - 1 := Int.ediv_mul_le _ (by omega)
theorem ceil_nonneg {x j : Int} (hx : 0 ≤ x) (hj : 1 ≤ j) : 0 ≤ (x + j - 1) / j := Int.ediv_nonneg (by omega) (by omega)
theorem pcount_up (ls : List Int) {j : Int} (hj : 1 ≤ j) : ls.sum ≤ pcount ls j * j := by
  induction ls with
  | nil => rw [pcount_nil]; simp
  | cons x r ih =>
    rw [pcount_cons, List.sum_cons, Int.add_mul]
    have := ceil_up (x := x) hj
    omega
theorem pcount_ceil (ls : List Int) {j : Int} (hj : 1 ≤ j) : (ls.sum + j - 1) / j ≤ pcount ls j := (ceil_le hj).mpr (pcount_up ls hj)
theorem pcount_dn (ls : List Int) {j : Int} (hj : 1 ≤ j) : (pcount ls j - ls.length) * j ≤ ls.sum - ls.length := by
  induction ls with
  | nil => rw [pcount_nil]; simp
  | cons x r ih =>
    rw [pcount_cons, List.sum_cons, List.length_cons]
    have := ceil_dn (x := x) hj
    have e : ((x + j - 1) / j + pcount r j - ((r.length + 1 : Nat) : Int)) * j = (x + j - 1) / j * j - j + (pcount r j - r.length) * j := by
      rw [show ((x + j - 1) / j + pcount r j - ((r.length + 1 : Nat) : Int)) = ((x + j - 1) / j - 1) + (pcount r j - r.length) by push_cast; omega, Int.add_mul, Int.sub_mul, Int.one_mul]
    rw [e]
    push_cast
    omega
theorem pcount_most (ls : List Int) {j : Int} (hj : 1 ≤ j) : pcount ls j ≤ ls.length + (ls.sum - ls.length) / j := by
  have := (Int.le_ediv_iff_mul_le (by omega : 0 < j)).mpr (pcount_dn ls hj)
  omega
theorem pcount_anti {ls : List Int} {j k : Int} (hp : ∀ x ∈ ls, 1 ≤ x) (hj : 1 ≤ j) (hk : j ≤ k) : pcount ls k ≤ pcount ls j := by
  induction ls with
  | nil => exact Int.le_refl _
  | cons x r ih =>
    rw [pcount_cons, pcount_cons]
    have h1 := ih fun y hy => hp y (List.mem_cons_of_mem _ hy)
    have hx := hp x List.mem_cons_self
    have h2 : (x + k - 1) / k ≤ (x + j - 1) / j := (ceil_le (by omega)).mpr (Int.le_trans (ceil_up hj) (Int.mul_le_mul_of_nonneg_left hk (ceil_nonneg (by omega) hj)))
    omega
theorem pcount_mult {ls : List Int} {j m : Int} (hj : 1 ≤ j) (hm : 1 ≤ m) : pcount ls j ≤ m * pcount ls (j * m) := by
  have hjm : 1 ≤ j * m := by have := Int.mul_le_mul hj hm (by omega) (by omega); omega
  induction ls with
  | nil => rw [pcount_nil, pcount_nil, Int.mul_zero]; exact Int.le_refl _
  | cons x r ih =>
    rw [pcount_cons, pcount_cons, Int.mul_add]
    have h2 : (x + j - 1) / j ≤ m * ((x + j * m - 1) / (j * m)) := (ceil_le hj).mpr (by
      have := ceil_up (x := x) hjm
      rw [show m * ((x + j * m - 1) / (j * m)) * j = (x + j * m - 1) / (j * m) * (j * m) by rw [Int.mul_comm m, Int.mul_assoc, Int.mul_comm m j]]
      exact this)
    omega
theorem pcount_reverse (ls : List Int) (j : Int) : pcount ls.reverse j = pcount ls j := by
  induction ls with
  | nil => rfl
  | cons x r ih => rw [List.reverse_cons, pcount_append, ih, pcount_cons, pcount_cons, pcount_nil]; omega
theorem pcount_cut (ls : List Int) (n : Nat) (j : Int) : pcount (ls.take n) j + pcount (ls.drop n) j = pcount ls j := by
  rw [← pcount_append, List.take_append_drop]
theorem ceil_join {x y j : Int} (hj : 1 ≤ j) : (x + y + j - 1) / j ≤ (x + j - 1) / j + (y + j - 1) / j ∧ (x + j - 1) / j + (y + j - 1) / j ≤ (x + y + j - 1) / j + 1 := by
  have a1 := ceil_up (x := x) hj
  have a2 := ceil_dn (x := x) hj
  have b1 := ceil_up (x := y) hj
  have b2 := ceil_dn (x := y) hj
  have c1 := ceil_up (x := x + y) hj
  refine ⟨(ceil_le hj).mpr (by rw [Int.add_mul]; omega), ?_⟩
  generalize (x + j - 1) / j = p at *
  generalize (y + j - 1) / j = q at *
  generalize (x + y + j - 1) / j = r at *
  apply Int.le_of_lt_add_one
  apply Int.lt_of_not_ge
  intro h
  have h1 : (r + 2) * j ≤ (p + q) * j := Int.mul_le_mul_of_nonneg_right (by omega) (by omega)
  rw [Int.add_mul, Int.add_mul] at h1
  omega
theorem pcount_sum {ls : List Int} {j : Int} (hp : ∀ x ∈ ls, 1 ≤ x) (hl : (ls.length : Int) ≤ ls.sum) (hj : 1 ≤ j) : pcount ls j ≤ ls.sum := by
  have := pcount_most ls hj
  have := Int.ediv_le_self j (show 0 ≤ ls.sum - ls.length by omega)
  omega
/-- the first place of a length below 1 -/
def badAt : List Int → Option Nat
  | [] => none
  | x :: r => if x < 1 then some 0 else (badAt r).map (· + 1)
theorem badAt_none : ∀ {ls : List Int}, (∀ x ∈ ls, 1 ≤ x) → badAt ls = none
  | [], _ => rfl
  | x :: r, h => by
    have h1 := h x List.mem_cons_self
    rw [badAt, if_neg (by omega), badAt_none fun y hy => h y (List.mem_cons_of_mem _ hy)]; rfl
theorem badAt_some : ∀ {ls : List Int}, (∃ x ∈ ls, x < 1) → ∃ i, badAt ls = some i
  | [], h => by obtain ⟨x, hx, _⟩ := h; cases hx
  | x :: r, h => by
    rw [badAt]
    by_cases h1 : x < 1
    · exact ⟨0, by rw [if_pos h1]⟩
    · obtain ⟨y, hy, h2⟩ := h
      rcases List.mem_cons.mp hy with e | hy
      · subst e; exact absurd h2 h1
      · obtain ⟨i, e⟩ := badAt_some ⟨y, hy, h2⟩
        exact ⟨i + 1, by rw [if_neg h1, e]; rfl⟩
/-- the places of the lengths below 1 -/
def badsFrom : Nat → List Int → List Int
  | _, [] => []
  | k, x :: r => if x < 1 then (k : Int) :: badsFrom (k + 1) r else badsFrom (k + 1) r
theorem badsFrom_snoc : ∀ (k : Nat) (ls : List Int) (x : Int), badsFrom k (ls ++ [x]) = badsFrom k ls ++ (if x < 1 then [((k + ls.length : Nat) : Int)] else [])
  | k, [], x => by
    show badsFrom k [x] = _
    rw [badsFrom, badsFrom, badsFrom]
    show _ = if x < 1 then [((k + 0 : Nat) : Int)] else []
    rw [Nat.add_zero]
  | k, y :: r, x => by
    rw [List.cons_append, badsFrom, badsFrom, badsFrom_snoc (k + 1) r x, List.length_cons, show k + 1 + r.length = k + (r.length + 1) by omega]
    split <;> rfl
theorem badsFrom_len (k : Nat) : ∀ ls : List Int, (badsFrom k ls).length ≤ ls.length
  | [] => Nat.le_refl _
  | x :: r => by
    have := badsFrom_len (k + 1) r
    rw [badsFrom]
    split
    · rw [List.length_cons, List.length_cons]; omega
    · rw [List.length_cons]; omega
theorem badsFrom_head : ∀ (k : Nat) (ls : List Int) (i : Nat), badAt ls = some i → (badsFrom k ls)[0]? = some ((k + i : Nat) : Int)
  | k, x :: r, i, h => by
    rw [badAt] at h
    rw [badsFrom]
    by_cases h1 : x < 1
    · rw [if_pos h1] at h ⊢
      injection h with h; subst h; rfl
    · rw [if_neg h1] at h ⊢
      obtain ⟨j, e, rfl⟩ := Option.map_eq_some_iff.mp h
      rw [badsFrom_head (k + 1) r j e, show k + 1 + j = k + (j + 1) by omega]
/-- what a live book keeps: its lengths at b, its past at p -/
def lf (b p : Addr) : List (Str × V) := [("_lengths", V.ref b), ("_past", V.ref p)]
theorem lf_ne : (("_past" : Str) == "_lengths") = false := by decide +kernel
theorem lf_ne2 : ¬ (("_lengths" : Str) = "_past") := by decide +kernel
theorem lf_lengths (b p : Addr) : (lf b p).lookup ("_lengths" : Str) = some (.ref b) := by
  unfold lf; rw [List.lookup_cons, beq_self_eq_true]
theorem lf_past (b p : Addr) : (lf b p).lookup ("_past" : Str) = some (.ref p) := by
  unfold lf; rw [List.lookup_cons, lf_ne, List.lookup_cons, beq_self_eq_true]
theorem lf_no {b p : Addr} {m : Str} (h1 : (m == "_lengths") = false) (h2 : (m == "_past") = false) : (lf b p).lookup m = none := by
  unfold lf; rw [List.lookup_cons, h1, List.lookup_cons, h2]; rfl
theorem lf_put (b c p : Addr) : putF "_lengths" (.ref c) (lf b p) = lf c p := by
  unfold lf putF
  rw [if_pos rfl]
theorem lf_new (b p : Addr) : putF "_past" (.ref p) (putF "_lengths" (.ref b) []) = lf b p := by
  show (if ("_lengths" : Str) = "_past" then _ else (("_lengths" : Str), V.ref b) :: putF "_past" (V.ref p) []) = _
  rw [if_neg lf_ne2]
  rfl
/-- a live book at o: the object of the class at C, its lengths ls at b, its past, the lists at ps, at p -/
structure LivAt (C : Addr) (H : Hp) (o b p dx : Addr) (ls : List Int) (ps : List Addr) : Prop where
  eo : H o = some (.ins C dx (lf b p))
  eb : H b = some (.lst (ls.map V.int))
  ep : H p = some (.lst (ps.map V.ref))
  bp : b ≠ p
section
variable {C o b p dx q : Addr} {H H' : Hp} {ls : List Int} {ps : List Addr}
theorem LivAt.same (h : LivAt C H o b p dx ls ps) (k : HS.Keep (fun _ => False) H H') : LivAt C H' o b p dx ls ps := ⟨k _ _ h.eo id, k _ _ h.eb id, k _ _ h.ep id, h.bp⟩
theorem LivAt.ob (h : LivAt C H o b p dx ls ps) : b ≠ o := fun e => by have h1 := h.eo; rw [← e, h.eb] at h1; cases h1
theorem LivAt.op (h : LivAt C H o b p dx ls ps) : p ≠ o := fun e => by have h1 := h.eo; rw [← e, h.ep] at h1; cases h1
theorem LivAt.new {u : HO} (h : LivAt C H o b p dx ls ps) (hq : H q = none) : LivAt C (upd H q u) o b p dx ls ps := h.same (.new hq)
end
open HS in
/-- the bag of draws -/
def Bag (H : Hp) (s d : Addr) (n : Nat) : Prop := s ≠ d ∧ ∃ (gs : List Int) (l c m : Int), H s = some (.dK (cells d l c m)) ∧ H d = some (.lst (gs.map V.int)) ∧ (∀ x ∈ gs, 0 ≤ x) ∧ gs.length ≤ 63 ∧ 0 ≤ l ∧ 0 ≤ m ∧ m < 2 ^ 61 ∧ 0 ≤ c ∧ c ≤ n
/-- the law's bag, its dict and its list as two of the objects told -/
def BagO (d : Addr) (n : Nat) : HO → Prop := fun o => ∃ l c m : Int, o = .dK (HS.cells d l c m) ∧ 0 ≤ l ∧ 0 ≤ m ∧ m < 2 ^ 61 ∧ 0 ≤ c ∧ c ≤ n
def GreatO : HO → Prop := fun o => ∃ gs : List Int, o = .lst (gs.map V.int) ∧ (∀ x ∈ gs, 0 ≤ x) ∧ gs.length ≤ 63
section
variable {H0 H H' : Hp} {S : Addr → Prop} {l : HS.WdL} {s d : Addr} {n m i j : Nat}
theorem bag_o (h : Bag H s d n) : (∃ o, H s = some o ∧ BagO d n o) ∧ ∃ o, H d = some o ∧ GreatO o := by
  obtain ⟨_, gs, l, c, m, h1, h2, h3, h4, h5, h6, h7, h8, h9⟩ := h
  exact ⟨⟨_, h1, l, c, m, rfl, h5, h6, h7, h8, h9⟩, _, h2, gs, rfl, h3, h4⟩
theorem wd_bag (h : Bag H s d n) (hs : S s) (hd : S d) : HS.Wd H H S [(s, BagO d n), (d, GreatO)] := by
  have hne := h.1
  obtain ⟨⟨o, h1, h2⟩, u, h3, h4⟩ := bag_o h
  exact (HS.Wd.one h1 h2 hs).old h3 h4 hd fun x hx => by rw [List.mem_singleton.mp hx]; exact hne
theorem _root_.HS.Wd.bag (W : HS.Wd H0 H S l) (i j : Nat) (e : l[i]? = some (s, BagO d n)) (f : l[j]? = some (d, GreatO)) : Bag H s d n := by
  obtain ⟨o, h, a, b, c, rfl, h2⟩ := W.get i e
  obtain ⟨u, h3, gs, rfl, h4, h5⟩ := W.get j f
  refine ⟨fun z => ?_, gs, a, b, c, h, h3, h4, h5, h2⟩
  rw [z, h3] at h
  cases h
theorem _root_.HS.Wd.bup (W : HS.Wd H0 H S l) (i : Nat) (e : l[i]? = some (s, BagO d n)) (h : n ≤ m) : HS.Wd H0 H S (l.set i (s, BagO d m)) :=
  W.weak i e fun o ⟨a, b, c, h1, h2, h3, h4, h5, h6⟩ => ⟨a, b, c, h1, h2, h3, h4, h5, by omega⟩
theorem _root_.HS.Wd.bagged (W : HS.Wd H0 H S l) (i j : Nat) (e : l[i]? = some (s, BagO d n)) (f : l[j]? = some (d, GreatO)) (k : HS.Keep (fun a => a = s ∨ a = d) H H') (b : Bag H' s d m) (h : n ≤ m) : HS.Wd H0 H' S (l.set i (s, BagO d m)) := by
  have W1 := W.bup i e h
  have hi : i < l.length := (List.getElem?_eq_some_iff.mp e).1
  have hij : i ≠ j := fun z => by
    subst z
    rw [e] at f
    have := congrArg Prod.fst (Option.some.inj f)
    exact (W.bag i i e (by rw [e]; exact f)).1 this
  have e1 : (l.set i (s, BagO d m))[i]? = some (s, BagO d m) := by rw [List.getElem?_set_self hi]
  have f1 : (l.set i (s, BagO d m))[j]? = some (d, GreatO) := by rw [List.getElem?_set_ne hij]; exact f
  obtain ⟨bs, bd⟩ := bag_o b
  refine W1.chgs k (fun a ha => ?_) fun x hx => ?_
  · rcases ha with z | z
    · rw [z]; exact W.fr _ (List.mem_of_getElem? e)
    · rw [z]; exact W.fr _ (List.mem_of_getElem? f)
  · obtain ⟨q, hq⟩ := List.getElem?_of_mem hx
    by_cases z1 : x.1 = s
    · by_cases w : i = q
      · rw [← w, e1] at hq
        cases hq
        exact .inr bs
      · exact absurd z1.symm (HS.nd_ne W1.nd e1 (show _ = some (x.1, x.2) from hq) w)
    · by_cases z2 : x.1 = d
      · by_cases w : j = q
        · rw [← w, f1] at hq
          cases hq
          exact .inr bd
        · exact absurd z2.symm (HS.nd_ne W1.nd f1 (show _ = some (x.1, x.2) from hq) w)
      · exact .inl fun z => z.elim z1 z2
end
section
variable {K : PySem.W.Frag} {H0 H H1 H' : Hp} {S : Addr → Prop} {l : HS.WdL} {p o : Addr} {xs : List V} {Q : VK}
theorem _root_.HS.Wd.st (W : HS.Wd H0 H S l) (i : Nat) (e : l[i]? = some (p, Eq (.tup xs))) : SqT K H p xs := .inl (.inl (W.at i e))
theorem _root_.HS.ixTI {i : Int} (ns : List Int) (h : SqT K H p (ns.map V.int)) (h0 : 0 ≤ i) (h1 : i < ns.length) (q : ∀ z, ns[i.toNat]? = some z → z ∈ ns → Q (.int z) H) : rIxT K (.ref p) (.int i) H Q := by
  have hi : i.toNat < ns.length := by omega
  have e : ns[i.toNat]? = some ns[i.toNat] := List.getElem?_eq_getElem hi
  exact ⟨p, ns.map V.int, i, .int ns[i.toNat], rfl, rfl, h, at_of (j := i.toNat) (by omega) (by rw [List.getElem?_map, e]; rfl), q _ e (List.getElem_mem hi)⟩
theorem keep_two (k : HS.Keep S H H1) (k2 : HS.Keep (fun a => a = o ∨ a = p) H1 H') (ho : H o = none) (hp : H p = none) : HS.Keep S H H' := fun a u e n => k2 a u (k a u e n) fun z => by
  rcases z with z | z
  · rw [z, ho] at e; cases e
  · rw [z, hp] at e; cases e
end
/-- the least size with at most m pages -/
def Least (ls : List Int) (m v : Int) : Prop := 1 ≤ v ∧ v < 2 ^ 190 ∧ pcount ls v ≤ m ∧ ∀ u, 1 ≤ u → u < v → m < pcount ls u
theorem pcount_flat : ∀ {ls : List Int} {t : Int}, (∀ x ∈ ls, 1 ≤ x) → (∀ x ∈ ls, x ≤ t) → pcount ls t = ls.length
  | [], _, _, _ => rfl
  | x :: r, t, h1, h2 => by
    have a := h1 x List.mem_cons_self
    have b := h2 x List.mem_cons_self
    rw [pcount_cons, pcount_flat (fun y hy => h1 y (List.mem_cons_of_mem x hy)) fun y hy => h2 y (List.mem_cons_of_mem x hy), List.length_cons]
    have : (x + t - 1) / t = 1 := by
      rw [show x + t - 1 = (x - 1) + t * 1 by omega, Int.add_mul_ediv_left _ _ (by omega), Int.ediv_eq_zero_of_lt (by omega) (by omega)]
      rfl
    rw [this]
    omega
/-- what sizes_with tells -/
def Told (ls : List Int) (m : Int) (H : Hp) (x : V) : Prop :=
  ((m < ls.length ∨ ∃ v, Least ls m v ∧ pcount ls v ≠ m) ∧ x = .non) ∨
  (∃ v r, x = .ref r ∧ Least ls m v ∧ pcount ls v = m ∧ ((m = ls.length ∧ H r = some (.tup [.int v, .non])) ∨ ((ls.length : Int) < m ∧ ∃ u, Least ls (m - 1) u ∧ H r = some (.tup [.int v, .int (u - 1)]))))

section
variable {P : Program} {w : World} {K : PySem.W.Frag} {mg : Str → Option Value} {base : Heap} {A : Ad}
def sp_InvalidBook___init__ (K : PySem.W.Frag) : Sp := fun vs H Q _ => ∃ (a C : Addr) (w : V), vs = [.ref a, w] ∧ (OexC K C ∧ PySem.W.findIn K (.ref C) "value" = some none ∧ H a = some (exo a C none) ∧ ∀ H' d, HS.Keep (fun x => x = a) H H' → H d = none → d ≠ a → H' a = some (exo a C (some d)) → H' d = some (exd d [("value", w)]) → Q .non H')
theorem ok_InvalidBook___init__ (T : Txt K mg A) : FnOk P w K mg base CX0 1 A.a_InvalidBook___init__ A.d_InvalidBook___init__ ["self", "value"] (sp_InvalidBook___init__ K) := by
  refine T.F_InvalidBook___init__.ok sc_InvalidBook___init__ (fun vs H Q E h => ?_) (fun cdv A0 outer s H vs Q E hr h => ?_)
  · obtain ⟨a, C, w, rfl, hw⟩ := h
    rfl
  · obtain ⟨a, C, w, rfl, hw⟩ := h
    refine ⟨_, (pss_one (ps_ost (pv 0) (pv 1))), ?_⟩
    obtain ⟨T1, hv, ha, k⟩ := hw
    walk_at "hs"
    refine ⟨a, C, rfl, T1, hv, .inl ⟨ha, fun d hd hne => ?_⟩⟩
    walk_at "hs"
    exact k _ d ((HS.Keep.new hd).at rfl) hd (by first | exact hne | exact Ne.symm hne) upd_same (by rw [upd_ne hne]; exact upd_same)
def sp_check_book (K : PySem.W.Frag) (A : Ad) : Sp := fun vs H Q E => ∃ (b : Addr) (ls : List Int), vs = [.ref b] ∧ (HS.SqA K H b (ls.map V.int) ∧ (∀ i, badAt ls = some i → ∀ H' d, HS.Keep (fun _ => False) H H' → H d = none → H' d = some (.xd [("value", .int (i : Nat))]) → E (.ref A.c_InvalidBook) (some d) H') ∧
  (badAt ls = none → ∀ H', HS.Keep (fun _ => False) H H' → Q .non H'))
theorem ok_check_book (T : Txt K mg A) : FnOk P w K mg base (L2.CX P w) 3 A.a_check_book A.d_check_book ["book"] (sp_check_book K A) := by
  have G_InvalidBook___init__ : FnOk P w K mg base CX0 1 A.a_InvalidBook___init__ A.d_InvalidBook___init__ ["self", "value"] (sp_InvalidBook___init__ K) := ok_InvalidBook___init__ T
  refine L2.Fun.okX T.F_check_book sc_check_book (fun vs H Q E h => ?_) (fun cdv A0 outer s H vs Q E hr h => ?_)
  · obtain ⟨b, ls, rfl, hw⟩ := h
    rfl
  · obtain ⟨b, ls, rfl, hw⟩ := h
    refine ⟨_, (pss_one (ps_for (passes_of rfl) rfl (HS.kenA K (HS.pi_enumA (by rfl) T.z_enumerate (pa_cons (pv 0) pa_nil))) (HS.kgt K (pg_tup rfl (pgs_cons (pg_name (i := 1) sc_check_book.nd rfl (.inl rfl)) (pgs_cons (pg_name (i := 2) sc_check_book.nd rfl (.inl rfl)) pgs_nil))))
      (pss_one (ps_if (pt_cmpR op_lt (pv 2) pe_int (nomark _))
      (pss_one (ps_raise rfl (takes_of rfl rfl rfl rfl) (pmk_oex T.C_InvalidBook T.i_InvalidBook T.t_InvalidBook G_InvalidBook___init__ hr T.b_InvalidBook___init__ .nil pass0 (by rfl) T.m_InvalidBook (pa_cons (pv 1) pa_nil))))
      pss_nil)))), ?_⟩
    obtain ⟨hb, kE, k⟩ := hw
    walk_at "hs"
    refine ⟨b, ls.map V.int, rfl, ?_⟩
    have t0 : HS.Keep (fun _ => False) H H ∧ badAt ls = (badAt (ls.drop 0)).map (· + 0) ∧ ∃ x1 x2, ([some (.ref b), none, none] : L2.St) = [some (.ref b), x1, x2] := ⟨.refl, by rw [List.drop_zero]; cases badAt ls <;> rfl, _, _, rfl⟩
    rcases hb with hb | hb
    · refine .inl ⟨hb, for_it walk_enum (fun i σ H' => HS.Keep (fun _ => False) H H' ∧ badAt ls = (badAt (ls.drop i)).map (· + i) ∧ ∃ x1 x2, σ = [some (.ref b), x1, x2]) t0 (fun i σ H' _ ⟨K', _⟩ => K'.sq hb id) ?_ ?_⟩
      · rintro i x σ H1 H2 hi ⟨K1, hd, x1, x2, rfl⟩ ⟨T1, u, v, rfl, hT, rfl, e1, e2⟩
        cases e1
        obtain ⟨z, rfl, hz, hil⟩ := HS.get_int e2
        have ez : ls.drop i = z :: ls.drop (i + 1) := by rw [List.drop_eq_getElem_cons hil]; rw [List.getElem?_eq_getElem hil] at hz; injection hz with hz; rw [hz]
        rw [ez, badAt] at hd
        have K2 := K1.put (o := .tup [V.int (i : Nat), V.int z]) (K1.free hT id)
        walk_at "hs"
        refine HS.itd (fun h1 => ?_) (fun h1 => ?_)
        · rw [if_pos h1] at hd
          have e0 : badAt ls = some i := by rw [hd, Option.map_some, Nat.zero_add]
          walk_at "hs"
          exact HS.mk1 (fun H' Q' E' b h1 h2 h3 h4 => ⟨b, _, _, rfl, h1, h2, h3, h4⟩) T.C_InvalidBook T.n_InvalidBook fun H' d k' hd' e => kE i e0 H' d (K2.trans k') (K2.free hd' id) e
        · rw [if_neg h1, Option.map_map] at hd
          walk_at "hs"
          refine ⟨K2, ?_, _, _, rfl⟩
          rw [hd]
          congr 1
          funext y
          show y + 1 + i = y + (i + 1)
          omega
      · rintro σ H1 ⟨K1, hd, x1, x2, rfl⟩
        rw [List.length_map, List.drop_length] at hd
        walk_at "hs"
        exact k hd _ K1
    · refine .inr ⟨hb, for_it HS.walk_enumT (fun i σ H' => HS.Keep (fun _ => False) H H' ∧ badAt ls = (badAt (ls.drop i)).map (· + i) ∧ ∃ x1 x2, σ = [some (.ref b), x1, x2]) t0 (fun i σ H' _ ⟨K', _⟩ => K'.st hb id) ?_ ?_⟩
      · rintro i x σ H1 H2 hi ⟨K1, hd, x1, x2, rfl⟩ ⟨T1, u, v, rfl, hT, rfl, e1, e2⟩
        cases e1
        obtain ⟨z, rfl, hz, hil⟩ := HS.get_int e2
        have ez : ls.drop i = z :: ls.drop (i + 1) := by rw [List.drop_eq_getElem_cons hil]; rw [List.getElem?_eq_getElem hil] at hz; injection hz with hz; rw [hz]
        rw [ez, badAt] at hd
        have K2 := K1.put (o := .tup [V.int (i : Nat), V.int z]) (K1.free hT id)
        walk_at "hs"
        refine HS.itd (fun h1 => ?_) (fun h1 => ?_)
        · rw [if_pos h1] at hd
          have e0 : badAt ls = some i := by rw [hd, Option.map_some, Nat.zero_add]
          walk_at "hs"
          exact HS.mk1 (fun H' Q' E' b h1 h2 h3 h4 => ⟨b, _, _, rfl, h1, h2, h3, h4⟩) T.C_InvalidBook T.n_InvalidBook fun H' d k' hd' e => kE i e0 H' d (K2.trans k') (K2.free hd' id) e
        · rw [if_neg h1, Option.map_map] at hd
          walk_at "hs"
          refine ⟨K2, ?_, _, _, rfl⟩
          rw [hd]
          congr 1
          funext y
          show y + 1 + i = y + (i + 1)
          omega
      · rintro σ H1 ⟨K1, hd, x1, x2, rfl⟩
        rw [List.length_map, List.drop_length] at hd
        walk_at "hs"
        exact k hd _ K1
def sp_count_pages (K : PySem.W.Frag) : Sp := fun vs H Q _ => ∃ (b : Addr) (ls : List Int) (j : Int), vs = [.ref b, .int j] ∧ (SqL K H b (ls.map V.int) ∧ ls.length ≤ 50000 ∧ 1 ≤ j ∧ j < 2 ^ 200 ∧ ∀ H', HS.Keep (fun _ => False) H H' → Q (.int (pcount ls j)) H')
theorem ok_count_pages (T : Txt K mg A) : FnOk P w K mg base CX0 2 A.a_count_pages A.d_count_pages ["book", "size"] (sp_count_pages K) := by
  refine T.F_count_pages.ok sc_count_pages (fun vs H Q E h => ?_) (fun cdv A0 outer s H vs Q E hr h => ?_)
  · obtain ⟨b, ls, j, rfl, hw⟩ := h
    rfl
  · obtain ⟨b, ls, j, rfl, hw⟩ := h
    refine ⟨_, (pss_one (ps_ret (pe_op op_add (pe_callB (HS.klen K) (by rfl) T.z_len PySem.boot_len (pa_cons (pv 0) pa_nil)) (pe_callB (HS.ksum K rfl) (by rfl) T.z_sum (by decide +kernel) (pa_cons (pe_lc (own := [("length", 2)]) (g := gName 2) (tt := tYes) rfl sc_count_pages.nd (HS.kil K (pi_list (pv 0))) (blkOk_by (own := [("length", 2)]) (N := N_count_pages) (sc := defScope s_count_pages) (by decide +kernel)) (fun _ _ _ _ _ => pg_name (i := 2) sc_count_pages.nd rfl (by first | exact .inl rfl | exact .inr rfl)) (fun _ _ _ _ _ => pts_nil) (fun _ _ _ _ _ => (pe_op op_fdivW (pe_op op_sub (pv 2) pe_int) (pv 1)))) pa_nil))))), ?_⟩
    obtain ⟨hb, hl, h1, h2, k⟩ := hw
    walk_at "hs"
    rw [List.length_map]
    refine ⟨⟨_, hb⟩, fun D hD => lc_list (xs := ls.map V.int) (fun i H' => HS.Keep (fun _ => False) H H' ∧ H' D = some (.lst (((ls.take i).map fun x => (x - 1) / j).map V.int))) ⟨.new hD, upd_same⟩ (fun i H' _ ⟨K', _⟩ => K'.sq hb id) ?_ ?_⟩
    · rintro i x H1 hi ⟨K1, h3⟩
      obtain ⟨z, rfl, hz, hil⟩ := HS.get_int hi
      walk_at "hs"
      refine ⟨HS.divW 200 (by omega) h2 (by decide) (by decide), ?_⟩
      refine ⟨_, h3, HS.sz (by simp; omega), K1.put hD, ?_⟩
      rw [upd_same, List.take_add_one, hz, List.map_append, List.map_append]
      rfl
    · rintro H1 ⟨K1, h3⟩
      rw [List.length_map, List.take_length] at h3
      walk_at "hs"
      rw [pcount_less1 h1]
      exact k _ K1
def sp_search_size (K : PySem.W.Frag) : Sp := fun vs H Q _ => ∃ (b : Addr) (ls : List Int) (m : Int), vs = [.ref b, .int m] ∧ (SqL K H b (ls.map V.int) ∧ (∀ x ∈ ls, 1 ≤ x ∧ x < 2 ^ 190) ∧ ls.length ≤ 1000 ∧ (ls.length : Int) ≤ m ∧ ∀ H' v, HS.Keep (fun _ => False) H H' → Least ls m v → Q (.int v) H')
theorem ok_search_size (T : Txt K mg A) : FnOk P w K mg base CX0 3 A.a_search_size A.d_search_size ["book", "most"] (sp_search_size K) := by
  have G_count_pages : FnOk P w K mg base CX0 2 A.a_count_pages A.d_count_pages ["book", "size"] (sp_count_pages K) := ok_count_pages T
  refine T.F_search_size.ok sc_search_size (fun vs H Q E h => ?_) (fun cdv A0 outer s H vs Q E hr h => ?_)
  · obtain ⟨b, ls, m, rfl, hw⟩ := h
    rfl
  · obtain ⟨b, ls, m, rfl, hw⟩ := h
    refine ⟨_, (pss_cons (ps_set (i := 2) sc_search_size.nd rfl (.inl rfl) pe_int)
    (Evl.pss_cut (ps_set (i := 3) sc_search_size.nd rfl (.inl rfl) (pe_callBK (HS.kmaxD K rfl (HS.hu65 hr)) (by rfl) T.z_max (by decide +kernel) (pa_cons (pv 0) pa_nil) (pk_cons pe_int pk_nil)))
    (pss_cons (ps_while PassesOwn.never (pt_cmpR op_lt (pv 2) (pv 3) (nomark _))
      (pss_cons (ps_set (i := 4) sc_search_size.nd rfl (.inl rfl) (pe_op op_fdivW (pe_op op_add (pv 2) (pv 3)) pe_int))
    (pss_one (ps_if (pt_cmpR op_le (pe_call G_count_pages hr (by rfl) T.g_count_pages T.F_count_pages.kp T.b_count_pages .nil pass0 (pa_cons (pv 0) (pa_cons (pv 4) pa_nil))) (pv 1) (nomark _))
      (pss_one (ps_set (i := 3) sc_search_size.nd rfl (.inl rfl) (pv 4)))
      (pss_one (ps_set (i := 2) sc_search_size.nd rfl (.inl rfl) (pe_op op_add (pv 4) pe_int)))))))
    (pss_one (ps_ret (pv 2)))))), ?_⟩
    obtain ⟨hb, hL, hn, hm, k⟩ := hw
    have h1 : ∀ x ∈ ls, 1 ≤ x := fun x hx => (hL x hx).1
    refine HS.cut (fun σ H' => H' = H ∧ ∃ top : Int, 1 ≤ top ∧ top < 2 ^ 190 ∧ pcount ls top ≤ m ∧ σ = [some (.ref b), some (.int m), some (.int 1), some (.int top), none]) ?_ ?_
    · walk_at "hs"
      · intro e
        walk_at "hs"
        refine ⟨rfl, 1, by decide, by decide, ?_, rfl⟩
        rw [e, pcount_nil]
        omega
      · intro t ht hmax
        walk_at "hs"
        refine ⟨rfl, t, (hL t ht).1, (hL t ht).2, ?_, rfl⟩
        rw [pcount_flat h1 hmax]
        exact hm
    · rintro σ H' ⟨rfl, top, t0, t1, t2, rfl⟩
      walk_at "hs"
      refine ⟨fun w σ H1 => HS.Keep (fun _ => False) H' H1 ∧ ∃ (lo hi : Int) (x4 : Option V), w = (hi - lo).toNat ∧ 1 ≤ lo ∧ lo ≤ hi ∧ hi < 2 ^ 190 ∧ pcount ls hi ≤ m ∧ (∀ u, 1 ≤ u → u < lo → m < pcount ls u) ∧ σ = [some (.ref b), some (.int m), some (.int lo), some (.int hi), x4], ⟨_, .refl, 1, top, none, rfl, Int.le_refl 1, t0, t1, t2, fun u u0 u1 => by omega, rfl⟩, ?_⟩
      rintro w σ H1 ⟨K1, lo, hi, x4, rfl, l0, l1, l2, l3, l4, rfl⟩
      walk_at "hs"
      refine HS.itd (fun c => ?_) (fun c => ?_)
      · refine ⟨fun σ' H2 => HS.Keep (fun _ => False) H' H2 ∧ ∃ (lo' hi' : Int) (x4 : Option V), hi' - lo' < hi - lo ∧ 1 ≤ lo' ∧ lo' ≤ hi' ∧ hi' < 2 ^ 190 ∧ pcount ls hi' ≤ m ∧ (∀ u, 1 ≤ u → u < lo' → m < pcount ls u) ∧ σ' = [some (.ref b), some (.int m), some (.int lo'), some (.int hi'), x4], ?_, ?_⟩
        · rintro σ' H2 ⟨K2, lo', hi', x4', d0, d1, d2, d3, d4, d5, e⟩
          exact ⟨(hi' - lo').toNat, by omega, K2, lo', hi', x4', rfl, d1, d2, d3, d4, d5, e⟩
        · walk_at "hs"
          refine ⟨b, ls, (lo + hi) / 2, rfl, K1.sq hb id, by omega, by omega, by omega, fun H2 K2 => ?_⟩
          walk_at "hs"
          refine HS.itd (fun c2 => ?_) (fun c2 => ?_)
          · walk_at "hs"
            exact ⟨K1.trans K2, lo, (lo + hi) / 2, _, by omega, l0, by omega, by omega, c2, l4, rfl⟩
          · walk_at "hs"
            refine ⟨K1.trans K2, (lo + hi) / 2 + 1, hi, _, by omega, by omega, by omega, l2, l3, fun u u0 u1 => ?_, rfl⟩
            have := pcount_anti h1 u0 (show u ≤ (lo + hi) / 2 by omega)
            omega
      · walk_at "hs"
        have e : lo = hi := by omega
        subst e
        exact k _ _ K1 ⟨l0, l2, l3, l4⟩
def sp_sizes_with (K : PySem.W.Frag) : Sp := fun vs H Q _ => ∃ (b : Addr) (ls : List Int) (m : Int), vs = [.ref b, .int m] ∧ (SqL K H b (ls.map V.int) ∧ (∀ x ∈ ls, 1 ≤ x ∧ x < 2 ^ 190) ∧ ls.length ≤ 1000 ∧ ∀ H' x, HS.Keep (fun _ => False) H H' → Told ls m H' x → Q x H')
theorem ok_sizes_with (T : Txt K mg A) : FnOk P w K mg base CX0 4 A.a_sizes_with A.d_sizes_with ["book", "number"] (sp_sizes_with K) := by
  have G_check_book : FnOk P w K mg base (L2.CX P w) 3 A.a_check_book A.d_check_book ["book"] (sp_check_book K A) := ok_check_book T
  have G_search_size : FnOk P w K mg base CX0 3 A.a_search_size A.d_search_size ["book", "most"] (sp_search_size K) := ok_search_size T
  have G_count_pages : FnOk P w K mg base CX0 2 A.a_count_pages A.d_count_pages ["book", "size"] (sp_count_pages K) := ok_count_pages T
  refine T.F_sizes_with.ok sc_sizes_with (fun vs H Q E h => ?_) (fun cdv A0 outer s H vs Q E hr h => ?_)
  · obtain ⟨b, ls, m, rfl, hw⟩ := h
    rfl
  · obtain ⟨b, ls, m, rfl, hw⟩ := h
    refine ⟨_, (pss_cons (ps_expr (pe_call G_check_book hr (by rfl) T.g_check_book T.F_check_book.kp T.b_check_book .nil passL (pa_cons (pv 0) pa_nil)))
    (pss_cons (ps_if (pt_cmpR op_lt (pv 1) (pe_callB (HS.klen K) (by rfl) T.z_len PySem.boot_len (pa_cons (pv 0) pa_nil)) (nomark _))
      (pss_one (ps_ret pe_non))
      pss_nil)
    (pss_cons (ps_set (i := 2) sc_sizes_with.nd rfl (.inl rfl) (pe_call G_search_size hr (by rfl) T.g_search_size T.F_search_size.kp T.b_search_size .nil pass0 (pa_cons (pv 0) (pa_cons (pv 1) pa_nil))))
    (pss_cons (ps_if (pt_cmpR op_ne (pe_call G_count_pages (hr.mono (by decide)) (by rfl) T.g_count_pages T.F_count_pages.kp T.b_count_pages .nil pass0 (pa_cons (pv 0) (pa_cons (pv 2) pa_nil))) (pv 1) (nomark _))
      (pss_one (ps_ret pe_non))
      pss_nil)
    (pss_cons (ps_if (pt_cmpR op_eq (pv 1) (pe_callB (HS.klen K) (by rfl) T.z_len PySem.boot_len (pa_cons (pv 0) pa_nil)) (nomark _))
      (pss_one (ps_ret (pe_tup (pa_cons (pv 2) (pa_cons pe_non pa_nil)))))
      pss_nil)
    (pss_one (ps_ret (pe_tup (pa_cons (pv 2) (pa_cons (pe_op op_sub (pe_call G_search_size hr (by rfl) T.g_search_size T.F_search_size.kp T.b_search_size .nil pass0 (pa_cons (pv 0) (pa_cons (pe_op op_sub (pv 1) pe_int) pa_nil))) pe_int) pa_nil)))))))))), ?_⟩
    obtain ⟨hb, hL, hn, k⟩ := hw
    have h1 : ∀ x ∈ ls, 1 ≤ x := fun x hx => (hL x hx).1
    walk_at "hs"
    refine ⟨b, ls, rfl, .inl hb, fun i hi => absurd ((badAt_none h1).symm.trans hi) (by simp), fun _ H1 K1 => ?_⟩
    have hb1 := K1.sq hb id
    walk_at "hs"
    rw [List.length_map]
    refine HS.itd (fun c => ?_) (fun c => ?_)
    · walk_at "hs"
      exact k _ _ K1 (.inl ⟨.inl c, rfl⟩)
    walk_at "hs"
    refine ⟨b, ls, m, rfl, hb1, hL, hn, by omega, fun H2 v K2 hv => ?_⟩
    have hb2 := K2.sq hb1 id
    walk_at "hs"
    refine ⟨b, ls, v, rfl, hb2, by omega, hv.1, Int.lt_trans hv.2.1 (by decide), fun H3 K3 => ?_⟩
    have hb3 := K3.sq hb2 id
    have KK := (K1.trans K2).trans K3
    walk_at "hs"
    refine HS.itn (fun c2 => ?_) (fun c2 => ?_)
    · walk_at "hs"
      exact k _ _ KK (.inl ⟨.inr ⟨v, hv, c2⟩, rfl⟩)
    walk_at "hs"
    rw [List.length_map]
    refine HS.itd (fun c3 => ?_) (fun c3 => ?_)
    · walk_at "hs"
      intro p hp
      exact k _ _ (KK.nw hp) (.inr ⟨v, p, rfl, hv, c2, .inl ⟨c3, upd_same⟩⟩)
    · walk_at "hs"
      refine ⟨b, ls, m - 1, rfl, hb3, hL, hn, by omega, fun H4 v2 K4 hv2 => ?_⟩
      walk_at "hs"
      intro p hp
      exact k _ _ ((KK.trans K4).nw hp) (.inr ⟨v, p, rfl, hv, c2, .inr ⟨by omega, v2, hv2, upd_same⟩⟩)
def sp_LiveBook__change_to (K : PySem.W.Frag) (A : Ad) : Sp := fun vs H Q _ => ∃ (o b c p dx : Addr) (ls ms : List Int) (ps : List Addr), vs = [.ref o, .ref c] ∧ (LivAt A.c_LiveBook H o b p dx ls ps ∧ H c = some (.lst (ms.map V.int)) ∧ c ≠ p ∧ ps.length ≤ 1000 ∧ ∀ H', HS.Keep (fun a => a = o ∨ a = p) H H' → LivAt A.c_LiveBook H' o c p dx ms (ps ++ [b]) → Q .non H')
theorem ok_LiveBook__change_to (T : Txt K mg A) : FnOk P w K mg base CX0 1 A.a_LiveBook__change_to A.d_LiveBook__change_to ["self", "lengths"] (sp_LiveBook__change_to K A) := by
  refine T.F_LiveBook__change_to.ok sc_LiveBook__change_to (fun vs H Q E h => ?_) (fun cdv A0 outer s H vs Q E hr h => ?_)
  · obtain ⟨o, b, c, p, dx, ls, ms, ps, rfl, hw⟩ := h
    rfl
  · obtain ⟨o, b, c, p, dx, ls, ms, ps, rfl, hw⟩ := h
    refine ⟨_, (pss_cons (ps_expr (HS.kbm K (pe_bm PySem.F.plainAttrs_list PySem.F.slot_list_append PySem.F.type_list_append mt_append (pe_fld (pv 0) rfl) (pa_cons (pe_fld (pv 0) rfl) pa_nil))))
    (pss_one (ps_fld (pv 0) (pv 1) rfl))), ?_⟩
    obtain ⟨h0, hc, hcp, hp, k⟩ := hw
    have op := h0.op
    have bo := h0.ob
    have bp := h0.bp
    have co : c ≠ o := fun e => by rw [e, h0.eo] at hc; cases hc
    walk_at "hs"
    refine ⟨o, _, dx, _, _, rfl, h0.eo, T.C_LiveBook, T.n_LiveBook__past, lf_past _ _, ?_⟩
    refine HS.tyL h0.ep ?_
    walk_at "hs"
    refine ⟨o, _, dx, _, _, rfl, h0.eo, T.C_LiveBook, T.n_LiveBook__lengths, lf_lengths _ _, ?_⟩
    walk_at "hs"
    refine HS.app h0.ep ⟨HS.sz (by rw [List.length_map]; omega), ?_⟩
    walk_at "hs"
    refine ⟨o, _, dx, lf b p, rfl, by rw [upd_ne op.symm]; exact h0.eo, T.C_LiveBook, T.n_LiveBook__lengths, (show (2 : Nat) < 1000 by decide), ?_⟩
    walk_at "hs"
    rw [lf_put]
    refine k _ ((HS.Keep.refl.at (.inr rfl)).at (.inl rfl)) ⟨upd_same, ?_, ?_, hcp⟩
    · rw [upd_ne co, upd_ne hcp]
      exact hc
    · rw [upd_ne op, upd_same, List.map_append]
      rfl
def sp_LiveBook___init__ (K : PySem.W.Frag) (A : Ad) : Sp := fun vs H Q E => ∃ (x dx bk : Addr) (ls : List Int), vs = [.ref x, .ref bk] ∧ (H x = some (.ins A.c_LiveBook dx []) ∧ SqL K H bk (ls.map V.int) ∧ ls.length ≤ 1000 ∧ (∀ y ∈ ls, 1 ≤ y) ∧
  ∀ H' b p, HS.Keep (fun a => a = x) H H' → H b = none → H p = none → LivAt A.c_LiveBook H' x b p dx ls [] → Q .non H')
theorem ok_LiveBook___init__ (T : Txt K mg A) : FnOk P w K mg base (L2.CX P w) 4 A.a_LiveBook___init__ A.d_LiveBook___init__ ["self", "book"] (sp_LiveBook___init__ K A) := by
  have G_check_book : FnOk P w K mg base (L2.CX P w) 3 A.a_check_book A.d_check_book ["book"] (sp_check_book K A) := ok_check_book T
  refine L2.Fun.okX T.F_LiveBook___init__ sc_LiveBook___init__ (fun vs H Q E h => ?_) (fun cdv A0 outer s H vs Q E hr h => ?_)
  · obtain ⟨x, dx, bk, ls, rfl, hw⟩ := h
    rfl
  · obtain ⟨x, dx, bk, ls, rfl, hw⟩ := h
    refine ⟨_, (pss_cons (ps_expr (pe_call G_check_book hr (by rfl) T.g_check_book T.F_check_book.kp T.b_check_book .nil (passes_call (takes_of rfl rfl rfl rfl) (fun _ _ _ _ h => h)) (pa_cons (pv 1) pa_nil)))
    (pss_cons (ps_fld (pv 0) (pe_callTy (HS.klst K) (by rfl) T.z_list (by decide +kernel) (pa_cons (pv 1) pa_nil)) rfl)
    (pss_one (ps_fld (pv 0) (pe_lst pa_nil) rfl)))), ?_⟩
    obtain ⟨hx, hb, hn, hL, k⟩ := hw
    walk_at "hs"
    refine ⟨bk, ls, rfl, .inl hb, fun i hi => absurd ((badAt_none hL).symm.trans hi) (by simp), fun _ H1 K1 => ?_⟩
    have hx1 := K1 _ _ hx id
    walk_at "hs"
    refine ⟨bk, _, rfl, .inl (K1.sq hb id), fun q hq => ?_⟩
    have hq0 := K1.free hq id
    have nq := ne_of_none hx1 hq
    have hq2 : upd H1 q (.lst (ls.map V.int)) q = some (.lst (ls.map V.int)) := upd_same
    have hx2 : upd H1 q (.lst (ls.map V.int)) x = some (.ins A.c_LiveBook dx []) := by rw [upd_ne nq]; exact hx1
    have K2 := K1.put (o := .lst (ls.map V.int)) hq0
    generalize upd H1 q (.lst (ls.map V.int)) = H2 at hq2 hx2 K2 ⊢
    walk_at "hs"
    refine ⟨x, _, dx, [], rfl, hx2, T.C_LiveBook, T.n_LiveBook__lengths, (show (0 : Nat) < 1000 by decide), ?_⟩
    walk_at "hs"
    intro p hp
    have np : p ≠ x := (ne_of_none upd_same hp).symm
    rw [upd_ne np] at hp
    have nqp := ne_of_none hq2 hp
    walk_at "hs"
    refine ⟨x, _, dx, putF "_lengths" (V.ref q) [], rfl, by rw [upd_ne np.symm]; exact upd_same, T.C_LiveBook, T.n_LiveBook__past, (show (1 : Nat) < 1000 by decide), ?_⟩
    walk_at "hs"
    rw [lf_new]
    have K3 : HS.Keep (fun a => a = x) H H2 := K2.any
    refine k _ q p (HS.Keep.at (HS.Keep.put (HS.Keep.at K3 rfl) (K2.free hp id)) rfl) hq0 (K2.free hp id) ⟨upd_same, ?_, ?_, nqp⟩
    · rw [upd_ne nq.symm, upd_ne nqp, upd_ne nq.symm]
      exact hq2
    · rw [upd_ne np, upd_same]
      rfl
def sp_LiveBook_add (K : PySem.W.Frag) (A : Ad) : Sp := fun vs H Q E => ∃ (o b p dx t : Addr) (ls ms : List Int) (ps : List Addr), vs = [.ref o, .ref t] ∧ (LivAt A.c_LiveBook H o b p dx ls ps ∧ H t = some (.tup (ms.map V.int)) ∧ (∀ y ∈ ms, 1 ≤ y) ∧ ls.length + ms.length ≤ 1000 ∧ ps.length ≤ 1000 ∧ ∀ H' c, HS.Keep (fun a => a = o ∨ a = p) H H' → H c = none → LivAt A.c_LiveBook H' o c p dx (ls ++ ms) (ps ++ [b]) → Q .non H')
theorem ok_LiveBook_add (T : Txt K mg A) : FnR P w K mg base (L2.CX P w) 4 A.a_LiveBook_add (HS.starS 1 (sp_LiveBook_add K A)) := by
  have G_check_book : FnOk P w K mg base (L2.CX P w) 3 A.a_check_book A.d_check_book ["book"] (sp_check_book K A) := ok_check_book T
  have G_LiveBook__change_to : FnOk P w K mg base CX0 1 A.a_LiveBook__change_to A.d_LiveBook__change_to ["self", "lengths"] (sp_LiveBook__change_to K A) := ok_LiveBook__change_to T
  refine HS.Fun.star (ps := ["self"]) (pv := "lengths") T.F_LiveBook_add sc_LiveBook_add T.bs_LiveBook_add (fun cdv A0 outer s H vs Q E hr h => ?_)
  · obtain ⟨o, b, p, dx, t, ls, ms, ps, rfl, hw⟩ := h
    refine ⟨_, (pss_cons (ps_expr (pe_call G_check_book hr (by rfl) T.g_check_book T.F_check_book.kp T.b_check_book .nil (passes_call (takes_of rfl rfl rfl rfl) (fun _ _ _ _ h => h)) (pa_cons (pv 1) pa_nil)))
    (pss_one (ps_expr (pe_meth (pv 0) T.C_LiveBook T.M_LiveBook__change_to G_LiveBook__change_to (hr.mono (by decide)) T.b_LiveBook__change_to .nil pass0 (pa_cons (pe_op op_cat (pe_fld (pv 0) rfl) (pe_callTy (HS.klst K) (by rfl) T.z_list (by decide +kernel) (pa_cons (pv 1) pa_nil))) pa_nil))))), ?_⟩
    obtain ⟨h0, ht, hL, hn, hp, k⟩ := hw
    walk_at "hs"
    refine ⟨t, ms, rfl, .inr (.inl (.inl ht)), fun i hi => absurd ((badAt_none hL).symm.trans hi) (by simp), fun _ H1 K1 => ?_⟩
    have h1 := h0.same K1
    have ht1 := K1 _ _ ht id
    walk_at "hs"
    refine ⟨o, dx, _, rfl, h1.eo, lf_no (by decide +kernel) (by decide +kernel), ?_⟩
    walk_at "hs"
    refine ⟨o, _, dx, _, _, rfl, h1.eo, T.C_LiveBook, T.n_LiveBook__lengths, lf_lengths _ _, ?_⟩
    walk_at "hs"
    refine ⟨t, _, rfl, .inr (.inl (.inl ht1)), fun q hq => ?_⟩
    have h2 := h1.new (u := .lst (ms.map V.int)) hq
    have K2 := K1.nw (o := .lst (ms.map V.int)) hq
    have hq2 : upd H1 q (.lst (ms.map V.int)) q = some (.lst (ms.map V.int)) := upd_same
    generalize upd H1 q (.lst (ms.map V.int)) = H2 at h2 K2 hq2 ⊢
    refine HS.cat h2.eb hq2 ?_
    walk_at "hs"
    intro c hc
    have h3 := h2.new (u := .lst (ls.map V.int ++ ms.map V.int)) hc
    have K3 := K2.nw (o := .lst (ls.map V.int ++ ms.map V.int)) hc
    have hc3 : upd H2 c (.lst (ls.map V.int ++ ms.map V.int)) c = some (.lst ((ls ++ ms).map V.int)) := by rw [upd_same, List.map_append]
    have hcp : c ≠ p := (ne_of_none h2.ep hc).symm
    have hc0 := K2.free hc id
    generalize upd H2 c (.lst (ls.map V.int ++ ms.map V.int)) = H3 at h3 K3 hc3 ⊢
    walk_at "hs"
    exact ⟨o, b, c, p, dx, ls, _, ps, rfl, h3, hc3, hcp, hp, fun H4 K4 h4 => k _ c (HS.Keep.trans K3.any K4) hc0 h4⟩
def sp_LiveBook_book (K : PySem.W.Frag) (A : Ad) : Sp := fun vs H Q _ => ∃ (o b p dx : Addr) (ls : List Int) (ps : List Addr), vs = [.ref o] ∧ (LivAt A.c_LiveBook H o b p dx ls ps ∧ ∀ c, H c = none → Q (.ref c) (upd H c (.lst (ls.map V.int))))
theorem ok_LiveBook_book (T : Txt K mg A) : FnOk P w K mg base CX0 1 A.a_LiveBook_book A.d_LiveBook_book ["self"] (sp_LiveBook_book K A) := by
  refine T.F_LiveBook_book.ok sc_LiveBook_book (fun vs H Q E h => ?_) (fun cdv A0 outer s H vs Q E hr h => ?_)
  · obtain ⟨o, b, p, dx, ls, ps, rfl, hw⟩ := h
    rfl
  · obtain ⟨o, b, p, dx, ls, ps, rfl, hw⟩ := h
    refine ⟨_, (pss_one (ps_ret (pe_callTy (HS.klst K) (by rfl) T.z_list (by decide +kernel) (pa_cons (pe_fld (pv 0) rfl) pa_nil)))), ?_⟩
    obtain ⟨h0, k⟩ := hw
    walk_at "hs"
    refine ⟨o, _, dx, _, _, rfl, h0.eo, T.C_LiveBook, T.n_LiveBook__lengths, lf_lengths _ _, ?_⟩
    walk_at "hs"
    exact ⟨b, _, rfl, .inl (HS.sq h0.eb), k⟩
def sp__law_bag (K : PySem.W.Frag) : Sp := fun vs H Q _ => ∃ (a : Addr) (ns : List Int), vs = [.ref a] ∧ (SqL K H a (ns.map V.int) ∧ ns.length ≤ 63 ∧ ∀ H' s d, HS.Keep (fun _ => False) H H' → H s = none → H d = none → Bag H' s d 0 → Q (.ref s) H')
theorem ok__law_bag (T : Txt K mg A) : FnOk P w K mg base CX0 1 A.a__law_bag A.d__law_bag ["script"] (sp__law_bag K) := by
  refine T.F__law_bag.ok sc__law_bag (fun vs H Q E h => ?_) (fun cdv A0 outer s H vs Q E hr h => ?_)
  · obtain ⟨a, ns, rfl, hw⟩ := h
    rfl
  · obtain ⟨a, ns, rfl, hw⟩ := h
    refine ⟨_, (pss_cons (ps_par (i := 1) (j := 2) rfl sc__law_bag.nd rfl rfl (by decide) rfl rfl (pa_cons pe_int (pa_cons (pe_lst pa_nil) pa_nil)) (by rfl))
    (pss_cons (ps_for PassesOwn.never rfl (HS.kil K (pi_list (pv 0))) (pg_name (i := 3) sc__law_bag.nd rfl (.inl rfl))
      (pss_cons (ps_set (i := 1) sc__law_bag.nd rfl (.inl rfl) (pe_op op_mod (pe_op op_add (pe_op op_mul (pv 1) pe_int) (pv 3)) pe_int))
    (pss_one (ps_if (pt_cmpR op_ge (pe_callB call_abs (by rfl) T.z_abs (by decide +kernel) (pa_cons (pv 3) pa_nil)) (HS.pe_fold (1000000000000000000) (pe_op op_pow pe_int pe_int) (by intro σ H Q q; walk_at "fold")) (nomark _))
      (pss_one (ps_expr (HS.kbm K (pe_bm PySem.F.plainAttrs_list PySem.F.slot_list_append PySem.F.type_list_append mt_append (pv 2) (pa_cons (pe_callB call_abs (by rfl) T.z_abs (by decide +kernel) (pa_cons (pv 3) pa_nil)) pa_nil)))))
      pss_nil))))
    (pss_one (ps_ret (pe_disp (pps_cons pe_str (pv 2) (pps_cons pe_str pe_int (pps_cons pe_str pe_int (pps_cons pe_str (pv 1) pps_nil)))) (by rfl) (by rfl) (fun z => by cases z) (by decide)))))), ?_⟩
    obtain ⟨hS, hl, k⟩ := hw
    walk_at "hs"
    intro d hd
    walk_at "hs"
    refine ⟨⟨_, HS.Keep.sq (S := fun _ => False) (HS.Keep.new hd) hS id⟩, for_list (xs := ns.map V.int) (fun i σ H1 => HS.Keep (fun _ => False) H H1 ∧ ∃ (gs : List Int) (m : Int) (x3 : Option V), σ = [some (.ref a), some (.int m), some (.ref d), x3] ∧ H1 d = some (.lst (gs.map V.int)) ∧ (∀ x ∈ gs, 0 ≤ x) ∧ gs.length ≤ i ∧ 0 ≤ m ∧ m < 2 ^ 61) ?_ ?_ ?_ ?_⟩
    · exact ⟨.new hd, [], _, _, rfl, upd_same, by simp, Nat.le_refl _, by decide, by decide⟩
    · rintro i σ H1 _ ⟨K1, _⟩
      exact K1.sq hS id
    · rintro i x σ H1 hi ⟨K1, gs, m, x3, rfl, hgd, hg0, hgl, hm0, hm1⟩
      obtain ⟨z, rfl, _, hil⟩ := HS.get_int hi
      walk_at "hs"
      have b0 : 0 ≤ (m * 1000003 + z) % 2305843009213693951 := Int.emod_nonneg _ (by decide)
      have b1 : (m * 1000003 + z) % 2305843009213693951 < 2 ^ 61 := Int.lt_trans (Int.emod_lt_of_pos _ (by decide)) (by decide)
      generalize (m * 1000003 + z) % 2305843009213693951 = m2 at b0 b1 ⊢
      refine HS.itd (fun hy => ?_) (fun hy => ?_)
      · walk_at "hs"
        refine ⟨K1.put hd, gs ++ [if z < 0 then -z else z], _, _, rfl, ?_, ?_, by simp; omega, b0, b1⟩
        · rw [upd_same, List.map_append]; rfl
        · intro x hx
          rcases List.mem_append.mp hx with hx | hx
          · exact hg0 x hx
          · rw [List.mem_singleton] at hx; subst hx; split <;> omega
      · walk_at "hs"
        exact ⟨K1, gs, _, _, rfl, hgd, hg0, by omega, b0, b1⟩
    · rintro σ H1 ⟨K1, gs, m, x3, rfl, hgd, hg0, hgl, hm0, hm1⟩
      walk_at "hs"
      refine HS.disp fun p hp => ?_
      refine ⟨.ref d, rfl, .int m, rfl, upd_same, HS.cells d 0 0 m, rfl, show 4 ≤ 15 by decide, ?_⟩
      have hdp : d ≠ p := ne_of_none hgd hp
      refine k _ p d ((K1.put (K1.free hp id)).put (K1.free hp id)) (K1.free hp id) hd ⟨fun z => hdp z.symm, gs, 0, 0, m, upd_same, ?_, hg0, by rw [List.length_map] at hgl; omega, by decide, hm0, hm1, by decide, Int.le_refl _⟩
      rw [upd_ne hdp, upd_ne hdp]; exact hgd
def sp__law_draw (K : PySem.W.Frag) : Sp := fun vs H Q _ => ∃ (s d : Addr) (many : Int) (n : Nat), vs = [.ref s, .int many] ∧ (Bag H s d n ∧ 0 < many ∧ many < 2 ^ 200 ∧ n < 2 ^ 40 ∧ ∀ H' v, HS.Keep (fun a => a = s ∨ a = d) H H' → Bag H' s d (n + 1) → 0 ≤ v → v < many → Q (.int v) H')
theorem ok__law_draw (T : Txt K mg A) : FnOk P w K mg base CX0 1 A.a__law_draw A.d__law_draw ["bag", "many"] (sp__law_draw K) := by
  refine T.F__law_draw.ok sc__law_draw (fun vs H Q E h => ?_) (fun cdv A0 outer s H vs Q E hr h => ?_)
  · obtain ⟨s, d, many, n, rfl, hw⟩ := h
    rfl
  · obtain ⟨s, d, many, n, rfl, hw⟩ := h
    refine ⟨_, (Evl.pss_cut (ps_if (PW.pt (pw_and (pt_cmpR op_lt (pe_dget (hu_of hr) (pv 0) pe_str (fun _ _ => rfl)) (pv 1) (nomark _)) (pw_and1 (pt_cmpR op_gt (pe_callB (HS.klen K) (by rfl) T.z_len PySem.boot_len (pa_cons (pe_dget (hu_of hr) (pv 0) pe_str (fun _ _ => rfl)) pa_nil)) pe_int (nomark _)))))
      (pss_one (ps_dput (hu_of hr) (pv 0) pe_str (HS.kbm K (pe_bm PySem.F.plainAttrs_list PySem.F.slot_list_pop PySem.F.type_list_pop mt_popAt (pe_dget (hu_of hr) (pv 0) pe_str (fun _ _ => rfl)) (pa_cons pe_int pa_nil))) rfl))
      pss_nil)
    (pss_cons (ps_if (pt_cmpR op_ge (pe_dget (hu_of hr) (pv 0) pe_str (fun _ _ => rfl)) (pv 1) (nomark _))
      (pss_cons (ps_set (i := 2) sc__law_draw.nd rfl (.inl rfl) (pe_op op_mod (pe_dget (hu_of hr) (pv 0) pe_str (fun _ _ => rfl)) (pv 1)))
    (pss_cons (ps_dput (hu_of hr) (pv 0) pe_str (pe_op op_fdivW (pe_dget (hu_of hr) (pv 0) pe_str (fun _ _ => rfl)) (pv 1)) rfl)
    (pss_one (ps_ret (pv 2)))))
      pss_nil)
    (pss_cons (ps_daug (hu_of hr) (pv 0) pe_str pe_int in_add (fun _ _ _ => rfl))
    (pss_cons (ps_set (i := 3) sc__law_draw.nd rfl (.inl rfl) (pe_dget (hu_of hr) (pv 0) pe_str (fun _ _ => rfl)))
    (pss_cons (ps_set (i := 4) sc__law_draw.nd rfl (.inl rfl) (pe_op op_add (pe_op op_mulW (pe_op op_add (pe_dget (hu_of hr) (pv 0) pe_str (fun _ _ => rfl)) (pe_op op_mul pe_int (pv 3))) (pe_op op_pow (pe_op op_add (pv 3) pe_int) pe_int)) (pe_op op_mul pe_int (pv 3))))
    (pss_one (ps_ret (pe_op op_mod (pe_op op_fdivW (pe_op op_mod (pe_op op_pow (pe_op op_mod (pv 4) pe_int) pe_int) (HS.pe_fold (1000000000000000009) (pe_op op_add (pe_op op_pow pe_int pe_int) pe_int) (by intro σ H Q q; walk_at "fold"))) pe_int) (pv 1))))))))), ?_⟩
    obtain ⟨⟨hsd, gs0, l0, c0, m0, hs0, hd0, hg0, hgl0, hl0, hm00, hm01, hc0, hc1⟩, hm0, hm1, hn, k⟩ := hw
    have hds : d ≠ s := fun z => hsd z.symm
    refine HS.cut (fun σ H1 => σ = [some (.ref s), some (.int many), none, none, none] ∧ HS.Keep (fun a => a = s ∨ a = d) H H1 ∧ ∃ (gs : List Int) (l : Int), H1 s = some (.dK (HS.cells d l c0 m0)) ∧ H1 d = some (.lst (gs.map V.int)) ∧ (∀ x ∈ gs, 0 ≤ x) ∧ gs.length ≤ 63 ∧ 0 ≤ l) ?_ ?_
    · walk_at "hs"
      refine HS.itd (fun h1 => ?_) (fun h1 => ?_)
      · walk_at "hs"
        rw [List.length_map]
        refine HS.itd (fun h2 => ?_) (fun h2 => ?_)
        · walk_at "hs"
          cases gs0 with
          | nil => exact absurd h2 (by decide)
          | cons y ys =>
            refine HS.pop0 (y := .int y) (ys := ys.map V.int) (by walk_at "hp") ?_
            walk_at "hs"
            refine ⟨rfl, by walk_at "kp", ys, y, upd_same, by walk_at "hp", fun x hx => hg0 x (List.mem_cons_of_mem _ hx), Nat.le_of_succ_le hgl0, hg0 y List.mem_cons_self⟩
        · walk_at "hs"
          exact ⟨rfl, .refl, gs0, l0, hs0, hd0, hg0, hgl0, hl0⟩
      · walk_at "hs"
        exact ⟨rfl, .refl, gs0, l0, hs0, hd0, hg0, hgl0, hl0⟩
    · rintro σ H1 ⟨rfl, K1, gs, l, hs1, hd1, hg1, hgl1, hl1⟩
      walk_at "hs"
      refine HS.itd (fun hl => ?_) (fun hl => ?_)
      · walk_at "hs"
        refine ⟨HS.divW 200 hm0 hm1 (by decide) (by decide), ?_⟩
        walk_at "hs"
        exact k _ _ (by walk_at "kp") ⟨hsd, gs, l / many, c0, m0, upd_same, by walk_at "hp", hg1, hgl1, Int.ediv_nonneg hl1 (by omega), hm00, hm01, hc0, by omega⟩ (Int.emod_nonneg _ (by omega)) (Int.emod_lt_of_pos _ hm0)
      · walk_at "hs"
        obtain ⟨p0, p1⟩ := HS.pow_lt (i := c0 + 1 + 29) (a := 50) 2 (by omega) (by omega)
        have p2 : (c0 + 1 + 29) ^ Int.toNat 2 < 2 ^ 100 := by
          rcases p1 with h | h
          · exact h
          · exact absurd h (by decide)
        have p0' : 0 ≤ (c0 + 1 + 29) ^ Int.toNat 2 := p0
        generalize (c0 + 1 + 29) ^ Int.toNat 2 = cu at p2 p0' ⊢
        refine ⟨HS.mulW 70 100 (by omega) (by omega) p0' p2 (by decide) (by decide) (by decide), ?_⟩
        walk_at "hs"
        exact k _ _ (by walk_at "kp") ⟨hsd, gs, l, c0 + 1, m0, upd_same, by walk_at "hp", hg1, hgl1, hl1, hm00, hm01, by omega, by omega⟩ (Int.emod_nonneg _ (by omega)) (Int.emod_lt_of_pos _ hm0)
def sp__law_lengths (K : PySem.W.Frag) : Sp := fun vs H Q _ => ∃ (s d : Addr) (upto far : Int) (n : Nat), vs = [.ref s, .int upto, .int far] ∧ (Bag H s d n ∧ 0 ≤ upto ∧ upto ≤ 100 ∧ 1 ≤ far ∧ far < 10 ^ 30 ∧ n < 2 ^ 32 ∧ ∀ H' p (ls : List Int), HS.Keep (fun a => a = s ∨ a = d) H H' → H p = none → H' p = some (.lst (ls.map V.int)) → (ls.length : Int) ≤ upto → (∀ x ∈ ls, 1 ≤ x ∧ x < 10 ^ 31) → Bag H' s d (n + 401) → Q (.ref p) H')
theorem ok__law_lengths (T : Txt K mg A) : FnOk P w K mg base CX0 2 A.a__law_lengths A.d__law_lengths ["bag", "upto", "far"] (sp__law_lengths K) := by
  have G__law_draw : FnOk P w K mg base CX0 1 A.a__law_draw A.d__law_draw ["bag", "many"] (sp__law_draw K) := ok__law_draw T
  refine T.F__law_lengths.ok sc__law_lengths (fun vs H Q E h => ?_) (fun cdv A0 outer s H vs Q E hr h => ?_)
  · obtain ⟨s, d, upto, far, n, rfl, hw⟩ := h
    rfl
  · obtain ⟨s, d, upto, far, n, rfl, hw⟩ := h
    refine ⟨_, (pss_cons (ps_set (i := 3) sc__law_lengths.nd rfl (.inl rfl) (pe_lst pa_nil))
    (pss_cons (ps_for PassesOwn.never rfl (pi_range1 (by rfl) T.z_range (pa_cons (pe_call G__law_draw hr (by rfl) T.g__law_draw T.F__law_draw.kp T.b__law_draw .nil pass0 (pa_cons (pv 0) (pa_cons (pe_op op_add (pv 1) pe_int) pa_nil))) pa_nil)) (pg_name (i := 4) sc__law_lengths.nd rfl (.inl rfl))
      (pss_cons (ps_set (i := 5) sc__law_lengths.nd rfl (.inl rfl) (pe_op op_add pe_int (pe_call G__law_draw hr (by rfl) T.g__law_draw T.F__law_draw.kp T.b__law_draw .nil pass0 (pa_cons (pv 0) (pa_cons (pe_ix (HS.ixt K) (pe_tup (pa_cons pe_int (pa_cons pe_int (pa_cons (pv 2) pa_nil)))) (pe_call G__law_draw hr (by rfl) T.g__law_draw T.F__law_draw.kp T.b__law_draw .nil pass0 (pa_cons (pv 0) (pa_cons pe_int pa_nil))) (fun _ _ => rfl)) pa_nil)))))
    (Evl.pss_cut (ps_if (PW.pt (pw_and (pt_cmpR op_gt (pe_callB (HS.klen K) (by rfl) T.z_len PySem.boot_len (pa_cons (pv 3) pa_nil)) pe_int (nomark _)) (pw_and1 (pt_cmpR op_eq (pe_call G__law_draw hr (by rfl) T.g__law_draw T.F__law_draw.kp T.b__law_draw .nil pass0 (pa_cons (pv 0) (pa_cons pe_int pa_nil))) pe_int (nomark _)))))
      (pss_one (ps_set (i := 5) sc__law_lengths.nd rfl (.inl rfl) (pe_op op_add (pe_ix (HS.ixl K) (pv 3) (pe_un un_neg pe_int) (fun _ _ => rfl)) (pe_call G__law_draw hr (by rfl) T.g__law_draw T.F__law_draw.kp T.b__law_draw .nil pass0 (pa_cons (pv 0) (pa_cons pe_int pa_nil))))))
      pss_nil)
    (pss_one (ps_expr (HS.kbm K (pe_bm PySem.F.plainAttrs_list PySem.F.slot_list_append PySem.F.type_list_append mt_append (pv 3) (pa_cons (pv 5) pa_nil))))))))
    (pss_one (ps_ret (pv 3))))), ?_⟩
    obtain ⟨B0, u0, u1, f0, f1, hn, k⟩ := hw
    have W := wd_bag (S := fun a => a = s ∨ a = d) B0 (.inl rfl) (.inr rfl)
    walk_at "hs"
    intro D hD
    generalize hG_D : upd _ D _ = H1
    have Kn_D := HS.upgK hG_D hD
    replace W := W.newG hG_D hD
    clear hG_D hD
    try dsimp only [List.set, List.cons_append, List.nil_append] at W
    walk_at "hs"
    refine ⟨s, d, _, n, rfl, W.bag 0 1 rfl rfl, by omega, by omega, by omega, fun H2 v K2 B2 v0 v1 => ?_⟩
    replace W := W.bagged 0 1 rfl rfl K2 B2 (by omega)
    walk_at "hs"
    refine ⟨by omega, by omega, for_range (n := v.toNat) (fun i σ H' => ∃ ls : List Int, HS.Wd H H' (fun a => a = s ∨ a = d) [(s, BagO d (n + 1 + 4 * i)), (d, GreatO), (D, Eq (.lst (ls.map V.int)))] ∧ ls.length = i ∧ (∀ x ∈ ls, 1 ≤ x ∧ x ≤ 10 ^ 30 + i) ∧ ∃ x4 x5, σ = [some (.ref s), some (.int upto), some (.int far), some (.ref D), x4, x5]) ?_ ?_ ?_⟩
    · exact ⟨[], W, rfl, fun x hx => absurd hx List.not_mem_nil, _, _, rfl⟩
    · rintro i σ H3 hi ⟨ls, W, hl, hL, x4, x5, rfl⟩
      walk_at "hs"
      intro t ht
      generalize hG_t : upd _ t _ = H4
      have Kn_t := HS.upgK hG_t ht
      replace W := W.newG hG_t ht
      clear hG_t ht
      try dsimp only [List.set, List.cons_append, List.nil_append] at W
      walk_at "hs"
      refine ⟨s, d, _, _, rfl, W.bag 0 1 rfl rfl, by decide, by decide, by omega, fun H5 e K5 B5 e0 e1 => ?_⟩
      replace W := W.bagged 0 1 rfl rfl K5 B5 (by omega)
      refine HS.ixTI [5, 30, far] (W.st 3 rfl) e0 e1 fun z _ hz => ?_
      have hz' : 1 ≤ z ∧ z < 10 ^ 30 := by
        simp only [List.mem_cons, List.not_mem_nil, or_false] at hz
        rcases hz with rfl | rfl | rfl <;> omega
      walk_at "hs"
      refine ⟨s, d, _, _, rfl, W.bag 0 1 rfl rfl, by omega, by omega, by omega, fun H6 g K6 B6 g0 g1 => ?_⟩
      replace W := (W.bagged 0 1 rfl rfl K6 B6 (by omega)).take 3
      walk_at "hs"
      refine HS.cut (fun σ H' => ∃ many : Int, HS.Wd H H' (fun a => a = s ∨ a = d) [(s, BagO d (n + 1 + 4 * (i + 1))), (d, GreatO), (D, Eq (.lst (ls.map V.int)))] ∧ 1 ≤ many ∧ many ≤ 10 ^ 30 + (i + 1 : Nat) ∧ σ = [some (.ref s), some (.int upto), some (.int far), some (.ref D), some (.int (0 + (i : Nat))), some (.int many)]) ?_ ?_
      · have W0 := W
        walk_at "hs"
        refine HS.lenL (W.sq 2 rfl) ?_
        walk_at "hs"
        rw [List.length_map]
        refine HS.itd (fun c1 => ?_) (fun c1 => ?_)
        · walk_at "hs"
          refine ⟨s, d, _, _, rfl, W.bag 0 1 rfl rfl, by decide, by decide, by omega, fun H7 a K7 B7 a0 a1 => ?_⟩
          replace W := W.bagged 0 1 rfl rfl K7 B7 (by omega)
          walk_at "hs"
          refine HS.itd (fun c2 => ?_) (fun c2 => ?_)
          · walk_at "hs"
            have hne : ls ≠ [] := fun z => by rw [z] at c1; exact absurd c1 (by decide)
            obtain ⟨z2, ez2, hz2⟩ : ∃ z2, ls = ls.dropLast ++ [z2] ∧ z2 ∈ ls := ⟨ls.getLast hne, (List.dropLast_concat_getLast hne).symm, List.getLast_mem hne⟩
            have hz3 := hL z2 hz2
            refine HS.ixL (W.sq 2 rfl) (HS.at_last (ys := ls.dropLast.map V.int) (v := .int z2) (by rw [ez2, List.map_append, List.dropLast_concat]; rfl)) ?_
            walk_at "hs"
            refine ⟨s, d, _, _, rfl, W.bag 0 1 rfl rfl, by decide, by decide, by omega, fun H8 f K8 B8 f0 f1 => ?_⟩
            replace W := W.bagged 0 1 rfl rfl K8 B8 (by omega)
            walk_at "hs"
            exact ⟨_, W.bup 0 rfl (by omega), by omega, by omega, rfl⟩
          · walk_at "hs"
            exact ⟨_, W.bup 0 rfl (by omega), by omega, by omega, rfl⟩
        · walk_at "hs"
          exact ⟨_, W.bup 0 rfl (by omega), by omega, by omega, rfl⟩
      · rintro σ7 H7 ⟨many, W, m0, m1, rfl⟩
        walk_at "hs"
        refine HS.tyL (W.at 2 rfl) ?_
        walk_at "hs"
        refine HS.app (W.at 2 rfl) ⟨HS.sz (by rw [List.length_map]; omega), ?_⟩
        generalize hG_D : upd _ D _ = H8
        replace W := W.putG 2 rfl hG_D
        clear hG_D
        try dsimp only [List.set, List.cons_append, List.nil_append] at W
        walk_at "hs"
        refine ⟨ls ++ [many], by rw [List.map_append]; exact W, by rw [List.length_append, hl]; rfl, fun x hx => ?_, _, _, rfl⟩
        rcases List.mem_append.mp hx with hx | hx
        · have := hL x hx
          omega
        · rw [List.mem_singleton] at hx
          subst hx
          omega
    · rintro σ H3 ⟨ls, W, hl, hL, x4, x5, rfl⟩
      walk_at "hs"
      refine k _ D ls W.kp ?_ (W.at 2 rfl) (by omega) (fun x hx => by have := hL x hx; omega) (((W.bup 0 rfl (by omega)).bag (n := n + 401) 0 1 rfl rfl))
      exact (W.fr _ (List.mem_of_getElem? (i := 2) rfl)).resolve_left fun z => z.elim (W.ne 2 0 rfl rfl) (W.ne 2 1 rfl rfl)
def sp__law_great (K : PySem.W.Frag) : Sp := fun vs H Q _ => ∃ (s d : Addr) (n : Nat), vs = [.ref s] ∧ (Bag H s d n ∧ n < 2 ^ 32 ∧ ∀ H' v, HS.Keep (fun a => a = s ∨ a = d) H H' → Bag H' s d (n + 2) → 0 ≤ v → v < 10 ^ 29 → Q (.int v) H')
theorem ok__law_great (T : Txt K mg A) : FnOk P w K mg base CX0 2 A.a__law_great A.d__law_great ["bag"] (sp__law_great K) := by
  have G__law_draw : FnOk P w K mg base CX0 1 A.a__law_draw A.d__law_draw ["bag", "many"] (sp__law_draw K) := ok__law_draw T
  refine T.F__law_great.ok sc__law_great (fun vs H Q E h => ?_) (fun cdv A0 outer s H vs Q E hr h => ?_)
  · obtain ⟨s, d, n, rfl, hw⟩ := h
    rfl
  · obtain ⟨s, d, n, rfl, hw⟩ := h
    refine ⟨_, (pss_one (ps_ret (pe_op op_add (pe_op op_mul (pe_call G__law_draw hr (by rfl) T.g__law_draw T.F__law_draw.kp T.b__law_draw .nil pass0 (pa_cons (pv 0) (pa_cons (HS.pe_fold (100000000000000) (pe_op op_pow pe_int pe_int) (by intro σ H Q q; walk_at "fold")) pa_nil))) (HS.pe_fold (100000000000000) (pe_op op_pow pe_int pe_int) (by intro σ H Q q; walk_at "fold"))) (pe_call G__law_draw hr (by rfl) T.g__law_draw T.F__law_draw.kp T.b__law_draw .nil pass0 (pa_cons (pv 0) (pa_cons (HS.pe_fold (100000000000000) (pe_op op_pow pe_int pe_int) (by intro σ H Q q; walk_at "fold")) pa_nil)))))), ?_⟩
    obtain ⟨B0, hn, k⟩ := hw
    walk_at "hs"
    refine ⟨s, d, _, _, rfl, B0, by decide, by decide, by omega, fun H1 a K1 B1 a0 a1 => ?_⟩
    walk_at "hs"
    refine ⟨s, d, _, _, rfl, B1, by decide, by decide, by omega, fun H2 b K2 B2 b0 b1 => ?_⟩
    walk_at "hs"
    exact k _ _ (K1.trans K2) B2 (by omega) (by omega)
def sp__law_needed (K : PySem.W.Frag) : Sp := fun vs H Q _ => ∃ (b : Addr) (ls : List Int) (j : Int), vs = [.ref b, .int j] ∧ (SqL K H b (ls.map V.int) ∧ ls.length ≤ 50000 ∧ 1 ≤ j ∧ j < 2 ^ 200 ∧ ∀ H', HS.Keep (fun _ => False) H H' → Q (.int (pcount ls j)) H')
theorem ok__law_needed (T : Txt K mg A) : FnOk P w K mg base CX0 1 A.a__law_needed A.d__law_needed ["chapters", "wide"] (sp__law_needed K) := by
  refine T.F__law_needed.ok sc__law_needed (fun vs H Q E h => ?_) (fun cdv A0 outer s H vs Q E hr h => ?_)
  · obtain ⟨b, ls, j, rfl, hw⟩ := h
    rfl
  · obtain ⟨b, ls, j, rfl, hw⟩ := h
    refine ⟨_, (pss_one (ps_ret (pe_callB (HS.ksum K rfl) (by rfl) T.z_sum (by decide +kernel) (pa_cons (pe_lc (own := [("many", 2)]) (g := gName 2) (tt := tYes) rfl sc__law_needed.nd (HS.kil K (pi_list (pv 0))) (blkOk_by (own := [("many", 2)]) (N := N__law_needed) (sc := defScope s__law_needed) (by decide +kernel)) (fun _ _ _ _ _ => pg_name (i := 2) sc__law_needed.nd rfl (by first | exact .inl rfl | exact .inr rfl)) (fun _ _ _ _ _ => pts_nil) (fun _ _ _ _ _ => (pe_op op_fdivW (pe_op op_sub (pe_op op_add (pv 2) (pv 1)) pe_int) (pv 1)))) pa_nil)))), ?_⟩
    obtain ⟨hb, hl, h1, h2, k⟩ := hw
    walk_at "hs"
    refine ⟨⟨_, hb⟩, fun D hD => lc_list (xs := ls.map V.int) (fun i H' => HS.Keep (fun _ => False) H H' ∧ H' D = some (.lst (((ls.take i).map fun x => (x + j - 1) / j).map V.int))) ⟨.new hD, upd_same⟩ (fun i H' _ ⟨K', _⟩ => K'.sq hb id) ?_ ?_⟩
    · rintro i x H1 hi ⟨K1, h3⟩
      obtain ⟨z, rfl, hz, hil⟩ := HS.get_int hi
      walk_at "hs"
      refine ⟨HS.divW 200 (by omega) h2 (by decide) (by decide), ?_⟩
      walk_at "hs"
      refine ⟨_, h3, HS.sz (by simp; omega), K1.put hD, ?_⟩
      rw [upd_same, List.take_add_one, hz, List.map_append, List.map_append]
      rfl
    · rintro H1 ⟨K1, h3⟩
      rw [List.length_map, List.take_length] at h3
      refine HS.sumL (HS.sq h3) ?_
      exact k _ K1
def sp__law_first (K : PySem.W.Frag) : Sp := fun vs H Q _ => ∃ (b : Addr) (ls : List Int) (m : Int), vs = [.ref b, .int m] ∧ (H b = some (.lst (ls.map V.int)) ∧ (∀ x ∈ ls, 1 ≤ x ∧ x < 2 ^ 180) ∧ ls.length ≤ 1000 ∧ (ls.length : Int) ≤ m ∧ ∀ H' v, HS.Keep (fun _ => False) H H' → Least ls m v → Q (.int v) H')
theorem ok__law_first (T : Txt K mg A) : FnOk P w K mg base CX0 2 A.a__law_first A.d__law_first ["chapters", "most"] (sp__law_first K) := by
  have G__law_needed : FnOk P w K mg base CX0 1 A.a__law_needed A.d__law_needed ["chapters", "wide"] (sp__law_needed K) := ok__law_needed T
  refine T.F__law_first.ok sc__law_first (fun vs H Q E h => ?_) (fun cdv A0 outer s H vs Q E hr h => ?_)
  · obtain ⟨b, ls, m, rfl, hw⟩ := h
    rfl
  · obtain ⟨b, ls, m, rfl, hw⟩ := h
    refine ⟨_, (pss_cons (ps_par (i := 2) (j := 3) rfl sc__law_first.nd rfl rfl (by decide) rfl rfl (pa_cons pe_int (pa_cons (pe_op op_add pe_int (pe_callB (HS.kmax K rfl) (by rfl) T.z_max (by decide +kernel) (pa_cons (pe_op op_cat (pv 0) (pe_lst (pa_cons pe_int pa_nil))) pa_nil))) pa_nil)) (by rfl))
    (pss_cons (ps_while PassesOwn.never (pt_cmpR op_lt (pv 2) (pv 3) (nomark _))
      (pss_cons (ps_set (i := 4) sc__law_first.nd rfl (.inl rfl) (pe_op op_fdivW (pe_op op_add (pv 2) (pv 3)) pe_int))
    (pss_one (ps_if (pt_cmpR op_gt (pe_call G__law_needed hr (by rfl) T.g__law_needed T.F__law_needed.kp T.b__law_needed .nil pass0 (pa_cons (pv 0) (pa_cons (pv 4) pa_nil))) (pv 1) (nomark _))
      (pss_one (ps_set (i := 2) sc__law_first.nd rfl (.inl rfl) (pe_op op_add (pv 4) pe_int)))
      (pss_one (ps_set (i := 3) sc__law_first.nd rfl (.inl rfl) (pv 4)))))))
    (pss_one (ps_ret (pv 2))))), ?_⟩
    obtain ⟨hb, hL, hn, hm, k⟩ := hw
    have h1 : ∀ x ∈ ls, 1 ≤ x := fun x hx => (hL x hx).1
    have W := HS.Wd.nil (H := H) (S := fun _ => False)
    walk_at "hs"
    intro q1 hq1
    generalize hG_q1 : upd _ q1 _ = H1
    have Kn_q1 := HS.upgK hG_q1 hq1
    replace W := W.newG hG_q1 hq1
    clear hG_q1 hq1
    try dsimp only [List.set, List.cons_append, List.nil_append] at W
    refine HS.cat (W.kp _ _ hb id) (W.at 0 rfl) ?_
    walk_at "hs"
    intro q2 hq2
    generalize hG_q2 : upd _ q2 _ = H2
    have Kn_q2 := HS.upgK hG_q2 hq2
    replace W := W.newG hG_q2 hq2
    clear hG_q2 hq2
    try dsimp only [List.set, List.cons_append, List.nil_append] at W
    walk_at "hs"
    refine ⟨q2, ls ++ [1], rfl, by rw [List.map_append]; exact W.sq 1 rfl, by simp, fun mx hmx hmy => ?_⟩
    have hmx' : 1 ≤ mx ∧ mx < 2 ^ 180 := by
      rcases List.mem_append.mp hmx with h | h
      · exact hL mx h
      · rw [List.mem_singleton] at h; subst h; exact ⟨by decide, by decide⟩
    have top : pcount ls (1 + mx) ≤ m := by
      rw [pcount_flat h1 fun x hx => by have := hmy x (List.mem_append_left _ hx); omega]
      exact hm
    have KH := W.kp
    clear W
    walk_at "hs"
    refine ⟨fun w σ H1 => HS.Keep (fun _ => False) H H1 ∧ ∃ (lo hi : Int) (x4 : Option V), w = (hi - lo).toNat ∧ 1 ≤ lo ∧ lo ≤ hi ∧ hi < 2 ^ 190 ∧ pcount ls hi ≤ m ∧ (∀ u, 1 ≤ u → u < lo → m < pcount ls u) ∧ σ = [some (.ref b), some (.int m), some (.int lo), some (.int hi), x4], ⟨_, KH, 1, 1 + mx, none, rfl, Int.le_refl 1, by omega, by omega, top, fun u u0 u1 => by omega, rfl⟩, ?_⟩
    rintro w σ H1 ⟨K1, lo, hi, x4, rfl, l0, l1, l2, l3, l4, rfl⟩
    walk_at "hs"
    refine HS.itd (fun c => ?_) (fun c => ?_)
    · refine ⟨fun σ' H2 => HS.Keep (fun _ => False) H H2 ∧ ∃ (lo' hi' : Int) (x4 : Option V), hi' - lo' < hi - lo ∧ 1 ≤ lo' ∧ lo' ≤ hi' ∧ hi' < 2 ^ 190 ∧ pcount ls hi' ≤ m ∧ (∀ u, 1 ≤ u → u < lo' → m < pcount ls u) ∧ σ' = [some (.ref b), some (.int m), some (.int lo'), some (.int hi'), x4], ?_, ?_⟩
      · rintro σ' H2 ⟨K2, lo', hi', x4', d0, d1, d2, d3, d4, d5, e⟩
        exact ⟨(hi' - lo').toNat, by omega, K2, lo', hi', x4', rfl, d1, d2, d3, d4, d5, e⟩
      · walk_at "hs"
        refine ⟨b, ls, (lo + hi) / 2, rfl, K1.sq (HS.sq hb) id, by omega, by omega, by omega, fun H2 K2 => ?_⟩
        walk_at "hs"
        refine HS.itd (fun c2 => ?_) (fun c2 => ?_)
        · walk_at "hs"
          refine ⟨K1.trans K2, (lo + hi) / 2 + 1, hi, _, by omega, by omega, by omega, l2, l3, fun u u0 u1 => ?_, rfl⟩
          have := pcount_anti h1 u0 (show u ≤ (lo + hi) / 2 by omega)
          omega
        · walk_at "hs"
          exact ⟨K1.trans K2, lo, (lo + hi) / 2, _, by omega, l0, by omega, by omega, by omega, l4, rfl⟩
    · walk_at "hs"
      have e : lo = hi := by omega
      subst e
      exact k _ _ K1 ⟨l0, l2, l3, l4⟩
theorem least_one {ls : List Int} {m v u : Int} (h1 : Least ls m v) (h2 : Least ls m u) : v = u := by
  rcases Int.lt_trichotomy v u with h | h | h
  · have := h2.2.2.2 v h1.1 h
    have := h1.2.2.1
    omega
  · exact h
  · have := h1.2.2.2 u h2.1 h
    have := h2.2.2.1
    omega
def sp__law_right (K : PySem.W.Frag) : Sp := fun vs H Q _ => ∃ (x : V) (b : Addr) (ls : List Int) (m : Int), vs = [x, .ref b, .int m] ∧ (H b = some (.lst (ls.map V.int)) ∧ (∀ y ∈ ls, 1 ≤ y ∧ y < 2 ^ 180) ∧ ls.length ≤ 1000 ∧ Told ls m H x ∧ ∀ H', HS.Keep (fun _ => False) H H' → Q (.bl true) H')
theorem ok__law_right (T : Txt K mg A) : FnOk P w K mg base CX0 3 A.a__law_right A.d__law_right ["told", "chapters", "pages_wanted"] (sp__law_right K) := by
  have G__law_needed : FnOk P w K mg base CX0 1 A.a__law_needed A.d__law_needed ["chapters", "wide"] (sp__law_needed K) := ok__law_needed T
  have G__law_first : FnOk P w K mg base CX0 2 A.a__law_first A.d__law_first ["chapters", "most"] (sp__law_first K) := ok__law_first T
  refine T.F__law_right.ok sc__law_right (fun vs H Q E h => ?_) (fun cdv A0 outer s H vs Q E hr h => ?_)
  · obtain ⟨x, b, ls, m, rfl, hw⟩ := h
    rfl
  · obtain ⟨x, b, ls, m, rfl, hw⟩ := h
    refine ⟨_, (pss_cons (ps_if (PW.pt (pw_or (pt_cmpR op_lt (pv 2) (pe_callB (HS.klen K) (by rfl) T.z_len PySem.boot_len (pa_cons (pv 1) pa_nil)) (nomark _)) (pw_or1 (pt_cmpR op_ne (pe_call G__law_needed (hr.mono (by decide)) (by rfl) T.g__law_needed T.F__law_needed.kp T.b__law_needed .nil pass0 (pa_cons (pv 1) (pa_cons (pe_call G__law_first hr (by rfl) T.g__law_first T.F__law_first.kp T.b__law_first .nil pass0 (pa_cons (pv 1) (pa_cons (pv 2) pa_nil))) pa_nil))) (pv 2) (nomark _)))))
      (pss_one (ps_ret (pe_cmpR op_isN (pv 0) pe_non (nomark _))))
      pss_nil)
    (pss_cons (ps_if (pt_not (pt_val (pe_callB (HS.kisi K) (by rfl) T.z_isinstance (by decide +kernel) (pa_cons (pv 0) (pa_cons (pe_bltn (v := .ty "tuple") (by rfl) T.z_tuple (by decide +kernel) rfl) pa_nil)))))
      (pss_one (ps_ret pe_bl))
      pss_nil)
    (pss_cons (ps_asg (pv 0) (HS.kgt K (pg_tup rfl (pgs_cons (pg_name (i := 3) sc__law_right.nd rfl (.inl rfl)) (pgs_cons (pg_name (i := 4) sc__law_right.nd rfl (.inl rfl)) pgs_nil)))))
    (Evl.pss_cut (ps_if (PW.pt (pw_or (pt_cmpR op_ne (pe_call G__law_needed (hr.mono (by decide)) (by rfl) T.g__law_needed T.F__law_needed.kp T.b__law_needed .nil pass0 (pa_cons (pv 1) (pa_cons (pv 3) pa_nil))) (pv 2) (nomark _)) (pw_or1 (PW.pt (pw_and (pt_cmpR op_gt (pv 3) pe_int (nomark _)) (pw_and1 (pt_cmpR op_eq (pe_call G__law_needed (hr.mono (by decide)) (by rfl) T.g__law_needed T.F__law_needed.kp T.b__law_needed .nil pass0 (pa_cons (pv 1) (pa_cons (pe_op op_sub (pv 3) pe_int) pa_nil))) (pv 2) (nomark _))))))))
      (pss_one (ps_ret pe_bl))
      pss_nil)
    (pss_cons (ps_if (pt_cmpR op_isN (pv 4) pe_non (nomark _))
      (pss_one (ps_ret (pe_cmpR op_eq (pv 2) (pe_callB (HS.klen K) (by rfl) T.z_len PySem.boot_len (pa_cons (pv 1) pa_nil)) (nomark _))))
      pss_nil)
    (pss_cons (ps_if (pt_cmpR op_ne (pe_call G__law_needed (hr.mono (by decide)) (by rfl) T.g__law_needed T.F__law_needed.kp T.b__law_needed .nil pass0 (pa_cons (pv 1) (pa_cons (pv 4) pa_nil))) (pv 2) (nomark _))
      (pss_one (ps_ret pe_bl))
      pss_nil)
    (pss_one (ps_ret (pe_cmpR op_ne (pe_call G__law_needed (hr.mono (by decide)) (by rfl) T.g__law_needed T.F__law_needed.kp T.b__law_needed .nil pass0 (pa_cons (pv 1) (pa_cons (pe_op op_add (pv 4) pe_int) pa_nil))) (pv 2) (nomark _)))))))))), ?_⟩
    obtain ⟨hb, hL, hn, ht, k⟩ := hw
    have h1 : ∀ y ∈ ls, 1 ≤ y := fun y hy => (hL y hy).1
    walk_at "hs"
    rw [List.length_map]
    refine HS.itd (fun c => ?_) (fun c => ?_)
    · walk_at "hs"
      rcases ht with ⟨_, rfl⟩ | ⟨v, r, rfl, hv, hp, h⟩
      · walk_at "hs"
        refine ⟨rfl, ?_⟩
        rw [decide_eq_true (rfl : V.non = V.non)]
        exact k _ .refl
      · exfalso
        rcases h with ⟨h, _⟩ | ⟨h, _⟩ <;> omega
    walk_at "hs"
    refine ⟨b, ls, m, rfl, hb, hL, hn, by omega, fun H1 v K1 hv => ?_⟩
    walk_at "hs"
    refine ⟨b, ls, v, rfl, K1.sq (HS.sq hb) id, by omega, hv.1, Int.lt_trans hv.2.1 (by decide), fun H2 K2 => ?_⟩
    have K12 := K1.trans K2
    walk_at "hs"
    refine HS.itn (fun c2 => ?_) (fun c2 => ?_)
    · walk_at "hs"
      rcases ht with ⟨_, rfl⟩ | ⟨v', r, rfl, hv', hp, h⟩
      · walk_at "hs"
        refine ⟨rfl, ?_⟩
        rw [decide_eq_true (rfl : V.non = V.non)]
        exact k _ K12
      · exfalso
        rw [least_one hv hv'] at c2
        exact c2 hp
    walk_at "hs"
    rcases ht with ⟨hno, rfl⟩ | ⟨v', r, rfl, hv', hp, h⟩
    · exfalso
      rcases hno with hno | ⟨v', hv', hp⟩
      · omega
      · rw [least_one hv' hv] at hp
        exact hp c2
    obtain rfl := least_one hv' hv
    have htup : ∃ y, H2 r = some (.tup [.int v', y]) := by
      rcases h with ⟨_, h⟩ | ⟨_, u, _, h⟩
      · exact ⟨_, K12 _ _ h id⟩
      · exact ⟨_, K12 _ _ h id⟩
    obtain ⟨y, htup⟩ := htup
    refine HS.isi true (.base (.tup htup)) HS.kb_tt ?_
    walk_at "hs"
    refine HS.cut (fun σ' H' => HS.Keep (fun _ => False) H H' ∧ σ' = [some (.ref r), some (.ref b), some (.int m), some (.int v'), some y]) ?_ ?_
    · walk_at "hs"
      refine ⟨b, ls, v', rfl, K12.sq (HS.sq hb) id, by omega, hv.1, Int.lt_trans hv.2.1 (by decide), fun H3 K3 => ?_⟩
      have K13 := K12.trans K3
      walk_at "hs"
      refine HS.in0 c2 ?_
      walk_at "hs"
      refine HS.itd (fun c5 => ?_) (fun c5 => ?_)
      · walk_at "hs"
        have v2 := hv.2.1
        refine ⟨b, ls, v' - 1, rfl, K13.sq (HS.sq hb) id, by omega, by omega, by omega, fun H4 K4 => ?_⟩
        walk_at "hs"
        refine HS.it0 (by have := hv.2.2.2 (v' - 1) (by omega) (by omega); omega) ?_
        walk_at "hs"
        exact ⟨K13.trans K4, rfl⟩
      · walk_at "hs"
        exact ⟨K13, rfl⟩
    · rintro σ' H3 ⟨K3, rfl⟩
      rcases h with ⟨em, h⟩ | ⟨em, u, hu, h⟩
      · have h2 := K12 _ _ h id
        rw [htup] at h2
        obtain rfl : y = .non := by simpa using h2
        walk_at "hs"
        refine ⟨rfl, ?_⟩
        rw [decide_eq_true (rfl : V.non = V.non)]
        walk_at "hs"
        refine HS.lenL (HS.sq (K3 _ _ hb id)) ?_
        walk_at "hs"
        rw [List.length_map, decide_eq_true em]
        exact k _ K3
      · have h2 := K12 _ _ h id
        rw [htup] at h2
        obtain rfl : y = .int (u - 1) := by simpa using h2
        have vu : v' < u := by
          apply Int.lt_of_not_ge
          intro c
          have := pcount_anti h1 hu.1 c
          have := hu.2.2.1
          omega
        have v0 := hv.1
        have u1 := hu.2.1
        have pu : pcount ls (u - 1) = m := by
          have a1 := hu.2.2.2 (u - 1) (by omega) (by omega)
          have a2 := pcount_anti h1 v0 (show v' ≤ u - 1 by omega)
          omega
        walk_at "hs"
        refine ⟨rfl, ?_⟩
        rw [decide_eq_false (show ¬ V.int (u - 1) = V.non by simp)]
        walk_at "hs"
        refine ⟨b, ls, u - 1, rfl, K3.sq (HS.sq hb) id, by omega, by omega, by omega, fun H4 K4 => ?_⟩
        have K34 := K3.trans K4
        walk_at "hs"
        refine HS.in0 pu ?_
        walk_at "hs"
        refine ⟨b, ls, u - 1 + 1, rfl, K34.sq (HS.sq hb) id, by omega, by omega, by omega, fun H5 K5 => ?_⟩
        walk_at "hs"
        have nu : ¬ pcount ls (u - 1 + 1) = m := by
          have := hu.2.2.1
          rw [show u - 1 + 1 = u by omega]
          omega
        rw [decide_eq_false nu]
        exact k _ (K34.trans K5)
theorem wd_add {H0 H : Hp} {S : Addr → Prop} {l : HS.WdL} {p : Addr} {o : HO} {P : HO → Prop} (W : HS.Wd H0 H S l) (h : H p = some o) (hp : P o) (s : S p ∨ H0 p = none) (n : ∀ x ∈ l, x.1 ≠ p) : HS.Wd H0 H S (l ++ [(p, P)]) := by
  refine ⟨HS.nd_snoc W.nd n, fun x hx => ?_, W.kp, fun x hx => ?_⟩
  · rcases HS.mem_snoc hx with hx | e
    · exact W.at_ x hx
    · subst e; exact ⟨o, h, hp⟩
  · rcases HS.mem_snoc hx with hx | e
    · exact W.fr x hx
    · subst e; exact s
theorem wd_liv {C o dx b p : Addr} {H0 H H' : Hp} {S : Addr → Prop} {l : HS.WdL} {ls : List Int} (W : HS.Wd H0 H S l) (ho : H o = none) (hdx : H dx = none) (hne : dx ≠ o)
    (k : HS.Keep (fun a => a = o) (upd (upd H dx (.own o)) o (.ins C dx [])) H') (hb : upd (upd H dx (.own o)) o (.ins C dx []) b = none) (hp : upd (upd H dx (.own o)) o (.ins C dx []) p = none) (h : LivAt C H' o b p dx ls []) :
    HS.Wd H0 H' S (l ++ [(dx, fun _ => True)] ++ [(o, fun _ => True)] ++ [(p, fun _ => True)]) := by
  have W1 := W.new (o := .own o) (P := fun _ => True) hdx trivial
  have ho1 : upd H dx (.own o) o = none := by rw [upd_ne hne.symm]; exact ho
  have W2 := W1.new (o := .ins C dx []) (P := fun _ => True) ho1 trivial
  have W1' : HS.Wd H0 (upd (upd H dx (.own o)) o (.ins C dx [])) S (l ++ [(dx, fun _ => True)]) := W1.same (.new ho1)
  have so : S o ∨ H0 o = none := by
    by_cases s : S o
    · exact .inl s
    · exact .inr (W.kp.free ho s)
  have W3 := W1'.chgO k (W1.miss ho1) so
  have W4 := W1.madeT (H := upd H dx (.own o)) (P := fun _ => True) W3 rfl ho1 h.eo trivial
  exact W2.madeT (P := fun _ => True) W4 (by simp) hp h.ep trivial
def sp__law_longer (K : PySem.W.Frag) (A : Ad) : Sp := fun vs H Q _ => ∃ (s d b0 : Addr) (ls : List Int) (n : Nat), vs = [.ref s, .ref b0] ∧ (Bag H s d n ∧ SqL K H b0 (ls.map V.int) ∧ ls.length ≤ 60 ∧ (∀ x ∈ ls, 1 ≤ x ∧ x < 10 ^ 31) ∧ n < 2 ^ 31 ∧ ∀ H' c (ms : List Int), HS.Keep (fun a => a = s ∨ a = d) H H' → H c = none → H' c = some (.lst (ms.map V.int)) → ms.length ≤ 140 → (∀ x ∈ ms, 1 ≤ x ∧ x < 10 ^ 31) → Bag H' s d (n + 401) → Q (.ref c) H')
theorem ok__law_longer (T : Txt K mg A) : FnOk P w K mg base CX0 6 A.a__law_longer A.d__law_longer ["bag", "chapters"] (sp__law_longer K A) := by
  have G_LiveBook___init__ : FnOk P w K mg base (L2.CX P w) 4 A.a_LiveBook___init__ A.d_LiveBook___init__ ["self", "book"] (sp_LiveBook___init__ K A) := ok_LiveBook___init__ T
  have G__law_lengths : FnOk P w K mg base CX0 2 A.a__law_lengths A.d__law_lengths ["bag", "upto", "far"] (sp__law_lengths K) := ok__law_lengths T
  have G_LiveBook_add : FnR P w K mg base (L2.CX P w) 4 A.a_LiveBook_add (HS.starS 1 (sp_LiveBook_add K A)) := ok_LiveBook_add T
  have G_LiveBook_book : FnOk P w K mg base CX0 1 A.a_LiveBook_book A.d_LiveBook_book ["self"] (sp_LiveBook_book K A) := ok_LiveBook_book T
  refine T.F__law_longer.ok sc__law_longer (fun vs H Q E h => ?_) (fun cdv A0 outer s H vs Q E hr h => ?_)
  · obtain ⟨s, d, b0, ls, n, rfl, hw⟩ := h
    rfl
  · obtain ⟨s, d, b0, ls, n, rfl, hw⟩ := h
    refine ⟨_, (pss_cons (ps_set (i := 2) sc__law_longer.nd rfl (.inl rfl) (HS.pe_makeS T.K_LiveBook G_LiveBook___init__ hr (by rfl) T.m_LiveBook T.b_LiveBook___init__ (fun σ => HS.passSt passL σ) (pa_cons (pv 1) pa_nil)))
    (pss_cons (ps_for PassesOwn.never rfl (HS.kil K (pi_list (pe_call G__law_lengths (hr.mono (by decide)) (by rfl) T.g__law_lengths T.F__law_lengths.kp T.b__law_lengths .nil pass0 (pa_cons (pv 0) (pa_cons pe_int (pa_cons (HS.pe_fold (1000000) (pe_op op_pow pe_int pe_int) (by intro σ H Q q; walk_at "fold")) pa_nil)))))) (pg_name (i := 3) sc__law_longer.nd rfl (.inl rfl))
      (pss_one (ps_expr (pe_methR (pv 2) T.C_LiveBook T.M_LiveBook_add G_LiveBook_add (hr.mono (by decide)) passL (pa_cons (pv 3) pa_nil)))))
    (pss_one (ps_ret (pe_prop (pv 2) T.C_LiveBook T.P_LiveBook_book G_LiveBook_book (hr.mono (by decide)) T.b_LiveBook_book .nil pass0 rfl))))), ?_⟩
    obtain ⟨B0, hb, hl, hL, hn, k⟩ := hw
    have W := wd_bag (S := fun a => a = s ∨ a = d) B0 (.inl rfl) (.inr rfl)
    walk_at "hs"
    intro o dx ho hdx hne
    have K1 : HS.Keep (fun _ => False) H (upd (upd H dx (.own o)) o (.ins A.c_LiveBook dx [])) := (HS.Keep.new hdx).trans (HS.Keep.new (by rw [upd_ne hne.symm]; exact ho))
    refine ⟨o, dx, b0, ls, rfl, upd_same, K1.sq hb id, by omega, fun y hy => (hL y hy).1, fun H2 b p K2 hb0 hp0 hv => ⟨rfl, ?_⟩⟩
    replace W := wd_liv W ho hdx hne K2 hb0 hp0 hv
    dsimp only [List.cons_append, List.nil_append] at W
    walk_at "hs"
    refine ⟨s, d, _, _, _, rfl, W.bag 0 1 rfl rfl, by decide, by decide, by decide, by decide, by omega, fun H3 q ms K3 hq0 hq hml hmL B3 => ?_⟩
    obtain ⟨⟨us, hus, _⟩, ud, hud, _⟩ := bag_o B0
    have bs : b ≠ s := (ne_of_none (K1 _ _ hus id) hb0).symm
    have bd : b ≠ d := (ne_of_none (K1 _ _ hud id) hb0).symm
    have hv3 : LivAt A.c_LiveBook H3 o b p dx ls [] := ⟨K3 _ _ hv.eo fun z => z.elim (W.ne 3 0 rfl rfl) (W.ne 3 1 rfl rfl), K3 _ _ hv.eb fun z => z.elim bs bd, K3 _ _ hv.ep fun z => z.elim (W.ne 4 0 rfl rfl) (W.ne 4 1 rfl rfl), hv.bp⟩
    replace W := HS.Wd.madeT (P := Eq _) W (W.bagged 0 1 rfl rfl K3 B3 (by omega)) rfl hq0 hq rfl
    dsimp only [List.set, List.cons_append, List.nil_append] at W
    clear hus hud hb0 hp0 hv K1 K2 K3 B3 hb hq hq0
    walk_at "hs"
    refine ⟨⟨_, W.sq 5 rfl⟩, for_list (xs := ms.map V.int) (fun i σ H' => ∃ (b : Addr) (ps : List Addr), HS.Wd H H' (fun a => a = s ∨ a = d) [(s, BagO d (n + 401)), (d, GreatO), (dx, fun _ => True), (o, fun _ => True), (p, fun _ => True), (q, Eq (.lst (ms.map V.int)))] ∧ LivAt A.c_LiveBook H' o b p dx (ls ++ ms.take i) ps ∧ ps.length = i ∧ ∃ x3, σ = [some (.ref s), some (.ref b0), some (.ref o), x3]) ?_ ?_ ?_ ?_⟩
    · exact ⟨b, [], W, by rw [List.take_zero, List.append_nil]; exact hv3, rfl, _, rfl⟩
    · rintro i σ H4 _ ⟨b, ps, W, _⟩
      exact W.sq 5 rfl
    · rintro i x σ H4 hi ⟨b, ps, W, hv, hps, x3, rfl⟩
      obtain ⟨z, rfl, hz, hil⟩ := HS.get_int hi
      have hz1 := hmL z (List.mem_of_getElem? hz)
      have et : ms.take (i + 1) = ms.take i ++ [z] := by rw [List.take_add_one, hz]; rfl
      walk_at "hs"
      refine ⟨o, dx, _, rfl, hv.eo, lf_no (by decide +kernel) (by decide +kernel), ?_⟩
      walk_at "hs"
      refine ⟨[.ref o], [.int z], rfl, rfl, show 1 ≤ sizeLine by decide, fun t ht => ?_⟩
      refine ⟨o, b, p, dx, t, ls ++ ms.take i, [z], ps, rfl, hv.new ht, upd_same, fun y hy => ?_, ?_, by omega, fun H5 c K5 hc hv5 => ?_⟩
      · rw [List.mem_singleton] at hy
        subst hy
        exact hz1.1
      · rw [List.length_append, List.length_take, List.length_singleton]
        omega
      · walk_at "hs"
        have W1 : HS.Wd H (upd H4 t (.tup ([z].map V.int))) _ _ := W.same (.new ht)
        refine ⟨c, ps ++ [b], W1.chgs K5 (fun a ha => ?_) (fun x hx => ?_), by rw [et, ← List.append_assoc]; exact hv5, by rw [List.length_append, hps]; rfl, _, rfl⟩
        · rcases ha with rfl | rfl
          · exact W1.fr _ (List.mem_of_getElem? (i := 3) rfl)
          · exact W1.fr _ (List.mem_of_getElem? (i := 4) rfl)
        · simp only [List.mem_cons, List.not_mem_nil, or_false] at hx
          rcases hx with rfl | rfl | rfl | rfl | rfl | rfl
          · exact .inl fun z => z.elim (W.ne 0 3 rfl rfl) (W.ne 0 4 rfl rfl)
          · exact .inl fun z => z.elim (W.ne 1 3 rfl rfl) (W.ne 1 4 rfl rfl)
          · exact .inl fun z => z.elim (W.ne 2 3 rfl rfl) (W.ne 2 4 rfl rfl)
          · exact .inr ⟨_, hv5.eo, trivial⟩
          · exact .inr ⟨_, hv5.ep, trivial⟩
          · exact .inl fun z => z.elim (W.ne 5 3 rfl rfl) (W.ne 5 4 rfl rfl)
    · rintro σ H4 ⟨b, ps, W, hv, hps, x3, rfl⟩
      rw [List.length_map, List.take_length] at hv
      walk_at "hs"
      refine ⟨o, dx, _, rfl, hv.eo, o, b, p, dx, _, _, rfl, hv, fun c hc => ?_⟩
      replace W := W.new (P := Eq _) hc (o := .lst ((ls ++ ms).map V.int)) rfl
      refine k _ c (ls ++ ms) W.kp ?_ upd_same (by rw [List.length_append]; omega) (fun x hx => ?_) (W.bag 0 1 rfl rfl)
      · exact (W.fr _ (List.mem_of_getElem? (i := 6) rfl)).resolve_left fun z => z.elim (W.ne 6 0 rfl rfl) (W.ne 6 1 rfl rfl)
      · rcases List.mem_append.mp hx with hx | hx
        · exact hL x hx
        · exact hmL x hx
theorem Told.keep {ls : List Int} {m : Int} {H H' : Hp} {x : V} (h : Told ls m H x) (k : HS.Keep (fun _ => False) H H') : Told ls m H' x := by
  rcases h with h | ⟨v, r, e, hv, hp, h⟩
  · exact .inl h
  · refine .inr ⟨v, r, e, hv, hp, ?_⟩
    rcases h with ⟨h1, h2⟩ | ⟨h1, u, h2, h3⟩
    · exact .inl ⟨h1, k _ _ h2 id⟩
    · exact .inr ⟨h1, u, h2, k _ _ h3 id⟩
theorem told_same {K : PySem.W.Frag} {ls : List Int} {m : Int} {H : Hp} {x y : V} (h : Told ls m H x) (g : Told ls m H y) : ∃ d, Dp K H x d ∧ Dp K H y d ∧ SeqAt.shaped d = true ∧ PyData.eqv d d = true := by
  rcases h with ⟨h, rfl⟩ | ⟨v, r, rfl, hv, hp, h⟩ <;> rcases g with ⟨g, rfl⟩ | ⟨v2, r2, rfl, gv, gp, g⟩
  · exact ⟨.none, .non, .non, by simp [SeqAt.shaped, PyData.canLay0, PyData.depth], by simp [PyData.eqv]⟩
  · exfalso
    rcases h with h | ⟨w, hw, hp⟩
    · rcases g with ⟨g, _⟩ | ⟨g, _⟩ <;> omega
    · rw [least_one hw gv] at hp; exact hp gp
  · exfalso
    rcases g with g | ⟨w, hw, gp⟩
    · rcases h with ⟨h, _⟩ | ⟨h, _⟩ <;> omega
    · rw [least_one hw hv] at gp; exact gp hp
  · obtain rfl := least_one hv gv
    rcases h with ⟨h1, h2⟩ | ⟨h1, u, h2, h3⟩ <;> rcases g with ⟨g1, g2⟩ | ⟨g1, u2, g2, g3⟩
    · exact ⟨.tuple [.int v, .none], .tup (HS.st h2) (.cons (.int v) (.cons .non .nil)), .tup (HS.st g2) (.cons (.int v) (.cons .non .nil)), by simp [SeqAt.shaped, PyData.canLay0, PyData.canLayAll0, PyData.depth, PyData.depthAll], by simp [PyData.eqv, PyData.eqvAll]⟩
    · omega
    · omega
    · obtain rfl := least_one h2 g2
      exact ⟨.tuple [.int v, .int (u - 1)], .tup (HS.st h3) (.cons (.int v) (.cons (.int _) .nil)), .tup (HS.st g3) (.cons (.int v) (.cons (.int _) .nil)), by simp [SeqAt.shaped, PyData.canLay0, PyData.canLayAll0, PyData.depth, PyData.depthAll], by simp [PyData.eqv, PyData.eqvAll]⟩
theorem neBlS {a : Bool} {H : Hp} {Q : VK} (q : Q (.bl false) H) : rNe (.bl a) (.bl a) H Q := ⟨rfl, by rw [decide_eq_true rfl]; exact q⟩
/-- the sizes up to n with m pages -/
def fitsL (ls : List Int) (m : Int) (n : Nat) : List Int := ((List.range n).map fun (i : Nat) => 1 + (i : Int)).filter fun s => decide (pcount ls s = m)
theorem fits_succ (ls : List Int) (m : Int) (n : Nat) : fitsL ls m (n + 1) = fitsL ls m n ++ if pcount ls (1 + (n : Int)) = m then [1 + (n : Int)] else [] := by
  unfold fitsL
  rw [List.range_succ, List.map_append, List.filter_append]
  by_cases c : pcount ls (1 + (n : Int)) = m
  · rw [if_pos c, List.map_cons, List.map_nil, List.filter_cons_of_pos (by simpa using c)]; rfl
  · rw [if_neg c, List.map_cons, List.map_nil, List.filter_cons_of_neg (by simpa using c)]; rfl
theorem fits_len (ls : List Int) (m : Int) (n : Nat) : (fitsL ls m n).length ≤ n := by
  unfold fitsL
  exact Nat.le_trans (List.length_filter_le _ _) (by rw [List.length_map, List.length_range]; exact Nat.le_refl _)
theorem fits_told {ls : List Int} {m : Int} {H : Hp} {x : V} (h1 : ∀ x ∈ ls, 1 ≤ x) (h40 : ∀ x ∈ ls, x ≤ 40) (hm : (ls.length : Int) ≤ m) (t : Told ls m H x) : decide (0 < ((fitsL ls m (42 - 1 : Int).toNat).length : Int)) = !decide (x = V.non) := by
  have mem : ∀ s, s ∈ fitsL ls m (42 - 1 : Int).toNat ↔ (1 ≤ s ∧ s ≤ 41) ∧ pcount ls s = m := fun s => by
    unfold fitsL
    rw [List.mem_filter, List.mem_map]
    refine and_congr ⟨?_, fun h => ⟨(s - 1).toNat, List.mem_range.mpr (by show _ < 41; omega), by omega⟩⟩ (by simp)
    rintro ⟨j, hj, rfl⟩
    have : j < 41 := List.mem_range.mp hj
    omega
  rcases t with ⟨h, rfl⟩ | ⟨v, r, rfl, hv, hp, h⟩
  · have e : fitsL ls m (42 - 1 : Int).toNat = [] := by
      rw [List.eq_nil_iff_forall_not_mem]
      intro s hs
      obtain ⟨⟨s0, s1⟩, s2⟩ := (mem s).mp hs
      rcases h with h | ⟨v, hv, hp⟩
      · omega
      · have v0 := hv.1
        have vs : v ≤ s := by
          apply Int.le_of_not_gt
          intro c
          have := hv.2.2.2 s s0 c
          omega
        have := pcount_anti h1 v0 vs
        have := hv.2.2.1
        omega
    rw [e]; rfl
  · have v40 : v ≤ 40 := by
      apply Int.le_of_not_gt
      intro c
      have := hv.2.2.2 40 (by decide) c
      rw [pcount_flat h1 h40] at this
      omega
    have hin := (mem v).mpr ⟨⟨hv.1, by omega⟩, hp⟩
    have := List.length_pos_of_mem hin
    rw [decide_eq_true (by omega), decide_eq_false (by simp)]
    rfl
def sp_law (K : PySem.W.Frag) : Sp := fun vs H Q _ => ∃ (a : Addr) (ns : List Int), vs = [.ref a] ∧ (SqL K H a (ns.map V.int) ∧ ns.length ≤ 63 ∧ ∀ H', Q (.bl true) H')
theorem ok_law (T : Txt K mg A) : FnOk P w K mg base CX0 8 A.a_law A.d_law ["script"] (sp_law K) := by
  have G__law_bag : FnOk P w K mg base CX0 1 A.a__law_bag A.d__law_bag ["script"] (sp__law_bag K) := ok__law_bag T
  have G__law_lengths : FnOk P w K mg base CX0 2 A.a__law_lengths A.d__law_lengths ["bag", "upto", "far"] (sp__law_lengths K) := ok__law_lengths T
  have G__law_draw : FnOk P w K mg base CX0 1 A.a__law_draw A.d__law_draw ["bag", "many"] (sp__law_draw K) := ok__law_draw T
  have G__law_great : FnOk P w K mg base CX0 2 A.a__law_great A.d__law_great ["bag"] (sp__law_great K) := ok__law_great T
  have G__law_longer : FnOk P w K mg base CX0 6 A.a__law_longer A.d__law_longer ["bag", "chapters"] (sp__law_longer K A) := ok__law_longer T
  have G__law_needed : FnOk P w K mg base CX0 1 A.a__law_needed A.d__law_needed ["chapters", "wide"] (sp__law_needed K) := ok__law_needed T
  have G_sizes_with : FnOk P w K mg base CX0 4 A.a_sizes_with A.d_sizes_with ["book", "number"] (sp_sizes_with K) := ok_sizes_with T
  have G__law_right : FnOk P w K mg base CX0 3 A.a__law_right A.d__law_right ["told", "chapters", "pages_wanted"] (sp__law_right K) := ok__law_right T
  refine T.F_law.ok sc_law (fun vs H Q E h => ?_) (fun cdv A0 outer s H vs Q E hr h => ?_)
  · obtain ⟨a, ns, rfl, hw⟩ := h
    rfl
  · obtain ⟨a, ns, rfl, hw⟩ := h
    refine ⟨_, (pss_cons (ps_set (i := 1) sc_law.nd rfl (.inl rfl) (pe_call G__law_bag (hr.mono (by decide)) (by rfl) T.g__law_bag T.F__law_bag.kp T.b__law_bag .nil pass0 (pa_cons (pv 0) pa_nil)))
    (pss_cons (ps_for PassesOwn.never rfl (pi_range1 (by rfl) T.z_range (pa_cons (pe_op op_add pe_int (pe_callB (call_min2 rfl) (by rfl) T.z_min (by decide +kernel) (pa_cons pe_int (pa_cons (pe_callB (HS.klen K) (by rfl) T.z_len PySem.boot_len (pa_cons (pv 0) pa_nil)) pa_nil)))) pa_nil)) (pg_name (i := 2) sc_law.nd rfl (.inl rfl))
      (pss_cons (ps_set (i := 3) sc_law.nd rfl (.inr rfl) (pe_call G__law_lengths (hr.mono (by decide)) (by rfl) T.g__law_lengths T.F__law_lengths.kp T.b__law_lengths .nil pass0 (pa_cons (pv 1) (pa_cons (pe_ix (HS.ixt K) (pe_tup (pa_cons pe_int (pa_cons pe_int pa_nil))) (pe_call G__law_draw (hr.mono (by decide)) (by rfl) T.g__law_draw T.F__law_draw.kp T.b__law_draw .nil pass0 (pa_cons (pv 1) (pa_cons pe_int pa_nil))) (fun _ _ => rfl)) (pa_cons (pe_ix (HS.ixt K) (pe_tup (pa_cons pe_int (pa_cons (HS.pe_fold (100000000000000) (pe_op op_pow pe_int pe_int) (by intro σ H Q q; walk_at "fold")) pa_nil))) (pe_call G__law_draw (hr.mono (by decide)) (by rfl) T.g__law_draw T.F__law_draw.kp T.b__law_draw .nil pass0 (pa_cons (pv 1) (pa_cons pe_int pa_nil))) (fun _ _ => rfl)) pa_nil)))))
    (Evl.pss_cut (ps_if (pt_cmpR op_eq (pe_call G__law_draw (hr.mono (by decide)) (by rfl) T.g__law_draw T.F__law_draw.kp T.b__law_draw .nil pass0 (pa_cons (pv 1) (pa_cons pe_int pa_nil))) pe_int (nomark _))
      (pss_one (ps_set (i := 3) sc_law.nd rfl (.inr rfl) (pe_op op_cat (pe_slice (HS.sll K) (pv 3) po_none (po_some pe_int)) (pe_lst (pa_cons (pe_ix (HS.ixt K) (pe_tup (pa_cons (pe_op op_add pe_int (pe_call G__law_great (hr.mono (by decide)) (by rfl) T.g__law_great T.F__law_great.kp T.b__law_great .nil pass0 (pa_cons (pv 1) pa_nil))) (pa_cons (HS.pe_fold (999999999999999999999999999999) (pe_op op_sub (pe_op op_pow pe_int pe_int) pe_int) (by intro σ H Q q; walk_at "fold")) pa_nil))) (pe_call G__law_draw (hr.mono (by decide)) (by rfl) T.g__law_draw T.F__law_draw.kp T.b__law_draw .nil pass0 (pa_cons (pv 1) (pa_cons pe_int pa_nil))) (fun _ _ => rfl)) pa_nil)))))
      pss_nil)
    (Evl.pss_cut (ps_if (pt_cmpR op_eq (pe_call G__law_draw (hr.mono (by decide)) (by rfl) T.g__law_draw T.F__law_draw.kp T.b__law_draw .nil pass0 (pa_cons (pv 1) (pa_cons pe_int pa_nil))) pe_int (nomark _))
      (pss_one (ps_set (i := 3) sc_law.nd rfl (.inr rfl) (pe_call G__law_longer (hr.mono (by decide)) (by rfl) T.g__law_longer T.F__law_longer.kp T.b__law_longer .nil pass0 (pa_cons (pv 1) (pa_cons (pv 3) pa_nil)))))
      pss_nil)
    (pss_cons (ps_set (i := 4) sc_law.nd rfl (.inl rfl) (pe_op op_add pe_int (pe_call G__law_draw (hr.mono (by decide)) (by rfl) T.g__law_draw T.F__law_draw.kp T.b__law_draw .nil pass0 (pa_cons (pv 1) (pa_cons (pe_ix (HS.ixt K) (pe_tup (pa_cons pe_int (pa_cons (pe_op op_add pe_int (pe_callB (HS.kmax K rfl) (by rfl) T.z_max (by decide +kernel) (pa_cons (pe_op op_cat (pv 3) (pe_lst (pa_cons pe_int pa_nil))) pa_nil))) pa_nil))) (pe_call G__law_draw (hr.mono (by decide)) (by rfl) T.g__law_draw T.F__law_draw.kp T.b__law_draw .nil pass0 (pa_cons (pv 1) (pa_cons pe_int pa_nil))) (fun _ _ => rfl)) pa_nil)))))
    (pss_cons (ps_set (i := 5) sc_law.nd rfl (.inl rfl) (pe_call G__law_needed (hr.mono (by decide)) (by rfl) T.g__law_needed T.F__law_needed.kp T.b__law_needed .nil pass0 (pa_cons (pv 3) (pa_cons (pv 4) pa_nil))))
    (pss_cons (ps_set (i := 6) sc_law.nd rfl (.inl rfl) (pe_lst (pa_cons (pv 5) (pa_cons (pe_op op_add (pv 5) pe_int) (pa_cons (pe_op op_sub (pv 5) pe_int) (pa_cons (pe_callB (HS.klen K) (by rfl) T.z_len PySem.boot_len (pa_cons (pv 3) pa_nil)) (pa_cons (pe_call G__law_draw (hr.mono (by decide)) (by rfl) T.g__law_draw T.F__law_draw.kp T.b__law_draw .nil pass0 (pa_cons (pv 1) (pa_cons pe_int pa_nil))) (pa_cons (pe_op op_sub pe_int (pe_call G__law_great (hr.mono (by decide)) (by rfl) T.g__law_great T.F__law_great.kp T.b__law_great .nil pass0 (pa_cons (pv 1) pa_nil))) pa_nil))))))))
    (pss_cons (ps_for PassesOwn.never rfl (HS.kil K (pi_list (pe_lc (own := [("one", 10)]) (g := gName 10) rfl sc_law.nd (HS.kil K (pi_list (pv 6))) (blkOk_by (own := [("one", 10)]) (N := N_law) (sc := defScope s_law) (by decide +kernel)) (fun _ _ _ _ _ => pg_name (i := 10) sc_law.nd rfl (by first | exact .inl rfl | exact .inr rfl)) (fun _ _ _ _ _ => (pts_one (pt_cmpR op_lt (pv 10) (HS.pe_fold (1000000000000000000000000000000) (pe_op op_pow pe_int pe_int) (by intro σ H Q q; walk_at "fold")) (nomark _)))) (fun _ _ _ _ _ => (pv 10))))) (pg_name (i := 7) sc_law.nd rfl (.inr rfl))
      (pss_cons (ps_set (i := 8) sc_law.nd rfl (.inl rfl) (pe_call G_sizes_with (hr.mono (by decide)) (by rfl) T.g_sizes_with T.F_sizes_with.kp T.b_sizes_with .nil pass0 (pa_cons (pv 3) (pa_cons (pv 7) pa_nil))))
    (pss_cons (ps_if (pt_not (pt_val (pe_call G__law_right (hr.mono (by decide)) (by rfl) T.g__law_right T.F__law_right.kp T.b__law_right .nil pass0 (pa_cons (pv 8) (pa_cons (pv 3) (pa_cons (pv 7) pa_nil))))))
      (pss_one (ps_ret pe_bl))
      pss_nil)
    (pss_one (ps_if (pt_cmpR (HS.kne K (hu64 hr)) (HS.pe_kw0 G_sizes_with (hr.mono (by decide)) (by rfl) T.g_sizes_with T.F_sizes_with.kp T.kb_sizes_with_0_number_book pass0 (pk_cons (pv 7) (pk_cons (pv 3) pk_nil))) (pv 8) (nomark _))
      (pss_one (ps_ret pe_bl))
      pss_nil)))))
    (pss_one (ps_if (pt_cmpR op_lt (pe_callB (HS.kmax K rfl) (by rfl) T.z_max (by decide +kernel) (pa_cons (pe_op op_cat (pv 3) (pe_lst (pa_cons pe_int pa_nil))) pa_nil)) pe_int (nomark _))
      (pss_one (ps_for PassesOwn.never rfl (pi_range2 (by rfl) T.z_range (pa_cons (pe_callB (HS.klen K) (by rfl) T.z_len PySem.boot_len (pa_cons (pv 3) pa_nil)) (pa_cons (pe_op op_add (pe_callB (HS.klen K) (by rfl) T.z_len PySem.boot_len (pa_cons (pv 3) pa_nil)) pe_int) pa_nil))) (pg_name (i := 7) sc_law.nd rfl (.inr rfl))
      (pss_cons (ps_setLc (i := 9) (own := [("size_now", 11)]) (g := gName 11) rfl sc_law.nd rfl rfl (sw_true rfl rfl rfl (by decide +kernel)) (pi_range2 (by rfl) T.z_range (pa_cons pe_int (pa_cons pe_int pa_nil))) (blkOk_by (own := [("size_now", 11)]) (N := N_law) (sc := defScope s_law) (by decide +kernel)) (fun _ _ _ _ _ => pg_name (i := 11) sc_law.nd rfl (by first | exact .inl rfl | exact .inr rfl)) (fun _ _ _ _ _ => (pts_one (pt_cmpR op_eq (pe_call G__law_needed (hr.mono (by decide)) (by rfl) T.g__law_needed T.F__law_needed.kp T.b__law_needed .nil pass0 (pa_cons (pv 3) (pa_cons (pv 11) pa_nil))) (pv 7) (nomark _)))) (fun _ _ _ _ _ => (pv 11)))
    (pss_one (ps_if (pt_cmpR op_ne (pe_cmpR op_gt (pe_callB (HS.klen K) (by rfl) T.z_len PySem.boot_len (pa_cons (pv 9) pa_nil)) pe_int (nomark _)) (pe_cmpR op_notN (pe_call G_sizes_with (hr.mono (by decide)) (by rfl) T.g_sizes_with T.F_sizes_with.kp T.b_sizes_with .nil pass0 (pa_cons (pv 3) (pa_cons (pv 7) pa_nil))) pe_non (nomark _)) (nomark _))
      (pss_one (ps_ret pe_bl))
      pss_nil)))))
      pss_nil))))))))))
    (pss_one (ps_ret pe_bl)))), ?_⟩
    obtain ⟨hS, hl, k⟩ := hw
    walk_at "hs"
    refine ⟨a, ns, rfl, hS, hl, fun H1 s d K1 _ _ B1 => ?_⟩
    have W := wd_bag (S := fun a => a = s ∨ a = d) B1 (.inl rfl) (.inr rfl)
    have hS1 := K1.sq hS id
    walk_at "hs"
    rw [List.length_map]
    have hm : 0 ≤ (6 + if (ns.length : Int) < 12 then (ns.length : Int) else 12) ∧ (6 + if (ns.length : Int) < 12 then (ns.length : Int) else 12) ≤ 18 := by split <;> omega
    generalize (6 + if (ns.length : Int) < 12 then (ns.length : Int) else 12) = m at hm ⊢
    refine ⟨by omega, by omega, for_range (n := m.toNat) (fun i σ H' => HS.Wd H1 H' (fun a => a = s ∨ a = d) [(s, BagO d (900 * i)), (d, GreatO)] ∧ ∃ x2 x3 x4 x5 x6 x7 x8 x9 x10 x11, σ = [some (.ref a), some (.ref s), x2, x3, x4, x5, x6, x7, x8, x9, x10, x11]) ?_ ?_ ?_⟩
    · exact ⟨W, _, _, _, _, _, _, _, _, _, _, rfl⟩
    · rintro i σ H2 hi ⟨W, x2, x3, x4, x5, x6, x7, x8, x9, x10, x11, rfl⟩
      have hi18 : i < 18 := by omega
      walk_at "hs"
      intro t1 ht1
      generalize hG_t1 : upd _ t1 _ = H3
      have Kn_t1 := HS.upgK hG_t1 ht1
      replace W := W.newG hG_t1 ht1
      clear hG_t1 ht1
      try dsimp only [List.set, List.cons_append, List.nil_append] at W
      walk_at "hs"
      refine ⟨s, d, _, _, rfl, W.bag 0 1 rfl rfl, by decide, by decide, by omega, fun H4 e K4 B4 e0 e1 => ?_⟩
      replace W := W.bagged 0 1 rfl rfl K4 B4 (by omega)
      refine HS.ixTI [5, 40] (W.st 2 rfl) e0 e1 fun u _ hu => ?_
      have hu' : 0 ≤ u ∧ u ≤ 40 := by
        simp only [List.mem_cons, List.not_mem_nil, or_false] at hu
        rcases hu with rfl | rfl <;> omega
      replace W := W.take 2
      walk_at "hs"
      intro t2 ht2
      generalize hG_t2 : upd _ t2 _ = H5
      have Kn_t2 := HS.upgK hG_t2 ht2
      replace W := W.newG hG_t2 ht2
      clear hG_t2 ht2
      try dsimp only [List.set, List.cons_append, List.nil_append] at W
      walk_at "hs"
      refine ⟨s, d, _, _, rfl, W.bag 0 1 rfl rfl, by decide, by decide, by omega, fun H6 f K6 B6 f0 f1 => ?_⟩
      replace W := W.bagged 0 1 rfl rfl K6 B6 (by omega)
      refine HS.ixTI [30, 100000000000000] (W.st 2 rfl) f0 f1 fun v _ hv => ?_
      have hv' : 1 ≤ v ∧ v < 10 ^ 30 := by
        simp only [List.mem_cons, List.not_mem_nil, or_false] at hv
        rcases hv with rfl | rfl <;> omega
      replace W := W.take 2
      walk_at "hs"
      refine ⟨s, d, _, _, _, rfl, W.bag 0 1 rfl rfl, hu'.1, by omega, hv'.1, hv'.2, by omega, fun H7 c ls K7 hc0 hc hcl hcL B7 => ?_⟩
      replace W := HS.Wd.madeT (P := Eq _) W (W.bagged 0 1 rfl rfl K7 B7 (by omega)) rfl hc0 hc rfl
      dsimp only [List.set, List.take, List.cons_append, List.nil_append] at W
      walk_at "hs"
      refine HS.cut (fun σ H' => ∃ (c : Addr) (ls : List Int), HS.Wd H1 H' (fun a => a = s ∨ a = d) [(s, BagO d (900 * i + 408)), (d, GreatO), (c, Eq (.lst (ls.map V.int)))] ∧ ls.length ≤ 40 ∧ (∀ x ∈ ls, 1 ≤ x ∧ x < 10 ^ 31) ∧ σ = [some (.ref a), some (.ref s), some (.int (0 + (i : Nat))), some (.ref c), x4, x5, x6, x7, x8, x9, x10, x11]) ?_ ?_
      · walk_at "hs"
        refine ⟨s, d, _, _, rfl, W.bag 0 1 rfl rfl, by decide, by decide, by omega, fun H8 g K8 B8 g0 g1 => ?_⟩
        replace W := W.bagged 0 1 rfl rfl K8 B8 (by omega)
        walk_at "hs"
        refine HS.itd (fun c1 => ?_) (fun c1 => ?_)
        · walk_at "hs"
          refine HS.slLs (W.sq 2 rfl) ?_
          intro q hq
          generalize hG_q : upd _ q _ = HA
          have Kn_q := HS.upgK hG_q hq
          replace W := W.newG hG_q hq
          clear hG_q hq
          try dsimp only [List.set, List.cons_append, List.nil_append] at W
          rw [HS.cut_toI ls (by decide)] at W
          walk_at "hs"
          refine ⟨s, d, _, rfl, W.bag 0 1 rfl rfl, by omega, fun HB y KB BB y0 y1 => ?_⟩
          replace W := W.bagged 0 1 rfl rfl KB BB (by omega)
          walk_at "hs"
          intro t3 ht3
          generalize hG_t3 : upd _ t3 _ = HC
          have Kn_t3 := HS.upgK hG_t3 ht3
          replace W := W.newG hG_t3 ht3
          clear hG_t3 ht3
          try dsimp only [List.set, List.cons_append, List.nil_append] at W
          walk_at "hs"
          refine ⟨s, d, _, _, rfl, W.bag 0 1 rfl rfl, by decide, by decide, by omega, fun HD h KD BD h0 h1 => ?_⟩
          replace W := W.bagged 0 1 rfl rfl KD BD (by omega)
          refine HS.ixTI [1 + y, 999999999999999999999999999999] (W.st 4 rfl) h0 h1 fun z _ hz => ?_
          have hz' : 1 ≤ z ∧ z < 10 ^ 31 := by
            simp only [List.mem_cons, List.not_mem_nil, or_false] at hz
            rcases hz with rfl | rfl <;> omega
          walk_at "hs"
          intro q2 hq2
          generalize hG_q2 : upd _ q2 _ = HE
          have Kn_q2 := HS.upgK hG_q2 hq2
          replace W := W.newG hG_q2 hq2
          clear hG_q2 hq2
          try dsimp only [List.set, List.cons_append, List.nil_append] at W
          refine HS.cat (W.at 3 rfl) (W.at 5 rfl) ?_
          walk_at "hs"
          refine ⟨HS.sz (by rw [List.length_map, List.length_take]; omega), ?_⟩
          intro q3 hq3
          generalize hG_q3 : upd _ q3 _ = HF
          have Kn_q3 := HS.upgK hG_q3 hq3
          replace W := W.newG hG_q3 hq3
          clear hG_q3 hq3
          try dsimp only [List.set, List.cons_append, List.nil_append] at W
          have W3 := W.bup (m := 900 * i + 408) 0 rfl (by omega)
          dsimp only [List.set] at W3
          refine ⟨q3, ls.take 39 ++ [z], ?_, ?_, fun x hx => ?_, rfl⟩
          · rw [List.map_append]
            exact W3.sub (by walk_at "sub")
          · rw [List.length_append, List.length_take, List.length_singleton]
            omega
          · rcases List.mem_append.mp hx with hx | hx
            · exact hcL x (List.mem_of_mem_take hx)
            · rw [List.mem_singleton] at hx
              subst hx
              exact hz'
        · walk_at "hs"
          exact ⟨c, ls, W.bup 0 rfl (by omega), by omega, hcL, rfl⟩
      · clear hc0 hc hcl hcL K7 B7 W ls c
        rintro σ7 H8 ⟨c, ls, W, hcl, hcL, rfl⟩
        walk_at "hs"
        refine HS.cut (fun σ H' => ∃ (c : Addr) (ls : List Int), HS.Wd H1 H' (fun a => a = s ∨ a = d) [(s, BagO d (900 * i + 810)), (d, GreatO), (c, Eq (.lst (ls.map V.int)))] ∧ ls.length ≤ 140 ∧ (∀ x ∈ ls, 1 ≤ x ∧ x < 10 ^ 31) ∧ σ = [some (.ref a), some (.ref s), some (.int (0 + (i : Nat))), some (.ref c), x4, x5, x6, x7, x8, x9, x10, x11]) ?_ ?_
        · walk_at "hs"
          refine ⟨s, d, _, _, rfl, W.bag 0 1 rfl rfl, by decide, by decide, by omega, fun H9 g K9 B9 g0 g1 => ?_⟩
          replace W := W.bagged 0 1 rfl rfl K9 B9 (by omega)
          walk_at "hs"
          refine HS.itd (fun c1 => ?_) (fun c1 => ?_)
          · walk_at "hs"
            refine ⟨s, d, c, ls, _, rfl, W.bag 0 1 rfl rfl, W.sq 2 rfl, by omega, hcL, by omega, fun HA c2 ms KA hc0 hc2 hml hmL BA => ?_⟩
            replace W := HS.Wd.madeT (P := Eq _) W (W.bagged 0 1 rfl rfl KA BA (by omega)) rfl hc0 hc2 rfl
            dsimp only [List.set, List.cons_append, List.nil_append] at W
            walk_at "hs"
            have W3 := W.bup (m := 900 * i + 810) 0 rfl (by omega)
            dsimp only [List.set] at W3
            exact ⟨c2, ms, W3.sub (by walk_at "sub"), by omega, hmL, rfl⟩
          · walk_at "hs"
            exact ⟨c, ls, W.bup 0 rfl (by omega), by omega, hcL, rfl⟩
        · clear hcl hcL W ls c
          rintro σ7 H9 ⟨c, ls, W, hcl, hcL, rfl⟩
          have h1 : ∀ x ∈ ls, 1 ≤ x := fun x hx => (hcL x hx).1
          have hL8 : ∀ x ∈ ls, 1 ≤ x ∧ x < 2 ^ 180 := fun x hx => ⟨(hcL x hx).1, by have := (hcL x hx).2; omega⟩
          have hL9 : ∀ x ∈ ls, 1 ≤ x ∧ x < 2 ^ 190 := fun x hx => ⟨(hcL x hx).1, by have := (hcL x hx).2; omega⟩
          walk_at "hs"
          intro q1 hq1
          generalize hG_q1 : upd _ q1 _ = HA
          have Kn_q1 := HS.upgK hG_q1 hq1
          replace W := W.newG hG_q1 hq1
          clear hG_q1 hq1
          try dsimp only [List.set, List.cons_append, List.nil_append] at W
          refine HS.cat (W.at 2 rfl) (W.at 3 rfl) ?_
          walk_at "hs"
          rw [show ls.map V.int ++ [V.int 1] = (ls ++ [1]).map V.int by rw [List.map_append]; rfl]
          intro q2 hq2
          generalize hG_q2 : upd _ q2 _ = HB
          have Kn_q2 := HS.upgK hG_q2 hq2
          replace W := W.newG hG_q2 hq2
          clear hG_q2 hq2
          try dsimp only [List.set, List.cons_append, List.nil_append] at W
          walk_at "hs"
          refine ⟨q2, ls ++ [1], rfl, W.sq 4 rfl, by simp, fun mx hmx hmy => ?_⟩
          have hmx' : 1 ≤ mx ∧ mx < 10 ^ 31 := by
            rcases List.mem_append.mp hmx with h | h
            · exact hcL mx h
            · rw [List.mem_singleton] at h; subst h; exact ⟨by decide, by decide⟩
          walk_at "hs"
          intro t3 ht3
          generalize hG_t3 : upd _ t3 _ = HC
          have Kn_t3 := HS.upgK hG_t3 ht3
          replace W := W.newG hG_t3 ht3
          clear hG_t3 ht3
          try dsimp only [List.set, List.cons_append, List.nil_append] at W
          walk_at "hs"
          refine ⟨s, d, _, _, rfl, W.bag 0 1 rfl rfl, by decide, by decide, by omega, fun HD g KB BB g0 g1 => ?_⟩
          replace W := W.bagged 0 1 rfl rfl KB BB (by omega)
          refine HS.ixTI [9, 1 + mx] (W.st 5 rfl) g0 g1 fun z _ hz => ?_
          have hz' : 1 ≤ z ∧ z < 2 ^ 120 := by
            simp only [List.mem_cons, List.not_mem_nil, or_false] at hz
            rcases hz with rfl | rfl <;> omega
          walk_at "hs"
          refine ⟨s, d, _, _, rfl, W.bag 0 1 rfl rfl, by omega, by omega, by omega, fun HE h KC BC h0 h1' => ?_⟩
          replace W := (W.bagged 0 1 rfl rfl KC BC (by omega)).take 3
          walk_at "hs"
          refine ⟨c, ls, _, rfl, W.sq 2 rfl, by omega, by omega, by omega, fun HF KF => ?_⟩
          replace W := W.same KF
          generalize pcount ls (1 + h) = th
          walk_at "hs"
          refine HS.lenL (W.sq 2 rfl) ?_
          walk_at "hs"
          rw [List.length_map]
          refine ⟨s, d, _, _, rfl, W.bag 0 1 rfl rfl, by decide, by decide, by omega, fun HG g KG BG g0 g1 => ?_⟩
          replace W := W.bagged 0 1 rfl rfl KG BG (by omega)
          walk_at "hs"
          refine ⟨s, d, _, rfl, W.bag 0 1 rfl rfl, by omega, fun HH e KE BE e0 e1 => ?_⟩
          replace W := W.bagged 0 1 rfl rfl KE BE (by omega)
          walk_at "hs"
          intro so hso
          generalize hG_so : upd _ so _ = HI
          have Kn_so := HS.upgK hG_so hso
          replace W := W.newG hG_so hso
          clear hG_so hso
          try dsimp only [List.set, List.cons_append, List.nil_append] at W
          replace W := W.bup (m := 900 * i + 820) 0 rfl (by omega)
          try dsimp only [List.set] at W
          generalize hw1 : 1 + h = wd at *
          walk_at "hs"
          refine ⟨⟨_, W.sq 3 rfl⟩, fun D hD => lc_list (xs := [th, th + 1, th - 1, (ls.length : Int), g, 0 - e].map V.int) (fun j H' => ∃ us : List Int, HS.Wd H1 H' (fun a => a = s ∨ a = d) [(s, BagO d (900 * i + 820)), (d, GreatO), (c, Eq (.lst (ls.map V.int))), (so, Eq (.lst ([th, th + 1, th - 1, (ls.length : Int), g, 0 - e].map V.int))), (D, Eq (.lst (us.map V.int)))] ∧ us.length ≤ j) ⟨[], W.new hD rfl, Nat.le_refl _⟩ (fun j H' _ ⟨us, W, _⟩ => W.sq 3 rfl) ?_ ?_⟩
          · rintro j x H3 hj ⟨us, W, hu⟩
            obtain ⟨z, rfl, hz, hjl⟩ := HS.get_int hj
            have hjl2 : j < 6 := hjl
            walk_at "hs"
            refine HS.itd (fun c1 => ?_) (fun c1 => ?_)
            · walk_at "hs"
              refine ⟨_, W.at 4 rfl, HS.sz (by rw [List.length_map]; omega), us ++ [z], ?_, by rw [List.length_append]; exact Nat.add_le_add_right hu 1⟩
              rw [List.map_append]
              exact W.put 4 rfl rfl
            · exact ⟨us, W, by omega⟩
          · rintro H3 ⟨us, W, hu⟩
            walk_at "hs"
            refine ⟨⟨_, W.sq 4 rfl⟩, for_list (xs := us.map V.int) (fun j σ H' => HS.Wd H1 H' (fun a => a = s ∨ a = d) [(s, BagO d (900 * i + 820)), (d, GreatO), (c, Eq (.lst (ls.map V.int))), (so, Eq (.lst ([th, th + 1, th - 1, (ls.length : Int), g, 0 - e].map V.int))), (D, Eq (.lst (us.map V.int)))] ∧ ∃ x7 x8 x9 x10 x11, σ = [some (.ref a), some (.ref s), some (.int (0 + (i : Nat))), some (.ref c), some (.int wd), some (.int th), some (.ref so), x7, x8, x9, x10, x11]) ⟨W, _, _, _, _, _, rfl⟩ (fun j σ H' _ ⟨W, _⟩ => W.sq 4 rfl) ?_ ?_⟩
            · rintro j x σ H4 hj ⟨W, x7, x8, x9, x10, x11, rfl⟩
              obtain ⟨z, rfl, hz, hjl⟩ := HS.get_int hj
              walk_at "hs"
              refine ⟨c, ls, z, rfl, W.sq 2 rfl, hL9, by omega, fun H5 x K5 t5 => ?_⟩
              replace W := W.same K5
              walk_at "hs"
              refine ⟨x, c, ls, z, rfl, W.at 2 rfl, hL8, by omega, t5, fun H6 K6 => ?_⟩
              replace W := W.same K6
              walk_at "hs"
              refine ⟨c, ls, z, rfl, W.sq 2 rfl, hL9, by omega, fun H7 y K7 t7 => ?_⟩
              replace W := W.same K7
              walk_at "hs"
              obtain ⟨dd, d1, d2, d3, d4⟩ := told_same (K := K) t7 ((t5.keep K6).keep K7)
              refine HS.neSame d1 d2 d3 d4 ?_
              walk_at "hs"
              exact ⟨W, _, _, _, _, _, rfl⟩
            · rintro σ H4 ⟨W, x7, x8, x9, x10, x11, rfl⟩
              replace W := W.take 3
              walk_at "hs"
              intro q3 hq3
              generalize hG_q3 : upd _ q3 _ = H5
              have Kn_q3 := HS.upgK hG_q3 hq3
              replace W := W.newG hG_q3 hq3
              clear hG_q3 hq3
              try dsimp only [List.set, List.cons_append, List.nil_append] at W
              refine HS.cat (W.at 2 rfl) (W.at 3 rfl) ?_
              walk_at "hs"
              rw [show ls.map V.int ++ [V.int 1] = (ls ++ [1]).map V.int by rw [List.map_append]; rfl]
              intro q4 hq4
              generalize hG_q4 : upd _ q4 _ = H6
              have Kn_q4 := HS.upgK hG_q4 hq4
              replace W := W.newG hG_q4 hq4
              clear hG_q4 hq4
              try dsimp only [List.set, List.cons_append, List.nil_append] at W
              walk_at "hs"
              refine ⟨q4, ls ++ [1], rfl, W.sq 4 rfl, by simp, fun my hmy hmz => ?_⟩
              replace W := W.take 3
              walk_at "hs"
              refine HS.itd (fun c1 => ?_) (fun c1 => ?_)
              · have hs40 : ∀ x ∈ ls, x ≤ 40 := fun x hx => by have := hmz x (List.mem_append_left _ hx); omega
                walk_at "hs"
                refine HS.lenL (W.sq 2 rfl) ?_
                walk_at "hs"
                refine HS.lenL (W.sq 2 rfl) ?_
                walk_at "hs"
                rw [List.length_map]
                refine ⟨by omega, for_range (n := ((ls.length : Int) + 30 - ls.length).toNat) (fun j σ H' => HS.Wd H1 H' (fun a => a = s ∨ a = d) [(s, BagO d (900 * i + 820)), (d, GreatO), (c, Eq (.lst (ls.map V.int)))] ∧ ∃ x7 x8 x9 x10 x11, σ = [some (.ref a), some (.ref s), some (.int (0 + (i : Nat))), some (.ref c), some (.int wd), some (.int th), some (.ref so), x7, x8, x9, x10, x11]) ⟨W, _, _, _, _, _, rfl⟩ ?_ ?_⟩
                · rintro j σ H7 hj ⟨W, x7, x8, x9, x10, x11, rfl⟩
                  walk_at "hs"
                  refine ⟨by decide, fun D2 hD2 => ?_⟩
                  refine lc_range (lo := 1) (n := (42 - 1 : Int).toNat) (fun l H' => HS.Wd H1 H' (fun a => a = s ∨ a = d) [(s, BagO d (900 * i + 820)), (d, GreatO), (c, Eq (.lst (ls.map V.int))), (D2, Eq (.lst ((fitsL ls ((ls.length : Int) + j) l).map V.int)))]) (W.new hD2 rfl) ?_ ?_
                  · rintro l H8 hl8 W
                    have hl9 : l < 41 := hl8
                    have pl := fits_len ls ((ls.length : Int) + j) l
                    walk_at "hs"
                    refine ⟨c, ls, _, rfl, W.sq 2 rfl, by omega, by omega, by omega, fun H9 K9 => ?_⟩
                    replace W := W.same K9
                    walk_at "hs"
                    refine HS.itd (fun c2 => ?_) (fun c2 => ?_)
                    · walk_at "hs"
                      refine ⟨_, W.at 3 rfl, HS.sz (by rw [List.length_map]; omega), ?_⟩
                      rw [fits_succ, if_pos c2, List.map_append]
                      exact W.put 3 rfl rfl
                    · rw [fits_succ, if_neg c2, List.append_nil]
                      exact W
                  · rintro H8 W
                    walk_at "hs"
                    refine HS.lenL (W.sq 3 rfl) ?_
                    walk_at "hs"
                    rw [List.length_map]
                    refine ⟨c, ls, _, rfl, W.sq 2 rfl, hL9, by omega, fun H9 x K9 t9 => ?_⟩
                    replace W := W.same K9
                    walk_at "hs"
                    refine ⟨rfl, ?_⟩
                    rw [← fits_told h1 hs40 (by omega) t9]
                    refine neBlS ?_
                    walk_at "hs"
                    exact ⟨W.take 3, _, _, _, _, _, rfl⟩
                · rintro σ H7 ⟨W, x7, x8, x9, x10, x11, rfl⟩
                  walk_at "hs"
                  exact ⟨(W.bup 0 rfl (by omega)).take 2, _, _, _, _, _, _, _, _, _, _, rfl⟩
              · walk_at "hs"
                exact ⟨(W.bup 0 rfl (by omega)).take 2, _, _, _, _, _, _, _, _, _, _, rfl⟩
    · rintro σ H2 ⟨W, x2, x3, x4, x5, x6, x7, x8, x9, x10, x11, rfl⟩
      walk_at "hs"
      exact k _
end
theorem all_mk {l : PySem.W.OpenLaw} {w : World} {K : PySem.W.Frag} {h : Heap} {mg : Str → Option Value} {fa f0 f1 f2 f3 f4 f5 f6 f7 f8 f9 f10 f11 f12 f13 f14 f15 f16 f17 c_BookError c_InvalidBook c_LiveBook p_LiveBook_book : Addr} (X : K.In h) (G : h.Ns mainGlobals mg) (hfa : mg "law" = some (.ref fa))
    {od0 an0 od1 an1 od2 an2 od3 an3 od4 an4 od5 an5 od6 an6 od7 an7 od8 an8 od9 an9 od10 an10 od11 an11 od12 an12 od13 an13 od14 an14 od15 an15 od16 an16 od17 an17 : Option Addr} {sl0 sl1 sl2 sl3 sl4 sl5 sl6 sl7 sl8 sl9 sl10 sl11 sl12 sl13 sl14 sl15 sl16 sl17 : Array (Option Value)} {oc0 kV0 dc0 pm0 cd0 ct0 oc1 kV1 dc1 pm1 cd1 ct1 oc2 kV2 dc2 pm2 cd2 ct2 oc3 kV3 dc3 pm3 cd3 ct3 oc4 kV4 dc4 pm4 cd4 ct4 oc5 kV5 dc5 pm5 cd5 ct5 oc6 kV6 dc6 pm6 cd6 ct6 oc7 kV7 dc7 pm7 cd7 ct7 oc8 kV8 dc8 pm8 cd8 ct8 oc9 kV9 dc9 pm9 cd9 ct9 oc10 kV10 dc10 pm10 cd10 ct10 oc11 kV11 dc11 pm11 cd11 ct11 oc12 kV12 dc12 pm12 cd12 ct12 oc13 kV13 dc13 pm13 cd13 ct13 oc14 kV14 dc14 pm14 cd14 ct14 oc15 kV15 dc15 pm15 cd15 ct15 oc16 kV16 dc16 pm16 cd16 ct16 oc17 kV17 dc17 pm17 cd17 ct17 : Value}
    (m_BookError : PySem.W.nsIn K mainGlobals "BookError" = some (some (.ref c_BookError)))
    (m_InvalidBook : PySem.W.nsIn K mainGlobals "InvalidBook" = some (some (.ref c_InvalidBook)))
    (m_LiveBook : PySem.W.nsIn K mainGlobals "LiveBook" = some (some (.ref c_LiveBook)))
    (pg_LiveBook : PySem.W.plainGet K c_LiveBook Str.empty = true)
    (hd_LiveBook : PySem.W.hasDictIn K c_LiveBook = true)
    (po_LiveBook : PySem.W.plainOver K c_LiveBook = true)
    (sa_LiveBook : PySem.W.findIn K (.ref c_LiveBook) "__setattr__" = some (some (.builtin "object.__setattr__")))
    (mk_LiveBook : PySem.W.makesIn K c_LiveBook = true)
    (kc_LiveBook : PySem.W.keepIn K (.ref c_LiveBook) = true)
    (na_LiveBook__lengths : PySem.W.findIn K (.ref c_LiveBook) "_lengths" = some none)
    (na_LiveBook__past : PySem.W.findIn K (.ref c_LiveBook) "_past" = some none)
    (in_InvalidBook : PySem.W.findIn K (.ref c_InvalidBook) "__init__" = some (some (.ref f0)))
    (l0 : K.lookup f0 = some ⟨oc0, od0, .func (PySem.W.fnOf "__init__" "InvalidBook.__init__" (defArgs s_InvalidBook___init__) (defBody s_InvalidBook___init__) (defScope s_InvalidBook___init__) .none kV0 dc0 pm0 an0 cd0 ct0), sl0⟩) (c0 : PySem.W.codeIn K cd0 "InvalidBook.__init__" = true) (k0 : PySem.W.keepIn K (.ref f0) = true)
    (a1 : PySem.W.nsIn K mainGlobals "check_book" = some (some (.ref f1)))
    (l1 : K.lookup f1 = some ⟨oc1, od1, .func (PySem.W.fnOf "check_book" "check_book" (defArgs s_check_book) (defBody s_check_book) (defScope s_check_book) .none kV1 dc1 pm1 an1 cd1 ct1), sl1⟩) (c1 : PySem.W.codeIn K cd1 "check_book" = true) (k1 : PySem.W.keepIn K (.ref f1) = true)
    (a2 : PySem.W.nsIn K mainGlobals "count_pages" = some (some (.ref f2)))
    (l2 : K.lookup f2 = some ⟨oc2, od2, .func (PySem.W.fnOf "count_pages" "count_pages" (defArgs s_count_pages) (defBody s_count_pages) (defScope s_count_pages) .none kV2 dc2 pm2 an2 cd2 ct2), sl2⟩) (c2 : PySem.W.codeIn K cd2 "count_pages" = true) (k2 : PySem.W.keepIn K (.ref f2) = true)
    (a3 : PySem.W.nsIn K mainGlobals "search_size" = some (some (.ref f3)))
    (l3 : K.lookup f3 = some ⟨oc3, od3, .func (PySem.W.fnOf "search_size" "search_size" (defArgs s_search_size) (defBody s_search_size) (defScope s_search_size) .none kV3 dc3 pm3 an3 cd3 ct3), sl3⟩) (c3 : PySem.W.codeIn K cd3 "search_size" = true) (k3 : PySem.W.keepIn K (.ref f3) = true)
    (a4 : PySem.W.nsIn K mainGlobals "sizes_with" = some (some (.ref f4)))
    (l4 : K.lookup f4 = some ⟨oc4, od4, .func (PySem.W.fnOf "sizes_with" "sizes_with" (defArgs s_sizes_with) (defBody s_sizes_with) (defScope s_sizes_with) .none kV4 dc4 pm4 an4 cd4 ct4), sl4⟩) (c4 : PySem.W.codeIn K cd4 "sizes_with" = true) (k4 : PySem.W.keepIn K (.ref f4) = true)
    (in_LiveBook__change_to : PySem.W.findIn K (.ref c_LiveBook) "_change_to" = some (some (.ref f5)))
    (fn_LiveBook__change_to : PySem.W.isFn K (.ref f5) = true)
    (l5 : K.lookup f5 = some ⟨oc5, od5, .func (PySem.W.fnOf "_change_to" "LiveBook._change_to" (defArgs s_LiveBook__change_to) (defBody s_LiveBook__change_to) (defScope s_LiveBook__change_to) .none kV5 dc5 pm5 an5 cd5 ct5), sl5⟩) (c5 : PySem.W.codeIn K cd5 "LiveBook._change_to" = true) (k5 : PySem.W.keepIn K (.ref f5) = true)
    (in_LiveBook___init__ : PySem.W.findIn K (.ref c_LiveBook) "__init__" = some (some (.ref f6)))
    (fn_LiveBook___init__ : PySem.W.isFn K (.ref f6) = true)
    (l6 : K.lookup f6 = some ⟨oc6, od6, .func (PySem.W.fnOf "__init__" "LiveBook.__init__" (defArgs s_LiveBook___init__) (defBody s_LiveBook___init__) (defScope s_LiveBook___init__) .none kV6 dc6 pm6 an6 cd6 ct6), sl6⟩) (c6 : PySem.W.codeIn K cd6 "LiveBook.__init__" = true) (k6 : PySem.W.keepIn K (.ref f6) = true)
    (in_LiveBook_add : PySem.W.findIn K (.ref c_LiveBook) "add" = some (some (.ref f7)))
    (fn_LiveBook_add : PySem.W.isFn K (.ref f7) = true)
    (l7 : K.lookup f7 = some ⟨oc7, od7, .func (PySem.W.fnOf "add" "LiveBook.add" (defArgs s_LiveBook_add) (defBody s_LiveBook_add) (defScope s_LiveBook_add) .none kV7 dc7 pm7 an7 cd7 ct7), sl7⟩) (c7 : PySem.W.codeIn K cd7 "LiveBook.add" = true) (k7 : PySem.W.keepIn K (.ref f7) = true)
    {rs_LiveBook_book : List Value}
    (pq_LiveBook_book : PySem.W.findIn K (.ref c_LiveBook) "book" = some (some (.ref p_LiveBook_book)))
    (ps_LiveBook_book : PySem.W.specialIn K (.ref p_LiveBook_book) "__get__" = some (some (.builtin "property.__get__")))
    (pt_LiveBook_book : PySem.W.takesIn K (.ref p_LiveBook_book) = some true)
    (pr_LiveBook_book : PySem.W.recIn K p_LiveBook_book "property" = some (.ref f8 :: rs_LiveBook_book))
    (l8 : K.lookup f8 = some ⟨oc8, od8, .func (PySem.W.fnOf "book" "LiveBook.book" (defArgs s_LiveBook_book) (defBody s_LiveBook_book) (defScope s_LiveBook_book) .none kV8 dc8 pm8 an8 cd8 ct8), sl8⟩) (c8 : PySem.W.codeIn K cd8 "LiveBook.book" = true) (k8 : PySem.W.keepIn K (.ref f8) = true)
    (a9 : PySem.W.nsIn K mainGlobals "_law_bag" = some (some (.ref f9)))
    (l9 : K.lookup f9 = some ⟨oc9, od9, .func (PySem.W.fnOf "_law_bag" "_law_bag" (defArgs s__law_bag) (defBody s__law_bag) (defScope s__law_bag) .none kV9 dc9 pm9 an9 cd9 ct9), sl9⟩) (c9 : PySem.W.codeIn K cd9 "_law_bag" = true) (k9 : PySem.W.keepIn K (.ref f9) = true)
    (a10 : PySem.W.nsIn K mainGlobals "_law_draw" = some (some (.ref f10)))
    (l10 : K.lookup f10 = some ⟨oc10, od10, .func (PySem.W.fnOf "_law_draw" "_law_draw" (defArgs s__law_draw) (defBody s__law_draw) (defScope s__law_draw) .none kV10 dc10 pm10 an10 cd10 ct10), sl10⟩) (c10 : PySem.W.codeIn K cd10 "_law_draw" = true) (k10 : PySem.W.keepIn K (.ref f10) = true)
    (a11 : PySem.W.nsIn K mainGlobals "_law_lengths" = some (some (.ref f11)))
    (l11 : K.lookup f11 = some ⟨oc11, od11, .func (PySem.W.fnOf "_law_lengths" "_law_lengths" (defArgs s__law_lengths) (defBody s__law_lengths) (defScope s__law_lengths) .none kV11 dc11 pm11 an11 cd11 ct11), sl11⟩) (c11 : PySem.W.codeIn K cd11 "_law_lengths" = true) (k11 : PySem.W.keepIn K (.ref f11) = true)
    (a12 : PySem.W.nsIn K mainGlobals "_law_great" = some (some (.ref f12)))
    (l12 : K.lookup f12 = some ⟨oc12, od12, .func (PySem.W.fnOf "_law_great" "_law_great" (defArgs s__law_great) (defBody s__law_great) (defScope s__law_great) .none kV12 dc12 pm12 an12 cd12 ct12), sl12⟩) (c12 : PySem.W.codeIn K cd12 "_law_great" = true) (k12 : PySem.W.keepIn K (.ref f12) = true)
    (a13 : PySem.W.nsIn K mainGlobals "_law_needed" = some (some (.ref f13)))
    (l13 : K.lookup f13 = some ⟨oc13, od13, .func (PySem.W.fnOf "_law_needed" "_law_needed" (defArgs s__law_needed) (defBody s__law_needed) (defScope s__law_needed) .none kV13 dc13 pm13 an13 cd13 ct13), sl13⟩) (c13 : PySem.W.codeIn K cd13 "_law_needed" = true) (k13 : PySem.W.keepIn K (.ref f13) = true)
    (a14 : PySem.W.nsIn K mainGlobals "_law_first" = some (some (.ref f14)))
    (l14 : K.lookup f14 = some ⟨oc14, od14, .func (PySem.W.fnOf "_law_first" "_law_first" (defArgs s__law_first) (defBody s__law_first) (defScope s__law_first) .none kV14 dc14 pm14 an14 cd14 ct14), sl14⟩) (c14 : PySem.W.codeIn K cd14 "_law_first" = true) (k14 : PySem.W.keepIn K (.ref f14) = true)
    (a15 : PySem.W.nsIn K mainGlobals "_law_right" = some (some (.ref f15)))
    (l15 : K.lookup f15 = some ⟨oc15, od15, .func (PySem.W.fnOf "_law_right" "_law_right" (defArgs s__law_right) (defBody s__law_right) (defScope s__law_right) .none kV15 dc15 pm15 an15 cd15 ct15), sl15⟩) (c15 : PySem.W.codeIn K cd15 "_law_right" = true) (k15 : PySem.W.keepIn K (.ref f15) = true)
    (a16 : PySem.W.nsIn K mainGlobals "_law_longer" = some (some (.ref f16)))
    (l16 : K.lookup f16 = some ⟨oc16, od16, .func (PySem.W.fnOf "_law_longer" "_law_longer" (defArgs s__law_longer) (defBody s__law_longer) (defScope s__law_longer) .none kV16 dc16 pm16 an16 cd16 ct16), sl16⟩) (c16 : PySem.W.codeIn K cd16 "_law_longer" = true) (k16 : PySem.W.keepIn K (.ref f16) = true)
    (a17 : PySem.W.nsIn K mainGlobals "law" = some (some (.ref f17)))
    (l17 : K.lookup f17 = some ⟨oc17, od17, .func (PySem.W.fnOf "law" "law" (defArgs s_law) (defBody s_law) (defScope s_law) .none kV17 dc17 pm17 an17 cd17 ct17), sl17⟩) (c17 : PySem.W.codeIn K cd17 "law" = true) (k17 : PySem.W.keepIn K (.ref f17) = true)
    (z0 : PySem.W.nsIn K mainGlobals "abs" = some none)
    (z1 : PySem.W.nsIn K mainGlobals "enumerate" = some none)
    (z2 : PySem.W.nsIn K mainGlobals "isinstance" = some none)
    (z3 : PySem.W.nsIn K mainGlobals "len" = some none)
    (z4 : PySem.W.nsIn K mainGlobals "list" = some none)
    (z5 : PySem.W.nsIn K mainGlobals "max" = some none)
    (z6 : PySem.W.nsIn K mainGlobals "min" = some none)
    (z7 : PySem.W.nsIn K mainGlobals "range" = some none)
    (z8 : PySem.W.nsIn K mainGlobals "sum" = some none)
    (z9 : PySem.W.nsIn K mainGlobals "tuple" = some none)
    {nm_InvalidBook qn_InvalidBook : Str} {N_InvalidBook : Addr} {bs_InvalidBook bm_InvalidBook : List Value} {sn_InvalidBook : List Str} {sub_InvalidBook : List Value} {ab_InvalidBook : Bool} {col_InvalidBook : Option Bool} {dd_InvalidBook : Option Addr} {k0_InvalidBook k1_InvalidBook k2_InvalidBook k3_InvalidBook k5_InvalidBook : Option Value}
    (l_InvalidBook : K.lookup c_InvalidBook = some (excClassObj nm_InvalidBook qn_InvalidBook c_InvalidBook N_InvalidBook bs_InvalidBook bm_InvalidBook true sn_InvalidBook sub_InvalidBook ab_InvalidBook col_InvalidBook dd_InvalidBook k0_InvalidBook k1_InvalidBook k2_InvalidBook k3_InvalidBook k5_InvalidBook "ValueError.__new__"))
    (r_InvalidBook : PySem.HandSPX.refsVE bm_InvalidBook = true)
    (sa_InvalidBook : PySem.W.findIn K (.ref c_InvalidBook) "__setattr__" = some (some (.builtin "object.__setattr__")))
    (ex_InvalidBook : PySem.W.subIn K (.ref c_InvalidBook) (.type "BaseException") = some true)
    (ty_InvalidBook : PySem.W.typeIn K (.ref c_InvalidBook) = some (.type "type"))
    (kc_InvalidBook : PySem.W.keepIn K (.ref c_InvalidBook) = true)
    (ga_InvalidBook : PySem.W.findIn K (.ref c_InvalidBook) "__getattribute__" = some (some (.builtin "BaseException.__getattribute__")))
    (gg_InvalidBook : PySem.W.findIn K (.ref c_InvalidBook) "__getattr__" = some none)
    (hd_InvalidBook : PySem.W.hasDictIn K c_InvalidBook = true)
    (ha_InvalidBook : PySem.W.findIn K (.ref c_InvalidBook) "__class__" = some (some (.builtin "object.__class__")))
    (hn_InvalidBook : PySem.W.specialIn K (.builtin "object.__class__") "__get__" = some (some (.builtin "getset_descriptor.__get__")))
    (ht_InvalidBook : PySem.W.takesIn K (.builtin "object.__class__") = some true)
    (hm_InvalidBook : PySem.W.mroIn K c_InvalidBook (.type "object") = some true)
    (nv_InvalidBook : PySem.W.findIn K (.ref c_InvalidBook) "value" = some none)
    (ti_InvalidBook : PySem.W.typeIn K (.ref f0) = some (.type "function"))
    (kq_InvalidBook_BookError : PySem.W.kitOne K (.ref c_InvalidBook) (.ref c_BookError) = some true)
    (kq_InvalidBook_InvalidBook : PySem.W.kitOne K (.ref c_InvalidBook) (.ref c_InvalidBook) = some true)
    (kq_InvalidBook_ValueError : PySem.W.kitOne K (.ref c_InvalidBook) (.type "ValueError") = some true)
    : ∃ fd : FuncData, (∀ (s : Shared) (v : Value), BindsTo s fd ⟨[v], []⟩ [("script", v)]) ∧ ∀ base : Heap, K.In base → base.Ns mainGlobals mg → FnOk l.prog w K mg base CX0 8 fa fd ["script"] (sp_law K) := by
  have e := hfa.symm.trans (PySem.W.mg_of X G a17)
  cases e
  have F0 := fun_mk (st := s_InvalidBook___init__) l0 c0 k0
  have F1 := fun_mk (st := s_check_book) l1 c1 k1
  have F2 := fun_mk (st := s_count_pages) l2 c2 k2
  have F3 := fun_mk (st := s_search_size) l3 c3 k3
  have F4 := fun_mk (st := s_sizes_with) l4 c4 k4
  have F5 := fun_mk (st := s_LiveBook__change_to) l5 c5 k5
  have F6 := fun_mk (st := s_LiveBook___init__) l6 c6 k6
  have F7 := fun_mk (st := s_LiveBook_add) l7 c7 k7
  have F8 := fun_mk (st := s_LiveBook_book) l8 c8 k8
  have F9 := fun_mk (st := s__law_bag) l9 c9 k9
  have F10 := fun_mk (st := s__law_draw) l10 c10 k10
  have F11 := fun_mk (st := s__law_lengths) l11 c11 k11
  have F12 := fun_mk (st := s__law_great) l12 c12 k12
  have F13 := fun_mk (st := s__law_needed) l13 c13 k13
  have F14 := fun_mk (st := s__law_first) l14 c14 k14
  have F15 := fun_mk (st := s__law_right) l15 c15 k15
  have F16 := fun_mk (st := s__law_longer) l16 c16 k16
  have F17 := fun_mk (st := s_law) l17 c17 k17
  have T : Txt K mg ⟨f0, PySem.W.fnOf "__init__" "InvalidBook.__init__" (defArgs s_InvalidBook___init__) (defBody s_InvalidBook___init__) (defScope s_InvalidBook___init__) .none kV0 dc0 pm0 an0 cd0 ct0, f1, PySem.W.fnOf "check_book" "check_book" (defArgs s_check_book) (defBody s_check_book) (defScope s_check_book) .none kV1 dc1 pm1 an1 cd1 ct1, f2, PySem.W.fnOf "count_pages" "count_pages" (defArgs s_count_pages) (defBody s_count_pages) (defScope s_count_pages) .none kV2 dc2 pm2 an2 cd2 ct2, f3, PySem.W.fnOf "search_size" "search_size" (defArgs s_search_size) (defBody s_search_size) (defScope s_search_size) .none kV3 dc3 pm3 an3 cd3 ct3, f4, PySem.W.fnOf "sizes_with" "sizes_with" (defArgs s_sizes_with) (defBody s_sizes_with) (defScope s_sizes_with) .none kV4 dc4 pm4 an4 cd4 ct4, f5, PySem.W.fnOf "_change_to" "LiveBook._change_to" (defArgs s_LiveBook__change_to) (defBody s_LiveBook__change_to) (defScope s_LiveBook__change_to) .none kV5 dc5 pm5 an5 cd5 ct5, f6, PySem.W.fnOf "__init__" "LiveBook.__init__" (defArgs s_LiveBook___init__) (defBody s_LiveBook___init__) (defScope s_LiveBook___init__) .none kV6 dc6 pm6 an6 cd6 ct6, f7, PySem.W.fnOf "add" "LiveBook.add" (defArgs s_LiveBook_add) (defBody s_LiveBook_add) (defScope s_LiveBook_add) .none kV7 dc7 pm7 an7 cd7 ct7, f8, PySem.W.fnOf "book" "LiveBook.book" (defArgs s_LiveBook_book) (defBody s_LiveBook_book) (defScope s_LiveBook_book) .none kV8 dc8 pm8 an8 cd8 ct8, f9, PySem.W.fnOf "_law_bag" "_law_bag" (defArgs s__law_bag) (defBody s__law_bag) (defScope s__law_bag) .none kV9 dc9 pm9 an9 cd9 ct9, f10, PySem.W.fnOf "_law_draw" "_law_draw" (defArgs s__law_draw) (defBody s__law_draw) (defScope s__law_draw) .none kV10 dc10 pm10 an10 cd10 ct10, f11, PySem.W.fnOf "_law_lengths" "_law_lengths" (defArgs s__law_lengths) (defBody s__law_lengths) (defScope s__law_lengths) .none kV11 dc11 pm11 an11 cd11 ct11, f12, PySem.W.fnOf "_law_great" "_law_great" (defArgs s__law_great) (defBody s__law_great) (defScope s__law_great) .none kV12 dc12 pm12 an12 cd12 ct12, f13, PySem.W.fnOf "_law_needed" "_law_needed" (defArgs s__law_needed) (defBody s__law_needed) (defScope s__law_needed) .none kV13 dc13 pm13 an13 cd13 ct13, f14, PySem.W.fnOf "_law_first" "_law_first" (defArgs s__law_first) (defBody s__law_first) (defScope s__law_first) .none kV14 dc14 pm14 an14 cd14 ct14, f15, PySem.W.fnOf "_law_right" "_law_right" (defArgs s__law_right) (defBody s__law_right) (defScope s__law_right) .none kV15 dc15 pm15 an15 cd15 ct15, f16, PySem.W.fnOf "_law_longer" "_law_longer" (defArgs s__law_longer) (defBody s__law_longer) (defScope s__law_longer) .none kV16 dc16 pm16 an16 cd16 ct16, fa, PySem.W.fnOf "law" "law" (defArgs s_law) (defBody s_law) (defScope s_law) .none kV17 dc17 pm17 an17 cd17 ct17, c_BookError, c_InvalidBook, c_LiveBook, p_LiveBook_book⟩ :=
    { F_InvalidBook___init__ := F0,
      b_InvalidBook___init__ := F0.binds (ps := ["self", "value"]) fun _ _ _ _ _ _ us hl => match us, hl with | [_, _], _ => rfl,
      F_check_book := F1,
      g_check_book := PySem.W.mg_of X G a1,
      b_check_book := F1.binds (ps := ["book"]) fun _ _ _ _ _ _ us hl => match us, hl with | [_], _ => rfl,
      F_count_pages := F2,
      g_count_pages := PySem.W.mg_of X G a2,
      b_count_pages := F2.binds (ps := ["book", "size"]) fun _ _ _ _ _ _ us hl => match us, hl with | [_, _], _ => rfl,
      F_search_size := F3,
      g_search_size := PySem.W.mg_of X G a3,
      b_search_size := F3.binds (ps := ["book", "most"]) fun _ _ _ _ _ _ us hl => match us, hl with | [_, _], _ => rfl,
      F_sizes_with := F4,
      g_sizes_with := PySem.W.mg_of X G a4,
      b_sizes_with := F4.binds (ps := ["book", "number"]) fun _ _ _ _ _ _ us hl => match us, hl with | [_, _], _ => rfl,
      F_LiveBook__change_to := F5,
      b_LiveBook__change_to := F5.binds (ps := ["self", "lengths"]) fun _ _ _ _ _ _ us hl => match us, hl with | [_, _], _ => rfl,
      F_LiveBook___init__ := F6,
      b_LiveBook___init__ := F6.binds (ps := ["self", "book"]) fun _ _ _ _ _ _ us hl => match us, hl with | [_, _], _ => rfl,
      F_LiveBook_add := F7,
      bs_LiveBook_add := StX.bind_star1 (B := fun l => bindArgs _ ⟨l, []⟩) (fun _ => rfl) (fun _ _ _ => rfl),
      F_LiveBook_book := F8,
      b_LiveBook_book := F8.binds (ps := ["self"]) fun _ _ _ _ _ _ us hl => match us, hl with | [_], _ => rfl,
      F__law_bag := F9,
      g__law_bag := PySem.W.mg_of X G a9,
      b__law_bag := F9.binds (ps := ["script"]) fun _ _ _ _ _ _ us hl => match us, hl with | [_], _ => rfl,
      F__law_draw := F10,
      g__law_draw := PySem.W.mg_of X G a10,
      b__law_draw := F10.binds (ps := ["bag", "many"]) fun _ _ _ _ _ _ us hl => match us, hl with | [_, _], _ => rfl,
      F__law_lengths := F11,
      g__law_lengths := PySem.W.mg_of X G a11,
      b__law_lengths := F11.binds (ps := ["bag", "upto", "far"]) fun _ _ _ _ _ _ us hl => match us, hl with | [_, _, _], _ => rfl,
      F__law_great := F12,
      g__law_great := PySem.W.mg_of X G a12,
      b__law_great := F12.binds (ps := ["bag"]) fun _ _ _ _ _ _ us hl => match us, hl with | [_], _ => rfl,
      F__law_needed := F13,
      g__law_needed := PySem.W.mg_of X G a13,
      b__law_needed := F13.binds (ps := ["chapters", "wide"]) fun _ _ _ _ _ _ us hl => match us, hl with | [_, _], _ => rfl,
      F__law_first := F14,
      g__law_first := PySem.W.mg_of X G a14,
      b__law_first := F14.binds (ps := ["chapters", "most"]) fun _ _ _ _ _ _ us hl => match us, hl with | [_, _], _ => rfl,
      F__law_right := F15,
      g__law_right := PySem.W.mg_of X G a15,
      b__law_right := F15.binds (ps := ["told", "chapters", "pages_wanted"]) fun _ _ _ _ _ _ us hl => match us, hl with | [_, _, _], _ => rfl,
      F__law_longer := F16,
      g__law_longer := PySem.W.mg_of X G a16,
      b__law_longer := F16.binds (ps := ["bag", "chapters"]) fun _ _ _ _ _ _ us hl => match us, hl with | [_, _], _ => rfl,
      F_law := F17,
      g_law := PySem.W.mg_of X G a17,
      b_law := F17.binds (ps := ["script"]) fun _ _ _ _ _ _ us hl => match us, hl with | [_], _ => rfl,
      z_abs := PySem.W.mg_none_of X G z0,
      z_enumerate := PySem.W.mg_none_of X G z1,
      z_isinstance := PySem.W.mg_none_of X G z2,
      z_len := PySem.W.mg_none_of X G z3,
      z_list := PySem.W.mg_none_of X G z4,
      z_max := PySem.W.mg_none_of X G z5,
      z_min := PySem.W.mg_none_of X G z6,
      z_range := PySem.W.mg_none_of X G z7,
      z_sum := PySem.W.mg_none_of X G z8,
      z_tuple := PySem.W.mg_none_of X G z9,
      kb_sizes_with_0_number_book := ⟨fun s us ws h1 h2 => match us, ws, h1, h2 with | [], [_, _], _, _ => .of_eq rfl, fun r1 r2 => .cons (HS.relAt r2 1) (.cons (HS.relAt r2 0) (.nil))⟩,
      m_BookError := PySem.W.mg_of X G m_BookError,
      m_InvalidBook := PySem.W.mg_of X G m_InvalidBook,
      m_LiveBook := PySem.W.mg_of X G m_LiveBook,
      C_LiveBook := ⟨pg_LiveBook, hd_LiveBook, po_LiveBook, sa_LiveBook⟩,
      n_LiveBook__lengths := na_LiveBook__lengths,
      n_LiveBook__past := na_LiveBook__past,
      M_LiveBook__change_to := ⟨in_LiveBook__change_to, fn_LiveBook__change_to, k5⟩,
      K_LiveBook := ⟨mk_LiveBook, in_LiveBook___init__, fn_LiveBook___init__, kc_LiveBook⟩,
      M_LiveBook_add := ⟨in_LiveBook_add, fn_LiveBook_add, k7⟩,
      P_LiveBook_book := ⟨pq_LiveBook_book, ps_LiveBook_book, pt_LiveBook_book, ⟨_, pr_LiveBook_book⟩⟩,
      C_InvalidBook := ⟨⟨_, _, _, _, _, _, _, _, _, _, _, _, _, _, _, l_InvalidBook, r_InvalidBook⟩, sa_InvalidBook, ex_InvalidBook, ty_InvalidBook, kc_InvalidBook⟩,
      V_InvalidBook := ⟨ga_InvalidBook, gg_InvalidBook, ex_InvalidBook, hd_InvalidBook, ha_InvalidBook, hn_InvalidBook, ht_InvalidBook, hm_InvalidBook⟩,
      X_InvalidBook := ⟨ga_InvalidBook, gg_InvalidBook, ex_InvalidBook, hd_InvalidBook⟩,
      n_InvalidBook := nv_InvalidBook,
      i_InvalidBook := in_InvalidBook,
      t_InvalidBook := ti_InvalidBook,
      k_InvalidBook := ⟨fun s us ws _ h1 h2 => match us, ws, h1, h2 with | [_], [_], _, _ => .of_eq rfl, fun r1 r2 => r1.append r2⟩,
      q_InvalidBook_BookError := kq_InvalidBook_BookError,
      q_InvalidBook_InvalidBook := kq_InvalidBook_InvalidBook,
      q_InvalidBook_ValueError := kq_InvalidBook_ValueError }
  exact ⟨_, fun s v => .of_eq rfl, fun base _ _ => ok_law T⟩
end WK07
open PySem PySem.W PyProof.Rows
set_option maxHeartbeats 0 in
theorem PySem.Challenge.cw_pagecounts_k07_sizes_with_a_number_of_pa_holds : PySem.Challenge.rw_pagecounts_k07_sizes_with_a_number_of_pa.Holds := by
  w_on; o_law; k_head; (case hw => w_witness2)
  k_fill
  refine L2.walk_of (l := PySem.Challenge.rw_pagecounts_k07_sizes_with_a_number_of_pa) (n := 63) (k := 8) (x := "script") (CX := fun _ => L2.CX0) (sp := fun w => WK07.sp_law _) rfl (by decide) rfl ⟨rfl, by decide, by decide⟩ (fun w h Y => PySem.W.kIn_of Y) ?F (fun _ _ a ns hl _ hS => ⟨a, ns, rfl, hS, hl, fun _ => rfl⟩) (fun _ _ _ _ _ h => h)
  case F =>
    intro w mg fa h KX G hmg
    refine' WK07.all_mk KX G hmg ?m_BookError ?m_InvalidBook ?m_LiveBook ?pg_LiveBook ?hd_LiveBook ?po_LiveBook ?sa_LiveBook ?mk_LiveBook ?kc_LiveBook ?na_LiveBook__lengths ?na_LiveBook__past ?in_InvalidBook ?l0 ?c0 ?k0 ?a1 ?l1 ?c1 ?k1 ?a2 ?l2 ?c2 ?k2 ?a3 ?l3 ?c3 ?k3 ?a4 ?l4 ?c4 ?k4 ?in_LiveBook__change_to ?fn_LiveBook__change_to ?l5 ?c5 ?k5 ?in_LiveBook___init__ ?fn_LiveBook___init__ ?l6 ?c6 ?k6 ?in_LiveBook_add ?fn_LiveBook_add ?l7 ?c7 ?k7 ?pq_LiveBook_book ?ps_LiveBook_book ?pt_LiveBook_book ?pr_LiveBook_book ?l8 ?c8 ?k8 ?a9 ?l9 ?c9 ?k9 ?a10 ?l10 ?c10 ?k10 ?a11 ?l11 ?c11 ?k11 ?a12 ?l12 ?c12 ?k12 ?a13 ?l13 ?c13 ?k13 ?a14 ?l14 ?c14 ?k14 ?a15 ?l15 ?c15 ?k15 ?a16 ?l16 ?c16 ?k16 ?a17 ?l17 ?c17 ?k17 ?z0 ?z1 ?z2 ?z3 ?z4 ?z5 ?z6 ?z7 ?z8 ?z9 ?l_InvalidBook ?r_InvalidBook ?sa_InvalidBook ?ex_InvalidBook ?ty_InvalidBook ?kc_InvalidBook ?ga_InvalidBook ?gg_InvalidBook ?hd_InvalidBook ?ha_InvalidBook ?hn_InvalidBook ?ht_InvalidBook ?hm_InvalidBook ?nv_InvalidBook ?ti_InvalidBook ?kq_InvalidBook_BookError ?kq_InvalidBook_InvalidBook ?kq_InvalidBook_ValueError
    (case m_BookError => k_is); (case m_InvalidBook => k_is); (case m_LiveBook => k_is); (case pg_LiveBook => k_is); (case hd_LiveBook => k_is); (case po_LiveBook => k_is); (case sa_LiveBook => k_is); (case mk_LiveBook => k_is); (case kc_LiveBook => k_is); (case na_LiveBook__lengths => k_is); (case na_LiveBook__past => k_is); (case in_InvalidBook => k_is); (case l0 => k_is); (case c0 => k_is); (case k0 => k_is); (case a1 => k_is); (case l1 => k_is); (case c1 => k_is); (case k1 => k_is); (case a2 => k_is); (case l2 => k_is); (case c2 => k_is); (case k2 => k_is); (case a3 => k_is); (case l3 => k_is); (case c3 => k_is); (case k3 => k_is); (case a4 => k_is); (case l4 => k_is); (case c4 => k_is); (case k4 => k_is); (case in_LiveBook__change_to => k_is); (case fn_LiveBook__change_to => k_is); (case l5 => k_is); (case c5 => k_is); (case k5 => k_is); (case in_LiveBook___init__ => k_is); (case fn_LiveBook___init__ => k_is); (case l6 => k_is); (case c6 => k_is); (case k6 => k_is); (case in_LiveBook_add => k_is); (case fn_LiveBook_add => k_is); (case l7 => k_is); (case c7 => k_is); (case k7 => k_is); (case pq_LiveBook_book => k_is); (case ps_LiveBook_book => k_is); (case pt_LiveBook_book => k_is); (case pr_LiveBook_book => k_is); (case l8 => k_is); (case c8 => k_is); (case k8 => k_is); (case a9 => k_is); (case l9 => k_is); (case c9 => k_is); (case k9 => k_is); (case a10 => k_is); (case l10 => k_is); (case c10 => k_is); (case k10 => k_is); (case a11 => k_is); (case l11 => k_is); (case c11 => k_is); (case k11 => k_is); (case a12 => k_is); (case l12 => k_is); (case c12 => k_is); (case k12 => k_is); (case a13 => k_is); (case l13 => k_is); (case c13 => k_is); (case k13 => k_is); (case a14 => k_is); (case l14 => k_is); (case c14 => k_is); (case k14 => k_is); (case a15 => k_is); (case l15 => k_is); (case c15 => k_is); (case k15 => k_is); (case a16 => k_is); (case l16 => k_is); (case c16 => k_is); (case k16 => k_is); (case a17 => k_is); (case l17 => k_is); (case c17 => k_is); (case k17 => k_is); (case z0 => k_is); (case z1 => k_is); (case z2 => k_is); (case z3 => k_is); (case z4 => k_is); (case z5 => k_is); (case z6 => k_is); (case z7 => k_is); (case z8 => k_is); (case z9 => k_is); (case l_InvalidBook => k_is); (case r_InvalidBook => rfl); (case sa_InvalidBook => k_is); (case ex_InvalidBook => k_is); (case ty_InvalidBook => k_is); (case kc_InvalidBook => k_is); (case ga_InvalidBook => k_is); (case gg_InvalidBook => k_is); (case hd_InvalidBook => k_is); (case ha_InvalidBook => k_is); (case hn_InvalidBook => k_is); (case ht_InvalidBook => k_is); (case hm_InvalidBook => k_is); (case nv_InvalidBook => k_is); (case ti_InvalidBook => k_is); (case kq_InvalidBook_BookError => kit_is); (case kq_InvalidBook_InvalidBook => kit_is); (case kq_InvalidBook_ValueError => kit_is)

import PyProof.Rows.All
import Wide.All
import OpenK.AllK
import Wide.FinOn
import HandS.Evl
import HandS.GenList
import HandS.Walk
import HandS.WordsExc
import HandS.ForMost
import HandS.Wide
import HandS.Style
import HandS.SortInts
import HandS.SortKw
import HandS.SetFor
import HandS.Flow
import HandS.Gcd
import HandS.Strs
import HandS.Property
import HandS.ExcInit
import HandS.ExcIs
import HandS.ExcField
import HandS.ExcOwn
import HandS.Deep
import HandS.ExcCtx
import HandS.NoneIn
import HandS.IsInst
import HandS.Defaults
import HandS.Star
import KE.KExcIs
import KE.KIsAll
import KE.DatumOrd
import KE.GoesMore
import KE.GoesEnum
import KE.KMathG
import HandS.RaiseMore
import PyProof.ReprRoads
import PyProof.ReprBulk
import PyProof.FitsInt
import HandS.OwnEq
import HandS.SlotsOwn
import PyProof.InstNe
import PyProof.Raises
import PyProof.EqKinds
import PyProof.EqAt
import HandS.ClsMeth
import PyProof.LongRange
import PySem.Challenge.RW_pagecounts_k24_live_errors
set_option Elab.async false
set_option linter.all false
set_option maxRecDepth 100000
set_option maxHeartbeats 4000000
/-! Readings, step by step, from their heads (own lemmas over HandS). -/
namespace HS
open PySem PySem.Spec PyProof.Rows L2
section
variable {σ : L2.St} {H : Hp} {Q : VK} {t u : TS} {te ta tb tx : TE} {tt tv : TT} {n bk ct : L2.St → Hp → Prop} {rt : VK} {K : PySem.W.Frag}
theorem seq (h : t ⟨u ⟨n, rt, bk, ct⟩, rt, bk, ct⟩ σ H) : tSeq t u ⟨n, rt, bk, ct⟩ σ H := h
theorem nxt (h : n σ H) : tNext ⟨n, rt, bk, ct⟩ σ H := h
theorem brk (h : bk σ H) : tBreak ⟨n, rt, bk, ct⟩ σ H := h
theorem cnt (h : ct σ H) : tCont ⟨n, rt, bk, ct⟩ σ H := h
theorem asg {g : TG} (h : te σ H fun x H1 => g x σ H1 n) : tAsg te g ⟨n, rt, bk, ct⟩ σ H := h
theorem nm {v : V} {i : Nat} {q : L2.St → Hp → Prop} (h : q (σ.set i (some v)) H) : gName i v σ H q := h
theorem sub {to ti : TE} {ts : TSet} {v : V} {q : L2.St → Hp → Prop} (h : to σ H fun o H1 => ti σ H1 fun i H2 => ts o i v H2 fun H3 => q σ H3) : gSub to ti ts v σ H q := h
theorem var {i : Nat} {v : V} (h : σ[i]? = some (some v)) (q : Q v H) : tVar i σ H Q := ⟨v, h, q⟩
theorem cst {v : V} (q : Q v H) : tC v σ H Q := q
theorem op {r : R2} (h : ta σ H fun x H1 => tb σ H1 fun y H2 => r x y H2 Q) : tOp r ta tb σ H Q := h
theorem un {r : V → Hp → VK → Prop} (h : ta σ H fun x H1 => r x H1 Q) : tUn r ta σ H Q := h
theorem i0 {g : Int → Int → V} {i j : Int} (q : Q (g i j) H) : rI0 g (.int i) (.int j) H Q := ⟨i, j, rfl, rfl, q⟩
theorem i1 {C : Int → Int → Prop} {g : Int → Int → V} {i j : Int} (q : C i j ∧ Q (g i j) H) : rI C g (.int i) (.int j) H Q := ⟨i, j, rfl, rfl, q⟩
theorem u0 {g : Int → V} {i : Int} (q : Q (g i) H) : rU g (.int i) H Q := ⟨i, rfl, q⟩
theorem eqI {i j : Int} (q : Q (.bl (decide (i = j))) H) : rEq (.int i) (.int j) H Q := ⟨rfl, by
  have e : decide ((V.int i) = V.int j) = decide (i = j) := by
    by_cases h : i = j
    · rw [h]; simp
    · have h2 : ¬ (V.int i = V.int j) := fun z => h (V.int.inj z)
      rw [decide_eq_false h, decide_eq_false h2]
  rw [e]; exact q⟩
theorem neI {i j : Int} (q : Q (.bl (!decide (i = j))) H) : rNe (.int i) (.int j) H Q := ⟨rfl, by
  have e : decide ((V.int i) = V.int j) = decide (i = j) := by
    by_cases h : i = j
    · rw [h]; simp
    · have h2 : ¬ (V.int i = V.int j) := fun z => h (V.int.inj z)
      rw [decide_eq_false h, decide_eq_false h2]
  rw [e]; exact q⟩
theorem tst {q : Bool → Hp → Prop} (h : te σ H fun x H' => ∃ k, x = .bl k ∧ q k H') : tTest te σ H q := h
theorem tb1 {q : Bool → Hp → Prop} (h : te σ H fun x H' => ∃ k, x = .bl k ∧ q k H') : tB te σ H q := h
theorem bex {b : Bool} {q : Bool → Prop} (h : q b) : ∃ k, V.bl b = V.bl k ∧ q k := ⟨b, rfl, h⟩
theorem ifs (h : tt σ H fun b H1 => if b = true then t ⟨n, rt, bk, ct⟩ σ H1 else u ⟨n, rt, bk, ct⟩ σ H1) : tIfS tt t u ⟨n, rt, bk, ct⟩ σ H := h
theorem ife (h : tt σ H fun b H1 => if b = true then ta σ H1 Q else tb σ H1 Q) : tIf tt ta tb σ H Q := h
theorem and {q : Bool → Hp → Prop} (h : tt σ H fun c H1 => if c = true then tv σ H1 q else q false H1) : tAnd tt tv σ H q := h
theorem or {q : Bool → Hp → Prop} (h : tt σ H fun c H1 => if c = true then q true H1 else tv σ H1 q) : tOr tt tv σ H q := h
theorem not {q : Bool → Hp → Prop} (h : tt σ H fun c H1 => q (!c) H1) : tNot tt σ H q := h
theorem andV (h : ta σ H fun x H1 => ∃ c, x = .bl c ∧ if c = true then tb σ H1 Q else Q (.bl false) H1) : tAndV ta tb σ H Q := h
theorem orV (h : ta σ H fun x H1 => ∃ c, x = .bl c ∧ if c = true then Q (.bl true) H1 else tb σ H1 Q) : tOrV ta tb σ H Q := h
theorem notV (h : ta σ H fun x H1 => ∃ c, x = .bl c ∧ Q (.bl (!c)) H1) : tNotV ta σ H Q := h
theorem chn {r r' : R2} {tc : TE} (h : ta σ H fun x H1 => tb σ H1 fun y H2 => r x y H2 fun z H3 => ∃ k, z = .bl k ∧ if k = true then tc σ H3 fun w H4 => r' y w H4 Q else Q (.bl false) H3) : tChain r r' ta tb tc σ H Q := h
theorem ret (h : te σ H rt) : tRet te ⟨n, rt, bk, ct⟩ σ H := h
theorem retN (h : rt .non H) : tRetN ⟨n, rt, bk, ct⟩ σ H := h
theorem drp (h : te σ H fun _ H1 => n σ H1) : tDrop te ⟨n, rt, bk, ct⟩ σ H := h
theorem cb {r : List V → Hp → VK → Prop} {tl : TA} (h : tl σ H fun vs H1 => r vs H1 Q) : tCB r tl σ H Q := h
theorem anil {q : List V → Hp → Prop} (h : q [] H) : tNil σ H q := h
theorem acons {tl : TA} {q : List V → Hp → Prop} (h : te σ H fun x H1 => tl σ H1 fun xs H2 => q (x :: xs) H2) : tCons te tl σ H q := h
theorem cal {sp : Sp} {E : XK} {tl : TA} (h : tl σ H fun vs H1 => sp vs H1 Q E) : tCall sp [] E tl σ H Q := by
  show tl σ H fun vs H1 => sp (vs ++ []) H1 Q E
  simp only [List.append_nil]; exact h
theorem tup {tl : TA} (h : tl σ H fun xs H1 => xs.length ≤ sizeLine ∧ ∀ p, H1 p = none → Q (.ref p) (upd H1 p (.tup xs))) : tTup tl σ H Q := h
theorem lst {tl : TA} (h : tl σ H fun xs H1 => xs.length ≤ sizeLine ∧ ∀ p, H1 p = none → Q (.ref p) (upd H1 p (.lst xs))) : tLst tl σ H Q := h
theorem par {i j : Nat} {tl : TA} (h : tl σ H fun vs H1 => ∃ v w, vs = [v, w] ∧ n ((σ.set i (some v)).set j (some w)) H1) : tPar i j tl ⟨n, rt, bk, ct⟩ σ H := h
theorem ex2 {v w : V} {q : V → V → Prop} (h : q v w) : ∃ a b, [v, w] = [a, b] ∧ q a b := ⟨v, w, rfl, h⟩
theorem aug {i : Nat} {ti : TIp} {x : V} (e : σ[i]? = some (some x)) (h : te σ H fun y H1 => ti x y H1 fun z H2 => n (σ.set i (some z)) H2) : tAug i te ti ⟨n, rt, bk, ct⟩ σ H := ⟨x, e, h⟩
theorem ipi {f : Int → Int → Int} {i j : Int} (q : Q (.int (f i j)) H) : ipI f (.int i) (.int j) H Q := ⟨i, j, rfl, rfl, q⟩
theorem addI {i j : Int} (q : Q (.int (i + j)) H) : rAdd (.int i) (.int j) H Q := ⟨i, j, rfl, rfl, q⟩
theorem ixL {p : Addr} {xs : List V} {i : Int} {v : V} (h : SqL K H p xs) (e : atI xs i = some v) (q : Q v H) : rIxL K (.ref p) (.int i) H Q := ⟨p, xs, i, v, rfl, rfl, h, e, q⟩
theorem ixT {p : Addr} {xs : List V} {i : Int} {v : V} (h : SqT K H p xs) (e : atI xs i = some v) (q : Q v H) : rIxT K (.ref p) (.int i) H Q := ⟨p, xs, i, v, rfl, rfl, h, e, q⟩
/-- an if over a decided thing -/
theorem itd {c A B : Prop} [Decidable c] (h1 : c → A) (h2 : ¬ c → B) : if decide c = true then A else B := by
  by_cases h : c
  · rw [decide_eq_true h, if_pos rfl]; exact h1 h
  · rw [decide_eq_false h, if_neg Bool.false_ne_true]; exact h2 h
theorem itn {c A B : Prop} [Decidable c] (h1 : ¬ c → A) (h2 : c → B) : if (!decide c) = true then A else B := by
  by_cases h : c
  · rw [decide_eq_true h]; exact iteF (h2 h)
  · rw [decide_eq_false h]; exact iteT (h1 h)
theorem it1 {c A B : Prop} [Decidable c] (hc : c) (h : A) : if decide c = true then A else B := itd (fun _ => h) fun z => absurd hc z
theorem it0 {c A B : Prop} [Decidable c] (hc : ¬ c) (h : B) : if decide c = true then A else B := itd (fun z => absurd z hc) fun _ => h
theorem in1 {c A B : Prop} [Decidable c] (hc : ¬ c) (h : A) : if (!decide c) = true then A else B := itn (fun _ => h) fun z => absurd z hc
theorem in0 {c A B : Prop} [Decidable c] (hc : c) (h : B) : if (!decide c) = true then A else B := itn (fun z => absurd hc z) fun _ => h
end
/-! ### heaps: all but S stands -/
def Keep (S : Addr → Prop) (H H' : Hp) : Prop := ∀ a o, H a = some o → ¬ S a → H' a = some o
section
variable {S : Addr → Prop} {H H1 H2 : Hp} {p q : Addr} {o u : HO}
theorem Keep.refl : Keep S H H := fun _ _ h _ => h
theorem Keep.trans (a : Keep S H H1) (b : Keep S H1 H2) : Keep S H H2 := fun x o h n => b x o (a x o h n) n
theorem Keep.new (h : H p = none) : Keep S H (upd H p o) := fun a u e _ => by rw [upd_ne (ne_of_none e h)]; exact e
theorem Keep.put (k : Keep S H H1) (h : H p = none) : Keep S H (upd H1 p o) := fun a u e n => by rw [upd_ne (ne_of_none e h)]; exact k a u e n
theorem Keep.at (k : Keep S H H1) (h : S p) : Keep S H (upd H1 p o) := fun a u e n => by rw [upd_ne (fun z => n (by rw [z]; exact h))]; exact k a u e n
theorem Keep.free (k : Keep S H H1) (h : H1 p = none) (n : ¬ S p) : H p = none := by
  cases e : H p with
  | none => rfl
  | some o => have z := k p o e n; rw [h] at z; cases z
theorem Keep.sq {K : PySem.W.Frag} {xs : List V} (k : Keep S H H1) (h : SqL K H p xs) (n : ¬ S p) : SqL K H1 p xs := by
  rcases h with (h | ⟨o, h⟩) | h
  · exact .inl (.inl (k _ _ h n))
  · exact .inl (.inr ⟨o, k _ _ h n⟩)
  · exact .inr h
theorem Keep.st {K : PySem.W.Frag} {xs : List V} (k : Keep S H H1) (h : SqT K H p xs) (n : ¬ S p) : SqT K H1 p xs := by
  rcases h with (h | ⟨o, h⟩) | h
  · exact .inl (.inl (k _ _ h n))
  · exact .inl (.inr ⟨o, k _ _ h n⟩)
  · exact .inr h
theorem sq {K : PySem.W.Frag} {xs : List V} (h : H p = some (.lst xs)) : SqL K H p xs := .inl (.inl h)
theorem st {K : PySem.W.Frag} {xs : List V} (h : H p = some (.tup xs)) : SqT K H p xs := .inl (.inl h)
end
end HS
theorem hu64 {A : PySem.Around} {k : Nat} (hr : L2.Room k A) : A.units + 64 < PySem.cLine := hr.units
namespace HS
open PySem PySem.Spec PyProof.Rows L2
section
variable {σ : L2.St} {H : Hp} {Q : VK} {te ta tb tx : TE} {K : PySem.W.Frag} {X : Cx}
theorem sz {n : Nat} (h : n ≤ 100000) : n < sizeLine := Nat.lt_of_le_of_lt h (by decide)
theorem szl {n : Nat} (h : n ≤ 100000) : n ≤ sizeLine := Nat.le_of_lt (sz h)
theorem pe_fold {e : Expr} {t : TE} (z : Int) (h : PE X e t) (k : ∀ (σ : L2.St) (H : Hp) (Q : VK), Q (.int z) H → t σ H Q) : PE X e (tC (.int z)) :=
  ⟨fun pins s σ H Q I q => h.run pins s σ H Q I (k σ H Q q)⟩
theorem ii {a b : Int} {q : Int → Int → Prop} (h : q a b) : ∃ i j, [V.int a, V.int b] = [V.int i, V.int j] ∧ q i j := ⟨a, b, rfl, h⟩
theorem bmL {r : V → List V → Hp → VK → Prop} {tl : TA} (h : ta σ H fun x H1 => tyV K "list" x H1 ∧ tl σ H1 fun xs H2 => r x xs H2 Q) : tBM K "list" r ta tl σ H Q := h
theorem bmL0 {r : V → List V → Hp → VK → Prop} (h : ta σ H fun x H1 => tyV K "list" x H1 ∧ r x [] H1 Q) : tBM0 K "list" r ta σ H Q := h
theorem tyL {p : Addr} {xs : List V} {A : Prop} (h : H p = some (.lst xs)) (q : A) : tyV K "list" (.ref p) H ∧ A := ⟨.inl ⟨rfl, _, .inl (.inl h)⟩, q⟩
theorem app {l : Addr} {xs : List V} {y : V} (h : H l = some (.lst xs)) (q : xs.length < sizeLine ∧ Q .non (upd H l (.lst (xs ++ [y])))) : rAppend (.ref l) [y] H Q := ⟨l, xs, y, rfl, rfl, h, q⟩
theorem pop0 {l : Addr} {y : V} {ys : List V} (h : H l = some (.lst (y :: ys))) (q : Q y (upd H l (.lst ys))) : rPopAt (.ref l) [.int 0] H Q := ⟨l, y :: ys, 0, 0, y, rfl, rfl, h, by decide, by decide, by simp [seqIndex?], rfl, q⟩
theorem setL {p : Addr} {xs : List V} {k : Int} {j : Nat} {v : V} {q : Hp → Prop} (h : H p = some (.lst xs)) (e : ixN xs.length k = some j) (g : q (upd H p (.lst (xs.set j v)))) : rSetL (.ref p) (.int k) v H q := ⟨p, xs, _, j, rfl, rfl, h, e, g⟩
theorem mulW {i j : Int} (a b : Nat) (h0 : 0 ≤ i) (h1 : i < 2 ^ a) (g0 : 0 ≤ j) (g1 : j < 2 ^ b) (ha : 0 < a) (hb : 0 < b) (h : a + b ≤ 1000000) : CMulW i j := by
  refine wide_mul (a := a) (b := b) ?_ ?_ ha hb h
  · have : ((i.natAbs : Nat) : Int) < ((2 ^ a : Nat) : Int) := by rw [Int.natAbs_of_nonneg h0]; simpa using h1
    exact Int.ofNat_lt.mp this
  · have : ((j.natAbs : Nat) : Int) < ((2 ^ b : Nat) : Int) := by rw [Int.natAbs_of_nonneg g0]; simpa using g1
    exact Int.ofNat_lt.mp this
theorem divW {i j : Int} (b : Nat) (h : 0 < j) (h1 : j < 2 ^ b) (hb : 0 < b) (h9 : b ≤ 9000) : CDivW i j := by
  refine wide_div (b := b) h ?_ hb h9
  have : ((j.natAbs : Nat) : Int) < ((2 ^ b : Nat) : Int) := by rw [Int.natAbs_of_nonneg (by omega)]; simpa using h1
  exact Int.ofNat_lt.mp this
theorem get_int {ns : List Int} {i : Nat} {x : V} (hi : (ns.map V.int)[i]? = some x) : ∃ z, x = .int z ∧ ns[i]? = some z ∧ i < ns.length := by
  rw [List.getElem?_map] at hi
  cases e : ns[i]? with
  | none => rw [e] at hi; cases hi
  | some z => rw [e] at hi; exact ⟨z, (Option.some.inj hi).symm, rfl, (List.getElem?_eq_some_iff.mp e).1⟩
end
end HS
namespace HS
open PySem PySem.Spec PyProof.Rows L2
theorem Keep.new' {S : Addr → Prop} {H H0 H1 : Hp} {p : Addr} {o : HO} (h : H0 p = none) (k0 : Keep S H H0) (n : ¬ S p) (k : Keep S H H1) : Keep S H (upd H1 p o) := k.put (k0.free h n)
theorem nS2 {p a b : Addr} (h1 : p ≠ a) (h2 : p ≠ b) : ¬ (p = a ∨ p = b) := fun z => z.elim h1 h2
theorem nS3 {p a b c : Addr} (h1 : p ≠ a) (h2 : p ≠ b) (h3 : p ≠ c) : ¬ (p = a ∨ p = b ∨ p = c) := fun z => z.elim h1 fun z => z.elim h2 h3
end HS
namespace HS
open PySem PySem.Spec PyProof.Rows L2
section
variable {σ : L2.St} {H : Hp} {t u : TS} {n bk ct : L2.St → Hp → Prop} {rt : VK}
theorem pnx (h : n σ H) : Ends.nx ⟨n, rt, bk, ct⟩ σ H := h
theorem pbk (h : bk σ H) : Ends.bk ⟨n, rt, bk, ct⟩ σ H := h
theorem pct (h : ct σ H) : Ends.ct ⟨n, rt, bk, ct⟩ σ H := h
theorem prt {v : V} (h : rt v H) : Ends.rt ⟨n, rt, bk, ct⟩ v H := h
theorem cut (M : L2.St → Hp → Prop) (h : t ⟨M, rt, bk, ct⟩ σ H) (k : ∀ σ' H', M σ' H' → u ⟨n, rt, bk, ct⟩ σ' H') : Evl.tCut t u ⟨n, rt, bk, ct⟩ σ H := ⟨M, h, k⟩
theorem pow_lt {i : Int} {a : Nat} (k : Nat) (h0 : 0 ≤ i) (h : i < 2 ^ a) : 0 ≤ i ^ k ∧ (i ^ k < 2 ^ (a * k) ∨ k = 0) := by
  refine ⟨Int.pow_nonneg h0, ?_⟩
  cases k with
  | zero => exact .inr rfl
  | succ k =>
    refine .inl ?_
    obtain ⟨m, rfl⟩ := Int.eq_ofNat_of_zero_le h0
    have h' : m < 2 ^ a := by have : ((m : Nat) : Int) < ((2 ^ a : Nat) : Int) := by simpa using h
                              exact Int.ofNat_lt.mp this
    have := Nat.pow_lt_pow_left h' (Nat.succ_ne_zero k)
    rw [← Nat.pow_mul] at this
    have z : ((m ^ (k + 1) : Nat) : Int) < ((2 ^ (a * (k + 1)) : Nat) : Int) := Int.ofNat_lt.mpr this
    simpa using z
end
end HS
namespace HS
open PySem PySem.Spec PyProof.Rows L2
section
variable {σ : L2.St} {H : Hp} {Q : VK} {ta tb te : TE} {K : PySem.W.Frag}
theorem szc {n : Nat} {A : Prop} (h : n ≤ 100000) (q : A) : n ≤ sizeLine ∧ A := ⟨szl h, q⟩
theorem szd {n : Nat} {A : Prop} (h : n ≤ 100000) (q : A) : n < sizeLine ∧ A := ⟨sz h, q⟩
theorem wp {σ1 σ2 : L2.St} {vs : List Nat} {A : Prop} (e : wipe σ2 vs = wipe σ1 vs) (q : A) : wipe σ2 vs = wipe σ1 vs ∧ A := ⟨e, q⟩
theorem yes {q : Bool → Hp → Prop} (h : q true H) : tYes σ H q := h
theorem ixI {p : Addr} {i : Int} (ns : List Int) (h : SqL K H p (ns.map V.int)) (h0 : 0 ≤ i) (h1 : i < ns.length) (q : ∀ z, ns[i.toNat]? = some z → z ∈ ns → Q (.int z) H) : rIxL K (.ref p) (.int i) H Q := by
  have hi : i.toNat < ns.length := by omega
  have e : ns[i.toNat]? = some ns[i.toNat] := List.getElem?_eq_getElem hi
  refine ⟨p, ns.map V.int, i, .int ns[i.toNat], rfl, rfl, h, ?_, q _ e (List.getElem_mem hi)⟩
  exact at_of (j := i.toNat) (by omega) (by rw [List.getElem?_map, e]; rfl)
theorem ixV {p : Addr} {i : Int} {xs : List V} (h : SqL K H p xs) (h0 : 0 ≤ i) (h1 : i < xs.length) (q : ∀ v, xs[i.toNat]? = some v → v ∈ xs → Q v H) : rIxL K (.ref p) (.int i) H Q := by
  have hi : i.toNat < xs.length := by omega
  have e : xs[i.toNat]? = some xs[i.toNat] := List.getElem?_eq_getElem hi
  refine ⟨p, xs, i, xs[i.toNat], rfl, rfl, h, ?_, q _ e (List.getElem_mem hi)⟩
  exact at_of (j := i.toNat) (by omega) e
theorem ixVT {p : Addr} {i : Int} {xs : List V} (h : SqT K H p xs) (h0 : 0 ≤ i) (h1 : i < xs.length) (q : ∀ v, xs[i.toNat]? = some v → v ∈ xs → Q v H) : rIxT K (.ref p) (.int i) H Q := by
  have hi : i.toNat < xs.length := by omega
  have e : xs[i.toNat]? = some xs[i.toNat] := List.getElem?_eq_getElem hi
  refine ⟨p, xs, i, xs[i.toNat], rfl, rfl, h, ?_, q _ e (List.getElem_mem hi)⟩
  exact at_of (j := i.toNat) (by omega) e
theorem lc {wi : TI} {g : TG} {tt : TT} {vs : List Nat} (h : wi σ H fun J H1 => ∀ D, H1 D = none → ∃ W : Nat → Nat → Hp → Prop, (∃ m, W 0 m (upd H1 D (.lst []))) ∧ ∀ i m H, W i m H → (J.stop i H ∧ Q (.ref D) H) ∨ (J.go i H ∧ ∃ Nx : Hp → Prop, (∀ H', Nx H' → ∃ m', m' < m ∧ W (i + 1) m' H') ∧ ∀ x H', J.yld i H x H' → g x (wipe σ vs) H' fun σ2 H2 => wipe σ2 vs = wipe σ vs ∧ tt σ2 H2 fun b H3 => if b = true then te σ2 H3 fun y H4 => ∃ acc, H4 D = some (.lst acc) ∧ acc.length < sizeLine ∧ Nx (upd H4 D (.lst (acc ++ [y]))) else Nx H3)) : tLc wi g tt te vs σ H Q := h
theorem rng1 {tl : TA} {R : It → Hp → Prop} (h : tl σ H fun vs H1 => ∃ j : Int, vs = [.int j] ∧ -(2 ^ 62) ≤ j ∧ j < 2 ^ 62 ∧ R (Itr 0 j.toNat) H1) : iRng1 tl σ H R := h
theorem rng2 {tl : TA} {R : It → Hp → Prop} (h : tl σ H fun vs H1 => ∃ i j : Int, vs = [.int i, .int j] ∧ (-(2 ^ 62) ≤ i ∧ i < 2 ^ 62 ∧ -(2 ^ 62) ≤ j ∧ j < 2 ^ 62) ∧ R (Itr i (j - i).toNat) H1) : iRng2 tl σ H R := h
theorem lis {tl : TE} {R : It → Hp → Prop} (h : tl σ H fun x H1 => ∃ a, x = .ref a ∧ (∃ xs, SqL K H1 a xs) ∧ R (Itl K a) H1) : iList K tl σ H R := h
theorem ra {a : Addr} {q : Addr → Prop} (h : q a) : ∃ b, V.ref a = V.ref b ∧ q b := ⟨a, rfl, h⟩
theorem i1e {a : Int} {q : Int → Prop} (h : q a) : ∃ i, [V.int a] = [V.int i] ∧ q i := ⟨a, rfl, h⟩
theorem fr {wi : TI} {g : TG} {tb : TS} {D : Ends} (h : wi σ H fun J H1 => ∃ W : Nat → Nat → L2.St → Hp → Prop, (∃ m, W 0 m σ H1) ∧ ∀ i m σ H, W i m σ H →
    (J.stop i H ∧ D.nx σ H) ∨ (J.go i H ∧ ∃ N : L2.St → Hp → Prop, (∀ σ' H', N σ' H' → ∃ m', m' < m ∧ W (i + 1) m' σ' H') ∧ ∀ x H', J.yld i H x H' → g x σ H' fun σ2 H2 => tb { D with nx := N, ct := N, bk := D.nx } σ2 H2)) : tFor wi g tb D σ H := h
end
end HS
namespace HS
open PySem PySem.Spec PyProof.Rows L2
theorem iteM {c : Bool} {ta tb : TE} {σ : L2.St} {H1 : Hp} {Q : VK} (M : VK) (h : c = true → ∀ Q' : VK, (∀ v H', M v H' → Q' v H') → ta σ H1 Q') (g : c = false → ∀ Q' : VK, (∀ v H', M v H' → Q' v H') → tb σ H1 Q') (k : ∀ v H', M v H' → Q v H') :
    if c = true then ta σ H1 Q else tb σ H1 Q := by
  cases c with
  | true => rw [if_pos rfl]; exact h rfl Q k
  | false => rw [if_neg Bool.false_ne_true]; exact g rfl Q k
/-- ceilings -/
theorem ceil_eq {i j : Int} (hj : 1 ≤ j) : (i + j - 1) / j = i / j + (if 0 < i % j then 1 else 0) := by
  have h0 := Int.emod_nonneg i (by omega : j ≠ 0)
  have h1 := Int.emod_lt_of_pos i (by omega : 0 < j)
  have e := Int.mul_ediv_add_emod i j
  generalize i / j = q at e ⊢
  generalize i % j = r at e h0 h1 ⊢
  subst e
  split
  · rename_i h
    rw [show j * q + r + j - 1 = (r - 1) + j * (q + 1) by rw [Int.mul_add]; omega, Int.add_mul_ediv_left _ _ (by omega), Int.ediv_eq_zero_of_lt (by omega) (by omega)]
    omega
  · rename_i h
    rw [show j * q + r + j - 1 = (j - 1) + j * q by omega, Int.add_mul_ediv_left _ _ (by omega), Int.ediv_eq_zero_of_lt (by omega) (by omega)]
    omega
end HS
namespace HS
open PySem PySem.Spec PyProof.Rows L2
section
variable {σ : L2.St} {H : Hp} {te : TE} {t : TS} {tg ug : TGn} {n bk ct : List V → L2.St → Hp → Prop} {rt : List V → VK} {ys : List V} {Q : VK}
theorem gthen (h : tg ⟨fun ys' σ' H' => ug ⟨n, rt, bk, ct⟩ ys' σ' H', rt, bk, ct⟩ ys σ H) : tGThen tg ug ⟨n, rt, bk, ct⟩ ys σ H := h
theorem g0 (h : n ys σ H) : tG0 ⟨n, rt, bk, ct⟩ ys σ H := h
theorem gpl (h : t ⟨n ys, rt ys, bk ys, ct ys⟩ σ H) : tPlain t ⟨n, rt, bk, ct⟩ ys σ H := h
theorem gyl (h : ys.length < sizeLine ∧ te σ H fun x H1 => n (ys ++ [x]) σ H1) : tGYield te ⟨n, rt, bk, ct⟩ ys σ H := h
theorem lgn {tg : TGen} (h : tg σ H fun out H2 => ∀ p, H2 p = none → Q (.ref p) (upd H2 p (.lst out))) : tListG tg σ H Q := h
theorem calg {sp : SpG} {E : XK} {tl : TA} {q : List V → Hp → Prop} (h : tl σ H fun vs H1 => sp vs H1 q E) : tCallG sp [] E tl σ H q := by
  show tl σ H fun vs H1 => sp (vs ++ []) H1 q E
  simp only [List.append_nil]; exact h
end
end HS
namespace HS
open PySem PySem.Spec PyProof.Rows L2
section
variable {H : Hp} {Q : VK} {K : PySem.W.Frag}
theorem ixZ {p : Addr} {i z : Int} {ns : List Int} (h : SqL K H p (ns.map V.int)) (h0 : 0 ≤ i) (e : ns[i.toNat]? = some z) (q : Q (.int z) H) : rIxL K (.ref p) (.int i) H Q :=
  ⟨p, ns.map V.int, i, .int z, rfl, rfl, h, at_of (j := i.toNat) (by omega) (by rw [List.getElem?_map, e]; rfl), q⟩
theorem cut_to (xs : List V) (n : Nat) : cutV xs none (some (n : Int)) = xs.take n := by
  unfold cutV
  rw [HT.sIx_none, HT.sIx_nat, List.drop_zero, Nat.sub_zero]
  rw [List.take_eq_take_iff]
  omega
theorem cut_from (xs : List V) (n : Nat) : cutV xs (some (n : Int)) none = xs.drop n := by
  unfold cutV
  rw [HT.sIx_none, HT.sIx_nat]
  rw [List.take_of_length_le (by rw [List.length_drop]; omega)]
  by_cases h : n ≤ xs.length
  · rw [Nat.min_eq_left h]
  · rw [Nat.min_eq_right (by omega), List.drop_eq_nil_of_le (Nat.le_refl _), List.drop_eq_nil_of_le (by omega)]
end
end HS
namespace HS
open PySem PySem.Spec PyProof.Rows L2
theorem Keep.any {S : Addr → Prop} {H H1 : Hp} (k : Keep (fun _ => False) H H1) : Keep S H H1 := fun a o e _ => k a o e id
theorem Keep.mono {S T : Addr → Prop} {H H1 : Hp} (k : Keep S H H1) (h : ∀ a, S a → T a) : Keep T H H1 := fun a o e n => k a o e fun z => n (h a z)
end HS
namespace HS
open PySem PySem.Spec PyProof.Rows L2
theorem cut_toI {i : Int} (ls : List Int) (h : 0 ≤ i) : cutV (ls.map V.int) none (some i) = (ls.take i.toNat).map V.int := by
  obtain ⟨n, rfl⟩ := Int.eq_ofNat_of_zero_le h
  rw [cut_to, List.map_take]; simp
theorem cut_fromI {i : Int} (ls : List Int) (h : 0 ≤ i) : cutV (ls.map V.int) (some i) none = (ls.drop i.toNat).map V.int := by
  obtain ⟨n, rfl⟩ := Int.eq_ofNat_of_zero_le h
  rw [cut_from, List.map_drop]; simp
end HS
namespace HS
theorem ifT {c : Bool} {A B : Prop} (e : c = true) (h : A) : if c = true then A else B := by rw [if_pos e]; exact h
theorem ifF {c : Bool} {A B : Prop} (e : c = false) (h : B) : if c = true then A else B := by rw [if_neg (by rw [e]; exact Bool.false_ne_true)]; exact h
end HS
namespace HS
open PySem PySem.Spec PyProof.Rows L2
/-- a new object behind what stands -/
theorem Keep.nw {H H1 : Hp} {p : Addr} {o : HO} (k : Keep (fun _ => False) H H1) (h : H1 p = none) : Keep (fun _ => False) H (upd H1 p o) := k.put (k.free h id)
theorem Keep.nwS {S : Addr → Prop} {H H1 : Hp} {p : Addr} {o : HO} (k : Keep S H H1) (h : H1 p = none) (n : ¬ S p) : Keep S H (upd H1 p o) := k.put (k.free h n)
end HS
namespace HS
theorem nt {A B : Prop} (h : B) : if (!true) = true then A else B := by rw [if_neg (show ¬ ((!true) = true) from Bool.false_ne_true)]; exact h
theorem nf {A B : Prop} (h : A) : if (!false) = true then A else B := by rw [if_pos (show (!false) = true from rfl)]; exact h
end HS
namespace HS
open PySem PySem.Spec PyProof.Rows L2
section
variable {H H' : Hp} {p x : Addr} {o u : HO}
theorem upgs (e : upd H p o = H') : H' p = some o := by rw [← e]; exact upd_same
theorem upgK (e : upd H p o = H') (h : H p = none) : Keep (fun _ => False) H H' := by rw [← e]; exact Keep.new h
end
end HS
/-! Data of ints, lists and tuples, and == of such. -/
namespace HS
open PySem PySem.Spec PyProof.Rows L2
def dInts (ns : List Int) : PyData := .list (ns.map .int)
section
variable {K : PySem.W.Frag} {H : Hp}
theorem dpAll_ints : ∀ ns : List Int, DpAll K H (ns.map V.int) (ns.map .int)
  | [] => .nil
  | n :: r => .cons (.int n) (dpAll_ints r)
theorem dp_ints {a : Addr} {ns : List Int} (h : SqL K H a (ns.map V.int)) : Dp K H (.ref a) (dInts ns) := .lst h (dpAll_ints ns)
theorem lay_ints : ∀ ns : List Int, PyData.canLayAll0 (ns.map .int) = true
  | [] => rfl
  | n :: r => by rw [List.map_cons, PyData.canLayAll0, lay_ints r]; rfl
theorem dep_ints : ∀ ns : List Int, PyData.depthAll (ns.map .int) = 0
  | [] => rfl
  | n :: r => by rw [List.map_cons, PyData.depthAll, dep_ints r]; rfl
theorem sh_ints (ns : List Int) : SeqAt.shaped (dInts ns) = true := by
  unfold SeqAt.shaped dInts
  rw [PyData.canLay0, PyData.depth, lay_ints, dep_ints]; rfl
theorem eqv_int (i j : Int) : PyData.eqv (.int i) (.int j) = decide (i = j) := by
  rw [PyData.eqv]; exact Bool.beq_eq_decide_eq i j
theorem eqvAll_ints : ∀ xs ys : List Int, PyData.eqvAll (xs.map .int) (ys.map .int) = decide (xs = ys)
  | [], [] => rfl
  | [], y :: ys => rfl
  | x :: xs, [] => rfl
  | x :: xs, y :: ys => by
    rw [List.map_cons, List.map_cons, PyData.eqvAll, eqv_int, eqvAll_ints xs ys]
    by_cases h : x = y <;> by_cases g : xs = ys <;> simp [h, g]
theorem eqv_ints (xs ys : List Int) : PyData.eqv (dInts xs) (dInts ys) = decide (xs = ys) := by
  unfold dInts; rw [PyData.eqv]; exact eqvAll_ints xs ys
/-- == and != of two lists of ints -/
theorem eqL {a b : Addr} {xs ys : List Int} {Q : VK} (h1 : SqL K H a (xs.map V.int)) (h2 : SqL K H b (ys.map V.int)) (q : Q (.bl (decide (xs = ys))) H) : rEqD K (.ref a) (.ref b) H Q :=
  ⟨_, _, dp_ints h1, dp_ints h2, sh_ints _, sh_ints _, by rw [eqv_ints]; exact q⟩
theorem neL {a b : Addr} {xs ys : List Int} {Q : VK} (h1 : SqL K H a (xs.map V.int)) (h2 : SqL K H b (ys.map V.int)) (q : Q (.bl (!decide (xs = ys))) H) : rNeD K (.ref a) (.ref b) H Q :=
  ⟨_, _, dp_ints h1, dp_ints h2, sh_ints _, sh_ints _, by rw [eqv_ints]; exact q⟩
end
end HS
/-! Rules told with the written part K by its own letter. -/
namespace HS
open PySem PySem.Spec PyProof.Rows L2
section
variable {X : Cx} (K : PySem.W.Frag)
theorem ixl (h : X.K = K := by rfl) : IxR X (rIxL K) := h ▸ ix_list
theorem ixt (h : X.K = K := by rfl) : IxR X (rIxT K) := h ▸ ix_tup
theorem sll (h : X.K = K := by rfl) : SlR X (rSlL K) := h ▸ sl_list
theorem slt (h : X.K = K := by rfl) : SlR X (rSlT K) := h ▸ sl_tup
theorem kbm {E : Expr} {T : String} {r : V → List V → Hp → VK → Prop} {to : TE} {t : TA} (p : PE X E (tBM X.K T r to t)) (h : X.K = K := by rfl) : PE X E (tBM K T r to t) := h ▸ p
theorem kbm0 {E : Expr} {T : String} {r : V → List V → Hp → VK → Prop} {to : TE} (p : PE X E (tBM0 X.K T r to)) (h : X.K = K := by rfl) : PE X E (tBM0 K T r to) := h ▸ p
theorem kil {tg l : Expr} {tl : TE} (p : PI X tg l (iList X.K tl)) (h : X.K = K := by rfl) : PI X tg l (iList K tl) := h ▸ p
theorem kit {tg l : Expr} {tl : TE} (p : PI X tg l (iTup X.K tl)) (h : X.K = K := by rfl) : PI X tg l (iTup K tl) := h ▸ p
theorem kien {tg l : Expr} {tl : TA} (p : PI X tg l (iEnum X.K tl)) (h : X.K = K := by rfl) : PI X tg l (iEnum K tl) := h ▸ p
theorem kgt {tg : Expr} {n : Nat} {t : TGs} (p : PG X tg (gTup X.K n t)) (h : X.K = K := by rfl) : PG X tg (gTup K n t) := h ▸ p
theorem keq (hu : X.A.units + 64 < cLine) (h : X.K = K := by rfl) : OpR X (compareOp .Eq) (rEqD K) := h ▸ op_eqD hu
theorem kne (hu : X.A.units + 64 < cLine) (h : X.K = K := by rfl) : OpR X (compareOp .NotEq) (rNeD K) := h ▸ op_neD hu
theorem kin (h : X.K = K := by rfl) : OpR X (compareOp .In) (rIn K false) := h ▸ op_in_seq
theorem knin (h : X.K = K := by rfl) : OpR X (compareOp .NotIn) (rIn K true) := h ▸ op_notIn_seq
theorem kcatT (h : X.K = K := by rfl) : OpR X (binaryOp .Add) (rCatT K) := h ▸ op_catT
def rLen : List V → Hp → VK → Prop := fun xs H Q => ∃ p ys, xs = [.ref p] ∧ (SqL K H p ys ∨ SqT K H p ys) ∧ Q (.int ys.length) H
def rLst : List V → Hp → VK → Prop := fun xs H Q => ∃ p ys, xs = [.ref p] ∧ (SqL K H p ys ∨ SqT K H p ys) ∧ ∀ l, H l = none → Q (.ref l) (upd H l (.lst ys))
theorem klen (h : X.K = K := by rfl) : CallR X (.builtin "len") (rLen K) := h ▸ call_len_seq
theorem klst (h : X.K = K := by rfl) : CallR X (.type "list") (rLst K) := h ▸ call_list_of
theorem ksum (hc : X.calm = true) (h : X.K = K := by rfl) : CallR X (.builtin "sum") (rSum K) := h ▸ cr_sum hc
theorem kmax (hc : X.calm = true) (h : X.K = K := by rfl) : CallR X (.builtin "max") (rMax K) := h ▸ cr_max hc
theorem kmin (hc : X.calm = true) (h : X.K = K := by rfl) : CallR X (.builtin "min") (rMin K) := h ▸ cr_min hc
theorem krev {E : Expr} {te : TE} (p : PE X E (tRevL X.K te)) (h : X.K = K := by rfl) : PE X E (tRevL K te) := h ▸ p
/-- the names of a block within a block -/
def relab (scO sc : Scope) : Scope := { scO with names := scO.names.map fun (n, k) => if (k == .free && sc.kind == .function && sc.names.lookup n == some .cell) then (n, .cell) else (n, k) }
/-- a list comprehension within a comprehension's block -/
theorem pe_lcIn {X : Cx} {s0 : Shared} {H0 : Hp} {C0 : Addr} {cl0 : List (Str × Addr)} {fp0 : List Addr} {scO : Scope} {elt tg iter : Expr} {ifs : List Expr} {scope : Scope} {own : List (Str × Nat)} {pos : Pos} {wi : TI} {g : TG} {tt : TT} {te : TE} (hc : X.calm = true) (hN : X.N.Nodup) (hi : PI (X.blk s0 H0 scO (compEnvC scO cl0 C0 X.env) fp0) tg iter wi) (sc : Scope) (hsc : X.env.scope = sc) (ok : BlkOk X.N (relab scO sc) scope own)
    (hg : ∀ (s : Shared) (H : Hp) (C : Addr) (cl : List (Str × Addr)) (fp : List Addr), PG ((X.blk s0 H0 scO (compEnvC scO cl0 C0 X.env) fp0).blk s H scope (compEnvC scope cl C (compEnvC scO cl0 C0 X.env)) fp) tg g) (ht : ∀ (s : Shared) (H : Hp) (C : Addr) (cl : List (Str × Addr)) (fp : List Addr), PTs ((X.blk s0 H0 scO (compEnvC scO cl0 C0 X.env) fp0).blk s H scope (compEnvC scope cl C (compEnvC scO cl0 C0 X.env)) fp) ifs tt)
    (he : ∀ (s : Shared) (H : Hp) (C : Addr) (cl : List (Str × Addr)) (fp : List Addr), PE ((X.blk s0 H0 scO (compEnvC scO cl0 C0 X.env) fp0).blk s H scope (compEnvC scope cl C (compEnvC scO cl0 C0 X.env)) fp) elt te) (hs : ∀ x, foldedSetIterable iter (compEnvC scO cl0 C0 X.env) x = pure x := by intro _; rfl) :
    PE (X.blk s0 H0 scO (compEnvC scO cl0 C0 X.env) fp0) (.ListComp elt [⟨tg, iter, ifs, 0⟩] scope pos) (tLc wi g tt te (own.map (·.2))) :=
  by subst hsc; exact pe_lc (X := X.blk s0 H0 scO (compEnvC scO cl0 C0 X.env) fp0) hc hN hi ok hg ht he hs
end
section
variable {σ : L2.St} {H : Hp} {Q : VK} {te : TE} {K : PySem.W.Frag}
theorem lenL {p : Addr} {ys : List V} (h : SqL K H p ys) (q : Q (.int ys.length) H) : rLen K [.ref p] H Q := ⟨p, ys, rfl, .inl h, q⟩
theorem lenT {p : Addr} {ys : List V} (h : SqT K H p ys) (q : Q (.int ys.length) H) : rLen K [.ref p] H Q := ⟨p, ys, rfl, .inr h, q⟩
theorem sumL {p : Addr} {ns : List Int} (h : SqL K H p (ns.map V.int)) (q : Q (.int ns.sum) H) : rSum K [.ref p] H Q := ⟨p, ns, rfl, h, q⟩
theorem revL (h : te σ H fun x H1 => ∃ a xs, x = .ref a ∧ SqL K H1 a xs ∧ ∀ p, H1 p = none → Q (.ref p) (upd H1 p (.lst xs.reverse))) : tRevL K te σ H Q := h
theorem sl {r : V → Option Int → Option Int → Hp → VK → Prop} {tl th : TO} (h : te σ H fun x H1 => tl σ H1 fun l H2 => th σ H2 fun u H3 => r x l u H3 Q) : tSl r te tl th σ H Q := h
theorem noP {q : Option Int → Hp → Prop} (h : q none H) : tNoPart σ H q := h
theorem part {q : Option Int → Hp → Prop} (h : te σ H fun x H1 => ∃ i, x = .int i ∧ q (some i) H1) : tPart te σ H q := h
theorem ie {a : Int} {q : Int → Prop} (h : q a) : ∃ i, V.int a = V.int i ∧ q i := ⟨a, rfl, h⟩
theorem slLs {p : Addr} {xs : List V} {lo hi : Option Int} (h : SqL K H p xs) (q : ∀ p, H p = none → Q (.ref p) (upd H p (.lst (cutV xs lo hi)))) : rSlL K (.ref p) lo hi H Q := ⟨p, xs, rfl, h, q⟩
theorem gtup {n : Nat} {t : TGs} {a : Addr} {xs : List V} {q : L2.St → Hp → Prop} (h : SqT K H a xs) (e : xs.length = n) (k : t xs σ H q) : gTup K n t (.ref a) σ H q := ⟨a, xs, rfl, h, e, k⟩
theorem gcons {t : TG} {u : TGs} {v : V} {r : List V} {q : L2.St → Hp → Prop} (h : t v σ H fun σ' H' => u r σ' H' q) : gCons t u (v :: r) σ H q := ⟨v, r, rfl, h⟩
theorem gnil {q : L2.St → Hp → Prop} (h : q σ H) : gNil [] σ H q := ⟨rfl, h⟩
theorem itup {R : It → Hp → Prop} (h : te σ H fun x H1 => ∃ a, x = .ref a ∧ (∃ xs, SqT K H1 a xs) ∧ R (Itt K a) H1) : iTup K te σ H R := h
theorem ienu {tl : TA} {R : It → Hp → Prop} (h : tl σ H fun vs H1 => ∃ a xs, vs = [.ref a] ∧ SqL K H1 a xs ∧ R (Ite K a) H1) : iEnum K tl σ H R := h
theorem cat {l b : Addr} {xs zs : List V} (h1 : H l = some (.lst xs)) (h2 : H b = some (.lst zs)) (q : xs.length + zs.length ≤ sizeLine ∧ ∀ p, H p = none → Q (.ref p) (upd H p (.lst (xs ++ zs)))) : rCat (.ref l) (.ref b) H Q := ⟨l, b, xs, zs, rfl, rfl, h1, h2, q⟩
theorem ext {l b : Addr} {xs zs : List V} (h1 : H l = some (.lst xs)) (h2 : H b = some (.lst zs)) (q : xs.length + zs.length ≤ sizeLine ∧ Q .non (upd H l (.lst (xs ++ zs)))) : rExtend (.ref l) [.ref b] H Q := ⟨l, b, xs, zs, rfl, rfl, h1, h2, q⟩
end
end HS
/-! A for whose body hands out (own rule over HandS.GenBody). -/
namespace HS
open PySem PySem.Spec PyProof.Rows L2
def tGFor (wi : TI) (g : TG) (tb : TGn) : TGn := fun D ys σ H => wi σ H fun J H1 => ∃ W : Nat → Nat → List V → L2.St → Hp → Prop, (∃ m, W 0 m ys σ H1) ∧ ∀ i m ys σ H, W i m ys σ H →
  (J.stop i H ∧ D.nx ys σ H) ∨ (J.go i H ∧ ∃ N : List V → L2.St → Hp → Prop, (∀ ys' σ' H', N ys' σ' H' → ∃ m', m' < m ∧ W (i + 1) m' ys' σ' H') ∧ ∀ x H', J.yld i H x H' → g x σ H' fun σ2 H2 => tb { D with nx := N, ct := N, bk := D.nx } ys σ2 H2)
section
variable {X : Cx}
theorem gs_for {tg iter : Expr} {body : List Stmt} {wi : TI} {g : TG} {tb : TGn} {pos : Pos} (hp : PassesOwn (model X.prog X.w) X.A X.env X.xe) (hc : X.calm = true) (hi : PI X tg iter wi) (hg : PG X tg g) (hb : GSs X body tb)
    (hs : ∀ x, foldedSetIterable iter X.env x = pure x := by intro _; rfl) : GS X (.For tg iter body [] pos) (tGFor wi g tb) := by
  refine ⟨fun A S ip R n ys s₀ c fs K J gd lv s σ H D gc hn k hI ht => ?_⟩
  obtain ⟨acc0, cc0, r0, I0⟩ := hI
  rw [exec_For]
  show Seg _ _ _ _ _ _ _ (.at pos fun _ => (eval iter X.env >>= fun v => (foldedSetIterable iter X.env v >>= fun x => (standAt iter.pos >>= fun _ => (holding [x] (pyIter x) >>= fun itv => runOwn (.forLoop tg itv body [] X.env) X.env)))).wrap K J gd lv) _ _
  refine seg_at (seg_bind_wrap ?_)
  rw [gc.over]
  refine wpAny_mono (hi.run _ s σ H _ I0 ht) (fun v s1 h1 => ?_) fun x s' hx => k.exc n s₀ x s' hx
  rw [hs v]
  refine seg_bind_wrap (wpAny_pure ?_)
  refine seg_bind_wrap (wpAny_standAt ?_)
  refine seg_bind_wrap ?_
  rw [gc.over]
  refine wpAny_holding (wpAny_mono h1 (fun itv s2 h2 => ?_) fun x s' hx => k.exc n s₀ x s' hx)
  obtain ⟨it, fp, tn, Jt, H2, e, I2, T, st2, f2, W, ⟨m0, w0⟩, turn⟩ := h2
  subst e
  have stat : ∀ {H' : Hp} (acc : Array Value) (cc : Nat), (∀ b ∈ fp, H' b = none) → ∀ b ∈ fp, FpOk X ((S, lstObj acc cc) :: ip) H' b := fun {H'} acc cc hn b hb => by
    obtain ⟨_, q1, q2, q3, q4, q5⟩ := f2 b hb
    refine ⟨hn b hb, q1, q2, q3, q4, fun p hp => ?_⟩
    rcases List.mem_append.mp hp with z | z
    · exact q5 p (List.mem_append_left _ z)
    · rcases List.mem_cons.mp z with z | z
      · rw [z]; exact q5 (S, lstObj acc0 cc0) (List.mem_append_right _ List.mem_cons_self)
      · exact q5 p (List.mem_append_right _ (List.mem_cons_of_mem _ z))
  have neS : ∀ b ∈ fp, b ≠ S := fun b hb z => (f2 b hb).2.2.2.2.2 (S, lstObj acc0 cc0) (List.mem_append_right _ List.mem_cons_self) z.symm
  refine seg_call fun p => ?_
  have gl := fun (kk : Result → Sem PySem.Fin) => gc_loop (k := kk) (c' := .forLoop tg (.ref it) body [] X.env) (l := lv []) (kp := []) (p := p) gc rfl rfl
  have loop : ∀ (m i n : Nat) (ys : List V) (s₀ s : Shared) (σ : L2.St) (H : Hp), n + ys.length = sizeLine → W i m ys σ H → GI X S ip ys σ H s → tn i s.heap → (∀ b ∈ fp, H b = none) →
      Seg (model X.prog X.w) A R (GY X S) n s₀ (.forLoop tg (.ref it) body [] X.env) ((model X.prog X.w).den (.forLoop tg (.ref it) body [] X.env))
        (.ret (fun r => ((match r with | .ok f => (.pure f : Sem Flow) | .error e => .raise e).onRaise (cameBack X.env)).wrap K J gd lv) none (gd false) (lv []) c p [] :: fs) s := by
    intro m
    induction m using Nat.strongRecOn with
    | ind m ih =>
      intro i n ys s₀ s σ H hn w hI st fr
      have ee : ∀ (n : Nat) (s₀ : Shared) (x : Value) (s' : Shared), X.xe x s' → Seg (model X.prog X.w) A R (GY X S) n s₀ (.forLoop tg (.ref it) body [] X.env)
          ((do noteFrame x X.env; theTreesLotGoes x : Sem Unit).bind (fun _ => .raise x))
          (.ret (fun r => ((match r with | .ok f => (.pure f : Sem Flow) | .error e => .raise e).onRaise (cameBack X.env)).wrap K J gd lv) none (gd false) (lv []) c p [] :: fs) s' := fun n s₀ x s' hx => by
        rw [Sem.bind_eq_wrap]
        refine seg_wrap ?_
        rw [(gl _).over]
        refine wpAny_bind (wpAny_mono (hp x s' hx) (fun _ s'' hcb => wpAny_theTreesLotGoes ?_) fun y s'' hcb => ?_)
        · exact seg_leaf (.error x) (seg_cameBack gc k hcb)
        · exact seg_leaf (.error y) (seg_cameBack gc k hcb)
      show Seg _ A R (GY X S) n s₀ _ ((forTurn tg (.ref it) body [] X.env).onRaise (fun x => do noteFrame x X.env; theTreesLotGoes x)) _ s
      unfold forTurn
      rw [Sem.onRaise_eq_wrap]
      refine seg_bind_wrap (wpAny_standAt ?_)
      refine seg_bind_wrap ?_
      rw [(gl _).over]
      obtain ⟨acc, cc, r, I⟩ := hI
      rcases turn i m ys σ H w with ⟨stop, qn⟩ | ⟨go, N, hN, step⟩
      · refine wpAny_onRaise (wpAny_mono (T.done X rfl rfl rfl hc i _ s σ H X.xe I (stat acc cc fr) st stop) (fun r' s4 h4 => ?_) fun x s' hx => wpAny_standAt (ee n s₀ x s' hx))
        obtain ⟨hr, I4⟩ := h4
        subst hr
        refine seg_again rfl ?_
        show Seg _ A R (GY X S) n s₀ _ (((execs [] X.env).onRaise (fun x => do noteFrame x X.env; theTreesLotGoes x)) >>= fun f => .pure (Fin.done f)) _ s4
        exact seg_leaf (.ok .next) (k.ok n ys s₀ s4 .next hn ⟨σ, H, ⟨acc, cc, r, I4⟩, qn⟩)
      · refine wpAny_onRaise (wpAny_mono (T.item X rfl rfl rfl hc i _ s σ H X.xe I (stat acc cc fr) st go) (fun r' s4 h4 => ?_) fun x s' hx => wpAny_standAt (ee n s₀ x s' hx))
        obtain ⟨u, hr, h4⟩ := h4
        subst hr
        refine seg_bind_wrap ?_
        rw [(gl _).over]
        refine wpAny_mono h4 (fun _ s5 h5 => ?_) fun x s' hx => ee n s₀ x s' hx
        obtain ⟨x, H5, I5, r5, y5, st5, fr5⟩ := h5
        have I5' := I5.pinned (stat acc cc fr5) (T.obj _ _ st5)
        refine seg_bind_wrap ?_
        rw [(gl _).over]
        refine wpAny_mono (hg.run _ s5 σ H5 x u _ I5' r5 (step x H5 y5)) (fun _ s6 h6 => ?_) fun x s' hx => ee n s₀ x s' hx
        obtain ⟨σ6, H6, I6, q6⟩ := h6
        rw [Sem.bind_eq_wrap', Sem.wrap_wrap]
        refine hb.run A S (ip ++ pinsAt fp s5.heap) R n ys s₀ _ _ _ _ _ _ s6 σ6 H6 { D with nx := N, ct := N, bk := D.nx } ⟨gc.pn, fun p hp => ?_, gc.apart, (gl _).over, (gl _).split, (gl _).guard, rfl⟩ hn ⟨fun n' ys' s₀' s7 f hn' hs => ?_, fun n' s₀' x s3 hx => ee n' s₀' x s3 hx⟩ ⟨acc, cc, r, I6⟩ q6
        · rcases List.mem_append.mp hp with z | z
          · exact gc.ip p z
          · exact neS _ (of_pinsAt z).1
        · have again : ∀ {σ7 : L2.St} {H7 : Hp}, GI X S (ip ++ pinsAt fp s5.heap) ys' σ7 H7 s7 → GI X S ip ys' σ7 H7 s7 ∧ tn (i + 1) s7.heap ∧ ∀ b ∈ fp, H7 b = none := fun {σ7 H7} hI => by
            obtain ⟨acc7, cc7, r7, I7⟩ := hI
            have pin : ∀ b ∈ fp, ∀ o, s5.heap.get? b = some o → s7.heap.get? b = some o ∧ H7 b = none := fun b hb o e => by
              have z := I7.pin (b, o) (List.mem_append_right _ (List.mem_cons_of_mem _ (List.mem_append_right _ (mem_pinsAt hb e))))
              exact ⟨z.1, z.2.1⟩
            have I7' : Inv X ((S, lstObj acc7 cc7) :: ip) σ7 H7 s7 := Inv.unpinned (pins := (S, lstObj acc7 cc7) :: ip) (pl := pinsAt fp s5.heap) I7
            refine ⟨⟨acc7, cc7, r7, I7'⟩, T.keep _ _ _ st5 fun b hb o e => (pin b hb o e).1, fun b hb => ?_⟩
            obtain ⟨o, e, _⟩ := T.obj _ _ st5 b hb
            exact (pin b hb o e).2
          cases f with
          | next =>
            obtain ⟨σ7, H7, I7, n7⟩ := hs
            obtain ⟨m', hm, w7⟩ := hN ys' σ7 H7 n7
            obtain ⟨g1, g2, g3⟩ := again I7
            exact seg_again rfl (ih m' hm (i + 1) n' ys' s₀' s7 σ7 H7 hn' w7 g1 g2 g3)
          | cont =>
            obtain ⟨σ7, H7, I7, n7⟩ := hs
            obtain ⟨m', hm, w7⟩ := hN ys' σ7 H7 n7
            obtain ⟨g1, g2, g3⟩ := again I7
            exact seg_again rfl (ih m' hm (i + 1) n' ys' s₀' s7 σ7 H7 hn' w7 g1 g2 g3)
          | brk =>
            obtain ⟨σ7, H7, I7, q7⟩ := hs
            exact seg_leaf (.ok .next) (k.ok n' ys' s₀' s7 .next hn' ⟨σ7, H7, (again I7).1, q7⟩)
          | ret v =>
            obtain ⟨x7, σ7, H7, I7, r7, q7⟩ := hs
            exact seg_leaf (.ok (.ret v)) (k.ok n' ys' s₀' s7 (.ret v) hn' ⟨x7, σ7, H7, (again I7).1, r7, q7⟩)
  exact loop m0 0 n ys s₀ s2 σ H2 hn w0 ⟨acc0, cc0, r0, I2⟩ st2 fun b hb => (f2 b hb).1
end
end HS
namespace HS
open PySem PySem.Spec PyProof.Rows L2
section
variable {σ : L2.St} {H : Hp} {g : TG} {tb : TGn} {n bk ct : List V → L2.St → Hp → Prop} {rt : List V → VK} {ys : List V}
theorem gfr {wi : TI} (h : wi σ H fun J H1 => ∃ W : Nat → Nat → List V → L2.St → Hp → Prop, (∃ m, W 0 m ys σ H1) ∧ ∀ i m ys σ H, W i m ys σ H →
  (J.stop i H ∧ n ys σ H) ∨ (J.go i H ∧ ∃ N : List V → L2.St → Hp → Prop, (∀ ys' σ' H', N ys' σ' H' → ∃ m', m' < m ∧ W (i + 1) m' ys' σ' H') ∧ ∀ x H', J.yld i H x H' → g x σ H' fun σ2 H2 => tb ⟨N, rt, n, N⟩ ys σ2 H2)) : tGFor wi g tb ⟨n, rt, bk, ct⟩ ys σ H := h
theorem gfor_range {lo : Int} {m : Nat} (Pv : Nat → List V → L2.St → Hp → Prop) (h0 : Pv 0 ys σ H)
    (hs : ∀ i ys σ H, i < m → Pv i ys σ H → g (.int (lo + i)) σ H fun σ2 H2 => tb ⟨Pv (i + 1), rt, n, Pv (i + 1)⟩ ys σ2 H2) (hd : ∀ ys σ H, Pv m ys σ H → n ys σ H) :
    ∃ W : Nat → Nat → List V → L2.St → Hp → Prop, (∃ m, W 0 m ys σ H) ∧ ∀ i m' ys σ H, W i m' ys σ H →
      ((Itr lo m).stop i H ∧ n ys σ H) ∨ ((Itr lo m).go i H ∧ ∃ N : List V → L2.St → Hp → Prop, (∀ ys' σ' H', N ys' σ' H' → ∃ m'', m'' < m' ∧ W (i + 1) m'' ys' σ' H') ∧ ∀ x H', (Itr lo m).yld i H x H' → g x σ H' fun σ2 H2 => tb ⟨N, rt, n, N⟩ ys σ2 H2) := by
  refine ⟨fun i k ys σ H => k = m - i ∧ i ≤ m ∧ Pv i ys σ H, ⟨m, by simp, Nat.zero_le _, h0⟩, ?_⟩
  rintro i k ys σ H ⟨rfl, hi, p⟩
  by_cases hlt : i < m
  · refine .inr ⟨hlt, Pv (i + 1), fun ys' σ' H' p' => ⟨m - (i + 1), by omega, rfl, hlt, p'⟩, fun x H' y => ?_⟩
    obtain ⟨rfl, rfl⟩ := y
    exact hs i ys σ _ hlt p
  · have e : i = m := by omega
    subst e
    exact .inl ⟨Nat.le_refl _, hd ys σ H p⟩
end
end HS
/-! Lists of new pairs of ints, and == of such; ranges by steps. -/
namespace HS
open PySem PySem.Spec PyProof.Rows L2
/-- the refs of vs are tuples of these pairs -/
def Prs (H : Hp) : List V → List (Int × Int) → Prop
  | [], [] => True
  | v :: vs, p :: ps => (∃ t, v = .ref t ∧ H t = some (.tup [.int p.1, .int p.2])) ∧ Prs H vs ps
  | _, _ => False
theorem Prs.keep {S : Addr → Prop} {H H' : Hp} (k : Keep S H H') : ∀ {vs : List V} {ps : List (Int × Int)}, Prs H vs ps → (∀ v ∈ vs, ∀ t, v = .ref t → ¬ S t) → Prs H' vs ps
  | [], [], h, _ => h
  | _ :: _, _ :: _, ⟨⟨t, e, o⟩, h⟩, n => ⟨⟨t, e, k t _ o (n _ List.mem_cons_self t e)⟩, h.keep k fun v hv => n v (List.mem_cons_of_mem _ hv)⟩
theorem Prs.app {H : Hp} : ∀ {vs ws : List V} {ps qs : List (Int × Int)}, Prs H vs ps → Prs H ws qs → Prs H (vs ++ ws) (ps ++ qs)
  | [], _, [], _, _, g => g
  | _ :: _, _, _ :: _, _, ⟨a, h⟩, g => ⟨a, h.app g⟩
theorem Prs.len {H : Hp} : ∀ {vs : List V} {ps : List (Int × Int)}, Prs H vs ps → vs.length = ps.length
  | [], [], _ => rfl
  | _ :: _, _ :: _, ⟨_, h⟩ => by rw [List.length_cons, List.length_cons, h.len]
def dPr (p : Int × Int) : PyData := .tuple [.int p.1, .int p.2]
def dPrs (ps : List (Int × Int)) : PyData := .list (ps.map dPr)
section
variable {K : PySem.W.Frag} {H : Hp}
theorem dpAll_prs : ∀ {vs : List V} {ps : List (Int × Int)}, Prs H vs ps → DpAll K H vs (ps.map dPr)
  | [], [], _ => .nil
  | _ :: _, p :: _, ⟨⟨t, e, o⟩, h⟩ => .cons (by rw [e]; exact .tup (st o) (.cons (.int p.1) (.cons (.int p.2) .nil))) (dpAll_prs h)
theorem lay_prs : ∀ ps : List (Int × Int), PyData.canLayAll0 (ps.map dPr) = true
  | [] => rfl
  | p :: r => by rw [List.map_cons, PyData.canLayAll0, lay_prs r]; rfl
theorem dep_prs : ∀ ps : List (Int × Int), PyData.depthAll (ps.map dPr) ≤ 2
  | [] => by simp [PyData.depthAll]
  | p :: r => by
    have h := dep_prs r
    have h2 : (dPr p).depth ≤ 2 := by simp [dPr, PyData.depth, PyData.depthAll]
    rw [List.map_cons, PyData.depthAll]; omega
theorem sh_prs (ps : List (Int × Int)) : SeqAt.shaped (dPrs ps) = true := by
  have h1 := dep_prs ps
  have h2 : PyData.depth (dPrs ps) ≤ 64 := by unfold dPrs; rw [PyData.depth]; omega
  show (PyData.canLay0 (dPrs ps) && decide (PyData.depth (dPrs ps) ≤ 64)) = true
  rw [Bool.and_eq_true]
  exact ⟨by unfold dPrs; rw [PyData.canLay0]; exact lay_prs ps, decide_eq_true h2⟩
theorem eqv_pr (p q : Int × Int) : PyData.eqv (dPr p) (dPr q) = decide (p = q) := by
  unfold dPr
  rw [PyData.eqv, PyData.eqvAll, PyData.eqvAll, PyData.eqvAll, eqv_int, eqv_int]
  obtain ⟨a, b⟩ := p
  obtain ⟨c, d⟩ := q
  by_cases h : a = c <;> by_cases g : b = d <;> simp [h, g]
theorem eqvAll_prs : ∀ xs ys : List (Int × Int), PyData.eqvAll (xs.map dPr) (ys.map dPr) = decide (xs = ys)
  | [], [] => rfl
  | [], y :: ys => rfl
  | x :: xs, [] => rfl
  | x :: xs, y :: ys => by
    rw [List.map_cons, List.map_cons, PyData.eqvAll, eqv_pr, eqvAll_prs xs ys]
    by_cases h : x = y <;> by_cases g : xs = ys <;> simp [h, g]
/-- == of two lists of pairs of ints -/
theorem eqP {a b : Addr} {vs ws : List V} {xs ys : List (Int × Int)} {Q : VK} (h1 : SqL K H a vs) (g1 : Prs H vs xs) (h2 : SqL K H b ws) (g2 : Prs H ws ys) (q : Q (.bl (decide (xs = ys))) H) : rEqD K (.ref a) (.ref b) H Q := by
  refine ⟨dPrs xs, dPrs ys, .lst h1 (dpAll_prs g1), .lst h2 (dpAll_prs g2), sh_prs _, sh_prs _, ?_⟩
  rw [show PyData.eqv (dPrs xs) (dPrs ys) = decide (xs = ys) by unfold dPrs; rw [PyData.eqv]; exact eqvAll_prs xs ys]
  exact q
end
theorem RgC.up {j c : Int} (hc : 1 ≤ c) (hc2 : c < 2 ^ 30) (h0 : 0 ≤ j) (h1 : j < 2 ^ 61) : RgC 0 j c ((j + c - 1) / c).toNat := by
  have hn : 0 ≤ (j + c - 1) / c := Int.ediv_nonneg (by omega) (by omega)
  have e : Builtin.Range.rangeSize 0 j c = (j + c - 1) / c := by
    unfold Builtin.Range.rangeSize
    rw [if_pos (by omega)]
    split
    · rw [show j + c - 1 = (j - 0 - 1) + c * 1 by omega, Int.add_mul_ediv_left _ _ (by omega)]
    · rw [show j = 0 by omega, Int.ediv_eq_zero_of_lt (by omega) (by omega)]
  have hl : (j + c - 1) / c ≤ j + c := Int.le_trans (Int.ediv_le_self _ (by omega)) (by omega)
  refine ⟨by omega, by omega, ?_, by rw [e]; omega⟩
  unfold Builtin.Range.small
  rw [e]
  simp only [Builtin.Range.rangeFitsLong, Bool.and_eq_true, Bool.or_eq_true, decide_eq_true_eq, beq_iff_eq]
  rw [if_pos (show c > 0 by omega)]
  simp only [Bool.and_eq_true, decide_eq_true_eq]
  omega
end HS
namespace HS
open PySem PySem.Spec PyProof.Rows L2
section
variable {σ : L2.St} {H : Hp}
theorem rng3 {tl : TA} {R : It → Hp → Prop} (h : tl σ H fun vs H1 => ∃ (i j c : Int) (n : Nat), vs = [.int i, .int j, .int c] ∧ RgC i j c n ∧ R (Itc i c n) H1) : iRng3 tl σ H R := h
end
end HS
namespace HS
open PySem PySem.Spec PyProof.Rows L2
theorem Prs.new {H : Hp} {p : Addr} {o : HO} (hp : H p = none) {vs : List V} {ps : List (Int × Int)} (h : Prs H vs ps) : Prs (upd H p o) vs ps :=
  h.keep (S := fun _ => False) (Keep.new hp) fun _ _ _ _ z => z
theorem Prs.same {H H' : Hp} {vs : List V} {ps : List (Int × Int)} (h : Prs H vs ps) (k : Keep (fun _ => False) H H') : Prs H' vs ps :=
  h.keep (S := fun _ => False) k fun _ _ _ _ z => z
theorem Prs.lst {H : Hp} {L : Addr} {ws : List V} (hL : H L = some (.lst ws)) : ∀ {vs : List V} {ps : List (Int × Int)}, Prs H vs ps → ∀ v ∈ vs, ∀ t, v = .ref t → t ≠ L
  | [], [], _, _, hv, _, _ => absurd hv List.not_mem_nil
  | _ :: _, _ :: _, ⟨⟨t', e', o'⟩, h⟩, v, hv, t, e => by
    rcases List.mem_cons.mp hv with hv | hv
    · subst hv
      rw [e'] at e
      have := V.ref.inj e
      subst this
      intro z
      rw [z, hL] at o'
      cases o'
    · exact h.lst hL v hv t e
theorem Prs.put {H : Hp} {L : Addr} {ws : List V} {o : HO} (hL : H L = some (.lst ws)) {vs : List V} {ps : List (Int × Int)} (h : Prs H vs ps) : Prs (upd H L o) vs ps :=
  h.keep (S := fun a => a = L) (Keep.at Keep.refl rfl) (h.lst hL)
theorem Prs.snoc {H : Hp} {vs : List V} {ps : List (Int × Int)} {t : Addr} {a b : Int} (h : Prs H vs ps) (e : H t = some (.tup [.int a, .int b])) : Prs H (vs ++ [.ref t]) (ps ++ [(a, b)]) :=
  h.app ⟨⟨t, rfl, e⟩, trivial⟩
end HS
/-! Exceptions of own classes as values: made, asked, read (own rules over HandS). -/
namespace HS
open PySem PySem.Spec PyProof.Rows L2
/-- the j-th row of a class's block -/
def inS (s : Stmt) (j : Nat) : Stmt := match s with
  | .ClassDef _ _ _ body _ _ _ _ _ _ _ => body.getD j (.Pass ⟨0, 0, 0, 0⟩)
  | s => s
/-- an own exception that stands in the heap, with its fields -/
def Exv (H : Hp) (a C : Addr) (fs : List (Str × V)) : Prop := ∃ d, H a = some (exo a C (some d)) ∧ H d = some (exd d fs)
def rIsV (K : PySem.W.Frag) : List V → Hp → VK → Prop := fun xs H Q => ∃ (a D : Addr) (fs : List (Str × V)) (c : V) (cv : Value) (b : Bool), xs = [.ref a, c] ∧ ExcC K D ∧ Exv H a D fs ∧ ClsV c cv ∧ PySem.W.kitOne K (.ref D) cv = some b ∧ Q (.bl b) H
theorem call_isV {X : Cx} : CallR X (.builtin "isinstance") (rIsV X.K) := by
  intro pins s σ H xs us Q I r hw
  obtain ⟨a, D, fs, c, cv, b, e0, T, ⟨d, ea, ed⟩, hcv, hb, q⟩ := hw
  subst e0
  match us, r with
  | [_, _], .cons rx (.cons rt .nil) =>
    cases rx
    have e1 := hcv.eq rt
    subst e1
    obtain ⟨t1, ho⟩ := exo_at I.hok ea
    obtain ⟨mA, hns, _⟩ := exd_at I.hok ed
    obtain ⟨od, hod, _⟩ := lookIn_ns hns
    obtain ⟨cd, hcd, _⟩ := PySem.W.any_some T.hd
    have here : PySem.W.InstAt s.heap a _ D (some od) := ⟨ho, rfl, rfl, hod⟩
    exact PySem.W.kia_one (PySem.W.kitx_exc (by rw [hcd]; rfl) T.hg T.hk T.hs T.ha T.hn T.ht T.hm) I.kIn here hb (fun z => nomatch z) fun tk => ⟨.bl b, H, I.kept (t' := tk) fun _ _ z => z, rfl, q⟩
/-- e.f of such an exception -/
def tFldV (K : PySem.W.Frag) (f : Str) (te : TE) : TE := fun σ H Q => te σ H fun x H1 => ∃ (a C : Addr) (fs : List (Str × V)) (v : V), x = .ref a ∧ XfC K C ∧ PySem.W.findIn K (.ref C) f = some none ∧ Exv H1 a C fs ∧ fs.lookup f = some v ∧ Q v H1
theorem pe_fldV {X : Cx} {e : Expr} {te : TE} {pos : Pos} {f : Str} (he : PE X e te) (hb : attributeBase e f X.env (eval e X.env) = eval e X.env := by rfl) : PE X (.Attribute e f pos) (tFldV X.K f te) := by
  refine ⟨fun pins s σ H Q I hw => attr_of hb (thn (he.run pins s σ H _ I hw) fun u s1 ⟨x, H1, I1, rx, a, C, fs, v, e0, T, hno, ⟨d, ea, ed⟩, l, q⟩ => ?_)⟩
  subst e0
  cases rx
  obtain ⟨t1, ho⟩ := exo_at I1.hok ea
  obtain ⟨mA, hns, hr⟩ := exd_at I1.hok ed
  obtain ⟨od, hod, hl⟩ := lookIn_ns hns
  obtain ⟨w, hw, rw'⟩ := RelO.some_of (v := v) (o := mA f) (by rw [← l]; exact hr f)
  have here : PySem.W.InstAt s1.heap a _ C (some od) := ⟨ho, rfl, rfl, hod⟩
  exact HandSPX.exc_get I1.kIn here T.ga T.gg T.exC (PySem.W.findObj_own T.hdC hno rfl (by rw [hl, hw])) (handed_of rw') ⟨v, H1, I1.tok _, rw', q⟩
/-- C(e, ..) as a value -/
def tNewV (C : Addr) (sp : Sp) (ta : TA) : TE := fun σ H Q => ta σ H fun vs H1 => vs.length ≤ 1000 ∧ ∀ a, H1 a = none → sp (.ref a :: vs) (upd H1 a (exo a C none)) (fun v H2 => v = .non ∧ Q (.ref a) H2) (fun _ _ _ => False)
section
variable {X : Cx} {CX : CXT} {x : Str} {C fI : Addr} {k : Nat} {fd : FuncData} {ps : List Str} {sp : Sp} {e : Expr} {es : List Expr} {ta : TA} {p pos : Pos}
theorem pe_newV (T : OexC X.K C) (iC : PySem.W.findIn X.K (.ref C) "__init__" = some (some (.ref fI))) (tI : PySem.W.typeIn X.K (.ref fI) = some (.type "function"))
    (F1 : FnOk X.prog X.w X.K X.mg X.base CX k fI fd ps sp) (hr : Room (k + 1) X.A) (hb : Binds X.K fd ps []) (hx : Passes CX X (fun _ _ _ => False)) (hg : Gl X x) (hm : X.mg x = some (.ref C)) (ha : PA X (e :: es) ta)
    (hdb : (x == ("__debug__" : Str)) = false := by decide) (he : starEach (e :: es) X.env = (false, eval e X.env) :: starEach es X.env := by rfl) (hpl : (backTo pos (starEach es X.env)).any (·.1) = false := by rfl) :
    PE X (.Call (.Name x p) (e :: es) [] pos) (tNewV C sp ta) := by
  refine ⟨fun pins s σ H Q I hw => wpAny_Call_Name_kw (ld_glob I hg hm ?_ hdb)⟩
  obtain ⟨nm, qn, N, bs, bm, sn, sub, ab, col, dd, k0, k1, k2, k3, k5, hC, hbm⟩ := T.cls
  refine PySem.W.callWith_K (h₀ := X.base) I.ok.mod.kin T.kC (thn (ha.run pos pins s σ H _ I hw) fun us s1 ⟨vs, H1, I1, r1, hz, q1⟩ => ⟨I1.kIn, ?_⟩) he hpl
  show wpAny _ _ (call (.ref C) us) _ _ _
  obtain ⟨hp, g, dr, tk, os⟩ := s1
  have le1 : hp.objs.size ≤ hp.objs.size + 1 := by omega
  have kept : ∀ b o, hp.get? b = some o → ((hp.push (PySem.W.kdv_tup us)).push (PySem.HandSPX.excO C hp.objs.size)).get? b = some o := fun _ _ z => Heap.get?_push_of_some _ (Heap.get?_push_of_some _ z)
  have at1 : ((hp.push (PySem.W.kdv_tup us)).push (PySem.HandSPX.excO C hp.objs.size)).get? (hp.objs.size + 1) = some (PySem.HandSPX.excO C hp.objs.size) := by heap_get
  have J : Inv X pins σ (upd H1 (hp.objs.size + 1) (exo (hp.objs.size + 1) C none)) ⟨(hp.push (PySem.W.kdv_tup us)).push (PySem.HandSPX.excO C hp.objs.size), g, dr, tk, os⟩ := I1.laid (t' := tk) kept le1 (exo_ok at1)
  have q2 := q1 (hp.objs.size + 1) (I1.hok.fresh le1)
  have r2 : Vals (V.ref (hp.objs.size + 1) :: vs) (Value.ref (hp.objs.size + 1) :: us) := .cons rfl r1
  have len2 : (Value.ref (hp.objs.size + 1) :: us).length = ps.length := r2.length.symm.trans (F1.len _ _ _ _ q2)
  have small : us.length ≤ sizeLine := by have := Paired.length r1; rw [sizeLine_eq]; omega
  have bnd := hb _ (Value.ref (hp.objs.size + 1) :: us) J.kIn (by simpa using len2)
  refine wpAny_call (PySem.HandSPX.call_own F.excBase_ValueError (fun Y => PySem.HandSPX.refsVE_contains Y bm hbm) (I1.kIn _ _ hC) (PySem.W.looks_findIn I1.kIn iC) (fun self => PySem.W.bind_fn I1.kIn self tI) small
    (codeAny_mono (F1.run _ X.stack _ _ ⟨Value.ref (hp.objs.size + 1) :: us, []⟩ _ _ _ _ (hr.make C us []) (J.env0.make C us []) bnd (by simpa using r2) q2) fun r s' back => ?_))
  match r, back with
  | .error er, back => exact hx pins σ _ _ er s' J back
  | .ok (.ret u), back =>
    obtain ⟨v, H', J', rv, ev, q3⟩ := J.after back
    subst ev
    exact ⟨rv, ⟨V.ref (hp.objs.size + 1), H', J', rfl, q3⟩⟩
end
section
variable {σ : L2.St} {H : Hp} {Q : VK} {te to : TE} {ta : TA} {K : PySem.W.Frag} {n bk ct : L2.St → Hp → Prop} {rt : VK} {f : Str} {C : Addr} {sp : Sp}
theorem ost (h : te σ H fun y H1 => to σ H1 fun x H2 => ∃ a C : Addr, x = .ref a ∧ OexC K C ∧ PySem.W.findIn K (.ref C) f = some none ∧
  ((H2 a = some (exo a C none) ∧ ∀ dx, H2 dx = none → dx ≠ a → n σ (upd (upd H2 dx (exd dx [(f, y)])) a (exo a C (some dx)))) ∨
    ∃ (dx : Addr) (fs : List (Str × V)), H2 a = some (exo a C (some dx)) ∧ H2 dx = some (exd dx fs) ∧ fs.length ≤ 900 ∧ n σ (upd H2 dx (exd dx ((f, y) :: fs))))) : tOst K f to te ⟨n, rt, bk, ct⟩ σ H := h
theorem fldV (h : te σ H fun x H1 => ∃ (a C : Addr) (fs : List (Str × V)) (v : V), x = .ref a ∧ XfC K C ∧ PySem.W.findIn K (.ref C) f = some none ∧ Exv H1 a C fs ∧ fs.lookup f = some v ∧ Q v H1) : tFldV K f te σ H Q := h
theorem newV (h : ta σ H fun vs H1 => vs.length ≤ 1000 ∧ ∀ a, H1 a = none → sp (.ref a :: vs) (upd H1 a (exo a C none)) (fun v H2 => v = .non ∧ Q (.ref a) H2) (fun _ _ _ => False)) : tNewV C sp ta σ H Q := h
end
end HS
namespace HS
open PySem PySem.Spec PyProof.Rows L2
/-- the refs of vs are tuples of these two values -/
def PrV (H : Hp) : List V → List (V × V) → Prop
  | [], [] => True
  | v :: vs, p :: ps => (∃ t, v = .ref t ∧ H t = some (.tup [p.1, p.2])) ∧ PrV H vs ps
  | _, _ => False
theorem PrV.keep {S : Addr → Prop} {H H' : Hp} (k : Keep S H H') : ∀ {vs : List V} {ps : List (V × V)}, PrV H vs ps → (∀ v ∈ vs, ∀ t, v = .ref t → ¬ S t) → PrV H' vs ps
  | [], [], h, _ => h
  | _ :: _, _ :: _, ⟨⟨t, e, o⟩, h⟩, n => ⟨⟨t, e, k t _ o (n _ List.mem_cons_self t e)⟩, h.keep k fun v hv => n v (List.mem_cons_of_mem _ hv)⟩
theorem PrV.same {H H' : Hp} {vs : List V} {ps : List (V × V)} (h : PrV H vs ps) (k : Keep (fun _ => False) H H') : PrV H' vs ps :=
  h.keep k fun _ _ _ _ z => z
theorem PrV.len {H : Hp} : ∀ {vs : List V} {ps : List (V × V)}, PrV H vs ps → vs.length = ps.length
  | [], [], _ => rfl
  | _ :: _, _ :: _, ⟨_, h⟩ => by rw [List.length_cons, List.length_cons, h.len]
theorem PrV.at {H : Hp} : ∀ {vs : List V} {ps : List (V × V)} {i : Nat} {v : V}, PrV H vs ps → vs[i]? = some v → ∃ t p, v = .ref t ∧ ps[i]? = some p ∧ H t = some (.tup [p.1, p.2])
  | [], [], i, _, _, e => by cases i <;> cases e
  | x :: _, p :: _, 0, v, ⟨⟨t, e', o⟩, _⟩, e => ⟨t, p, by rw [← Option.some.inj e]; exact e', rfl, o⟩
  | _ :: vs, _ :: ps, i + 1, v, ⟨_, h⟩, e => h.at (i := i) (by rw [List.getElem?_cons_succ] at e; exact e)
end HS
namespace HS
open PySem PySem.Spec PyProof.Rows L2
theorem kisV {X : Cx} (K : PySem.W.Frag) (h : X.K = K := by rfl) : CallR X (.builtin "isinstance") (rIsV K) := h ▸ call_isV
theorem kisi {X : Cx} (K : PySem.W.Frag) (h : X.K = K := by rfl) : CallR X (.builtin "isinstance") (rIsi K) := h ▸ call_isi
section
variable {K : PySem.W.Frag} {H H' : Hp} {Q : VK} {a D C p : Addr} {fs : List (Str × V)} {b : Bool} {o : HO}
theorem Exv.same (h : Exv H a C fs) (k : Keep (fun _ => False) H H') : Exv H' a C fs := by
  obtain ⟨d, e1, e2⟩ := h
  exact ⟨d, k _ _ e1 id, k _ _ e2 id⟩
theorem Exv.new (h : Exv H a C fs) (hp : H p = none) : Exv (upd H p o) a C fs := h.same (Keep.new hp)
theorem isV (T : ExcC K D) (he : Exv H a D fs) (hq : PySem.W.kitOne K (.ref D) (.ref C) = some b) (q : Q (.bl b) H) : rIsV K [.ref a, .ref C] H Q := ⟨a, D, fs, _, _, b, rfl, T, he, .own C, hq, q⟩
theorem isVt {n : String} (T : ExcC K D) (he : Exv H a D fs) (hq : PySem.W.kitOne K (.ref D) (.type n) = some b) (q : Q (.bl b) H) : rIsV K [.ref a, .ty n] H Q := ⟨a, D, fs, _, _, b, rfl, T, he, .ty n, hq, q⟩
end
end HS
namespace HS
open PySem PySem.Spec PyProof.Rows L2
theorem PrV.app {H : Hp} : ∀ {vs ws : List V} {ps qs : List (V × V)}, PrV H vs ps → PrV H ws qs → PrV H (vs ++ ws) (ps ++ qs)
  | [], _, [], _, _, g => g
  | _ :: _, _, _ :: _, _, ⟨a, h⟩, g => ⟨a, h.app g⟩
theorem PrV.new {H : Hp} {p : Addr} {o : HO} {vs : List V} {ps : List (V × V)} (h : PrV H vs ps) (hp : H p = none) : PrV (upd H p o) vs ps := h.same (Keep.new hp)
section
variable {H : Hp} {t0 t1 l : Addr} {x0 y0 x1 y1 : V}
theorem pair2 (h0 : H t0 = none) (h1 : upd H t0 (.tup [x0, y0]) t1 = none) (h2 : upd (upd H t0 (.tup [x0, y0])) t1 (.tup [x1, y1]) l = none) :
    ∃ H1, upd (upd (upd H t0 (.tup [x0, y0])) t1 (.tup [x1, y1])) l (.lst [.ref t0, .ref t1]) = H1 ∧ Keep (fun _ => False) H H1 ∧ PrV H1 [.ref t0, .ref t1] [(x0, y0), (x1, y1)] ∧ H1 l = some (.lst [.ref t0, .ref t1]) := by
  have n1 : t0 ≠ t1 := ne_of_none upd_same h1
  have e0 : upd (upd H t0 (.tup [x0, y0])) t1 (.tup [x1, y1]) t0 = some (.tup [x0, y0]) := by rw [upd_ne n1]; exact upd_same
  have e1 : upd (upd H t0 (.tup [x0, y0])) t1 (.tup [x1, y1]) t1 = some (.tup [x1, y1]) := upd_same
  refine ⟨_, rfl, (Keep.new h0).trans ((Keep.new h1).trans (Keep.new h2)), ⟨⟨t0, rfl, ?_⟩, ⟨t1, rfl, ?_⟩, trivial⟩, upd_same⟩
  · rw [upd_ne (ne_of_none e0 h2)]; exact e0
  · rw [upd_ne (ne_of_none e1 h2)]; exact e1
theorem pair1 (h0 : H t0 = none) (h2 : upd H t0 (.tup [x0, y0]) l = none) :
    ∃ H1, upd (upd H t0 (.tup [x0, y0])) l (.lst [.ref t0]) = H1 ∧ Keep (fun _ => False) H H1 ∧ PrV H1 [.ref t0] [(x0, y0)] ∧ H1 l = some (.lst [.ref t0]) := by
  refine ⟨_, rfl, (Keep.new h0).trans (Keep.new h2), ⟨⟨t0, rfl, ?_⟩, trivial⟩, upd_same⟩
  rw [upd_ne (ne_of_none upd_same h2)]; exact upd_same
end
end HS
namespace HS
open PySem PySem.Spec PyProof.Rows L2
theorem Keep.over {H H' : Hp} {a : Addr} {o : HO} (k : Keep (fun x => x = a) (upd H a o) H') (h : H a = none) : Keep (fun _ => False) H H' := fun p u e _ => by
  have n := ne_of_none e h
  exact k p u (by rw [upd_ne n]; exact e) n
end HS
namespace HS
open PySem PySem.Spec PyProof.Rows L2
/-- the same by the law's own look: leaves, lists and tuples of such -/
inductive SmV (K : PySem.W.Frag) (H : Hp) : Nat → V → V → Prop
  | non {n : Nat} : SmV K H n .non .non
  | bl {n : Nat} (b : Bool) : SmV K H n (.bl b) (.bl b)
  | int {n : Nat} (i : Int) : SmV K H n (.int i) (.int i)
  | str {n : Nat} (x : Str) : SmV K H n (.str x) (.str x)
  | lst {n : Nat} {a b : Addr} {xs ys : List V} : H a = some (.lst xs) → H b = some (.lst ys) → xs.length = ys.length → xs.length ≤ 1000 → (∀ (i : Nat) (x y : V), xs[i]? = some x → ys[i]? = some y → SmV K H n x y) → SmV K H (n + 1) (.ref a) (.ref b)
  | tup {n : Nat} {a b : Addr} {xs ys : List V} : H a = some (.tup xs) → H b = some (.tup ys) → xs.length = ys.length → xs.length ≤ 1000 → (∀ (i : Nat) (x y : V), xs[i]? = some x → ys[i]? = some y → SmV K H n x y) → SmV K H (n + 1) (.ref a) (.ref b)
theorem SmV.same {K : PySem.W.Frag} {H H' : Hp} (k : Keep (fun _ => False) H H') : ∀ {n : Nat} {x y : V}, SmV K H n x y → SmV K H' n x y
  | _, _, _, .non => .non
  | _, _, _, .bl b => .bl b
  | _, _, _, .int i => .int i
  | _, _, _, .str x => .str x
  | _, _, _, .lst h1 h2 h3 h4 h => .lst (k _ _ h1 id) (k _ _ h2 id) h3 h4 fun i x y e1 e2 => (h i x y e1 e2).same k
  | _, _, _, .tup h1 h2 h3 h4 h => .tup (k _ _ h1 id) (k _ _ h2 id) h3 h4 fun i x y e1 e2 => (h i x y e1 e2).same k
/-- x[i] of a list or a tuple -/
def rIxA (K : PySem.W.Frag) : R2 := fun x y H Q => rIxL K x y H Q ∨ rIxT K x y H Q
theorem ixa {X : Cx} (K : PySem.W.Frag) (h : X.K = K := by rfl) : IxR X (rIxA K) := fun value slice pins s σ H x y v u Q I rx ry r =>
  r.elim (fun r => ixl K h value slice pins s σ H x y v u Q I rx ry r) fun r => ixt K h value slice pins s σ H x y v u Q I rx ry r
section
variable {K : PySem.W.Frag} {H : Hp} {Q : VK}
theorem isi {x : V} {m n : String} (b : Bool) (ty : TyX K H x (.type m)) (hq : kitB m n = some b) (q : Q (.bl b) H) : rIsi K [x, .ty n] H Q := ⟨x, _, _, _, b, rfl, .ty n, ty, kit_ty hq, q⟩
theorem isN {x : V} (q : Q (.bl (decide (x = .non))) H) : (fun x y H Q => y = V.non ∧ Q (.bl (decide (x = .non))) H : R2) x .non H Q := ⟨rfl, q⟩
theorem eqS {x y : V} (hs : scal x y = true) (e : x = y) (q : Q (.bl true) H) : rEq x y H Q := ⟨hs, by rw [decide_eq_true e]; exact q⟩
theorem neB {b c : Bool} (q : Q (.bl (!decide (b = c))) H) : rNe (.bl b) (.bl c) H Q := ⟨rfl, by
  have e : decide (V.bl b = V.bl c) = decide (b = c) := by cases b <;> cases c <;> rfl
  rw [e]; exact q⟩
theorem kb_bb : kitB "bool" "bool" = some true := by decide +kernel
theorem kb_ib : kitB "int" "bool" = some false := by decide +kernel
theorem kb_ii : kitB "int" "int" = some true := by decide +kernel
theorem kb_sb : kitB "str" "bool" = some false := by decide +kernel
theorem kb_si : kitB "str" "int" = some false := by decide +kernel
theorem kb_ss : kitB "str" "str" = some true := by decide +kernel
theorem kb_lb : kitB "list" "bool" = some false := by decide +kernel
theorem kb_li : kitB "list" "int" = some false := by decide +kernel
theorem kb_ls : kitB "list" "str" = some false := by decide +kernel
theorem kb_ll : kitB "list" "list" = some true := by decide +kernel
theorem kb_lt : kitB "list" "tuple" = some false := by decide +kernel
theorem kb_tb : kitB "tuple" "bool" = some false := by decide +kernel
theorem kb_ti : kitB "tuple" "int" = some false := by decide +kernel
theorem kb_ts : kitB "tuple" "str" = some false := by decide +kernel
theorem kb_tl : kitB "tuple" "list" = some false := by decide +kernel
theorem kb_tt : kitB "tuple" "tuple" = some true := by decide +kernel
end
end HS
/-! An own exception class called with keywords. -/
namespace PySem
namespace HSK
open HandSPX Builtin Builtin.ObjectAttr
section
variable {prog : Program} {w : World} {A : Around} {E : Value → Shared → Prop} {R : Result → Shared → Prop} {h : Heap} {g : Array GenState} {d : Drawn} {t : Nat} {os : OsState} {kw : List (Str × Value)} {fI : Addr}
variable {nm q : Str} {C N : Addr} {bs bm bmB : List Value} {hdct : Bool} {sn : List Str} {sub : List Value} {ab : Bool} {col : Option Bool} {dd : Option Addr} {k0 k1 k2 k3 k5 : Option Value} {B newId initId : String}
theorem kw_check_new {M : Model} (F : ExcBaseFacts B newId initId bmB) (hT : ∀ X : String, bm.contains (.type X) = bmB.contains (.type X)) {Q : Unit → Shared → Prop} (hC : h.get? C = some (excClassObj nm q C N bs bm hdct sn sub ab col dd k0 k1 k2 k3 k5 newId)) (z : Q () ⟨h, g, d, t, os⟩) :
    wpAny M A (checkBuiltinCall newId ⟨[.ref C], kw⟩) Q E ⟨h, g, d, t, os⟩ := by
  have inB : (Value.ref C :: bm).contains (.type B) = true := by rw [List.contains_cons, hT, F.hasB, Bool.or_true]
  have star := F.noStar
  simp only [checkBuiltinCall, F.newKind, F.newSplit, F.newRow]
  repeat (first | refine wpAny_loadPart_at hC ?_ | (refine wpAny_isSubtype_exc hC ?_; rw [inB]) | refine wpAny_staticBase_exc hC ?_ | refine wpAny_madeBy_exc hC ?_ | simp only [bne_self_eq_false, Bool.false_eq_true, if_false] | wp_step)
  exact z
theorem kw_new (F : ExcBaseFacts B newId initId bmB) (hT : ∀ X : String, bm.contains (.type X) = bmB.contains (.type X)) (hC : h.get? C = some (excClassObj nm q C N bs bm hdct sn sub ab col dd k0 k1 k2 k3 k5 newId))
    (z : R (.ok (.ret (.ref (h.objs.size + 1)))) ⟨(h.push (W.kdv_tup [])).push (excO C h.objs.size), g, d, t, os⟩) : codeAny (model prog w) A (.builtin newId ⟨[.ref C], kw⟩) R ⟨h, g, d, t, os⟩ := by
  have ends := F.ends
  have inB : (Value.ref C :: bm).contains (.type B) = true := by rw [List.contains_cons, hT, F.hasB, Bool.or_true]
  have noA : (Value.ref C :: bm).contains (.type "AttributeError") = false := by rw [List.contains_cons, hT, F.noAttr]; rfl
  have noN : (Value.ref C :: bm).contains (.type "NameError") = false := by rw [List.contains_cons, hT, F.noName]; rfl
  have tiny : ([] : List Value).length ≤ sizeLine := Nat.zero_le _
  refine codeAny_builtinAt F.entry ?_
  unfold Builtin.«BaseException.__new__»
  refine wpAt_bind ?_
  show wpAt _ _ _ (stack >>= _) _ _ _
  refine wpAt_bind (wpAt_stack fun p below => wpAt_of_wpAny ?_)
  wp_walk
  refine wpAt_of_wpAny ?_
  rw [F.owner]
  repeat (first | with_reducible refine wpAny_madeHere_exc F.canon hC ?_ | with_reducible refine wpAny_loadPart_at hC ?_ | (with_reducible refine wpAny_isSubtype_exc hC ?_; first | rw [inB] | rw [noA] | rw [noN]) | wp_step)
  show R _ _
  rw [Heap.size_push]
  exact z
theorem kw_type_call (F : ExcBaseFacts B newId initId bmB) (hT : ∀ X : String, bm.contains (.type X) = bmB.contains (.type X)) {Q : Fin → Shared → Prop} (hC : h.get? C = some (excClassObj nm q C N bs bm hdct sn sub ab col dd k0 k1 k2 k3 k5 newId))
    (li : W.Looks (model prog w) h (typeLookup (.ref C) "__init__") (some (.ref fI))) (lb : ∀ self, W.Looks (model prog w) h (bindSpecial (.ref fI) self) (.ref fI, [self]))
    (run : codeAny (model prog w) A (.call (.ref fI) ⟨[.ref (h.objs.size + 1)], kw⟩) (fun r s' => match r with | .ok (.ret v) => v = .none ∧ Q (.done (.ret (.ref (h.objs.size + 1)))) s' | .ok _ => False | .error e => E e s')
      ⟨(h.push (W.kdv_tup [])).push (excO C h.objs.size), g, d, t, os⟩) : wpAny (model prog w) A (Builtin.«type.__call__» ⟨[.ref C], kw⟩) Q E ⟨h, g, d, t, os⟩ := by
  repeat (first | with_reducible refine wpAny_loadPart_at hC ?_ | with_reducible refine wpAny_madeBy_exc hC ?_ | wp_step)
  refine codeAny_call_builtin_code (Code.quiet_builtin _ F.quiet) (kw_check_new F hT hC (kw_new F hT hC ?_))
  have up : ∀ b o, h.get? b = some o → ((h.push (W.kdv_tup [])).push (excO C h.objs.size)).get? b = some o := fun _ _ y => Heap.get?_push_of_some _ (Heap.get?_push_of_some _ y)
  have hC2 := up _ _ hC
  have hE : ((h.push (W.kdv_tup [])).push (excO C h.objs.size)).get? (h.objs.size + 1) = some (excO C h.objs.size) := by heap_get
  have isC : (Value.ref C :: bm).contains (.ref C) = true := by simp
  have li2 := li.keeps up
  have lb2 := (lb (.ref (h.objs.size + 1))).keeps up
  show wpAny _ _ _ _ _ _
  unfold isInstance
  repeat (first | with_reducible refine wpAny_loadPart_at hE ?_ | (with_reducible refine wpAny_isSubtype_exc hC2 ?_; rw [isC]) | wp_step)
  show wpAny _ _ (typeLookup (.ref C) _) _ _ _
  refine li2.at (wpAny_holding (wpAny_bind (lb2.at (wpAny_bind (wpAny_call (codeAny_mono run fun r s' y => ?_))))))
  rcases r with e | (v | _ | _ | _) <;> first | exact y | exact y.elim | skip
  obtain ⟨y0, y⟩ := y
  subst y0
  first
    | exact wpAny_pure (wpAny_pure y)
    | (wp_walk; exact y)
theorem kw_call (F : ExcBaseFacts B newId initId bmB) (hT : ∀ X : String, bm.contains (.type X) = bmB.contains (.type X)) (hC : h.get? C = some (excClassObj nm q C N bs bm hdct sn sub ab col dd k0 k1 k2 k3 k5 newId))
    (li : W.Looks (model prog w) h (typeLookup (.ref C) "__init__") (some (.ref fI))) (lb : ∀ self, W.Looks (model prog w) h (bindSpecial (.ref fI) self) (.ref fI, [self]))
    (run : codeAny (model prog w) (A.under (.builtin "type.__call__" ⟨[.ref C], kw⟩)) (.call (.ref fI) ⟨[.ref (h.objs.size + 1)], kw⟩) (W.InitBack (h.objs.size + 1) R) ⟨(h.push (W.kdv_tup [])).push (excO C h.objs.size), g, d, t, os⟩) :
    codeAny (model prog w) A (.call (.ref C) ⟨[], kw⟩) R ⟨h, g, d, t, os⟩ := by
  have c1 := tc_lookup
  have c2 := tc_bind (.ref C)
  have ty : (⟨h, g, d, t, os⟩ : Shared).TypeIs (.ref C) "type" := ⟨_, hC, rfl⟩
  refine codeAny_of_tree ?_
  show wpAny _ _ (callAny (.ref C) _) _ _ _
  repeat (any_goals (first | assumption | with_reducible refine wpAny_loadPart_at hC ?_ | wp_step))
  refine ⟨rfl, codeAny_call_builtin_at (Code.quiet_builtin _ (by decide +kernel)) entry_typeCall (wpAny_check_type_call_sub hC (kw_type_call F hT hC li lb ?_))⟩
  refine codeAny_mono run fun r s' y => ?_
  rcases r with e | (v | _ | _ | _) <;> exact y
end
end HSK
end PySem
namespace HS
open PySem PySem.Spec PyProof.Rows L2
/-- C(k = v) as a value -/
def tNewK (C : Addr) (n : Nat) (sp : Sp) (gV : List V → List V → List V) (tk : TA) : TE := fun σ H Q => tk σ H fun zs H1 => zs.length = n ∧ ∀ a, H1 a = none → sp (gV [.ref a] zs) (upd H1 a (exo a C none)) (fun v H2 => v = .non ∧ Q (.ref a) H2) (fun _ _ _ => False)
section
variable {X : Cx} {CX : CXT} {x : Str} {C fI : Addr} {k : Nat} {fd : FuncData} {ps ks : List Str} {sp : Sp} {kws : List Keyword} {tk : TA} {p pos : Pos} {g : List Value → List Value → List Value} {gV : List V → List V → List V}
theorem pe_newK (T : OexC X.K C) (iC : PySem.W.findIn X.K (.ref C) "__init__" = some (some (.ref fI))) (tI : PySem.W.typeIn X.K (.ref fI) = some (.type "function"))
    (F1 : FnOk X.prog X.w X.K X.mg X.base CX k fI fd ps sp) (hr : Room (k + 1) X.A) (hb : KBn X.K fd ps 1 ks g gV) (hx : Passes CX X (fun _ _ _ => False)) (hg : Gl X x) (hm : X.mg x = some (.ref C)) (hkw : PK X kws tk)
    (hall : (backToKw pos (keywordEach kws X.env)).all (·.1.isSome) = true := by rfl) (hks : (backToKw pos (keywordEach kws X.env)).filterMap (·.1) = ks := by rfl) (hdb : (x == ("__debug__" : Str)) = false := by decide)
    (hpl : ((backTo pos (starEach [] X.env)).any (·.1) || (backToKw pos (keywordEach kws X.env)).any (·.1.isNone)) = false := by rfl) : PE X (.Call (.Name x p) [] kws pos) (tNewK C ks.length sp gV tk) := by
  refine ⟨fun pins s σ H Q I hw => wpAny_Call_Name_kw (ld_glob I hg hm (PySem.W.callWith_KW0 (h₀ := X.base) I.ok.mod.kin T.kC hall (thn (hkw.run pos pins s σ H _ I hw) fun ws s1 ⟨zs, H1, I1, rz, lz, q1⟩ => ⟨I1.kIn, ?_⟩) hpl) hdb)⟩
  obtain ⟨nm, qn, N, bs, bm, sn, sub, ab, col, dd, k0, k1, k2, k3, k5, hC, hbm⟩ := T.cls
  rw [hks]
  obtain ⟨hp, g0, dr, t, os⟩ := s1
  have le1 : hp.objs.size ≤ hp.objs.size + 1 := by omega
  have kept : ∀ b o, hp.get? b = some o → ((hp.push (PySem.W.kdv_tup [])).push (PySem.HandSPX.excO C hp.objs.size)).get? b = some o := fun _ _ z => Heap.get?_push_of_some _ (Heap.get?_push_of_some _ z)
  have at1 : ((hp.push (PySem.W.kdv_tup [])).push (PySem.HandSPX.excO C hp.objs.size)).get? (hp.objs.size + 1) = some (PySem.HandSPX.excO C hp.objs.size) := by heap_get
  have J : Inv X pins σ (upd H1 (hp.objs.size + 1) (exo (hp.objs.size + 1) C none)) ⟨(hp.push (PySem.W.kdv_tup [])).push (PySem.HandSPX.excO C hp.objs.size), g0, dr, t, os⟩ := I1.laid (t' := t) kept le1 (exo_ok at1)
  have q2 := q1 (hp.objs.size + 1) (I1.hok.fresh le1)
  have r1 : Vals [V.ref (hp.objs.size + 1)] [Value.ref (hp.objs.size + 1)] := .cons rfl .nil
  have bnd := hb.to _ [Value.ref (hp.objs.size + 1)] ws J.kIn rfl (rz.length.symm.trans lz)
  refine wpAny_call (PySem.HSK.kw_call F.excBase_ValueError (fun Y => PySem.HandSPX.refsVE_contains Y bm hbm) (I1.kIn _ _ hC) (PySem.W.looks_findIn I1.kIn iC) (fun self => PySem.W.bind_fn I1.kIn self tI)
    (codeAny_mono (F1.run _ X.stack _ _ ⟨[Value.ref (hp.objs.size + 1)], ks.zip ws⟩ _ _ _ _ (hr.make C [] (ks.zip ws)) (J.env0.make C [] (ks.zip ws)) bnd (hb.rel r1 rz) q2) fun r s' back => ?_))
  match r, back with
  | .error er, back => exact hx pins σ _ _ er s' J back
  | .ok (.ret u), back =>
    obtain ⟨v, H', J', rv, ev, q3⟩ := J.after back
    subst ev
    exact ⟨rv, ⟨V.ref (hp.objs.size + 1), H', J', rfl, q3⟩⟩
end
section
variable {σ : L2.St} {H : Hp} {Q : VK} {C : Addr} {sp : Sp} {m : Nat} {gV : List V → List V → List V} {tk : TA}
theorem newK (h : tk σ H fun zs H1 => zs.length = m ∧ ∀ a, H1 a = none → sp (gV [.ref a] zs) (upd H1 a (exo a C none)) (fun v H2 => v = .non ∧ Q (.ref a) H2) (fun _ _ _ => False)) : tNewK C m sp gV tk σ H Q := h
end
end HS
namespace HS
open PySem PySem.Spec PyProof.Rows L2
/-! ### own exceptions that are raised and caught -/
section
variable {C a : Addr} {sp : Sp} {dvs : List V} {ta : TA} {te : TE} {σ : L2.St} {H H1 H2 : Hp} {R : XK} {Q : VK} {d : Addr} {u o : HO}
theorem mkO (h : ta σ H fun vs H1 => vs.length ≤ 1000 ∧ ∀ a, H1 a = none → sp (.ref a :: (vs ++ dvs)) (upd H1 a (exo a C none))
    (fun v H2 => v = .non ∧ ∃ (d : Addr) (fs : List (Str × V)), H2 a = some (exo a C (some d)) ∧ H2 d = some (exd d fs) ∧ H1 d = none ∧ R (.ref C) (some d) (upd (del H2 a) d (.xd fs))) (fun _ _ _ => False)) : tMkO C sp dvs ta σ H R := h
theorem callS {E : L2.St → XK} (h : ta σ H fun vs H1 => sp vs H1 Q (E σ)) : tCallS sp E ta σ H Q := h
theorem xf {cls : Value} {dx : Option Addr} {f : Str} (h : te σ H fun x H1 => x = .ref a ∧ cls = .ref C ∧ ∃ (dd : Addr) (fs : List (Str × V)) (v : V), dx = some dd ∧ H1 dd = some (.xd fs) ∧ fs.lookup f = some v ∧ Q v H1) : tXf a cls dx C f te σ H Q := h
/-- what stood ahead of the new exception a stands, and its dict at d besides -/
theorem Keep.exc (k : Keep (fun x => x = a) (upd H a o) H2) (ha : H a = none) (hd : H d = none) : Keep (fun _ => False) H (upd (del H2 a) d u) := fun b q e _ => by
  have hba : b ≠ a := ne_of_none e ha
  rw [upd_ne (ne_of_none e hd)]
  show (if b = a then none else H2 b) = some q
  rw [if_neg hba]
  exact k b q (by rw [upd_ne hba]; exact e) hba
/-- one value, put into a new exception whose maker holds the usual promise -/
theorem mk1 {K : PySem.W.Frag} {w : V}
    (hsp : ∀ (H' : Hp) (Q' : VK) (E' : XK) (b : Addr), OexC K C → PySem.W.findIn K (.ref C) "value" = some none → H' b = some (exo b C none) →
      (∀ H3 d, HS.Keep (fun x => x = b) H' H3 → H' d = none → d ≠ b → H3 b = some (exo b C (some d)) → H3 d = some (exd d [("value", w)]) → Q' .non H3) → sp [.ref b, w] H' Q' E')
    (T1 : OexC K C) (hv : PySem.W.findIn K (.ref C) "value" = some none)
    (h : ∀ H' d, Keep (fun _ => False) H H' → H d = none → H' d = some (.xd [("value", w)]) → R (.ref C) (some d) H') :
    [w].length ≤ 1000 ∧ ∀ a, H a = none → sp (.ref a :: ([w] ++ [])) (upd H a (exo a C none))
      (fun v H2 => v = .non ∧ ∃ (d : Addr) (fs : List (Str × V)), H2 a = some (exo a C (some d)) ∧ H2 d = some (exd d fs) ∧ H d = none ∧ R (.ref C) (some d) (upd (del H2 a) d (.xd fs))) (fun _ _ _ => False) :=
  ⟨show 1 ≤ 1000 by decide, fun a ha => hsp _ _ _ a T1 hv upd_same fun H3 d k hd hne e1 e2 =>
    have hd' : H d = none := by rw [upd_ne hne] at hd; exact hd
    ⟨rfl, d, _, e1, e2, hd', h _ d (k.exc ha hd') hd' upd_same⟩⟩
end
end HS
/-! Defs that are called while nothing is being shown (no repr stands on the stack), so that they may call repr of a list. -/
namespace HS
open PySem PySem.Spec PyProof.Rows L2
/-- a def's promise where no repr is under way -/
structure FnG (Pg : Program) (wd : World) (K : PySem.W.Frag) (mg : Str → Option Value) (base : Heap) (C : CXT) (n : Nat) (f : Addr) (fd : FuncData) (ps : List Str) (sp : Sp) : Prop where
  len : ∀ vs H Q E, sp vs H Q E → vs.length = ps.length
  go : ∀ (B : Around) (o : List Env) (s : Shared) (H : Hp) (ar : Args) (us : List Value) (vs : List V) (Q : VK) (E : XK), B.guards = some [] → Room n B → Env0 Pg wd K mg base B o s H →
    BindsTo s fd ar (ps.zip us) → Vals vs us → sp vs H Q E → codeAny (model Pg wd) B (.call (.ref f) ar) (CR C o Pg wd H s Q E) s
section
variable {Pg : Program} {wd : World} {K : PySem.W.Frag} {mg : Str → Option Value} {base : Heap} {C : CXT} {n : Nat} {f : Addr} {fd : FuncData} {ps : List Str} {sp : Sp}
/-- a finished body's end is the call's end -/
theorem g_end {N : List Str} {q : Str} {sc : Scope} {cd : Value} {B : Around} {o : List Env} {s : Shared} {H : Hp} {E : XK} {Q : VK} {x : Cx} (hx : x = cxOf C Pg wd K mg base N q sc f cd B o s H E) (fl : Flow) {s' : Shared} :
    SP x [] { nx := fun _ H' => Q .non H', rt := Q } fl s' → CR C o Pg wd H s Q E (.ok (.ret (match fl with | .ret v => v | _ => .none))) s' := by
  subst hx
  intro h
  cases fl
  case ret u => obtain ⟨v, st, H', J, rv, y⟩ := h; exact ⟨v, H', J.os, J.bare, J.base, J.hok, rv, y⟩
  case next => obtain ⟨st, H', J, y⟩ := h; exact ⟨.non, H', J.os, J.bare, J.base, J.hok, rfl, y⟩
  all_goals exact h.elim fun _ z => z.elim fun _ z => z.2.elim
theorem Fun.okG {x qn : Str} {st : Stmt} {N : List Str} (F : L2.Fun K x qn st f fd) (S : FnScope N ps (defScope st)) (len : ∀ vs H Q E, sp vs H Q E → vs.length = ps.length)
    (hb : ∀ (cd : Value) (B : Around) (o : List Env) (s : Shared) (H : Hp) (vs : List V) (Q : VK) (E : XK), B.guards = some [] → Room n (B.deeper (envOfC qn (defScope st) s.heap.objs.size f cd)) → sp vs H Q E →
      ∃ t, PSs (cxOf L2.CX0 Pg wd K mg base N qn (defScope st) f cd B o s H E).nox (defBody st) t ∧ t { nx := fun _ H' => Q .non H', rt := Q } (start N vs) H) : FnG Pg wd K mg base L2.CX0 (n + 1) f fd ps sp := by
  obtain ⟨_, _, _, _, _, _, cd, _, _, rfl, lk, hcd⟩ := F.ex
  refine ⟨len, fun B o s H ar us vs Q E hg hr e0 bd rv hs => ?_⟩
  have kin : K.In s.heap := e0.mod.kin.keeps fun b u e => (e0.bs b u e).1
  have kinds : ∀ y ∈ ps.zip us, (defScope st).names.lookup y.1 = some .local ∨ ((defScope st).names.lookup y.1 = some .cell ∧ ((cellsFrom (s.heap.objs.size + 1) (defScope st).names []).lookup y.1).isSome = true) := by
    rintro ⟨z, v⟩ hy
    exact (S.par z (List.of_mem_zip hy).1).elim .inl fun c => .inr ⟨c, PySem.W.cellsFrom_some _ _ _ (.inl c)⟩
  refine codeAny_call_function hr.depth (kin _ _ lk) rfl S.co S.gen rfl (PySem.W.codeRec_of kin hcd) (bd _ _ _ _ (wpAny_newFunctionEnv_cells S.kind kinds fun _ he s1 made => ?_))
  subst he
  obtain ⟨t, ht, hq⟩ := hb cd B o s H vs Q E hg (hr.deeper _) hs
  have start0 := inv_start (CX := L2.CX0) (E := E) (qual := qn) (cd := cd) (f := f) S hr.hd e0 (len _ _ _ _ hs) rv made
  exact ⟨(e0.mod.nolimit.keeps fun b u e => (e0.bs b u e).1).keeps made.toInCall.keep, codeAny_func (wpAny_mono (ht.nox.run [] s1 _ H _ start0 hq) (fun fl s' => g_end rfl fl) fun _ _ h => h)⟩
end
/-! ### calls -/
/-- the call of a def, whichever way its arguments come -/
theorem after_call {X : Cx} {C : CXT} {E : XK} {pins : List (Addr × Obj)} {σ : L2.St} {H : Hp} {s : Shared} {Q : VK} {f : Addr} {us : List Value} {kw : List (Str × Value)} (hx : Passes C X E) (I : Inv X pins σ H s)
    (h : codeAny (model X.prog X.w) X.A (.call (.ref f) ⟨us, kw⟩) (CR C X.stack X.prog X.w H s Q E) s) : wpAny (model X.prog X.w) X.A (call (.ref f) us kw) (EP X pins σ Q) X.xe s :=
  wpAny_call (codeAny_mono h fun r s' y => match r, y with
    | .error e, y => hx pins σ H s e s' I y
    | .ok (.ret _), y => I.after y)
/-- how a call with keywords binds, where the numbers of its arguments are written -/
structure KBX (K : PySem.W.Frag) (fd : FuncData) (ps : List Str) (n : Nat) (ks : List Str) (g : List Value → List Value → List Value) (gV : List V → List V → List V) : Prop where
  to : ∀ (s : Shared) (us ws : List Value), us.length = n → ws.length = ks.length → BindsTo s fd ⟨us, ks.zip ws⟩ (ps.zip (g us ws))
  rel : ∀ {vs : List V} {us : List Value} {zs : List V} {ws : List Value}, Vals vs us → Vals zs ws → Vals (gV vs zs) (g us ws)
def tCallN (n m : Nat) (sp : Sp) (gV : List V → List V → List V) (E : XK) (t tk : TA) : TE := fun σ H Q => t σ H fun vs H1 => tk σ H1 fun zs H2 => vs.length = n ∧ zs.length = m ∧ sp (gV vs zs) H2 Q E
theorem relAt : ∀ {vs : List V} {us : List Value} (_ : Vals vs us) (i : Nat), RelV (vs.getD i .non) (us.getD i .none)
  | [], _, r, i => by cases r; exact rfl
  | _ :: _, _, r, 0 => by cases r with | cons a _ => exact a
  | _ :: _, _, r, i + 1 => by cases r with | cons _ b => exact relAt b i
section
variable {X : Cx} {C : CXT} {n m : Nat} {f : Addr} {fd : FuncData} {ps ks : List Str} {sp : Sp} {E : XK} {x : Str} {p q : Pos} {e : Expr} {es : List Expr} {kws : List Keyword} {t tk : TA} {g : List Value → List Value → List Value} {gV : List V → List V → List V}
theorem pe_callG (hG : X.A.guards = some []) (F : FnG X.prog X.w X.K X.mg X.base C n f fd ps sp) (hr : Room n X.A) (gl : Gl X x) (mf : X.mg x = some (.ref f)) (kf : PySem.W.keepIn X.K (.ref f) = true) (bd : Binds X.K fd ps []) (hx : Passes C X E) (ha : PA X (e :: es) t)
    (h1 : (x == ("__debug__" : Str)) = false := by decide) (h2 : starEach (e :: es) X.env = (false, eval e X.env) :: starEach es X.env := by rfl) (h3 : (backTo q (starEach es X.env)).any (·.1) = false := by rfl) :
    PE X (.Call (.Name x p) (e :: es) [] q) (tCall sp [] E t) := by
  constructor
  intro pins s σ H Q I h
  refine wpAny_Call_Name_kw (ld_glob I gl mf (PySem.W.callWith_K (h₀ := X.base) I.ok.mod.kin kf (thn (ha.run q pins s σ H _ I h) fun us s1 ⟨vs, H1, I1, r, y⟩ => ⟨I1.kIn, ?_⟩) h2 h3) h1)
  have y : sp (vs ++ []) H1 Q E := y
  rw [List.append_nil] at y
  have hl : (us ++ []).length = ps.length := by rw [List.append_nil, ← r.length]; exact F.len _ _ _ _ y
  exact after_call hx I1 (F.go X.A X.stack s1 H1 _ (us ++ []) vs Q E hG hr I1.env0 (bd s1 us I1.kIn hl) (by rw [List.append_nil]; exact r) y)
/-- f(e, .., k = v, ..), f(k = v, ..) -/
theorem kw_to (hb : KBX X.K fd ps n ks g gV) {pins : List (Addr × Obj)} {σ : L2.St} {H : Hp} {s : Shared} {Q : VK} {vs zs : List V} {us ws : List Value}
    (run : ∀ (bs : List Value) (bv : List V), BindsTo s fd ⟨us, ks.zip ws⟩ (ps.zip bs) → Vals bv bs → sp bv H Q E → codeAny (model X.prog X.w) X.A (.call (.ref f) ⟨us, ks.zip ws⟩) (CR C X.stack X.prog X.w H s Q E) s)
    (hx : Passes C X E) (I : Inv X pins σ H s) (r : Vals vs us) (rz : Vals zs ws) (l1 : vs.length = n) (l2 : zs.length = ks.length) (y : sp (gV vs zs) H Q E) : wpAny (model X.prog X.w) X.A (call (.ref f) us (ks.zip ws)) (EP X pins σ Q) X.xe s :=
  after_call hx I (run _ _ (hb.to s us ws (by rw [← r.length]; exact l1) (by rw [← rz.length]; exact l2)) (hb.rel r rz) y)
theorem pe_kwG (hG : X.A.guards = some []) (F : FnG X.prog X.w X.K X.mg X.base C m f fd ps sp) (hr : Room m X.A) (gl : Gl X x) (mf : X.mg x = some (.ref f)) (kf : PySem.W.keepIn X.K (.ref f) = true) (hb : KBX X.K fd ps n ks g gV) (hx : Passes C X E) (ha : PA X (e :: es) t) (hk : PK X kws tk)
    (h0 : (backToKw q (keywordEach kws X.env)).all (·.1.isSome) = true := by rfl) (hks : (backToKw q (keywordEach kws X.env)).filterMap (·.1) = ks := by rfl) (h1 : (x == ("__debug__" : Str)) = false := by decide) (h2 : starEach (e :: es) X.env = (false, eval e X.env) :: starEach es X.env := by rfl)
    (h3 : ((backTo q (starEach (e :: es) X.env)).any (·.1) || (backToKw q (keywordEach kws X.env)).any (·.1.isNone)) = false := by rfl) : PE X (.Call (.Name x p) (e :: es) kws q) (tCallN n ks.length sp gV E t tk) := by
  constructor
  intro pins s σ H Q I h
  refine wpAny_Call_Name_kw (ld_glob I gl mf (PySem.W.callWith_KW (h₀ := X.base) I.ok.mod.kin kf h0 (thn (ha.run q pins s σ H _ I h) fun us s1 ⟨vs, H1, I1, r, y⟩ => thn (hk.run q pins s1 σ H1 _ I1 y) fun ws s2 ⟨zs, H2, I2, rz, l1, l2, y2⟩ => ⟨I2.kIn, ?_⟩) h3 h2) h1)
  rw [hks]
  exact kw_to hb (fun bs bv b1 b2 b3 => F.go X.A X.stack s2 H2 _ bs bv Q E hG hr I2.env0 b1 b2 b3) hx I2 r rz l1 l2 y2
theorem pe_kwG0 (hG : X.A.guards = some []) (F : FnG X.prog X.w X.K X.mg X.base C m f fd ps sp) (hr : Room m X.A) (gl : Gl X x) (mf : X.mg x = some (.ref f)) (kf : PySem.W.keepIn X.K (.ref f) = true) (hb : KBX X.K fd ps 0 ks g gV) (hx : Passes C X E) (hk : PK X kws tk)
    (h0 : (backToKw q (keywordEach kws X.env)).all (·.1.isSome) = true := by rfl) (hks : (backToKw q (keywordEach kws X.env)).filterMap (·.1) = ks := by rfl) (h1 : (x == ("__debug__" : Str)) = false := by decide)
    (h3 : ((backTo q (starEach [] X.env)).any (·.1) || (backToKw q (keywordEach kws X.env)).any (·.1.isNone)) = false := by rfl) : PE X (.Call (.Name x p) [] kws q) (tCallN 0 ks.length sp gV E tNil tk) := by
  constructor
  intro pins s σ H Q I h
  refine wpAny_Call_Name_kw (ld_glob I gl mf (PySem.W.callWith_KW0 (h₀ := X.base) I.ok.mod.kin kf h0 (thn (hk.run q pins s σ H _ I h) fun ws s2 ⟨zs, H2, I2, rz, l1, l2, y2⟩ => ⟨I2.kIn, ?_⟩) h3) h1)
  rw [hks]
  exact kw_to hb (fun bs bv b1 b2 b3 => F.go X.A X.stack s2 H2 _ bs bv Q E hG hr I2.env0 b1 b2 b3) hx I2 .nil rz rfl l2 y2
/-- the same of a def that may be called anywhere -/
theorem pe_kw (F : FnOk X.prog X.w X.K X.mg X.base C m f fd ps sp) (hr : Room m X.A) (gl : Gl X x) (mf : X.mg x = some (.ref f)) (kf : PySem.W.keepIn X.K (.ref f) = true) (hb : KBX X.K fd ps n ks g gV) (hx : Passes C X E) (ha : PA X (e :: es) t) (hk : PK X kws tk)
    (h0 : (backToKw q (keywordEach kws X.env)).all (·.1.isSome) = true := by rfl) (hks : (backToKw q (keywordEach kws X.env)).filterMap (·.1) = ks := by rfl) (h1 : (x == ("__debug__" : Str)) = false := by decide) (h2 : starEach (e :: es) X.env = (false, eval e X.env) :: starEach es X.env := by rfl)
    (h3 : ((backTo q (starEach (e :: es) X.env)).any (·.1) || (backToKw q (keywordEach kws X.env)).any (·.1.isNone)) = false := by rfl) : PE X (.Call (.Name x p) (e :: es) kws q) (tCallN n ks.length sp gV E t tk) := by
  constructor
  intro pins s σ H Q I h
  refine wpAny_Call_Name_kw (ld_glob I gl mf (PySem.W.callWith_KW (h₀ := X.base) I.ok.mod.kin kf h0 (thn (ha.run q pins s σ H _ I h) fun us s1 ⟨vs, H1, I1, r, y⟩ => thn (hk.run q pins s1 σ H1 _ I1 y) fun ws s2 ⟨zs, H2, I2, rz, l1, l2, y2⟩ => ⟨I2.kIn, ?_⟩) h3 h2) h1)
  rw [hks]
  exact kw_to hb (fun bs bv b1 b2 b3 => F.run X.A X.stack s2 H2 _ bs bv Q E hr I2.env0 b1 b2 b3) hx I2 r rz l1 l2 y2
theorem pe_kw0 (F : FnOk X.prog X.w X.K X.mg X.base C m f fd ps sp) (hr : Room m X.A) (gl : Gl X x) (mf : X.mg x = some (.ref f)) (kf : PySem.W.keepIn X.K (.ref f) = true) (hb : KBX X.K fd ps 0 ks g gV) (hx : Passes C X E) (hk : PK X kws tk)
    (h0 : (backToKw q (keywordEach kws X.env)).all (·.1.isSome) = true := by rfl) (hks : (backToKw q (keywordEach kws X.env)).filterMap (·.1) = ks := by rfl) (h1 : (x == ("__debug__" : Str)) = false := by decide)
    (h3 : ((backTo q (starEach [] X.env)).any (·.1) || (backToKw q (keywordEach kws X.env)).any (·.1.isNone)) = false := by rfl) : PE X (.Call (.Name x p) [] kws q) (tCallN 0 ks.length sp gV E tNil tk) := by
  constructor
  intro pins s σ H Q I h
  refine wpAny_Call_Name_kw (ld_glob I gl mf (PySem.W.callWith_KW0 (h₀ := X.base) I.ok.mod.kin kf h0 (thn (hk.run q pins s σ H _ I h) fun ws s2 ⟨zs, H2, I2, rz, l1, l2, y2⟩ => ⟨I2.kIn, ?_⟩) h3) h1)
  rw [hks]
  exact kw_to hb (fun bs bv b1 b2 b3 => F.run X.A X.stack s2 H2 _ bs bv Q E hr I2.env0 b1 b2 b3) hx I2 .nil rz rfl l2 y2
end
section
variable {σ : L2.St} {H : Hp} {Q : VK} {t tk : TA} {sp : Sp} {gV : List V → List V → List V} {E : XK} {n m : Nat}
theorem caln (h : t σ H fun vs H1 => tk σ H1 fun zs H2 => vs.length = n ∧ zs.length = m ∧ sp (gV vs zs) H2 Q E) : tCallN n m sp gV E t tk σ H Q := h
theorem lnn {a b c d : Nat} {A : Prop} (e : a = c) (f : b = d) (h : A) : a = c ∧ b = d ∧ A := ⟨e, f, h⟩
end
/-! ### repr -/
mutual
/-- data of ints below 2 ^ 200, bools, None, in lists and tuples -/
def tame : PyData → Bool
  | .none | .bool _ => true
  | .int i => decide (i.natAbs < 2 ^ 200)
  | .list ds | .tuple ds => tameAll ds
  | .str x => PyData.showable (.str x) && PyData.leavesShort 201 (.str x)
  | _ => false
def tameAll : List PyData → Bool
  | [] => true
  | d :: ds => tame d && tameAll ds
end
theorem tame_int {i : Int} (h : i.natAbs < 2 ^ 200) : i.natAbs.log2 < 200 := by
  by_cases z : i.natAbs = 0
  · rw [z]; decide
  · exact (Nat.log2_lt z).mpr h
mutual
theorem tame_ok : ∀ d : PyData, tame d = true → d.showable = true ∧ d.hasDict = false ∧ d.leavesShort 201 = true
  | .none, _ => ⟨rfl, rfl, rfl⟩
  | .bool _, _ => ⟨rfl, rfl, rfl⟩
  | .int i, h => by
    have h' := tame_int (of_decide_eq_true (by simpa only [tame] using h))
    refine ⟨by simp only [PyData.showable]; exact decide_eq_true (by omega), rfl, ?_⟩
    simp only [PyData.leavesShort]
    exact decide_eq_true (by show (Str.ofString (toString i)).length ≤ 201; rw [PySem.ofString_length]; exact PySem.int_text_length_le (by decide) h')
  | .str x, h => by
    have h' : PyData.showable (.str x) = true ∧ PyData.leavesShort 201 (.str x) = true := by simpa only [tame, Bool.and_eq_true] using h
    exact ⟨h'.1, rfl, h'.2⟩
  | .dict _, h => by simp [tame] at h
  | .list ds, h => by
    have := tame_okAll ds (by simpa only [tame] using h)
    simpa only [PyData.showable, PyData.hasDict, PyData.leavesShort] using this
  | .tuple ds, h => by
    have := tame_okAll ds (by simpa only [tame] using h)
    simpa only [PyData.showable, PyData.hasDict, PyData.leavesShort] using this
theorem tame_okAll : ∀ ds : List PyData, tameAll ds = true → PyData.showableAll ds = true ∧ PyData.hasDictAll ds = false ∧ PyData.leavesShortAll 201 ds = true
  | [], _ => ⟨rfl, rfl, rfl⟩
  | d :: ds, h => by
    have h' : tame d = true ∧ tameAll ds = true := by simpa only [tameAll, Bool.and_eq_true] using h
    obtain ⟨a, b, c⟩ := tame_ok d h'.1
    obtain ⟨a', b', c'⟩ := tame_okAll ds h'.2
    simp only [PyData.showableAll, PyData.hasDictAll, PyData.leavesShortAll, a, b, c, a', b', c']
    decide
end
/-- repr of a list or a tuple -/
def rRepr (K : PySem.W.Frag) : List V → Hp → VK → Prop := fun vs H Q => ∃ a d, vs = [.ref a] ∧ Dp K H (.ref a) d ∧ tame d = true ∧ d.depth ≤ 60 ∧ d.bulk ≤ 60000 ∧ Q (.str d.shown) H
theorem krepr (K : PySem.W.Frag) {X : Cx} {k : Nat} (hG : X.A.guards = some []) (hr : Room k X.A) (h : X.K = K := by rfl) : CallR X (.builtin "repr") (rRepr K) := by
  subst h
  intro pins s σ H xs us Q I r hq
  obtain ⟨a, d, rfl, hd, ht, hdp, hb, q⟩ := hq
  obtain ⟨u, rfl, ru⟩ := vals1 r
  obtain rfl : u = Value.ref a := ru
  obtain ⟨as, rd⟩ := Dp.reads I d _ _ hd rfl
  obtain ⟨o1, o2, o3⟩ := tame_ok d ht
  have fits := PyData.shown_le_bulk 201 (by decide) d o3
  have un := hr.units
  refine repr_of_reads' rd o1 (PyData.noDict_hsm o2) hG (by omega) (fun _ _ e => e) (fun h' u tk hk => ⟨.str d.shown, H, ?_, ⟨u, rfl⟩, q⟩) (by rw [sizeLine_eq]; omega)
  exact I.kept hk
end HS
/-! sorted of ints; lists in descending order. -/
namespace HS
open PySem PySem.Spec PyProof.Rows L2
section
variable {X : Cx} (K : PySem.W.Frag)
end
/-- in descending order -/
def desc (ls : List Int) : List Int := ls.mergeSort fun a b => decide (b ≤ a)
theorem desc_perm (ls : List Int) : (desc ls).Perm ls := List.mergeSort_perm ls _
theorem desc_pair (ls : List Int) : (desc ls).Pairwise (· ≥ ·) := by
  have h := List.pairwise_mergeSort (le := fun a b : Int => decide (b ≤ a)) (fun a b c h1 h2 => by simp only [decide_eq_true_eq] at *; omega) (fun a b => by simp only [Bool.or_eq_true, decide_eq_true_eq]; omega) ls
  exact h.imp fun h => by simpa using h
theorem same_desc : ∀ {xs ys : List Int}, xs.Perm ys → xs.Pairwise (· ≥ ·) → ys.Pairwise (· ≥ ·) → xs = ys
  | [], ys, p, _, _ => (List.nil_perm.mp p).symm ▸ rfl
  | x :: xs, [], p, _, _ => absurd (List.perm_nil.mp p) (by simp)
  | x :: xs, y :: ys, p, h1, h2 => by
    rw [List.pairwise_cons] at h1 h2
    have e : x = y := by
      have a := p.mem_iff.mp List.mem_cons_self
      have b := p.mem_iff.mpr (List.mem_cons_self (a := y) (l := ys))
      rcases List.mem_cons.mp a with a | a
      · exact a
      · rcases List.mem_cons.mp b with b | b
        · exact b.symm
        · have := h1.1 y b
          have := h2.1 x a
          omega
    subst e
    rw [same_desc (List.Perm.cons_inv p) h1.2 h2.2]
theorem desc_of {xs ys : List Int} (p : xs.Perm ys) (h : xs.Pairwise (· ≥ ·)) : xs = desc ys := same_desc (p.trans (desc_perm ys).symm) h (desc_pair ys)
theorem desc_rev {xs ys : List Int} (p : xs.Perm ys) (h : xs.Pairwise (· ≤ ·)) : xs.reverse = desc ys := desc_of ((List.reverse_perm xs).trans p) (List.pairwise_reverse.mpr h)
theorem desc_same {xs ys : List Int} (p : xs.Perm ys) : desc xs = desc ys := desc_of ((desc_perm xs).trans p) (desc_pair xs)
theorem desc_len (ls : List Int) : (desc ls).length = ls.length := (desc_perm ls).length_eq
theorem desc_mem {ls : List Int} {x : Int} : x ∈ desc ls ↔ x ∈ ls := (desc_perm ls).mem_iff
theorem desc_count (ls : List Int) (x : Int) : (desc ls).count x = ls.count x := (desc_perm ls).count_eq x
theorem desc_desc (ls : List Int) : desc (desc ls) = desc ls := desc_same (desc_perm ls)
/-- those greater than v -/
def above (ls : List Int) (v : Int) : List Int := (desc ls).filter fun x => decide (v < x)
theorem filter_none {ls : List Int} {v : Int} (h : ∀ x ∈ ls, x ≤ v) : (ls.filter fun x => decide (v < x)) = [] := by
  rw [List.filter_eq_nil_iff]
  intro x hx
  have := h x hx
  simp; omega
theorem filter_step : ∀ {D : List Int} (v : Int), D.Pairwise (· ≥ ·) → (D.filter fun x => decide (v < x)) = (D.filter fun x => decide (v + 1 < x)) ++ List.replicate (D.count (v + 1)) (v + 1)
  | [], _, _ => rfl
  | x :: r, v, h => by
    rw [List.pairwise_cons] at h
    have ih := filter_step v h.2
    by_cases c1 : v + 1 < x
    · rw [List.filter_cons_of_pos (by simp; omega), List.filter_cons_of_pos (by simp; omega), List.count_cons_of_ne (by omega), ih]
      rfl
    · have c3 : (r.filter fun x => decide (v + 1 < x)) = [] := filter_none fun y hy => by have := h.1 y hy; omega
      rw [List.filter_cons_of_neg (a := x) (p := fun x => decide (v + 1 < x)) (by simp; omega), c3]
      rw [c3] at ih
      by_cases c2 : x = v + 1
      · subst c2
        rw [List.filter_cons_of_pos (p := fun x => decide (v < x)) (decide_eq_true (show v < v + 1 by omega)), List.count_cons_self, ih, List.replicate_succ]
        rfl
      · rw [List.filter_cons_of_neg (by simp; omega), List.count_cons_of_ne (by omega), ih]
theorem above_step (ls : List Int) (v : Int) : above ls v = above ls (v + 1) ++ List.replicate (ls.count (v + 1)) (v + 1) := by
  unfold above; rw [filter_step v (desc_pair ls), desc_count]
theorem above_top {ls : List Int} {v : Int} (h : ∀ x ∈ ls, x ≤ v) : above ls v = [] := filter_none fun x hx => h x (desc_mem.mp hx)
theorem above_all {ls : List Int} (h : ∀ x ∈ ls, 1 ≤ x) : above ls 0 = desc ls := by
  unfold above
  rw [List.filter_eq_self]
  intro x hx
  have := h x (desc_mem.mp hx)
  simp; omega
theorem above_le (ls : List Int) (v : Int) : (above ls v).length ≤ ls.length := by
  rw [← desc_len ls]; exact List.length_filter_le _ _
theorem at_last {xs ys : List V} {v : V} (h : xs = ys ++ [v]) : atI xs (-1) = some v := by
  rw [h]
  unfold atI ixN
  rw [if_neg (by omega), List.length_append, List.length_singleton]
  rw [if_pos (by push_cast; omega)]
  show (ys ++ [v])[_]? = _
  rw [show (-1 + ((ys.length + 1 : Nat) : Int)).toNat = ys.length by omega]
  simp
theorem desc_nil : desc [] = [] := by
  have := desc_perm []
  exact List.perm_nil.mp this
end HS
namespace HS
open PySem PySem.Spec PyProof.Rows L2
/-- sorted(b)[::-1] -/
def revQ (K : PySem.W.Frag) (Q : VK) : VK := fun x H1 => ∃ a xs, x = .ref a ∧ SqL K H1 a xs ∧ ∀ p, H1 p = none → Q (.ref p) (upd H1 p (.lst xs.reverse))
def srvQ (K : PySem.W.Frag) (Q : VK) : List V → Hp → Prop := fun vs H1 => ∃ b ls, vs = [.ref b] ∧ SqL K H1 b (ls.map V.int) ∧ ∀ H' p, Keep (fun _ => False) H1 H' → H1 p = none → H' p = some (.lst ((desc ls).map V.int)) → Q (.ref p) H'
def tSrv (K : PySem.W.Frag) (tl : TA) : TE := fun σ H Q => tl σ H (srvQ K Q)
theorem pe_srv (K : PySem.W.Frag) {X : Cx} {E C : Expr} {tl : TA} (h : ∀ r, CallR X (.builtin "sorted") r → PE X C (tCB r tl)) (rev : ∀ te, PE X C te → PE X E (tRevL X.K te)) (hK : X.K = K := by rfl) : PE X E (tSrv K tl) := by
  subst hK
  refine ⟨fun pins s σ H Q I hq => ?_⟩
  refine (rev _ (h (fun vs H1 Q' => srvQ X.K Q vs H1 ∧ Q' = revQ X.K Q) ?_)).run pins s σ H Q I ?_
  · intro pins s σ H xs us Q' I r h2
    obtain ⟨⟨b, ls, e, hs, k⟩, rfl⟩ := h2
    refine cr_sortedI pins s σ H xs us _ I r ⟨b, ls, e, hs, fun us p hperm hpair hp => ⟨_, _, rfl, HS.sq upd_same, fun q hq => ?_⟩⟩
    have K1 : Keep (fun _ => False) H (upd H p (.lst (us.map V.int))) := Keep.new hp
    rw [← List.map_reverse, desc_rev hperm hpair]
    exact k _ q (K1.nw hq) (K1.free hq id) upd_same
  · show tl σ H fun vs H1 => srvQ X.K Q vs H1 ∧ revQ X.K Q = revQ X.K Q
    have e : (fun vs H1 => srvQ X.K Q vs H1 ∧ revQ X.K Q = revQ X.K Q) = srvQ X.K Q := by
      funext vs H1
      exact propext ⟨fun z => z.1, fun z => ⟨z, rfl⟩⟩
    rw [e]
    exact hq
theorem srv {K : PySem.W.Frag} {tl : TA} {σ : L2.St} {H : Hp} {Q : VK} (h : tl σ H fun vs H1 => ∃ b ls, vs = [.ref b] ∧ SqL K H1 b (ls.map V.int) ∧ ∀ H' p, Keep (fun _ => False) H1 H' → H1 p = none → H' p = some (.lst ((desc ls).map V.int)) → Q (.ref p) H') : tSrv K tl σ H Q := h
end HS
namespace HS
open PySem PySem.Spec PyProof.Rows L2
/-- in ascending order -/
def asc (ls : List Int) : List Int := (desc ls).reverse
theorem asc_perm (ls : List Int) : (asc ls).Perm ls := (List.reverse_perm _).trans (desc_perm ls)
theorem asc_of {xs ys : List Int} (p : xs.Perm ys) (h : xs.Pairwise (· ≤ ·)) : xs = asc ys := by
  unfold asc; rw [← desc_rev p h, List.reverse_reverse]
theorem asc_pair (ls : List Int) : (asc ls).Pairwise (· ≤ ·) := by
  unfold asc
  rw [List.pairwise_reverse]
  exact desc_pair ls
theorem asc_len (ls : List Int) : (asc ls).length = ls.length := (asc_perm ls).length_eq
theorem asc_mem {ls : List Int} {x : Int} : x ∈ asc ls ↔ x ∈ ls := (asc_perm ls).mem_iff
theorem asc_inj {xs ys : List Int} : asc xs = asc ys ↔ desc xs = desc ys := List.reverse_inj
def rAsc (K : PySem.W.Frag) : List V → Hp → VK → Prop := fun vs H Q => ∃ b ls, vs = [.ref b] ∧ SqL K H b (ls.map V.int) ∧ ∀ H' p, Keep (fun _ => False) H H' → H p = none → H' p = some (.lst ((asc ls).map V.int)) → Q (.ref p) H'
def rDesc (K : PySem.W.Frag) : List V → List V → Hp → VK → Prop := fun vs zs H Q => ∃ b ls, vs = [.ref b] ∧ zs = [.bl true] ∧ SqL K H b (ls.map V.int) ∧ ∀ H' p, Keep (fun _ => False) H H' → H p = none → H' p = some (.lst ((desc ls).map V.int)) → Q (.ref p) H'
section
variable {X : Cx} (K : PySem.W.Frag)
theorem ksort (h : X.K = K := by rfl) : CallR X (.builtin "sorted") (rAsc K) := by
  subst h
  intro pins s σ H xs us Q I r ⟨b, ls, e, hs, k⟩
  exact cr_sortedI pins s σ H xs us Q I r ⟨b, ls, e, hs, fun us p hperm hpair hp => k _ p (Keep.new hp) hp (by rw [upd_same, asc_of hperm hpair])⟩
theorem ksortR (h : X.K = K := by rfl) : CallRK X (.builtin "sorted") [Str.ofString "reverse"] (rDesc K) := by
  subst h
  intro pins s σ H xs zs us ws Q I r rz ⟨b, ls, e, ez, hs, k⟩
  exact cr_sortedRev (b := true) pins s σ H xs zs us ws Q I r rz ⟨b, ls, e, ez, hs, fun us p hperm hpair hp => k _ p (Keep.new hp) hp (by rw [upd_same, desc_of hperm hpair])⟩
theorem kiz {tg l : Expr} {tl : TA} (p : PI X tg l (iZip X.K tl)) (h : X.K = K := by rfl) : PI X tg l (iZip K tl) := h ▸ p
theorem kcnt (h : X.K = K := by rfl) : MtR X "list.count" (rCntI K) := h ▸ mt_lcount
theorem korT {E : Expr} {ta tb : TE} (p : PE X E (tOrT X.K ta tb)) (h : X.K = K := by rfl) : PE X E (tOrT K ta tb) := h ▸ p
end
section
variable {σ : L2.St} {H : Hp} {Q : VK} {K : PySem.W.Frag}
theorem ckw {r : List V → List V → Hp → VK → Prop} {t tk : TA} (h : t σ H fun vs H1 => tk σ H1 fun zs H2 => r vs zs H2 Q) : tCKw r t tk σ H Q := h
theorem izip {tl : TA} {R : It → Hp → Prop} (h : tl σ H fun vs H1 => ∃ a b xs ys, vs = [.ref a, .ref b] ∧ SqL K H1 a xs ∧ SqL K H1 b ys ∧ R (Itz K a b) H1) : iZip K tl σ H R := h
theorem lcn {p : Addr} {ns : List Int} {k : Int} (h : SqL K H p (ns.map V.int)) (q : Q (.int (ns.count k : Nat)) H) : rCntI K (.ref p) [.int k] H Q := ⟨p, ns, k, rfl, rfl, h, q⟩
theorem orT {ta tb : TE} (h : ta σ H fun x H1 => ∃ k, TruV K x H1 k ∧ if k = true then Q x H1 else tb σ H1 Q) : tOrT K ta tb σ H Q := h
end
end HS
/-! set(xs) of a list of ints, len and sorted of it. -/
namespace HS
open PySem PySem.Spec PyProof.Rows L2
/-- a set just made -/
abbrev set0 (w : World) : Obj := { cls := .type "set", dict := none, data := .set #[] 0 (.fresh 0 0 (!w.params.followText "set-order")) }
section
variable {P : Program} {w : World} {A : Around} {E : Value → Shared → Prop} {s : Shared}
set_option maxHeartbeats 3200000 in
theorem set_of_list {l : Addr} {xs : Array Value} (ns : List Int) {Q : Value → Shared → Prop} (calm : A.handled = none) (isl : s.heap.IsList l xs) (jnts : IntsAre xs.toList ns) (few : ns.length + 1 < scanBound)
    (k : ∀ (g : Heap) (tk c : Nat), SetR w g s.heap.objs.size (fun j => decide (j ∈ ns)) c → (∀ b o, s.heap.get? b = some o → g.get? b = some o) → Q (.ref s.heap.objs.size) { s with heap := g, toks := tk }) :
    wpAny (model P w) A (call (.type "set") [.ref l]) Q E s := by
  have len : xs.size = ns.length := by rw [← Array.length_toList]; exact IntsAre.length jnts
  have m1 := F.called_set.mro
  have m2 := F.called_set.made
  have m3 := F.called_set.sub
  have m4 := F.called_set.notType
  have m5 := F.called_set.canCreate
  have m6 := F.typeCall_set_1 (.ref l)
  obtain ⟨_, _, m1⟩ := m1
  apply wpAny_call
  apply codeAny_of_tree
  show wpAny _ _ (callAny (.type "set") _) _ _ _
  refine wpAny_pure ⟨Code.quiet_builtin _ (by decide +kernel), codeAny_builtin F.entry_type_call ?_⟩
  rw [Around.under_plain (weight_type_call_type "set" [.ref l] []) rfl]
  repeat any_goals first | assumption | wp_step
  let h1 := s.heap.push (set0 w)
  refine codeAny_mono (code_set_led1 (.ref l) (E := E) (Q₁ := fun v t => v = .ref s.heap.objs.size ∧ t = { s with heap := h1 }) ⟨rfl, rfl⟩) ?_
  rintro (e | v | _ | _ | _) t ht <;> first | exact ht | exact ht.elim | skip
  obtain ⟨rfl, rfl⟩ := ht
  have at0 : h1.get? s.heap.objs.size = some (set0 w) := Heap.get?_push_size _ rfl
  have ty0 : Shared.TypeIs { s with heap := h1 } (.ref s.heap.objs.size) "set" := ⟨_, at0, rfl⟩
  have m7 := F.called_set.init.lookup
  have m8 := F.called_set.init.bind (.ref s.heap.objs.size)
  repeat any_goals first | assumption | wp_step
  refine codeAny_mono (codeAny_call_builtin (R := wants (fun v t => v = .none ∧ ∃ g tk c, t = { s with heap := g, toks := tk } ∧ SetR w g s.heap.objs.size (fun j => decide (j ∈ ns)) c ∧ ∀ b o, s.heap.get? b = some o → g.get? b = some o) E)
    F.called_set.init.plain F.entry_set_init (check_set_init_1 ty0 ?_)) ?_
  · obtain ⟨⟨c, d, dat, sl⟩, e1, e2, n1, e3⟩ := isl
    dsimp only at e2 e3
    subst e2 e3
    have e4 : h1.get? l = some { cls := .type "list", dict := d, data := .seq xs n1, slots := sl } := Heap.get?_push_of_some _ e1
    have s1 := F.sub_list_set
    have s2 := F.sub_list_frozenset
    have s3 : (Value.type "list" == Value.type "dict") = false := by decide
    have isl1 : h1.IsList l xs := ⟨_, e4, rfl, n1, rfl⟩
    have lo : l < s.heap.objs.size := Heap.lt_size e1
    have sz : h1.objs.size = s.heap.objs.size + 1 := Heap.size_push ..
    unfold Builtin.«set.__init__» noKeywords Builtin.Frozenset.updateFrom
    generalize hIt : pyIter = It
    wp_walk
    subst hIt
    refine wpAny_pyIter_list isl1 (wpAny_bind (wpAny_runValue ?_))
    have c3 : A.in1.in1.in1.handled = none := by simp [calm]
    have d1 : l ≠ h1.objs.size := by rw [sz]; exact Nat.ne_of_lt (Nat.lt_succ_of_lt lo)
    have d2 : s.heap.objs.size ∉ [h1.objs.size, l] := by
      intro z
      rcases List.mem_cons.mp z with z | z
      · rw [sz] at z; exact absurd z (Nat.ne_of_lt (Nat.lt_succ_self _))
      · rw [List.mem_singleton] at z; exact absurd z (Nat.ne_of_gt lo)
    have val : ∀ (i : Nat) (v : Value), xs[i]? = some v → ∃ x t, ns[i]? = some x ∧ v = .int x t := by
      intro i v hv
      have hi : i < ns.length := by rw [← len]; exact (Array.getElem?_eq_some_iff.mp hv).1
      obtain ⟨t, e⟩ := IntsAre.int_at jnts i v (by rw [Array.getElem?_toList]; exact hv)
      rw [List.getD_eq_getElem?_getD, List.getElem?_eq_getElem hi, Option.getD_some] at e
      exact ⟨_, t, List.getElem?_eq_getElem hi, e⟩
    refine set_update_ints ((Walks.list c3 _ l d1 xs).toS) s.heap.objs.size d2 ns len few val (xs.size - 0) 0 _ (by omega) (Nat.zero_le _) ⟨⟨_, Heap.get?_push_size _ rfl, rfl, rfl⟩, isl1.push _⟩ ⟨0, Nat.le_refl 0, setR_new_at (Heap.get?_push_of_some _ at0)⟩ ?_
    intro t c mv _ R
    obtain ⟨g, g2, g3, tk, g4⟩ := t
    have q1 : g2 = s.gens := mv.gens
    have q2 : g3 = s.drawn := mv.drawn
    have q3 : g4 = s.os := mv.os
    subst q1 q2 q3
    show wpAny _ _ _ _ _ _
    refine wpAny_pure ?_
    show wpAny _ _ (PySem.ret Value.none) _ _ _
    refine wpAny_pure ⟨rfl, g, tk, c, rfl, R, fun b o e => ?_⟩
    have bl : b < s.heap.objs.size := Heap.lt_size e
    refine mv.heap b o ?_ (Heap.get?_push_of_some _ (Heap.get?_push_of_some _ e))
    intro z
    rcases List.mem_cons.mp z with z | z
    · exact absurd z (Nat.ne_of_lt bl)
    · rw [List.mem_singleton] at z
      have z : b = h1.objs.size := z
      rw [sz] at z
      exact absurd z (Nat.ne_of_lt (Nat.lt_succ_of_lt bl))
  · rintro (e | v | _ | _ | _) t ht <;> first | exact ht | exact ht.elim | skip
    obtain ⟨rfl, g, tk, c, rfl, R, up⟩ := ht
    repeat any_goals first | assumption | wp_step
    exact k _ _ _ R up
theorem sorted_of_set {a : Addr} {S : Int → Bool} {n : Nat} {Q : Value → Shared → Prop} (R : SetR w s.heap a S n) (calm : A.handled = none)
    (k : ∀ t p (out : Array Value) (c : Nat) (ns : List Int), (∀ b o, s.heap.get? b = some o → t.heap.get? b = some o) → t.gens = s.gens → t.os = s.os → s.heap.objs.size ≤ p → t.heap.get? p = some (seqObj "list" out c) →
      IntsAre out.toList ns → ns.Pairwise (· ≤ ·) → ns.Nodup → (∀ j, j ∈ ns ↔ S j = true) → ns.length = n → Q (.ref p) t) : wpAny (model P w) A (call (.builtin "sorted") [.ref a]) Q E s := by
  obtain ⟨o, es, ep, tb, ho, ex, hd, good, nd, mem, few, fit, cnt, ris, led⟩ := R
  apply Calls.call_function_entry kind_sorted plain_sorted entry_sorted (args_sorted1 _)
  unfold Builtin.«sorted»
  refine wpAny_bind (m := checkCount "sorted" 1 1 _) (wpAny_pure (wpAny_bind (collect_set (A := A.in1) calm ⟨o, ho, ex.1, hd⟩ fit few ris led fun t vs up big eg eo pm => ?_)))
  have lv : vs.length = n := by rw [pm.length_eq, List.length_map, Array.length_toList]; exact cnt
  have jnts : IntsAre vs (vs.map Builtin.Re.reRawOf) := ints_of vs fun v hv => by
    obtain ⟨e, he, rfl⟩ := List.mem_map.mp (pm.mem_iff.mp hv)
    obtain ⟨x, tk, h1, _⟩ := good e he
    exact ⟨x, tk, h1⟩
  have pk : (vs.map Builtin.Re.reRawOf).Perm (es.toList.map keyOf) := by
    have := pm.map Builtin.Re.reRawOf
    rwa [List.map_map] at this
  have szv : vs.length ≤ sizeLine := by rw [lv, sizeLine_eq]; unfold scanBound at few; omega
  refine wpAny_bind (wpAny_newList ?_ szv)
  have atL : (t.heap.push (seqObj "list" vs.toArray 0)).get? t.heap.objs.size = some (seqObj "list" vs.toArray 0) := Heap.get?_push_size _ rfl
  refine wpAny_bind (wpAny_holding (wpAny_call_entry slot_list_sort ⟨_, atL, rfl⟩ entry_list_sort (SrtO.list_sort_ord SrtO.swo_int atL szv (fun h2 => SrtO.ints_sortable jnts h2) fun out h1 h2 => ⟨_, rfl, ?_⟩) (args_list_sort _)))
  obtain ⟨j1, j2, j3⟩ := SrtO.ints_out jnts h1 h2
  obtain ⟨c, hc⟩ := sortedHeap_at (vs := vs) (out := out.toArray) atL
  have pn := j2.trans pk
  refine wpAny_pure ⟨_, rfl, k _ t.heap.objs.size out.toArray c _ (fun b u e => ?_) eg eo big hc j1 j3 (pn.nodup_iff.mpr nd) (fun x => by rw [pn.mem_iff, ← mem x]) (by rw [pn.length_eq, List.length_map, Array.length_toList]; exact cnt)⟩
  have q := up b u e
  have lt := Heap.lt_size q
  show (sortedHeap (t.heap.push (seqObj "list" vs.toArray 0)) t.heap.objs.size vs out.toArray).get? b = some u
  rw [sortedHeap_old (Nat.ne_of_lt lt) (by rw [size_push']; exact Nat.lt_succ_of_lt lt)]
  exact Heap.get?_push_of_some _ q
end
/-- the different numbers, ascending -/
def dd : List Int → List Int
  | [] => []
  | x :: r => if x ∈ r then dd r else x :: dd r
theorem dd_mem {x : Int} : ∀ {l : List Int}, x ∈ dd l ↔ x ∈ l
  | [] => Iff.rfl
  | y :: r => by
    unfold dd
    by_cases c : y ∈ r
    · rw [if_pos c, dd_mem, List.mem_cons]
      exact ⟨.inr, fun h => h.elim (fun e => by rw [e]; exact c) id⟩
    · rw [if_neg c, List.mem_cons, List.mem_cons, dd_mem]
theorem dd_nodup : ∀ l : List Int, (dd l).Nodup
  | [] => List.nodup_nil
  | y :: r => by
    unfold dd
    by_cases c : y ∈ r
    · rw [if_pos c]; exact dd_nodup r
    · rw [if_neg c, List.nodup_cons]
      exact ⟨fun z => c (dd_mem.mp z), dd_nodup r⟩
def dst (l : List Int) : List Int := asc (dd l)
theorem dst_mem {l : List Int} {x : Int} : x ∈ dst l ↔ x ∈ l := by unfold dst; rw [asc_mem, dd_mem]
theorem dst_nodup (l : List Int) : (dst l).Nodup := (asc_perm (dd l)).nodup_iff.mpr (dd_nodup l)
theorem dd_len : ∀ l : List Int, (dd l).length ≤ l.length
  | [] => Nat.le_refl _
  | y :: r => by
    unfold dd
    have := dd_len r
    split
    · rw [List.length_cons]; omega
    · rw [List.length_cons, List.length_cons]; omega
theorem dst_len (l : List Int) : (dst l).length ≤ l.length := by unfold dst; rw [asc_len]; exact dd_len l
theorem perm_of_mem {xs ys : List Int} (h1 : xs.Nodup) (h2 : ys.Nodup) (h : ∀ x, x ∈ xs ↔ x ∈ ys) : xs.Perm ys := by
  rw [List.perm_iff_count]
  intro x
  rw [List.Nodup.count h1, List.Nodup.count h2]
  by_cases c : x ∈ xs
  · rw [if_pos c, if_pos ((h x).mp c)]
  · rw [if_neg c, if_neg fun z => c ((h x).mpr z)]
theorem dst_of {xs l : List Int} (h1 : xs.Nodup) (h2 : xs.Pairwise (· ≤ ·)) (h : ∀ x, x ∈ xs ↔ x ∈ l) : xs = dst l :=
  asc_of (perm_of_mem h1 (dd_nodup l) fun x => by rw [h, dd_mem]) h2
theorem dst_same {xs ys : List Int} (h : ∀ x, x ∈ xs ↔ x ∈ ys) : dst xs = dst ys := dst_of (dst_nodup xs) (asc_pair _) fun x => by rw [dst_mem, h]
/-- a set of the numbers of a list, by what it holds -/
def rSet (w : World) (K : PySem.W.Frag) : List V → Hp → VK → Prop := fun vs H Q => ∃ a ns, vs = [.ref a] ∧ SqL K H a (ns.map V.int) ∧ ns.length ≤ 4000 ∧ ∀ p, H p = none → Q (.ref p) (upd H p (SetO w p (fun j => decide (j ∈ ns)) (dst ns).length))
def rSortS (w : World) : List V → Hp → VK → Prop := fun vs H Q => ∃ a ns, vs = [.ref a] ∧ H a = some (SetO w a (fun j => decide (j ∈ ns)) (dst ns).length) ∧ ∀ H' p, Keep (fun _ => False) H H' → H p = none → H' p = some (.lst ((dst ns).map V.int)) → Q (.ref p) H'
def rLenS (w : World) : List V → Hp → VK → Prop := fun vs H Q => ∃ a S n, vs = [.ref a] ∧ H a = some (SetO w a S n) ∧ Q (.int (n : Nat)) H
theorem setR_count {w : World} {h : Heap} {a : Addr} {ns : List Int} {n : Nat} (R : SetR w h a (fun j => decide (j ∈ ns)) n) : n = (dst ns).length := by
  obtain ⟨o, es, ep, tb, ho, ex, hd, good, nd, mem, few, fit, cnt, ris, led⟩ := R
  have p : (es.toList.map keyOf).Perm (dst ns) := perm_of_mem nd (dst_nodup ns) fun x => by rw [← mem x, dst_mem]; simp
  rw [← p.length_eq, List.length_map, Array.length_toList]; exact cnt.symm
section
variable {X : Cx} (K : PySem.W.Frag)
theorem kset (w : World) (hc : X.calm = true) (h : X.K = K := by rfl) (hw : X.w = w := by rfl) : CallR X (.type "set") (rSet w K) := by
  subst h hw
  intro pins s σ H xs us Q I r ⟨a, ns, e, hs, hl, k⟩
  subst e
  rw [Vals.ref1 r]
  obtain ⟨its, rv, pl, hz⟩ := I.list hs
  refine set_of_list ns (I.ok.hd hc) pl.isList rv.ints (by unfold scanBound; omega) fun g tk c R up => ?_
  rw [setR_count R] at R
  exact ⟨.ref _, upd H s.heap.objs.size (SetO X.w s.heap.objs.size (fun j => decide (j ∈ ns)) (dst ns).length), I.laid (t' := tk) up (Nat.le_refl _) (setO_new R), rfl, k _ (I.hok.fresh (Nat.le_refl _))⟩
theorem ksortS (w : World) (hc : X.calm = true) (hw : X.w = w := by rfl) : CallR X (.builtin "sorted") (rSortS w) := by
  subst hw
  intro pins s σ H xs us Q I r ⟨a, ns, e, ha, k⟩
  subst e
  rw [Vals.ref1 r]
  refine sorted_of_set (setO_get I ha) (I.ok.hd hc) fun t p out c ms up eg eo big at1 jnts pw nd mem cnt => ?_
  have free : H p = none := I.hok.fresh big
  have em : ms = dst ns := dst_of nd pw fun x => by rw [mem x]; simp
  subst em
  have lz : ((dst ns).map V.int).length ≤ sizeLine := by
    rw [List.length_map, cnt, sizeLine_eq]
    obtain ⟨o, es, ep, tb, _, _, _, _, _, _, few, _, cnt2, _⟩ := setO_get I ha
    unfold scanBound at few
    omega
  have J : Inv X pins σ (upd H p (.lst ((dst ns).map V.int))) { s with heap := t.heap, gens := t.gens, drawn := t.drawn, toks := t.toks } :=
    I.call (ch := []) (Un.laid up big free) (I.hok.laid up big ⟨lz, out.toList, c, vals_of_ints jnts, at1⟩) (by rw [eg]; exact I.bare) nofun
  have et : t = { s with heap := t.heap, gens := t.gens, drawn := t.drawn, toks := t.toks } := by
    obtain ⟨_, _, _, _, _⟩ := t
    obtain ⟨_, _, _, _, _⟩ := s
    cases eo
    rfl
  rw [et]
  exact ⟨.ref p, _, J, rfl, k _ p (Keep.new free) free upd_same⟩
theorem klenS (w : World) (hw : X.w = w := by rfl) : CallR X (.builtin "len") (rLenS w) := by
  subst hw
  intro pins s σ H xs us Q I r ⟨a, S, n, e, ha, k⟩
  subst e
  rw [Vals.ref1 r]
  obtain ⟨o, es, ep, tb, ho, ex, hd, _, _, _, few, fit, cnt, _⟩ := setO_get I ha
  refine call_len_set ho ex hd fit (by unfold scanBound at few; omega) ⟨.int n, H, I.tok _, ⟨_, by rw [cnt]⟩, k⟩
end
end HS
/-! Powers of great numbers, [x] * n. -/
namespace HS
open PySem PySem.Spec PyProof.Rows L2
def CPowW (i j : Int) : Prop := 0 ≤ j ∧ (Builtin.Int.intBits i : Int) * j ≤ 2 ^ 27
section
variable {X : Cx} {σ : L2.St} {H : Hp} {Q : VK}
theorem op_powW : OpR X (binaryOp .Pow) (rI CPowW fun i j => .int (i ^ j.toNat)) := opI fun _ _ _ _ _ _ _ hc q => pow_int hc.1 hc.2 q
theorem bits_le {i : Int} (k : Nat) (h0 : 0 ≤ i) (h : i < 2 ^ k) : Builtin.Int.intBits i ≤ k := by
  unfold Builtin.Int.intBits
  by_cases z : i = 0
  · subst z; exact Nat.zero_le _
  · rw [if_neg (by simpa using z)]
    have z' : i.natAbs ≠ 0 := by omega
    have : i.natAbs.log2 < k := (Nat.log2_lt z').mpr (by
      have : ((i.natAbs : Nat) : Int) < ((2 ^ k : Nat) : Int) := by rw [Int.natAbs_of_nonneg h0]; simpa using h
      exact Int.ofNat_lt.mp this)
    omega
theorem powW {i : Int} (k : Nat) {j : Int} (h0 : 0 ≤ i) (h : i < 2 ^ k) (hj : 0 ≤ j) (hk : (k : Int) * j ≤ 2 ^ 27) : CPowW i j := by
  refine ⟨hj, Int.le_trans (Int.mul_le_mul_of_nonneg_right ?_ hj) hk⟩
  exact Int.ofNat_le.mpr (bits_le k h0 h)
theorem flat_one {v : V} : ∀ n : Nat, (List.replicate n [v]).flatten = List.replicate n v
  | 0 => rfl
  | n + 1 => by rw [List.replicate_succ, List.flatten_cons, flat_one n]; rfl
theorem rep1 {p : Addr} {v : V} {k : Int} (h : H p = some (.lst [v])) (hk : k ≤ 1000000) (h0 : 0 ≤ k) (q : ∀ p, H p = none → Q (.ref p) (upd H p (.lst (List.replicate k.toNat v)))) : rRep (.ref p) (.int k) H Q := by
  refine ⟨p, k, _, rfl, rfl, h, by omega, by omega, ?_, fun p hp => ?_⟩
  · rw [List.length_singleton, sizeLine_eq]; omega
  · rw [flat_one]; exact q p hp
end
end HS
/-! Own classes: a field, a stored field, a method, a property, a new object, from the head. -/
namespace HS
open PySem PySem.Spec PyProof.Rows L2
section
variable {σ : L2.St} {H : Hp} {Q : VK} {ta tv : TE} {t : TA} {K : PySem.W.Frag} {f : Str} {n bk ct : L2.St → Hp → Prop} {rt : VK} {C : Addr} {sp : Sp} {dvs : List V} {E : XK}
theorem ofld (h : ta σ H fun x H1 => ∃ a C dx fs v, x = .ref a ∧ H1 a = some (.ins C dx fs) ∧ Cls K C ∧ NoAttr K C f ∧ fs.lookup f = some v ∧ Q v H1) : tFld K ta f σ H Q := h
theorem osfl (h : tv σ H fun y H1 => ta σ H1 fun x H2 => ∃ a C dx fs, x = .ref a ∧ H2 a = some (.ins C dx fs) ∧ Cls K C ∧ NoAttr K C f ∧ fs.length < 1000 ∧ n σ (upd H2 a (.ins C dx (putF f y fs)))) : sFld K ta tv f ⟨n, rt, bk, ct⟩ σ H := h
theorem omet (h : ta σ H fun x H1 => ∃ a dx fs, x = .ref a ∧ H1 a = some (.ins C dx fs) ∧ fs.lookup f = none ∧ t σ H1 fun vs H2 => sp (x :: (vs ++ dvs)) H2 Q E) : tMeth C f sp dvs E ta t σ H Q := h
theorem opro (h : ta σ H fun x H1 => ∃ a dx fs, x = .ref a ∧ H1 a = some (.ins C dx fs) ∧ sp (.ref a :: dvs) H1 Q E) : tProp C sp dvs E ta σ H Q := h
theorem omak (h : t σ H fun vs H1 => ∀ x dx, H1 x = none → H1 dx = none → dx ≠ x → sp (.ref x :: (vs ++ dvs)) (upd (upd H1 dx (.own x)) x (.ins C dx [])) (fun v H2 => v = .non ∧ Q (.ref x) H2) E) : tMake C sp dvs E t σ H Q := h
end
end HS
/-! An exception that is kept behind its suite; methods and classes called where an exception may come. -/
namespace HS
open PySem PySem.Spec PyProof.Rows L2
/-- at a: an exception of this class that was caught -/
def exh (a : Addr) (cls : Value) (d : Option Addr) : HO := .ext fun h => ∃ (oe : Obj) (vs : Array Value), h.get? a = some oe ∧ oe.cls = cls ∧ oe.dict = d ∧ oe.data = .fields vs
theorem exh_ok {P : Program} {w : World} {H : Hp} {h : Heap} {a : Addr} {cls : Value} {d : Option Addr} {oe : Obj} {vs : Array Value} (e : h.get? a = some oe) (z : Zc cls d oe) (f : oe.data = .fields vs) : ObjOk P w H h a (exh a cls d) :=
  ⟨⟨oe, vs, e, z.1, z.2, f⟩, ⟨oe, e⟩, fun _ _ ⟨o, v, q, r⟩ k => ⟨o, v, k o q, r⟩⟩
/-- a caught exception that stands in the heap, with its fields -/
def Exh (H : Hp) (a C : Addr) (fs : List (Str × V)) : Prop := ∃ d, H a = some (exh a (.ref C) (some d)) ∧ H d = some (.xd fs)
theorem Exh.keep {S : Addr → Prop} {H H' : Hp} {a C : Addr} {fs : List (Str × V)} (h : Exh H a C fs) (k : Keep S H H') (ha : ¬ S a) (hd : ∀ d, H d = some (.xd fs) → ¬ S d) : Exh H' a C fs := by
  obtain ⟨d, e1, e2⟩ := h
  exact ⟨d, k _ _ e1 ha, k _ _ e2 (hd d e2)⟩
theorem Exh.same {H H' : Hp} {a C : Addr} {fs : List (Str × V)} (h : Exh H a C fs) (k : Keep (fun _ => False) H H') : Exh H' a C fs := h.keep k id fun _ _ => id
theorem Exh.new {H : Hp} {a C p : Addr} {fs : List (Str × V)} {o : HO} (h : Exh H a C fs) (hp : H p = none) : Exh (upd H p o) a C fs := h.same (Keep.new hp)
/-- an object that stands in the state, made behind the entry, is tracked from now on -/
theorem track {X : Cx} {pins : List (Addr × Obj)} {σ : L2.St} {H : Hp} {s : Shared} {a : Addr} {o : HO} (I : Inv X pins σ H s) (na : H a = none) (n0 : X.s_0.heap.get? a = none) (nL : a ≠ X.env.locals)
    (nC : ∀ x c, X.env.cells.lookup x = some c → c ≠ a) (nP : ∀ p ∈ X.pn ++ pins, p.1 ≠ a) (new : ObjOk X.prog X.w (upd H a o) s.heap a o) : Inv X pins σ (upd H a o) s := by
  refine ⟨I.ok, I.os, I.bare, ⟨I.base.keep, I.base.slot, fun b u e n hx => ?_, I.base.there, fun b xs e => ?_, fun b u xs e => ?_, fun b ps e => ?_⟩, I.loc, I.cell, ?_, fun x c e => ?_, fun p hp => ?_, fun b u e => ?_, I.len⟩
  · rw [upd_ne (fun z => by rw [z, n0] at e; cases e)]; exact I.base.free b u e n hx
  · have q := I.base.tups b xs e; rw [upd_ne (ne_of_none q na)]; exact q
  · have q := I.base.frzs b u xs e; rw [upd_ne (ne_of_none q na)]; exact q
  · obtain ⟨m, q⟩ := I.base.tbls b ps e; exact ⟨m, by rw [upd_ne (ne_of_none q na)]; exact q⟩
  · rw [upd_ne (Ne.symm nL)]; exact I.free
  · rw [upd_ne (nC x c e)]; exact I.freeC x c e
  · obtain ⟨e, n, r⟩ := I.pin p hp; exact ⟨e, by rw [upd_ne (nP p hp)]; exact n, r⟩
  · by_cases hb : b = a
    · subst hb; rw [upd_same] at e; cases e; exact new
    · rw [upd_ne hb] at e
      exact (I.hok b u e).stay (fun c v _ q => q) (fun c q => by rw [upd_ne (ne_of_none q na)]; exact q) fun c xs q => by rw [upd_ne (ne_of_none q na)]; exact q
theorem unsuite1 {X : Cx} {pins pn' : List (Addr × Obj)} {σ : L2.St} {H : Hp} {s : Shared} {a : Addr} {q : Addr × Obj} (I : Inv (X.suite a (q :: (X.pn ++ pins))) pn' σ H s) (ok : X.Ok) : Inv X (q :: pins) σ H s :=
  ⟨ok, I.os, I.bare, I.base, I.loc, I.cell, I.free, I.freeC, fun p hp => I.pin p (List.mem_append_left _ (by
    rcases List.mem_append.mp hp with h | h
    · exact List.mem_cons_of_mem _ (List.mem_append_left _ h)
    · rcases List.mem_cons.mp h with e | h
      · rw [e]; exact List.mem_cons_self
      · exact List.mem_cons_of_mem _ (List.mem_append_right _ h))), I.hok, I.len⟩
/-- what the clause wishes of an exception of the body: behind the suite's end the exception stands in the heap -/
def wKeep (K : PySem.W.Frag) (c : Value) (i : Nat) (ts : Addr → Value → Option Addr → TS) (Wout : WX) (D : Ends) : WX := fun cls d σ H =>
  ∃ b, PySem.W.exmOne K cls c = some b ∧ (b = true → ∀ a, H a = none → ts a cls d { nx := fun σ' H' => H' a = none → D.nx (σ'.set i none) (upd H' a (exh a cls d)), rt := D.rt, bk := fun σ' H' => D.bk (σ'.set i none) H', ct := fun σ' H' => D.ct (σ'.set i none) H' } (σ.set i (some (.ref a))) H) ∧
    (b = false → Wout cls d σ H)
section
variable {X : Cx} {x n : Str} {c : Value} {i : Nat} {body suite : List Stmt} {b₀ : Stmt} {np pos pos' : Pos} {tb : WX → TS} {ts : Addr → Value → Option Addr → TS} {Wout : WX}
theorem ps_try_keep (hs : X.stack = X.env :: X.outer) (hf : X.env.frame = some X.env.locals) (hN : X.N.Nodup) (hi : X.N[i]? = some n) (hln : X.env.kindOf n = some .local) (hc : Names X x c) (tk : Takes X Wout)
    (hb : ∀ (W : WX) (pn : List (Addr × Obj)) (xe : Value → Shared → Prop), Takes (X.tr pn xe) W → PassesOwn (model X.prog X.w) X.A X.env xe → PSs (X.tr pn xe) body (tb W))
    (hsu : ∀ (a : Addr) (oe : Obj) (cls : Value) (d : Option Addr) (pn : List (Addr × Obj)), Zc cls d oe → (∃ vs, oe.data = .fields vs) → PSs (X.suite a ((a, oe) :: pn)) (b₀ :: suite) (ts a cls d))
    (hex : X.ex = [] := by rfl) :
    PS X (.Try body [.ExceptHandler (some (.Name x np)) (some n) (b₀ :: suite) pos'] [] [] pos) (fun D σ H => tb (wKeep X.K c i ts Wout D) D σ H) := by
  refine ⟨fun pins s σ H D I hw => ?_⟩
  have ok := I.ok
  have fr0 : X.A.frames = some (X.env :: X.outer) := by rw [ok.frames, hs]
  have loc0 : Loc X.env.scope n := .inl hln
  refine wpAny_Try_except ?_
  refine wpAny_mono ((hb (wKeep X.K c i ts Wout D) (X.pn ++ pins) (fun e s₁ => wpAny (model X.prog X.w) X.A (noteFrame e X.env) (fun _ s₂ => wpAny (model X.prog X.w) X.A (setFlight e none) (fun _ s₃ =>
    wpAny (model X.prog X.w) X.A (handleBy e X.env [.ExceptHandler (some (.Name x np)) (some n) (b₀ :: suite) pos']) (SP X pins D) X.xe s₃) X.xe s₂) X.xe s₁) (fun u s' xx => ?_) PassesOwn.looking).run [] s σ H D (I.toTry _) hw) (fun f s1 hsp => ?_) (fun e s1 he => he)
  · obtain ⟨a, B, sI, pins', σ', H', cls, d, rfl, J', nb, up, sky, na, os, ag, b, hb1, hyes, hno⟩ := xx
    have J : Inv X pins σ' H' sI := J'.ofTry ok
    have sky' : Sky B (X.env :: X.outer) a (Zc cls d) X.env.locals s'.heap := by rw [← hs]; exact sky
    show wpAny (model X.prog X.w) X.A (noteFrame (.ref a) X.env) _ _ _
    refine Sky.land Zc.steady fr0 hf sky' fun h3 fl3 up3 => ?_
    have J3 : Inv X pins σ' H' { s' with heap := h3 } := J.landed nb fl3.1 (up.trans up3) os ag
    obtain ⟨oe3, vs3, he3, hz3, hd3⟩ := fl3.there
    have nfr : a ∉ frs (X.env :: X.outer) := fun hm => by
      obtain ⟨_, o', e', hnf⟩ := fl3.2.2.1.mem hm
      rw [he3] at e'; cases e'
      exact hnf _ hd3
    have nL : a ≠ X.env.locals := fun z => nfr (List.mem_filterMap.mpr ⟨X.env, List.mem_cons_self, by rw [hf, z]⟩)
    have nF : a ∉ X.fs := fun hm => by
      obtain ⟨e, he, q⟩ := List.mem_filterMap.mp hm
      exact nfr (List.mem_filterMap.mpr ⟨e, List.mem_cons_of_mem _ he, q⟩)
    have nI : sI.heap.get? a = none := by
      cases q : sI.heap.get? a with
      | none => rfl
      | some o =>
        have z := nb a o q (by rw [hs]; exact nfr)
        rw [fl3.2.1] at z; cases z
    have n0 : X.s_0.heap.get? a = none := by
      cases q : X.s_0.heap.get? a with
      | none => rfl
      | some o =>
        obtain ⟨o', z⟩ := J.base.there a o q (by rw [hex]; exact fun z => nomatch z)
        rw [nI] at z; cases z
    have S3 := J3.suite he3 hd3 na nL nF
    refine wpAny_handleBy_cons (codeAny_handlers_test ?_) (by intro q; cases q)
    have LT : PySem.W.Looks (model X.prog X.w) h3 (typeOf (.ref a)) cls := fun A Q E s k q => wpAny_typeOf_ref (k _ _ he3) (by rw [hz3.1]; exact q)
    have LM := PySem.W.exm_one (M := model X.prog X.w) (J3.kIn) LT hb1
    have test : ∀ {Q : Value → Shared → Prop} {E : Value → Shared → Prop}, Q c { s' with heap := h3 } → wpAny (model X.prog X.w) (X.A.mark (some (.ref a))) (eval (.Name x np) X.env) Q E { s' with heap := h3 } := fun {Q E} q => by
      obtain ⟨hg, hdbg, hm | ⟨hm, hv, hnn⟩⟩ := hc
      · exact ld_glob (X := X.suite a ((a, oe3) :: (X.pn ++ pins))) S3 hg hm q hdbg
      · exact ld_blt (X := X.suite a ((a, oe3) :: (X.pn ++ pins))) S3 hg hm hv q hnn hdbg
    refine test (LM.here ?_)
    cases b with
    | true =>
      refine codeAny_handlers_suite_as ?_
      refine HandSPX.lands_againZ fl3 fun h4 fl4 up4 => ?_
      have J4 : Inv X pins σ' H' { s' with heap := h4 } := J.landed nb fl4.1 ((up.trans up3).trans up4) os ag
      obtain ⟨oe4, vs4, he4, hz4, hd4⟩ := fl4.there
      have S4 := J4.suite he4 hd4 na nL nF
      refine store_ok (X := X.suite a ((a, oe4) :: (X.pn ++ pins))) (v := .ref a) S4 hN hi loc0 rfl (fun s5 S5 => ?_) (.inr hln)
      refine wpAny_mono ((hsu a oe4 cls d (X.pn ++ pins) hz4 ⟨_, hd4⟩).run [] s5 _ H' _ S5 (hyes rfl a na)) (fun f s6 hsp => ?_) (fun _ _ z => False.elim z)
      have fin : ∀ {σ6 : L2.St} {H6 : Hp} {Q : Shared → Prop}, Inv (X.suite a ((a, oe4) :: (X.pn ++ pins))) [] σ6 H6 s6 → (∀ s7, Inv X ((a, oe4) :: pins) (σ6.set i none) H6 s7 → Q s7) →
          wpAny (model X.prog X.w) X.A (do bindName X.env n .none; unbindBehindTheSuite X.env n pos') (fun _ s7 => Q s7) X.xe s6 := fun {σ6 H6 Q} S6 hq => gone_ok (unsuite1 S6 ok) hN hi hln hq
      have less : ∀ {σ7 : L2.St} {H7 : Hp} {s7 : Shared}, Inv X ((a, oe4) :: pins) σ7 H7 s7 → Inv X pins σ7 H7 s7 := fun J7 => ⟨J7.ok, J7.os, J7.bare, J7.base, J7.loc, J7.cell, J7.free, J7.freeC, fun p hp => J7.pin p (by
        rcases List.mem_append.mp hp with h | h
        · exact List.mem_append_left _ h
        · exact List.mem_append_right _ (List.mem_cons_of_mem _ h)), J7.hok, J7.len⟩
      cases f with
      | next =>
        obtain ⟨σ6, H6, S6, q6⟩ := hsp
        refine fin S6 fun s7 J7 => ?_
        obtain ⟨g1, g2, _⟩ := J7.pin (a, oe4) (List.mem_append_right _ List.mem_cons_self)
        refine ⟨_, _, track (less J7) g2 n0 nL (fun x c e z => ?_) (fun p hp z => ?_) (exh_ok g1 hz4 hd4), q6 g2⟩
        · obtain ⟨v, o, ho, hd⟩ := J7.cell x c e
          rw [z, g1] at ho; cases ho
          rw [hd4] at hd; cases hd
        · have P1 := (J.pin p hp).1
          rw [z, nI] at P1; cases P1
      | brk =>
        obtain ⟨σ6, H6, S6, q6⟩ := hsp
        exact fin S6 fun s7 J7 => ⟨_, _, less J7, q6⟩
      | cont =>
        obtain ⟨σ6, H6, S6, q6⟩ := hsp
        exact fin S6 fun s7 J7 => ⟨_, _, less J7, q6⟩
      | ret u =>
        obtain ⟨v6, σ6, H6, S6, r6, q6⟩ := hsp
        exact fin S6 fun s7 J7 => ⟨_, _, _, less J7, r6, q6⟩
    | false =>
      show wpAny _ X.A (handleBy (.ref a) X.env []) _ _ _
      refine wpAny_handleBy_nil ?_
      obtain ⟨k1, k2, k3, oe, vs, T, oT, ts', he, hz, hd, h1, hr⟩ := id fl3
      unfold PySem.passOn
      refine wpAny_bind (wpAny_field he hd h1 ?_)
      rw [if_neg (show ¬ ((Value.ref T == Value.none) = true) from by simp)]
      have gone : wpAny (model X.prog X.w) X.A (setFlight (.ref a) X.env.frame) (fun _ s4 => wpAny (model X.prog X.w) X.A (throw (.ref a) : Sem Flow) (SP X pins D) X.xe s4) X.xe { s' with heap := h3 } := by
        rw [hf]
        refine HandSPX.setFlight_upZ fl3 fun h4 hh4 up4 => wpAny_throw (tk _ _ ?_)
        exact ⟨a, B, sI, pins, σ', H', cls, d, rfl, J, nb, (up.trans up3).trans up4, .inr (.inr (by rw [hs]; exact hh4)), na, os, ag, hno rfl⟩
      first
        | exact wpAny_bind (wpAny_pure (wpAny_bind gone))
        | exact wpAny_bind gone
  · cases f with
    | next =>
      obtain ⟨σ', H', J', q⟩ := hsp
      exact wpAny_execs_nil ⟨σ', H', J'.ofTry ok, q⟩
    | brk =>
      obtain ⟨σ', H', J', q⟩ := hsp
      exact ⟨σ', H', J'.ofTry ok, q⟩
    | cont =>
      obtain ⟨σ', H', J', q⟩ := hsp
      exact ⟨σ', H', J'.ofTry ok, q⟩
    | ret u =>
      obtain ⟨v, σ', H', J', r, q⟩ := hsp
      exact ⟨v, σ', H', J'.ofTry ok, r, q⟩
end
/-! ### asked and read -/
theorem exh_at {X : Cx} {pins : List (Addr × Obj)} {σ : L2.St} {H : Hp} {s : Shared} {a D : Addr} {fs : List (Str × V)} (I : Inv X pins σ H s) (h : Exh H a D fs) :
    ∃ (oe : Obj) (od : Obj) (d : Addr) (mA : Str → Option Value), PySem.W.InstAt s.heap a oe D (some od) ∧ s.heap.Ns1 d mA ∧ (∀ f, RelO (fs.lookup f) (mA f)) := by
  obtain ⟨d, ea, ed⟩ := h
  have x1 : ObjOk X.prog X.w H s.heap a (.ext fun h => ∃ (oe : Obj) (vs : Array Value), h.get? a = some oe ∧ oe.cls = .ref D ∧ oe.dict = some d ∧ oe.data = .fields vs) := I.hok a _ ea
  obtain ⟨oe, vs, ho, hc, hdd, hv⟩ := x1.1
  have x2 : ObjOk X.prog X.w H s.heap d (.xd fs) := I.hok d _ ed
  obtain ⟨mA, hns, hr⟩ := x2
  obtain ⟨od, hod, _⟩ := lookIn_ns hns
  exact ⟨oe, od, d, mA, ⟨ho, hc, by unfold PySem.W.notCls; rw [hv] <;> rfl, by rw [hdd]; exact hod⟩, hns, hr⟩
def rIsX (K : PySem.W.Frag) : List V → Hp → VK → Prop := fun xs H Q => ∃ (a D : Addr) (fs : List (Str × V)) (c : V) (cv : Value) (b : Bool), xs = [.ref a, c] ∧ ExcC K D ∧ Exh H a D fs ∧ ClsV c cv ∧ PySem.W.kitOne K (.ref D) cv = some b ∧ Q (.bl b) H
theorem call_isX {X : Cx} : CallR X (.builtin "isinstance") (rIsX X.K) := by
  intro pins s σ H xs us Q I r hw
  obtain ⟨a, D, fs, c, cv, b, e0, T, hE, hcv, hb, q⟩ := hw
  subst e0
  match us, r with
  | [_, _], .cons rx (.cons rt .nil) =>
    cases rx
    have e1 := hcv.eq rt
    subst e1
    obtain ⟨oe, od, d, mA, here, _⟩ := exh_at I hE
    obtain ⟨cd, hcd, _⟩ := PySem.W.any_some T.hd
    exact PySem.W.kia_one (PySem.W.kitx_exc (by rw [hcd]; rfl) T.hg T.hk T.hs T.ha T.hn T.ht T.hm) I.kIn here hb (fun z => nomatch z) fun tk => ⟨.bl b, H, I.kept (t' := tk) fun _ _ z => z, rfl, q⟩
theorem kisX {X : Cx} (K : PySem.W.Frag) (h : X.K = K := by rfl) : CallR X (.builtin "isinstance") (rIsX K) := h ▸ call_isX
def tFldX (K : PySem.W.Frag) (f : Str) (te : TE) : TE := fun σ H Q => te σ H fun x H1 => ∃ (a C : Addr) (fs : List (Str × V)) (v : V), x = .ref a ∧ XfC K C ∧ PySem.W.findIn K (.ref C) f = some none ∧ Exh H1 a C fs ∧ fs.lookup f = some v ∧ Q v H1
theorem pe_fldX {X : Cx} {e : Expr} {te : TE} {pos : Pos} {f : Str} (he : PE X e te) (hb : attributeBase e f X.env (eval e X.env) = eval e X.env := by rfl) : PE X (.Attribute e f pos) (tFldX X.K f te) := by
  refine ⟨fun pins s σ H Q I hw => attr_of hb (thn (he.run pins s σ H _ I hw) fun u s1 ⟨x, H1, I1, rx, a, C, fs, v, e0, T, hno, ⟨d, ea, ed⟩, l, q⟩ => ?_)⟩
  subst e0
  cases rx
  have x1 : ObjOk X.prog X.w H1 s1.heap a (.ext fun h => ∃ (oe : Obj) (vs : Array Value), h.get? a = some oe ∧ oe.cls = .ref C ∧ oe.dict = some d ∧ oe.data = .fields vs) := I1.hok a _ ea
  obtain ⟨oe, vs, ho, hc, hdd, hv⟩ := x1.1
  have x2 : ObjOk X.prog X.w H1 s1.heap d (.xd fs) := I1.hok d _ ed
  obtain ⟨mA, hns, hr⟩ := x2
  obtain ⟨od, hod, hl⟩ := lookIn_ns hns
  obtain ⟨w, hw, rw'⟩ := RelO.some_of (v := v) (o := mA f) (by rw [← l]; exact hr f)
  have here : PySem.W.InstAt s1.heap a oe C (some od) := ⟨ho, hc, by unfold PySem.W.notCls; rw [hv] <;> rfl, by rw [hdd]; exact hod⟩
  exact HandSPX.exc_get I1.kIn here T.ga T.gg T.exC (PySem.W.findObj_own T.hdC hno rfl (by rw [hl, hw])) (handed_of rw') ⟨v, H1, I1.tok _, rw', q⟩
section
variable {K : PySem.W.Frag} {σ : L2.St} {H : Hp} {Q : VK} {a D C : Addr} {fs : List (Str × V)} {b : Bool} {te : TE} {f : Str}
theorem isX (T : ExcC K D) (he : Exh H a D fs) (hq : PySem.W.kitOne K (.ref D) (.ref C) = some b) (q : Q (.bl b) H) : rIsX K [.ref a, .ref C] H Q := ⟨a, D, fs, _, _, b, rfl, T, he, .own C, hq, q⟩
theorem isXt {n : String} (T : ExcC K D) (he : Exh H a D fs) (hq : PySem.W.kitOne K (.ref D) (.type n) = some b) (q : Q (.bl b) H) : rIsX K [.ref a, .ty n] H Q := ⟨a, D, fs, _, _, b, rfl, T, he, .ty n, hq, q⟩
theorem fldX (h : te σ H fun x H1 => ∃ (a C : Addr) (fs : List (Str × V)) (v : V), x = .ref a ∧ XfC K C ∧ PySem.W.findIn K (.ref C) f = some none ∧ Exh H1 a C fs ∧ fs.lookup f = some v ∧ Q v H1) : tFldX K f te σ H Q := h
end
end HS
namespace HS
open PySem PySem.Spec PyProof.Rows L2
/-! ### methods and classes that may raise, called where the slots are known -/
def tMethS (C : Addr) (m : Str) (sp : Sp) (E : L2.St → XK) (ta : TE) (t : TA) : TE := fun σ H Q => ta σ H fun x H1 => ∃ a dx fs, x = .ref a ∧ H1 a = some (.ins C dx fs) ∧ fs.lookup m = none ∧ t σ H1 fun vs H2 => sp (x :: vs) H2 Q (E σ)
def tMethN (C : Addr) (m : Str) (n k : Nat) (gV : List V → List V → List V) (sp : Sp) (E : L2.St → XK) (ta : TE) (t tk : TA) : TE := fun σ H Q => ta σ H fun x H1 => ∃ a dx fs, x = .ref a ∧ H1 a = some (.ins C dx fs) ∧ fs.lookup m = none ∧ t σ H1 fun vs H2 => tk σ H2 fun zs H3 => (x :: vs).length = n ∧ zs.length = k ∧ sp (gV (x :: vs) zs) H3 Q (E σ)
def tMakeS (C : Addr) (sp : Sp) (E : L2.St → XK) (t : TA) : TE := fun σ H Q => t σ H fun vs H1 => ∀ x dx, H1 x = none → H1 dx = none → dx ≠ x → sp (.ref x :: vs) (upd (upd H1 dx (.own x)) x (.ins C dx [])) (fun v H2 => v = .non ∧ Q (.ref x) H2) (E σ)
def tMakeN (C : Addr) (n k : Nat) (gV : List V → List V → List V) (sp : Sp) (E : L2.St → XK) (t tk : TA) : TE := fun σ H Q => t σ H fun vs H1 => tk σ H1 fun zs H2 => ∀ x dx, H2 x = none → H2 dx = none → dx ≠ x → (V.ref x :: vs).length = n ∧ zs.length = k ∧ sp (gV (.ref x :: vs) zs) (upd (upd H2 dx (.own x)) x (.ins C dx [])) (fun v H3 => v = .non ∧ Q (.ref x) H3) (E σ)
section
variable {X : Cx} {CX : CXT} {k n : Nat} {f C : Addr} {fd : FuncData} {ps ks : List Str} {sp : Sp} {E : L2.St → XK} {E0 : XK} {x m : Str} {p pos apos : Pos} {e o : Expr} {es : List Expr} {kws : List Keyword} {ta : TE} {t tk : TA} {g : List Value → List Value → List Value} {gV : List V → List V → List V}
theorem passSt (h : Passes CX X E0) (σ : L2.St) : PassesAt CX X σ E0 := fun pins H s e s' I c => h pins σ H s e s' I c
theorem runK {pins : List (Addr × Obj)} {σ : L2.St} {H : Hp} {s : Shared} {Q : VK} {us ws : List Value} {vs zs : List V} (F : FnOk X.prog X.w X.K X.mg X.base CX k f fd ps sp) (hr : Room k X.A) (hb : KBX X.K fd ps n ks g gV) (hx : PassesAt CX X σ (E σ))
    (I : Inv X pins σ H s) (r : Vals vs us) (rz : Vals zs ws) (l1 : vs.length = n) (l2 : zs.length = ks.length) (h : sp (gV vs zs) H Q (E σ)) : wpAny (model X.prog X.w) X.A (call (.ref f) us (ks.zip ws)) (EP X pins σ Q) X.xe s := by
  have l3 : us.length = n := by rw [← r.length]; exact l1
  have l4 : ws.length = ks.length := by rw [← rz.length]; exact l2
  refine wpAny_call (codeAny_mono (F.run X.A X.stack s H ⟨us, ks.zip ws⟩ (g us ws) (gV vs zs) Q (E σ) hr I.env0 (hb.to s us ws l3 l4) (hb.rel r rz) h) fun r s' hq => ?_)
  match r, hq with
  | .error e, hq => exact hx pins H s e s' I hq
  | .ok (.ret u), hq => exact I.after hq
theorem pe_methS {pl : Sem Bool} (he : PE X o ta) (c : Cls X.K C) (hm : Meth X.K C m f) (F : FnOk X.prog X.w X.K X.mg X.base CX k f fd ps sp) (hr : Room k X.A) (hb : Binds X.K fd ps []) (hx : ∀ σ, PassesAt CX X σ (E σ)) (ha : PA X (e :: es) t)
    (hst : starEach (e :: es) X.env = (false, eval e X.env) :: starEach es X.env := by rfl) (hpl : (backTo pos (starEach es X.env)).any (·.1) = false := by rfl)
    (ht : eval (.Call (.Attribute o m apos) (e :: es) [] pos) X.env = (do
      let ov ← eval o X.env
      standAt apos.atName
      let (f, first) ← holding [ov] (getMethod ov m pl)
      callWith pos f first (backTo pos (starEach (e :: es) X.env)) (backToKw pos (keywordEach [] X.env))) := by rfl) :
    PE X (.Call (.Attribute o m apos) (e :: es) [] pos) (tMethS C m sp E ta t) := by
  refine ⟨fun pins s σ H Q I hw => ?_⟩
  refine PySem.W.methodCall_KW (pl := pl) (thn (he.run pins s σ H _ I hw) fun u s1 ⟨x, H1, I1, rx, a, dx, fs, ex, ea, l, q⟩ => ?_) ht
  subst ex
  cases rx
  refine getmeth_ok I1 ea c hm l ?_
  refine PySem.W.callWith_K (first := [.ref a]) (h₀ := X.base) I.ok.mod.kin hm.kp (thn (ha.run pos pins s1 σ H1 _ I1 q) fun us s2 ⟨vs, H2, I2, r, q2⟩ => ⟨I2.kIn, ?_⟩) hst hpl
  exact run_fnS (us := .ref a :: us) (vs := .ref a :: vs) F hr hb (hx σ) I2 (.cons rfl r) q2
theorem pe_methS0 {pl : Sem Bool} (he : PE X o ta) (c : Cls X.K C) (hm : Meth X.K C m f) (F : FnOk X.prog X.w X.K X.mg X.base CX k f fd ps sp) (hr : Room k X.A) (hb : Binds X.K fd ps []) (hx : ∀ σ, PassesAt CX X σ (E σ))
    (ht : eval (.Call (.Attribute o m apos) [] [] pos) X.env = (do
      let ov ← eval o X.env
      standAt apos.atName
      let (f, first) ← holding [ov] (getMethod ov m pl)
      callWith pos f first (backTo pos (starEach [] X.env)) (backToKw pos (keywordEach [] X.env))) := by rfl) :
    PE X (.Call (.Attribute o m apos) [] [] pos) (tMethS C m sp E ta tNil) := by
  refine ⟨fun pins s σ H Q I hw => ?_⟩
  refine PySem.W.methodCall_KW (pl := pl) (thn (he.run pins s σ H _ I hw) fun u s1 ⟨x, H1, I1, rx, a, dx, fs, ex, ea, l, q⟩ => ?_) ht
  subst ex
  cases rx
  refine getmeth_ok I1 ea c hm l ?_
  exact PySem.W.callWith_K0 (first := [.ref a]) I1.kIn hm.kp (run_fnS (us := [.ref a]) (vs := [.ref a]) F hr hb (hx σ) I1 (.cons rfl .nil) q)
/-- o.m(k = v, ..) -/
theorem pe_methN0 {pl : Sem Bool} (he : PE X o ta) (c : Cls X.K C) (hm : Meth X.K C m f) (F : FnOk X.prog X.w X.K X.mg X.base CX k f fd ps sp) (hr : Room k X.A) (hb : KBX X.K fd ps n ks g gV) (hx : ∀ σ, PassesAt CX X σ (E σ)) (hkw : PK X kws tk)
    (h0 : (backToKw pos (keywordEach kws X.env)).all (·.1.isSome) = true := by rfl) (hks : (backToKw pos (keywordEach kws X.env)).filterMap (·.1) = ks := by rfl)
    (h3 : ((backTo pos (starEach [] X.env)).any (·.1) || (backToKw pos (keywordEach kws X.env)).any (·.1.isNone)) = false := by rfl)
    (ht : eval (.Call (.Attribute o m apos) [] kws pos) X.env = (do
      let ov ← eval o X.env
      standAt apos.atName
      let (f, first) ← holding [ov] (getMethod ov m pl)
      callWith pos f first (backTo pos (starEach [] X.env)) (backToKw pos (keywordEach kws X.env))) := by rfl) :
    PE X (.Call (.Attribute o m apos) [] kws pos) (tMethN C m n ks.length gV sp E ta tNil tk) := by
  refine ⟨fun pins s σ H Q I hw => ?_⟩
  refine PySem.W.methodCall_KW (pl := pl) (thn (he.run pins s σ H _ I hw) fun u s1 ⟨x, H1, I1, rx, a, dx, fs, ex, ea, l, q⟩ => ?_) ht
  subst ex
  cases rx
  refine getmeth_ok I1 ea c hm l ?_
  refine PySem.W.callWith_KW0 (first := [.ref a]) (h₀ := X.base) I.ok.mod.kin hm.kp h0 (thn (hkw.run pos pins s1 σ H1 _ I1 q) fun ws s2 ⟨zs, H2, I2, rz, l1, l2, y2⟩ => ⟨I2.kIn, ?_⟩) h3
  rw [hks]
  exact runK (us := [.ref a]) (vs := [.ref a]) F hr hb (hx σ) I2 (.cons rfl .nil) rz l1 l2 y2
/-- a new instance whose maker may raise -/
theorem runMk {pins : List (Addr × Obj)} {σ : L2.St} {H : Hp} {s : Shared} {Q : VK} {us ws : List Value} (M : Mk X.K C f) (F : FnOk X.prog X.w X.K X.mg X.base CX k f fd ps sp) (hr : Room (k + 1) X.A)
    (hx : PassesAt CX X σ (E σ)) (I : Inv X pins σ H s) {args : List V} {as' : List Value} (ra : ∀ x, Vals (.ref x :: args) (.ref x :: as')) (hbt : ∀ s', X.K.In s'.heap → BindsTo s' fd ⟨Value.ref (s.heap.objs.size + 1) :: us, ks.zip ws⟩ (ps.zip (Value.ref (s.heap.objs.size + 1) :: as')))
    (h : ∀ x dx, H x = none → H dx = none → dx ≠ x → sp (.ref x :: args) (upd (upd H dx (.own x)) x (.ins C dx [])) (fun v H2 => v = .non ∧ Q (.ref x) H2) (E σ)) :
    wpAny (model X.prog X.w) X.A (call (.ref C) us (ks.zip ws)) (EP X pins σ Q) X.xe s := by
  have hq := h (s.heap.objs.size + 1) s.heap.objs.size (I.hok.fresh (Nat.le_succ _)) (I.hok.fresh (Nat.le_refl _)) (Nat.ne_of_lt (Nat.lt_succ_self _))
  have I2 := Inv.made (C := C) I
  refine wpAny_call (make_map (f := f) I.kIn M.makes M.init (beq_iff_eq.mp M.fn) (codeAny_mono (F.run _ X.stack _ _ ⟨Value.ref (s.heap.objs.size + 1) :: us, ks.zip ws⟩ (Value.ref (s.heap.objs.size + 1) :: as') _ _ (E σ) (hr.make C us (ks.zip ws))
    (I2.env0.make C us (ks.zip ws)) (hbt _ I2.kIn) (ra _) hq) fun r s' hq' => ?_))
  match r, hq' with
  | .error e, hq' => exact hx pins _ _ e s' I2 hq'
  | .ok (.ret u), hq' =>
    obtain ⟨v, H', I3, rv, ev, q3⟩ := I2.after hq'
    subst ev
    exact ⟨rv, ⟨V.ref (s.heap.objs.size + 1), H', I3, rfl, q3⟩⟩
theorem pe_makeS (M : Mk X.K C f) (F : FnOk X.prog X.w X.K X.mg X.base CX k f fd ps sp) (hr : Room (k + 1) X.A) (hg : Gl X x) (hm : X.mg x = some (.ref C)) (hb : Binds X.K fd ps []) (hx : ∀ σ, PassesAt CX X σ (E σ))
    (ha : PA X (e :: es) t) (hdb : (x == ("__debug__" : Str)) = false := by decide) (he : starEach (e :: es) X.env = (false, eval e X.env) :: starEach es X.env := by rfl) (hpl : (backTo pos (starEach es X.env)).any (·.1) = false := by rfl) :
    PE X (.Call (.Name x p) (e :: es) [] pos) (tMakeS C sp E t) := by
  refine ⟨fun pins s σ H Q I hw => ?_⟩
  refine wpAny_Call_Name_kw (ld_glob I hg hm ?_ hdb)
  refine PySem.W.callWith_K (h₀ := X.base) I.ok.mod.kin M.kp (thn (ha.run pos pins s σ H _ I hw) fun us s1 ⟨vs, H1, I1, r, q⟩ => ⟨I1.kIn, ?_⟩) he hpl
  have q0 := q (s1.heap.objs.size + 1) s1.heap.objs.size (I1.hok.fresh (Nat.le_succ _)) (I1.hok.fresh (Nat.le_refl _)) (Nat.ne_of_lt (Nat.lt_succ_self _))
  have hl : (Value.ref (s1.heap.objs.size + 1) :: us).length = ps.length := by
    have r2 : Vals (V.ref (s1.heap.objs.size + 1) :: vs) (Value.ref (s1.heap.objs.size + 1) :: us) := .cons rfl r
    rw [← r2.length]; exact F.len _ _ _ _ q0
  refine runMk (us := us) (ks := []) (ws := []) M F hr (hx σ) I1 (fun x => .cons rfl r) (fun s' k' => ?_) q
  have b := hb s' (Value.ref (s1.heap.objs.size + 1) :: us) k' (by rw [List.append_nil]; exact hl)
  rw [List.append_nil] at b
  exact b
/-- C(k = v, ..) -/
theorem pe_makeN0 (M : Mk X.K C f) (F : FnOk X.prog X.w X.K X.mg X.base CX k f fd ps sp) (hr : Room (k + 1) X.A) (hg : Gl X x) (hm : X.mg x = some (.ref C)) (hb : KBX X.K fd ps n ks g gV) (hx : ∀ σ, PassesAt CX X σ (E σ)) (hkw : PK X kws tk) (hg1 : ∀ (a : Value) (ws : List Value), ∃ as', g [a] ws = a :: as' ∧ ∀ b, g [b] ws = b :: as')
    (hg2 : ∀ (a : V) (zs : List V), ∃ as', gV [a] zs = a :: as' ∧ ∀ b, gV [b] zs = b :: as')
    (h0 : (backToKw pos (keywordEach kws X.env)).all (·.1.isSome) = true := by rfl) (hks : (backToKw pos (keywordEach kws X.env)).filterMap (·.1) = ks := by rfl)
    (hdb : (x == ("__debug__" : Str)) = false := by decide) (h3 : ((backTo pos (starEach [] X.env)).any (·.1) || (backToKw pos (keywordEach kws X.env)).any (·.1.isNone)) = false := by rfl) :
    PE X (.Call (.Name x p) [] kws pos) (tMakeN C n ks.length gV sp E tNil tk) := by
  refine ⟨fun pins s σ H Q I hw => ?_⟩
  refine wpAny_Call_Name_kw (ld_glob I hg hm ?_ hdb)
  refine PySem.W.callWith_KW0 (h₀ := X.base) I.ok.mod.kin M.kp h0 (thn (hkw.run pos pins s σ H _ I hw) fun ws s1 ⟨zs, H1, I1, rz, q⟩ => ⟨I1.kIn, ?_⟩) h3
  rw [hks]
  have q0 := q (s1.heap.objs.size + 1) s1.heap.objs.size (I1.hok.fresh (Nat.le_succ _)) (I1.hok.fresh (Nat.le_refl _)) (Nat.ne_of_lt (Nat.lt_succ_self _))
  obtain ⟨l1, l2, _⟩ := q0
  obtain ⟨as', e1, e2⟩ := hg1 (.ref (s1.heap.objs.size + 1)) ws
  obtain ⟨av, f1, f2⟩ := hg2 (.ref (s1.heap.objs.size + 1)) zs
  refine runMk (us := []) (ks := ks) (ws := ws) (args := av) (as' := as') M F hr (hx σ) I1 (fun x => ?_) (fun s' k' => ?_) (fun x dx n1 n2 n3 => ?_)
  · have r := hb.rel (vs := [.ref x]) (us := [.ref x]) (.cons rfl .nil) rz
    rw [f2, e2] at r
    exact r
  · have b := hb.to s' [Value.ref (s1.heap.objs.size + 1)] ws l1 (by rw [← rz.length]; exact l2)
    rw [e1] at b
    exact b
  · have q1 := (q x dx n1 n2 n3).2.2
    rw [f2] at q1
    exact q1
end
section
variable {σ : L2.St} {H : Hp} {Q : VK} {C : Addr} {m : Str} {n k : Nat} {gV : List V → List V → List V} {sp : Sp} {E : L2.St → XK} {ta : TE} {t tk : TA}
theorem omtS (h : ta σ H fun x H1 => ∃ a dx fs, x = .ref a ∧ H1 a = some (.ins C dx fs) ∧ fs.lookup m = none ∧ t σ H1 fun vs H2 => sp (x :: vs) H2 Q (E σ)) : tMethS C m sp E ta t σ H Q := h
theorem omtN (h : ta σ H fun x H1 => ∃ a dx fs, x = .ref a ∧ H1 a = some (.ins C dx fs) ∧ fs.lookup m = none ∧ t σ H1 fun vs H2 => tk σ H2 fun zs H3 => (x :: vs).length = n ∧ zs.length = k ∧ sp (gV (x :: vs) zs) H3 Q (E σ)) : tMethN C m n k gV sp E ta t tk σ H Q := h
theorem omkS (h : t σ H fun vs H1 => ∀ x dx, H1 x = none → H1 dx = none → dx ≠ x → sp (.ref x :: vs) (upd (upd H1 dx (.own x)) x (.ins C dx [])) (fun v H2 => v = .non ∧ Q (.ref x) H2) (E σ)) : tMakeS C sp E t σ H Q := h
theorem omkN (h : t σ H fun vs H1 => tk σ H1 fun zs H2 => ∀ x dx, H2 x = none → H2 dx = none → dx ≠ x → (V.ref x :: vs).length = n ∧ zs.length = k ∧ sp (gV (.ref x :: vs) zs) (upd (upd H2 dx (.own x)) x (.ins C dx [])) (fun v H3 => v = .non ∧ Q (.ref x) H3) (E σ)) : tMakeN C n k gV sp E t tk σ H Q := h
end
end HS
namespace HS
open PySem PySem.Spec PyProof.Rows L2
/-! ### xs.count(y) of plain data -/
def rCntD (K : PySem.W.Frag) : V → List V → Hp → VK → Prop := fun x xs H Q => ∃ (a : Addr) (y : V) (d : PyData) (ds : List PyData), x = V.ref a ∧ xs = [y] ∧ Dp K H (V.ref a) (.list ds) ∧ Dp K H y d ∧ SeqAt.shaped (.list ds) = true ∧ SeqAt.shaped d = true ∧ Q (.int (ds.countP fun z => PyData.eqv z d : Nat)) H
theorem mt_countD {X : Cx} (hu : X.A.units + 65 < cLine) : MtR X "list.count" (rCntD X.K) := by
  intro pins s σ H x xs v us Q I rx rxs h
  obtain ⟨a, y, d, ds, rfl, rfl, hl, hy, sl, sd, q⟩ := h
  cases rx
  match us, rxs with
  | [uy], .cons ry .nil =>
    obtain ⟨bs, r1⟩ := Dp.reads I d y uy hy ry
    have hxs : PyData.canLayAll0 ds = true := SeqAt.canLay_of_shaped sl
    have hroom : X.A.units + 1 + min (PyData.depthAll ds) d.depth < cLine := room_in_shaped sd hu
    match hl with
    | .lst hs ha =>
      obtain ⟨its, rv, ⟨⟨cls, dd, data, sls⟩, n, ho, hc, hdn, hdt⟩, hlen⟩ := I.list hs
      simp only at hc hdt
      subst hc hdt
      obtain ⟨as, h4⟩ := Dp.readsAll I ds _ its ha rv
      have hmap : its.map (SeqAt.readOf s.heap) = ds := SeqAt.readsAll_map ds its as hxs h4
      have ec : its.toArray.toList.countP (fun u => PyData.eqv (SeqAt.readOf s.heap u) d) = ds.countP fun z => PyData.eqv z d := by
        rw [← hmap, List.countP_map]; rfl
      refine call_meets PySem.F.slot_list_count ⟨_, ho, rfl⟩ PySem.F.entry_list_count (PySem.F.args_list_count_2 _ _)
        (SeqAt.list_countAt a its.toArray n dd sls uy (fun u => PyData.eqv (SeqAt.readOf s.heap u) d)) ⟨ho, SeqAt.items_eqAt (vs := its.toArray) (show ReadsAll s.heap its.toArray.toList ds as from h4) r1 hxs (SeqAt.canLay_of_shaped sd) hroom, ?_⟩
      refine ⟨.int (ds.countP fun z => PyData.eqv z d : Nat), H, I.tok _, ⟨s.toks, ?_⟩, q⟩
      show Value.int ((its.toArray.toList.countP (fun u => PyData.eqv (SeqAt.readOf s.heap u) d) : Nat) : Int) s.toks = Value.int ((ds.countP fun z => PyData.eqv z d : Nat) : Int) s.toks
      rw [ec]
end HS
namespace HS
open PySem PySem.Spec PyProof.Rows L2
theorem hu65 {A : PySem.Around} {k : Nat} (hr : L2.Room k A) : A.units + 65 < PySem.cLine := by have := hr.un; omega
section
variable {X : Cx} (K : PySem.W.Frag)
theorem kcountD (hu : X.A.units + 65 < cLine) (h : X.K = K := by rfl) : MtR X "list.count" (rCntD K) := h ▸ mt_countD hu
theorem kindexD (hu : X.A.units + 65 < cLine) (h : X.K = K := by rfl) : MtR X "list.index" (rIndexD K) := h ▸ mt_indexD hu
theorem kunl {tg : Expr} {n : Nat} {t : TGs} (p : PG X tg (gUnl X.K n t)) (h : X.K = K := by rfl) : PG X tg (gUnl K n t) := h ▸ p
end
section
variable {K : PySem.W.Frag} {σ : L2.St} {H : Hp} {Q : VK}
theorem gunl {n : Nat} {t : TGs} {a : Addr} {xs : List V} {q : L2.St → Hp → Prop} (h : SqL K H a xs) (e : xs.length = n) (k : t xs σ H q) : gUnl K n t (.ref a) σ H q := ⟨a, xs, rfl, h, e, k⟩
end
end HS
/-! What stands in a heap, told as one list: addresses that differ, each with what is known of its object. -/
namespace HS
open PySem PySem.Spec PyProof.Rows L2
abbrev WdL := List (Addr × (HO → Prop))
/-- H0: the heap at the entry; S: what may have changed there; l: what is known now -/
structure Wd (H0 H : Hp) (S : Addr → Prop) (l : WdL) : Prop where
  nd : (l.map (·.1)).Nodup
  at_ : ∀ x ∈ l, ∃ o, H x.1 = some o ∧ x.2 o
  kp : Keep S H0 H
  fr : ∀ x ∈ l, S x.1 ∨ H0 x.1 = none
section
variable {H0 H H' : Hp} {S : Addr → Prop} {l l' : WdL} {p q : Addr} {o : HO} {P P' : HO → Prop} {i j : Nat}
theorem Wd.nil : Wd H H S [] := ⟨.nil, fun _ h => absurd h List.not_mem_nil, .refl, fun _ h => absurd h List.not_mem_nil⟩
theorem nd_snoc {l : WdL} {P : HO → Prop} (nd : (l.map (·.1)).Nodup) (n : ∀ x ∈ l, x.1 ≠ p) : ((l ++ [(p, P)]).map (·.1)).Nodup := by
  rw [List.map_append, List.nodup_append]
  refine ⟨nd, List.nodup_cons.mpr ⟨List.not_mem_nil, .nil⟩, fun a ha b hb e => ?_⟩
  obtain ⟨x, hx, rfl⟩ := List.mem_map.mp ha
  have hb' : b = p := List.mem_singleton.mp hb
  exact n x hx (e.trans hb')
theorem mem_snoc {l : WdL} {x y : Addr × (HO → Prop)} (h : x ∈ l ++ [y]) : x ∈ l ∨ x = y := by
  rcases List.mem_append.mp h with h | h
  · exact .inl h
  · exact .inr (List.mem_singleton.mp h)
/-- what stood at the entry and may change -/
theorem Wd.old (W : Wd H0 H S l) (h : H p = some o) (hp : P o) (s : S p) (n : ∀ x ∈ l, x.1 ≠ p) : Wd H0 H S (l ++ [(p, P)]) := by
  refine ⟨nd_snoc W.nd n, fun x hx => ?_, W.kp, fun x hx => ?_⟩
  · rcases mem_snoc hx with hx | e
    · exact W.at_ x hx
    · subst e; exact ⟨o, h, hp⟩
  · rcases mem_snoc hx with hx | e
    · exact W.fr x hx
    · subst e; exact .inl s
theorem Wd.one (h : H p = some o) (hp : P o) (s : S p) : Wd H H S [(p, P)] := Wd.nil.old h hp s fun _ h => absurd h List.not_mem_nil
theorem Wd.get (W : Wd H0 H S l) (i : Nat) (e : l[i]? = some (p, P)) : ∃ o, H p = some o ∧ P o := W.at_ _ (List.mem_of_getElem? e)
theorem Wd.at (W : Wd H0 H S l) (i : Nat) (e : l[i]? = some (p, Eq o)) : H p = some o := by
  obtain ⟨o', h, e'⟩ := W.get i e
  cases e'; exact h
theorem Wd.sq {K : PySem.W.Frag} {xs : List V} (W : Wd H0 H S l) (i : Nat) (e : l[i]? = some (p, Eq (.lst xs))) : SqL K H p xs := HS.sq (W.at i e)
theorem Wd.same (W : Wd H0 H S l) (k : Keep (fun _ => False) H H') : Wd H0 H' S l :=
  ⟨W.nd, fun x hx => let ⟨o, h, z⟩ := W.at_ x hx; ⟨o, k _ _ h id, z⟩, W.kp.trans k.any, W.fr⟩
theorem Wd.miss (W : Wd H0 H S l) (h : H p = none) : ∀ x ∈ l, x.1 ≠ p := fun x hx e => by
  obtain ⟨o', h', _⟩ := W.at_ x hx
  rw [e, h] at h'; cases h'
/-- an object that some call has made: it was not there before the call -/
theorem Wd.made (W : Wd H0 H S l) {H1 : Hp} (k : Keep (fun _ => False) H H1) (h0 : H p = none) (h : H1 p = some o) (z : P o) : Wd H0 H1 S (l ++ [(p, P)]) := by
  have W1 := W.same k
  refine ⟨nd_snoc W.nd (W.miss h0), fun x hx => ?_, W1.kp, fun x hx => ?_⟩
  · rcases mem_snoc hx with hx | e
    · exact W1.at_ x hx
    · subst e; exact ⟨o, h, z⟩
  · rcases mem_snoc hx with hx | e
    · exact W.fr x hx
    · subst e
      by_cases s : S p
      · exact .inl s
      · exact .inr (W.kp.free h0 s)
theorem Wd.new (W : Wd H0 H S l) (h : H p = none) (z : P o) : Wd H0 (upd H p o) S (l ++ [(p, P)]) := W.made (Keep.new h) h upd_same z
/-- the same, the new heap by its name -/
theorem Wd.newG (W : Wd H0 H S l) (e : upd H p o = H') (h : H p = none) : Wd H0 H' S (l ++ [(p, Eq o)]) := e ▸ W.new h rfl
theorem nd_ne {l : WdL} (nd : (l.map (·.1)).Nodup) (e1 : l[i]? = some (p, P)) (e2 : l[j]? = some (q, P')) (h : i ≠ j) : p ≠ q := fun z => by
  have f1 : (l.map (·.1))[i]? = some p := by rw [List.getElem?_map, e1]; rfl
  have f2 : (l.map (·.1))[j]? = some q := by rw [List.getElem?_map, e2]; rfl
  have hl : i < (l.map (·.1)).length := (List.getElem?_eq_some_iff.mp f1).1
  exact h ((List.getElem?_inj hl nd).mp (by rw [f1, f2, z]))
theorem Wd.ne (W : Wd H0 H S l) (i j : Nat) (e1 : l[i]? = some (p, P)) (e2 : l[j]? = some (q, P')) (h : i ≠ j := by decide) : p ≠ q := nd_ne W.nd e1 e2 h
theorem Wd.no (W : Wd H0 H S l) (i : Nat) (e : l[i]? = some (p, P)) (h : H q = none) : q ≠ p := fun z => by
  obtain ⟨o, h', _⟩ := W.get i e
  rw [z, h'] at h; cases h
/-- the i-th object changes, all else stands -/
theorem Wd.chg (W : Wd H0 H S l) (i : Nat) (e : l[i]? = some (p, P)) (k : Keep (fun a => a = p) H H') (h : H' p = some o) (z : P' o) : Wd H0 H' S (l.set i (p, P')) := by
  have hi : i < l.length := (List.getElem?_eq_some_iff.mp e).1
  have em : (l.set i (p, P')).map (·.1) = l.map (·.1) := by
    apply List.ext_getElem?
    intro j
    rw [List.getElem?_map, List.getElem?_map, List.getElem?_set]
    by_cases hj : i = j
    · subst hj; rw [if_pos rfl, if_pos hi, e]; rfl
    · rw [if_neg hj]
  have hm : ∀ x ∈ l.set i (p, P'), x = (p, P') ∨ (x ∈ l ∧ x.1 ≠ p) := fun x hx => by
    obtain ⟨j, hj⟩ := List.getElem?_of_mem hx
    rw [List.getElem?_set] at hj
    by_cases hij : i = j
    · rw [if_pos hij, if_pos hi] at hj
      exact .inl (Option.some.inj hj).symm
    · rw [if_neg hij] at hj
      exact .inr ⟨List.mem_of_getElem? hj, fun y => nd_ne W.nd e (show l[j]? = some (x.1, x.2) from hj) hij y.symm⟩
  have sp := W.fr _ (List.mem_of_getElem? e)
  refine ⟨by rw [em]; exact W.nd, fun x hx => ?_, fun a u ha n => ?_, fun x hx => ?_⟩
  · rcases hm x hx with rfl | ⟨hx, n⟩
    · exact ⟨o, h, z⟩
    · obtain ⟨u, hu, y⟩ := W.at_ x hx
      exact ⟨u, k _ _ hu n, y⟩
  · refine k _ _ (W.kp _ _ ha n) fun y => ?_
    subst y
    rcases sp with sp | sp
    · exact n sp
    · rw [sp] at ha; cases ha
  · rcases hm x hx with rfl | ⟨hx, n⟩
    · exact sp
    · exact W.fr x hx
theorem Wd.chgE (W : Wd H0 H S l) (i : Nat) (e : l[i]? = some (p, P)) (k : Keep (fun a => a = p) H H') (h : H' p = some o) : Wd H0 H' S (l.set i (p, Eq o)) := W.chg i e k h rfl
theorem Wd.put (W : Wd H0 H S l) (i : Nat) (e : l[i]? = some (p, P)) (z : P' o) : Wd H0 (upd H p o) S (l.set i (p, P')) := W.chg i e (Keep.refl.at rfl) upd_same z
theorem Wd.putG (W : Wd H0 H S l) (i : Nat) (e : l[i]? = some (p, P)) (g : upd H p o = H') : Wd H0 H' S (l.set i (p, Eq o)) := g ▸ W.put i e rfl
/-- only some of it is told further -/
theorem Wd.sub (W : Wd H0 H S l) (h : l'.Sublist l) : Wd H0 H S l' := ⟨W.nd.sublist (h.map _), fun x hx => W.at_ x (h.subset hx), W.kp, fun x hx => W.fr x (h.subset hx)⟩
theorem Wd.take (W : Wd H0 H S l) (n : Nat) : Wd H0 H S (l.take n) := W.sub (List.take_sublist n l)
theorem Wd.weak (W : Wd H0 H S l) (i : Nat) (e : l[i]? = some (p, P)) (z : ∀ o, P o → P' o) : Wd H0 H S (l.set i (p, P')) := by
  obtain ⟨o, h, y⟩ := W.get i e
  exact W.chg i e .refl h (z o y)
/-- an object that a call has made which changed told objects besides: W before it, W' behind it -/
theorem Wd.madeT {H1 : Hp} (W : Wd H0 H S l) (W' : Wd H0 H1 S l') (e : l'.map (·.1) = l.map (·.1)) (h0 : H p = none) (h : H1 p = some o) (z : P o) : Wd H0 H1 S (l' ++ [(p, P)]) := by
  have n : ∀ x ∈ l', x.1 ≠ p := fun x hx y => by
    have hm : p ∈ l.map (·.1) := by rw [← e, ← y]; exact List.mem_map_of_mem hx
    obtain ⟨u, hu, eu⟩ := List.mem_map.mp hm
    exact W.miss h0 u hu eu
  refine ⟨nd_snoc W'.nd n, fun x hx => ?_, W'.kp, fun x hx => ?_⟩
  · rcases mem_snoc hx with hx | e
    · exact W'.at_ x hx
    · subst e; exact ⟨o, h, z⟩
  · rcases mem_snoc hx with hx | e
    · exact W'.fr x hx
    · subst e
      by_cases s : S p
      · exact .inl s
      · exact .inr (W.kp.free h0 s)
theorem Wd.keep (W : Wd H0 H S l) : Keep S H0 H := W.kp
/-- a change of several told objects and of nothing else -/
theorem Wd.chgs {T : Addr → Prop} (W : Wd H0 H S l) (k : Keep T H H') (hT : ∀ a, T a → S a ∨ H0 a = none) (f : ∀ x ∈ l, ¬ T x.1 ∨ ∃ o, H' x.1 = some o ∧ x.2 o) : Wd H0 H' S l := by
  refine ⟨W.nd, fun x hx => ?_, fun a u ha n => k _ _ (W.kp _ _ ha n) fun y => ?_, W.fr⟩
  · rcases f x hx with n | y
    · obtain ⟨u, hu, y⟩ := W.at_ x hx
      exact ⟨u, k _ _ hu n, y⟩
    · exact y
  · rcases hT a y with z | z
    · exact n z
    · rw [z] at ha; cases ha
theorem Wd.chgO (W : Wd H0 H S l) (k : Keep (fun a => a = p) H H') (hp : ∀ x ∈ l, x.1 ≠ p) (s : S p ∨ H0 p = none) : Wd H0 H' S l :=
  W.chgs k (fun a e => by cases (show a = p from e); exact s) fun x hx => .inl (hp x hx)
end
end HS
/-! Equal plain data. -/
namespace HS
open PySem PySem.Spec PyProof.Rows L2
section
variable {K : PySem.W.Frag} {H : Hp} {Q : VK} {x y : V} {d : PyData}
theorem neSame (h1 : Dp K H x d) (h2 : Dp K H y d) (sh : SeqAt.shaped d = true) (e : PyData.eqv d d = true) (q : Q (.bl false) H) : rNeD K x y H Q := ⟨d, d, h1, h2, sh, sh, by rw [e]; exact q⟩
theorem eqSame (h1 : Dp K H x d) (h2 : Dp K H y d) (sh : SeqAt.shaped d = true) (e : PyData.eqv d d = true) (q : Q (.bl true) H) : rEqD K x y H Q := ⟨d, d, h1, h2, sh, sh, by rw [e]; exact q⟩
def dSI (s : Str) (i : Int) : PyData := .list [.str s, .int i]
theorem dp_SI {a : Addr} {s : Str} {i : Int} (h : SqL K H a [.str s, .int i]) : Dp K H (.ref a) (dSI s i) := .lst h (.cons (.str s) (.cons (.int i) .nil))
theorem sh_SI (s : Str) (i : Int) (h : PyData.strOk s = true := by decide +kernel) : SeqAt.shaped (dSI s i) = true := by simp [h, SeqAt.shaped, dSI, PyData.canLay0, PyData.canLayAll0, PyData.depth, PyData.depthAll]
theorem eqv_SI (s : Str) (i : Int) : PyData.eqv (dSI s i) (dSI s i) = true := by simp [dSI, PyData.eqv, PyData.eqvAll]
def dSN (s : Str) : PyData := .list [.str s, .none]
theorem dp_SN {a : Addr} {s : Str} (h : SqL K H a [.str s, .non]) : Dp K H (.ref a) (dSN s) := .lst h (.cons (.str s) (.cons .non .nil))
theorem sh_SN (s : Str) (h : PyData.strOk s = true := by decide +kernel) : SeqAt.shaped (dSN s) = true := by simp [h, SeqAt.shaped, dSN, PyData.canLay0, PyData.canLayAll0, PyData.depth, PyData.depthAll]
theorem eqv_SN (s : Str) : PyData.eqv (dSN s) (dSN s) = true := by simp [dSN, PyData.eqv, PyData.eqvAll]
def dII (a b : List Int) : PyData := .list [dInts a, dInts b]
theorem dp_II {p a b : Addr} {xs ys : List Int} (h : SqL K H p [.ref a, .ref b]) (h1 : SqL K H a (xs.map V.int)) (h2 : SqL K H b (ys.map V.int)) : Dp K H (.ref p) (dII xs ys) := .lst h (.cons (dp_ints h1) (.cons (dp_ints h2) .nil))
theorem sh_II (a b : List Int) : SeqAt.shaped (dII a b) = true := by simp [SeqAt.shaped, dII, dInts, PyData.canLay0, PyData.canLayAll0, PyData.depth, PyData.depthAll, lay_ints, dep_ints]
theorem eqv_II (a b : List Int) : PyData.eqv (dII a b) (dII a b) = true := by simp [dII, PyData.eqv, PyData.eqvAll, eqv_ints]
end
end HS
/-! enumerate of a tuple; max with a default (own lemmas over PyProof.Draws and KE.DatumOrd). -/
namespace HS
open PySem PySem.Spec PyProof.Rows L2
/-- enumerate(t) where t's iterator begins as told -/
theorem enum_from1 {v : Value} {o : Obj} {G : Heap → Prop} (B : Begins v o G) :
    Meets (Builtin.«enumerate.__new__» ⟨[.type "enumerate", v], []⟩) (fun _ R s => G s.heap ∧
      R (.ok (.ret (.ref (s.heap.push o).objs.size))) { s with heap := (s.heap.push o).push { cls := .type "enumerate", data := .fields #[.none, .bool false, .ref s.heap.objs.size, rawInt 0, .none, .none] } }) := by
  refine .of_wp fun prog w A R s h => ?_
  obtain ⟨hp, g, d, tk, os⟩ := s
  obtain ⟨hg, hR⟩ := h
  have hsub := sub_enumerate
  have start : ∀ {A' : Around} {E Q : Value → Shared → Prop}, Q (.ref hp.objs.size) ⟨hp.push o, g, d, tk, os⟩ → wpAny (model prog w) A' (pyIter v) Q E ⟨hp, g, d, tk, os⟩ := fun q => B.iter prog w _ _ ⟨hp, g, d, tk, os⟩ _ hg q
  wp_walk using start
  refine wpAny_stack_any fun st => wpAny_pure ?_
  split
  · rename_i c _ _ _ _ _
    cases (c == Value.type "enumerate")
    all_goals
      wp_walk using start
      exact ⟨_, rfl, hR⟩
  · wp_walk using start
    exact ⟨_, rfl, hR⟩
theorem enum_new1 {prog : Program} {w : World} {A : Around} {E : Value → Shared → Prop} {s : Shared} {v : Value} {o : Obj} {G : Heap → Prop} {Q : Value → Shared → Prop} (B : Begins v o G) (hg : G s.heap)
    (h : ∀ h', IsEnum h' (s.heap.objs.size + 1) s.heap.objs.size 0 .none → h'.get? s.heap.objs.size = some o → (∀ b u, s.heap.get? b = some u → h'.get? b = some u) → Q (.ref (s.heap.objs.size + 1)) { s with heap := h' }) :
    wpAny (model prog w) A (call (.type "enumerate") [v]) Q E s := by
  have z1 : (s.heap.push o).objs.size = s.heap.objs.size + 1 := Heap.size_push ..
  have he : IsEnum ((s.heap.push o).push { cls := .type "enumerate", data := .fields #[.none, .bool false, .ref s.heap.objs.size, rawInt 0, .none, .none] }) (s.heap.objs.size + 1) s.heap.objs.size 0 .none :=
    z1 ▸ Heap.get?_push_size (s.heap.push o) rfl
  refine callType_new PySem.F.called_enumerate (by decide) (PySem.F.typeCall_enumerate_1 _) (PySem.F.newCall_enumerate_1 _) (fun obj => PySem.F.args_object_init_2 obj _) PySem.F.entry_enumerate_new (enum_from1 B) ⟨hg, ?_⟩
  show _ ∧ _
  rw [z1]
  exact ⟨⟨_, he, rfl⟩, h _ he (Heap.get?_push_of_some _ (Heap.get?_push_size _ B.free)) fun b u e => Heap.get?_push_of_some _ (Heap.get?_push_of_some _ e)⟩
/-- the tuple at a, each item in a new pair with its place -/
def IteT (K : PySem.W.Frag) (a : Addr) : It :=
  ⟨fun i H => ∃ (xs : List V) (x : V), SqT K H a xs ∧ xs[i]? = some x, fun i H v H' => ∃ T x, v = .ref T ∧ H T = none ∧ H' = upd H T (.tup [.int (i : Nat), x]) ∧ ∀ xs, SqT K H a xs → xs[i]? = some x, fun i H => ∃ xs : List V, SqT K H a xs ∧ xs.length ≤ i⟩
theorem turn_enumT {P : Program} {w : World} {K : PySem.W.Frag} {elts : List Expr} {kk : Nat} {tpos : Pos} (a e it : Addr) :
    Turn P w K (.Tuple elts kk tpos) (IteT K a) [e, it] e (fun i h => (∃ old, IsEnum h e it ((i : Nat) : Int) old) ∧ h.IsTupleIter it a i ∧ e ≠ it) where
  mem := List.mem_cons_self
  obj := fun i h ⟨⟨old, he⟩, ⟨o, ho, hc, hd⟩, _⟩ b hb => by
    rcases List.mem_cons.mp hb with z | z
    · rw [z]
      exact ⟨_, he, fun v q => nomatch q⟩
    · exact ⟨o, (List.mem_singleton.mp z) ▸ ho, fun v q => by rw [hd] at q; cases q⟩
  keep := fun i h h' ⟨⟨old, he⟩, hi, hne⟩ k => ⟨⟨old, k e List.mem_cons_self _ he⟩, hi.at fun o q => k it (List.mem_cons_of_mem _ List.mem_cons_self) o q, hne⟩
  item := by
    intro X hP hw hK hc i pins s σ H E I hf st hg
    subst hP hw hK
    obtain ⟨⟨old, he⟩, hit, hne⟩ := st
    obtain ⟨xs, x, hq, hx⟩ := hg
    obtain ⟨its, rv, pt, _⟩ := I.tuple hq
    obtain ⟨u, hu, ru⟩ := rv.get hx
    have hel := Heap.lt_size he
    have hil : it < s.heap.objs.size := let ⟨_, q, _⟩ := hit; Heap.lt_size q
    have ait : a ≠ it := fun z => by
      obtain ⟨o1, g1, c1, _⟩ := pt
      obtain ⟨o2, g2, c2, _⟩ := hit
      rw [z, g2] at g1
      cases g1
      rw [c2] at c1
      exact absurd (Value.type.inj c1) (by decide)
    have ae : e ≠ a := fun z => by
      obtain ⟨o1, g1, c1, _⟩ := pt
      rw [← z, he] at g1
      cases g1
      exact absurd (Value.type.inj c1) (by decide)
    have hi : i < its.toArray.size := by rw [List.size_toArray]; exact (List.getElem?_eq_some_iff.mp hu).1
    refine wpAny_pyNext_enum_itemD (Draws.tuple (A := X.A.in1) (show X.A.in1.handled = none from I.ok.hd hc) it a ait its.toArray) he ⟨hit, pt⟩ hi hne (fun z => ?_) fun y h' tk py ho st' hT _ hk => ?_
    · rcases List.mem_cons.mp z with z | z
      · exact hne z
      · exact ae (List.mem_singleton.mp z)
    have ey : y = u := by
      have py' : its.toArray[i]? = some y := py
      rw [List.getElem?_toArray, hu] at py'
      exact (Option.some.inj py').symm
    subst ey
    refine ⟨_, rfl, wpAny_letOwnedTupleGo_enum (s := { s with heap := h', toks := tk + 1 }) ho fun h2 he2 sb => ?_⟩
    have hT2 : h2.get? s.heap.objs.size = some { cls := .type "tuple", data := .seq #[.int i tk, y] } := (sb.2 _ (Nat.ne_of_gt hel)).trans hT
    have new : ObjOk X.prog X.w (upd H s.heap.objs.size (.tup [.int (i : Nat), x])) h2 s.heap.objs.size (.tup [.int (i : Nat), x]) :=
      ⟨by show 2 ≤ sizeLine; decide, [.int i tk, y], .cons ⟨_, rfl⟩ (.cons ru .nil), ⟨_, hT2, rfl, _, rfl⟩⟩
    have I1 : Inv X pins σ (upd H s.heap.objs.size (.tup [.int (i : Nat), x])) { s with heap := h2, toks := tk + 1 } :=
      I.turnedNew (ch := [e, it]) (fun b ob hb q => (sb.2 b fun z => hb (z ▸ List.mem_cons_self)).trans (hk b ob (fun z => hb (z ▸ List.mem_cons_self)) (fun z => hb (z ▸ List.mem_cons_of_mem _ List.mem_cons_self)) q)) hf (Nat.le_refl _) new
    refine ⟨.ref s.heap.objs.size, _, I1, rfl, ⟨_, x, rfl, I.hok.fresh (Nat.le_refl _), rfl, fun ys hy => by rw [I.tuple_inj hy hq]; exact hx⟩, ⟨⟨y, ?_⟩, st'.1.at fun o q => (sb.2 it (Ne.symm hne)).trans q, hne⟩, fun b hb => ?_⟩
    · rw [show ((i + 1 : Nat) : Int) = (i : Int) + 1 by omega]
      exact he2
    · have hlt : b < s.heap.objs.size := by
        rcases List.mem_cons.mp hb with z | z
        · exact z ▸ hel
        · exact (List.mem_singleton.mp z) ▸ hil
      rw [upd_ne (Nat.ne_of_lt hlt)]
      exact (hf b hb).1
  done := by
    intro X hP hw hK hc i pins s σ H E I hf st hg
    subst hP hw hK
    obtain ⟨⟨old, he⟩, hit, hne⟩ := st
    obtain ⟨xs, hq, hx⟩ := hg
    obtain ⟨its, rv, pt, _⟩ := I.tuple hq
    obtain ⟨f0, f1, f2, f3, f4, f5⟩ := hf it (List.mem_cons_of_mem _ List.mem_cons_self)
    have hl := rv.length
    have T : s.TypeIs (.ref e) "enumerate" := ⟨_, he, rfl⟩
    unfold pyNext
    refine wpAny_bind (wpAny_attempt (wpAny_callSpecial?_slot (name := Str.ofString "__next__") T PySem.F.slot_enumerate_next
      (wpAny_call_entry PySem.F.slot_enumerate_next T PySem.F.entry_enumerate_next ?_ (PySem.F.args_enumerate_next_1 _))))
    show wpAny _ _ (field (.ref e) 2 >>= _) _ _ _
    refine wpAny_bind (wpAny_field he rfl (x := .ref it) rfl ?_)
    refine wpAny_bind (wpAny_nextOf_tuple_end (I.ok.hd hc) hit pt (by simp; omega) fun h' z hb hz => ?_)
    obtain ⟨o, ho, hcl⟩ := hz
    refine wpAny_bind (wpAny_isInstance (T := "StopIteration") (b := true) ⟨o, ho, hcl⟩ isSubtype_stop ?_)
    exact wpAny_pure ⟨rfl, I.turned (t' := s.toks) (fun b ob nb q => hb b ob nb q) f0 f1 f3 f4 f5⟩
  self := fun A i s Q E ⟨⟨_, he⟩, _⟩ h => wpAny_pyIter_enum he h
/-- enumerate of a list or of a tuple -/
def iEnumA (K : PySem.W.Frag) (ta : TA) : TI := fun σ H R => ta σ H fun vs H1 => ∃ a xs, vs = [.ref a] ∧ ((SqL K H1 a xs ∧ R (Ite K a) H1) ∨ (SqT K H1 a xs ∧ R (IteT K a) H1))
theorem pi_enumA {X : Cx} {e : Expr} {ta : TA} {p pos tpos : Pos} {elts : List Expr} {kk : Nat} (hg : Gl X "enumerate") (hm : X.mg "enumerate" = none) (ha : PA X [e] ta) (hs : starEach [e] X.env = [(false, eval e X.env)] := by rfl) :
    PI X (.Tuple elts kk tpos) (.Call (.Name "enumerate" p) [e] [] pos) (iEnumA X.K ta) := by
  refine ⟨fun pins s σ H R I h => ?_⟩
  refine Call_ (ld_blt I hg hm boot_enumerate (PyProof.Rows.callWith_type1 (thn (ha.run pos pins s σ H _ I h) fun us s1 ⟨vs, H1, I1, r1, a, xs, ex, q⟩ => ?_) hs rfl))
  subst ex
  cases r1 with
  | cons r rr =>
    cases rr
    cases r
    have ends : ∀ {h' : Heap} {fp : List Addr}, (∀ b u, s1.heap.get? b = some u → h'.get? b = some u) → ∀ b ∈ [s1.heap.objs.size + 1, s1.heap.objs.size], FpOk X pins H1 b := fun _ b hb => by
      have : s1.heap.objs.size ≤ b := by
        rcases List.mem_cons.mp hb with z | z
        · exact z ▸ Nat.le_succ _
        · exact (List.mem_singleton.mp z) ▸ Nat.le_refl _
      exact I1.fpOk this (I1.hok.fresh this)
    rcases q with ⟨hq, q⟩ | ⟨hq, q⟩
    · obtain ⟨its, _, pl, _⟩ := I1.list hq
      refine enum_new1 (begins_list a its.toArray) pl.isList fun h' he hi hk => wpAny_pyIter_enum he ?_
      exact ⟨_, [s1.heap.objs.size + 1, s1.heap.objs.size], _, _, H1, rfl, I1.kept (t' := s1.toks) hk, turn_enum a _ _, ⟨⟨.none, he⟩, ⟨_, hi, rfl, rfl⟩, Nat.succ_ne_self _⟩, ends (fp := []) hk, q⟩
    · obtain ⟨its, _, pt, _⟩ := I1.tuple hq
      refine enum_new1 (begins_tuple a its.toArray) pt fun h' he hi hk => wpAny_pyIter_enum he ?_
      exact ⟨_, [s1.heap.objs.size + 1, s1.heap.objs.size], _, _, H1, rfl, I1.kept (t' := s1.toks) hk, turn_enumT a _ _, ⟨⟨.none, he⟩, ⟨_, hi, rfl, rfl⟩, Nat.succ_ne_self _⟩, ends (fp := []) hk, q⟩
theorem walk_enumT {K : PySem.W.Frag} {a : Addr} {xs : List V} : Walk (IteT K a) xs.length (fun H => SqT K H a xs) (YPair (fun i => some (.int (i : Nat))) (fun i => xs[i]?)) :=
  ⟨fun i _ hi q => ⟨xs, xs[i], q, List.getElem?_eq_getElem hi⟩, fun _ q => ⟨xs, q, Nat.le_refl _⟩, fun i H v H' _ q ⟨T, x, h1, h2, h3, h4⟩ => ⟨T, .int (i : Nat), x, h1, h2, h3, rfl, h4 xs q⟩⟩
/-- a list or a tuple -/
def SqA (K : PySem.W.Frag) (H : Hp) (a : Addr) (xs : List V) : Prop := SqL K H a xs ∨ SqT K H a xs
section
variable {X : Cx} (K : PySem.W.Frag)
theorem kenA {tg l : Expr} {tl : TA} (p : PI X tg l (iEnumA X.K tl)) (h : X.K = K := by rfl) : PI X tg l (iEnumA K tl) := h ▸ p
end
/-- max(l, default=d) of whole numbers -/
def rMaxD (K : PySem.W.Frag) : List V → List V → Hp → VK → Prop := fun vs zs H Q => ∃ (a : Addr) (ns : List Int) (d : V), vs = [.ref a] ∧ zs = [d] ∧ SqL K H a (ns.map V.int) ∧ (ns = [] → Q d H) ∧ ∀ m, m ∈ ns → (∀ y ∈ ns, y ≤ m) → Q (.int m) H
theorem maxOf_int : ∀ (xs : List Int) (x : Int), PySem.W.maxOf x xs ∈ x :: xs ∧ ∀ y ∈ x :: xs, y ≤ PySem.W.maxOf x xs
  | [], x => ⟨List.mem_cons_self, fun y hy => by rw [List.mem_singleton.mp hy]; exact Int.le_refl _⟩
  | z :: zs, x => by
    have e : PySem.W.maxOf x (z :: zs) = PySem.W.maxOf (if x < z then z else x) zs := by
      unfold PySem.W.maxOf
      rw [List.foldl_cons]
      congr 1
      show (if decide (x < z) = true then z else x) = _
      by_cases h : x < z
      · rw [if_pos h, if_pos (decide_eq_true h)]
      · rw [if_neg h, if_neg (by simpa using h)]
    obtain ⟨h1, h2⟩ := maxOf_int zs (if x < z then z else x)
    rw [e]
    have h0 := h2 _ List.mem_cons_self
    have g1 : x ≤ (if x < z then z else x) ∧ z ≤ (if x < z then z else x) := by split <;> omega
    refine ⟨?_, fun y hy => ?_⟩
    · rcases List.mem_cons.mp h1 with h | h
      · rw [h]
        split
        · exact List.mem_cons_of_mem _ List.mem_cons_self
        · exact List.mem_cons_self
      · exact List.mem_cons_of_mem _ (List.mem_cons_of_mem _ h)
    · rcases List.mem_cons.mp hy with h | h
      · rw [h]
        exact Int.le_trans g1.1 h0
      · rcases List.mem_cons.mp h with h | h
        · rw [h]
          exact Int.le_trans g1.2 h0
        · exact h2 y (List.mem_cons_of_mem _ h)
theorem kmaxD {X : Cx} (K : PySem.W.Frag) (hc : X.calm = true) (hu : X.A.units + 65 < cLine) (h : X.K = K := by rfl) : CallRK X (.builtin "max") [Str.ofString "default"] (rMaxD K) := by
  subst h
  intro pins s σ H xs zs us ws Q I r rz ⟨a, ns, d, ex, ez, hs, q0, q⟩
  subst ex ez
  obtain ⟨its, rv, hl, _⟩ := I.list hs
  rw [Vals.ref1 r]
  cases rz with
  | cons rd rn =>
    cases rn
    rename_i u
    have ho : PySem.W.HoldAll s.heap its.toArray.toList ns := .of_ints rv.ints
    refine PySem.W.max_list_datum_default (α := Int) (I.ok.hd hc) hl.isList ho (by have : PySem.W.Datum.depth Int = 0 := rfl; omega) (fun e h' tk hk => ⟨d, H, I.kept hk, rd, q0 e⟩) fun y ys i v h' tk e hv hh hk => ?_
    obtain ⟨m1, m2⟩ := maxOf_int ys y
    obtain ⟨t, et⟩ : ∃ t, v = .int (PySem.W.maxOf y ys) t := PySem.W.int_of_holds hh
    exact ⟨.int (PySem.W.maxOf y ys), H, I.kept hk, ⟨t, et⟩, q _ (by rw [e]; exact m1) (by rw [e]; exact m2)⟩
section
variable {K : PySem.W.Frag} {σ : L2.St} {H : Hp} {Q : VK}
theorem mxd {a : Addr} {ns : List Int} {d : V} (h : SqL K H a (ns.map V.int)) (q0 : ns = [] → Q d H) (q : ∀ m, m ∈ ns → (∀ y ∈ ns, y ≤ m) → Q (.int m) H) : rMaxD K [.ref a] [d] H Q := ⟨a, ns, d, rfl, rfl, h, q0, q⟩
end
/-- a def with a star parameter: what it promises, the tuple told as the last argument -/
def starS (n : Nat) (sp : Sp) : Sp := fun vs H Q E => ∃ ws rest, vs = ws ++ rest ∧ ws.length = n ∧ rest.length ≤ sizeLine ∧ ∀ p, H p = none → sp (ws ++ [V.ref p]) (upd H p (.tup rest)) Q E
theorem Fun.star {P : Program} {w : World} {K : PySem.W.Frag} {mg : Str → Option Value} {base : Heap} {x qual pv : Str} {st : Stmt} {f : Addr} {fd : FuncData} {N ps : List Str} {k : Nat} {sp : Sp} (F : Fun K x qual st f fd) (S : FnScope N (ps ++ [pv]) (defScope st))
    (hb : ∀ us rest : List Value, us.length = ps.length → bindArgs fd ⟨us ++ rest, []⟩ = (newTuple rest >>= fun t => pure (ps.zip us ++ [(pv, t)])))
    (hbody : ∀ (cdv : Value) (A : Around) (outer : List Env) (s : Shared) (H : Hp) (vs : List V) (Q : VK) (E : XK), Room k (A.deeper (envOfC qual (defScope st) s.heap.objs.size f cdv)) → sp vs H Q E →
      ∃ t, PSs (cxOf (L2.CX P w) P w K mg base N qual (defScope st) f cdv A outer s H E) (defBody st) t ∧ t { nx := fun _ H' => Q .non H', rt := Q } (start N vs) H) :
    FnR P w K mg base (L2.CX P w) (k + 1) f (starS ps.length sp) := by
  obtain ⟨oc, od, kV, doc, pm, an, cdv, ct, osl, rfl, lk, hcd⟩ := F.ex
  exact StX.fn_star lk hcd S StX.cxUp hb fun A outer s H vs Q E hr h => hbody cdv A outer s H vs Q E hr h
section
variable {K : PySem.W.Frag} {σ : L2.St} {H : Hp} {Q : VK}
theorem oenA {ta : TA} {R : It → Hp → Prop} (h : ta σ H fun vs H1 => ∃ a xs, vs = [.ref a] ∧ ((SqL K H1 a xs ∧ R (Ite K a) H1) ∨ (SqT K H1 a xs ∧ R (IteT K a) H1))) : iEnumA K ta σ H R := h
theorem omR {C : Addr} {m : Str} {sp : Sp} {E : XK} {ta : TE} {t : TA} (h : ta σ H fun x H1 => ∃ a dx fs, x = .ref a ∧ H1 a = some (.ins C dx fs) ∧ fs.lookup m = none ∧ t σ H1 fun vs H2 => sp (x :: vs) H2 Q E) : tMethR C m sp E ta t σ H Q := h
end
end HS
/-! In a suite of a base class: isinstance of the exception, also by a tuple of classes, and its value. -/
namespace HS
open PySem PySem.Spec PyProof.Rows L2
theorem exc_here {X : Cx} {a D d : Addr} {oe : Obj} {pn pins : List (Addr × Obj)} {σ : L2.St} {H : Hp} {s : Shared} {fs : List (Str × V)} (I : Inv (X.suite a ((a, oe) :: pn)) pins σ H s) (hz : Zc (.ref D) (some d) oe) (hf : ∃ vs, oe.data = .fields vs) (hd : H d = some (.xd fs)) :
    ∃ (od : Obj) (mA : Str → Option Value), PySem.W.InstAt s.heap a oe D (some od) ∧ (∀ f, RelO (fs.lookup f) (mA f)) ∧ ∀ f, PySem.W.lookIn f od = some (mA f) := by
  obtain ⟨hget, _⟩ := I.pin (a, oe) (List.mem_append.mpr (.inl List.mem_cons_self))
  obtain ⟨vs, hv⟩ := hf
  have x2 : ObjOk X.prog X.w H s.heap d (.xd fs) := I.hok d _ hd
  obtain ⟨mA, hns, hr⟩ := x2
  obtain ⟨od, hod, hl⟩ := lookIn_ns hns
  exact ⟨od, mA, ⟨hget, hz.1, by unfold PySem.W.notCls; rw [hv] <;> rfl, by rw [hz.2]; exact hod⟩, hr, hl⟩
/-- what is asked of isinstance: a class, or a tuple of own classes -/
def AskB (K : PySem.W.Frag) (H : Hp) (D : Addr) (c : V) (b : Bool) : Prop := (∃ cv, ClsV c cv ∧ PySem.W.kitOne K (.ref D) cv = some b) ∨ ∃ (t : Addr) (cs : List Addr), c = .ref t ∧ SqT K H t (cs.map V.ref) ∧ PySem.W.kitAny K (.ref D) (cs.map Value.ref) = some b
def rIsP (K : PySem.W.Frag) (a : Addr) (cls : Value) (dx : Option Addr) : List V → Hp → VK → Prop := fun xs H Q => ∃ (D d : Addr) (fs : List (Str × V)) (c : V) (b : Bool), xs = [.ref a, c] ∧ cls = .ref D ∧ dx = some d ∧ H d = some (.xd fs) ∧ ExcC K D ∧ AskB K H D c b ∧ Q (.bl b) H
theorem vals_refs : ∀ {cs : List Addr} {its : List Value}, Vals (cs.map V.ref) its → its = cs.map Value.ref
  | [], _, .nil => rfl
  | c :: cs, _, .cons r rr => by cases r; rw [vals_refs rr]; rfl
theorem call_isP {X : Cx} {a : Addr} {oe : Obj} {cls : Value} {dx : Option Addr} {pn : List (Addr × Obj)} (K : PySem.W.Frag) (hz : Zc cls dx oe) (hf : ∃ vs, oe.data = .fields vs) (hK : X.K = K := by rfl) : CallR (X.suite a ((a, oe) :: pn)) (.builtin "isinstance") (rIsP K a cls dx) := by
  subst hK
  intro pins s σ H xs us Q I r hw
  obtain ⟨D, d, fs, c, b, e0, ec, ed, hd, T, ask, q⟩ := hw
  subst e0 ec ed
  match us, r with
  | [_, _], .cons rx (.cons rt .nil) =>
    cases rx
    obtain ⟨od, mA, here, _, _⟩ := exc_here I hz hf hd
    obtain ⟨cd, hcd, _⟩ := PySem.W.any_some T.hd
    rcases ask with ⟨cv, hcv, hb⟩ | ⟨t, cs, e1, ht, hb⟩
    · have e1 := hcv.eq rt
      subst e1
      exact PySem.W.kia_one (PySem.W.kitx_exc (by rw [hcd]; rfl) T.hg T.hk T.hs T.ha T.hn T.ht T.hm) I.kIn here hb (fun z => nomatch z) fun tk => ⟨.bl b, H, I.kept (t' := tk) fun _ _ z => z, rfl, q⟩
    · subst e1
      cases rt
      obtain ⟨its, rv, ⟨⟨oc, od', odt, osl⟩, ho, hc, n, hdt⟩, _⟩ := I.tuple ht
      dsimp only at hc hdt
      subst hc hdt
      rw [← vals_refs rv] at hb
      exact PySem.W.kia_tup (PySem.W.kitx_exc (by rw [hcd]; rfl) T.hg T.hk T.hs T.ha T.hn T.ht T.hm) I.kIn here ho hb (fun z => nomatch z) fun tk => ⟨.bl b, H, I.kept (t' := tk) fun _ _ z => z, rfl, q⟩
def tFldP (K : PySem.W.Frag) (a : Addr) (cls : Value) (dx : Option Addr) (f : Str) (te : TE) : TE := fun σ H Q => te σ H fun x H1 => x = .ref a ∧ ∃ (C d : Addr) (fs : List (Str × V)) (v : V), cls = .ref C ∧ dx = some d ∧ XfC K C ∧ PySem.W.findIn K (.ref C) f = some none ∧ H1 d = some (.xd fs) ∧ fs.lookup f = some v ∧ Q v H1
theorem pe_fldP {X : Cx} {a : Addr} {oe : Obj} {cls : Value} {dx : Option Addr} {pn : List (Addr × Obj)} {e : Expr} {te : TE} {pos : Pos} {f : Str} (K : PySem.W.Frag) (hz : Zc cls dx oe) (hf : ∃ vs, oe.data = .fields vs) (he : PE (X.suite a ((a, oe) :: pn)) e te)
    (hK : X.K = K := by rfl) (hb : attributeBase e f X.env (eval e X.env) = eval e X.env := by rfl) : PE (X.suite a ((a, oe) :: pn)) (.Attribute e f pos) (tFldP K a cls dx f te) := by
  subst hK
  refine ⟨fun pins s σ H Q I hw => attr_of hb (thn (he.run pins s σ H _ I hw) fun u s1 ⟨x, H1, I1, rx, e0, C, d, fs, v, ec, ed, T, hno, hd, l, q⟩ => ?_)⟩
  subst e0 ec ed
  cases rx
  obtain ⟨od, mA, here, hr, hl⟩ := exc_here I1 hz hf hd
  obtain ⟨w, hw, rw'⟩ := RelO.some_of (v := v) (o := mA f) (by rw [← l]; exact hr f)
  exact HandSPX.exc_get I1.kIn here T.ga T.gg T.exC (PySem.W.findObj_own T.hdC hno rfl (by rw [hl, hw])) (handed_of rw') ⟨v, H1, I1.tok _, rw', q⟩
section
variable {K : PySem.W.Frag} {σ : L2.St} {H : Hp} {Q : VK} {a D C d t : Addr} {fs : List (Str × V)} {b : Bool} {te : TE} {f : Str} {v : V}
theorem isP (T : ExcC K D) (hd : H d = some (.xd fs)) (hq : PySem.W.kitOne K (.ref D) (.ref C) = some b) (q : Q (.bl b) H) : rIsP K a (.ref D) (some d) [.ref a, .ref C] H Q := ⟨D, d, fs, _, b, rfl, rfl, rfl, hd, T, .inl ⟨_, .own C, hq⟩, q⟩
theorem isPt {n : String} (T : ExcC K D) (hd : H d = some (.xd fs)) (hq : PySem.W.kitOne K (.ref D) (.type n) = some b) (q : Q (.bl b) H) : rIsP K a (.ref D) (some d) [.ref a, .ty n] H Q := ⟨D, d, fs, _, b, rfl, rfl, rfl, hd, T, .inl ⟨_, .ty n, hq⟩, q⟩
theorem isPs {cs : List Addr} (T : ExcC K D) (hd : H d = some (.xd fs)) (ht : SqT K H t (cs.map V.ref)) (hq : PySem.W.kitAny K (.ref D) (cs.map Value.ref) = some b) (q : Q (.bl b) H) : rIsP K a (.ref D) (some d) [.ref a, .ref t] H Q := ⟨D, d, fs, _, b, rfl, rfl, rfl, hd, T, .inr ⟨t, cs, rfl, ht, hq⟩, q⟩
theorem fldP (h : te σ H fun x H1 => x = .ref a ∧ ∃ (C' d' : Addr) (fs : List (Str × V)) (v : V), Value.ref C = .ref C' ∧ some d = some d' ∧ XfC K C' ∧ PySem.W.findIn K (.ref C') f = some none ∧ H1 d' = some (.xd fs) ∧ fs.lookup f = some v ∧ Q v H1) : tFldP K a (.ref C) (some d) f te σ H Q := h
theorem kany_no {D : Addr} : ∀ {cs : List Addr}, (∀ c ∈ cs, PySem.W.kitOne K (.ref D) (.ref c) = some false) → PySem.W.kitAny K (.ref D) (cs.map Value.ref) = some false
  | [], _ => rfl
  | c :: cs, h => by
    unfold PySem.W.kitAny
    rw [List.map_cons]
    dsimp only
    rw [h c List.mem_cons_self]
    exact kany_no fun x hx => h x (List.mem_cons_of_mem _ hx)
end
end HS
/-! A method without arguments that takes a star; a generator method by keywords. -/
namespace HS
open PySem PySem.Spec PyProof.Rows L2
section
variable {X : Cx} {CX : CXT} {k n : Nat} {C f : Addr} {m : Str} {sp : Sp} {spg : SpG} {E : XK} {o : Expr} {ta : TE} {tk : TA} {apos pos : Pos} {kws : List Keyword} {ks ps : List Str} {fd : FuncData} {g : List Value → List Value → List Value} {gV : List V → List V → List V}
theorem pe_methR0 {pl : Sem Bool} (he : PE X o ta) (c : Cls X.K C) (hm : Meth X.K C m f) (F : FnR X.prog X.w X.K X.mg X.base CX k f sp) (hr : Room k X.A) (hx : Passes CX X E)
    (ht : eval (.Call (.Attribute o m apos) [] [] pos) X.env = (do
      let ov ← eval o X.env
      standAt apos.atName
      let (f, first) ← holding [ov] (getMethod ov m pl)
      callWith pos f first (backTo pos (starEach [] X.env)) (backToKw pos (keywordEach [] X.env))) := by rfl) :
    PE X (.Call (.Attribute o m apos) [] [] pos) (tMethR C m sp E ta tNil) := by
  refine ⟨fun pins s σ H Q I hw => PySem.W.methodCall_KW (pl := pl) (thn (he.run pins s σ H _ I hw) fun u s1 ⟨x, H1, I1, rx, a, dx, fs, ex, ea, l, q⟩ => ?_) ht⟩
  subst ex
  cases rx
  exact getmeth_ok I1 ea c hm l (PySem.W.callWith_K0 (first := [.ref a]) I1.kIn hm.kp (wpAny_call (run_fnR (us := [.ref a]) (vs := [.ref a]) F hr hx I1 (.cons rfl .nil) q)))
/-- what a generator method promises that is called by keywords -/
def tGenN (C : Addr) (m : Str) (n k : Nat) (gV : List V → List V → List V) (spg : SpG) (E : XK) (ta : TE) (tk : TA) : TGen := fun σ H cont => ta σ H fun x H1 => ∃ a dx fs, x = .ref a ∧ H1 a = some (.ins C dx fs) ∧ fs.lookup m = none ∧ tk σ H1 fun zs H2 => n = 1 ∧ zs.length = k ∧ spg (gV [x] zs) H2 cont E
theorem pgen_methN0 {pl : Sem Bool} (he : PE X o ta) (c : Cls X.K C) (hm : Meth X.K C m f) (F : GFn X.prog X.w X.K X.mg X.base k f fd ps spg) (hr : Room k X.A) (hb : KBX X.K fd ps n ks g gV) (hkw : PK X kws tk)
    (h0 : (backToKw pos (keywordEach kws X.env)).all (·.1.isSome) = true := by rfl) (hks : (backToKw pos (keywordEach kws X.env)).filterMap (·.1) = ks := by rfl)
    (h3 : ((backTo pos (starEach [] X.env)).any (·.1) || (backToKw pos (keywordEach kws X.env)).any (·.1.isNone)) = false := by rfl)
    (ht : eval (.Call (.Attribute o m apos) [] kws pos) X.env = (do
      let ov ← eval o X.env
      standAt apos.atName
      let (f, first) ← holding [ov] (getMethod ov m pl)
      callWith pos f first (backTo pos (starEach [] X.env)) (backToKw pos (keywordEach kws X.env))) := by rfl) :
    PGen X k (.Call (.Attribute o m apos) [] kws pos) (tGenN C m n ks.length gV spg E ta tk) E := by
  refine ⟨fun pins s σ H cont I hw => PySem.W.methodCall_KW (pl := pl) (thn (he.run pins s σ H _ I hw) fun u s1 ⟨x, H1, I1, rx, a, dx, fs, ex, ea, l, q⟩ => ?_) ht⟩
  subst ex
  cases rx
  refine getmeth_ok I1 ea c hm l ?_
  refine PySem.W.callWith_KW0 (first := [.ref a]) (h₀ := X.base) I.ok.mod.kin hm.kp h0 (thn (hkw.run pos pins s1 σ H1 _ I1 q) fun ws s2 ⟨zs, H2, I2, rz, e1, l2, y2⟩ => ⟨I2.kIn, ?_⟩) h3
  rw [hks]
  have l4 : ws.length = ks.length := by rw [← rz.length]; exact l2
  refine wpAny_call (codeAny_mono (F.run X.A X.stack s2 H2 ⟨[.ref a], ks.zip ws⟩ (g [.ref a] ws) (gV [.ref a] zs) cont E hr I2.env0 (hb.to s2 [.ref a] ws (by rw [e1]; rfl) l4) (hb.rel (.cons rfl .nil) rz) y2) fun r s' hq => ?_)
  match r, hq with
  | .error e, hq => exact hq.elim
  | .ok (.ret u), hq => exact ⟨H2, s2, [], I2, .nil, hq⟩
end
section
variable {σ : L2.St} {H : Hp} {cont : List V → Hp → Prop}
theorem ogenM {C : Addr} {m : Str} {sp : SpG} {dvs : List V} {E : XK} {ta : TE} {t : TA} (h : ta σ H fun x H1 => ∃ a dx fs, x = .ref a ∧ H1 a = some (.ins C dx fs) ∧ fs.lookup m = none ∧ t σ H1 fun vs H2 => sp (x :: (vs ++ dvs)) H2 cont E) : tMethG C m sp dvs E ta t σ H cont := h
theorem ogenN {C : Addr} {m : Str} {n k : Nat} {gV : List V → List V → List V} {spg : SpG} {E : XK} {ta : TE} {tk : TA} (h : ta σ H fun x H1 => ∃ a dx fs, x = .ref a ∧ H1 a = some (.ins C dx fs) ∧ fs.lookup m = none ∧ tk σ H1 fun zs H2 => n = 1 ∧ zs.length = k ∧ spg (gV [x] zs) H2 cont E) : tGenN C m n k gV spg E ta tk σ H cont := h
end
end HS
/-! A range that has a name. -/
namespace HS
open PySem PySem.Spec PyProof.Rows L2
/-- at a: the range from i to j - 1 -/
def rgo (a : Addr) (i j : Int) : HO := .ext fun h => ∃ t u v : Tok, IsRange h a i j 1 t u v
theorem rgo_ok {P : Program} {w : World} {H : Hp} {h : Heap} {a : Addr} {i j : Int} {t u v : Tok} (e : IsRange h a i j 1 t u v) : ObjOk P w H h a (rgo a i j) :=
  ⟨⟨t, u, v, e⟩, ⟨_, e⟩, fun _ _ ⟨t, u, v, q⟩ k => ⟨t, u, v, k _ q⟩⟩
def tRngV (ta : TA) : TE := fun σ H Q => ta σ H fun vs H1 => ∃ i j : Int, vs = [.int i, .int j] ∧ ∀ p, H1 p = none → Q (.ref p) (upd H1 p (rgo p i j))
def iRngV (te : TE) : TI := fun σ H R => te σ H fun x H1 => ∃ (a : Addr) (i j : Int), x = .ref a ∧ H1 a = some (rgo a i j) ∧ (-(2 ^ 62) ≤ i ∧ i < 2 ^ 62 ∧ -(2 ^ 62) ≤ j ∧ j < 2 ^ 62) ∧ R (Itr i (j - i).toNat) H1
section
variable {X : Cx}
theorem pe_rngV {a b : Expr} {ta : TA} {p pos : Pos} (hg : Gl X "range") (hm : X.mg "range" = none) (ha : PA X [a, b] ta) (hs : starEach [a, b] X.env = [(false, eval a X.env), (false, eval b X.env)] := by rfl) (hs2 : starEach [b] X.env = [(false, eval b X.env)] := by rfl) :
    PE X (.Call (.Name "range" p) [a, b] [] pos) (tRngV ta) := by
  refine ⟨fun pins s σ H Q I h => ?_⟩
  refine Call_ (ld_blt I hg hm boot_range (PyProof.Rows.callWith_type1 (thn (ha.run pos pins s σ H _ I h) fun us s1 ⟨vs, H1, I1, r1, q1⟩ => ?_) (by rw [hs, hs2]) (by rw [hs2]; rfl)))
  obtain ⟨i, j, e, q⟩ := q1
  subst e
  obtain ⟨u1, u2, rfl, ⟨t, rfl⟩, ⟨t', rfl⟩⟩ := r1.two
  exact call_range_2 ⟨.ref _, upd H1 s1.heap.objs.size (rgo s1.heap.objs.size i j), I1.laid (fun b u e => Heap.get?_push_of_some _ e) (Nat.le_refl _) (rgo_ok (IsRange.new ..)), rfl, q _ (I1.hok.fresh (Nat.le_refl _))⟩
theorem pi_rngV {tg e : Expr} {te : TE} (he : PE X e te) : PI X tg e (iRngV te) := by
  refine ⟨fun pins s σ H R I h => thn (he.run pins s σ H _ I h) fun w s1 ⟨x, H1, I1, rx, a, i, j, ex, ea, ⟨b1, b2, b3, b4⟩, q⟩ => ?_⟩
  subst ex
  cases rx
  have x2 : ObjOk X.prog X.w H1 s1.heap a (.ext fun h => ∃ t u v : Tok, IsRange h a i j 1 t u v) := I1.hok a _ ea
  obtain ⟨t, u, v, hr⟩ := x2.1
  refine wpAny_pyIter_range hr (small_one b1 b2 b3 b4) ?_
  refine ⟨s1.heap.objs.size, [s1.heap.objs.size], _, _, H1, rfl, I1.kept (t' := s1.toks) fun b o e => Heap.get?_push_of_some _ e, turn_range _ i (j - i).toNat, ?_, fun b hb => ?_, q⟩
  · have e2 : (((j - i).toNat : Nat) : Int) - ((0 : Nat) : Int) = Builtin.Range.rangeSize i j 1 := by rw [rangeSize_one]; split <;> omega
    show IsRangeIter _ _ (i + ((0 : Nat) : Int) * 1) ((((j - i).toNat : Nat) : Int) - ((0 : Nat) : Int)) 1
    rw [e2, show i + ((0 : Nat) : Int) * 1 = i by simp]
    exact Heap.get?_push_size _ rfl
  · rw [List.mem_singleton.mp hb]
    exact I1.fpOk (Nat.le_refl _) (I1.hok.fresh (Nat.le_refl _))
end
section
variable {σ : L2.St} {H : Hp} {Q : VK}
theorem orgV {ta : TA} (h : ta σ H fun vs H1 => ∃ i j : Int, vs = [.int i, .int j] ∧ ∀ p, H1 p = none → Q (.ref p) (upd H1 p (rgo p i j))) : tRngV ta σ H Q := h
theorem oirV {te : TE} {R : It → Hp → Prop} (h : te σ H fun x H1 => ∃ (a : Addr) (i j : Int), x = .ref a ∧ H1 a = some (rgo a i j) ∧ (-(2 ^ 62) ≤ i ∧ i < 2 ^ 62 ∧ -(2 ^ 62) ≤ j ∧ j < 2 ^ 62) ∧ R (Itr i (j - i).toNat) H1) : iRngV te σ H R := h
end
end HS
/-! list of a range. -/
namespace HS
open PySem PySem.Spec PyProof.Rows L2
def rgV (i : Int) (n : Nat) : List V := (List.range n).map fun (k : Nat) => V.int (i + k)
def rLstR : List V → Hp → VK → Prop := fun xs H Q => ∃ (a : Addr) (i j : Int), xs = [.ref a] ∧ H a = some (rgo a i j) ∧ (-(2 ^ 62) ≤ i ∧ i < 2 ^ 62 ∧ -(2 ^ 62) ≤ j ∧ j < 2 ^ 62) ∧ (j - i).toNat ≤ 100000 ∧ ∀ p, H p = none → Q (.ref p) (upd H p (.lst (rgV i (j - i).toNat)))
theorem valsAt : ∀ {xs : List V} {us : List Value}, xs.length = us.length → (∀ (j : Nat) (x : V) (u : Value), xs[j]? = some x → us[j]? = some u → RelV x u) → Vals xs us
  | [], [], _, _ => .nil
  | [], _ :: _, h, _ => by simp at h
  | _ :: _, [], h, _ => by simp at h
  | x :: xs, u :: us, h, f => .cons (f 0 x u rfl rfl) (valsAt (by simpa using h) fun j y w h1 h2 => f (j + 1) y w (by simpa using h1) (by simpa using h2))
theorem klrg {X : Cx} (hc : X.calm = true) : CallR X (.type "list") rLstR := by
  intro pins s σ H xs us Q I r h
  obtain ⟨a, i, j, rfl, ea, ⟨b1, b2, b3, b4⟩, hl, q⟩ := h
  obtain ⟨u, rfl, rx⟩ := vals1 r
  cases rx
  have x2 : ObjOk X.prog X.w H s.heap a (.ext fun h => ∃ t u v : Tok, IsRange h a i j 1 t u v) := I.hok a _ ea
  obtain ⟨t, u, v, hr⟩ := x2.1
  have len : (rgV i (j - i).toNat).length = (j - i).toNat := by unfold rgV; rw [List.length_map, List.length_range]
  refine call_list_range (n := (j - i).toNat) (I.ok.hd hc) hr (small_one b1 b2 b3 b4) (by rw [rangeSize_one]; split <;> omega) (by omega) fun h' tk acc' c' kp e hi => ?_
  refine ⟨.ref s.heap.objs.size, upd H s.heap.objs.size (.lst (rgV i (j - i).toNat)), I.laid kp (Nat.le_refl _) (show ObjOk X.prog X.w _ h' _ (.lst (rgV i (j - i).toNat)) from ⟨?_, acc'.toList, c', ?_, ?_⟩), rfl, q _ (I.hok.fresh (Nat.le_refl _))⟩
  · rw [len]; exact szl hl
  · have el : acc'.toList.length = acc'.size := by simp
    refine valsAt (by rw [len, el, hi.1]) fun m x w h1 h2 => ?_
    obtain ⟨t', e2⟩ := hi.2 m w (by rw [← Array.getElem?_toList]; exact h2)
    unfold rgV at h1
    rw [List.getElem?_map] at h1
    cases hm : (List.range (j - i).toNat)[m]? with
    | none => rw [hm] at h1; cases h1
    | some k =>
      rw [hm] at h1
      have hk : k = m := by
        have := List.getElem?_eq_some_iff.mp hm
        obtain ⟨_, g⟩ := this
        rw [List.getElem_range] at g
        exact g.symm
      cases h1
      rw [e2, hk, Int.mul_one]
      exact ⟨t', rfl⟩
  · rw [Array.toArray_toList]; exact e
theorem olrg {H : Hp} {Q : VK} {a : Addr} {i j : Int} (ea : H a = some (rgo a i j)) (b : -(2 ^ 62) ≤ i ∧ i < 2 ^ 62 ∧ -(2 ^ 62) ≤ j ∧ j < 2 ^ 62) (hl : (j - i).toNat ≤ 100000) (q : ∀ p, H p = none → Q (.ref p) (upd H p (.lst (rgV i (j - i).toNat)))) : rLstR [.ref a] H Q := ⟨a, i, j, rfl, ea, b, hl, q⟩
end HS
/-! ==, != and in, where one side is an object of a class with its own __eq__. -/
namespace HS
open PySem PySem.Spec PyProof.Rows L2
section
variable {prog : Program} {w : World} {A : Around} {E : Value → Shared → Prop} {s : Shared} {K : PySem.W.Frag} {x C f : Addr} {od : Option Obj} {ox : Obj} {b : Value}
/-- a special method that the class has from a builtin one -/
theorem bound_b {name : Str} {id T : String} {args : List Value} {Q : Option Value → Shared → Prop} (S : Slot T name id) (X : K.In s.heap) (I : PySem.W.InstAt s.heap x ox C od) (hs : PySem.W.findIn K (.ref C) name = some (some (.builtin id)))
    (h : wpAny (model prog w) A (call (.builtin id) (.ref x :: args)) (fun v => Q (some v)) E s) : wpAny (model prog w) A (callSpecialIfBound? (.ref x) name args) Q E s := by
  simp only [callSpecialIfBound?, bindSpecialIfBound?]
  refine wpAny_holding (wpAny_bind (wpAny_bind (wpAny_bind (I.type.here ((PySem.W.looks_findIn X hs).here ?_)))))
  simp only [S.bind]
  have stop : wpAny (model prog w) A (call (.builtin id) ([.ref x] ++ args) >>= fun v => pure (some v)) Q E s := wpAny_bind (wpAny_mono h (fun v s' q => wpAny_pure q) fun _ _ q => q)
  refine wpAny_bind (wpAny_askSetting (wpAny_ite ?_))
  split
  · exact wpAny_bind (wpAny_pure (wpAny_pure stop))
  · exact wpAny_tryCatch (wpAny_bind (wpAny_pure (wpAny_pure stop)))
/-- the object's own __ne__ asks its __eq__ -/
theorem ne_own {Q : Value → Shared → Prop} (X : K.In s.heap) (I : PySem.W.InstAt s.heap x ox C od) (hu : A.units + 1 < cLine) (ho : PySem.W.subIn K (.ref C) (.type "object") = some true) (he : PySem.W.findIn K (.ref C) "__eq__" = some (some (.ref f))) (hf : PySem.W.isFn K (.ref f) = true)
    (h : wpAny (model prog w) A.in1 (call (.ref f) [.ref x, b]) (fun v s' => ∃ k, v = .bool k ∧ Q (.bool (!k)) s') E s) : wpAny (model prog w) A (call (.builtin "object.__ne__") [.ref x, b]) Q E s := by
  have S := F.cmp_object.ne
  refine wpAny_call (codeAny_call_builtin S.plain F.cmpEntry_ne ?_)
  have body : wpAny (model prog w) A.in1 (Builtin.«object.__ne__» ⟨[.ref x, b], []⟩) (fun fin s' => match fin with | .done fl => wants Q E (.ok fl) s' | .again c => c.quiet = true ∧ codeAny (model prog w) A c (wants Q E) s') (fun e s' => wants Q E (.error e) s') s := by
    unfold Builtin.«object.__ne__»
    obtain ⟨hp, g, d, tk, os⟩ := s
    repeat (first
      | with_reducible refine wpAny_cRoomFor (show A.in1.units < cLine from hu) ?_
      | (refine wpAny_bind (m := callSpecialIfBound? (.ref x) (Str.ofString "__eq__") [b]) (PySem.W.ifBound_K X I he hf (wpAny_mono h (fun r s' hr => by
          obtain ⟨k, rfl, hq⟩ := hr
          repeat (first | exact hq | exact wpAny_pure hq | exact wpAny_truthy_bool hq | (refine wpAny_bind (m := truthy (.bool _)) (wpAny_truthy_bool ?_)) | wp_step)) fun _ _ e => e)))
      | wp_step)
  simp only [checkBuiltinCall, F.cmpKind_ne, F.cmpSplit_ne]
  refine wpAny_bind ?_
  unfold isInstance
  refine wpAny_bind (I.type.here ((PySem.W.looks_subIn X ho).here ?_))
  rw [if_neg (show ¬ ((!true) = true) from Bool.false_ne_true)]
  have ha := F.cmpArgs_ne (.ref x) b
  cases hsig : Manifest.signature? "object.__ne__" with
  | none => exact wpAny_pure body
  | some sig =>
    simp only [argsOk, hsig] at ha
    have h2 : Bind.checkArgs "object.__ne__" sig ⟨[.ref x, b], []⟩ = pure () := ha
    show wpAny _ A.in1 (Bind.checkArgs "object.__ne__" sig ⟨[.ref x, b], []⟩) _ _ _
    rw [h2]
    exact wpAny_pure body
/-- an own side comes first -/
theorem rc_own {op : CmpOp} {tb : Value} {Q : Value → Shared → Prop} (hu : A.units < cLine) (X : K.In s.heap) (I : PySem.W.InstAt s.heap x ox C od) (hb : PySem.W.Looks (model prog w) s.heap (typeOf b) tb) (hn : PySem.W.notFirst K C tb = true)
    (one : wpAny (model prog w) A (tryCompare (.ref x) (cmpInfo op).2.1 b) (fun r s' => ∃ v, r = some v ∧ Q v s') E s) : wpAny (model prog w) A (richCompare op (.ref x) b) Q E s := by
  unfold richCompare
  simp only [oneThing_ref]
  refine wpAny_holding (wpAny_bind (wpAny_cRoomFor hu (wpAny_bind (I.type.here (wpAny_bind (hb.here ?_))))))
  have go : ∀ {k : Option Value → Sem Value}, (∀ v, k (some v) = pure v) → wpAny (model prog w) A (tryCompare (.ref x) (cmpInfo op).2.1 b >>= k) Q E s := fun hk => wpAny_bind (wpAny_mono one (fun r s' ⟨v, e, q⟩ => by rw [e, hk]; exact wpAny_pure q) fun _ _ q => q)
  split
  · rename_i q
    have e : PySem.W.subIn K tb (.ref C) = some false := (Bool.or_eq_true_iff.mp hn).elim (fun e => by rw [beq_iff_eq.mp e] at q; simp at q) fun e => beq_iff_eq.mp e
    refine wpAny_bind ((PySem.W.looks_subIn X e).here ?_)
    simp only [Bool.false_eq_true, if_false]
    exact go fun v => rfl
  · refine wpAny_bind (wpAny_pure ?_)
    simp only [Bool.false_eq_true, if_false]
    exact go fun v => rfl
theorem rcEq_own {tb : Value} {Q : Value → Shared → Prop} (hu : A.units < cLine) (X : K.In s.heap) (I : PySem.W.InstAt s.heap x ox C od) (hb : PySem.W.Looks (model prog w) s.heap (typeOf b) tb) (hn : PySem.W.notFirst K C tb = true) (he : PySem.W.findIn K (.ref C) "__eq__" = some (some (.ref f)))
    (hf : PySem.W.isFn K (.ref f) = true) (h : wpAny (model prog w) A (call (.ref f) [.ref x, b]) (fun v s' => ∃ k, v = .bool k ∧ Q (.bool k) s') E s) : wpAny (model prog w) A (richCompare .Eq (.ref x) b) Q E s := by
  refine rc_own hu X I hb hn ?_
  unfold tryCompare
  refine wpAny_bind (PySem.W.ifBound_K X I he hf (wpAny_mono h (fun v s' ⟨k, e, q⟩ => ?_) fun _ _ q => q))
  subst e
  exact wpAny_pure ⟨_, rfl, q⟩
theorem rcNe_own {tb : Value} {Q : Value → Shared → Prop} (hu : A.units + 2 < cLine) (X : K.In s.heap) (I : PySem.W.InstAt s.heap x ox C od) (hb : PySem.W.Looks (model prog w) s.heap (typeOf b) tb) (hn : PySem.W.notFirst K C tb = true) (ho : PySem.W.subIn K (.ref C) (.type "object") = some true)
    (hne : PySem.W.findIn K (.ref C) "__ne__" = some (some (.builtin "object.__ne__"))) (he : PySem.W.findIn K (.ref C) "__eq__" = some (some (.ref f))) (hf : PySem.W.isFn K (.ref f) = true)
    (h : wpAny (model prog w) A.in1 (call (.ref f) [.ref x, b]) (fun v s' => ∃ k, v = .bool k ∧ Q (.bool (!k)) s') E s) : wpAny (model prog w) A (richCompare .NotEq (.ref x) b) Q E s := by
  refine rc_own (by omega) X I hb hn ?_
  unfold tryCompare
  refine wpAny_bind (bound_b F.cmp_object.ne X I hne (ne_own (Q := fun v s' => ∃ k, v = .bool k ∧ Q v s') X I (by omega) ho he hf (wpAny_mono h (fun v s' ⟨k, e, q⟩ => ⟨k, e, _, rfl, q⟩) fun _ _ q => q) |> fun g => wpAny_mono g (fun v s' ⟨k, e, q⟩ => ?_) fun _ _ q => q))
  subst e
  exact wpAny_pure ⟨_, rfl, q⟩
/-- a builtin side comes first and declines -/
theorem rcEq_left {T id : String} {y : Value} {Q : Value → Shared → Prop} (hu : A.units < cLine) (X : K.In s.heap) (I : PySem.W.InstAt s.heap x ox C od) (hy : s.TypeIs y T) (hsub : PySem.W.subIn K (.ref C) (.type T) = some false) (S : Slot T "__eq__" id)
    (hd : ∀ Q' : Value → Shared → Prop, Q' .notImplemented s → wpAny (model prog w) A (call (.builtin id) [y, .ref x]) Q' E s)
    (he : PySem.W.findIn K (.ref C) "__eq__" = some (some (.ref f))) (hf : PySem.W.isFn K (.ref f) = true) (h : wpAny (model prog w) A (call (.ref f) [.ref x, y]) (fun v s' => ∃ k, v = .bool k ∧ Q (.bool k) s') E s) : wpAny (model prog w) A (richCompare .Eq y (.ref x)) Q E s := by
  rcases hi : cmpInfo CmpOp.Eq with ⟨sym, l, r⟩
  have hi2 : l = "__eq__" ∧ r = "__eq__" := by cases hi; exact ⟨rfl, rfl⟩
  obtain ⟨rfl, rfl⟩ := hi2
  simp only [richCompare, hi, hy.oneThing_none]
  refine wpAny_holding (wpAny_bind (wpAny_cRoomFor_or (.inr hu) (wpAny_bind (wpAny_typeOf hy (wpAny_bind (I.type.here ?_))))))
  rw [if_pos (show (Value.type T != Value.ref C) = true from by simp)]
  refine wpAny_bind ((PySem.W.looks_subIn X hsub).here ?_)
  simp only [Bool.false_eq_true, if_false, Bool.not_false, if_true]
  refine wpAny_bind (m := tryCompare y _ (.ref x)) (wpAny_tryCompare_declines hy S (hd _ ⟨rfl, ?_⟩))
  have one : wpAny (model prog w) A (tryCompare (.ref x) (Str.ofString "__eq__") y) (fun r s' => ∃ v, r = some v ∧ Q v s') E s := by
    unfold tryCompare
    refine wpAny_bind (PySem.W.ifBound_K X I he hf (wpAny_mono h (fun v s' ⟨k, e, q⟩ => ?_) fun _ _ q => q))
    subst e
    exact wpAny_pure ⟨_, rfl, q⟩
  refine wpAny_bind (m := tryCompare (.ref x) _ y) (wpAny_mono one (fun r s' ⟨v, e, q⟩ => ?_) fun _ _ q => q)
  subst e
  exact wpAny_pure q
/-- no list: so a list's own == declines it -/
theorem not_inst {T : String} {Q : Bool → Shared → Prop} (X : K.In s.heap) (I : PySem.W.InstAt s.heap x ox C od) (hsub : PySem.W.subIn K (.ref C) (.type T) = some false) (q : Q false s) : wpAny (model prog w) A (isInstance (.ref x) (.type T)) Q E s := by
  unfold isInstance
  exact wpAny_bind (I.type.here ((PySem.W.looks_subIn X hsub).here q))
theorem list_declines {l : Addr} {items : Array Value} {n : Nat} {dd : Option Addr} {sl : Array (Option Value)} (X : K.In s.heap) (I : PySem.W.InstAt s.heap x ox C od) (hl : s.heap.get? l = some { cls := .type "list", dict := dd, data := .seq items n, slots := sl })
    (hsub : PySem.W.subIn K (.ref C) (.type "list") = some false) {Q : Value → Shared → Prop} (q : Q .notImplemented s) : wpAny (model prog w) A (call (.builtin "list.__eq__") [.ref l, .ref x]) Q E s := by
  refine GQ.call_here F.slot_list_eq ⟨_, hl, rfl⟩ F.entry_list_eq (F.args_list_eq_2 _ _) ?_
  have fi := @not_inst prog w A.in1
  obtain ⟨hp, g, d, tk, os⟩ := s
  wp_walk using wpAny_loadPart' hl, not_inst X I hsub
  exact q
theorem int_declines {i : Int} {t : Tok} {dx : Addr} (hx : s.heap.get? x = some (PySem.W.instObj C dx)) {Q : Value → Shared → Prop} (q : Q .notImplemented s) : wpAny (model prog w) A (call (.builtin "int.__eq__") [.int i t, .ref x]) Q E s := by
  refine GQ.call_here F.slot_int_eq rfl F.entry_int_eq (F.args_int_eq_2 _ _) ?_
  unfold PySem.W.instObj at hx
  obtain ⟨hp, g, d, tk, os⟩ := s
  wp_walk using wpAny_loadPart' hx, wpAny_load hx
  exact q
theorem str_declines {z : Str} {t : Tok} {dx : Addr} (hx : s.heap.get? x = some (PySem.W.instObj C dx)) {Q : Value → Shared → Prop} (q : Q .notImplemented s) : wpAny (model prog w) A (call (.builtin "str.__eq__") [.str z t, .ref x]) Q E s := by
  refine GQ.call_here F.slot_str_eq rfl F.entry_str_eq (F.args_str_eq_2 _ _) ?_
  unfold PySem.W.instObj at hx
  obtain ⟨hp, g, d, tk, os⟩ := s
  wp_walk using wpAny_loadPart' hx, wpAny_load hx
  exact q
theorem none_declines {Q : Value → Shared → Prop} (q : Q .notImplemented s) : wpAny (model prog w) A (call (.builtin "NoneType.__eq__") [.none, .ref x]) Q E s := by
  refine GQ.call_here F.slot_NoneType_eq rfl F.entry_NoneType_eq (F.args_NoneType_eq_2 _ _) ?_
  obtain ⟨hp, g, d, tk, os⟩ := s
  wp_walk
  exact q
/-- at each turn the list is read anew, and the item is not equal -/
def NoneI (prog : Program) (w : World) (A : Around) (E : Value → Shared → Prop) (l : Addr) (v : Value) (N : Nat) (I : Nat → Shared → Prop) : Prop := ∀ i s, I i s → ∃ (items : Array Value) (n : Nat), s.heap.get? l = some { cls := .type "list", data := .seq items n } ∧ items.size = N ∧
  ∀ h : i < items.size, wpAny (model prog w) A.in1 (eqBool items[i] v) (fun r s' => r = false ∧ I (i + 1) s') E s
theorem none_loop {R : Result → Shared → Prop} (l : Addr) (v : Value) (N : Nat) (I : Nat → Shared → Prop) (hI : NoneI prog w A (fun e s' => R (.error e) s') l v N I) (stop : ∀ s, I N s → R (.ok (.ret (.bool false))) s) (k : Nat) :
    ∀ i : Nat, N - i = k → i ≤ N → ∀ s, I i s → wpAny (model prog w) A.in1 (Builtin.«list.__contains__.loop» ⟨[.ref l, v, rawInt i], []⟩) (GQ.FinOf prog w A R) (fun e s' => R (.error e) s') s := by
  induction k with
  | zero =>
    intro i hk hi s h
    obtain ⟨items, n, hl, hs, _⟩ := hI _ _ h
    have hR : R (.ok (.ret (.bool false))) s := stop s ((show i = N by omega) ▸ h)
    obtain ⟨hp, g, d, tk, os⟩ := s
    wp_walk using SeqAt.AutoSeq1.wpAny_loadPart' hl
    rw [show items[((i : Nat) : Int).toNat]? = none by simp; omega]
    wp_walk
    exact hR
  | succ k ih =>
    intro i hk hi s h
    obtain ⟨items, n, hl, hs, turn⟩ := hI _ _ h
    have hlt : i < items.size := by omega
    have ht := turn hlt
    obtain ⟨hp, g, d, tk, os⟩ := s
    wp_walk using SeqAt.AutoSeq1.wpAny_loadPart' hl
    rw [show items[((i : Nat) : Int).toNat]? = some items[i] by simp [hlt]]
    refine wpAny_bind (wpAny_mono ht (fun r s2 h2 => ?_) fun _ _ z => z)
    obtain ⟨hr, h2⟩ := h2
    subst hr
    have more := ih (i + 1) (by omega) (by omega) s2 h2
    obtain ⟨hp2, g2, d2, tk2, os2⟩ := s2
    wp_walk
    exact ⟨plainId_quiet PySem.MeetsSeq.plain_contains_loop _, codeAny_builtin PySem.MeetsSeq.entry_contains_loop (by
      rw [Around.under_plainId PySem.MeetsSeq.plain_contains_loop _]
      exact more)⟩
theorem not_in {l : Addr} {v : Value} {N : Nat} {Q : Value → Shared → Prop} (I : Nat → Shared → Prop) (hI : NoneI prog w A E l v N I) (h : I 0 s) (stop : ∀ s, I N s → Q (.bool true) s) : wpAny (model prog w) A (compareOp .NotIn v (.ref l)) Q E s := by
  obtain ⟨items, n, hl, hs, _⟩ := hI _ _ h
  show wpAny _ A (do return .bool (!(← contains (.ref l) v))) Q E s
  have body : wpAny (model prog w) A.in1 (Builtin.«list.__contains__» ⟨[.ref l, v], []⟩) (GQ.FinOf prog w A (wants (fun r s' => r = .bool false ∧ I N s') E)) (fun e s' => wants (fun r s' => r = .bool false ∧ I N s') E (.error e) s') s := by
    have go := none_loop (A := A) (R := wants (fun r s' => r = .bool false ∧ I N s') E) l v N I hI (fun s q => ⟨rfl, q⟩) _ 0 rfl (Nat.zero_le _) s h
    obtain ⟨hp, g, d, tk, os⟩ := s
    wp_walk using SeqAt.AutoSeq1.wpAny_loadPart' hl
    exact ⟨plainId_quiet PySem.MeetsSeq.plain_contains_loop _, codeAny_builtin PySem.MeetsSeq.entry_contains_loop (by
      rw [Around.under_plainId PySem.MeetsSeq.plain_contains_loop _]
      exact go)⟩
  refine wpAny_bind (wpAny_contains_slot (T := "list") ⟨_, hl, rfl⟩ F.slot_list_contains (wpAny_mono (GQ.call_here F.slot_list_contains ⟨_, hl, rfl⟩ F.entry_list_contains (F.args_list_contains_2 _ _) body) (fun r s' q => ?_) fun _ _ z => z))
  obtain ⟨rfl, q⟩ := q
  exact wpAny_truthy_bool (wpAny_pure (stop _ q))
theorem eqB_left {y : Value} {Q : Bool → Shared → Prop} (hy : y = .none ∨ (∃ i t, y = .int i t) ∨ (∃ z t, y = .str z t) ∨ ∃ l, y = .ref l ∧ l ≠ x) (h : wpAny (model prog w) A (richCompare .Eq y (.ref x)) (fun v s' => ∃ r, v = .bool r ∧ Q r s') E s) : wpAny (model prog w) A (eqBool y (.ref x)) Q E s := by
  unfold eqBool
  refine wpAny_holding ?_
  rcases hy with rfl | ⟨i, t, rfl⟩ | ⟨z, t, rfl⟩ | ⟨l, rfl, hn⟩
  all_goals
    refine wpAny_ite_split (fun e => ?_) (fun _ => ?_)
    · have e := eq_of_beq e
      first
        | cases e; done
        | exact absurd (by injection e) hn
    · exact wpAny_bind (wpAny_mono h (fun v s' ⟨r, e, q⟩ => by subst e; exact wpAny_truthy_bool q) fun _ _ z => z)
end
/-! ### as rules -/
/-- what the class has to compare by -/
structure EqC (K : PySem.W.Frag) (C f : Addr) : Prop where
  he : PySem.W.findIn K (.ref C) "__eq__" = some (some (.ref f))
  hf : PySem.W.isFn K (.ref f) = true
  hn : PySem.W.findIn K (.ref C) "__ne__" = some (some (.builtin "object.__ne__"))
  ho : PySem.W.subIn K (.ref C) (.type "object") = some true
  l1 : PySem.W.subIn K (.ref C) (.type "list") = some false
  i1 : PySem.W.subIn K (.ref C) (.type "int") = some false
  s1 : PySem.W.subIn K (.ref C) (.type "str") = some false
  n1 : PySem.W.subIn K (.ref C) (.type "NoneType") = some false
  l2 : PySem.W.subIn K (.type "list") (.ref C) = some false
  k0 : PySem.W.kitOne K (.ref C) (.ref C) = some true
  k1 : PySem.W.kitOne K (.type "list") (.ref C) = some false
  k2 : PySem.W.kitOne K (.type "int") (.ref C) = some false
  k3 : PySem.W.kitOne K (.type "str") (.ref C) = some false
  k4 : PySem.W.kitOne K (.type "NoneType") (.ref C) = some false
  ca : PySem.W.findIn K (.ref C) "__class__" = some (some (.builtin "object.__class__"))
  cb : PySem.W.specialIn K (.builtin "object.__class__") "__get__" = some (some (.builtin "getset_descriptor.__get__"))
  ct : PySem.W.takesIn K (.builtin "object.__class__") = some true
  cm : PySem.W.mroIn K C (.type "object") = some true
inductive Oth (C : Addr) (H : Hp) : V → Prop where
  | own {b dx : Addr} {fs : List (Str × V)} (e : H b = some (.ins C dx fs)) : Oth C H (.ref b)
  | lst {b : Addr} {xs : List V} (e : H b = some (.lst xs)) : Oth C H (.ref b)
section
variable {X : Cx} {n : Nat} {C f : Addr} {fd : FuncData} {ps : List Str} {sp : Sp}
theorem Oth.looks {pins : List (Addr × Obj)} {σ : L2.St} {H : Hp} {s : Shared} {y : V} {v : Value} (I : Inv X pins σ H s) (e : EqC X.K C f) (o : Oth C H y) (r : RelV y v) : ∃ tb, PySem.W.Looks (model X.prog X.w) s.heap (typeOf v) tb ∧ PySem.W.notFirst X.K C tb = true := by
  cases o with
  | own ho =>
    cases r
    obtain ⟨mB, J, _⟩ := ins_get I.hok ho
    obtain ⟨od, J, _⟩ := J.look
    exact ⟨_, J.type, by simp [PySem.W.notFirst]⟩
  | @lst b xs ho =>
    cases r
    obtain ⟨_, its, c, _, h1⟩ := (show ObjOk X.prog X.w H s.heap b (.lst xs) from I.hok b _ ho)
    exact ⟨.type "list", fun A Q E s k q => wpAny_typeOf_ref (k _ _ h1) q, by unfold PySem.W.notFirst; rw [e.l2]; simp⟩
theorem call_sub {A : Around} {pins : List (Addr × Obj)} {σ : L2.St} {H : Hp} {s : Shared} {Q : VK} {us : List Value} {vs : List V} (sb : Sub X n A) (G : FnOk X.prog X.w X.K X.mg X.base L2.CX0 n f fd ps sp) (hb : Binds X.K fd ps []) (I : Inv X pins σ H s) (r : Vals vs us)
    (h : sp vs H Q (fun _ _ _ => False)) : wpAny (model X.prog X.w) A (call (.ref f) us) (EP X pins σ Q) X.xe s := by
  have e := I.env0
  have e1 : Env0 X.prog X.w X.K X.mg X.base A X.stack s H := { frames := sb.fr.trans e.frames, mod := e.mod, bs := e.bs, bsz := e.bsz, funs := e.funs, frf := e.frf, hok := e.hok, bare := e.bare }
  have hl : (us ++ []).length = ps.length := by rw [List.append_nil, ← r.length]; exact G.len _ _ _ _ h
  have g := hb s us I.kIn hl
  rw [List.append_nil] at g
  refine wpAny_call (codeAny_mono (G.run A X.stack s H ⟨us, []⟩ us vs Q _ sb.room e1 g r h) fun rr s' y => ?_)
  match rr, y with
  | .error _, y => exact (show Passes L2.CX0 X (fun _ _ _ => False) from pass0) pins σ H s _ s' I y
  | .ok (.ret _), y => exact I.after y
def rOwnQ (C : Addr) (sp : Sp) (ne : Bool) : R2 := fun x y H Q => ∃ a dx fs, x = .ref a ∧ H a = some (.ins C dx fs) ∧ Oth C H y ∧ sp [x, y] H (fun v H' => ∃ k, v = .bl k ∧ Q (.bl (if ne then !k else k)) H') (fun _ _ _ => False)
theorem op_ownEq (G : FnOk X.prog X.w X.K X.mg X.base L2.CX0 n f fd ps sp) (e : EqC X.K C f) (hb : Binds X.K fd ps []) (hr : Room n X.A) : OpR X (compareOp .Eq) (rOwnQ C sp false) := by
  intro pins s σ H x y v u Q I rx ry h
  obtain ⟨a, dx, fs, rfl, ha, o, h⟩ := h
  cases rx
  obtain ⟨mA, J, _⟩ := ins_get I.hok ha
  obtain ⟨od, J, _⟩ := J.look
  obtain ⟨tb, L, hn⟩ := o.looks I e ry
  show wpAny (model X.prog X.w) X.A (richCompare .Eq _ _) (EP X pins σ Q) X.xe s
  refine rcEq_own hr.units0 I.kIn J L hn e.he e.hf (wpAny_mono (call_sub (us := [.ref a, u]) (vs := [.ref a, y]) ⟨hr, rfl⟩ G hb I (.cons rfl (.cons ry .nil)) h) (fun w s' ⟨z, H', I', rz, k, ek, q⟩ => ?_) fun _ _ z => z)
  subst ek
  cases rz
  exact ⟨k, rfl, .bl k, H', I', rfl, q⟩
theorem op_ownNe (G : FnOk X.prog X.w X.K X.mg X.base L2.CX0 n f fd ps sp) (e : EqC X.K C f) (hb : Binds X.K fd ps []) (hr : Room (n + 1) X.A) (hu : X.A.units + 2 < cLine) : OpR X (compareOp .NotEq) (rOwnQ C sp true) := by
  intro pins s σ H x y v u Q I rx ry h
  obtain ⟨a, dx, fs, rfl, ha, o, h⟩ := h
  cases rx
  obtain ⟨mA, J, _⟩ := ins_get I.hok ha
  obtain ⟨od, J, _⟩ := J.look
  obtain ⟨tb, L, hn⟩ := o.looks I e ry
  show wpAny (model X.prog X.w) X.A (richCompare .NotEq _ _) (EP X pins σ Q) X.xe s
  refine rcNe_own hu I.kIn J L hn e.ho e.hn e.he e.hf (wpAny_mono (call_sub (us := [.ref a, u]) (vs := [.ref a, y]) (A := X.A.in1) ⟨hr.in1, rfl⟩ G hb I (.cons rfl (.cons ry .nil)) h) (fun w s' ⟨z, H', I', rz, k, ek, q⟩ => ?_) fun _ _ z => z)
  subst ek
  cases rz
  exact ⟨k, rfl, .bl (!k), H', I', rfl, q⟩
/-- none of these is such an object -/
inductive Bi (H : Hp) : V → Prop where
  | non : Bi H .non
  | int (i : Int) : Bi H (.int i)
  | str (z : Str) : Bi H (.str z)
  | lst {b : Addr} {xs : List V} (e : H b = some (.lst xs)) : Bi H (.ref b)
def rNotOwn (C : Addr) (sp : Sp) : R2 := fun x y H Q => ∃ a dx fs l its, x = .ref a ∧ y = .ref l ∧ H a = some (.ins C dx fs) ∧ H l = some (.lst its) ∧
  (∀ v ∈ its, Bi H v ∧ ∀ H', Keep (fun _ => False) H H' → sp [x, v] H' (fun r H2 => r = .bl false ∧ Keep (fun _ => False) H' H2) (fun _ _ _ => False)) ∧ ∀ H', Keep (fun _ => False) H H' → Q (.bl true) H'
theorem op_notOwn (G : FnOk X.prog X.w X.K X.mg X.base L2.CX0 n f fd ps sp) (e : EqC X.K C f) (hb : Binds X.K fd ps []) (hr : Room (n + 1) X.A) : OpR X (compareOp .NotIn) (rNotOwn C sp) := by
  intro pins s σ H x y v u Q I rx ry h
  obtain ⟨a, dx, fs, l, its, rfl, rfl, ha, hl, hv, q⟩ := h
  cases rx
  cases ry
  have rm : Room n X.A.in1 := hr.in1
  refine not_in (N := its.length) (fun _ s' => ∃ H', Inv X pins σ H' s' ∧ Keep (fun _ => False) H H') (fun i s1 ⟨H1, I1, K1⟩ => ?_) ⟨H, I, .refl⟩ fun s1 ⟨H1, I1, K1⟩ => ⟨.bl true, H1, I1, rfl, q H1 K1⟩
  obtain ⟨_, ws, c, r, h1⟩ := (show ObjOk X.prog X.w H1 s1.heap l (.lst its) from I1.hok l _ (K1 _ _ hl id))
  refine ⟨ws.toArray, c, h1, by rw [List.size_toArray, ← r.length], fun hi => ?_⟩
  have hi2 : i < its.length := by rw [r.length]; simpa using hi
  obtain ⟨w, hw, rw'⟩ := r.get (List.getElem?_eq_getElem hi2)
  have ew : ws.toArray[i] = w := by
    have h2 : i < ws.length := by simpa using hi
    rw [List.getElem?_eq_getElem h2] at hw
    simpa using Option.some.inj hw
  rw [ew]
  obtain ⟨bi, hs⟩ := hv its[i] (List.getElem_mem hi2)
  have ha1 := K1 _ _ ha id
  obtain ⟨mA, J, _⟩ := ins_get I1.hok ha1
  obtain ⟨od, J, _⟩ := J.look
  have hx : s1.heap.get? a = some (PySem.W.instObj C dx) := (show ObjOk X.prog X.w H1 s1.heap a (.ins C dx fs) from I1.hok a _ ha1).2.2.2.1
  have own : wpAny (model X.prog X.w) X.A.in1 (call (.ref f) [.ref a, w]) (fun r s' => ∃ k, r = .bool k ∧ (Value.bool k = .bool false ∧ ∃ H', Inv X pins σ H' s' ∧ Keep (fun _ => False) H H')) X.xe s1 :=
    wpAny_mono (call_sub (us := [.ref a, w]) (vs := [.ref a, its[i]]) (A := X.A.in1) ⟨rm, rfl⟩ G hb I1 (.cons rfl (.cons rw' .nil)) (hs H1 K1)) (fun r s' ⟨z, H', I', rz, ez, K'⟩ => by
      subst ez
      cases rz
      exact ⟨false, rfl, rfl, H', I', K1.trans K'⟩) fun _ _ z => z
  have fin : ∀ {y : Value}, (y = .none ∨ (∃ i t, y = .int i t) ∨ (∃ z t, y = .str z t) ∨ ∃ b, y = .ref b ∧ b ≠ a) → wpAny (model X.prog X.w) X.A.in1 (richCompare .Eq y (.ref a)) (fun r s' => r = .bool false ∧ ∃ H', Inv X pins σ H' s' ∧ Keep (fun _ => False) H H') X.xe s1 →
      wpAny (model X.prog X.w) X.A.in1 (eqBool y (.ref a)) (fun r s' => r = false ∧ ∃ H', Inv X pins σ H' s' ∧ Keep (fun _ => False) H H') X.xe s1 := fun hy g => eqB_left hy (wpAny_mono g (fun r s' ⟨er, q⟩ => ⟨false, er, rfl, q⟩) fun _ _ z => z)
  generalize its[i] = z at bi rw'
  have hu := rm.units0
  cases bi with
  | non =>
    cases (show w = Value.none from rw')
    exact fin (.inl rfl) (rcEq_left hu I1.kIn J (T := "NoneType") rfl e.n1 F.slot_NoneType_eq (fun Q' q => none_declines q) e.he e.hf own)
  | int j =>
    obtain ⟨t, rfl⟩ := (show ∃ t, w = Value.int j t from rw')
    exact fin (.inr (.inl ⟨_, _, rfl⟩)) (rcEq_left hu I1.kIn J (T := "int") rfl e.i1 F.slot_int_eq (fun Q' q => int_declines hx q) e.he e.hf own)
  | str j =>
    obtain ⟨t, rfl⟩ := (show ∃ t, w = Value.str j t from rw')
    exact fin (.inr (.inr (.inl ⟨_, _, rfl⟩))) (rcEq_left hu I1.kIn J (T := "str") rfl e.s1 F.slot_str_eq (fun Q' q => str_declines hx q) e.he e.hf own)
  | @lst b xs e1 =>
    cases (show w = Value.ref b from rw')
    obtain ⟨_, its2, c2, _, h2⟩ := (show ObjOk X.prog X.w H1 s1.heap b (.lst xs) from I1.hok b _ (K1 _ _ e1 id))
    have hba : b ≠ a := fun z => by rw [z, ha] at e1; cases e1
    exact fin (.inr (.inr (.inr ⟨b, rfl, hba⟩))) (rcEq_left hu I1.kIn J (T := "list") ⟨_, h2, rfl⟩ e.l1 F.slot_list_eq (fun Q' q => list_declines I1.kIn J h2 e.l1 q) e.he e.hf own)
end
section
variable {K : PySem.W.Frag} {C f : Addr} {H : Hp} {Q : VK} {v : V}
theorem Bi.keep {H' : Hp} (h : Bi H v) (k : Keep (fun _ => False) H H') : Bi H' v := by
  cases h with
  | non => exact .non
  | int i => exact .int i
  | str z => exact .str z
  | lst e => exact .lst (k _ _ e id)
theorem Bi.is (h : Bi H v) (e : EqC K C f) (q : Q (.bl false) H) : rIsi K [v, .ref C] H Q := by
  cases h with
  | non => exact ⟨_, _, _, _, _, rfl, .own C, .base .non, e.k4, q⟩
  | int i => exact ⟨_, _, _, _, _, rfl, .own C, .base (.int i), e.k2, q⟩
  | str z => exact ⟨_, _, _, _, _, rfl, .own C, .base (.str z), e.k3, q⟩
  | lst e1 => exact ⟨_, _, _, _, _, rfl, .own C, .base (.lst e1), e.k1, q⟩
theorem isOwn {a dx : Addr} {fs : List (Str × V)} (h : H a = some (.ins C dx fs)) (c : Cls K C) (e : EqC K C f) (q : Q (.bl true) H) : rIsi K [.ref a, .ref C] H Q := ⟨_, _, _, _, _, rfl, .own C, .base (.ins h c e.ca e.cb e.ct e.cm), e.k0, q⟩
theorem hu2 {A : Around} {k : Nat} (hr : L2.Room k A) : A.units + 2 < cLine := by have := hr.units; omega
theorem eqBl {a b : Bool} (q : Q (.bl (a == b)) H) : rEq (.bl a) (.bl b) H Q := ⟨rfl, by
  rw [show decide (V.bl a = V.bl b) = (a == b) by cases a <;> cases b <;> decide]; exact q⟩
theorem neBl {a b : Bool} (q : Q (.bl (!(a == b))) H) : rNe (.bl a) (.bl b) H Q := ⟨rfl, by
  rw [show decide (V.bl a = V.bl b) = (a == b) by cases a <;> cases b <;> decide]; exact q⟩
end
end HS
/-! What a run does not wake stays asleep: a generator's state is framed (own rules over PyProof.Runs, PyProof.Wp). -/
namespace HS
open PySem PyProof.Rows
open Sem (wp)
/-- a state that cannot be gone on with -/
def dead : Resume → Sem PySem.Fin := fun _ => .unsupported "asleep"
def kill : GenState → GenState
  | .suspended _ l c p fs cl => .suspended dead l c p fs cl
  | x => x
def Asleep (x : GenState) : Prop := ∃ k l c p fs cl, x = .suspended k l c p fs cl
inductive Pair : GenState → GenState → Prop
  | eq {x : GenState} (h : ∀ k l c p fs cl, x = .suspended k l c p fs cl → splitAtGen fs = none) : Pair x x
  | dead {k : Resume → Sem PySem.Fin} {l : List Value} {c : Code} {p : Pos} {fs : List Frame} {cl : Bool} : Pair (.suspended k l c p fs cl) (.suspended dead l c p fs cl)
def Like (G D : Array GenState) : Prop := G.size = D.size ∧ ∀ (i : Nat) (x y : GenState), G[i]? = some x → D[i]? = some y → Pair x y
def Dead (D : Array GenState) (i : Nat) : Prop := ∃ l c p fs cl, D[i]? = some (.suspended dead l c p fs cl)
theorem Like.at {G D : Array GenState} (h : Like G D) {i : Nat} {y : GenState} (e : D[i]? = some y) : ∃ x, G[i]? = some x ∧ Pair x y := by
  have hi : i < G.size := by rw [h.1]; exact (Array.getElem?_eq_some_iff.mp e).1
  exact ⟨G[i], Array.getElem?_eq_getElem hi, h.2 i _ _ (Array.getElem?_eq_getElem hi) e⟩
theorem no_run0 {M : Model} {Γ : Ctx} {p : Pos} {w : String} {s s' : Shared} {e : End} (h : Runs M Γ p (.unsupported w) [] s e s') : False := by cases h
theorem no_run {M : Model} {Γ : Ctx} {p : Pos} {w : String} {fs : List Frame} {s s' : Shared} {e : End} (h : Runs M Γ p (.unsupported w) fs s e s') : False := by
  cases fs with
  | nil => exact no_run0 h
  | cons F fs =>
    cases h with
    | segRet h _ => exact no_run0 h
    | segGen h _ => exact no_run0 h
    | segSuspOut _ h => exact no_run0 h
    | segSuspGen _ h _ _ => exact no_run0 h
theorem split_app {a b : List Frame} (ha : splitAtGen a = none) (hb : splitAtGen b = none) : splitAtGen (a ++ b) = none := by
  induction a with
  | nil => exact hb
  | cons f r ih =>
    cases f with
    | gen g k l c p => cases ha
    | ret k h g l c p kp =>
      show (splitAtGen (r ++ b)).map _ = none
      rw [ih (Option.map_eq_none_iff.mp ha)]; rfl
theorem split_ret {k h g l c p kp} {fs : List Frame} (e : splitAtGen (.ret k h g l c p kp :: fs) = none) : splitAtGen fs = none := Option.map_eq_none_iff.mp e
def EndOk (e : End) : Prop := ∀ v g l k c p fs, e = .susp v g l k c p fs → splitAtGen fs = none
theorem EndOk.state {e : End} (h : EndOk e) : Pair e.genState e.genState := by
  cases e with
  | ret r => exact .eq fun _ _ _ _ _ _ z => by cases z
  | susp v g l k c p fs => exact .eq fun _ _ _ _ _ _ z => by cases z; exact h _ _ _ _ _ _ _ rfl
theorem get_set {G : Array GenState} {g i : Nat} {x : GenState} (h : i ≠ g) : (G.setIfInBounds g x)[i]? = G[i]? := Array.getElem?_setIfInBounds_ne (Ne.symm h)
theorem Like.set {G D : Array GenState} (h : Like G D) {g : Nat} {x y : GenState} (p : Pair x y) : Like (G.setIfInBounds g x) (D.setIfInBounds g y) := by
  refine ⟨by simp [h.1], fun i a b e1 e2 => ?_⟩
  by_cases hi : i = g
  · subst hi
    rw [Array.getElem?_setIfInBounds_self] at e1 e2
    split at e1
    · split at e2
      · cases e1; cases e2; exact p
      · cases e2
    · cases e1
  · rw [get_set hi] at e1 e2
    exact h.2 i a b e1 e2
theorem Like.push {G D : Array GenState} (h : Like G D) (c : Code) : Like (G.push (.fresh c)) (D.push (.fresh c)) := by
  refine ⟨by simp [h.1], fun i a b e1 e2 => ?_⟩
  rw [Array.getElem?_push] at e1 e2
  rw [h.1] at e1
  split at e1
  · rename_i z
    rw [if_pos z] at e2
    cases e1; cases e2
    exact .eq fun _ _ _ _ _ _ z => by cases z
  · rename_i z
    rw [if_neg z] at e2
    exact h.2 i a b e1 e2
theorem Dead.set {D : Array GenState} {i g : Nat} {x : GenState} (h : Dead D i) (n : i ≠ g) : Dead (D.setIfInBounds g x) i := by
  obtain ⟨l, c, p, fs, cl, e⟩ := h
  exact ⟨l, c, p, fs, cl, by rw [get_set n]; exact e⟩
theorem Dead.of {D D' : Array GenState} {i : Nat} (h : Dead D i) (e : D'[i]? = D[i]?) : Dead D' i := by
  obtain ⟨l, c, p, fs, cl, q⟩ := h
  exact ⟨l, c, p, fs, cl, by rw [e]; exact q⟩
/-- what stays asleep through a run -/
def Stays (D G D' G' : Array GenState) : Prop := ∀ i, Dead D i → D'[i]? = D[i]? ∧ G'[i]? = G[i]?
theorem Stays.refl {D G : Array GenState} : Stays D G D G := fun _ _ => ⟨rfl, rfl⟩
theorem Stays.trans {D G D1 G1 D2 G2 : Array GenState} (a : Stays D G D1 G1) (b : Stays D1 G1 D2 G2) : Stays D G D2 G2 := fun i h => by
  obtain ⟨e1, e2⟩ := a i h
  obtain ⟨e3, e4⟩ := b i (h.of e1)
  exact ⟨e3.trans e1, e4.trans e2⟩
theorem Stays.setR {D G D1 G1 : Array GenState} {g : Nat} {x y x' y' : GenState} (hn : ¬ Dead D g) (a : Stays (D.setIfInBounds g x) (G.setIfInBounds g y) D1 G1) : Stays D G (D1.setIfInBounds g x') (G1.setIfInBounds g y') := fun i h => by
  have n : i ≠ g := fun z => hn (z ▸ h)
  obtain ⟨e1, e2⟩ := a i (h.set n)
  rw [get_set n, get_set n, e1, e2, get_set n, get_set n]
  exact ⟨rfl, rfl⟩
theorem Stays.set {D G : Array GenState} {g : Nat} {x y : GenState} (hn : ¬ Dead D g) : Stays D G (D.setIfInBounds g x) (G.setIfInBounds g y) := fun i h => by
  have n : i ≠ g := fun z => hn (z ▸ h)
  exact ⟨get_set n, get_set n⟩
theorem Stays.push {D G : Array GenState} (hs : G.size = D.size) {c : Code} : Stays D G (D.push (.fresh c)) (G.push (.fresh c)) := fun i h => by
  obtain ⟨l, c', p, fs, cl, e⟩ := h
  have hi := (Array.getElem?_eq_some_iff.mp e).1
  rw [Array.getElem?_push, Array.getElem?_push, if_neg (by omega), if_neg (by omega)]
  exact ⟨rfl, rfl⟩
theorem not_dead {D : Array GenState} {g : Nat} {x : GenState} (e : D[g]? = some x) (h : ∀ l c p fs cl, x ≠ .suspended dead l c p fs cl) : ¬ Dead D g := fun ⟨l, c, p, fs, cl, q⟩ => by
  rw [e] at q
  exact h l c p fs cl (Option.some.inj q)
theorem sim {M : Model} {Γ : Ctx} {p : Pos} {t : Sem PySem.Fin} {fs : List Frame} {s s' : Shared} {e : End} (h : Runs M Γ p t fs s e s') : ∀ G : Array GenState, splitAtGen fs = none → Like G s.gens →
    ∃ G', Runs M Γ p t fs { s with gens := G } e { s' with gens := G' } ∧ Like G' s'.gens ∧ Stays s.gens G s'.gens G' ∧ EndOk e := by
  induction h with
  | done => intro G _ L; exact ⟨G, .done, L, .refl, fun _ _ _ _ _ _ _ z => by cases z⟩
  | raise => intro G _ L; exact ⟨G, .raise, L, .refl, fun _ _ _ _ _ _ _ z => by cases z⟩
  | again hq _ ih => intro G _ L; obtain ⟨G', r, q⟩ := ih G rfl L; exact ⟨G', .again hq r, q⟩
  | rule _ ih => intro G _ L; obtain ⟨G', r, q⟩ := ih G rfl L; exact ⟨G', .rule r, q⟩
  | «at» _ ih => intro G _ L; obtain ⟨G', r, q⟩ := ih G rfl L; exact ⟨G', .at r, q⟩
  | load ho _ ih => intro G _ L; obtain ⟨G', r, q⟩ := ih G rfl L; exact ⟨G', .load ho r, q⟩
  | update ho _ ih => intro G _ L; obtain ⟨G', r, q⟩ := ih G rfl L; exact ⟨G', .update ho r, q⟩
  | loadIfAlive _ ih => intro G _ L; obtain ⟨G', r, q⟩ := ih G rfl L; exact ⟨G', .loadIfAlive r, q⟩
  | point _ ih => intro G _ L; obtain ⟨G', r, q⟩ := ih G rfl L; exact ⟨G', .point r, q⟩
  | alloc _ ih => intro G _ L; obtain ⟨G', r, q⟩ := ih G rfl L; exact ⟨G', .alloc r, q⟩
  | fresh _ ih => intro G _ L; obtain ⟨G', r, q⟩ := ih G rfl L; exact ⟨G', .fresh r, q⟩
  | ask _ ih => intro G _ L; obtain ⟨G', r, q⟩ := ih G rfl L; exact ⟨G', .ask r, q⟩
  | choose hn _ ih => intro G _ L; obtain ⟨G', r, q⟩ := ih G rfl L; exact ⟨G', .choose hn r, q⟩
  | os _ ih => intro G _ L; obtain ⟨G', r, q⟩ := ih G rfl L; exact ⟨G', .os r, q⟩
  | handled _ ih => intro G _ L; obtain ⟨G', r, q⟩ := ih G rfl L; exact ⟨G', .handled r, q⟩
  | stack _ ih => intro G _ L; obtain ⟨G', r, q⟩ := ih G rfl L; exact ⟨G', .stack r, q⟩
  | thread _ ih => intro G _ L; obtain ⟨G', r, q⟩ := ih G rfl L; exact ⟨G', .thread r, q⟩
  | genState hs _ ih =>
    intro G _ L
    obtain ⟨x, hx, pr⟩ := L.at hs
    obtain ⟨G', r, q⟩ := ih G rfl L
    refine ⟨G', .genState (st := x) hx ?_, q⟩
    cases pr with
    | eq _ => exact r
    | dead => exact r
  | @newGen Γ p k s e s' c _ ih =>
    intro G _ L
    obtain ⟨G', r, L', S', E'⟩ := ih (G.push (.fresh c)) rfl (L.push c)
    refine ⟨G', .newGen ?_, L', (Stays.push L.1).trans S', E'⟩
    show Runs M Γ p (k G.size) [] { s with gens := G.push (.fresh c) } e _
    rw [L.1]
    exact r
  | call _ _ ih1 ih2 =>
    intro G _ L
    obtain ⟨G1, r1, L1, S1, _⟩ := ih1 G rfl L
    obtain ⟨G2, r2, L2, S2, E2⟩ := ih2 G1 rfl L1
    exact ⟨G2, .call r1 r2, L2, S1.trans S2, E2⟩
  | callSusp _ ih =>
    intro G _ L
    obtain ⟨G1, r1, L1, S1, E1⟩ := ih G rfl L
    refine ⟨G1, .callSusp r1, L1, S1, fun _ _ _ _ _ _ _ z => ?_⟩
    cases z
    exact split_app (E1 _ _ _ _ _ _ _ rfl) rfl
  | yield => intro G _ L; exact ⟨G, .yield, L, .refl, fun _ _ _ _ _ _ _ z => by cases z; rfl⟩
  | resumeFresh hs _ hq _ ih1 ih2 =>
    intro G _ L
    obtain ⟨x, hx, pr⟩ := L.at hs
    have hd := not_dead hs fun _ _ _ _ _ z => by cases z
    cases pr with
    | eq _ =>
      obtain ⟨G1, r1, L1, S1, E1⟩ := ih1 (G.setIfInBounds _ .running) rfl (L.set (.eq fun _ _ _ _ _ _ z => by cases z))
      obtain ⟨G2, r2, L2, S2, E2⟩ := ih2 (G1.setIfInBounds _ _) rfl (L1.set E1.state)
      exact ⟨G2, .resumeFresh hx r1 hq r2, L2, (Stays.setR hd S1).trans S2, E2⟩
  | @resumeSuspended Γ p g r l k s k₀ l₀ c₀ p₀ fs cl e₁ s₁ e s' hs hr hq _ ih1 ih2 =>
    intro G _ L
    obtain ⟨x, hx, pr⟩ := L.at hs
    cases pr with
    | dead => exact (no_run hr).elim
    | eq hn =>
      have hd : ¬ Dead s.gens g := fun ⟨_, _, _, _, _, q⟩ => by
        rw [hs] at q
        cases q
        exact no_run hr
      obtain ⟨G1, r1, L1, S1, E1⟩ := ih1 (G.setIfInBounds _ .running) (hn _ _ _ _ _ _ rfl) (L.set (.eq fun _ _ _ _ _ _ z => by cases z))
      obtain ⟨G2, r2, L2, S2, E2⟩ := ih2 (G1.setIfInBounds _ _) rfl (L1.set E1.state)
      exact ⟨G2, .resumeSuspended hx r1 hq r2, L2, (Stays.setR hd S1).trans S2, E2⟩
  | resumeJustStarted hs hv _ ih =>
    intro G _ L
    obtain ⟨x, hx, pr⟩ := L.at hs
    obtain ⟨G', r, q⟩ := ih G rfl L
    cases pr with
    | eq _ => exact ⟨G', .resumeJustStarted hx hv r, q⟩
  | resumeThrowFresh hs _ ih =>
    intro G _ L
    obtain ⟨x, hx, pr⟩ := L.at hs
    have hd := not_dead hs fun _ _ _ _ _ z => by cases z
    cases pr with
    | eq _ =>
      obtain ⟨G', r, L', S', E'⟩ := ih (G.setIfInBounds _ .finished) rfl (L.set (.eq fun _ _ _ _ _ _ z => by cases z))
      exact ⟨G', .resumeThrowFresh hx r, L', (Stays.set hd).trans S', E'⟩
  | resumeRunning hs _ ih =>
    intro G _ L
    obtain ⟨x, hx, pr⟩ := L.at hs
    obtain ⟨G', r, q⟩ := ih G rfl L
    cases pr with
    | eq _ => exact ⟨G', .resumeRunning hx r, q⟩
  | resumeFinished hs _ ih =>
    intro G _ L
    obtain ⟨x, hx, pr⟩ := L.at hs
    obtain ⟨G', r, q⟩ := ih G rfl L
    cases pr with
    | eq _ => exact ⟨G', .resumeFinished hx r, q⟩
  | segRet _ _ ih1 ih2 =>
    intro G hf L
    obtain ⟨G1, r1, L1, S1, _⟩ := ih1 G rfl L
    obtain ⟨G2, r2, L2, S2, E2⟩ := ih2 G1 (split_ret hf) L1
    exact ⟨G2, .segRet r1 r2, L2, S1.trans S2, E2⟩
  | segGen _ _ _ _ => intro G hf L; cases hf
  | segSuspOut hsp _ ih =>
    intro G hf L
    obtain ⟨G1, r1, L1, S1, E1⟩ := ih G rfl L
    refine ⟨G1, .segSuspOut hsp r1, L1, S1, fun _ _ _ _ _ _ _ z => ?_⟩
    cases z
    exact split_app (E1 _ _ _ _ _ _ _ rfl) hf
  | segSuspGen hsp _ _ _ _ _ => intro G hf L; rw [hf] at hsp; cases hsp

theorem ret_sim {M : Model} {Γ : Ctx} {p : Pos} {s s' : Shared} {r : Result} (h : Returns M Γ p s r s') (G : Array GenState) (L : Like G s.gens) : ∃ G', Returns M Γ p { s with gens := G } r { s' with gens := G' } ∧ Like G' s'.gens ∧ Stays s.gens G s'.gens G' := by
  obtain ⟨G', r1, L', S', _⟩ := sim h G rfl L
  exact ⟨G', r1, L', S'⟩
theorem wake_sim {M : Model} {Γ : Ctx} {p : Pos} {g : Nat} {r : Resume} {s s' : Shared} {res : GenResult} (h : Wakes M Γ p g r s res s') (G : Array GenState) (L : Like G s.gens) :
    ∃ G', Wakes M Γ p g r { s with gens := G } res { s' with gens := G' } ∧ Like G' s'.gens ∧ Stays s.gens G s'.gens G' := by
  unfold Wakes at h ⊢
  cases e : s.gens[g]? with
  | none => rw [e] at h; exact h.elim
  | some y =>
    obtain ⟨x, hx, pr⟩ := L.at e
    rw [e] at h
    have hx' : ({ s with gens := G } : Shared).gens[g]? = some x := hx
    cases y with
    | fresh c =>
      have hd := not_dead e fun _ _ _ _ _ z => by cases z
      cases pr with
      | eq _ =>
        simp only [hx'] at h ⊢
        cases r with
        | throw x =>
          obtain ⟨h1, rfl⟩ := h
          exact ⟨G.setIfInBounds g .finished, ⟨h1, rfl⟩, L.set (.eq fun _ _ _ _ _ _ z => by cases z), Stays.set hd⟩
        | send v =>
          cases v
          case none =>
            obtain ⟨e₁, s₁, hr, hq, h1, rfl⟩ := h
            obtain ⟨G1, r1, L1, S1, E1⟩ := sim hr (G.setIfInBounds g .running) rfl (L.set (.eq fun _ _ _ _ _ _ z => by cases z))
            exact ⟨G1.setIfInBounds g e₁.genState, ⟨e₁, _, r1, hq, h1, rfl⟩, L1.set E1.state, Stays.setR hd S1⟩
          all_goals
            obtain ⟨h1, rfl⟩ := h
            exact ⟨G, ⟨h1, rfl⟩, L, .refl⟩
    | suspended k₀ l₀ c₀ p₀ fs cl =>
      cases pr with
      | dead =>
        obtain ⟨e₁, s₁, hr, _⟩ := h
        exact (no_run hr).elim
      | eq hn =>
        simp only [hx'] at h ⊢
        obtain ⟨e₁, s₁, hr, hq, h1, rfl⟩ := h
        have hd : ¬ Dead s.gens g := fun ⟨_, _, _, _, _, q⟩ => by
          rw [e] at q
          cases q
          exact no_run hr
        obtain ⟨G1, r1, L1, S1, E1⟩ := sim hr (G.setIfInBounds g .running) (hn _ _ _ _ _ _ rfl) (L.set (.eq fun _ _ _ _ _ _ z => by cases z))
        exact ⟨G1.setIfInBounds g e₁.genState, ⟨e₁, _, r1, hq, h1, rfl⟩, L1.set E1.state, Stays.setR hd S1⟩
    | running =>
      cases pr with
      | eq _ =>
        simp only [hx'] at h ⊢
        obtain ⟨h1, rfl⟩ := h
        exact ⟨G, ⟨h1, rfl⟩, L, .refl⟩
    | finished =>
      cases pr with
      | eq _ =>
        simp only [hx'] at h ⊢
        obtain ⟨h1, rfl⟩ := h
        exact ⟨G, ⟨h1, rfl⟩, L, .refl⟩
/-- behind it: the run was that of the state in which all that sleeps is dead -/
def Back (D G : Array GenState) (Q : Shared → Prop) (s' : Shared) : Prop := ∃ D', Like s'.gens D' ∧ Stays D G D' s'.gens ∧ Q { s' with gens := D' }
theorem Back.trans {D G D1 G1 : Array GenState} {Q : Shared → Prop} {s' : Shared} (a : Stays D G D1 G1) (b : Back D1 G1 Q s') : Back D G Q s' := by
  obtain ⟨D', L, S, q⟩ := b
  exact ⟨D', L, a.trans S, q⟩
theorem wp_sim {α : Type} (M : Model) (Γ : Ctx) (t : Sem α) : ∀ (Q : α → Pos → Shared → Prop) (E : Value → Pos → Shared → Prop) (p : Pos) (s : Shared) (G : Array GenState), Like G s.gens → Sem.wp M Γ t Q E p s →
    Sem.wp M Γ t (fun a p' s' => Back s.gens G (Q a p') s') (fun e p' s' => Back s.gens G (E e p') s') p { s with gens := G } := by
  have weak : ∀ {β : Type} {t : Sem β} {Q Q' : β → Pos → Shared → Prop} {E E' : Value → Pos → Shared → Prop} {p : Pos} {s : Shared}, Sem.wp M Γ t Q E p s → (∀ a p s, Q a p s → Q' a p s) → (∀ a p s, E a p s → E' a p s) → Sem.wp M Γ t Q' E' p s :=
    fun h hQ hE => Sem.wp_mono M Γ _ hQ hE _ _ h
  induction t with
  | pure a => intro Q E p s G L h; exact ⟨s.gens, L, .refl, h⟩
  | raise e => intro Q E p s G L h; exact ⟨s.gens, L, .refl, h⟩
  | unsupported _ => intro Q E p s G L h; exact h
  | finish _ => intro Q E p s G L h; exact h
  | rule _ k ih => intro Q E p s G L h; exact ih () Q E p s G L h
  | «at» p' k ih => intro Q E p s G L h; exact ih () Q E p' s G L h
  | load a _ k ih => intro Q E p s G L h; obtain ⟨o, ho, h⟩ := h; exact ⟨o, ho, ih o Q E p s G L h⟩
  | update a _ f k ih => intro Q E p s G L h; exact ⟨h.1, ih () Q E p { s with heap := s.heap.update a f } G L h.2⟩
  | loadIfAlive a k ih => intro Q E p s G L h; exact ih _ Q E p s G L h
  | point _ k ih => intro Q E p s G L h; exact ih () Q E p s G L h
  | register _ _ => intro Q E p s G L h; exact h
  | alloc o k ih => intro Q E p s G L h; exact ih _ Q E p { s with heap := s.heap.push o } G L h
  | fresh k ih => intro Q E p s G L h; exact ih _ Q E p { s with toks := s.toks + 1 } G L h
  | ask k ih => intro Q E p s G L h; exact ih _ Q E p s G L h
  | choose src m k ih => intro Q E p s G L h; exact ⟨h.1, ih _ Q E p { s with drawn := s.drawn.bump src } G L h.2⟩
  | os q _ k ih => intro Q E p s G L h; exact ih _ Q E p { s with os := (Os.step s.os q).1 } G L h
  | call c hd _ _ k ih =>
    intro Q E p s G L h
    obtain ⟨r, s', hr, h⟩ := h
    obtain ⟨G', r1, L', S'⟩ := ret_sim hr G L
    exact ⟨r, _, r1, weak (ih r Q E p s' G' L' h) (fun _ _ _ => Back.trans S') fun _ _ _ => Back.trans S'⟩
  | handled own k ih => intro Q E p s G L h; exact ih _ Q E p s G L h
  | genState g k ih =>
    intro Q E p s G L h
    obtain ⟨st, hs, h⟩ := h
    obtain ⟨x, hx, pr⟩ := L.at hs
    refine ⟨x, hx, ?_⟩
    cases pr with
    | eq _ => exact ih _ Q E p s G L h
    | dead => exact ih _ Q E p s G L h
  | newGen c k ih =>
    intro Q E p s G L h
    have z := ih s.gens.size Q E p { s with gens := s.gens.push (.fresh c) } (G.push (.fresh c)) (L.push c) h
    show Sem.wp M Γ (k G.size) _ _ p { s with gens := G.push (.fresh c) }
    rw [L.1]
    exact weak z (fun _ _ _ => Back.trans (Stays.push L.1)) fun _ _ _ => Back.trans (Stays.push L.1)
  | resume g r _ k ih =>
    intro Q E p s G L h
    obtain ⟨res, s', hw, h⟩ := h
    obtain ⟨G', r1, L', S'⟩ := wake_sim hw G L
    exact ⟨res, _, r1, weak (ih res Q E p s' G' L' h) (fun _ _ _ => Back.trans S') fun _ _ _ => Back.trans S'⟩
  | yield _ _ _ _ => intro Q E p s G L h; exact h
  | stack k ih => intro Q E p s G L h; exact ih _ Q E p s G L h
  | fork _ _ => intro Q E p s G L h; exact h
  | thread k ih => intro Q E p s G L h; exact ih _ Q E p s G L h
  | await _ _ _ _ _ => intro Q E p s G L h; exact h
/-- all that sleeps, dead -/
def night (s : Shared) : Shared := { s with gens := s.gens.map kill }
theorem like_night (G : Array GenState) : Like G (G.map kill) := by
  refine ⟨by simp, fun i x y e1 e2 => ?_⟩
  rw [Array.getElem?_map, e1] at e2
  have e : kill x = y := Option.some.inj e2
  subst e
  cases x with
  | suspended k l c p fs cl => exact .dead
  | fresh c => exact .eq fun _ _ _ _ _ _ z => by cases z
  | running => exact .eq fun _ _ _ _ _ _ z => by cases z
  | finished => exact .eq fun _ _ _ _ _ _ z => by cases z
theorem pair_bare {x y : GenState} (h : Pair x y) : x.bare = y.bare := by cases h <;> rfl
theorem like_bare {G D : Array GenState} (h : Like G D) (b : AllBare D) : AllBare G := fun x hx => by
  obtain ⟨i, hi, e⟩ := Array.mem_iff_getElem.mp hx
  have hi' : i < D.size := by rw [← h.1]; exact hi
  have p := h.2 i x D[i] (by rw [Array.getElem?_eq_getElem hi, e]) (Array.getElem?_eq_getElem hi')
  rw [pair_bare p]
  exact b _ (Array.getElem_mem hi')
theorem bare_night {G : Array GenState} (h : AllBare G) : AllBare (G.map kill) := fun x hx => by
  obtain ⟨y, hy, rfl⟩ := Array.mem_map.mp hx
  have := h y hy
  cases y <;> exact this
/-- THE FRAME: what is shown of a run by night holds by day, and what sleeps sleeps on -/
theorem by_night {α : Type} {M : Model} {A : Around} {t : Sem α} {Q : α → Shared → Prop} {E : Value → Shared → Prop} {s : Shared} (h : wpAny M A t Q E (night s)) :
    wpAny M A t (fun a s' => (∀ (i : Nat) (x : GenState), s.gens[i]? = some x → Asleep x → s'.gens[i]? = some x) ∧ ∃ D, Like s'.gens D ∧ Q a { s' with gens := D })
      (fun e s' => (∀ (i : Nat) (x : GenState), s.gens[i]? = some x → Asleep x → s'.gens[i]? = some x) ∧ ∃ D, Like s'.gens D ∧ E e { s' with gens := D }) s := by
  have key : ∀ {R : Shared → Prop} {s' : Shared}, Back (night s).gens s.gens R s' → (∀ (i : Nat) (x : GenState), s.gens[i]? = some x → Asleep x → s'.gens[i]? = some x) ∧ ∃ D, Like s'.gens D ∧ R { s' with gens := D } := fun {R s'} b => by
    obtain ⟨D, L, S, q⟩ := b
    refine ⟨fun i x e a => ?_, D, L, q⟩
    obtain ⟨k, l, c, p, fs, cl, rfl⟩ := a
    have d : Dead (night s).gens i := ⟨l, c, p, fs, cl, by show (s.gens.map kill)[i]? = _; rw [Array.getElem?_map, e]; rfl⟩
    rw [(S i d).2, e]
  intro Γ p hΓ
  have z := wp_sim M Γ t (fun a _ s' => Q a s') (fun e _ s' => E e s') p (night s) s.gens (like_night _) (h Γ p hΓ)
  exact Sem.wp_mono M Γ _ (fun a _ s' b => key b) (fun e _ s' b => key b) p _ z
end HS
/-! Generators that are consumed step by step: a def of the shape  pre; for tg in iter: yield e; post  (own rules over HandS.GenCall). -/
namespace HS
open PySem PySem.Spec PyProof.Rows L2 GenW
/-- the heap below L -/
def below (h : Heap) (L : Nat) : Heap := { h with objs := h.objs.extract 0 L }
theorem below_get {h : Heap} {L b : Nat} (hb : b < L) : (below h L).get? b = h.get? b := by
  unfold Heap.get? below
  show (match (h.objs.extract 0 L)[b]? with | some ⟨_, _, .freed, _⟩ => none | o => o) = _
  rw [Array.getElem?_extract]
  by_cases hs : b < h.objs.size
  · rw [if_pos (by omega), Nat.zero_add]; rfl
  · rw [if_neg (by omega), Array.getElem?_eq_none (by omega)]
theorem below_size {h : Heap} {L : Nat} (hL : L ≤ h.objs.size) : (below h L).objs.size = L := by
  show (h.objs.extract 0 L).size = L
  rw [Array.size_extract]; omega
theorem below_le {h : Heap} {L : Nat} : (below h L).objs.size ≤ L := by
  show (h.objs.extract 0 L).size ≤ L
  rw [Array.size_extract]; omega
theorem of_below {h : Heap} {L b : Nat} {o : Obj} (e : (below h L).get? b = some o) : b < L ∧ h.get? b = some o := by
  have hb := Nat.lt_of_lt_of_le (Heap.lt_size e) below_le
  exact ⟨hb, by rw [← below_get hb]; exact e⟩
theorem funs_below {h h0 base : Heap} {L : Nat} (hL : h0.objs.size ≤ L) : ∀ {l : List Env}, h0.FunFrames base l → h.FunFrames base l → (below h L).FunFrames base l
  | [], _, _ => trivial
  | e :: l, ⟨_, ⟨F0, o0, f0, _, e0, _⟩, r0⟩, ⟨k1, ⟨F1, o1, f1, n1, e1, d1⟩, r1⟩ => by
    rw [f0] at f1
    cases f1
    exact ⟨k1, ⟨F0, o1, f0, n1, by rw [below_get (Nat.lt_of_lt_of_le (Heap.lt_size e0) hL)]; exact e1, d1⟩, funs_below hL r0 r1⟩
/-- of these addresses what is untracked -/
def xpins (xa : List Addr) (h : Heap) (H : Hp) : List (Addr × Obj) := (pinsAt xa h).filter fun p => (H p.1).isNone
theorem of_xpins {xa : List Addr} {h : Heap} {H : Hp} {p : Addr × Obj} (hp : p ∈ xpins xa h H) : p.1 ∈ xa ∧ h.get? p.1 = some p.2 ∧ H p.1 = none := by
  obtain ⟨h1, h2⟩ := List.mem_filter.mp hp
  exact ⟨(of_pinsAt h1).1, (of_pinsAt h1).2, Option.isNone_iff_eq_none.mp h2⟩
theorem to_xpins {xa : List Addr} {h : Heap} {H : Hp} {b : Addr} {o : Obj} (hb : b ∈ xa) (e : h.get? b = some o) (n : H b = none) : (b, o) ∈ xpins xa h H :=
  List.mem_filter.mpr ⟨mem_pinsAt hb e, by show (H b).isNone = true; rw [n]; rfl⟩
/-- what the wakes, the items and the end are told by; the consumer's own things that no slice may touch -/
structure GW where
  xa : List Addr
  wk : Nat → Shared → Hp → Prop
  yl : Nat → Hp → V → Hp → Prop
  en : Nat → Hp → Hp → Prop
/-- behind a slice: it began with the call (sc, Hc), or with a wake -/
def From (P : Program) (w : World) (outer : List Env) (sc : Shared) (Hc : Hp) (W : GW) (i : Nat) (s₀ : Shared) (Hw H2 : Hp) (s : Shared) : Prop :=
  s.os = sc.os ∧ AllBare s.gens ∧ HOk P w H2 s.heap ∧
  (∀ p ∈ xpins W.xa s₀.heap Hw, s.heap.get? p.1 = some p.2 ∧ H2 p.1 = none) ∧
  ((i = 0 ∧ Hw = Hc ∧ Un (frs outer) [] Hc H2 sc.heap s.heap) ∨ (1 ≤ i ∧ W.wk i s₀ Hw ∧ Un (frs outer) [] Hw H2 (below s₀.heap sc.heap.objs.size) s.heap))
def YG (P : Program) (w : World) (K : PySem.W.Frag) (mg : Str → Option Value) (base : Heap) (A : Around) (outer : List Env) (sc : Shared) (Hc : Hp) (W : GW) (N0 : Nat) (a : Addr) (g : Nat) : Protocol := fun n s₀ v s kap =>
  ∃ (i : Nat) (Hw : Hp) (x : V) (H2 : Hp) (pv : List (Addr × Obj)) (go : Obj), i + n + 1 = N0 ∧ RelV x v ∧ From P w outer sc Hc W i s₀ Hw H2 s ∧ s.heap.NoLimit ∧ (∀ h : Heap, h.get? a = some go → h.IsGen a g) ∧ (a, go) ∈ pv ∧ W.yl i Hw x H2 ∧
    (∀ p ∈ pv, s.heap.get? p.1 = some p.2 ∧ H2 p.1 = none ∧ sc.heap.objs.size ≤ p.1 ∧ p.1 ∉ W.xa ∧ ∀ v, p.2.data ≠ .cell v) ∧
    (1 ≤ n → ∀ s' H', W.wk (i + 1) s' H' → Env0 P w K mg base A outer s' H' → s'.os = sc.os → (∀ p ∈ pv, s'.heap.get? p.1 = some p.2 ∧ H' p.1 = none) → (∀ b ∈ W.xa, ∀ o, s'.heap.get? b = some o → ∀ v, o.data ≠ .cell v) → kap (.send .none) s')
def RG (Cg : CXT) (P : Program) (w : World) (outer : List Env) (sc : Shared) (Hc : Hp) (W : GW) (E : XK) (N0 : Nat) (a : Addr) (g : Nat) : GenEnd := fun n s₀ r s =>
  ((r = .ok (.ret .none) ∨ r = .ok .next) ∧ ∃ (i : Nat) (Hw H2 : Hp), i + n = N0 ∧ From P w outer sc Hc W i s₀ Hw H2 s ∧ W.en i Hw H2) ∨ ∃ e, r = .error e ∧ Cg outer Hc sc E e s ∧ s.heap.IsGen a g
/-- a generator that has not begun -/
def GMade2 (Cg : CXT) (P : Program) (w : World) (K : PySem.W.Frag) (mg : Str → Option Value) (base : Heap) (k : Nat) (outer : List Env) (H : Hp) (s : Shared) (ry : Nat → Hp → Prop) (yl : Nat → Hp → V → Hp → Prop) (en : Nat → Hp → Hp → Prop) (E : XK) (u : Value) (s' : Shared) : Prop :=
  ∃ (a : Addr) (g : Nat) (c : Code), u = .ref a ∧ s.heap.objs.size ≤ a ∧ a < s'.heap.objs.size ∧ s'.heap.IsGen a g ∧ s'.gens[g]? = some (.fresh c) ∧ s'.os = s.os ∧ AllBare s'.gens ∧ s'.heap.NoLimit ∧ (∀ b o, s.heap.get? b = some o → s'.heap.get? b = some o) ∧
    ∀ (A : Around) (xa : List Addr) (wk : Nat → Shared → Hp → Prop) (N0 : Nat) (s2 : Shared), Room k A → A.frames = some outer → (∀ b ∈ xa, s'.heap.objs.size ≤ b ∧ ∃ o, s2.heap.get? b = some o ∧ ∀ v, o.data ≠ .cell v) → (∀ i s3 H3, wk i s3 H3 → ry i H3) → (∀ b o, s'.heap.get? b = some o → s2.heap.get? b = some o) → s2.os = s.os → AllBare s2.gens → 1 ≤ N0 →
      Seg (model P w) A (RG Cg P w outer s H ⟨xa, wk, yl, en⟩ E N0 a g) (YG P w K mg base A outer s H ⟨xa, wk, yl, en⟩ N0 a g) N0 s2 c ((model P w).den c) [] s2
abbrev SpG2 := List V → Hp → (Nat → Hp → Prop) → (Nat → Hp → V → Hp → Prop) → (Nat → Hp → Hp → Prop) → XK → Prop
structure GFn2 (Cg : CXT) (P : Program) (w : World) (K : PySem.W.Frag) (mg : Str → Option Value) (base : Heap) (k : Nat) (f : Addr) (fd : FuncData) (ps : List Str) (sp : SpG2) : Prop where
  len : ∀ vs H ry yl en E, sp vs H ry yl en E → vs.length = ps.length
  run : ∀ (A : Around) (outer : List Env) (s : Shared) (H : Hp) (args : Args) (us : List Value) (vs : List V) (ry : Nat → Hp → Prop) (yl : Nat → Hp → V → Hp → Prop) (en : Nat → Hp → Hp → Prop) (E : XK), Room k A → Env0 P w K mg base A outer s H → BindsTo s fd args (ps.zip us) → Vals vs us → sp vs H ry yl en E →
    codeAny (model P w) A (.call (.ref f) args) (fun r s' => match r with | .ok (.ret u) => GMade2 Cg P w K mg base k outer H s ry yl en E u s' | _ => False) s
/-- the reading of such a body: Q i σ Hw H: about to ask for the i-th item, in a slice that began with Hw -/
def tGenX (tp : TS) (wi : TI) (g : TG) (te : TE) (tq : TS) (ry : Nat → Hp → Prop) (yl : Nat → Hp → V → Hp → Prop) (en : Nat → Hp → Hp → Prop) (H0 : Hp) : L2.St → Hp → Prop := fun σ H =>
  tp { nx := fun σ1 H1 => wi σ1 H1 fun J H2 => ∃ Q : Nat → L2.St → Hp → Hp → Prop, Q 0 σ1 H0 H2 ∧ ∀ i σ Hw H, Q i σ Hw H →
    (J.stop i H ∧ en i Hw H) ∨ (J.go i H ∧ ∀ x H', J.yld i H x H' → g x σ H' fun σ2 H3 => te σ2 H3 fun y H4 => yl i Hw y H4 ∧ ∀ H5, ry (i + 1) H5 → tq { nx := fun σ6 H6 => Q (i + 1) σ6 H5 H6, rt := fun _ _ => False } σ2 H5), rt := fun _ _ => False } σ H
/-- the context of a slice -/
abbrev slice (X : Cx) (s0 : Shared) (H0 : Hp) : Cx := { X with s_0 := s0, H_0 := H0, xe := fun _ _ => False }
theorem slice_inv {X : Cx} {ip : List (Addr × Obj)} {σ : L2.St} {H : Hp} {s : Shared} (I : Inv X ip σ H s) : Inv (slice X X.s_0 X.H_0) ip σ H s := I.wish fun _ _ => False
/-- woken: from the slice ahead to the next one -/
theorem woken {X : Cx} {sa : Shared} {Ha : Hp} {ip : List (Addr × Obj)} {σ : L2.St} {H H' : Hp} {s s' : Shared} {L : Nat} (hL : X.env.locals = L) (hz : X.s_0.heap.objs.size = L) (X0 : X.Ok) (hcells : ∀ x, X.env.cells.lookup x = none) (hex : X.ex = []) (hst : X.stack = X.env :: X.outer)
    (I : Inv (slice X sa Ha) ip σ H s) {oL : Obj} (eL : s.heap.get? L = some oL) (eL' : s'.heap.get? L = some oL) (nL' : H' L = none) (hfr : X.A.frames = some X.stack) {A' : Around} (e0 : Env0 X.prog X.w X.K X.mg X.base A' X.outer s' H')
    (hp : ∀ p ∈ X.pn ++ ip, s'.heap.get? p.1 = some p.2 ∧ H' p.1 = none) : Inv (slice X { s' with heap := below s'.heap L } H') ip σ H' s' := by
  have lt0 : ∀ b o, X.base.get? b = some o → b < L := fun b o e => by rw [← hz]; exact Heap.lt_size (X0.bs b o e).1
  have ltf : ∀ b ∈ X.fs, b < L := fun b hb => by
    obtain ⟨_, o, e, _⟩ := X0.funs.mem hb
    rw [← hz]; exact Heap.lt_size e
  have noc : ∀ {y c}, X.env.cells.lookup y = some c → False := fun {y c} z => by rw [hcells y] at z; cases z
  refine ⟨⟨X0.mod, X0.kind, X0.glob, X0.blt, ?_, X0.inj, X0.has, fun x c _ h => (noc h).elim, X0.hd, X0.frames, X0.stk, X0.exf, fun b o e => ⟨?_, (e0.bs b o e).2⟩, ?_, X0.noex, X0.exfs, ?_, e0.frf⟩,
    rfl, e0.bare, Un.kept fun b o e => (of_below e).2, ?_, fun x c e => (noc e).elim, ?_, fun x c e => (noc e).elim, fun p hm => ?_, e0.hok, I.len⟩
  · show (below s'.heap L).objs.size ≤ X.env.locals
    rw [hL]; exact below_le
  · show (below s'.heap L).get? b = some o
    rw [below_get (lt0 b o e)]; exact (e0.bs b o e).1
  · show X.base.objs.size ≤ (below s'.heap L).objs.size
    rw [below_size (Nat.le_of_lt (Heap.lt_size eL')), ← hz]
    exact X0.bsz
  · exact funs_below (Nat.le_of_eq hz) X0.funs e0.funs
  · obtain ⟨m, ⟨o, es, ep, ho, r⟩, hl⟩ := I.loc
    have ho : s.heap.get? X.env.locals = some o := ho
    rw [hL, eL] at ho
    cases ho
    refine ⟨m, ⟨oL, es, ep, ?_, r⟩, fun i x v h1 h2 h3 => ?_⟩
    · show s'.heap.get? X.env.locals = _
      rw [hL]; exact eL'
    · obtain ⟨u, r, l⟩ := hl i x v h1 h2 h3
      refine ⟨u, r, l.elim .inl fun z => ?_⟩
      obtain ⟨_, c, e, _⟩ := z
      exact (noc e).elim
  · show H' X.env.locals = none
    rw [hL]; exact nL'
  · obtain ⟨_, _, n1, n2, n3⟩ := I.pin p hm
    obtain ⟨e, n⟩ := hp p hm
    exact ⟨e, n, n1, n2, n3⟩
theorem execs_app {env : Env} {Kf : Flow → Sem PySem.Fin} {J : Value → Sem PySem.Fin} {gd : Bool → Bool} {lv : List Value → List Value} (b : List Stmt) : ∀ a : List Stmt, (execs (a ++ b) env).wrap Kf J gd lv = (execs a env).wrap (fun f => match f with | .next => (execs b env).wrap Kf J gd lv | f => Kf f) J gd lv
  | [] => rfl
  | st :: a => by
    rw [List.cons_append, execs_cons_wrap, execs_cons_wrap]
    refine Sem.wrap_congr _ _ _ (fun f => ?_) fun _ => rfl
    cases f with
    | next => exact execs_app b a
    | _ => rfl
/-- where the loop's code stands -/
theorem over_for {A : Around} {env : Env} {tg : Expr} {it : Value} {body pre : List Stmt} {k : Result → Sem PySem.Fin} {l : List Value} {p : Pos} :
    A.over (.forLoop tg it body [] env) [.ret k none false l (.func pre env) p []] = A.deeper env := (over_loop rfl rfl).trans over_func
section
/-- the context of such a def's body, by the kind of exceptions -/
abbrev gcxC (Cg : CXT) (P : Program) (w : World) (K : PySem.W.Frag) (mg : Str → Option Value) (base : Heap) (N : List Str) (qual : Str) (scope : Scope) (f : Addr) (cd : Value) (A : Around) (outer : List Env) (s : Shared) (H : Hp) (E : XK) (pn : List (Addr × Obj)) : Cx :=
  (gcxOf P w K mg base N qual scope f cd A outer s H E pn).wish fun e s' => wpAny (model P w) (A.deeper (envOfC qual scope s.heap.objs.size f cd)) (leaving (envOfC qual scope s.heap.objs.size f cd) e) (fun _ s'' => Cg outer H s E e s'' ∧ ∀ p ∈ pn, s''.heap.get? p.1 = some p.2) (fun _ _ => False) s'
variable {Cg : CXT} {P : Program} {w : World} {K : PySem.W.Frag} {mg : Str → Option Value} {base : Heap} {N : List Str} {qual : Str} {scope : Scope} {f : Addr} {cd : Value}
/-- the loop, from its i-th turn on -/
theorem turns {X : Cx} {A : Around} {outer : List Env} {sc : Shared} {Hc : Hp} {W : GW} {ry : Nat → Hp → Prop} {E : XK} {N0 : Nat} {a : Addr} {g : Nat} {go : Obj} {tg e : Expr} {post : List Stmt} {yp ep : Pos} {J : It} {fp : List Addr} {it : Addr} {tn : Nat → Heap → Prop} {gt : TG} {te : TE} {tq : TS} {Q : Nat → L2.St → Hp → Hp → Prop}
    {k : Result → Sem PySem.Fin} {l : List Value} {p : Pos} {full : List Stmt}
    (hP : X.prog = P) (hw : X.w = w) (hK : X.K = K) (hm : X.mg = mg) (hb : X.base = base) (hA : X.A = A.deeper X.env) (ho : X.outer = outer) (hfrA : A.frames = some outer) (hc : X.calm = true) (hz : X.s_0 = sc) (hH : X.H_0 = Hc) (hL : X.env.locals = sc.heap.objs.size) (X0 : X.Ok)
    (hcells : ∀ x, X.env.cells.lookup x = none) (hex : X.ex = []) (hst : X.stack = X.env :: X.outer) (hpn : X.pn = [(a, go)]) (hgo : ∀ h : Heap, h.get? a = some go → h.IsGen a g) (hag : sc.heap.objs.size ≤ a) (hgd : ∀ v, go.data ≠ .cell v) (hry : ∀ i s3 H3, W.wk i s3 H3 → ry i H3)
    (T : Turn P w K tg J fp it tn) (hfp : ∀ b ∈ fp, sc.heap.objs.size ≤ b ∧ b ≠ X.env.locals ∧ b ∉ X.fs ∧ b ≠ a ∧ b ∉ W.xa) (hxa : ∀ b ∈ W.xa, b ≠ X.env.locals ∧ b ∉ X.fs) (hax : a ∉ W.xa)
    (hg : ∀ s0 H0, PG (slice X s0 H0) tg gt) (he : ∀ s0 H0, PE (slice X s0 H0) e te) (hq : ∀ s0 H0, PSs (slice X s0 H0) post tq)
    (step : ∀ i σ Hw H, Q i σ Hw H → (J.stop i H ∧ W.en i Hw H) ∨ (J.go i H ∧ ∀ x H', J.yld i H x H' → gt x σ H' fun σ2 H3 => te σ2 H3 fun y H4 => W.yl i Hw y H4 ∧ ∀ H5, ry (i + 1) H5 → tq { nx := fun σ6 H6 => Q (i + 1) σ6 H5 H6, rt := fun _ _ => False } σ2 H5))
    (hk : ∀ r, k (.ok r) = .pure (.done (.ret (match r with | .ret v => v | _ => .none))))
    (hco : X.env.scope.isCoroutine = false) (hi : interactive X.env = false) : ∀ (n i : Nat) (s₀ s sa : Shared) (Ha Hw H : Hp) (σ : L2.St), i + (n + 1) = N0 →
      ((i = 0 ∧ sa = sc ∧ Ha = Hc ∧ Hw = Hc) ∨ (1 ≤ i ∧ W.wk i s₀ Hw ∧ sa = { s₀ with heap := below s₀.heap sc.heap.objs.size } ∧ Ha = Hw ∧ s₀.os = sc.os)) →
      Q i σ Hw H → Inv (slice X sa Ha) (xpins W.xa s₀.heap Hw) σ H s → tn i s.heap → (∀ b ∈ fp, H b = none) →
      Seg (model P w) A (RG Cg P w outer sc Hc W E N0 a g) (YG P w K mg base A outer sc Hc W N0 a g) (n + 1) s₀ (.forLoop tg (.ref it) (.Expr (.Yield (some e) yp) ep :: post) [] X.env)
        ((model P w).den (.forLoop tg (.ref it) (.Expr (.Yield (some e) yp) ep :: post) [] X.env)) [.ret k none false l (.func full X.env) p []] s := by
  subst hP hw hK hm hb ho
  have gd0 : ∀ {kk : Result → Sem PySem.Fin} {c0 : Code}, ([Frame.ret kk none false l c0 p []]).any Frame.guarded = false := rfl
  intro n
  induction n using Nat.strongRecOn with
  | ind n ih =>
    intro i s₀ s sa Ha Hw H σ hN link hQ I st fr
    have size : sa.heap.objs.size ≤ sc.heap.objs.size := by
      rcases link with ⟨_, e, _⟩ | ⟨_, _, e, _⟩
      · rw [e]; exact Nat.le_refl _
      · rw [e]; exact below_le
    have from_ : ∀ {ip : List (Addr × Obj)} {σ' : L2.St} {H' : Hp} {s' : Shared}, Inv (slice X sa Ha) (xpins W.xa s₀.heap Hw ++ ip) σ' H' s' → From X.prog X.w X.outer sc Hc W i s₀ Hw H' s' := fun {ip σ' H' s'} I' => by
      have b : Un X.fs X.ex Ha H' sa.heap s'.heap := I'.base
      have o : s'.os = sa.os := I'.os
      rw [hex] at b
      refine ⟨?_, I'.bare, I'.hok, fun p hp => ?_, ?_⟩
      · rcases link with ⟨_, e, _⟩ | ⟨_, _, e, _, e2⟩
        · rw [o, e]
        · rw [o, e]; exact e2
      · have z := I'.pin p (List.mem_append_right _ (List.mem_append_left _ hp))
        exact ⟨z.1, z.2.1⟩
      · rcases link with ⟨e1, e2, e3, e4⟩ | ⟨e1, e2, e3, e4, _⟩
        · subst e2 e3
          exact .inl ⟨e1, e4, b⟩
        · subst e3 e4
          exact .inr ⟨e1, e2, b⟩
    have fok : ∀ {H' : Hp}, (∀ b ∈ fp, H' b = none) → ∀ b ∈ fp, FpOk (slice X sa Ha) (xpins W.xa s₀.heap Hw) H' b := fun {H'} hn b hb => by
      obtain ⟨z1, z2, z3, z4, z5⟩ := hfp b hb
      refine ⟨hn b hb, z2, z3, .inr (Nat.le_trans size z1), fun x c e => ?_, fun q hq => ?_⟩
      · have e : X.env.cells.lookup x = some c := e
        rw [hcells x] at e; cases e
      · have hq : q ∈ X.pn ++ xpins W.xa s₀.heap Hw := hq
        rw [hpn] at hq
        rcases List.mem_append.mp hq with hq | hq
        · rw [List.mem_singleton.mp hq]; exact Ne.symm z4
        · exact fun z => z5 (z ▸ (of_xpins hq).1)
    show Seg _ A _ _ _ s₀ _ ((forTurn tg (.ref it) (.Expr (.Yield (some e) yp) ep :: post) [] X.env).onRaise (fun x => do noteFrame x X.env; theTreesLotGoes x)) _ s
    unfold forTurn
    rw [Sem.onRaise_eq_wrap]
    refine seg_bind_wrap (wpAny_standAt ?_)
    refine seg_bind_wrap ?_
    rw [over_for, ← hA]
    rcases step i σ Hw H hQ with ⟨stop, hen⟩ | ⟨goes, nxt⟩
    · refine wpAny_onRaise (wpAny_mono (T.done (slice X sa Ha) rfl rfl rfl hc i _ s σ H (fun _ _ => False) I (fok fr) st stop) (fun r' s4 h4 => ?_) fun x s' hx => hx.elim)
      obtain ⟨hr, I4⟩ := h4
      subst hr
      refine seg_again rfl ?_
      show Seg _ A _ _ _ s₀ _ (((execs [] X.env).onRaise (fun x => do noteFrame x X.env; theTreesLotGoes x)) >>= fun f => .pure (Fin.done f)) _ s4
      refine seg_leaf (.ok .next) ?_
      rw [hk]
      exact seg_end (.ok (.ret .none)) (.inl ⟨.inl rfl, i, Hw, H, hN, from_ (ip := []) (by rw [List.append_nil]; exact I4), hen⟩)
    · refine wpAny_onRaise (wpAny_mono (T.item (slice X sa Ha) rfl rfl rfl hc i _ s σ H (fun _ _ => False) I (fok fr) st goes) (fun r' s4 h4 => ?_) fun x s' hx => hx.elim)
      obtain ⟨u, hr, h4⟩ := h4
      subst hr
      refine seg_bind_wrap ?_
      rw [over_for, ← hA]
      refine wpAny_mono h4 (fun _ s5 h5 => ?_) fun x s' hx => hx.elim
      obtain ⟨x, H5, I5, r5, y5, st5, fr5⟩ := h5
      have I5' := I5.pinned (fok fr5) (T.obj _ _ st5)
      refine seg_bind_wrap ?_
      rw [over_for, ← hA]
      refine wpAny_mono ((hg sa Ha).run _ s5 σ H5 x u _ I5' r5 (nxt x H5 y5)) (fun _ s6 h6 => ?_) fun x s' hx => hx.elim
      obtain ⟨σ6, H6, I6, q6⟩ := h6
      rw [Sem.bind_eq_wrap', Sem.wrap_wrap]
      refine seg_execs_cons ?_
      refine seg_Expr_Yield rfl rfl rfl ?_ hco hi
      rw [over_for, ← hA]
      refine wpAny_mono ((he sa Ha).run _ s6 σ6 H6 _ I6 q6) (fun v s7 h7 => ?_) fun x s' hx => hx.elim
      obtain ⟨y, H7, I7, r7, yl7, ry7⟩ := h7
      intro kap hkap
      obtain ⟨m, ⟨oL, es, epp, hoL, hdL, hrL⟩, _⟩ := id I7.loc
      have hoL : s7.heap.get? X.env.locals = some oL := hoL
      have pin5 : ∀ q ∈ pinsAt fp s5.heap, s7.heap.get? q.1 = some q.2 ∧ H7 q.1 = none ∧ ∀ v, q.2.data ≠ .cell v := fun q hq => by
        obtain ⟨p1, p2, _, _, p5⟩ := I7.pin q (List.mem_append_right _ (List.mem_append_right _ hq))
        exact ⟨p1, p2, p5⟩
      have pinG : s7.heap.get? a = some go ∧ H7 a = none := by
        obtain ⟨p1, p2, _⟩ := I7.pin (a, go) (List.mem_append_left _ (by show (a, go) ∈ X.pn; rw [hpn]; exact List.mem_singleton.mpr rfl))
        exact ⟨p1, p2⟩
      refine ⟨i, Hw, y, H7, (X.env.locals, oL) :: (a, go) :: pinsAt fp s5.heap, go, by omega, r7, from_ I7, I7.nolimit, hgo, List.mem_cons_of_mem _ List.mem_cons_self, yl7, fun q hq => ?_, fun hn s' H' hwk e0 os' hp hx => hkap .none s' ?_⟩
      · rcases List.mem_cons.mp hq with hq | hq
        · rw [hq]
          exact ⟨hoL, I7.free, Nat.le_of_eq hL.symm, fun z => (hxa _ z).1 rfl, fun v z => by rw [show oL.data = _ from hdL] at z; cases z⟩
        rcases List.mem_cons.mp hq with hq | hq
        · rw [hq]
          exact ⟨pinG.1, pinG.2, hag, hax, hgd⟩
        · obtain ⟨p1, p2, p3⟩ := pin5 q hq
          exact ⟨p1, p2, (hfp q.1 (of_pinsAt hq).1).1, (hfp q.1 (of_pinsAt hq).1).2.2.2.2, p3⟩
      · obtain ⟨n', rfl⟩ : ∃ n', n = n' + 1 := ⟨n - 1, by omega⟩
        have I7' : Inv (slice X sa Ha) (pinsAt fp s5.heap) σ6 H7 s7 := I7.pins_of fun p hp => I7.pin p (List.mem_append_right _ (List.mem_append_right _ hp))
        have I8' : Inv (slice X { s' with heap := below s'.heap sc.heap.objs.size } H') (pinsAt fp s5.heap) σ6 H' s' := by
          have z := hp (X.env.locals, oL) List.mem_cons_self
          refine woken (L := sc.heap.objs.size) hL (by rw [hz]) X0 hcells hex hst I7' (oL := oL) (by rw [← hL]; exact hoL) (by rw [← hL]; exact z.1) (by rw [← hL]; exact z.2) X0.frames e0 fun q hq => ?_
          rcases List.mem_append.mp hq with hq | hq
          · rw [hpn] at hq
            exact hp q (List.mem_cons_of_mem _ (by rw [List.mem_singleton.mp hq]; exact List.mem_cons_self))
          · exact hp q (List.mem_cons_of_mem _ (List.mem_cons_of_mem _ hq))
        have I8 : Inv (slice X { s' with heap := below s'.heap sc.heap.objs.size } H') (xpins W.xa s'.heap H' ++ pinsAt fp s5.heap) σ6 H' s' := I8'.pins_of fun q hq => (List.mem_append.mp hq).elim (fun z => by
          obtain ⟨z1, z2, z3⟩ := of_xpins z
          exact ⟨z2, z3, (hxa _ z1).1, (hxa _ z1).2, hx _ z1 _ z2⟩) fun z => I8'.pin q (List.mem_append_right _ z)
        refine seg_wrap ?_
        rw [over_for, ← hA]
        refine wpAny_mono ((hq _ _).run _ s' σ6 H' _ I8 (ry7 H' (hry _ _ _ hwk))) (fun fl s9 h9 => ?_) fun x s' hx => hx.elim
        cases fl with
        | next =>
          obtain ⟨σ9, H9, I9, q9⟩ := h9
          have pin9 : ∀ b ∈ fp, ∀ o, s5.heap.get? b = some o → s9.heap.get? b = some o ∧ H9 b = none := fun b hb o eo => by
            have z := I9.pin (b, o) (List.mem_append_right _ (List.mem_append_right _ (mem_pinsAt hb eo)))
            exact ⟨z.1, z.2.1⟩
          refine seg_again rfl (ih n' (by omega) (i + 1) s' s9 _ _ H' H9 σ9 (by omega) (.inr ⟨by omega, hwk, rfl, rfl, os'⟩) q9 I9.unpinned (T.keep _ _ _ st5 fun b hb o eo => (pin9 b hb o eo).1) fun b hb => ?_)
          obtain ⟨o, eo, _⟩ := T.obj _ _ st5 b hb
          exact (pin9 b hb o eo).2
        | brk => obtain ⟨_, _, _, z⟩ := h9; exact z.elim
        | cont => obtain ⟨_, _, _, z⟩ := h9; exact z.elim
        | ret v => obtain ⟨_, _, _, _, _, z⟩ := h9; exact z.elim
theorem no_cells {n : Nat} : ∀ l : List (Str × NameKind), (∀ y ∈ l, y.2 ≠ .cell) → cellsFrom n l [] = []
  | [], _ => rfl
  | (x, kd) :: r, h => by
    have hk : (kd == NameKind.cell) = false := beq_eq_false_iff_ne.mpr (h (x, kd) List.mem_cons_self)
    show (if (kd == NameKind.cell) = true then _ else cellsFrom n r []) = []
    rw [hk, if_neg Bool.false_ne_true]
    exact no_cells r fun y hy => h y (List.mem_cons_of_mem _ hy)
/-- the parts of such a body -/
def lastS (b : List Stmt) : Stmt := b.getLastD (.Pass ⟨0, 0, 0, 0⟩)
def preS (b : List Stmt) : List Stmt := b.dropLast
def tgS (b : List Stmt) : Expr := match lastS b with | .For t _ _ _ _ => t | _ => .Name Str.empty ⟨0, 0, 0, 0⟩
def itS (b : List Stmt) : Expr := match lastS b with | .For _ i _ _ _ => i | _ => .Name Str.empty ⟨0, 0, 0, 0⟩
def yS (b : List Stmt) : Expr := match lastS b with | .For _ _ (.Expr (.Yield (some e) _) _ :: _) _ _ => e | _ => .Name Str.empty ⟨0, 0, 0, 0⟩
def poS (b : List Stmt) : List Stmt := match lastS b with | .For _ _ (_ :: p) _ _ => p | _ => []
/-- THE RULE: such a generator def, by its body -/
theorem gfn2_of {k : Nat} {name : Str} {params : Arguments} {body pre post : List Stmt} {tg iter e : Expr} {yp ep fpos : Pos} {dV kV doc pm ct oc : Value} {an od : Option Addr} {osl : Array (Option Value)} {ps : List Str} {sp : SpG2}
    (lk : K.lookup f = some ⟨oc, od, .func (PySem.W.fnOf name qual params body scope dV kV doc pm an cd ct), osl⟩) (hcd : PySem.W.codeIn K cd qual = true) (S : GScope N ps scope)
    (hbd : body = pre ++ [.For tg iter (.Expr (.Yield (some e) yp) ep :: post) [] fpos]) (nocell : ∀ y ∈ scope.names, y.2 ≠ .cell) (hs : ∀ env x, foldedSetIterable iter env x = pure x)
    (hco : scope.isCoroutine = false) (hin : ∀ L, interactive (envOfC qual scope L f cd) = false)
    (len : ∀ vs H ry yl en E, sp vs H ry yl en E → vs.length = ps.length)
    (hbody : ∀ (A : Around) (outer : List Env) (s : Shared) (H : Hp) (vs : List V) (ry : Nat → Hp → Prop) (yl : Nat → Hp → V → Hp → Prop) (en : Nat → Hp → Hp → Prop) (E : XK) (pn : List (Addr × Obj)), Room k (A.deeper (envOfC qual scope s.heap.objs.size f cd)) → sp vs H ry yl en E →
      ∃ tp wi g te tq, PSs (gcxC Cg P w K mg base N qual scope f cd A outer s H E pn) pre tp ∧ PI (slice (gcxC Cg P w K mg base N qual scope f cd A outer s H E pn) s H) tg iter wi ∧ (∀ s0 H0, PG (slice (gcxC Cg P w K mg base N qual scope f cd A outer s H E pn) s0 H0) tg g) ∧
        (∀ s0 H0, PE (slice (gcxC Cg P w K mg base N qual scope f cd A outer s H E pn) s0 H0) e te) ∧ (∀ s0 H0, PSs (slice (gcxC Cg P w K mg base N qual scope f cd A outer s H E pn) s0 H0) post tq) ∧ tGenX tp wi g te tq ry yl en H (start N vs) H) :
    GFn2 Cg P w K mg base (k + 1) f (PySem.W.fnOf name qual params body scope dV kV doc pm an cd ct) ps sp := by
  subst hbd
  refine ⟨len, fun A outer s H args us vs ry yl en E hr e0 hb r hsp => ?_⟩
  have hl := len _ _ _ _ _ _ hsp
  have kin : K.In s.heap := e0.mod.kin.keeps fun b o q => (e0.bs b o q).1
  have lim : s.heap.NoLimit := e0.mod.nolimit.keeps fun b o q => (e0.bs b o q).1
  have kinds : ∀ y ∈ ps.zip us, scope.names.lookup y.1 = some .local ∨ (scope.names.lookup y.1 = some .cell ∧ ((cellsFrom (s.heap.objs.size + 1) scope.names []).lookup y.1).isSome = true) := fun ⟨n, v⟩ hy => by
    rcases S.par n (List.of_mem_zip hy).1 with z | z
    · exact .inl z
    · exact .inr ⟨z, PySem.W.cellsFrom_some _ _ _ (.inl z)⟩
  refine codeAny_call_generator hr.depth (kin _ _ lk) rfl S.co S.gen rfl (PySem.W.codeRec_of kin hcd) (hb _ _ _ _ ?_)
  refine wpAny_newFunctionEnv_cells S.kind kinds fun env he s1 x => ?_
  subst he
  have lim1 : s1.heap.NoLimit := lim.keeps x.toInCall.keep
  refine ⟨lim1, ?_⟩
  obtain ⟨h1, tk, es1, _⟩ := x.done
  have os1 : s1.os = s.os := by rw [es1]
  have gen1 : s1.gens = s.gens := by rw [es1]
  have lt1 : s.heap.objs.size < s1.heap.objs.size := x.toInCall.ns.lt
  have kp1 : ∀ b o, s.heap.get? b = some o → s1.heap.get? b = some o := x.toInCall.keep
  have main : ∀ (go : Obj) (nm qn : Value) (tk2 : Nat), go.cls = .type "generator" → go.data = .fields #[.int s1.gens.size 0, nm, qn] → go.slots = #[] → (∀ h : Heap, (h.push go).get? h.objs.size = some go) →
      GMade2 Cg P w K mg base (k + 1) outer H s ry yl en E (.ref s1.heap.objs.size) { s1 with gens := s1.gens.push (.fresh (.func (pre ++ [.For tg iter (.Expr (.Yield (some e) yp) ep :: post) [] fpos]) (envOfC qual scope s.heap.objs.size f cd))), toks := tk2, heap := s1.heap.push go } := by
    intro go nm qn tk2 c1 c2 c3 hgp
    have isG : ∀ h : Heap, h.get? s1.heap.objs.size = some go → h.IsGen s1.heap.objs.size s1.gens.size := fun h q => ⟨go, nm, qn, q, c1, c2, c3⟩
    have there : (s1.heap.push go).get? s1.heap.objs.size = some go := hgp _
    refine ⟨s1.heap.objs.size, s1.gens.size, _, rfl, Nat.le_of_lt lt1, ?_, isG _ there, Array.getElem?_push_size .., os1, ?_, lim1.keeps fun b o q => Heap.get?_push_of_some _ q, fun b o q => Heap.get?_push_of_some _ (kp1 b o q), ?_⟩
    · show _ < (s1.heap.push _).objs.size
      rw [Heap.size_push]; exact Nat.lt_succ_self _
    · exact AllBare.push (by rw [gen1]; exact e0.bare) rfl
    intro Aw xa wk N0 s2 hrw hfr hxa hry hk2 hos hba hN0
    have e0w : Env0 P w K mg base Aw outer s H := ⟨hfr, e0.mod, e0.bs, e0.bsz, e0.funs, e0.frf, e0.hok, e0.bare⟩
    obtain ⟨tp, wi, gt, te, tq, hp1, hp2, hp3, hp4, hp5, hq⟩ := hbody Aw outer s H vs ry yl en E [(s1.heap.objs.size, go)] (hrw.deeper _) hsp
    have I1 : Inv (gcxOf P w K mg base N qual scope f cd Aw outer s H E []) [] (start N vs) H s1 := inv_startG S hrw.hd e0w hl r x
    have kp2 : ∀ b o, s1.heap.get? b = some o → s2.heap.get? b = some o := fun b o q => hk2 b o (Heap.get?_push_of_some _ q)
    have I2 : Inv (gcxOf P w K mg base N qual scope f cd Aw outer s H E []) [] (start N vs) H s2 := I1.call' (ch := []) (hos.trans os1.symm) (Un.kept kp2) (I1.hok.kept kp2) hba fun b z => by simp at z
    have hea : s2.heap.get? s1.heap.objs.size = some go := hk2 _ go there
    have hgd : ∀ v, go.data ≠ .cell v := fun v q => by rw [c2] at q; cases q
    have lexa : ∀ b ∈ xa, s1.heap.objs.size < b := fun b hb => by
      have z : (s1.heap.push go).objs.size ≤ b := (hxa b hb).1
      rw [Heap.size_push] at z
      exact z
    have I3 : Inv (gcxOf P w K mg base N qual scope f cd Aw outer s H E [(s1.heap.objs.size, go)]) (xpins xa s2.heap H) (start N vs) H s2 := Inv.pinnedG I2 fun p hp => by
      rcases List.mem_append.mp hp with hp | hp
      rotate_left
      · obtain ⟨z1, z2, z3⟩ := of_xpins hp
        obtain ⟨_, o, eo, co⟩ := hxa _ z1
        rw [z2] at eo
        cases eo
        exact ⟨z2, z3, Nat.ne_of_gt (Nat.lt_trans lt1 (lexa _ z1)), I1.nofs (Nat.le_of_lt (lexa _ z1)), co⟩
      rw [List.mem_singleton] at hp
      rw [hp]
      exact ⟨hea, I1.hok.fresh (Nat.le_refl _), Nat.ne_of_gt lt1, I1.nofs (Nat.le_refl _), hgd⟩
    have noc : ∀ y, (envOfC qual scope s.heap.objs.size f cd).cells.lookup y = none := fun y => by
      show (cellsFrom (s.heap.objs.size + 1) scope.names []).lookup y = none
      rw [no_cells scope.names nocell]
      rfl
    refine seg_func ?_
    rw [execs_app]
    refine seg_wrap ?_
    rw [over_func]
    refine wpAny_mono (hp1.run _ s2 _ H _ (I3.wish _) hq) (fun fl s3 h3 => ?_) fun z s3 hx => ?_
    · cases fl with
      | brk => obtain ⟨_, _, _, z⟩ := h3; exact z.elim
      | cont => obtain ⟨_, _, _, z⟩ := h3; exact z.elim
      | ret v => obtain ⟨_, _, _, _, _, z⟩ := h3; exact z.elim
      | next =>
        obtain ⟨σ3, H3, I3', q3⟩ := h3
        have I4 := slice_inv I3'
        show Seg _ Aw _ _ _ _ _ ((execs [.For tg iter (.Expr (.Yield (some e) yp) ep :: post) [] fpos] _).wrap _ _ _ _) _ _
        refine seg_execs_cons ?_
        rw [exec_For]
        show Seg _ _ _ _ _ _ _ (.at fpos fun _ => (eval iter (envOfC qual scope s.heap.objs.size f cd) >>= fun v => (foldedSetIterable iter (envOfC qual scope s.heap.objs.size f cd) v >>= fun x => (standAt iter.pos >>= fun _ => (holding [x] (pyIter x) >>= fun itv => runOwn (.forLoop tg itv (.Expr (.Yield (some e) yp) ep :: post) [] (envOfC qual scope s.heap.objs.size f cd)) (envOfC qual scope s.heap.objs.size f cd))))).wrap _ _ _ _) _ _
        refine seg_at (seg_bind_wrap ?_)
        rw [over_func]
        refine wpAny_mono (hp2.run _ s3 σ3 H3 _ I4 q3) (fun v s4 h4 => ?_) fun x s' hx => hx.elim
        rw [hs _ v]
        refine seg_bind_wrap (wpAny_pure ?_)
        refine seg_bind_wrap (wpAny_standAt ?_)
        refine seg_bind_wrap ?_
        rw [over_func]
        refine wpAny_holding (wpAny_mono h4 (fun itv s5 h5 => ?_) fun x s' hx => hx.elim)
        obtain ⟨it, fp, tn, Jt, H5, ee, I5, T, st5, f5, Q, q0, turn⟩ := h5
        subst ee
        refine seg_call fun p => ?_
        obtain ⟨n, rfl⟩ : ∃ n, N0 = n + 1 := ⟨N0 - 1, by omega⟩
        refine turns (X := gcxC Cg P w K mg base N qual scope f cd Aw outer s H E [(s1.heap.objs.size, go)]) (W := ⟨xa, wk, yl, en⟩) (Q := Q) rfl rfl rfl rfl rfl rfl rfl hfr rfl rfl rfl rfl (I3.ok.wish _) noc rfl rfl rfl isG (Nat.le_of_lt lt1) hgd hry T (fun b hb => ?_) (fun b hb => ⟨Nat.ne_of_gt (Nat.lt_trans lt1 (lexa _ hb)), I1.nofs (Nat.le_of_lt (lexa _ hb))⟩) (fun hb => Nat.lt_irrefl _ (lexa _ hb)) hp3 hp4 hp5 turn (fun r => by cases r <;> rfl) hco (hin _) n 0 s2 s5 s H H H5 σ3 (by omega) (.inl ⟨rfl, rfl, rfl, rfl⟩) q0 I5 st5 fun b hb => (f5 b hb).1
        obtain ⟨_, z1, z2, z3, _, z4⟩ := f5 b hb
        refine ⟨z3.elim (fun z => ?_) id, z1, z2, fun z => z4 (s1.heap.objs.size, go) (List.mem_append_left _ (List.mem_singleton.mpr rfl)) z.symm, fun z => ?_⟩
        rotate_left
        · obtain ⟨_, o, eo, _⟩ := hxa _ z
          exact z4 (b, o) (List.mem_append_right _ (to_xpins z eo (I1.hok.fresh (Nat.le_of_lt (lexa _ z))))) rfl
        exact absurd (show b ∈ ([] : List Addr) from z) List.not_mem_nil
    · refine seg_wrap ?_
      rw [over_func]
      refine wpAny_mono (show wpAny (model P w) (Aw.deeper (envOfC qual scope s.heap.objs.size f cd)) (leaving (envOfC qual scope s.heap.objs.size f cd) z) (fun _ s'' => Cg outer H s E z s'' ∧ ∀ p ∈ [(s1.heap.objs.size, go)], s''.heap.get? p.1 = some p.2) (fun _ _ => False) s3 from hx) (fun _ s4 q => ?_) fun _ s4 q => q.elim
      exact seg_end (.error z) (.inr ⟨z, rfl, q.1, isG _ (q.2 _ (List.mem_singleton.mpr rfl))⟩)
  exact main _ _ _ _ rfl rfl rfl fun h => Heap.get?_push_size _ rfl
end
end HS
/-! Consuming a generator of genx.lean: next, for with break, a list comprehension over it (own rules over PyProof.Gen, HandS.GenList). -/
namespace HS
open PySem PySem.Spec PyProof.Rows L2 GenW
section
variable {M : Model}
/-- what goes on behind a yield -/
def goOn (M : Model) (A : Around) (R : GenEnd) (Y : Protocol) : Nat → GenState → Resume → Shared → Prop
  | 0 => fun _ _ _ => False
  | m + 1 => fun gs r s => gs.Goes M A R Y m r s
/-- as the kit's resume, but it tells that what a yield leaves is asleep -/
theorem wake_gen {A : Around} {R : GenEnd} {Y : Protocol} {n g : Nat} {E : Value → Shared → Prop} {s : Shared} {gs : GenState} {r : Resume} {lv : List Value} {α : Type} {k : GenResult → Sem α} {Q : α → Shared → Prop}
    (there : s.gens[g]? = some gs) (goes : gs.Goes M A R Y n r (s.setGen g .running)) (ends : ∀ x t, R n (s.setGen g .running) x t → wpAny M A (k (End.ret x).result) Q E (t.setGen g .finished))
    (yields : ∀ v t gs', gs'.bare = true → Asleep gs' → Y (n - 1) (s.setGen g .running) v t (goOn M A R Y n gs') → wpAny M A (k (.yielded v)) Q E (t.setGen g gs')) : wpAny M A (.resume g r lv k) Q E s := by
  intro Γ p hΓ; rw [Sem.wp_resume]
  have woken : ∀ c, (Γ.wake c p).Woken A := fun d => hΓ.wake d p
  have both : ∀ e t, SegEnd R Y n (Seg.next M A R Y n) (s.setGen g .running) e t → e.quiet = true ∧ Sem.wp M Γ (k e.result) (fun a _ s' => Q a s') (fun x _ s' => E x s') p (t.setGen g e.genState) := fun e t h => by
    cases e with
    | ret x => exact ⟨rfl, ends x t h Γ p hΓ⟩
    | susp v g0 l0 k0 c0 p0 f0 => exact ⟨h.1, yields v t _ (End.bare_of_quiet h.1) ⟨_, _, _, _, _, _, rfl⟩ (by cases n with | zero => exact h.2 | succ m => exact h.2) Γ p hΓ⟩
  cases gs with
  | running => exact goes.elim
  | finished => exact goes.elim
  | fresh c =>
    obtain ⟨rfl, seg⟩ := goes
    obtain ⟨e, t, run, fin⟩ := seg_iff.mp seg (Γ.wake c p) p rfl (woken c)
    exact ⟨_, _, by unfold Wakes; rw [there]; exact ⟨e, t, run, (both e t fin).1, rfl, rfl⟩, (both e t fin).2⟩
  | suspended k0 l0 c0 p0 f0 cl =>
    obtain ⟨e, t, run, fin⟩ := seg_iff.mp goes (Γ.wake c0 p) p0 rfl (woken c0)
    exact ⟨_, _, by unfold Wakes; rw [there]; exact ⟨e, t, run, (both e t fin).1, rfl, rfl⟩, (both e t fin).2⟩
end
theorem next_gen {P : Program} {w : World} {A : Around} {E : Value → Shared → Prop} {s : Shared} {a : Addr} {g n : Nat} {gs : GenState} {F : Nat → Shared → Shared → Prop} {Er : Value → Shared → Prop} {Y : Protocol} {Q : Option Value → Shared → Prop}
    (cold : A.handled = none) (lim : s.heap.NoLimit) (room : A.depth < recursionLimit) (isg : s.heap.IsGen a g) (there : s.gens[g]? = some gs)
    (goes : gs.Goes (model P w) A.in1 (fun n s₀ r t => ((r = .ok (.ret .none) ∨ r = .ok .next) ∧ F n s₀ t) ∨ ∃ e, r = .error e ∧ Er e t) Y n (.send .none) (s.setGen g .running))
    (yields : ∀ v t gs', gs'.bare = true → Asleep gs' → Y (n - 1) (s.setGen g .running) v t (goOn (model P w) A.in1 (fun n s₀ r t => ((r = .ok (.ret .none) ∨ r = .ok .next) ∧ F n s₀ t) ∨ ∃ e, r = .error e ∧ Er e t) Y n gs') → Q (some v) (t.setGen g gs'))
    (stops : ∀ t, F n (s.setGen g .running) t → ∀ h', (∀ b o, t.heap.get? b = some o → h'.get? b = some o) → Q none { t.setGen g .finished with heap := h' })
    (fails : ∀ e t, Er e t → t.heap.IsGen a g ∧ NotStop (model P w) e t.heap ∧ E e (t.setGen g .finished)) : wpAny (model P w) A (pyNext (.ref a)) Q E s := by
  unfold pyNext; refine wpAny_bind (wpAny_attempt (wpAny_callSpecial?_slot (name := Str.ofString "__next__") isg.typeIs slot_gen_next (wpAny_call_entry slot_gen_next isg.typeIs entry_gen_next ?_ (args_gen_next _))))
  (show wpAny _ A.in1 (Builtin.Generator.genWake (.ref a) (.send .none)) _ _ s); unfold Builtin.Generator.genWake
  refine wpAny_bind (wpAny_holding (wpAny_genNumber isg (wpAny_bind (wpAny_genState there ?_))))
  cases gs with
  | running => exact goes.elim
  | finished => exact goes.elim
  | _ =>
    refine wpAny_bind (wpAny_roomToWake lim room ?_); show wpAny _ A.in1 (.resume g (.send .none) [] _) _ _ s
    refine wake_gen there goes (fun x t hx => ?_) (fun v t gs' hb ha hv => wpAny_pure ⟨v, rfl, wpAny_pure (yields v t gs' hb ha hv)⟩)
    rcases hx with ⟨hr, hp⟩ | ⟨e, rfl, he⟩
    · have back : End.result (.ret x) = .returned .none := by rcases hr with hr | hr <;> rw [hr] <;> rfl
      (first | rw [back] | simp only [back]); show wpAny _ A.in1 (newExc (.type "StopIteration") [] >>= _) _ _ _
      refine wpAny_bind ?_; simp only [newExc, newTuple]; refine wpAny_bind (wpAny_newObj_type ?_ (by size_fits))
      refine wpAny_bind (m := firstArgMember _ _) (wpAny_of_eq (a := Value.none) (by (first | rfl | (simp only [firstArgMember]; rfl))) ?_); refine wpAny_newObj_type ?_ (by size_fits)
      simp only [raiseNew]; refine wpAny_bind (wpAny_bind (wpAny_handled ?_)); (first | rw [show A.in1.handled = none from cold] | rw [cold])
      refine wpAny_throw ?_; refine wpAny_bind (wpAny_isInstance (T := "StopIteration") (b := true) ⟨_, Heap.get?_push_size _ rfl, rfl⟩ isSubtype_stop ?_)
      exact wpAny_pure (stops t hp _ fun b o e => Heap.get?_push_of_some _ (Heap.get?_push_of_some _ e))
    · obtain ⟨isg1, nst, hq⟩ := fails e t he
      obtain ⟨o, nm, qn, ho, hc, hd, hsl⟩ := isg1
      (show wpAny _ A.in1 (Builtin.Generator.genLeft (.ref a) e) _ _ _); unfold Builtin.Generator.genLeft Builtin.Generator.madeByALambda
      refine wpAny_bind (wpAny_bind (wpAny_load (o := o) ho (wpAny_pure ?_))); refine wpAny_bind (nst _ _ _ _ rfl ?_)
      rw [Bool.and_false, if_neg Bool.false_ne_true]; unfold Builtin.Generator.genEscaped
      (first | refine wpAny_bind (nst _ _ _ _ rfl ?_) | refine wpAny_bind (wpAny_pure (wpAny_bind (nst _ _ _ _ rfl ?_))))
      rw [if_pos (show (!false) = true from rfl)]; (first | refine wpAny_throw ?_ | refine wpAny_bind (wpAny_throw ?_))
      refine wpAny_bind (nst _ _ _ _ rfl ?_); rw [if_neg Bool.false_ne_true]; exact wpAny_throw hq
/-- other generators' states do not matter to what is known -/
theorem Inv_gens {X : Cx} {pins : List (Addr × Obj)} {σ : L2.St} {H : Hp} {s : Shared} {D : Array GenState} (I : Inv X pins σ H s) (hb : AllBare D) : Inv X pins σ H { s with gens := D } :=
  I.call' (ch := []) rfl (Un.kept fun _ _ e => e) I.hok hb fun b z => by simp at z
/-- a run by night -/
theorem nightly {α : Type} {M : Model} {A : Around} {t : Sem α} {Q : α → Shared → Prop} {s : Shared} {g : Nat} {gs : GenState} (ha : Asleep gs) (there : s.gens[g]? = some gs) (h : wpAny M A t Q (fun _ _ => False) (night s)) :
    wpAny M A t (fun a s' => s'.gens[g]? = some gs ∧ ∃ D, Like s'.gens D ∧ Q a { s' with gens := D }) (fun _ _ => False) s :=
  wpAny_mono (by_night h) (fun a s' q => ⟨q.1 g gs there ha, q.2⟩) fun e s' q => by obtain ⟨_, _, _, z⟩ := q; exact z
/-- what the consumer knows when it wakes the generator -/
abbrev wkOf (X : Cx) (pins : List (Addr × Obj)) (Pv : Nat → L2.St → Hp → Prop) : Nat → Shared → Hp → Prop := fun i s H => ∃ σ, Inv X pins σ H s ∧ Pv i σ H
/-- what stood at the call lies below; of what came since, the frame is left as it is -/
theorem un_below {fs xa : List Addr} {H H' : Hp} {h h' : Heap} {L C : Nat} (u : Un fs [] H H' (below h L) h') (hC : C < L ∨ C ∈ xa) (nC : H C = none) (kp : ∀ p ∈ xpins xa h H, h'.get? p.1 = some p.2 ∧ H' p.1 = none) : Un fs ((List.range' L (h.objs.size - L)).filter fun b => decide (b ≠ C)) H H' h h' := by
  have low : ∀ b o, h.get? b = some o → b ∉ (List.range' L (h.objs.size - L)).filter (fun b => decide (b ≠ C)) → (below h L).get? b = some o ∨ (h'.get? b = some o ∧ H' b = none) := fun b o e n => by
    have hb := Heap.lt_size e
    by_cases hL : b < L
    · left; rw [below_get hL]; exact e
    · have hL := Nat.le_of_not_lt hL
      by_cases hbC : b = C
      · right
        subst hbC
        exact kp (b, o) (to_xpins (hC.resolve_left (Nat.not_lt.mpr hL)) e nC)
      · exact absurd (List.mem_filter.mpr ⟨List.mem_range'_1.mpr ⟨hL, by rw [Nat.add_sub_of_le (Nat.le_trans hL (Nat.le_of_lt hb))]; exact hb⟩, decide_eq_true hbC⟩) n
  exact ⟨fun b o e n hf hx => (low b o e hx).elim (fun z => u.keep b o z n hf List.not_mem_nil) fun z => z.1, fun b o e n hf hx => (low b o e hx).elim (fun z => u.slot b o z n hf List.not_mem_nil) fun z => ⟨o.slots, z.1⟩,
    fun b o e n hx => (low b o e hx).elim (fun z => u.free b o z n List.not_mem_nil) fun z => z.2, fun b o e hx => (low b o e hx).elim (fun z => u.there b o z List.not_mem_nil) fun z => ⟨o, z.1⟩, u.tups, u.frzs, u.tbls⟩
section
variable {Cg : CXT} {X : Cx} {pins : List (Addr × Obj)} {Hc : Hp} {sc : Shared} {Pv : Nat → L2.St → Hp → Prop} {yl : Nat → Hp → V → Hp → Prop} {en : Nat → Hp → Hp → Prop} {E : XK} {N0 : Nat} {a : Addr} {g : Nat} {σ0 : L2.St} {xa : List Addr} {lf : Nat → Hp → Hp} {h1 : Heap}
/-- about to ask for the i-th item (h1: the heap at the first asking) -/
structure Asks (Cg : CXT) (X : Cx) (pins : List (Addr × Obj)) (xa : List Addr) (h1 : Heap) (Hc : Hp) (sc : Shared) (Pv : Nat → L2.St → Hp → Prop) (yl : Nat → Hp → V → Hp → Prop) (en : Nat → Hp → Hp → Prop) (E : XK) (N0 : Nat) (a : Addr) (g : Nat) (i : Nat) (s : Shared) : Prop where
  lim : s.heap.NoLimit
  os : s.os = sc.os
  first : i = 0 → s.heap = h1
  isg : s.heap.IsGen a g
  state : ∃ gs, s.gens[g]? = some gs ∧ gs.Goes (model X.prog X.w) X.A.in1 (RG Cg X.prog X.w X.stack sc Hc ⟨xa, wkOf X pins Pv, yl, en⟩ E N0 a g) (YG X.prog X.w X.K X.mg X.base X.A.in1 X.stack sc Hc ⟨xa, wkOf X pins Pv, yl, en⟩ N0 a g) (N0 - i) (.send .none) (s.setGen g .running)
/-- how the consumer stands to what the generator may touch -/
structure Apt (X : Cx) (pins : List (Addr × Obj)) (xa : List Addr) (h1 : Heap) (Hc : Hp) (sc : Shared) (Pv : Nat → L2.St → Hp → Prop) (σ0 : L2.St) (lf : Hp → Hp) : Prop where
  os : sc.os = X.s_0.os
  loc : X.env.locals < sc.heap.objs.size ∨ X.env.locals ∈ xa
  far : ∀ b, sc.heap.objs.size ≤ b → b ≠ X.env.locals → (b ∈ X.ex ∨ X.s_0.heap.objs.size ≤ b) ∧ (∀ x c, X.env.cells.lookup x = some c → c ≠ b) ∧ ∀ p ∈ X.pn ++ pins, p.1 ≠ b
  fs : ∀ b ∈ X.fs, b < sc.heap.objs.size
  nocell : ∀ i σ H s, Inv X pins σ H s → Pv (i + 1) σ H → ∀ b ∈ xa, ∀ o, s.heap.get? b = some o → ∀ v, o.data ≠ .cell v
  start : ∀ H2 t, t.os = sc.os → AllBare t.gens → HOk X.prog X.w H2 t.heap → Un (frs X.stack) [] Hc H2 sc.heap t.heap → (∀ p ∈ xpins xa h1 Hc, t.heap.get? p.1 = some p.2 ∧ H2 p.1 = none) → Inv X pins σ0 (lf H2) t
/-- the heap that is told -/
def lifted (lf : Hp → Hp) (i : Nat) (H : Hp) : Hp := if i = 0 then lf H else H
theorem inv_from {lf : Hp → Hp} (ap : Apt X pins xa h1 Hc sc Pv σ0 lf) {i : Nat} {Hw H2 : Hp} {s t : Shared} (fst : i = 0 → s.heap = h1) (f : From X.prog X.w X.stack sc Hc ⟨xa, wkOf X pins Pv, yl, en⟩ i s Hw H2 t) : ∃ σ', ((i = 0 ∧ σ' = σ0 ∧ Hw = Hc) ∨ (1 ≤ i ∧ Pv i σ' Hw)) ∧ Inv X pins σ' (lifted lf i H2) t := by
  obtain ⟨os, bare, hok, kp, z | z⟩ := f
  · obtain ⟨rfl, rfl, un⟩ := z
    exact ⟨σ0, .inl ⟨rfl, rfl, rfl⟩, ap.start H2 t os bare hok un (by rw [← fst rfl]; exact kp)⟩
  · obtain ⟨hi, ⟨σ', I, pv'⟩, un⟩ := z
    have nz : i ≠ 0 := by omega
    refine ⟨σ', .inr ⟨hi, pv'⟩, ?_⟩
    show Inv X pins σ' (if i = 0 then lf H2 else H2) t
    rw [if_neg nz]
    refine I.call' (ch := (List.range' sc.heap.objs.size (s.heap.objs.size - sc.heap.objs.size)).filter fun b => decide (b ≠ X.env.locals)) (by rw [os, I.os, ap.os]) (un_below un ap.loc I.free kp) hok bare fun b hb => ?_
    obtain ⟨z1, z2⟩ := List.mem_filter.mp hb
    have z2 : b ≠ X.env.locals := of_decide_eq_true z2
    obtain ⟨f1, f2, f3⟩ := ap.far b (List.mem_range'_1.mp z1).1 z2
    exact ⟨f1, z2, f2, f3⟩
/-- what the next one may be -/
def Gives (Cg : CXT) (X : Cx) (pins : List (Addr × Obj)) (xa : List Addr) (h1 : Heap) (Hc : Hp) (sc : Shared) (Pv : Nat → L2.St → Hp → Prop) (yl : Nat → Hp → V → Hp → Prop) (en : Nat → Hp → Hp → Prop) (E : XK) (N0 : Nat) (a : Addr) (g : Nat) (σ0 : L2.St) (lf : Hp → Hp) (i : Nat) (r : Option Value) (s1 : Shared) : Prop :=
  match r with
  | none => ∃ σ' Hw H2, Inv X pins σ' (lifted lf i H2) s1 ∧ ((i = 0 ∧ σ' = σ0 ∧ Hw = Hc) ∨ (1 ≤ i ∧ Pv i σ' Hw)) ∧ en i Hw H2
  | some v => ∃ (σ' : L2.St) (Hw : Hp) (x : V) (H2 : Hp) (pv : List (Addr × Obj)) (gs : GenState), Inv X (pins ++ pv) σ' (lifted lf i H2) s1 ∧ RelV x v ∧ ((i = 0 ∧ σ' = σ0 ∧ Hw = Hc) ∨ (1 ≤ i ∧ Pv i σ' Hw)) ∧ yl i Hw x H2 ∧ Asleep gs ∧ s1.gens[g]? = some gs ∧ s1.heap.IsGen a g ∧
      ∀ (s7 : Shared) (σ7 : L2.St) (H7 : Hp), Inv X (pins ++ pv) σ7 H7 s7 → Pv (i + 1) σ7 H7 → s7.gens[g]? = some gs → Asks Cg X pins xa h1 Hc sc Pv yl en E N0 a g (i + 1) s7
theorem asks_next {lf : Hp → Hp} {i : Nat} {s : Shared} {Er : Value → Shared → Prop} (ap : Apt X pins xa h1 Hc sc Pv σ0 lf) (lfn : ∀ H b, sc.heap.objs.size ≤ b → b ∉ xa → H b = none → lf H b = none) (cold : X.A.handled = none) (room : X.A.depth < recursionLimit) (hi : i + 2 ≤ N0) (h : Asks Cg X pins xa h1 Hc sc Pv yl en E N0 a g i s)
    (hE : ∀ e t, Cg X.stack Hc sc E e t → NotStop (model X.prog X.w) e t.heap ∧ Er e (t.setGen g .finished)) :
    wpAny (model X.prog X.w) X.A (pyNext (.ref a)) (Gives Cg X pins xa h1 Hc sc Pv yl en E N0 a g σ0 lf i) Er s := by
  obtain ⟨gs, there, goes⟩ := h.state
  obtain ⟨m, hm⟩ : ∃ m, N0 - i = m + 1 := ⟨N0 - i - 1, by omega⟩
  rw [hm] at goes
  have hgs : g < s.gens.size := (Array.getElem?_eq_some_iff.mp there).1
  refine wpAny_gsz (n := g + 1) hgs (next_gen (F := fun n s₀ t => ∃ (i : Nat) (Hw H2 : Hp), i + n = N0 ∧ From X.prog X.w X.stack sc Hc ⟨xa, wkOf X pins Pv, yl, en⟩ i s₀ Hw H2 t ∧ en i Hw H2) (Er := fun e t => Cg X.stack Hc sc E e t ∧ t.heap.IsGen a g)
    cold h.lim room h.isg there goes (fun v t gs' hb ha hY hsz => ?_) (fun t hF h' hk hsz => ?_) fun e t he => ?_)
  · obtain ⟨i', Hw, x, H2, pv, go, hn, rx, fr, lim, hgo, hmem, hy, hpv, kap⟩ := hY
    have : i' = i := by omega
    subst this
    obtain ⟨σ', pw, I1⟩ := inv_from (s := s.setGen g .running) (yl := yl) (en := en) ap h.first fr
    have I2 : Inv X (pins ++ pv) σ' (lifted lf i' H2) t := I1.pins_of fun p hp => (List.mem_append.mp hp).elim (fun z => I1.pin p (List.mem_append_right _ z)) fun z => by
      obtain ⟨e, n, l, nx, c⟩ := hpv p z
      refine ⟨e, ?_, fun z => ?_, fun z => absurd (ap.fs _ z) (Nat.not_lt.mpr l), c⟩
      · unfold lifted
        by_cases hz : i' = 0
        · rw [if_pos hz]; exact lfn _ _ l nx n
        · rw [if_neg hz]; exact n
      · rcases ap.loc with q | q
        · rw [z] at l
          exact absurd q (Nat.not_lt.mpr l)
        · exact nx (z ▸ q)
    have hsz' : g < t.gens.size := by
      have q : (t.setGen g gs').gens.size = t.gens.size := setGen_size _ _ _
      rw [← q]; exact hsz
    refine ⟨σ', Hw, x, H2, pv, gs', Inv_gens I2 (allBare_setGen I2.bare hb), rx, pw, hy, ha, setGen_at hsz', hgo _ (hpv _ hmem).1, fun s7 σ7 H7 I7 p7 t7 => ⟨I7.nolimit, by rw [I7.os, ap.os], fun z => by omega, hgo _ (I7.pin _ (List.mem_append_right _ (List.mem_append_right _ hmem))).1, gs', t7, ?_⟩⟩
    have e : N0 - (i' + 1) = m := by omega
    rw [e]
    have I8 : Inv X (pins ++ pv) σ7 H7 (s7.setGen g .running) := Inv_gens I7 (allBare_setGen I7.bare rfl)
    exact kap (by omega) (s7.setGen g .running) H7 ⟨σ7, I8.unpinned, p7⟩ I8.env0.in1 (by rw [I8.os, ap.os]) (fun p hp => by
      have z := I8.pin p (List.mem_append_right _ (List.mem_append_right _ hp))
      exact ⟨z.1, z.2.1⟩) (ap.nocell _ _ _ _ I8.unpinned p7)
  · obtain ⟨i', Hw, H2, hn, fr, hen⟩ := hF
    have : i' = i := by omega
    subst this
    obtain ⟨σ', pw, I1⟩ := inv_from (s := s.setGen g .running) (yl := yl) (en := en) ap h.first fr
    exact ⟨σ', Hw, H2, I1.call' (ch := []) rfl (Un.kept hk) (I1.hok.kept hk) (allBare_setGen I1.bare rfl) fun b z => by simp at z, pw, hen⟩
  · obtain ⟨c, isg⟩ := he
    obtain ⟨z1, z2⟩ := hE e t c
    exact ⟨isg, z1, fun _ => z2⟩
end
end HS
/-! for x in f(..) of such a generator def (behind genfor.lean). -/
namespace HS
open PySem PySem.Spec PyProof.Rows L2 GenW
/-- what a generator def promises for its arguments -/
abbrev Pr2 := (Nat → Hp → Prop) → (Nat → Hp → V → Hp → Prop) → (Nat → Hp → Hp → Prop) → XK → Prop
abbrev TGen2 := L2.St → Hp → (Pr2 → Hp → Prop) → Prop
structure PGen2 (Cg : CXT) (X : Cx) (k : Nat) (e : Expr) (tg : TGen2) : Prop where
  run : ∀ (pins : List (Addr × Obj)) (s : Shared) (σ : L2.St) (H : Hp) (R : Pr2 → Hp → Prop) (R' : Hp → Pr2), (∀ pr H1, R pr H1 → ∃ ry yl en E, pr ry yl en E ∧ R' H1 ry yl en E) → Inv X pins σ H s → tg σ H R →
    wpAny (model X.prog X.w) X.A (eval e X.env) (fun u s' => ∃ H1 sc ry yl en E, Inv X pins σ H1 sc ∧ R' H1 ry yl en E ∧ GMade2 Cg X.prog X.w X.K X.mg X.base k X.stack H1 sc ry yl en E u s') X.xe s
section
variable {Cg : CXT} {X : Cx} {k : Nat} {f C : Addr} {fd : FuncData} {ps : List Str} {sp : SpG2} {dvs : List V} {ds : List Value} {x m : Str} {p pos pos' apos : Pos} {o : Expr} {ta : TE}
theorem run_gfn2 {pins : List (Addr × Obj)} {σ : L2.St} {H : Hp} {s : Shared} {us : List Value} {vs : List V} {ry : Nat → Hp → Prop} {yl : Nat → Hp → V → Hp → Prop} {en : Nat → Hp → Hp → Prop} {E : XK} {E1 : Value → Shared → Prop} (F : GFn2 Cg X.prog X.w X.K X.mg X.base k f fd ps sp) (hr : Room k X.A) (hb : Binds X.K fd ps ds) (hd : Vals dvs ds)
    (I : Inv X pins σ H s) (r : Vals vs us) (h : sp (vs ++ dvs) H ry yl en E) : wpAny (model X.prog X.w) X.A (call (.ref f) us) (fun u s' => GMade2 Cg X.prog X.w X.K X.mg X.base k X.stack H s ry yl en E u s') E1 s := by
  have rr : Vals (vs ++ dvs) (us ++ ds) := r.append hd
  have len : (us ++ ds).length = ps.length := by rw [← rr.length]; exact F.len _ _ _ _ _ _ h
  refine wpAny_call (codeAny_mono (F.run X.A X.stack s H ⟨us, []⟩ (us ++ ds) (vs ++ dvs) ry yl en E hr I.env0 (hb s us I.kIn len) rr h) fun res s' q => ?_)
  rcases res with e | fl
  · exact q.elim
  · cases fl with
    | ret u => exact q
    | _ => exact q.elim
def tCallG2 (sp : SpG2) (dvs : List V) (t : TA) : TGen2 := fun σ H R => t σ H fun vs H1 => R (sp (vs ++ dvs) H1) H1
/-- f(e, ..) -/
theorem pgen2_call {e : Expr} {es : List Expr} {t : TA} (F : GFn2 Cg X.prog X.w X.K X.mg X.base k f fd ps sp) (hr : Room k X.A) (hg : Gl X x) (hm : X.mg x = some (.ref f)) (hk : PySem.W.keepIn X.K (.ref f) = true) (hb : Binds X.K fd ps ds) (hd : Vals dvs ds)
    (ha : PA X (e :: es) t) (hdb : (x == ("__debug__" : Str)) = false := by decide) (he : starEach (e :: es) X.env = (false, eval e X.env) :: starEach es X.env := by rfl) (hpl : (backTo pos' (starEach es X.env)).any (·.1) = false := by rfl) : PGen2 Cg X k (.Call (.Name x p) (e :: es) [] pos') (tCallG2 sp dvs t) := by
  constructor
  intro pins s σ H R R' hRR I h
  refine wpAny_Call_Name_kw (ld_glob I hg hm ?_ hdb); refine PySem.W.callWith_K (h₀ := X.base) I.ok.mod.kin hk (thn (ha.run pos' pins s σ H _ I h) fun us s1 ⟨vs, H1, I1, r, q⟩ => ⟨I1.kIn, ?_⟩) he hpl
  obtain ⟨ry, yl, en, E, hp, hq⟩ := hRR _ _ q
  exact thn (run_gfn2 F hr hb hd I1 r hp) fun u s2 hG => ⟨H1, s1, ry, yl, en, E, I1, hq, hG⟩
/-- what is wanted of the promise -/
def WantG (σ : L2.St) (g : TG) (tb : TS) (D : Ends) (Pv : Nat → L2.St → Hp → Prop) (Ex : XK) (pr : Pr2) : Prop :=
  pr (fun i H2 => ∃ σ', Pv i σ' H2) (fun i Hw x H2 => ∀ σ', Pv i σ' Hw → (i = 0 → σ' = σ) → g x σ' H2 fun σ2 H3 => tb { D with nx := Pv (i + 1), ct := Pv (i + 1), bk := D.nx } σ2 H3) (fun i Hw H2 => ∀ σ', Pv i σ' Hw → (i = 0 → σ' = σ) → D.nx σ' H2) Ex
/-- for target in generator: Pv i: about to ask for the i-th item; up to Mx are asked for -/
def tForG (tg : TGen2) (g : TG) (tb : TS) (Ex : L2.St → XK) : TS := fun D σ H => tg σ H fun pr H1 => ∃ (Mx : Nat) (Pv : Nat → L2.St → Hp → Prop), Pv 0 σ H1 ∧ (∀ i σ H, Pv i σ H → i ≤ Mx) ∧ WantG σ g tb D Pv (Ex σ) pr
theorem apt_def {pins : List (Addr × Obj)} {σ : L2.St} {Hc : Hp} {sc : Shared} {Pv : Nat → L2.St → Hp → Prop} {h1 : Heap} (I : Inv X pins σ Hc sc) : Apt X pins [] h1 Hc sc Pv σ id := by
  obtain ⟨m, ns, _⟩ := I.loc
  have lt : ∀ {c b : Nat} {o : Obj}, sc.heap.objs.size ≤ b → sc.heap.get? c = some o → c ≠ b := fun hb e => Nat.ne_of_lt (Nat.lt_of_lt_of_le (Heap.lt_size e) hb)
  refine ⟨I.os, .inl ns.lt, fun b hb _ => ⟨.inr (Nat.le_trans I.sz hb), fun x c e => ?_, fun p hp => lt hb (I.pin p hp).1⟩, fun b hb => ?_, fun i σ H s _ _ b hb => absurd hb List.not_mem_nil, fun H2 t os bare hok un _ => I.call' (ch := []) os un hok bare fun b z => by simp at z⟩
  · obtain ⟨v, o, ho, _⟩ := I.cell x c e
    exact lt hb ho
  · obtain ⟨_, o, e, _⟩ := I.ok.funs.mem hb
    exact Nat.lt_of_lt_of_le (Heap.lt_size e) I.sz
theorem lifted_id {i : Nat} {H : Hp} : lifted id i H = H := by unfold lifted; split <;> rfl
/-- what a generator may let out is taken -/
def FailsAt (Cg : CXT) (X : Cx) (Ex : L2.St → XK) : Prop := ∀ (pins : List (Addr × Obj)) (σ : L2.St) (H1 : Hp) (sc : Shared) (g : Nat) (e : Value) (t : Shared), Inv X pins σ H1 sc → Cg X.stack H1 sc (Ex σ) e t → NotStop (model X.prog X.w) e t.heap ∧ X.xe e (t.setGen g .finished)
theorem no_fail : Passes (L2.CX X.prog X.w) X fun _ _ _ => False := fun _ _ _ _ _ _ _ c => by obtain ⟨_, _, _, _, _, _, _, _, _, _, _, _, z⟩ := c; exact z.elim
theorem no_stop : NoStop X.K fun _ _ _ => False := fun _ _ _ z => z.elim
theorem failsAt {Ex : L2.St → XK} (hx : ∀ σ, PassesAt (L2.CX X.prog X.w) X σ (Ex σ)) (hns : ∀ σ, NoStop X.K (Ex σ)) : FailsAt (L2.CX X.prog X.w) X Ex := fun pins σ H1 sc g e t I1 c => by
  obtain ⟨a, B, H', cls, d, z1, fl, z2, ub, z3, z4, z5, z6⟩ := id c
  have kin : X.K.In t.heap := I1.ok.mod.kin.keeps fun b o eb => fl.1 b o (ub.keep b o (I1.bs b o eb).1 (I1.bs b o eb).2 fun hm => by
    rcases List.mem_cons.mp (I1.stkSub b hm) with z | z
    · have h1 := Heap.lt_size eb
      rw [z] at h1
      exact absurd (Nat.lt_of_lt_of_le h1 (Nat.le_trans I1.ok.bsz I1.ok.above)) (Nat.lt_irrefl _)
    · exact I1.ok.nofr eb z)
  exact ⟨notStop_of (hns σ) kin c, hx σ pins H1 sc e _ I1 ⟨a, B, H', cls, d, z1, fl, z2, ub, z3, z4, allBare_setGen z5 rfl, z6⟩⟩
theorem no_fails : FailsAt (L2.CX X.prog X.w) X fun _ _ _ _ => False := fun _ _ _ _ _ _ _ _ c => by obtain ⟨_, _, _, _, _, _, _, _, _, _, _, _, z⟩ := c; exact z.elim
theorem ps_forG {e tgt : Expr} {body : List Stmt} {tg : TGen2} {g : TG} {tb : TS} {Ex : L2.St → XK} (hp : PassesOwn (model X.prog X.w) X.A X.env X.xe) (hx : FailsAt Cg X Ex) (hr : Room (k + 1) X.A) (hgen : PGen2 Cg X k e tg) (hgt : PG X.nox tgt g) (hb : PSs X.nox body tb)
    (hs : ∀ x, foldedSetIterable e X.env x = pure x := by intro _; rfl) : PS X (.For tgt e body [] pos) (tForG tg g tb Ex) := by
  constructor
  intro pins s σ H D I h
  refine wpAny_For (thn (hgen.run pins s σ H _ (fun H1 ry yl en E' => ∃ (Mx : Nat) (Pv : Nat → L2.St → Hp → Prop), Pv 0 σ H1 ∧ (∀ i σ H, Pv i σ H → i ≤ Mx) ∧ WantG σ g tb D Pv (Ex σ) fun a b c d => ry = a ∧ yl = b ∧ en = c ∧ E' = d) (fun pr H1 ⟨Mx, Pv, q0, q1, q2⟩ => ⟨_, _, _, _, q2, Mx, Pv, q0, q1, rfl, rfl, rfl, rfl⟩) I h) fun u s1 ⟨H1, sc, ry, yl, en, E', I1, ⟨Mx, Pv, q0, q1, q2⟩, made⟩ => ?_) hs
  obtain ⟨hry, hyl, hen, rfl⟩ := q2
  obtain ⟨a, n, c, rfl, ha1, ha2, isg, fresh, os1, bare1, lim1, kp1, wake⟩ := made
  refine wpAny_pyIter_gen isg ?_
  have fails := fun e t c => hx pins σ H1 sc n e t I1 c
  have ap : Apt X pins [] s1.heap H1 sc Pv σ id := apt_def I1
  refine codeAny_forLoop_any (fun m s' => ∃ i, i + m = Mx + 2 ∧ i ≤ Mx ∧ Asks Cg X pins [] s1.heap H1 sc Pv yl en (Ex σ) (Mx + 2) a n i s') ?_ (Mx + 2) ⟨0, Nat.zero_add _, Nat.zero_le _, lim1, os1, fun _ => rfl, isg, _, fresh, rfl, ?_⟩
  rotate_left
  · exact wake X.A.in1 [] _ (Mx + 2) (s1.setGen n .running) hr.in1 I1.ok.frames (fun b hb => absurd hb List.not_mem_nil) (fun i s3 H3 z => by rw [hry]; obtain ⟨σ', _, z⟩ := z; exact ⟨σ', z⟩) (fun b o e => e) os1 (allBare_setGen bare1 rfl) (by omega)
  rintro m s2 ⟨i, hm, hi, ask⟩
  refine wpAny_passesOwn hp (thn (asks_next ap (fun H b _ _ z => z) hr.hd hr.depth (by omega) ask fails) fun r s3 q => ?_)
  cases r with
  | none =>
    obtain ⟨σ', Hw, H2, I3, pw, z⟩ := q
    rw [lifted_id] at I3
    rw [hen] at z
    refine wpAny_pure ⟨σ', H2, I3, z σ' ?_ ?_⟩
    · rcases pw with ⟨rfl, rfl, rfl⟩ | ⟨_, pw⟩
      · exact q0
      · exact pw
    · rcases pw with ⟨rfl, rfl, rfl⟩ | ⟨hz, pw⟩
      · exact fun _ => rfl
      · exact fun z => by omega
  | some v =>
    obtain ⟨σ', Hw, x, H2, pv, gs, I3, rx, pw, y, slp, there, isg3, again⟩ := q
    rw [lifted_id] at I3
    rw [hyl] at y
    have p1 : Pv i σ' Hw := by
      rcases pw with ⟨rfl, rfl, rfl⟩ | ⟨_, pw⟩
      · exact q0
      · exact pw
    have p2 : i = 0 → σ' = σ := by
      rcases pw with ⟨rfl, rfl, rfl⟩ | ⟨hz, pw⟩
      · exact fun _ => rfl
      · exact fun z => by omega
    obtain ⟨og, _, _, ho, hc, hd, _⟩ := isg3
    refine go_of ho hc hd (by decide) ?_
    refine thnF (nightly slp there (hgt.run (pins ++ pv) (night s3) σ' H2 x v _ ((Inv_gens I3 (bare_night I3.bare)).wish _) rx (y σ' p1 p2))) fun _ s4 ⟨there4, D4, L4, σ4, H4, I4, q4⟩ => ?_
    have J4 : Inv X (pins ++ pv) σ4 H4 s4 := Inv_gens (s := { s4 with gens := D4 }) (D := s4.gens) (Inv.unwish I4) (like_bare L4 I4.bare)
    refine thnF (nightly slp there4 (hb.run (pins ++ pv) (night s4) σ4 H4 _ ((Inv_gens J4 (bare_night J4.bare)).wish _) q4)) fun f s5 ⟨there5, D5, L5, q5⟩ => ?_
    have back : ∀ {σ5 : L2.St} {H5 : Hp}, Inv X.nox (pins ++ pv) σ5 H5 { s5 with gens := D5 } → Inv X (pins ++ pv) σ5 H5 s5 := fun I5 => Inv_gens (s := { s5 with gens := D5 }) (D := s5.gens) (Inv.unwish I5) (like_bare L5 I5.bare)
    have more : ∀ {σ5 : L2.St} {H5 : Hp}, Inv X.nox (pins ++ pv) σ5 H5 { s5 with gens := D5 } → Pv (i + 1) σ5 H5 → ∃ m', m' < m ∧ ∃ i, i + m' = Mx + 2 ∧ i ≤ Mx ∧ Asks Cg X pins [] s1.heap H1 sc Pv yl en (Ex σ) (Mx + 2) a n i s5 := fun I5 p5 =>
      ⟨m - 1, by omega, i + 1, by omega, q1 _ _ _ p5, again s5 _ _ (back I5) p5 there5⟩
    cases f with
    | next => obtain ⟨σ5, H5, I5, p5⟩ := q5; exact more I5 p5
    | cont => obtain ⟨σ5, H5, I5, p5⟩ := q5; exact more I5 p5
    | brk => obtain ⟨σ5, H5, I5, p5⟩ := q5; exact ⟨σ5, H5, (back I5).unpinned, p5⟩
    | ret w => obtain ⟨x5, σ5, H5, I5, r5, p5⟩ := q5; exact ⟨x5, σ5, H5, (back I5).unpinned, r5, p5⟩
end
end HS
/-! for x in o.m(e, ..) of a generator method (behind genfor2.lean). -/
namespace HS
open PySem PySem.Spec PyProof.Rows L2 GenW
section
variable {Cg : CXT} {X : Cx} {k : Nat} {f C : Addr} {fd : FuncData} {ps : List Str} {sp : SpG2} {dvs : List V} {ds : List Value} {m : Str} {pos' apos : Pos} {o : Expr} {ta : TE}
def tMethG2 (C : Addr) (m : Str) (sp : SpG2) (dvs : List V) (ta : TE) (t : TA) : TGen2 := fun σ H R => ta σ H fun x H1 => ∃ a dx fs, x = .ref a ∧ H1 a = some (.ins C dx fs) ∧ fs.lookup m = none ∧ t σ H1 fun vs H2 => R (sp (x :: (vs ++ dvs)) H2) H2
theorem pgen2_meth {pl : Sem Bool} {e : Expr} {es : List Expr} {t : TA} (he : PE X o ta) (c : Cls X.K C) (hm : Meth X.K C m f) (F : GFn2 Cg X.prog X.w X.K X.mg X.base k f fd ps sp) (hr : Room k X.A) (hb : Binds X.K fd ps ds) (hd : Vals dvs ds) (ha : PA X (e :: es) t)
    (n1 : starEach (e :: es) X.env = (false, eval e X.env) :: starEach es X.env := by rfl) (n2 : (backTo pos' (starEach es X.env)).any (·.1) = false := by rfl)
    (n3 : eval (.Call (.Attribute o m apos) (e :: es) [] pos') X.env = (do
      let ov ← eval o X.env; standAt apos.atName
      let (f, first) ← holding [ov] (getMethod ov m pl); callWith pos' f first (backTo pos' (starEach (e :: es) X.env)) (backToKw pos' (keywordEach [] X.env))) := by rfl) : PGen2 Cg X k (.Call (.Attribute o m apos) (e :: es) [] pos') (tMethG2 C m sp dvs ta t) := by
  constructor
  intro pins s σ H R R' hRR I h
  refine PySem.W.methodCall_KW (pl := pl) (thn (he.run pins s σ H _ I h) fun u s1 ⟨x, H1, J, rx, a, dx, fs, ex, ea, l, q⟩ => ?_) n3
  subst ex
  cases rx
  refine getmeth_ok J ea c hm l (PySem.W.callWith_K (first := [.ref a]) (h₀ := X.base) J.ok.mod.kin hm.kp (thn (ha.run pos' pins s1 σ H1 _ J q) fun us s2 ⟨vs, H2, J2, r, q2⟩ => ⟨J2.kIn, ?_⟩) n1 n2)
  obtain ⟨ry, yl, en, E, hp, hq⟩ := hRR _ _ q2
  exact thn (run_gfn2 (us := .ref a :: us) (vs := .ref a :: vs) F hr hb hd J2 (.cons rfl r) hp) fun u s3 hG => ⟨H2, s2, ry, yl, en, E, J2, hq, hG⟩
theorem forM {σ : L2.St} {H : Hp} {t : TA} {g : TG} {tb : TS} {Ex : L2.St → XK} {D : Ends} (h : ta σ H fun x H1 => ∃ a dx fs, x = .ref a ∧ H1 a = some (.ins C dx fs) ∧ fs.lookup m = none ∧ t σ H1 fun vs H2 => ∃ (Mx : Nat) (Pv : Nat → L2.St → Hp → Prop), Pv 0 σ H2 ∧ (∀ i σ H, Pv i σ H → i ≤ Mx) ∧ WantG σ g tb D Pv (Ex σ) (sp (x :: (vs ++ dvs)) H2)) : tForG (tMethG2 C m sp dvs ta t) g tb Ex D σ H := h
end
end HS
/-! [elt for target in f(..)] of such a generator def that raises nothing (behind genfor2.lean). -/
namespace HS
open PySem PySem.Spec PyProof.Rows L2 GenW
theorem cells_none {n : Nat} : ∀ (l : List (Str × NameKind)) (acc : List (Str × Addr)), (∀ y ∈ l, y.2 ≠ .cell) → cellsFrom n l acc = acc
  | [], _, _ => rfl
  | (x, kd) :: r, acc, h => by
    have hk : (kd == NameKind.cell) = false := beq_eq_false_iff_ne.mpr (h (x, kd) List.mem_cons_self)
    show (if (kd == NameKind.cell) = true then _ else cellsFrom n r acc) = acc
    rw [hk, if_neg Bool.false_ne_true]
    exact cells_none r acc fun y hy => h y (List.mem_cons_of_mem _ hy)
/-- the heap tracks the list D too -/
theorem hok_lst {P : Program} {w : World} {H : Hp} {h : Heap} {D : Addr} {cl : Nat} {acc : Array Value} {ys : List V} (hok : HOk P w H h) (n : H D = none) (e : h.get? D = some (lstObj acc cl)) (r : Vals ys acc.toList) (hl : ys.length ≤ sizeLine) : HOk P w (upd H D (.lst ys)) h := fun b u q => by
  by_cases hb : b = D
  · subst hb
    rw [upd_same] at q
    cases q
    exact ⟨hl, acc.toList, cl, r, by rw [e]⟩
  · rw [upd_ne hb] at q
    exact (hok b u q).stay (fun _ _ _ z => z) (fun d z => by rw [upd_ne (ne_of_none z n)]; exact z) fun d xs z => by rw [upd_ne (ne_of_none z n)]; exact z
section
variable {Cg : CXT} {X : Cx} {k : Nat}
def WantC (σ : L2.St) (g : TG) (tt : TT) (te : TE) (vs : List Nat) (Q : VK) (W : Addr → Nat → Hp → Prop) (H1 : Hp) (pr : Pr2) : Prop :=
  pr (fun i H2 => ∃ D, W D i H2) (fun i Hw x H2 => ∀ D, (i = 0 → Hw = H1 ∧ H1 D = none) → (1 ≤ i → W D i Hw) → g x (wipe σ vs) (lifted (fun H => upd H D (.lst [])) i H2) fun σ2 H3 => wipe σ2 vs = wipe σ vs ∧ tt σ2 H3 fun b H4 =>
      if b = true then te σ2 H4 fun y H5 => ∃ acc, H5 D = some (.lst acc) ∧ acc.length < sizeLine ∧ W D (i + 1) (upd H5 D (.lst (acc ++ [y]))) else W D (i + 1) H4)
    (fun i Hw H2 => ∀ D, (i = 0 → Hw = H1 ∧ H1 D = none) → (1 ≤ i → W D i Hw) → Q (.ref D) (lifted (fun H => upd H D (.lst [])) i H2)) fun _ _ _ => False
/-- W D i: the list is D, about to ask for the i-th item (i from 1 on) -/
def tLcG (tg : TGen2) (g : TG) (tt : TT) (te : TE) (vs : List Nat) : TE := fun σ H Q => tg σ H fun pr H1 => ∃ (Mx : Nat) (W : Addr → Nat → Hp → Prop), (∀ D i H, W D i H → i ≤ Mx ∧ ∃ acc, H D = some (.lst acc)) ∧ WantC σ g tt te vs Q W H1 pr
/-- the block, from the call on -/
theorem blk_start {pins : List (Addr × Obj)} {σ : L2.St} {H1 : Hp} {sc s3 : Shared} {scope : Scope} {own : List (Str × Nat)} (I1 : Inv X pins σ H1 sc) (I3 : Inv X pins σ H1 s3) (kp : ∀ b o, sc.heap.get? b = some o → s3.heap.get? b = some o) (le : sc.heap.objs.size ≤ s3.heap.objs.size) (ok : BlkOk X.N X.env.scope scope own) (hN : X.N.Nodup) :
    Inv (X.blk sc H1 scope (compEnvC scope (cellsFrom (s3.heap.objs.size + 1) scope.names (cloFrom X.env.cells scope.names [])) s3.heap.objs.size X.env) []) [] (wipe σ (own.map (·.2))) H1 { s3 with heap := pushCells (s3.heap.push { cls := .type "dict", data := .dict #[] }) scope.names } := by
  have I4 := block_start (fp := []) I3 ok hN fun b hb => absurd hb List.not_mem_nil
  exact ⟨⟨I4.ok.mod, I4.ok.kind, I4.ok.glob, I4.ok.blt, Nat.le_trans le I4.ok.above, I4.ok.inj, I4.ok.has, fun x c hf e => Nat.le_trans le (I4.ok.cab x c hf e), I4.ok.hd, I4.ok.frames, I4.ok.stk, I4.ok.exf, fun b o e => I1.bs b o e, Nat.le_trans I1.ok.bsz I1.sz, I4.ok.noex, I4.ok.exfs, I1.stack, I4.ok.frf⟩,
    by rw [I4.os]; show s3.os = sc.os; rw [I3.os, I1.os], I4.bare, Un.kept fun b o e => pushCells_keeps _ _ _ _ (Heap.get?_push_of_some _ (kp b o e)), I4.loc, I4.cell, I4.free, I4.freeC, I4.pin, I4.hok, I4.len⟩
theorem pe_lcG {elt tgt e : Expr} {ifs : List Expr} {scope : Scope} {own : List (Str × Nat)} {pos : Pos} {tg : TGen2} {g : TG} {tt : TT} {te : TE} (hr : Room (k + 1) X.A) (hN : X.N.Nodup) (hgen : PGen2 Cg X k e tg) (hCg : ∀ o H s e t, ¬ Cg o H s (fun _ _ _ => False) e t) (ok : BlkOk X.N X.env.scope scope own) (noc : ∀ y ∈ scope.names, y.2 ≠ .cell)
    (hg : ∀ (s : Shared) (H : Hp) (C : Addr) (cl : List (Str × Addr)) (fp : List Addr), PG (X.blk s H scope (compEnvC scope cl C X.env) fp) tgt g) (ht : ∀ (s : Shared) (H : Hp) (C : Addr) (cl : List (Str × Addr)) (fp : List Addr), PTs (X.blk s H scope (compEnvC scope cl C X.env) fp) ifs tt) (he : ∀ (s : Shared) (H : Hp) (C : Addr) (cl : List (Str × Addr)) (fp : List Addr), PE (X.blk s H scope (compEnvC scope cl C X.env) fp) elt te) (hs : ∀ x, foldedSetIterable e X.env x = pure x := by intro _; rfl) :
    PE X (.ListComp elt [⟨tgt, e, ifs, 0⟩] scope pos) (tLcG tg g tt te (own.map (·.2))) := by
  constructor
  intro pins s σ H Q I h
  rw [eval_ListComp]
  have fr : ∀ y ∈ scope.names, y.2 = .free → ∃ c, X.env.cells.lookup y.1 = some c := fun y hy z => (ok.free y hy z).elim (fun k => I.ok.has _ (.inl k)) fun k => I.ok.has _ (.inr k)
  refine wpAny_comprehension_free (use := none) rfl hs (closure_ok fr) ok.kind (fun y hy z => by rw [ok.uniq y hy, z]) (thn (hgen.run pins s σ H _ (fun H1 ry yl en E' => ∃ (Mx : Nat) (W : Addr → Nat → Hp → Prop), (∀ D i H, W D i H → i ≤ Mx ∧ ∃ acc, H D = some (.lst acc)) ∧ WantC σ g tt te (own.map (·.2)) Q W H1 fun a b c d => ry = a ∧ yl = b ∧ en = c ∧ E' = d) (fun pr H1 ⟨Mx, W, q0, q1⟩ => ⟨_, _, _, _, q1, Mx, W, q0, rfl, rfl, rfl, rfl⟩) I h) fun u s1 ⟨H1, sc, ry, yl, en, E', I1, ⟨Mx, W, q0, q1⟩, made⟩ => ?_)
  obtain ⟨hry, hyl, hen, rfl⟩ := q1
  obtain ⟨a, n, c, rfl, ha1, ha2, isg, fresh, os1, bare1, lim1, kp1, wake⟩ := made
  have Is : Inv X pins σ H1 s1 := I1.call' (ch := []) os1 (Un.kept kp1) (I1.hok.kept kp1) bare1 fun b z => by simp at z
  refine wpAny_pyIter_gen isg ?_
  refine wpAny_newObj_type (newEnv_comp ?_) (by (show 0 ≤ sizeLine); decide)
  generalize hD : s1.heap.objs.size = D
  have LD : sc.heap.objs.size ≤ D := by rw [← hD]; exact Nat.le_trans ha1 (Nat.le_of_lt ha2)
  generalize hs3 : ({ s1 with heap := s1.heap.push { cls := .type "list", data := .seq ([] : List Value).toArray } } : Shared) = s3
  have e3 : s3.heap = s1.heap.push { cls := .type "list", data := .seq ([] : List Value).toArray } := by rw [← hs3]
  have g3 : s3.gens = s1.gens := by rw [← hs3]
  have o3 : s3.os = s1.os := by rw [← hs3]
  have I3 : Inv X pins σ H1 s3 := by rw [← hs3]; exact Is.kept (t' := s1.toks) fun b o z => Heap.get?_push_of_some _ z
  have k3 : ∀ b o, s1.heap.get? b = some o → s3.heap.get? b = some o := fun b o z => by rw [e3]; exact Heap.get?_push_of_some _ z
  have d3 : s3.heap.get? D = some { cls := .type "list", data := .seq ([] : List Value).toArray } := by rw [e3, ← hD]; exact Heap.get?_push_size _ rfl
  have D3 : D < s3.heap.objs.size := Heap.lt_size d3
  have I4 := blk_start I1 I3 (fun b o z => k3 b o (kp1 b o z)) (Nat.le_trans LD (Nat.le_of_lt D3)) ok hN
  have cellsX : ∀ y cc, (cellsFrom (s3.heap.objs.size + 1) scope.names (cloFrom X.env.cells scope.names [])).lookup y = some cc → X.env.cells.lookup y = some cc := fun y cc z => by
    rw [cells_none _ _ noc] at z
    rcases cloFrom_mem (PySem.mem_of_lookup z) with hm | ⟨z1, rfl⟩
    · cases hm
    · obtain ⟨c', hc'⟩ := fr _ z1 rfl
      rw [hc']
      rfl
  have pg := fun (A0 : Shared) => hg A0 H1 s3.heap.objs.size (cellsFrom (s3.heap.objs.size + 1) scope.names (cloFrom X.env.cells scope.names [])) []
  have pt := fun (A0 : Shared) => ht A0 H1 s3.heap.objs.size (cellsFrom (s3.heap.objs.size + 1) scope.names (cloFrom X.env.cells scope.names [])) []
  have pe := fun (A0 : Shared) => he A0 H1 s3.heap.objs.size (cellsFrom (s3.heap.objs.size + 1) scope.names (cloFrom X.env.cells scope.names [])) []
  (show codeAny _ _ (.compStart (.ListComp elt [⟨tgt, e, ifs, 0⟩] scope pos) 0 (.ref a) (.ref D) (compEnvC scope (cellsFrom (s3.heap.objs.size + 1) scope.names (cloFrom X.env.cells scope.names [])) s3.heap.objs.size X.env)) (compPost (model X.prog X.w) X.A X.xe none (EP X pins σ Q) (.ref D) s3.heap.objs.size) { s3 with heap := pushCells (s3.heap.push { cls := .type "dict", data := .dict #[] }) scope.names })
  generalize hce : compEnvC scope (cellsFrom (s3.heap.objs.size + 1) scope.names (cloFrom X.env.cells scope.names [])) s3.heap.objs.size X.env = ce at I4 pg pt pe ⊢
  have cL : ce.locals = s3.heap.objs.size := by subst hce; rfl
  have cC : ∀ y cc, ce.cells.lookup y = some cc → X.env.cells.lookup y = some cc := by subst hce; exact cellsX
  have k4 : ∀ b o, s3.heap.get? b = some o → (pushCells (s3.heap.push { cls := .type "dict", data := .dict #[] }) scope.names).get? b = some o := fun b o z => pushCells_keeps _ _ _ _ (Heap.get?_push_of_some _ z)
  generalize hs4 : ({ s3 with heap := pushCells (s3.heap.push { cls := .type "dict", data := .dict #[] }) scope.names } : Shared) = s4 at I4 ⊢
  have e4 : s4.heap = pushCells (s3.heap.push { cls := .type "dict", data := .dict #[] }) scope.names := by rw [← hs4]
  have g4 : s4.gens = s1.gens := by rw [← hs4, ← g3]
  have o4 : s4.os = sc.os := by rw [← os1, ← o3, ← hs4]
  have k14 : ∀ b o, s1.heap.get? b = some o → s4.heap.get? b = some o := fun b o z => by rw [e4]; exact k4 b o (k3 b o z)
  have d4 : s4.heap.get? D = some { cls := .type "list", data := .seq ([] : List Value).toArray } := by rw [e4]; exact k4 _ _ d3
  have DC : D ≠ s3.heap.objs.size := Nat.ne_of_lt D3
  generalize hC : s3.heap.objs.size = C at cL DC ⊢
  have LC : sc.heap.objs.size ≤ C := by rw [← hC]; exact Nat.le_trans LD (Nat.le_of_lt D3)
  obtain ⟨m4, ⟨oC, esC, epC, hoC, hdC, hrC⟩, lk4⟩ := id I4.loc
  have hoC : s4.heap.get? ce.locals = some oC := hoC
  rw [cL] at hoC
  have cellL : ∀ y cc, ce.cells.lookup y = some cc → cc < sc.heap.objs.size := fun y cc z => by
    obtain ⟨v, o, ho, _⟩ := I1.cell y cc (cC y cc z)
    exact Heap.lt_size ho
  have stkL : ∀ b ∈ frs X.stack, b < sc.heap.objs.size := fun b hb => by
    obtain ⟨_, o, z, _⟩ := I1.stack.mem hb
    exact Heap.lt_size z
  have ap : Apt (X.blk sc H1 scope ce []) [] [C, D] s4.heap H1 sc (fun i σ'' H => σ'' = wipe σ (own.map (·.2)) ∧ W D i H) (wipe σ (own.map (·.2))) (fun H => upd H D (.lst [])) := by
    refine ⟨rfl, .inr (by show ce.locals ∈ _; rw [cL]; exact List.mem_cons_self), fun b hb _ => ⟨.inr hb, fun x cc z => Nat.ne_of_lt (Nat.lt_of_lt_of_le (cellL x cc z) hb), fun p hp => absurd (show p ∈ ([] : List (Addr × Obj)) from hp) List.not_mem_nil⟩, stkL, fun i σ' H' s' I' w' b hb o ho v z => ?_, fun H2 t ot bt hok un kp => ?_⟩
    · rcases List.mem_cons.mp hb with rfl | hb
      · obtain ⟨m, ⟨o', es, ep, ho', hd', _⟩, _⟩ := I'.loc
        have ho' : s'.heap.get? ce.locals = some o' := ho'
        rw [cL, ho] at ho'
        cases ho'
        rw [hd'] at z; cases z
      · rw [List.mem_singleton.mp hb] at ho
        obtain ⟨acc, hacc⟩ := (q0 _ _ _ w'.2).2
        obtain ⟨_, its, cn, _, z'⟩ := I'.hok D _ hacc
        rw [ho] at z'
        cases z'; cases z
    · have J1 : Inv X pins σ H2 t := I1.call' (ch := []) ot un hok bt fun b z => by simp at z
      obtain ⟨c1, c2⟩ := kp (C, oC) (to_xpins List.mem_cons_self hoC (I1.hok.fresh LC))
      obtain ⟨dd1, dd2⟩ := kp (D, _) (to_xpins (List.mem_cons_of_mem _ (List.mem_singleton.mpr rfl)) d4 (I1.hok.fresh LD))
      have cells : ∀ x cc v, ce.cells.lookup x = some cc → s4.heap.IsCell cc v → t.heap.IsCell cc v := fun x cc v z ⟨o, ho, hd⟩ => by
        obtain ⟨_, o', ho', _⟩ := I1.cell x cc (cC x cc z)
        have z4 := k14 _ _ (kp1 _ _ ho')
        rw [ho] at z4
        cases z4
        obtain ⟨sl, z5⟩ := un.any ho' (I1.freeC x cc (cC x cc z)) List.not_mem_nil
        exact ⟨_, z5, hd⟩
      have J : Inv (X.blk sc H1 scope ce []) [] (wipe σ (own.map (·.2))) H2 t := by
        refine ⟨I4.ok, ot, bt, un, ⟨m4, ⟨oC, esC, epC, by show t.heap.get? ce.locals = _; rw [cL]; exact c1, hdC, hrC⟩, fun i x v h1 h2 h3 => ?_⟩, fun x cc z => ?_, by show H2 ce.locals = none; rw [cL]; exact c2, fun x cc z => J1.freeC x cc (cC x cc z), fun p hp => absurd (show p ∈ ([] : List (Addr × Obj)) from hp) List.not_mem_nil, hok, I4.len⟩
        · obtain ⟨u, r, l⟩ := lk4 i x v h1 h2 h3
          refine ⟨u, r, l.elim .inl fun z => .inr ?_⟩
          obtain ⟨kd, cc, z1, z2⟩ := z
          exact ⟨kd, cc, z1, cells _ _ _ z1 z2⟩
        · obtain ⟨v, z1⟩ := I4.cell x cc z
          exact ⟨v, cells _ _ _ z z1⟩
      refine J.call' (ch := [D]) rfl ⟨fun b o z _ _ _ => z, fun b o z _ _ _ => ⟨o.slots, z⟩, fun b o z n hb => ?_, fun b o z _ => ⟨o, z⟩, fun b xs z => ?_, fun b o u z => ?_, fun b ps z => ⟨#[], ?_⟩⟩ (hok_lst hok dd2 dd1 .nil (Nat.zero_le _)) bt fun b hb => ?_
      · rw [upd_ne (fun z => hb (List.mem_singleton.mpr z))]; exact n
      · rw [upd_ne (ne_of_none z dd2)]; exact z
      · rw [upd_ne (ne_of_none z dd2)]; exact z
      · rw [upd_ne (ne_of_none z dd2), Array.append_empty]; exact z
      · rw [List.mem_singleton.mp hb]
        exact ⟨.inr LD, by show D ≠ ce.locals; rw [cL]; exact DC, fun x cc z => Nat.ne_of_lt (Nat.lt_of_lt_of_le (cellL x cc z) LD), fun p hp => absurd (show p ∈ ([] : List (Addr × Obj)) from hp) List.not_mem_nil⟩
  have isg4 : s4.heap.IsGen a n := by
    obtain ⟨o, nm, qn, z1, z2⟩ := isg
    exact ⟨o, nm, qn, k14 _ _ z1, z2⟩
  have loop : codeAny (model X.prog X.w) X.A (.compLoop (.ListComp elt [⟨tgt, e, ifs, 0⟩] scope pos) 0 (.ref a) (.ref D) ce) (compPost (model X.prog X.w) X.A X.xe none (EP X pins σ Q) (.ref D) C) s4 := by
    refine compLoop_any (fun m s' => ∃ i, i + m = Mx + 2 ∧ i ≤ Mx ∧ Asks Cg (X.blk sc H1 scope ce []) [] [C, D] s4.heap H1 sc (fun i σ'' H => σ'' = wipe σ (own.map (·.2)) ∧ W D i H) yl en (fun _ _ _ => False) (Mx + 2) a n i s') ?_ (Mx + 2) ⟨0, Nat.zero_add _, Nat.zero_le _, I4.nolimit, o4, fun _ => rfl, isg4, .fresh c, by rw [g4]; exact fresh, rfl, ?_⟩
    rotate_left
    · refine wake X.A.in1 [C, D] _ (Mx + 2) (s4.setGen n .running) hr.in1 I1.ok.frames (fun b hb => ?_) (fun i s5 H5 z => by rw [hry]; obtain ⟨σ', _, _, z⟩ := z; exact ⟨D, z⟩) k14 o4 (allBare_setGen (by rw [g4]; exact bare1) rfl) (by omega)
      rcases List.mem_cons.mp hb with rfl | hb
      · exact ⟨by rw [← hC, e3, Heap.size_push]; exact Nat.le_succ _, oC, hoC, fun v z => by rw [hdC] at z; cases z⟩
      · rw [List.mem_singleton.mp hb]
        exact ⟨Nat.le_of_eq hD, _, d4, fun v z => by cases z⟩
    rintro m s5 ⟨i, hm, hi, ask⟩
    refine thnF (asks_next (X := X.blk sc H1 scope ce []) (Er := fun _ _ => False) ap (fun H b _ nx z => by rw [upd_ne (fun w => nx (by rw [w]; exact List.mem_cons_of_mem _ (List.mem_singleton.mpr rfl)))]; exact z) hr.hd hr.depth (by omega) ask fun x t cx => ?_) fun r s6 q => ?_
    · exact (hCg _ _ _ _ _ cx).elim
    cases r with
    | none =>
      obtain ⟨σ', Hw, H2, I6, pw, z⟩ := q
      rw [hen] at z
      have z' : Q (.ref D) (lifted (fun H => upd H D (.lst [])) i H2) := z D (fun hz => by
        rcases pw with ⟨_, _, w1⟩ | ⟨w1, _⟩
        · exact ⟨w1, I1.hok.fresh LD⟩
        · omega) fun hz => by
        rcases pw with ⟨w1, _⟩ | ⟨_, w2⟩
        · omega
        · exact w2.2
      generalize lifted (fun H => upd H D (.lst [])) i H2 = H6 at I6 z'
      have I7 : Inv X pins σ H6 s6 := I1.call' (ch := []) I6.os I6.base I6.hok I6.bare fun b z => by simp at z
      have nC : H6 C = none := by have z : H6 ce.locals = none := I6.free; rw [cL] at z; exact z
      obtain ⟨m6, hn, _⟩ := I6.loc
      have hn : s6.heap.Ns ce.locals m6 := hn
      rw [cL] at hn
      obtain ⟨f0, f1, f2, f3, f4, f5⟩ := I1.fpOk LC nC
      exact ⟨m6, hn, fun h6 sb => ⟨.ref D, H6, I7.turned (t' := s6.toks) (fun b o hb z => (sb.2 b hb).trans z) f0 f1 f3 f4 f5, rfl, z'⟩⟩
    | some v =>
      obtain ⟨σ', Hw, x, H2, pv, gs, I6, rx, pw, y, slp, there, isg6, again⟩ := q
      rw [hyl] at y
      have eσ : σ' = wipe σ (own.map (·.2)) := by
        rcases pw with ⟨_, z, _⟩ | ⟨_, z, _⟩
        · exact z
        · exact z
      subst eσ
      have y := y D (fun hz => by
        rcases pw with ⟨_, _, w1⟩ | ⟨w1, _⟩
        · exact ⟨w1, I1.hok.fresh LD⟩
        · omega) fun hz => by
        rcases pw with ⟨w1, _⟩ | ⟨_, w2⟩
        · omega
        · exact w2.2
      generalize lifted (fun H => upd H D (.lst [])) i H2 = H6 at I6 y
      obtain ⟨og, _, _, ho, hc, hd, _⟩ := isg6
      refine go_of ho hc hd (by decide) ?_
      refine thnF (nightly slp there ((pg sc).run ([] ++ pv) (night s6) _ H6 x v _ (Inv_gens I6 (bare_night I6.bare)) rx y)) fun _ s7 ⟨there7, D7, L7, σ7, H7, I7, hw7, q7⟩ => ?_
      have J7 : Inv (X.blk sc H1 scope ce []) ([] ++ pv) σ7 H7 s7 := Inv_gens (s := { s7 with gens := D7 }) (D := s7.gens) I7 (like_bare L7 I7.bare)
      refine thnF (nightly slp there7 ((pt sc).run ([] ++ pv) (night s7) σ7 H7 _ (Inv_gens J7 (bare_night J7.bare)) q7)) fun b s8 ⟨there8, D8, L8, H8, I8, q8⟩ => ?_
      have J8 : Inv (X.blk sc H1 scope ce []) ([] ++ pv) σ7 H8 s8 := Inv_gens (s := { s8 with gens := D8 }) (D := s8.gens) I8 (like_bare L8 I8.bare)
      have fin : ∀ {s' : Shared} {H' : Hp}, Inv (X.blk sc H1 scope ce []) ([] ++ pv) σ7 H' s' → W D (i + 1) H' → s'.gens[n]? = some gs → ∃ m', m' < m ∧ ∃ i, i + m' = Mx + 2 ∧ i ≤ Mx ∧ Asks Cg (X.blk sc H1 scope ce []) [] [C, D] s4.heap H1 sc (fun i σ'' H => σ'' = wipe σ (own.map (·.2)) ∧ W D i H) yl en (fun _ _ _ => False) (Mx + 2) a n i s' := fun {s' H'} I' w' t' => by
        have ll : (wipe σ (own.map (·.2))).length = σ7.length := by rw [← hw7, wipe_length]
        exact ⟨m - 1, by omega, i + 1, by omega, (q0 _ _ _ w').1, again s' _ H' (I'.weak ll fun j v z => by rw [← hw7] at z; exact (wipe_some z).1) ⟨rfl, w'⟩ t'⟩
      cases b with
      | false =>
        simp only [Bool.false_eq_true, if_false] at q8 ⊢
        exact fin J8 q8 there8
      | true =>
        simp only [if_true] at q8 ⊢
        refine thnF (nightly slp there8 ((pe sc).run ([] ++ pv) (night s8) σ7 H8 _ (Inv_gens J8 (bare_night J8.bare)) q8)) fun z s9 ⟨there9, D9, L9, yv, H9, I9, r9, acc, hD9, hz9, nx⟩ => ?_
        have J9 : Inv (X.blk sc H1 scope ce []) ([] ++ pv) σ7 H9 s9 := Inv_gens (s := { s9 with gens := D9 }) (D := s9.gens) I9 (like_bare L9 I9.bare)
        refine thnF (nightly slp there9 (app_ok (X := X.blk sc H1 scope ce []) (s := night s9) (Q := fun _ s' => Inv (X.blk sc H1 scope ce []) ([] ++ pv) σ7 (upd H9 D (.lst (acc ++ [yv]))) s') (Inv_gens J9 (bare_night J9.bare)) hD9 hz9 r9 fun s' I' => I')) fun _ s10 ⟨there10, D10, L10, I10⟩ => ?_
        exact fin (Inv_gens (s := { s10 with gens := D10 }) (D := s10.gens) I10 (like_bare L10 I10.bare)) nx there10
  refine codeAny_compStart_list loop (wpAny_pyIter_gen isg4 loop)
end
theorem noCX {P : Program} {w : World} : ∀ (o : List Env) (H : Hp) (s : Shared) (e : Value) (t : Shared), ¬ L2.CX P w o H s (fun _ _ _ => False) e t := fun _ _ _ _ _ c => by obtain ⟨_, _, _, _, _, _, _, _, _, _, _, _, z⟩ := c; exact z
end HS
/-! Generator defs that raise: what leaves them is taken (behind genfor2.lean; for both kinds of exceptions). -/
namespace HS
open PySem PySem.Spec PyProof.Rows L2 GenW
/-- the twin of the kit's leaveG for exceptions whose context is None -/
theorem leaveGN {X : Cx} {W : WX} {E : XK} {t : Shared} (st : X.stack = X.env :: X.outer) (fe : X.env.frame = some X.env.locals) (ne : X.ex = []) {F : Value → Shared → Prop} (imp : ∀ cls d σ H, W cls d σ H → E cls d H) {u : Value} (x : L2N.XE X W u t) :
    wpAny (model X.prog X.w) X.A (leaving X.env u) (fun _ t' => L2N.CX X.prog X.w X.outer X.H_0 X.s_0 E u t' ∧ ∀ p ∈ X.pn, t'.heap.get? p.1 = some p.2) F t := by
  obtain ⟨a, G, sI, pins, σ, H, cls, d, rfl, I, keep, ups, sky, free, os, bare, w⟩ := x
  have frames : X.A.frames = some (X.env :: X.outer) := by rw [I.ok.frames, st]
  have noex : ∀ b, b ∉ X.ex := fun b z => by rw [ne] at z; cases z
  have old : ∀ b o, X.s_0.heap.get? b = some o → b ∉ X.fs → b ∉ frs X.stack := fun b o e nf z => (List.mem_cons.mp (I.stkSub b z)).elim (fun z => absurd (Nat.lt_of_lt_of_le (show X.env.locals < _ from z ▸ Heap.lt_size e) I.ok.above) (Nat.lt_irrefl _)) nf
  have pins' : ∀ p ∈ X.pn, G.get? p.1 = some p.2 := fun p hp => by
    obtain ⟨e, _, n1, n2, _⟩ := I.pin p (List.mem_append_left _ hp)
    exact keep p.1 p.2 e fun z => (List.mem_cons.mp (I.stkSub p.1 z)).elim n1 n2
  have ground := I.inGround keep
  have done : ∀ h', HandSPX.FlyingZ G X.outer a (L2N.Zn cls d) h' → t.heap.UpToSlots h' → (L2N.CX X.prog X.w X.outer X.H_0 X.s_0 E (.ref a) { t with heap := h' } ∧ ∀ p ∈ X.pn, ({ t with heap := h' } : Shared).heap.get? p.1 = some p.2) := fun h' fl up => by
    refine ⟨⟨a, G, H, cls, d, rfl, fl, ground, ⟨fun b o e n nf => keep b o (I.base.keep b o e n nf (noex b)) (old b o e nf), fun b o e hb => ?_, fun b o e n => I.base.free b o e n (noex b), fun b o e nf => ?_, I.base.tups, I.base.frzs, I.base.tbls⟩, free, os.trans I.os, bare, imp _ _ _ _ w⟩, fun p hp => fl.1 p.1 p.2 (pins' p hp)⟩
    · obtain ⟨_, o1, e1, fn⟩ := I.ok.funs.mem hb
      rw [e] at e1; cases e1
      obtain ⟨l1, z1⟩ := I.base.slot b o e (I.ok.frf b hb) hb (noex b)
      obtain ⟨l2, z2⟩ := ups b _ z1 fn
      obtain ⟨l3, z3⟩ := up b _ z2 fn
      exact ⟨l3, z3⟩
    · obtain ⟨o1, z1⟩ := I.base.there b o e (noex b)
      exact ⟨o1, keep b o1 z1 (old b o e nf)⟩
  rw [st] at sky
  rcases sky with ⟨hB, hn, hl, oe, vs, he, hz, hd, h1⟩ | fl | held
  · exact PXN.leaving_firstZ L2N.Zn.steady frames hl fe he hB hn hd h1 hz done
  · exact PXN.leaves_onZ L2N.Zn.steady frames fe fl done
  · exact HandSPX.leaves_heldZ fe held done
section
variable {P : Program} {w : World} {K : PySem.W.Frag} {mg : Str → Option Value} {base : Heap} {N : List Str} {qual : Str} {scope : Scope} {f : Addr} {cd : Value} {A : Around} {outer : List Env} {s : Shared} {H : Hp} {E : XK} {pn : List (Addr × Obj)}
theorem takesG : L2.Takes (gcxC (L2.CX P w) P w K mg base N qual scope f cd A outer s H E pn) (fun cls d _ H' => E cls d H') := takes_gcx
theorem takesGN : L2N.Takes (gcxC (L2N.CX P w) P w K mg base N qual scope f cd A outer s H E pn) (fun cls d _ H' => E cls d H') := fun u t x =>
  leaveGN (X := gcxC (L2N.CX P w) P w K mg base N qual scope f cd A outer s H E pn) (W := fun cls d _ H' => E cls d H') (E := E) rfl rfl rfl (fun _ _ _ _ h => h) x
end
section
variable {X : Cx}
theorem notStopN {P : Program} {w : World} {K : PySem.W.Frag} {outer : List Env} {H : Hp} {s t : Shared} {E : XK} {e : Value} (hE : NoStop K E) (kin : K.In t.heap) (c : L2N.CX P w outer H s E e t) : NotStop (model P w) e t.heap := by
  obtain ⟨a, G, H', cls, d, rfl, fl, _, _, _, _, _, q⟩ := c
  obtain ⟨oe, vs, he, hz, hd⟩ := fl.there
  have sub := PySem.W.looks_subIn (M := model P w) kin (hE cls d H' q)
  intro A Q F s2 hs hq
  simp only [isInstance]
  exact wpAny_bind (wpAny_typeOf_ref (o := oe) (by rw [hs]; exact he) (by rw [hz.1]; exact sub A Q F s2 (fun b o z => by rw [hs]; exact z) hq))
theorem failsAtN {Ex : L2.St → XK} (hx : ∀ σ, PassesAt (L2N.CX X.prog X.w) X σ (Ex σ)) (hns : ∀ σ, NoStop X.K (Ex σ)) : FailsAt (L2N.CX X.prog X.w) X Ex := fun pins σ H1 sc g e t I1 c => by
  obtain ⟨a, G, H', cls, d, z1, fl, z2, ub, z3, z4, z5, z6⟩ := id c
  have kin : X.K.In t.heap := I1.ok.mod.kin.keeps fun b o eb => fl.1 b o (ub.keep b o (I1.bs b o eb).1 (I1.bs b o eb).2 fun hm => (List.mem_cons.mp (I1.stkSub b hm)).elim (fun z => absurd (Nat.lt_of_lt_of_le (show X.env.locals < _ from z ▸ Heap.lt_size eb) (Nat.le_trans I1.ok.bsz I1.ok.above)) (Nat.lt_irrefl _)) (I1.ok.nofr eb))
  exact ⟨notStopN (hns σ) kin c, hx σ pins H1 sc e _ I1 ⟨a, G, H', cls, d, z1, fl, z2, ub, z3, z4, allBare_setGen z5 rfl, z6⟩⟩
theorem no_failsN : FailsAt (L2N.CX X.prog X.w) X fun _ _ _ _ => False := fun _ _ _ _ _ _ _ _ c => by obtain ⟨_, _, _, _, _, _, _, _, _, _, _, _, z⟩ := c; exact z.elim
theorem noCXN {P : Program} {w : World} : ∀ (o : List Env) (H : Hp) (s : Shared) (e : Value) (t : Shared), ¬ L2N.CX P w o H s (fun _ _ _ => False) e t := fun _ _ _ _ _ c => by obtain ⟨_, _, _, _, _, _, _, _, _, _, _, _, z⟩ := c; exact z
/-- and it is no StopIteration -/
def NsE (K : PySem.W.Frag) (Ex : L2.St → XK) : L2.St → XK := fun σ cls d H => Ex σ cls d H ∧ PySem.W.subIn K cls (.type "StopIteration") = some false
theorem failsAtS {Ex : L2.St → XK} (K : PySem.W.Frag) (hx : ∀ σ, PassesAt (L2.CX X.prog X.w) X σ (Ex σ)) (hK : X.K = K := by rfl) : FailsAt (L2.CX X.prog X.w) X (NsE K Ex) :=
  failsAt (fun σ pins H s e t I c => hx σ pins H s e t I (by obtain ⟨a, G, H', cls, d, z1, fl, z2, ub, z3, z4, z5, z6⟩ := c; exact ⟨a, G, H', cls, d, z1, fl, z2, ub, z3, z4, z5, z6.1⟩)) fun σ cls d H z => hK ▸ z.2
theorem failsAtSN {Ex : L2.St → XK} (K : PySem.W.Frag) (hx : ∀ σ, PassesAt (L2N.CX X.prog X.w) X σ (Ex σ)) (hK : X.K = K := by rfl) : FailsAt (L2N.CX X.prog X.w) X (NsE K Ex) :=
  failsAtN (fun σ pins H s e t I c => hx σ pins H s e t I (by obtain ⟨a, G, H', cls, d, z1, fl, z2, ub, z3, z4, z5, z6⟩ := c; exact ⟨a, G, H', cls, d, z1, fl, z2, ub, z3, z4, z5, z6.1⟩)) fun σ cls d H z => hK ▸ z.2
end
end HS
/-! range(i, j) of any size, walked. -/
namespace HS
open PySem PySem.Spec PyProof.Rows L2
theorem turn_long {P : Program} {w : World} {K : PySem.W.Frag} {tg : Expr} (it : Addr) (lo : Int) (n : Nat) : Turn P w K tg (Itr lo n) [it] it (fun i h => IsLongIter h it (lo + (i : Nat) * 1) ((n : Int) - (i : Nat)) 1) where
  mem := List.mem_singleton.mpr rfl
  obj := fun i h st b hb => by
    rw [List.mem_singleton.mp hb]
    exact ⟨_, st, fun v z => by cases (show Data.fields _ = Data.cell v from z)⟩
  keep := fun i h h' st kp => kp it (List.mem_singleton.mpr rfl) _ st
  item := by
    intro X hP hw hK hc i pins s σ H E I hf st hg
    subst hP hw hK
    obtain ⟨g0, g1, g2, g3, g4, g5⟩ := hf it (List.mem_singleton.mpr rfl)
    refine (Walks.longrange (prog := X.prog) (w := X.w) (I.ok.hd hc) it lo 1 n).item i s _ _ hg st fun v h' tk hv st' kk => ?_
    obtain ⟨t, rfl⟩ := hv
    refine ⟨_, rfl, go_of (s := { s with heap := h', toks := tk }) (n := "longrange_iterator") st' rfl rfl (by decide) ⟨.int (lo + i), H, I.turned (fun b o hb e => kk b o (fun z => hb (List.mem_singleton.mp z)) e) g0 g1 g3 g4 g5, ⟨t, ?_⟩, ⟨rfl, rfl⟩, st', fun b hb => (hf b hb).1⟩⟩
    rw [Int.mul_one]
  done := by
    intro X hP hw hK hc i pins s σ H E I hf st hg
    subst hP hw hK
    obtain ⟨g0, g1, g2, g3, g4, g5⟩ := hf it (List.mem_singleton.mpr rfl)
    exact wpAny_pyNext_long_end (I.ok.hd hc) st (by have : n ≤ i := hg; omega) fun h1 eb => ⟨rfl, I.turned (t' := s.toks) (fun b o hb e => eb b o hb e) g0 g1 g3 g4 g5⟩
  self := fun _ _ _ _ _ st h => wpAny_pyIter_longiter st h
section
variable {X : Cx} {tg : Expr}
theorem range_any {pins : List (Addr × Obj)} {σ : L2.St} {H : Hp} {s : Shared} {R : It → Hp → Prop} {E : Value → Shared → Prop} {lo hi : Int} {t u v : Tok} {tk : Nat} (I : Inv X pins σ H s)
    (q : R (Itr lo (hi - lo).toNat) H) : wpAny (model X.prog X.w) X.A (pyIter (.ref s.heap.objs.size)) (PIE X pins σ tg R) E { s with heap := s.heap.push { cls := .type "range", data := .fields #[.int lo t, .int hi u, .int 1 v] }, toks := tk } := by
  have e1 : lo + ((0 : Nat) : Int) * 1 = lo := by simp
  have e2 : (((hi - lo).toNat : Nat) : Int) - ((0 : Nat) : Int) = Builtin.Range.rangeSize lo hi 1 := by rw [rangeSize_one]; split <;> omega
  generalize hs1 : ({ s with heap := s.heap.push { cls := .type "range", data := .fields #[.int lo t, .int hi u, .int 1 v] }, toks := tk } : Shared) = s1
  have I1 : Inv X pins σ H s1 := by rw [← hs1]; exact I.kept fun b o e => Heap.get?_push_of_some _ e
  have r1 : IsRange s1.heap s.heap.objs.size lo hi 1 t u v := by rw [← hs1]; exact IsRange.new ..
  have fp : ∀ b ∈ [s1.heap.objs.size], FpOk X pins H b := fun b hb => by
    rw [List.mem_singleton.mp hb]
    exact I1.fpOk (Nat.le_refl _) (I1.hok.fresh (Nat.le_refl _))
  by_cases hsm : Builtin.Range.small lo hi 1 = true
  · refine wpAny_pyIter_range r1 hsm ⟨s1.heap.objs.size, [s1.heap.objs.size], _, _, H, rfl, I1.kept (t' := s1.toks) fun b o e => Heap.get?_push_of_some _ e, turn_range _ lo (hi - lo).toNat, ?_, fp, q⟩
    show IsRangeIter _ _ (lo + ((0 : Nat) : Int) * 1) ((((hi - lo).toNat : Nat) : Int) - ((0 : Nat) : Int)) 1
    rw [e1, e2]; exact Heap.get?_push_size _ rfl
  · refine wpAny_pyIter_longrange r1 (Bool.not_eq_true _ ▸ hsm) ⟨s1.heap.objs.size, [s1.heap.objs.size], _, _, H, rfl, I1.kept (t' := s1.toks) fun b o e => Heap.get?_push_of_some _ e, turn_long _ lo (hi - lo).toNat, ?_, fp, q⟩
    show IsLongIter _ _ (lo + ((0 : Nat) : Int) * 1) ((((hi - lo).toNat : Nat) : Int) - ((0 : Nat) : Int)) 1
    rw [e1, e2]; exact Heap.get?_push_size _ rfl
def iRngA (ta : TA) : TI := fun σ H R => ta σ H fun vs H1 => ∃ i j : Int, vs = [.int i, .int j] ∧ R (Itr i (j - i).toNat) H1
theorem pi_rangeA {a b : Expr} {ta : TA} {p pos : Pos} (hg : Gl X "range") (hm : X.mg "range" = none) (ha : PA X [a, b] ta) (hs : starEach [a, b] X.env = [(false, eval a X.env), (false, eval b X.env)] := by rfl) (hs2 : starEach [b] X.env = [(false, eval b X.env)] := by rfl) : PI X tg (.Call (.Name "range" p) [a, b] [] pos) (iRngA ta) := by
  constructor
  intro pins s σ H R I h
  refine Call_ (ld_blt I hg hm boot_range (callWith_type1 (thn (ha.run pos pins s σ H _ I h) fun us s1 ⟨vs, H1, I1, r1, q1⟩ => ?_) (by rw [hs, hs2]) (by rw [hs2]; rfl)))
  obtain ⟨i, j, rfl, q⟩ := q1
  obtain ⟨u1, u2, rfl, ⟨t, rfl⟩, ⟨t', rfl⟩⟩ : ∃ u1 u2, us = [u1, u2] ∧ RelV (.int i) u1 ∧ RelV (.int j) u2 := by
    cases r1 with
    | cons r rr => cases rr with
      | cons r' rr => cases rr; exact ⟨_, _, rfl, r, r'⟩
  exact call_range_2 (range_any I1 q)
end
end HS
/-! f(a=.., b=..) of a generator def; the readings' steps for generators that are consumed. -/
namespace HS
open PySem PySem.Spec PyProof.Rows L2
section
variable {X : Cx} {k n : Nat} {f : Addr} {x : Str} {spg : SpG} {E : XK} {tk : TA} {p q : Pos} {kws : List Keyword} {ks ps : List Str} {fd : FuncData} {g : List Value → List Value → List Value} {gV : List V → List V → List V}
def tGenF (n k : Nat) (gV : List V → List V → List V) (spg : SpG) (E : XK) (tk : TA) : TGen := fun σ H cont => tk σ H fun zs H2 => n = 0 ∧ zs.length = k ∧ spg (gV [] zs) H2 cont E
theorem pgen_kw0 (F : GFn X.prog X.w X.K X.mg X.base k f fd ps spg) (hr : Room k X.A) (gl : Gl X x) (mf : X.mg x = some (.ref f)) (kf : PySem.W.keepIn X.K (.ref f) = true) (hb : KBX X.K fd ps n ks g gV) (hk : PK X kws tk)
    (h0 : (backToKw q (keywordEach kws X.env)).all (·.1.isSome) = true := by rfl) (hks : (backToKw q (keywordEach kws X.env)).filterMap (·.1) = ks := by rfl) (h1 : (x == ("__debug__" : Str)) = false := by decide)
    (h3 : ((backTo q (starEach [] X.env)).any (·.1) || (backToKw q (keywordEach kws X.env)).any (·.1.isNone)) = false := by rfl) : PGen X k (.Call (.Name x p) [] kws q) (tGenF n ks.length gV spg E tk) E := by
  constructor
  intro pins s σ H cont I hw
  refine wpAny_Call_Name_kw (ld_glob I gl mf (PySem.W.callWith_KW0 (h₀ := X.base) I.ok.mod.kin kf h0 (thn (hk.run q pins s σ H _ I hw) fun ws s2 ⟨zs, H2, I2, rz, e1, l2, y2⟩ => ⟨I2.kIn, ?_⟩) h3) h1)
  rw [hks]
  have l4 : ws.length = ks.length := by rw [← rz.length]; exact l2
  refine wpAny_call (codeAny_mono (F.run X.A X.stack s2 H2 ⟨[], ks.zip ws⟩ (g [] ws) (gV [] zs) cont E hr I2.env0 (hb.to s2 [] ws (by rw [e1]; rfl) l4) (hb.rel .nil rz) y2) fun r s' hq => ?_)
  match r, hq with
  | .error e, hq => exact hq.elim
  | .ok (.ret u), hq => exact ⟨H2, s2, [], I2, .nil, hq⟩
end
section
variable {σ : L2.St} {H : Hp} {cont : List V → Hp → Prop} {Q : VK}
theorem ogenF {n k : Nat} {gV : List V → List V → List V} {spg : SpG} {E : XK} {tk : TA} (h : tk σ H fun zs H2 => n = 0 ∧ zs.length = k ∧ spg (gV [] zs) H2 cont E) : tGenF n k gV spg E tk σ H cont := h
theorem rngA {ta : TA} {R : It → Hp → Prop} (h : ta σ H fun vs H1 => ∃ i j : Int, vs = [.int i, .int j] ∧ R (Itr i (j - i).toNat) H1) : iRngA ta σ H R := h
theorem forG {sp : SpG2} {dvs : List V} {t : TA} {g : TG} {tb : TS} {Ex : L2.St → XK} {D : Ends} (h : t σ H fun vs H1 => ∃ (Mx : Nat) (Pv : Nat → L2.St → Hp → Prop), Pv 0 σ H1 ∧ (∀ i σ H, Pv i σ H → i ≤ Mx) ∧ WantG σ g tb D Pv (Ex σ) (sp (vs ++ dvs) H1)) : tForG (tCallG2 sp dvs t) g tb Ex D σ H := h
theorem lcG {sp : SpG2} {dvs : List V} {t : TA} {g : TG} {tt : TT} {te : TE} {vs : List Nat} (h : t σ H fun us H1 => ∃ (Mx : Nat) (W : Addr → Nat → Hp → Prop), (∀ D i H, W D i H → i ≤ Mx ∧ ∃ acc, H D = some (.lst acc)) ∧ WantC σ g tt te vs Q W H1 (sp (us ++ dvs) H1)) : tLcG (tCallG2 sp dvs t) g tt te vs σ H Q := h
theorem lift_cases {P : Hp → Prop} {i : Nat} {D : Addr} {H2 : Hp} (h0 : i = 0 → P (upd H2 D (.lst []))) (h1 : 1 ≤ i → P H2) : P (lifted (fun H => upd H D (.lst [])) i H2) := by
  unfold lifted
  by_cases h : i = 0
  · rw [if_pos h]; exact h0 h
  · rw [if_neg h]; exact h1 (by omega)
theorem genX {tp : TS} {wi : TI} {g : TG} {te : TE} {tq : TS} {ry : Nat → Hp → Prop} {yl : Nat → Hp → V → Hp → Prop} {en : Nat → Hp → Hp → Prop} {H0 : Hp} (h : tp { nx := fun σ1 H1 => wi σ1 H1 fun J H2 => ∃ Q : Nat → L2.St → Hp → Hp → Prop, Q 0 σ1 H0 H2 ∧ ∀ i σ Hw H, Q i σ Hw H →
    (J.stop i H ∧ en i Hw H) ∨ (J.go i H ∧ ∀ x H', J.yld i H x H' → g x σ H' fun σ2 H3 => te σ2 H3 fun y H4 => yl i Hw y H4 ∧ ∀ H5, ry (i + 1) H5 → tq { nx := fun σ6 H6 => Q (i + 1) σ6 H5 H6, rt := fun _ _ => False } σ2 H5), rt := fun _ _ => False } σ H) : tGenX tp wi g te tq ry yl en H0 σ H := h
end
/-- an expression whose ways are to be joined: the walk stops at it -/
def tStop (te : TE) : TE := te
theorem pe_stop {X : Cx} {e : Expr} {te : TE} (p : PE X e te) : PE X e (tStop te) := p
theorem stopX {te : TE} {σ : L2.St} {H : Hp} {Q : VK} (M : V → Hp → Prop) (h1 : ∀ Q' : VK, (∀ v H', M v H' → Q' v H') → te σ H Q') (h2 : ∀ v H', M v H' → Q v H') : tStop te σ H Q := h1 Q h2
end HS
/-! cls(e, ..) within a classmethod: the first parameter holds the class (own rule; the call C.m(e) itself is ClX.pe_cmeth). -/
namespace HS
open PySem PySem.Spec PyProof.Rows L2
section
variable {X : Cx} {CX : CXT} {k i : Nat} {C f : Addr} {fd : FuncData} {ps : List Str} {sp : Sp} {dvs : List V} {ds : List Value} {E : XK} {x : Str} {p pos : Pos} {e : Expr} {es : List Expr} {t : TA}
def tMakeL (i : Nat) (C : Addr) (sp : Sp) (dvs : List V) (E : XK) (t : TA) : TE := fun σ H Q => σ[i]? = some (some (.ref C)) ∧ tMake C sp dvs E t σ H Q
theorem pe_makeL (M : Mk X.K C f) (F : FnOk X.prog X.w X.K X.mg X.base CX k f fd ps sp) (hr : Room (k + 1) X.A) (hN : X.N[i]? = some x) (hv : Vis X.env.scope x) (hb : Binds X.K fd ps ds) (hd : Vals dvs ds) (hx : Passes CX X E) (ha : PA X (e :: es) t)
    (n1 : (x == ("__debug__" : Str)) = false := by decide) (n2 : (x == ("__classdict__" : Str)) = false := by decide) (n3 : starEach (e :: es) X.env = (false, eval e X.env) :: starEach es X.env := by rfl) (n4 : (backTo pos (starEach es X.env)).any (·.1) = false := by rfl) : PE X (.Call (.Name x p) (e :: es) [] pos) (tMakeL i C sp dvs E t) := by
  constructor
  rintro pins s σ H Q I ⟨h0, h⟩
  refine wpAny_Call_Name_kw (thn ((pe_var (pos := p) hN hv n1 n2).run pins s σ H (fun v H1 => v = .ref C ∧ H1 = H) I ⟨.ref C, h0, rfl, rfl⟩) fun u s1 ⟨v, H1, J, rv, ev, eh⟩ => ?_)
  subst ev eh
  cases rv
  refine PySem.W.callWith_K (h₀ := X.base) J.ok.mod.kin M.kp (thn (ha.run pos pins s1 σ _ _ J h) fun us s2 ⟨vs, H2, J2, r, q⟩ => ⟨J2.kIn, ?_⟩) n3 n4
  exact run_make M F hr hb hd hx J2 r q
theorem omakeL {σ : L2.St} {H : Hp} {Q : VK} (h0 : σ[i]? = some (some (.ref C))) (h : tMake C sp dvs E t σ H Q) : tMakeL i C sp dvs E t σ H Q := ⟨h0, h⟩
theorem ocmeth {σ : L2.St} {H : Hp} {Q : VK} {ta : TE} (h : ta σ H fun x H1 => x = .ref C ∧ t σ H1 fun vs H2 => sp (.ref C :: vs) H2 Q E) : ClX.tCMeth C sp E ta t σ H Q := h
end
theorem fnR_of {P : Program} {w : World} {K : PySem.W.Frag} {mg : Str → Option Value} {base : Heap} {CX : CXT} {k : Nat} {f : Addr} {fd : FuncData} {ps : List Str} {sp : Sp} (F : FnOk P w K mg base CX k f fd ps sp) (hb : Binds K fd ps []) : FnR P w K mg base CX k f sp := fun A outer s H us vs Q E hr e0 r h => by
  have kin : K.In s.heap := e0.mod.kin.keeps fun b o q => (e0.bs b o q).1
  have b := hb s us kin (by rw [List.append_nil, ← r.length]; exact F.len _ _ _ _ h)
  rw [List.append_nil] at b
  exact F.run A outer s H ⟨us, []⟩ us vs Q E hr e0 b r h
section -- C.m(e, ..) in a try
variable {X : Cx} {CX : CXT} {k : Nat} {C p g : Addr} {mc : Value} {sp : Sp} {E : L2.St → XK} {o e : Expr} {es : List Expr} {m : Str} {pos apos : Pos} {ta : TE} {t : TA}
def tCMethS (C : Addr) (sp : Sp) (E : L2.St → XK) (ta : TE) (t : TA) : TE := fun σ H Q => ta σ H fun x H1 => x = .ref C ∧ t σ H1 fun vs H2 => sp (.ref C :: vs) H2 Q (E σ)
theorem pe_cmethS {pl : Sem Bool} (he : PE X o ta) (r : ClX.CRead X.K C mc) (c : ClX.CMet X.K C mc m p g) (F : FnR X.prog X.w X.K X.mg X.base CX k g sp) (hr : Room k X.A) (hx : ∀ σ, PassesAt CX X σ (E σ)) (ha : PA X (e :: es) t)
    (n1 : starEach (e :: es) X.env = (false, eval e X.env) :: starEach es X.env := by rfl) (n2 : (backTo pos (starEach es X.env)).any (·.1) = false := by rfl)
    (n3 : eval (.Call (.Attribute o m apos) (e :: es) [] pos) X.env = (do
      let ov ← eval o X.env; standAt apos.atName
      let (f, first) ← holding [ov] (getMethod ov m pl); callWith pos f first (backTo pos (starEach (e :: es) X.env)) (backToKw pos (keywordEach [] X.env))) := by rfl) : PE X (.Call (.Attribute o m apos) (e :: es) [] pos) (tCMethS C sp E ta t) := by
  constructor
  intro pins s σ H Q I h
  refine PySem.W.methodCall_KW (pl := pl) (thn (he.run pins s σ H _ I h) fun u s1 ⟨x, H1, J, rx, ex, q⟩ => ?_) n3
  subst ex
  cases rx
  refine ClX.getmethcm_ok J r c fun s2 J2 => ClX.callwith_cm J2 (ClX.base_none J (Nat.le_refl _)) c.fi (thn (ha.run pos _ s2 σ H1 _ J2 q) fun us s3 ⟨vs, H2, J3, rv, q2⟩ => ⟨⟨ClX.pin_at J3, J3.kIn⟩, ?_⟩) n1 n2
  have z : wpAny (model X.prog X.w) X.A (call (.ref s1.heap.objs.size) us) (EP X ((s1.heap.objs.size, PySem.W.methodObj (.ref g) (.ref C)) :: pins) σ Q) X.xe s3 :=
    wpAny_call (PySem.W.method_call (ClX.pin_at J3) (codeAny_mono (F X.A X.stack s3 H2 (.ref C :: us) (.ref C :: vs) Q (E σ) hr J3.env0 (.cons rfl rv) q2) fun res s4 y => by
      rcases res with er | fl
      · exact hx σ _ _ _ _ _ J3 y
      · cases fl with
        | ret u => exact J3.after y
        | _ => exact y.elim))
  exact thn z fun _ _ y => ClX.unpinE y
end
end HS
/-! o.m(e, ..) of a method with a star parameter, in a try. -/
namespace HS
open PySem PySem.Spec PyProof.Rows L2
section
variable {X : Cx} {CX : CXT} {k : Nat} {C f : Addr} {m : Str} {sp : Sp} {E : L2.St → XK} {o e : Expr} {es : List Expr} {ta : TE} {t : TA} {apos pos : Pos}
theorem runRS {pins : List (Addr × Obj)} {σ : L2.St} {H : Hp} {s : Shared} {Q : VK} {us : List Value} {vs : List V} (F : FnR X.prog X.w X.K X.mg X.base CX k f sp) (hr : Room k X.A) (hx : PassesAt CX X σ (E σ)) (I : Inv X pins σ H s) (r : Vals vs us) (q : sp vs H Q (E σ)) :
    wpAny (model X.prog X.w) X.A (call (.ref f) us) (EP X pins σ Q) X.xe s :=
  wpAny_call (codeAny_mono (F X.A X.stack s H us vs Q (E σ) hr I.env0 r q) fun res s4 y => by
    rcases res with er | fl
    · exact hx _ _ _ _ _ I y
    · cases fl with
      | ret u => exact I.after y
      | _ => exact y.elim)
theorem pe_methRS {pl : Sem Bool} (he : PE X o ta) (c : Cls X.K C) (hm : Meth X.K C m f) (F : FnR X.prog X.w X.K X.mg X.base CX k f sp) (hr : Room k X.A) (hx : ∀ σ, PassesAt CX X σ (E σ)) (ha : PA X (e :: es) t)
    (n1 : starEach (e :: es) X.env = (false, eval e X.env) :: starEach es X.env := by rfl) (n2 : (backTo pos (starEach es X.env)).any (·.1) = false := by rfl)
    (n3 : eval (.Call (.Attribute o m apos) (e :: es) [] pos) X.env = (do
      let ov ← eval o X.env; standAt apos.atName
      let (f, first) ← holding [ov] (getMethod ov m pl); callWith pos f first (backTo pos (starEach (e :: es) X.env)) (backToKw pos (keywordEach [] X.env))) := by rfl) : PE X (.Call (.Attribute o m apos) (e :: es) [] pos) (tMethS C m sp E ta t) := by
  constructor
  intro pins s σ H Q I h
  refine PySem.W.methodCall_KW (pl := pl) (thn (he.run pins s σ H _ I h) fun u s1 ⟨x, H1, J, rx, a, dx, fs, ex, ea, l, q⟩ => ?_) n3
  subst ex
  cases rx
  refine getmeth_ok J ea c hm l (PySem.W.callWith_K (first := [.ref a]) (h₀ := X.base) J.ok.mod.kin hm.kp (thn (ha.run pos pins s1 σ H1 _ J q) fun us s2 ⟨vs, H2, J2, r, q2⟩ => ⟨J2.kIn, ?_⟩) n1 n2)
  exact runRS (us := .ref a :: us) (vs := .ref a :: vs) F hr (hx σ) J2 (.cons rfl r) q2
end
end HS
namespace WK24
open PySem PySem.Spec PyProof.Rows L2
/-- the source of draws at s, its digits at d; n: at most so many mixed draws so far -/
def Src (H : Hp) (s d : Addr) (n : Nat) : Prop := s ≠ d ∧ ∃ (gs : List Int) (l m c : Int), H s = some (.lst [.ref d, .int l, .int m, .int c]) ∧ H d = some (.lst (gs.map V.int)) ∧ (∀ x ∈ gs, 0 ≤ x) ∧ gs.length ≤ 63 ∧ 0 ≤ l ∧ 0 ≤ m ∧ m < 2 ^ 61 ∧ 0 ≤ c ∧ c ≤ n
/-- lengths of chapters -/
def Book (ls : List Int) : Prop := ∀ x ∈ ls, 1 ≤ x ∧ x < 10 ^ 30
theorem Src.keep {H H' : Hp} {s d : Addr} {n : Nat} (h : Src H s d n) (e1 : H' s = H s) (e2 : H' d = H d) : Src H' s d n := by
  obtain ⟨hsd, gs, l, m, c, h1, h2, h3⟩ := h
  exact ⟨hsd, gs, l, m, c, by rw [e1]; exact h1, by rw [e2]; exact h2, h3⟩
theorem Src.new {H : Hp} {s d p : Addr} {n : Nat} {o : HO} (h : Src H s d n) (hp : H p = none) : Src (upd H p o) s d n := by
  obtain ⟨hsd, gs, l, m, c, h1, h2, h3⟩ := h
  exact ⟨hsd, gs, l, m, c, by rw [upd_ne (ne_of_none h1 hp)]; exact h1, by rw [upd_ne (ne_of_none h2 hp)]; exact h2, h3⟩
theorem Src.put {H : Hp} {s d p : Addr} {n : Nat} {o : HO} (h : Src H s d n) (e1 : p ≠ s) (e2 : p ≠ d) : Src (upd H p o) s d n := by
  obtain ⟨hsd, gs, l, m, c, h1, h2, h3⟩ := h
  exact ⟨hsd, gs, l, m, c, by rw [upd_ne e1.symm]; exact h1, by rw [upd_ne e2.symm]; exact h2, h3⟩
theorem Src.ne1 {H : Hp} {s d p : Addr} {n : Nat} (h : Src H s d n) (hp : H p = none) : p ≠ s := by
  obtain ⟨hsd, gs, l, m, c, h1, h2, h3⟩ := h
  exact (ne_of_none h1 hp).symm
theorem Src.ne2 {H : Hp} {s d p : Addr} {n : Nat} (h : Src H s d n) (hp : H p = none) : p ≠ d := by
  obtain ⟨hsd, gs, l, m, c, h1, h2, h3⟩ := h
  exact (ne_of_none h2 hp).symm
theorem Src.up {H : Hp} {s d : Addr} {n m : Nat} (h : Src H s d n) (e : n ≤ m) : Src H s d m := by
  obtain ⟨hsd, gs, l, m', c, h1, h2, h3, h4, h5, h6, h7, h8, h9⟩ := h
  exact ⟨hsd, gs, l, m', c, h1, h2, h3, h4, h5, h6, h7, h8, by omega⟩
/-- the page count of an edition -/
def pcount (ls : List Int) (j : Int) : Int := (ls.map fun x => (x + j - 1) / j).sum
theorem pcount_nil (j : Int) : pcount [] j = 0 := rfl
theorem pcount_cons (x : Int) (ls : List Int) (j : Int) : pcount (x :: ls) j = (x + j - 1) / j + pcount ls j := by unfold pcount; rw [List.map_cons, List.sum_cons]
theorem pcount_append (xs ys : List Int) (j : Int) : pcount (xs ++ ys) j = pcount xs j + pcount ys j := by unfold pcount; rw [List.map_append, List.sum_append]
/-- a page for each chapter, and one more for each full page of its other lines -/
theorem pcount_less1 {j : Int} (hj : 1 ≤ j) : ∀ ls : List Int, (ls.length : Int) + (ls.map fun x => (x - 1) / j).sum = pcount ls j
  | [] => rfl
  | x :: r => by
    have e : (x + j - 1) / j = (x - 1) / j + 1 := by rw [show x + j - 1 = (x - 1) + j * 1 by omega, Int.add_mul_ediv_left _ _ (by omega)]
    rw [pcount_cons, ← pcount_less1 hj r, e, List.length_cons, List.map_cons, List.sum_cons]
    push_cast
    omega
theorem pcount_take {ls : List Int} {i : Nat} {x : Int} (j : Int) (h : ls[i]? = some x) : pcount (ls.take (i + 1)) j = pcount (ls.take i) j + (x + j - 1) / j := by
  obtain ⟨h1, h2⟩ := List.getElem?_eq_some_iff.mp h
  rw [List.take_add_one, h, pcount_append]
  show _ + pcount [x] j = _
  rw [pcount_cons, pcount_nil]; omega
theorem ceil_pos {x j : Int} (hx : 1 ≤ x) (hj : 1 ≤ j) : 1 ≤ (x + j - 1) / j := by
  rw [Int.le_ediv_iff_mul_le (by omega)]; omega
theorem pcount_len {ls : List Int} {j : Int} (hp : ∀ x ∈ ls, 1 ≤ x) (hj : 1 ≤ j) : (ls.length : Int) ≤ pcount ls j := by
  induction ls with
  | nil => exact Int.le_refl 0
  | cons x r ih =>
    rw [pcount_cons, List.length_cons]
    have := ceil_pos (hp x List.mem_cons_self) hj
    have := ih fun y hy => hp y (List.mem_cons_of_mem _ hy)
    omega
theorem pcount_pos {ls : List Int} {j : Int} (hp : ∀ x ∈ ls, 1 ≤ x) (hj : 1 ≤ j) : 0 ≤ pcount ls j := by
  have := pcount_len hp hj; omega
theorem take_all {ls : List Int} {P : Int → Prop} (h : ∀ x ∈ ls, P x) (n : Nat) : ∀ x ∈ ls.take n, P x := fun x hx => h x (List.mem_of_mem_take hx)
theorem Src.same {H H' : Hp} {s d : Addr} {n : Nat} (h : Src H s d n) (k : HS.Keep (fun _ => False) H H') : Src H' s d n := by
  obtain ⟨hsd, gs, l, m, c, h1, h2, h3⟩ := h
  exact ⟨hsd, gs, l, m, c, k _ _ h1 id, k _ _ h2 id, h3⟩
theorem sum_book {ls : List Int} (h : Book ls) : (ls.length : Int) ≤ ls.sum ∧ ls.sum ≤ ls.length * (10 ^ 30) := by
  induction ls with
  | nil => exact ⟨Int.le_refl _, Int.le_refl _⟩
  | cons x r ih =>
    have := ih fun y hy => h y (List.mem_cons_of_mem _ hy)
    have := h x List.mem_cons_self
    rw [List.sum_cons, List.length_cons]
    push_cast
    omega
/-! Sums of ceilings. -/
theorem ceil_le {x j q : Int} (hj : 1 ≤ j) : (x + j - 1) / j ≤ q ↔ x ≤ q * j := by
  rw [← Int.lt_add_one_iff, Int.ediv_lt_iff_lt_mul (by omega), Int.add_mul]
  omega
theorem ceil_up {x j : Int} (hj : 1 ≤ j) : x ≤ (x + j - 1) / j * j := (ceil_le hj).mp (Int.le_refl _)
theorem ceil_dn {x j : Int} (hj : 1 ≤ j) : (x + j - 1) / j * j ≤ x + j - 1 := Int.ediv_mul_le _ (by omega)
theorem ceil_nonneg {x j : Int} (hx : 0 ≤ x) (hj : 1 ≤ j) : 0 ≤ (x + j - 1) / j := Int.ediv_nonneg (by omega) (by omega)
theorem pcount_up (ls : List Int) {j : Int} (hj : 1 ≤ j) : ls.sum ≤ pcount ls j * j := by
  induction ls with
  | nil => rw [pcount_nil]; simp
  | cons x r ih =>
    rw [pcount_cons, List.sum_cons, Int.add_mul]
    have := ceil_up (x := x) hj
    omega
theorem pcount_ceil (ls : List Int) {j : Int} (hj : 1 ≤ j) : (ls.sum + j - 1) / j ≤ pcount ls j := (ceil_le hj).mpr (pcount_up ls hj)
theorem pcount_dn (ls : List Int) {j : Int} (hj : 1 ≤ j) : (pcount ls j - ls.length) * j ≤ ls.sum - ls.length := by
  induction ls with
  | nil => rw [pcount_nil]; simp
  | cons x r ih =>
    rw [pcount_cons, List.sum_cons, List.length_cons]
    have := ceil_dn (x := x) hj
    have e : ((x + j - 1) / j + pcount r j - ((r.length + 1 : Nat) : Int)) * j = (x + j - 1) / j * j - j + (pcount r j - r.length) * j := by
      rw [show ((x + j - 1) / j + pcount r j - ((r.length + 1 : Nat) : Int)) = ((x + j - 1) / j - 1) + (pcount r j - r.length) by push_cast; omega, Int.add_mul, Int.sub_mul, Int.one_mul]
    rw [e]
    push_cast
    omega
theorem pcount_most (ls : List Int) {j : Int} (hj : 1 ≤ j) : pcount ls j ≤ ls.length + (ls.sum - ls.length) / j := by
  have := (Int.le_ediv_iff_mul_le (by omega : 0 < j)).mpr (pcount_dn ls hj)
  omega
theorem pcount_anti {ls : List Int} {j k : Int} (hp : ∀ x ∈ ls, 1 ≤ x) (hj : 1 ≤ j) (hk : j ≤ k) : pcount ls k ≤ pcount ls j := by
  induction ls with
  | nil => exact Int.le_refl _
  | cons x r ih =>
    rw [pcount_cons, pcount_cons]
    have h1 := ih fun y hy => hp y (List.mem_cons_of_mem _ hy)
    have hx := hp x List.mem_cons_self
    have h2 : (x + k - 1) / k ≤ (x + j - 1) / j := (ceil_le (by omega)).mpr (Int.le_trans (ceil_up hj) (Int.mul_le_mul_of_nonneg_left hk (ceil_nonneg (by omega) hj)))
    omega
theorem pcount_mult {ls : List Int} {j m : Int} (hj : 1 ≤ j) (hm : 1 ≤ m) : pcount ls j ≤ m * pcount ls (j * m) := by
  have hjm : 1 ≤ j * m := by have := Int.mul_le_mul hj hm (by omega) (by omega); omega
  induction ls with
  | nil => rw [pcount_nil, pcount_nil, Int.mul_zero]; exact Int.le_refl _
  | cons x r ih =>
    rw [pcount_cons, pcount_cons, Int.mul_add]
    have h2 : (x + j - 1) / j ≤ m * ((x + j * m - 1) / (j * m)) := (ceil_le hj).mpr (by
      have := ceil_up (x := x) hjm
      rw [show m * ((x + j * m - 1) / (j * m)) * j = (x + j * m - 1) / (j * m) * (j * m) by rw [Int.mul_comm m, Int.mul_assoc, Int.mul_comm m j]]
      exact this)
    omega
theorem pcount_reverse (ls : List Int) (j : Int) : pcount ls.reverse j = pcount ls j := by
  induction ls with
  | nil => rfl
  | cons x r ih => rw [List.reverse_cons, pcount_append, ih, pcount_cons, pcount_cons, pcount_nil]; omega
theorem pcount_cut (ls : List Int) (n : Nat) (j : Int) : pcount (ls.take n) j + pcount (ls.drop n) j = pcount ls j := by
  rw [← pcount_append, List.take_append_drop]
theorem ceil_join {x y j : Int} (hj : 1 ≤ j) : (x + y + j - 1) / j ≤ (x + j - 1) / j + (y + j - 1) / j ∧ (x + j - 1) / j + (y + j - 1) / j ≤ (x + y + j - 1) / j + 1 := by
  have a1 := ceil_up (x := x) hj
  have a2 := ceil_dn (x := x) hj
  have b1 := ceil_up (x := y) hj
  have b2 := ceil_dn (x := y) hj
  have c1 := ceil_up (x := x + y) hj
  refine ⟨(ceil_le hj).mpr (by rw [Int.add_mul]; omega), ?_⟩
  generalize (x + j - 1) / j = p at *
  generalize (y + j - 1) / j = q at *
  generalize (x + y + j - 1) / j = r at *
  apply Int.le_of_lt_add_one
  apply Int.lt_of_not_ge
  intro h
  have h1 : (r + 2) * j ≤ (p + q) * j := Int.mul_le_mul_of_nonneg_right (by omega) (by omega)
  rw [Int.add_mul, Int.add_mul] at h1
  omega
theorem pcount_sum {ls : List Int} {j : Int} (hp : ∀ x ∈ ls, 1 ≤ x) (hl : (ls.length : Int) ≤ ls.sum) (hj : 1 ≤ j) : pcount ls j ≤ ls.sum := by
  have := pcount_most ls hj
  have := Int.ediv_le_self j (show 0 ≤ ls.sum - ls.length by omega)
  omega
/-- the law's draws: three numbers in a list at s; n: at most so many mixed draws so far -/
def Rng (H : Hp) (s : Addr) (n : Nat) : Prop := ∃ l m c : Int, H s = some (.lst [.int l, .int m, .int c]) ∧ 0 ≤ l ∧ 0 ≤ m ∧ m < 2 ^ 62 ∧ 0 ≤ c ∧ c ≤ n
section
variable {H H' : Hp} {s p : Addr} {n m : Nat} {o : HO}
theorem Rng.keep (h : Rng H s n) (e : H' s = H s) : Rng H' s n := by
  obtain ⟨l, m, c, h1, h2⟩ := h
  exact ⟨l, m, c, by rw [e]; exact h1, h2⟩
theorem Rng.new (h : Rng H s n) (hp : H p = none) : Rng (upd H p o) s n := by
  obtain ⟨l, m, c, h1, h2⟩ := h
  exact ⟨l, m, c, by rw [upd_ne (ne_of_none h1 hp)]; exact h1, h2⟩
theorem Rng.put (h : Rng H s n) (e : p ≠ s) : Rng (upd H p o) s n := by
  obtain ⟨l, m, c, h1, h2⟩ := h
  exact ⟨l, m, c, by rw [upd_ne e.symm]; exact h1, h2⟩
theorem Rng.ne (h : Rng H s n) (hp : H p = none) : p ≠ s := by
  obtain ⟨l, m, c, h1, h2⟩ := h
  exact (ne_of_none h1 hp).symm
theorem Rng.up (h : Rng H s n) (e : n ≤ m) : Rng H s m := by
  obtain ⟨l, m', c, h1, h2, h3, h4, h5, h6⟩ := h
  exact ⟨l, m', c, h1, h2, h3, h4, h5, by omega⟩
theorem Rng.same (h : Rng H s n) (k : HS.Keep (fun _ => False) H H') : Rng H' s n := by
  obtain ⟨l, m', c, h1, h2⟩ := h
  exact ⟨l, m', c, k _ _ h1 id, h2⟩
end
/-- lengths of chapters, up to T -/
def Lens (ls : List Int) (T : Int) : Prop := ∀ x ∈ ls, 1 ≤ x ∧ x ≤ T
theorem Lens.one {ls : List Int} {T : Int} (h : Lens ls T) : ∀ x ∈ ls, 1 ≤ x := fun x hx => (h x hx).1
theorem pow_up (i : Nat) : (2 : Int) ^ (200 * (i + 1)) < 2 ^ (200 * (i + 1 + 1)) := by
  have e : (2 : Int) ^ (200 * (i + 1 + 1)) = 2 ^ (200 * (i + 1)) * 2 ^ 200 := by rw [← Int.pow_add, show 200 * (i + 1) + 200 = 200 * (i + 1 + 1) by omega]
  have z : (0 : Int) < 2 ^ (200 * (i + 1)) := Int.pow_pos (by decide)
  rw [e]
  generalize (2 : Int) ^ (200 * (i + 1)) = P at z ⊢
  omega
theorem rng_step {d s : Int} {i : Nat} (h0 : 0 ≤ d) (h : d < 2 ^ (200 * (i + 1))) (s0 : 0 ≤ s) (s1 : s < 10 ^ 60) : 0 ≤ d * 10 ^ 60 + s ∧ d * 10 ^ 60 + s < 2 ^ (200 * (i + 1 + 1)) := by
  have e : (2 : Int) ^ (200 * (i + 1 + 1)) = 2 ^ (200 * (i + 1)) * 2 ^ 200 := by rw [← Int.pow_add, show 200 * (i + 1) + 200 = 200 * (i + 1 + 1) by omega]
  rw [e]
  generalize (2 : Int) ^ (200 * (i + 1)) = P at h ⊢
  omega
/-- some chapters -/
def Ls (H : Hp) (p : Addr) (ls : List Int) : Prop := H p = some (.lst (ls.map V.int))
/-- the law's draws as one of the objects told -/
def RngO (n : Nat) : HO → Prop := fun o => ∃ l m c : Int, o = .lst [.int l, .int m, .int c] ∧ 0 ≤ l ∧ 0 ≤ m ∧ m < 2 ^ 62 ∧ 0 ≤ c ∧ c ≤ n
section
variable {H0 H H' : Hp} {S : Addr → Prop} {l : HS.WdL} {s : Addr} {n m : Nat}
theorem rng_o (h : Rng H s n) : ∃ o, H s = some o ∧ RngO n o := by
  obtain ⟨a, b, c, h1, h2⟩ := h
  exact ⟨_, h1, a, b, c, rfl, h2⟩
theorem wd_rng (h : Rng H s n) : HS.Wd H H (fun a => a = s) [(s, RngO n)] := by
  obtain ⟨o, h1, h2⟩ := rng_o h
  exact HS.Wd.one h1 h2 rfl
theorem wd_rngs {S : Addr → Prop} (h : Rng H s n) (hs : S s) : HS.Wd H H S [(s, RngO n)] := by
  obtain ⟨o, h1, h2⟩ := rng_o h
  exact HS.Wd.one h1 h2 hs
theorem _root_.HS.Wd.rng (W : HS.Wd H0 H S l) (i : Nat) (e : l[i]? = some (s, RngO n)) : Rng H s n := by
  obtain ⟨o, h, a, b, c, rfl, h2⟩ := W.get i e
  exact ⟨a, b, c, h, h2⟩
theorem _root_.HS.Wd.drawn (W : HS.Wd H0 H S l) (i : Nat) (e : l[i]? = some (s, RngO n)) (k : HS.Keep (fun a => a = s) H H') (r : Rng H' s m) : HS.Wd H0 H' S (l.set i (s, RngO m)) := by
  obtain ⟨o, h1, h2⟩ := rng_o r
  exact W.chg i e k h1 h2
theorem _root_.HS.Wd.rup (W : HS.Wd H0 H S l) (i : Nat) (e : l[i]? = some (s, RngO n)) (h : n ≤ m) : HS.Wd H0 H S (l.set i (s, RngO m)) :=
  W.weak i e fun o ⟨a, b, c, h1, h2, h3, h4, h5, h6⟩ => ⟨a, b, c, h1, h2, h3, h4, h5, by omega⟩
end
theorem none_ahead {ds : List PyData} {d : PyData} {j : Nat} (h : ∀ m < j, (ds[m]?.map fun z => PyData.eqv z d) = some false) : ∀ (m : Nat) (z : PyData), m < j → ds[m]? = some z → PyData.eqv z d = false := fun m z hm hz => by
  have e := h m hm
  rw [hz] at e
  exact Option.some.inj e
/-- the first place of a length below 1 -/
def badAt : List Int → Option Nat
  | [] => none
  | x :: r => if x < 1 then some 0 else (badAt r).map (· + 1)
theorem badAt_none : ∀ {ls : List Int}, (∀ x ∈ ls, 1 ≤ x) → badAt ls = none
  | [], _ => rfl
  | x :: r, h => by
    have h1 := h x List.mem_cons_self
    rw [badAt, if_neg (by omega), badAt_none fun y hy => h y (List.mem_cons_of_mem _ hy)]; rfl
theorem badAt_some : ∀ {ls : List Int}, (∃ x ∈ ls, x < 1) → ∃ i, badAt ls = some i
  | [], h => by obtain ⟨x, hx, _⟩ := h; cases hx
  | x :: r, h => by
    rw [badAt]
    by_cases h1 : x < 1
    · exact ⟨0, by rw [if_pos h1]⟩
    · obtain ⟨y, hy, h2⟩ := h
      rcases List.mem_cons.mp hy with e | hy
      · subst e; exact absurd h2 h1
      · obtain ⟨i, e⟩ := badAt_some ⟨y, hy, h2⟩
        exact ⟨i + 1, by rw [if_neg h1, e]; rfl⟩
/-- the places of the lengths below 1 -/
def badsFrom : Nat → List Int → List Int
  | _, [] => []
  | k, x :: r => if x < 1 then (k : Int) :: badsFrom (k + 1) r else badsFrom (k + 1) r
theorem badsFrom_snoc : ∀ (k : Nat) (ls : List Int) (x : Int), badsFrom k (ls ++ [x]) = badsFrom k ls ++ (if x < 1 then [((k + ls.length : Nat) : Int)] else [])
  | k, [], x => by
    show badsFrom k [x] = _
    rw [badsFrom, badsFrom, badsFrom]
    show _ = if x < 1 then [((k + 0 : Nat) : Int)] else []
    rw [Nat.add_zero]
  | k, y :: r, x => by
    rw [List.cons_append, badsFrom, badsFrom, badsFrom_snoc (k + 1) r x, List.length_cons, show k + 1 + r.length = k + (r.length + 1) by omega]
    split <;> rfl
theorem badsFrom_len (k : Nat) : ∀ ls : List Int, (badsFrom k ls).length ≤ ls.length
  | [] => Nat.le_refl _
  | x :: r => by
    have := badsFrom_len (k + 1) r
    rw [badsFrom]
    split
    · rw [List.length_cons, List.length_cons]; omega
    · rw [List.length_cons]; omega
theorem badsFrom_head : ∀ (k : Nat) (ls : List Int) (i : Nat), badAt ls = some i → (badsFrom k ls)[0]? = some ((k + i : Nat) : Int)
  | k, x :: r, i, h => by
    rw [badAt] at h
    rw [badsFrom]
    by_cases h1 : x < 1
    · rw [if_pos h1] at h ⊢
      injection h with h; subst h; rfl
    · rw [if_neg h1] at h ⊢
      obtain ⟨j, e, rfl⟩ := Option.map_eq_some_iff.mp h
      rw [badsFrom_head (k + 1) r j e, show k + 1 + j = k + (j + 1) by omega]
theorem badsFrom_none : ∀ (k : Nat) (ls : List Int), badAt ls = none → badsFrom k ls = []
  | _, [], _ => rfl
  | k, x :: r, h => by
    rw [badAt] at h
    rw [badsFrom]
    by_cases h1 : x < 1
    · rw [if_pos h1] at h; cases h
    · rw [if_neg h1, Option.map_eq_none_iff] at h
      rw [if_neg h1]
      exact badsFrom_none (k + 1) r h
def titlesOf (ls : List Int) (j : Int) (n : Nat) : List Int := (List.range n).map fun i => 1 + pcount (ls.take i) j
def readT (rows : List Int) (ch : Int) : Nat → List Int → Int ⊕ List Int
  | 0, ls => .inr (ls ++ List.replicate (ch - ls.length).toNat 1)
  | s + 1, ls =>
    if rows.getD s 0 - pcount ls ((s : Int) + 1) - (ch - ls.length) < 0 ∨ ch - ls.length < rows.getD s 0 - pcount ls ((s : Int) + 1) - (ch - ls.length) then .inl ((s : Int) + 1)
    else readT rows ch s (ls ++ List.replicate (rows.getD s 0 - pcount ls ((s : Int) + 1) - (ch - ls.length)).toNat ((s : Int) + 2))
def readAll (rows : List Int) : Int ⊕ List Int :=
  match rows.getLast? with
  | none => .inr []
  | some c => if c < 0 then .inl rows.length else readT rows c (rows.length - 1) []
end WK24
namespace WK24
open PySem PySem.Spec PyProof.Rows L2
local macro_rules | `(tactic| walk_at "ne") => `(tactic| first | assumption | (apply Ne.symm; assumption) | exact ne_of_none (by assumption) (by assumption) | exact (ne_of_none (by assumption) (by assumption)).symm | exact ne_of_none upd_same (by assumption) | exact (ne_of_none upd_same (by assumption)).symm)
local macro_rules | `(tactic| walk_at "hp") => `(tactic| first | assumption | exact upd_same | (rw [upd_ne (by walk_at "ne")]; walk_at "hp"))
local macro_rules | `(tactic| walk_at "side") => `(tactic| first | omega | decide | assumption | exact ⟨by decide, by decide⟩ | exact ⟨by omega, by omega⟩ | exact .inl (by omega) | exact .inr (by omega) | exact .inl (by decide) | exact .inr (by decide) | exact ⟨by decide, by decide, by decide⟩ | exact ⟨by decide, by decide, by omega⟩ | exact .inl ⟨by omega, by omega⟩ | exact .inr ⟨by omega, by omega⟩ | exact .inr ⟨by decide, by decide⟩ | exact .inl ⟨by decide, by decide⟩ | (show _ < _; omega))
local macro_rules | `(tactic| walk_at "len") => `(tactic| ((try simp only [List.length_map, List.length_append, List.length_cons, List.length_nil, List.length_set, List.length_replicate]); omega))
local macro_rules | `(tactic| walk_at "sq") => `(tactic| first | assumption | exact HS.sq (by walk_at "hp"))
local macro_rules | `(tactic| walk_at "st") => `(tactic| first | assumption | exact HS.st (by walk_at "hp"))
local macro_rules | `(tactic| walk_at "h1") => `(tactic| first
  | with_reducible refine HS.seq ?_
  | with_reducible refine HS.asg ?_
  | with_reducible refine HS.nm ?_
  | with_reducible refine HS.var rfl ?_
  | with_reducible refine HS.cst ?_
  | with_reducible refine HS.op ?_
  | with_reducible refine HS.i0 ?_
  | ((with_reducible refine HS.i1 ?_); first | refine ⟨by walk_at "side", ?_⟩ | skip)
  | with_reducible refine HS.u0 ?_
  | with_reducible refine HS.un ?_
  | with_reducible refine HS.eqI ?_
  | with_reducible refine HS.neI ?_
  | with_reducible refine HS.tst ?_
  | with_reducible refine HS.tb1 ?_
  | with_reducible refine HS.bex ?_
  | with_reducible refine HS.ifs ?_
  | with_reducible refine HS.ife ?_
  | with_reducible refine HS.and ?_
  | with_reducible refine HS.or ?_
  | with_reducible refine HS.not ?_
  | with_reducible refine HS.andV ?_
  | with_reducible refine HS.orV ?_
  | with_reducible refine HS.notV ?_
  | with_reducible refine HS.chn ?_
  | with_reducible refine HS.ret ?_
  | with_reducible refine HS.retN ?_
  | with_reducible refine HS.drp ?_
  | with_reducible refine HS.cb ?_
  | with_reducible refine HS.anil ?_
  | with_reducible refine HS.acons ?_
  | with_reducible refine HS.cal ?_
  | with_reducible refine HS.tup ?_
  | with_reducible refine HS.lst ?_
  | with_reducible refine HS.par ?_
  | with_reducible refine HS.ex2 ?_
  | with_reducible refine HS.aug rfl ?_
  | with_reducible refine HS.ipi ?_
  | with_reducible refine HS.addI ?_
  | with_reducible refine HS.nxt ?_
  | with_reducible refine HS.brk ?_
  | with_reducible refine HS.cnt ?_
  | with_reducible refine HS.sub ?_
  | with_reducible refine HS.pnx ?_
  | with_reducible refine HS.prt ?_
  | with_reducible refine HS.pbk ?_
  | with_reducible refine HS.pct ?_
  | with_reducible refine iteF ?_
  | with_reducible refine iteT ?_
  | with_reducible refine HS.ii ?_
  | with_reducible refine HS.bmL ?_
  | with_reducible refine HS.bmL0 ?_
  | ((with_reducible refine' HS.tyL ?e ?_); case e => walk_at "hp")
  | ((with_reducible refine' HS.app ?e ?_); (case e => walk_at "hp"))
  | ((with_reducible refine' HS.setL ?e ?f ?_); (case e => walk_at "hp"); (case f => rfl))
  | ((with_reducible refine' HS.wp ?e ?_); case e => rfl)
  | ((with_reducible refine' HS.szc ?e ?_); case e => walk_at "len")
  | ((with_reducible refine' HS.szd ?e ?_); case e => walk_at "len")
  | with_reducible refine HS.yes ?_
  | with_reducible refine HS.lc ?_
  | with_reducible refine HS.rng1 ?_
  | with_reducible refine HS.rng2 ?_
  | with_reducible refine HS.rng3 ?_
  | with_reducible refine HS.lis ?_
  | with_reducible refine HS.fr ?_
  | with_reducible refine HS.i1e ?_
  | with_reducible refine HS.gthen ?_
  | with_reducible refine HS.g0 ?_
  | with_reducible refine HS.gfr ?_
  | with_reducible refine HS.gpl ?_
  | with_reducible refine HS.gyl ?_
  | with_reducible refine HS.lgn ?_
  | with_reducible refine HS.calg ?_
  | with_reducible refine HS.revL ?_
  | with_reducible refine HS.sl ?_
  | with_reducible refine HS.noP ?_
  | with_reducible refine HS.part ?_
  | with_reducible refine HS.ie ?_
  | ((with_reducible refine' HS.slLs ?e ?_); case e => walk_at "sq")
  | ((with_reducible refine' HS.gtup ?e ?f ?_); (case e => walk_at "st"); (case f => rfl))
  | with_reducible refine HS.gcons ?_
  | with_reducible refine HS.gnil ?_
  | with_reducible refine HS.itup ?_
  | with_reducible refine HS.ienu ?_
  | ((with_reducible refine' HS.cat ?e ?f ?_); (case e => walk_at "hp"); (case f => walk_at "hp"))
  | ((with_reducible refine' HS.ext ?e ?f ?_); (case e => walk_at "hp"); (case f => walk_at "hp"))
  | ((with_reducible refine' HS.sumL ?e ?_); case e => walk_at "sq")
  | ((with_reducible refine' HS.lenL ?e ?_); case e => walk_at "sq")
  | ((with_reducible refine' HS.lenT ?e ?_); case e => walk_at "st")
  | with_reducible refine HS.ra ?_
  | ((with_reducible refine' HS.ixL ?e ?f ?_); (case e => walk_at "sq"); (case f => rfl))
  | ((with_reducible refine' HS.ixT ?e ?f ?_); (case e => walk_at "st"); (case f => rfl)))
local macro_rules | `(tactic| walk_at "hs") => `(tactic| repeat' (walk_at "h1"))
local macro_rules | `(tactic| walk_at "fold") => `(tactic| (walk_at "hs"; assumption))
local macro_rules | `(tactic| walk_at "ns") => `(tactic| first | exact (fun z => z) | assumption | exact HS.nS2 (by walk_at "ne") (by walk_at "ne") | exact HS.nS3 (by walk_at "ne") (by walk_at "ne") (by walk_at "ne"))
local macro_rules | `(tactic| walk_at "kp") => `(tactic| first
  | assumption
  | exact HS.Keep.refl
  | (refine HS.Keep.at ?_ (by first | exact .inl rfl | exact .inr rfl | exact .inr (.inl rfl) | exact .inr (.inr rfl)); walk_at "kp")
  | (refine HS.Keep.put ?_ (by assumption); walk_at "kp")
  | (refine HS.Keep.new' (by assumption) (by first | assumption | exact HS.Keep.refl) (by walk_at "ns") ?_; walk_at "kp"))
local macro_rules | `(tactic| walk_at "ev") => `(tactic| first | assumption | exact HS.Exv.new (by walk_at "ev") (by assumption))
local macro_rules | `(tactic| walk_at "h1") => `(tactic| first
  | with_reducible refine HS.ost ?_
  | with_reducible refine HS.fldV ?_
  | with_reducible refine HS.newV ?_
  | with_reducible refine HS.newK ?_
  | ((with_reducible refine' HS.isV ?T ?he ?hq ?_); (case T => assumption); (case he => walk_at "ev"); (case hq => assumption))
  | ((with_reducible refine' HS.isVt ?T ?he ?hq ?_); (case T => assumption); (case he => walk_at "ev"); (case hq => assumption)))
local macro_rules | `(tactic| walk_at "h1") => `(tactic| first
  | with_reducible refine HS.caln ?_
  | with_reducible refine HS.ckw ?_
  | with_reducible refine HS.izip ?_
  | with_reducible refine HS.orT ?_
  | with_reducible refine HS.srv ?_
  | with_reducible refine HS.nt ?_
  | with_reducible refine HS.nf ?_
  | ((with_reducible refine' HS.lnn ?e ?f ?_); (case e => rfl); (case f => rfl)))
local macro_rules | `(tactic| walk_at "kp") => `(tactic| (refine HS.Keep.at ?_ rfl; walk_at "kp"))
local macro_rules | `(tactic| walk_at "h1") => `(tactic| first
  | with_reducible refine HS.mkO ?_
  | with_reducible refine HS.callS ?_
  | with_reducible refine HS.xf ?_)
local macro_rules | `(tactic| walk_at "h1") => `(tactic| first
  | with_reducible refine HS.ofld ?_
  | with_reducible refine HS.osfl ?_
  | with_reducible refine HS.omet ?_
  | with_reducible refine HS.opro ?_
  | with_reducible refine HS.omak ?_)
local macro_rules | `(tactic| walk_at "h1") => `(tactic| first
  | with_reducible refine HS.omtS ?_
  | with_reducible refine HS.omtN ?_
  | with_reducible refine HS.omkS ?_
  | with_reducible refine HS.omkN ?_
  | with_reducible refine HS.fldX ?_
  | ((with_reducible refine' HS.gunl ?e ?f ?_); (case e => walk_at "sq"); (case f => rfl)))
local macro_rules | `(tactic| walk_at "sub") => `(tactic| repeat' (first | exact List.Sublist.slnil | exact List.nil_sublist _ | apply List.Sublist.cons₂ | apply List.Sublist.cons))
local macro_rules | `(tactic| walk_at "h1") => `(tactic| first
  | with_reducible refine HS.oenA ?_
  | with_reducible refine HS.omR ?_
  | with_reducible refine HS.fldP ?_
  | ((with_reducible refine' HS.mxd ?e ?_ ?_); case e => walk_at "sq"))
local macro_rules | `(tactic| walk_at "h1") => `(tactic| first
  | with_reducible refine HS.ogenM ?_
  | with_reducible refine HS.ogenN ?_
  | with_reducible refine HS.orgV ?_
  | with_reducible refine HS.oirV ?_)
def topS (i : Nat) : Stmt := PySem.Challenge.pw_pagecounts_k24_live_errors.main.body.getD i (.Pass ⟨0, 0, 0, 0⟩)
abbrev s_InvalidBook___init__ : Stmt := HS.inS (topS 2) 0
abbrev N_InvalidBook___init__ : List Str := ["self", "value"]
theorem sc_InvalidBook___init__ : FnScope N_InvalidBook___init__ ["self", "value"] (defScope s_InvalidBook___init__) := ⟨rfl, rfl, rfl, by decide +kernel, rfl, by decide +kernel, by decide +kernel⟩
abbrev s_InvalidSize___init__ : Stmt := HS.inS (topS 3) 0
abbrev N_InvalidSize___init__ : List Str := ["self", "value"]
theorem sc_InvalidSize___init__ : FnScope N_InvalidSize___init__ ["self", "value"] (defScope s_InvalidSize___init__) := ⟨rfl, rfl, rfl, by decide +kernel, rfl, by decide +kernel, by decide +kernel⟩
abbrev s_InvalidTable___init__ : Stmt := HS.inS (topS 4) 0
abbrev N_InvalidTable___init__ : List Str := ["self", "value"]
theorem sc_InvalidTable___init__ : FnScope N_InvalidTable___init__ ["self", "value"] (defScope s_InvalidTable___init__) := ⟨rfl, rfl, rfl, by decide +kernel, rfl, by decide +kernel, by decide +kernel⟩
abbrev s_InvalidNumber___init__ : Stmt := HS.inS (topS 6) 0
abbrev N_InvalidNumber___init__ : List Str := ["self", "value"]
theorem sc_InvalidNumber___init__ : FnScope N_InvalidNumber___init__ ["self", "value"] (defScope s_InvalidNumber___init__) := ⟨rfl, rfl, rfl, by decide +kernel, rfl, by decide +kernel, by decide +kernel⟩
abbrev s_NothingToUndo___init__ : Stmt := HS.inS (topS 7) 0
abbrev N_NothingToUndo___init__ : List Str := ["self", "value"]
theorem sc_NothingToUndo___init__ : FnScope N_NothingToUndo___init__ ["self", "value"] (defScope s_NothingToUndo___init__) := ⟨rfl, rfl, rfl, by decide +kernel, rfl, by decide +kernel, by decide +kernel⟩
abbrev s_check_book : Stmt := topS 10
abbrev N_check_book : List Str := ["book", "index", "length"]
theorem sc_check_book : FnScope N_check_book ["book"] (defScope s_check_book) := ⟨rfl, rfl, rfl, by decide +kernel, rfl, by decide +kernel, by decide +kernel⟩
abbrev s_check_size : Stmt := topS 11
abbrev N_check_size : List Str := ["size"]
theorem sc_check_size : FnScope N_check_size ["size"] (defScope s_check_size) := ⟨rfl, rfl, rfl, by decide +kernel, rfl, by decide +kernel, by decide +kernel⟩
abbrev s_check_number : Stmt := topS 12
abbrev N_check_number : List Str := ["number", "least", "greatest"]
theorem sc_check_number : FnScope N_check_number ["number", "least", "greatest"] (defScope s_check_number) := ⟨rfl, rfl, rfl, by decide +kernel, rfl, by decide +kernel, by decide +kernel⟩
abbrev s_chapter_pages : Stmt := topS 15
abbrev N_chapter_pages : List Str := ["length", "size"]
theorem sc_chapter_pages : FnScope N_chapter_pages ["length", "size"] (defScope s_chapter_pages) := ⟨rfl, rfl, rfl, by decide +kernel, rfl, by decide +kernel, by decide +kernel⟩
abbrev s_list_parting : Stmt := topS 21
abbrev N_list_parting : List Str := ["first", "second", "sizes", "size"]
theorem sc_list_parting : FnScope N_list_parting ["first", "second"] (defScope s_list_parting) := ⟨rfl, rfl, rfl, by decide +kernel, rfl, by decide +kernel, by decide +kernel⟩
abbrev s_LiveBook__change_to : Stmt := HS.inS (topS 20) 11
abbrev N_LiveBook__change_to : List Str := ["self", "lengths"]
theorem sc_LiveBook__change_to : FnScope N_LiveBook__change_to ["self", "lengths"] (defScope s_LiveBook__change_to) := ⟨rfl, rfl, rfl, by decide +kernel, rfl, by decide +kernel, by decide +kernel⟩
abbrev s_LiveBook___init__ : Stmt := HS.inS (topS 20) 0
abbrev N_LiveBook___init__ : List Str := ["self", "book"]
theorem sc_LiveBook___init__ : FnScope N_LiveBook___init__ ["self", "book"] (defScope s_LiveBook___init__) := ⟨rfl, rfl, rfl, by decide +kernel, rfl, by decide +kernel, by decide +kernel⟩
abbrev s_LiveBook_add : Stmt := HS.inS (topS 20) 5
abbrev N_LiveBook_add : List Str := ["self", "lengths"]
theorem sc_LiveBook_add : FnScope N_LiveBook_add ["self", "lengths"] (defScope s_LiveBook_add) := ⟨rfl, rfl, rfl, by decide +kernel, rfl, by decide +kernel, by decide +kernel⟩
abbrev s_LiveBook_book : Stmt := HS.inS (topS 20) 2
abbrev N_LiveBook_book : List Str := ["self"]
theorem sc_LiveBook_book : FnScope N_LiveBook_book ["self"] (defScope s_LiveBook_book) := ⟨rfl, rfl, rfl, by decide +kernel, rfl, by decide +kernel, by decide +kernel⟩
abbrev s_LiveBook_chapters : Stmt := HS.inS (topS 20) 3
abbrev N_LiveBook_chapters : List Str := ["self"]
theorem sc_LiveBook_chapters : FnScope N_LiveBook_chapters ["self"] (defScope s_LiveBook_chapters) := ⟨rfl, rfl, rfl, by decide +kernel, rfl, by decide +kernel, by decide +kernel⟩
abbrev s_LiveBook_lines : Stmt := HS.inS (topS 20) 4
abbrev N_LiveBook_lines : List Str := ["self"]
theorem sc_LiveBook_lines : FnScope N_LiveBook_lines ["self"] (defScope s_LiveBook_lines) := ⟨rfl, rfl, rfl, by decide +kernel, rfl, by decide +kernel, by decide +kernel⟩
abbrev s_LiveBook_undo : Stmt := HS.inS (topS 20) 8
abbrev N_LiveBook_undo : List Str := ["self"]
theorem sc_LiveBook_undo : FnScope N_LiveBook_undo ["self"] (defScope s_LiveBook_undo) := ⟨rfl, rfl, rfl, by decide +kernel, rfl, by decide +kernel, by decide +kernel⟩
abbrev s_LiveBook_split : Stmt := HS.inS (topS 20) 6
abbrev N_LiveBook_split : List Str := ["self", "chapter", "line", "length", "parts"]
theorem sc_LiveBook_split : FnScope N_LiveBook_split ["self", "chapter", "line"] (defScope s_LiveBook_split) := ⟨rfl, rfl, rfl, by decide +kernel, rfl, by decide +kernel, by decide +kernel⟩
abbrev s_LiveBook_join : Stmt := HS.inS (topS 20) 7
abbrev N_LiveBook_join : List Str := ["self", "chapter", "first", "second"]
theorem sc_LiveBook_join : FnScope N_LiveBook_join ["self", "chapter"] (defScope s_LiveBook_join) := ⟨rfl, rfl, rfl, by decide +kernel, rfl, by decide +kernel, by decide +kernel⟩
abbrev s_LiveBook_titles : Stmt := HS.inS (topS 20) 9
abbrev N_LiveBook_titles : List Str := ["self", "size", "page", "length"]
theorem sc_LiveBook_titles : GScope N_LiveBook_titles ["self", "size"] (defScope s_LiveBook_titles) := ⟨rfl, rfl, rfl, by decide +kernel, rfl, by decide +kernel, by decide +kernel⟩
abbrev s_count_pages : Stmt := topS 14
abbrev N_count_pages : List Str := ["book", "size", "length"]
theorem sc_count_pages : FnScope N_count_pages ["book", "size"] (defScope s_count_pages) := ⟨rfl, rfl, rfl, by decide +kernel, rfl, by decide +kernel, by decide +kernel⟩
abbrev s_lengths_of : Stmt := topS 17
abbrev N_lengths_of : List Str := ["table", "chapters", "lengths", "size", "others", "found"]
theorem sc_lengths_of : FnScope N_lengths_of ["table"] (defScope s_lengths_of) := ⟨rfl, rfl, rfl, by decide +kernel, rfl, by decide +kernel, by decide +kernel⟩
abbrev s_LiveBook_from_table : Stmt := HS.inS (topS 20) 10
abbrev N_LiveBook_from_table : List Str := ["cls", "table"]
theorem sc_LiveBook_from_table : FnScope N_LiveBook_from_table ["cls", "table"] (defScope s_LiveBook_from_table) := ⟨rfl, rfl, rfl, by decide +kernel, rfl, by decide +kernel, by decide +kernel⟩
abbrev s__law_pool : Stmt := topS 23
abbrev N__law_pool : List Str := ["script", "at", "cell"]
theorem sc__law_pool : FnScope N__law_pool ["script", "at"] (defScope s__law_pool) := ⟨rfl, rfl, rfl, by decide +kernel, rfl, by decide +kernel, by decide +kernel⟩
abbrev s__law_draw : Stmt := topS 24
abbrev N__law_draw : List Str := ["pool", "many", "drawn", "mixed"]
theorem sc__law_draw : FnScope N__law_draw ["pool", "many"] (defScope s__law_draw) := ⟨rfl, rfl, rfl, by decide +kernel, rfl, by decide +kernel, by decide +kernel⟩
abbrev s__law_length : Stmt := topS 25
abbrev N__law_length : List Str := ["pool", "far"]
theorem sc__law_length : FnScope N__law_length ["pool", "far"] (defScope s__law_length) := ⟨rfl, rfl, rfl, by decide +kernel, rfl, by decide +kernel, by decide +kernel⟩
abbrev s__law_book : Stmt := topS 26
abbrev N__law_book : List Str := ["pool", "most", "far", "found", "turn"]
theorem sc__law_book : FnScope N__law_book ["pool", "most", "far"] (defScope s__law_book) := ⟨rfl, rfl, rfl, by decide +kernel, rfl, by decide +kernel, by decide +kernel⟩
abbrev s__law_pages : Stmt := topS 27
abbrev N__law_pages : List Str := ["lengths", "lines_here", "one"]
theorem sc__law_pages : FnScope N__law_pages ["lengths", "lines_here"] (defScope s__law_pages) := ⟨rfl, rfl, rfl, by decide +kernel, rfl, by decide +kernel, by decide +kernel⟩
abbrev s__law_kind : Stmt := topS 28
abbrev N__law_kind : List Str := ["caught", "some"]
theorem sc__law_kind : FnScope N__law_kind ["caught"] (defScope s__law_kind) := ⟨rfl, rfl, rfl, by decide +kernel, rfl, by decide +kernel, by decide +kernel⟩
abbrev s__law_added : Stmt := topS 31
abbrev N__law_added : List Str := ["live", "some"]
theorem sc__law_added : FnScope N__law_added ["live", "some"] (defScope s__law_added) := ⟨rfl, rfl, rfl, by decide +kernel, rfl, by decide +kernel, by decide +kernel⟩
abbrev s__law_told_right : Stmt := topS 30
abbrev N__law_told_right : List Str := ["live", "lengths", "lines_here", "starts", "page", "one"]
theorem sc__law_told_right : FnScope N__law_told_right ["live", "lengths", "lines_here"] (defScope s__law_told_right) := ⟨rfl, rfl, rfl, by decide +kernel, rfl, by decide +kernel, by decide +kernel⟩
abbrev s__law_out : Stmt := topS 35
abbrev N__law_out : List Str := ["pool", "most"]
theorem sc__law_out : FnScope N__law_out ["pool", "most"] (defScope s__law_out) := ⟨rfl, rfl, rfl, by decide +kernel, rfl, by decide +kernel, by decide +kernel⟩
abbrev s__law_bad_book : Stmt := topS 29
abbrev N__law_bad_book : List Str := ["pool", "lengths", "found", "turn", "one", "at"]
theorem sc__law_bad_book : FnScope N__law_bad_book ["pool", "lengths"] (defScope s__law_bad_book) := ⟨rfl, rfl, rfl, by decide +kernel, rfl, by decide +kernel, by decide +kernel⟩
abbrev s__law_called : Stmt := topS 32
abbrev N__law_called : List Str := ["live", "call", "some", "caught", "e"]
theorem sc__law_called : FnScope N__law_called ["live", "call", "some"] (defScope s__law_called) := ⟨rfl, rfl, rfl, by decide +kernel, rfl, by decide +kernel, by decide +kernel⟩
abbrev s__law_made : Stmt := topS 33
abbrev N__law_made : List Str := ["lengths", "by_table", "caught", "e"]
theorem sc__law_made : FnScope N__law_made ["lengths", "by_table"] (defScope s__law_made) := ⟨rfl, rfl, rfl, by decide +kernel, rfl, by decide +kernel, by decide +kernel⟩
abbrev s__law_titles : Stmt := topS 34
abbrev N__law_titles : List Str := ["live", "lines_here", "caught", "page", "e"]
theorem sc__law_titles : FnScope N__law_titles ["live", "lines_here"] (defScope s__law_titles) := ⟨rfl, rfl, rfl, by decide +kernel, rfl, by decide +kernel, by decide +kernel⟩
abbrev s__law_right : Stmt := topS 36
abbrev N__law_right : List Str := ["pool", "lengths", "bad", "wrong", "live", "turn", "many", "some", "out", "last", "at", "low", "number"]
theorem sc__law_right : FnScope N__law_right ["pool"] (defScope s__law_right) := ⟨rfl, rfl, rfl, by decide +kernel, rfl, by decide +kernel, by decide +kernel⟩
abbrev s_law : Stmt := topS 37
abbrev N_law : List Str := ["script", "at", "pool", "turn", "live", "caught", "e", "told"]
theorem sc_law : FnScope N_law ["script"] (defScope s_law) := ⟨rfl, rfl, rfl, by decide +kernel, rfl, by decide +kernel, by decide +kernel⟩
structure Ad where
  a_InvalidBook___init__ : Addr
  d_InvalidBook___init__ : FuncData
  a_InvalidSize___init__ : Addr
  d_InvalidSize___init__ : FuncData
  a_InvalidTable___init__ : Addr
  d_InvalidTable___init__ : FuncData
  a_InvalidNumber___init__ : Addr
  d_InvalidNumber___init__ : FuncData
  a_NothingToUndo___init__ : Addr
  d_NothingToUndo___init__ : FuncData
  a_check_book : Addr
  d_check_book : FuncData
  a_check_size : Addr
  d_check_size : FuncData
  a_check_number : Addr
  d_check_number : FuncData
  a_chapter_pages : Addr
  d_chapter_pages : FuncData
  a_list_parting : Addr
  d_list_parting : FuncData
  a_LiveBook__change_to : Addr
  d_LiveBook__change_to : FuncData
  a_LiveBook___init__ : Addr
  d_LiveBook___init__ : FuncData
  a_LiveBook_add : Addr
  d_LiveBook_add : FuncData
  a_LiveBook_book : Addr
  d_LiveBook_book : FuncData
  a_LiveBook_chapters : Addr
  d_LiveBook_chapters : FuncData
  a_LiveBook_lines : Addr
  d_LiveBook_lines : FuncData
  a_LiveBook_undo : Addr
  d_LiveBook_undo : FuncData
  a_LiveBook_split : Addr
  d_LiveBook_split : FuncData
  a_LiveBook_join : Addr
  d_LiveBook_join : FuncData
  a_LiveBook_titles : Addr
  d_LiveBook_titles : FuncData
  a_count_pages : Addr
  d_count_pages : FuncData
  a_lengths_of : Addr
  d_lengths_of : FuncData
  a_LiveBook_from_table : Addr
  d_LiveBook_from_table : FuncData
  a__law_pool : Addr
  d__law_pool : FuncData
  a__law_draw : Addr
  d__law_draw : FuncData
  a__law_length : Addr
  d__law_length : FuncData
  a__law_book : Addr
  d__law_book : FuncData
  a__law_pages : Addr
  d__law_pages : FuncData
  a__law_kind : Addr
  d__law_kind : FuncData
  a__law_added : Addr
  d__law_added : FuncData
  a__law_told_right : Addr
  d__law_told_right : FuncData
  a__law_out : Addr
  d__law_out : FuncData
  a__law_bad_book : Addr
  d__law_bad_book : FuncData
  a__law_called : Addr
  d__law_called : FuncData
  a__law_made : Addr
  d__law_made : FuncData
  a__law_titles : Addr
  d__law_titles : FuncData
  a__law_right : Addr
  d__law_right : FuncData
  a_law : Addr
  d_law : FuncData
  c_BookError : Addr
  c_InvalidBook : Addr
  c_InvalidSize : Addr
  c_InvalidTable : Addr
  c_InvalidChain : Addr
  c_InvalidNumber : Addr
  c_NothingToUndo : Addr
  c_Unreadable : Addr
  c_LiveBook : Addr
  p_LiveBook_book : Addr
  p_LiveBook_chapters : Addr
  p_LiveBook_lines : Addr
  p_LiveBook_from_table : Addr
structure Txt (K : PySem.W.Frag) (mg : Str → Option Value) (A : Ad) : Prop where
  F_InvalidBook___init__ : Fun K "__init__" "InvalidBook.__init__" s_InvalidBook___init__ A.a_InvalidBook___init__ A.d_InvalidBook___init__
  b_InvalidBook___init__ : Binds K A.d_InvalidBook___init__ ["self", "value"] []
  F_InvalidSize___init__ : Fun K "__init__" "InvalidSize.__init__" s_InvalidSize___init__ A.a_InvalidSize___init__ A.d_InvalidSize___init__
  b_InvalidSize___init__ : Binds K A.d_InvalidSize___init__ ["self", "value"] []
  F_InvalidTable___init__ : Fun K "__init__" "InvalidTable.__init__" s_InvalidTable___init__ A.a_InvalidTable___init__ A.d_InvalidTable___init__
  b_InvalidTable___init__ : Binds K A.d_InvalidTable___init__ ["self", "value"] []
  F_InvalidNumber___init__ : Fun K "__init__" "InvalidNumber.__init__" s_InvalidNumber___init__ A.a_InvalidNumber___init__ A.d_InvalidNumber___init__
  b_InvalidNumber___init__ : Binds K A.d_InvalidNumber___init__ ["self", "value"] []
  F_NothingToUndo___init__ : Fun K "__init__" "NothingToUndo.__init__" s_NothingToUndo___init__ A.a_NothingToUndo___init__ A.d_NothingToUndo___init__
  b_NothingToUndo___init__ : Binds K A.d_NothingToUndo___init__ ["self", "value"] []
  F_check_book : Fun K "check_book" "check_book" s_check_book A.a_check_book A.d_check_book
  g_check_book : mg "check_book" = some (.ref A.a_check_book)
  b_check_book : Binds K A.d_check_book ["book"] []
  F_check_size : Fun K "check_size" "check_size" s_check_size A.a_check_size A.d_check_size
  g_check_size : mg "check_size" = some (.ref A.a_check_size)
  b_check_size : Binds K A.d_check_size ["size"] []
  F_check_number : Fun K "check_number" "check_number" s_check_number A.a_check_number A.d_check_number
  g_check_number : mg "check_number" = some (.ref A.a_check_number)
  b_check_number : Binds K A.d_check_number ["number", "least", "greatest"] []
  F_chapter_pages : Fun K "chapter_pages" "chapter_pages" s_chapter_pages A.a_chapter_pages A.d_chapter_pages
  g_chapter_pages : mg "chapter_pages" = some (.ref A.a_chapter_pages)
  b_chapter_pages : Binds K A.d_chapter_pages ["length", "size"] []
  F_list_parting : Fun K "list_parting" "list_parting" s_list_parting A.a_list_parting A.d_list_parting
  g_list_parting : mg "list_parting" = some (.ref A.a_list_parting)
  b_list_parting : Binds K A.d_list_parting ["first", "second"] []
  F_LiveBook__change_to : Fun K "_change_to" "LiveBook._change_to" s_LiveBook__change_to A.a_LiveBook__change_to A.d_LiveBook__change_to
  b_LiveBook__change_to : Binds K A.d_LiveBook__change_to ["self", "lengths"] []
  F_LiveBook___init__ : Fun K "__init__" "LiveBook.__init__" s_LiveBook___init__ A.a_LiveBook___init__ A.d_LiveBook___init__
  b_LiveBook___init__ : Binds K A.d_LiveBook___init__ ["self", "book"] []
  F_LiveBook_add : Fun K "add" "LiveBook.add" s_LiveBook_add A.a_LiveBook_add A.d_LiveBook_add
  bs_LiveBook_add : ∀ us rest : List Value, us.length = 1 → bindArgs A.d_LiveBook_add ⟨us ++ rest, []⟩ = (newTuple rest >>= fun t => pure ((["self"] : List Str).zip us ++ [(("lengths" : Str), t)]))
  F_LiveBook_book : Fun K "book" "LiveBook.book" s_LiveBook_book A.a_LiveBook_book A.d_LiveBook_book
  b_LiveBook_book : Binds K A.d_LiveBook_book ["self"] []
  F_LiveBook_chapters : Fun K "chapters" "LiveBook.chapters" s_LiveBook_chapters A.a_LiveBook_chapters A.d_LiveBook_chapters
  b_LiveBook_chapters : Binds K A.d_LiveBook_chapters ["self"] []
  F_LiveBook_lines : Fun K "lines" "LiveBook.lines" s_LiveBook_lines A.a_LiveBook_lines A.d_LiveBook_lines
  b_LiveBook_lines : Binds K A.d_LiveBook_lines ["self"] []
  F_LiveBook_undo : Fun K "undo" "LiveBook.undo" s_LiveBook_undo A.a_LiveBook_undo A.d_LiveBook_undo
  b_LiveBook_undo : Binds K A.d_LiveBook_undo ["self"] []
  F_LiveBook_split : Fun K "split" "LiveBook.split" s_LiveBook_split A.a_LiveBook_split A.d_LiveBook_split
  b_LiveBook_split : Binds K A.d_LiveBook_split ["self", "chapter", "line"] []
  F_LiveBook_join : Fun K "join" "LiveBook.join" s_LiveBook_join A.a_LiveBook_join A.d_LiveBook_join
  b_LiveBook_join : Binds K A.d_LiveBook_join ["self", "chapter"] []
  F_LiveBook_titles : Fun K "titles" "LiveBook.titles" s_LiveBook_titles A.a_LiveBook_titles A.d_LiveBook_titles
  b_LiveBook_titles : Binds K A.d_LiveBook_titles ["self", "size"] []
  F_count_pages : Fun K "count_pages" "count_pages" s_count_pages A.a_count_pages A.d_count_pages
  g_count_pages : mg "count_pages" = some (.ref A.a_count_pages)
  b_count_pages : Binds K A.d_count_pages ["book", "size"] []
  F_lengths_of : Fun K "lengths_of" "lengths_of" s_lengths_of A.a_lengths_of A.d_lengths_of
  g_lengths_of : mg "lengths_of" = some (.ref A.a_lengths_of)
  b_lengths_of : Binds K A.d_lengths_of ["table"] []
  F_LiveBook_from_table : Fun K "from_table" "LiveBook.from_table" s_LiveBook_from_table A.a_LiveBook_from_table A.d_LiveBook_from_table
  b_LiveBook_from_table : Binds K A.d_LiveBook_from_table ["cls", "table"] []
  F__law_pool : Fun K "_law_pool" "_law_pool" s__law_pool A.a__law_pool A.d__law_pool
  g__law_pool : mg "_law_pool" = some (.ref A.a__law_pool)
  b__law_pool : Binds K A.d__law_pool ["script", "at"] []
  F__law_draw : Fun K "_law_draw" "_law_draw" s__law_draw A.a__law_draw A.d__law_draw
  g__law_draw : mg "_law_draw" = some (.ref A.a__law_draw)
  b__law_draw : Binds K A.d__law_draw ["pool", "many"] []
  F__law_length : Fun K "_law_length" "_law_length" s__law_length A.a__law_length A.d__law_length
  g__law_length : mg "_law_length" = some (.ref A.a__law_length)
  b__law_length : Binds K A.d__law_length ["pool", "far"] []
  F__law_book : Fun K "_law_book" "_law_book" s__law_book A.a__law_book A.d__law_book
  g__law_book : mg "_law_book" = some (.ref A.a__law_book)
  b__law_book : Binds K A.d__law_book ["pool", "most", "far"] []
  F__law_pages : Fun K "_law_pages" "_law_pages" s__law_pages A.a__law_pages A.d__law_pages
  g__law_pages : mg "_law_pages" = some (.ref A.a__law_pages)
  b__law_pages : Binds K A.d__law_pages ["lengths", "lines_here"] []
  F__law_kind : Fun K "_law_kind" "_law_kind" s__law_kind A.a__law_kind A.d__law_kind
  g__law_kind : mg "_law_kind" = some (.ref A.a__law_kind)
  b__law_kind : Binds K A.d__law_kind ["caught"] []
  F__law_added : Fun K "_law_added" "_law_added" s__law_added A.a__law_added A.d__law_added
  g__law_added : mg "_law_added" = some (.ref A.a__law_added)
  b__law_added : Binds K A.d__law_added ["live", "some"] []
  F__law_told_right : Fun K "_law_told_right" "_law_told_right" s__law_told_right A.a__law_told_right A.d__law_told_right
  g__law_told_right : mg "_law_told_right" = some (.ref A.a__law_told_right)
  b__law_told_right : Binds K A.d__law_told_right ["live", "lengths", "lines_here"] []
  F__law_out : Fun K "_law_out" "_law_out" s__law_out A.a__law_out A.d__law_out
  g__law_out : mg "_law_out" = some (.ref A.a__law_out)
  b__law_out : Binds K A.d__law_out ["pool", "most"] []
  F__law_bad_book : Fun K "_law_bad_book" "_law_bad_book" s__law_bad_book A.a__law_bad_book A.d__law_bad_book
  g__law_bad_book : mg "_law_bad_book" = some (.ref A.a__law_bad_book)
  b__law_bad_book : Binds K A.d__law_bad_book ["pool", "lengths"] []
  F__law_called : Fun K "_law_called" "_law_called" s__law_called A.a__law_called A.d__law_called
  g__law_called : mg "_law_called" = some (.ref A.a__law_called)
  b__law_called : Binds K A.d__law_called ["live", "call", "some"] []
  F__law_made : Fun K "_law_made" "_law_made" s__law_made A.a__law_made A.d__law_made
  g__law_made : mg "_law_made" = some (.ref A.a__law_made)
  b__law_made : Binds K A.d__law_made ["lengths", "by_table"] []
  F__law_titles : Fun K "_law_titles" "_law_titles" s__law_titles A.a__law_titles A.d__law_titles
  g__law_titles : mg "_law_titles" = some (.ref A.a__law_titles)
  b__law_titles : Binds K A.d__law_titles ["live", "lines_here"] []
  F__law_right : Fun K "_law_right" "_law_right" s__law_right A.a__law_right A.d__law_right
  g__law_right : mg "_law_right" = some (.ref A.a__law_right)
  b__law_right : Binds K A.d__law_right ["pool"] []
  F_law : Fun K "law" "law" s_law A.a_law A.d_law
  g_law : mg "law" = some (.ref A.a_law)
  b_law : Binds K A.d_law ["script"] []
  z_ValueError : mg "ValueError" = none
  z_abs : mg "abs" = none
  z_enumerate : mg "enumerate" = none
  z_isinstance : mg "isinstance" = none
  z_len : mg "len" = none
  z_list : mg "list" = none
  z_max : mg "max" = none
  z_min : mg "min" = none
  z_range : mg "range" = none
  z_sum : mg "sum" = none
  kb_LiveBook_titles_1_size : HS.KBX K A.d_LiveBook_titles ["self", "size"] 1 ["size"] (fun us ws => [us.getD 0 .none, ws.getD 0 .none]) (fun vs zs => [vs.getD 0 .non, zs.getD 0 .non])
  m_BookError : mg "BookError" = some (.ref A.c_BookError)
  m_InvalidBook : mg "InvalidBook" = some (.ref A.c_InvalidBook)
  m_InvalidSize : mg "InvalidSize" = some (.ref A.c_InvalidSize)
  m_InvalidTable : mg "InvalidTable" = some (.ref A.c_InvalidTable)
  m_InvalidChain : mg "InvalidChain" = some (.ref A.c_InvalidChain)
  m_InvalidNumber : mg "InvalidNumber" = some (.ref A.c_InvalidNumber)
  m_NothingToUndo : mg "NothingToUndo" = some (.ref A.c_NothingToUndo)
  m_Unreadable : mg "Unreadable" = some (.ref A.c_Unreadable)
  m_LiveBook : mg "LiveBook" = some (.ref A.c_LiveBook)
  C_LiveBook : Cls K A.c_LiveBook
  n_LiveBook__lengths : NoAttr K A.c_LiveBook "_lengths"
  n_LiveBook__past : NoAttr K A.c_LiveBook "_past"
  D_LiveBook : ClX.CRead K A.c_LiveBook (.type "type")
  M_LiveBook__change_to : Meth K A.c_LiveBook "_change_to" A.a_LiveBook__change_to
  K_LiveBook : Mk K A.c_LiveBook A.a_LiveBook___init__
  M_LiveBook_add : Meth K A.c_LiveBook "add" A.a_LiveBook_add
  P_LiveBook_book : PropOf K A.c_LiveBook "book" A.p_LiveBook_book A.a_LiveBook_book
  P_LiveBook_chapters : PropOf K A.c_LiveBook "chapters" A.p_LiveBook_chapters A.a_LiveBook_chapters
  P_LiveBook_lines : PropOf K A.c_LiveBook "lines" A.p_LiveBook_lines A.a_LiveBook_lines
  M_LiveBook_undo : Meth K A.c_LiveBook "undo" A.a_LiveBook_undo
  M_LiveBook_split : Meth K A.c_LiveBook "split" A.a_LiveBook_split
  M_LiveBook_join : Meth K A.c_LiveBook "join" A.a_LiveBook_join
  M_LiveBook_titles : Meth K A.c_LiveBook "titles" A.a_LiveBook_titles
  W_LiveBook_from_table : ClX.CMet K A.c_LiveBook (.type "type") "from_table" A.p_LiveBook_from_table A.a_LiveBook_from_table
  v_GREATEST_TOLD : ∃ t : PySem.Tok, mg "GREATEST_TOLD" = some (.int 100 t)
  C_InvalidBook : OexC K A.c_InvalidBook
  V_InvalidBook : ExcC K A.c_InvalidBook
  X_InvalidBook : XfC K A.c_InvalidBook
  n_InvalidBook : PySem.W.findIn K (.ref A.c_InvalidBook) "value" = some none
  i_InvalidBook : PySem.W.findIn K (.ref A.c_InvalidBook) "__init__" = some (some (.ref A.a_InvalidBook___init__))
  t_InvalidBook : PySem.W.typeIn K (.ref A.a_InvalidBook___init__) = some (.type "function")
  k_InvalidBook : KBn K A.d_InvalidBook___init__ ["self", "value"] 1 ["value"] (fun us ws => us ++ ws) (fun vs zs => vs ++ zs)
  q_InvalidBook_BookError : PySem.W.kitOne K (.ref A.c_InvalidBook) (.ref A.c_BookError) = some true
  q_InvalidBook_InvalidBook : PySem.W.kitOne K (.ref A.c_InvalidBook) (.ref A.c_InvalidBook) = some true
  q_InvalidBook_InvalidSize : PySem.W.kitOne K (.ref A.c_InvalidBook) (.ref A.c_InvalidSize) = some false
  q_InvalidBook_InvalidTable : PySem.W.kitOne K (.ref A.c_InvalidBook) (.ref A.c_InvalidTable) = some false
  q_InvalidBook_InvalidChain : PySem.W.kitOne K (.ref A.c_InvalidBook) (.ref A.c_InvalidChain) = some false
  q_InvalidBook_InvalidNumber : PySem.W.kitOne K (.ref A.c_InvalidBook) (.ref A.c_InvalidNumber) = some false
  q_InvalidBook_NothingToUndo : PySem.W.kitOne K (.ref A.c_InvalidBook) (.ref A.c_NothingToUndo) = some false
  q_InvalidBook_Unreadable : PySem.W.kitOne K (.ref A.c_InvalidBook) (.ref A.c_Unreadable) = some false
  q_InvalidBook_ValueError : PySem.W.kitOne K (.ref A.c_InvalidBook) (.type "ValueError") = some true
  C_InvalidSize : OexC K A.c_InvalidSize
  V_InvalidSize : ExcC K A.c_InvalidSize
  X_InvalidSize : XfC K A.c_InvalidSize
  n_InvalidSize : PySem.W.findIn K (.ref A.c_InvalidSize) "value" = some none
  i_InvalidSize : PySem.W.findIn K (.ref A.c_InvalidSize) "__init__" = some (some (.ref A.a_InvalidSize___init__))
  t_InvalidSize : PySem.W.typeIn K (.ref A.a_InvalidSize___init__) = some (.type "function")
  k_InvalidSize : KBn K A.d_InvalidSize___init__ ["self", "value"] 1 ["value"] (fun us ws => us ++ ws) (fun vs zs => vs ++ zs)
  q_InvalidSize_BookError : PySem.W.kitOne K (.ref A.c_InvalidSize) (.ref A.c_BookError) = some true
  q_InvalidSize_InvalidBook : PySem.W.kitOne K (.ref A.c_InvalidSize) (.ref A.c_InvalidBook) = some false
  q_InvalidSize_InvalidSize : PySem.W.kitOne K (.ref A.c_InvalidSize) (.ref A.c_InvalidSize) = some true
  q_InvalidSize_InvalidTable : PySem.W.kitOne K (.ref A.c_InvalidSize) (.ref A.c_InvalidTable) = some false
  q_InvalidSize_InvalidChain : PySem.W.kitOne K (.ref A.c_InvalidSize) (.ref A.c_InvalidChain) = some false
  q_InvalidSize_InvalidNumber : PySem.W.kitOne K (.ref A.c_InvalidSize) (.ref A.c_InvalidNumber) = some false
  q_InvalidSize_NothingToUndo : PySem.W.kitOne K (.ref A.c_InvalidSize) (.ref A.c_NothingToUndo) = some false
  q_InvalidSize_Unreadable : PySem.W.kitOne K (.ref A.c_InvalidSize) (.ref A.c_Unreadable) = some false
  q_InvalidSize_ValueError : PySem.W.kitOne K (.ref A.c_InvalidSize) (.type "ValueError") = some true
  C_InvalidTable : OexC K A.c_InvalidTable
  V_InvalidTable : ExcC K A.c_InvalidTable
  X_InvalidTable : XfC K A.c_InvalidTable
  n_InvalidTable : PySem.W.findIn K (.ref A.c_InvalidTable) "value" = some none
  i_InvalidTable : PySem.W.findIn K (.ref A.c_InvalidTable) "__init__" = some (some (.ref A.a_InvalidTable___init__))
  t_InvalidTable : PySem.W.typeIn K (.ref A.a_InvalidTable___init__) = some (.type "function")
  k_InvalidTable : KBn K A.d_InvalidTable___init__ ["self", "value"] 1 ["value"] (fun us ws => us ++ ws) (fun vs zs => vs ++ zs)
  q_InvalidTable_BookError : PySem.W.kitOne K (.ref A.c_InvalidTable) (.ref A.c_BookError) = some true
  q_InvalidTable_InvalidBook : PySem.W.kitOne K (.ref A.c_InvalidTable) (.ref A.c_InvalidBook) = some false
  q_InvalidTable_InvalidSize : PySem.W.kitOne K (.ref A.c_InvalidTable) (.ref A.c_InvalidSize) = some false
  q_InvalidTable_InvalidTable : PySem.W.kitOne K (.ref A.c_InvalidTable) (.ref A.c_InvalidTable) = some true
  q_InvalidTable_InvalidChain : PySem.W.kitOne K (.ref A.c_InvalidTable) (.ref A.c_InvalidChain) = some false
  q_InvalidTable_InvalidNumber : PySem.W.kitOne K (.ref A.c_InvalidTable) (.ref A.c_InvalidNumber) = some false
  q_InvalidTable_NothingToUndo : PySem.W.kitOne K (.ref A.c_InvalidTable) (.ref A.c_NothingToUndo) = some false
  q_InvalidTable_Unreadable : PySem.W.kitOne K (.ref A.c_InvalidTable) (.ref A.c_Unreadable) = some false
  q_InvalidTable_ValueError : PySem.W.kitOne K (.ref A.c_InvalidTable) (.type "ValueError") = some true
  C_InvalidNumber : OexC K A.c_InvalidNumber
  V_InvalidNumber : ExcC K A.c_InvalidNumber
  X_InvalidNumber : XfC K A.c_InvalidNumber
  n_InvalidNumber : PySem.W.findIn K (.ref A.c_InvalidNumber) "value" = some none
  i_InvalidNumber : PySem.W.findIn K (.ref A.c_InvalidNumber) "__init__" = some (some (.ref A.a_InvalidNumber___init__))
  t_InvalidNumber : PySem.W.typeIn K (.ref A.a_InvalidNumber___init__) = some (.type "function")
  k_InvalidNumber : KBn K A.d_InvalidNumber___init__ ["self", "value"] 1 ["value"] (fun us ws => us ++ ws) (fun vs zs => vs ++ zs)
  q_InvalidNumber_BookError : PySem.W.kitOne K (.ref A.c_InvalidNumber) (.ref A.c_BookError) = some true
  q_InvalidNumber_InvalidBook : PySem.W.kitOne K (.ref A.c_InvalidNumber) (.ref A.c_InvalidBook) = some false
  q_InvalidNumber_InvalidSize : PySem.W.kitOne K (.ref A.c_InvalidNumber) (.ref A.c_InvalidSize) = some false
  q_InvalidNumber_InvalidTable : PySem.W.kitOne K (.ref A.c_InvalidNumber) (.ref A.c_InvalidTable) = some false
  q_InvalidNumber_InvalidChain : PySem.W.kitOne K (.ref A.c_InvalidNumber) (.ref A.c_InvalidChain) = some false
  q_InvalidNumber_InvalidNumber : PySem.W.kitOne K (.ref A.c_InvalidNumber) (.ref A.c_InvalidNumber) = some true
  q_InvalidNumber_NothingToUndo : PySem.W.kitOne K (.ref A.c_InvalidNumber) (.ref A.c_NothingToUndo) = some false
  q_InvalidNumber_Unreadable : PySem.W.kitOne K (.ref A.c_InvalidNumber) (.ref A.c_Unreadable) = some false
  q_InvalidNumber_ValueError : PySem.W.kitOne K (.ref A.c_InvalidNumber) (.type "ValueError") = some true
  C_NothingToUndo : OexC K A.c_NothingToUndo
  V_NothingToUndo : ExcC K A.c_NothingToUndo
  X_NothingToUndo : XfC K A.c_NothingToUndo
  n_NothingToUndo : PySem.W.findIn K (.ref A.c_NothingToUndo) "value" = some none
  i_NothingToUndo : PySem.W.findIn K (.ref A.c_NothingToUndo) "__init__" = some (some (.ref A.a_NothingToUndo___init__))
  t_NothingToUndo : PySem.W.typeIn K (.ref A.a_NothingToUndo___init__) = some (.type "function")
  k_NothingToUndo : KBn K A.d_NothingToUndo___init__ ["self", "value"] 1 ["value"] (fun us ws => us ++ ws) (fun vs zs => vs ++ zs)
  q_NothingToUndo_BookError : PySem.W.kitOne K (.ref A.c_NothingToUndo) (.ref A.c_BookError) = some true
  q_NothingToUndo_InvalidBook : PySem.W.kitOne K (.ref A.c_NothingToUndo) (.ref A.c_InvalidBook) = some false
  q_NothingToUndo_InvalidSize : PySem.W.kitOne K (.ref A.c_NothingToUndo) (.ref A.c_InvalidSize) = some false
  q_NothingToUndo_InvalidTable : PySem.W.kitOne K (.ref A.c_NothingToUndo) (.ref A.c_InvalidTable) = some false
  q_NothingToUndo_InvalidChain : PySem.W.kitOne K (.ref A.c_NothingToUndo) (.ref A.c_InvalidChain) = some false
  q_NothingToUndo_InvalidNumber : PySem.W.kitOne K (.ref A.c_NothingToUndo) (.ref A.c_InvalidNumber) = some false
  q_NothingToUndo_NothingToUndo : PySem.W.kitOne K (.ref A.c_NothingToUndo) (.ref A.c_NothingToUndo) = some true
  q_NothingToUndo_Unreadable : PySem.W.kitOne K (.ref A.c_NothingToUndo) (.ref A.c_Unreadable) = some false
  q_NothingToUndo_ValueError : PySem.W.kitOne K (.ref A.c_NothingToUndo) (.type "ValueError") = some true
  e_InvalidBook_BookError : PySem.W.exmOne K (.ref A.c_InvalidBook) (.ref A.c_BookError) = some true
  e_InvalidSize_BookError : PySem.W.exmOne K (.ref A.c_InvalidSize) (.ref A.c_BookError) = some true
  e_InvalidTable_BookError : PySem.W.exmOne K (.ref A.c_InvalidTable) (.ref A.c_BookError) = some true
  e_InvalidNumber_BookError : PySem.W.exmOne K (.ref A.c_InvalidNumber) (.ref A.c_BookError) = some true
  e_NothingToUndo_BookError : PySem.W.exmOne K (.ref A.c_NothingToUndo) (.ref A.c_BookError) = some true
  s_InvalidSize : PySem.W.subIn K (.ref A.c_InvalidSize) (.type "StopIteration") = some false
/-- an exception of this class with this value is taken -/
def ErrIs (E : XK) (H : Hp) (c : Addr) (v : Int) : Prop := ∀ H' d, HS.Keep (fun _ => False) H H' → H d = none → H' d = some (.xd [("value", .int v)]) → E (.ref c) (some d) H'
theorem ErrIs.mono {E : XK} {H H1 : Hp} {c : Addr} {v : Int} (K1 : HS.Keep (fun _ => False) H H1) (h : ErrIs E H c v) : ErrIs E H1 c v := fun H' d K2 hd e => h H' d (K1.trans K2) (K1.free hd id) e
/-- what a live book keeps: its lengths at b, its past at p -/
def lf (b p : Addr) : List (Str × V) := [("_lengths", V.ref b), ("_past", V.ref p)]
theorem lf_ne : (("_past" : Str) == "_lengths") = false := by decide +kernel
theorem lf_ne2 : ¬ (("_lengths" : Str) = "_past") := by decide +kernel
theorem lf_lengths (b p : Addr) : (lf b p).lookup ("_lengths" : Str) = some (.ref b) := by
  unfold lf; rw [List.lookup_cons, beq_self_eq_true]
theorem lf_past (b p : Addr) : (lf b p).lookup ("_past" : Str) = some (.ref p) := by
  unfold lf; rw [List.lookup_cons, lf_ne, List.lookup_cons, beq_self_eq_true]
theorem lf_no {b p : Addr} {m : Str} (h1 : (m == "_lengths") = false) (h2 : (m == "_past") = false) : (lf b p).lookup m = none := by
  unfold lf; rw [List.lookup_cons, h1, List.lookup_cons, h2]; rfl
theorem lf_put (b c p : Addr) : putF "_lengths" (.ref c) (lf b p) = lf c p := by
  unfold lf putF
  rw [if_pos rfl]
theorem lf_new (b p : Addr) : putF "_past" (.ref p) (putF "_lengths" (.ref b) []) = lf b p := by
  show (if ("_lengths" : Str) = "_past" then _ else (("_lengths" : Str), V.ref b) :: putF "_past" (V.ref p) []) = _
  rw [if_neg lf_ne2]
  rfl
/-- a live book at o: the object of the class at C, its lengths ls at b, its past, the lists at ps, at p -/
structure LivAt (C : Addr) (H : Hp) (o b p dx : Addr) (ls : List Int) (ps : List Addr) : Prop where
  eo : H o = some (.ins C dx (lf b p))
  eb : H b = some (.lst (ls.map V.int))
  ep : H p = some (.lst (ps.map V.ref))
  bp : b ≠ p
section
variable {C o b p dx q : Addr} {H H' : Hp} {ls : List Int} {ps : List Addr}
theorem LivAt.same (h : LivAt C H o b p dx ls ps) (k : HS.Keep (fun _ => False) H H') : LivAt C H' o b p dx ls ps := ⟨k _ _ h.eo id, k _ _ h.eb id, k _ _ h.ep id, h.bp⟩
theorem LivAt.ob (h : LivAt C H o b p dx ls ps) : b ≠ o := fun e => by have h1 := h.eo; rw [← e, h.eb] at h1; cases h1
theorem LivAt.op (h : LivAt C H o b p dx ls ps) : p ≠ o := fun e => by have h1 := h.eo; rw [← e, h.ep] at h1; cases h1
theorem LivAt.new {u : HO} (h : LivAt C H o b p dx ls ps) (hq : H q = none) : LivAt C (upd H q u) o b p dx ls ps := h.same (.new hq)
end
structure KindOf (K : PySem.W.Frag) (A : Ad) (D : Addr) (c : Nat) : Prop where
  lt : c < 7
  e0 : PySem.W.kitOne K (.ref D) (.ref A.c_InvalidBook) = some (decide (c = 0))
  e1 : PySem.W.kitOne K (.ref D) (.ref A.c_InvalidSize) = some (decide (c = 1))
  e2 : PySem.W.kitOne K (.ref D) (.ref A.c_InvalidTable) = some (decide (c = 2))
  e3 : PySem.W.kitOne K (.ref D) (.ref A.c_InvalidChain) = some (decide (c = 3))
  e4 : PySem.W.kitOne K (.ref D) (.ref A.c_InvalidNumber) = some (decide (c = 4))
  e5 : PySem.W.kitOne K (.ref D) (.ref A.c_NothingToUndo) = some (decide (c = 5))
  e6 : PySem.W.kitOne K (.ref D) (.ref A.c_Unreadable) = some (decide (c = 6))
  eb : PySem.W.kitOne K (.ref D) (.ref A.c_BookError) = some true
  ev : PySem.W.kitOne K (.ref D) (.type "ValueError") = some true
def kword : Nat → Str
  | 0 => "book"
  | 1 => "size"
  | 2 => "table"
  | 3 => "chain"
  | 4 => "number"
  | 5 => "undo"
  | _ => "read"
theorem keep_tro {S : Addr → Prop} {H H1 H' : Hp} {o : Addr} (k : HS.Keep S H H1) (k2 : HS.Keep (fun a => a = o) H1 H') (h : H o = none) : HS.Keep S H H' := fun a u e n => k2 a u (k a u e n) (fun z => by rw [z, h] at e; cases e)
theorem _root_.HS.eqSy {x : Str} {H : Hp} {Q : VK} (q : Q (.bl true) H) : rEq (.str x) (.str x) H Q := ⟨rfl, by rw [decide_eq_true rfl]; exact q⟩
theorem _root_.HS.eqSn {x y : Str} {H : Hp} {Q : VK} (h : x ≠ y) (q : Q (.bl false) H) : rEq (.str x) (.str y) H Q := ⟨rfl, by
  have e : ¬ (V.str x = V.str y) := fun z => h (V.str.inj z)
  rw [decide_eq_false e]; exact q⟩
theorem _root_.HS.Wd.perm {H0 H : Hp} {S : Addr → Prop} {l l' : HS.WdL} (W : HS.Wd H0 H S l) (p : l.Perm l') : HS.Wd H0 H S l' :=
  ⟨(p.map _).nodup_iff.mp W.nd, fun x hx => W.at_ x (p.mem_iff.mpr hx), W.kp, fun x hx => W.fr x (p.mem_iff.mpr hx)⟩
theorem _root_.HS.Wd.add {H0 H : Hp} {S : Addr → Prop} {l : HS.WdL} {p : Addr} {o : HO} {P : HO → Prop} (W : HS.Wd H0 H S l) (h : H p = some o) (z : P o) (n : ∀ x ∈ l, x.1 ≠ p) (f : S p ∨ H0 p = none) : HS.Wd H0 H S (l ++ [(p, P)]) := by
  refine ⟨HS.nd_snoc W.nd n, fun x hx => ?_, W.kp, fun x hx => ?_⟩
  · rcases HS.mem_snoc hx with hx | e
    · exact W.at_ x hx
    · subst e; exact ⟨o, h, z⟩
  · rcases HS.mem_snoc hx with hx | e
    · exact W.fr x hx
    · subst e; exact f
theorem _root_.HS.Wd.root {H0 H : Hp} {S : Addr → Prop} {l : HS.WdL} (W : HS.Wd H0 H S l) : HS.Wd H H (fun a => a ∈ l.map (·.1)) l := ⟨W.nd, W.at_, .refl, fun _ hx => .inl (List.mem_map_of_mem hx)⟩
theorem _root_.HS.Wd.glue {H0 H H' : Hp} {S : Addr → Prop} {l l' : HS.WdL} (W : HS.Wd H0 H S l) (V : HS.Wd H H' (fun a => a ∈ l.map (·.1)) l') : HS.Wd H0 H' S l' := by
  have f : ∀ a, a ∈ l.map (·.1) → S a ∨ H0 a = none := fun a ha => by
    obtain ⟨x, hx, rfl⟩ := List.mem_map.mp ha
    exact W.fr x hx
  refine ⟨V.nd, V.at_, fun a o ha n => V.kp _ _ (W.kp _ _ ha n) fun z => ?_, fun x hx => ?_⟩
  · rcases f a z with h | h
    · exact n h
    · rw [h] at ha; cases ha
  · rcases V.fr x hx with h | h
    · exact f _ h
    · by_cases s : S x.1
      · exact .inl s
      · exact .inr (W.kp.free h s)
theorem _root_.HS.Wd.two {H0 H H' : Hp} {S : Addr → Prop} {l : HS.WdL} {p q : Addr} {P R : HO → Prop} {o u : HO} (W : HS.Wd H0 H S l) (i j : Nat) (ei : l[i]? = some (p, P)) (ej : l[j]? = some (q, R)) (hij : i ≠ j) (k : HS.Keep (fun a => a = p ∨ a = q) H H') (hp : H' p = some o) (hq : H' q = some u) :
    HS.Wd H0 H' S ((l.set i (p, Eq o)).set j (q, Eq u)) := by
  have li := (List.getElem?_eq_some_iff.mp ei).1
  have lj := (List.getElem?_eq_some_iff.mp ej).1
  have em : ((l.set i (p, Eq o)).set j (q, Eq u)).map (·.1) = l.map (·.1) := by
    apply List.ext_getElem?
    intro m
    rw [List.getElem?_map, List.getElem?_map, List.getElem?_set, List.getElem?_set, List.length_set]
    by_cases h1 : j = m
    · subst h1; rw [if_pos rfl, if_pos lj, ej]; rfl
    · rw [if_neg h1]
      by_cases h2 : i = m
      · subst h2; rw [if_pos rfl, if_pos li, ei]; rfl
      · rw [if_neg h2]
  have hm : ∀ x ∈ (l.set i (p, Eq o)).set j (q, Eq u), x = (p, Eq o) ∨ x = (q, Eq u) ∨ (x ∈ l ∧ x.1 ≠ p ∧ x.1 ≠ q) := fun x hx => by
    obtain ⟨m, hj⟩ := List.getElem?_of_mem hx
    rw [List.getElem?_set, List.getElem?_set, List.length_set] at hj
    by_cases h1 : j = m
    · rw [if_pos h1, if_pos lj] at hj; exact .inr (.inl (Option.some.inj hj).symm)
    · rw [if_neg h1] at hj
      by_cases h2 : i = m
      · rw [if_pos h2, if_pos li] at hj; exact .inl (Option.some.inj hj).symm
      · rw [if_neg h2] at hj
        exact .inr (.inr ⟨List.mem_of_getElem? hj, fun y => HS.nd_ne W.nd ei (show l[m]? = some (x.1, x.2) from hj) h2 y.symm, fun y => HS.nd_ne W.nd ej (show l[m]? = some (x.1, x.2) from hj) h1 y.symm⟩)
  have fp := W.fr _ (List.mem_of_getElem? ei)
  have fq := W.fr _ (List.mem_of_getElem? ej)
  refine ⟨by rw [em]; exact W.nd, fun x hx => ?_, fun a b ha n => k _ _ (W.kp _ _ ha n) fun y => ?_, fun x hx => ?_⟩
  · rcases hm x hx with rfl | rfl | ⟨hx, n1, n2⟩
    · exact ⟨o, hp, rfl⟩
    · exact ⟨u, hq, rfl⟩
    · obtain ⟨v, hv, y⟩ := W.at_ x hx
      exact ⟨v, k _ _ hv fun z => z.elim n1 n2, y⟩
  · rcases y with y | y
    · subst y
      rcases fp with z | z
      · exact n z
      · rw [show H0 a = none from z] at ha; cases ha
    · subst y
      rcases fq with z | z
      · exact n z
      · rw [show H0 a = none from z] at ha; cases ha
  · rcases hm x hx with rfl | rfl | ⟨hx, _⟩
    · exact fp
    · exact fq
    · exact W.fr x hx
theorem _root_.HS.Wd.made2 {H0 H H1 : Hp} {S : Addr → Prop} {l : HS.WdL} {p q : Addr} {o u : HO} (W : HS.Wd H0 H S l) (k : HS.Keep (fun _ => False) H H1) (h0 : H p = none) (g0 : H q = none) (hp : H1 p = some o) (hq : H1 q = some u) (n : p ≠ q) :
    HS.Wd H0 H1 S (l ++ [(p, Eq o)] ++ [(q, Eq u)]) := by
  refine (W.made k h0 hp (P := Eq o) rfl).add hq rfl (fun x hx => ?_) ?_
  · rcases HS.mem_snoc hx with hx | rfl
    · exact W.miss g0 x hx
    · exact n
  · by_cases s : S q
    · exact .inl s
    · exact .inr (W.kp.free g0 s)
theorem pick_all {α : Type} : ∀ l : List α, (List.range l.length).filterMap (fun i => l[i]?) = l
  | [] => rfl
  | x :: l => by
    rw [List.length_cons, List.range_succ_eq_map, List.filterMap_cons]
    show x :: _ = _
    rw [List.filterMap_map]
    exact congrArg (x :: ·) (pick_all l)
theorem _root_.HS.Wd.perI {H0 H : Hp} {S : Addr → Prop} {l : HS.WdL} (W : HS.Wd H0 H S l) (is : List Nat) (n : Nat) (hn : l.length = n) (h : is.Perm (List.range n)) : HS.Wd H0 H S (is.filterMap fun i => l[i]?) := by
  refine W.perm ?_
  have p := h.symm.filterMap (fun i => l[i]?)
  rw [← hn, pick_all] at p
  exact p
theorem notB {H0 H : Hp} {S : Addr → Prop} {l : HS.WdL} {A B : List Addr} {p : Addr} (W : HS.Wd H0 H S l) (e : l.map (·.1) = A ++ B) (h : p ∈ B) : p ∉ A := fun z => by
  have nd := W.nd
  rw [e, List.nodup_append] at nd
  exact nd.2.2 p z p h rfl
theorem notA {H0 H : Hp} {S : Addr → Prop} {l : HS.WdL} {A B : List Addr} {p : Addr} (W : HS.Wd H0 H S l) (hp : H p = none) (e : l.map (·.1) = A ++ B := by rfl) : p ∉ A := fun z => by
  have h : p ∈ l.map (·.1) := by rw [e]; exact List.mem_append_left _ z
  obtain ⟨x, hx, h⟩ := List.mem_map.mp h
  exact W.miss hp x hx h
theorem LivAt.nS {C o b p dx r : Addr} {H : Hp} {ls : List Int} {ps : List Addr} (h : LivAt C H o b p dx ls ps) (hr : H r = none) : ¬ (r = o ∨ r = p) := by
  rintro (rfl | rfl)
  · rw [h.eo] at hr; cases hr
  · rw [h.ep] at hr; cases hr
/-- a new live book, told -/
theorem wd_liv4 {C o dx b p : Addr} {H0 H H' : Hp} {S : Addr → Prop} {l : HS.WdL} {ls : List Int} (W : HS.Wd H0 H S l) (ho : H o = none) (hdx : H dx = none) (hne : dx ≠ o)
    (k : HS.Keep (fun a => a = o) (upd (upd H dx (.own o)) o (.ins C dx [])) H') (hb : upd (upd H dx (.own o)) o (.ins C dx []) b = none) (hp : upd (upd H dx (.own o)) o (.ins C dx []) p = none) (h : LivAt C H' o b p dx ls []) :
    HS.Wd H0 H' S (l ++ [(dx, fun _ => True)] ++ [(o, Eq (.ins C dx (lf b p)))] ++ [(p, Eq (.lst []))] ++ [(b, Eq (.lst (ls.map V.int)))]) := by
  have W1 := W.new (o := .own o) (P := fun _ => True) hdx trivial
  have ho1 : upd H dx (.own o) o = none := by rw [upd_ne hne.symm]; exact ho
  have W2 := W1.new (o := .ins C dx []) (P := fun _ => True) ho1 trivial
  have W1' : HS.Wd H0 (upd (upd H dx (.own o)) o (.ins C dx [])) S (l ++ [(dx, fun _ => True)]) := W1.same (.new ho1)
  have so : S o ∨ H0 o = none := by
    by_cases s : S o
    · exact .inl s
    · exact .inr (W.kp.free ho s)
  have W3 := W1'.chgO k (W1.miss ho1) so
  have W4 := W1.madeT (H := upd H dx (.own o)) (P := Eq (.ins C dx (lf b p))) W3 rfl ho1 h.eo rfl
  have W5 := W2.madeT (P := Eq (.lst [])) W4 (by simp) hp h.ep rfl
  refine W5.add h.eb rfl (fun x hx => ?_) ?_
  · rcases HS.mem_snoc hx with hx | rfl
    · have e : x.1 ∈ List.map (fun y : Addr × (HO → Prop) => y.1) (l ++ [(dx, fun _ => True)] ++ [(o, fun _ => True)]) := by
        have := List.mem_map_of_mem (f := (·.1)) hx
        simpa using this
      obtain ⟨y, hy, e⟩ := List.mem_map.mp e
      rw [← e]
      exact W2.miss hb y hy
    · exact h.bp.symm
  · by_cases s : S b
    · exact .inl s
    · exact .inr (W2.kp.free hb s)
/-- the sizes up to m for which two chapters have more pages than one with the lines of both -/
def parted (x y : Int) (m : Nat) : List Int := ((List.range m).map fun (i : Nat) => (i : Int) + 1).filter fun s => decide ((x - 1) % s + 1 + (y - 1) % s + 1 ≤ s)
theorem fresh_live {C o dx b p : Addr} {H H' : Hp} (ho : H o = none) (hdx : H dx = none) (hne : dx ≠ o) (k : HS.Keep (fun a => a = o) (upd (upd H dx (.own o)) o (.ins C dx [])) H') (hb : upd (upd H dx (.own o)) o (.ins C dx []) b = none) (hp : upd (upd H dx (.own o)) o (.ins C dx []) p = none) : HS.Keep (fun _ => False) H H' ∧ H b = none ∧ H p = none := by
  have K1 : HS.Keep (fun _ => False) H (upd (upd H dx (.own o)) o (.ins C dx [])) := (HS.Keep.new hdx).nw (by rw [upd_ne hne.symm]; exact ho)
  exact ⟨keep_tro K1 k ho, K1.free hb id, K1.free hp id⟩

section
variable {P : Program} {w : World} {K : PySem.W.Frag} {mg : Str → Option Value} {base : Heap} {A : Ad}
def sp_InvalidBook___init__ (K : PySem.W.Frag) : Sp := fun vs H Q _ => ∃ (a C : Addr) (w : V), vs = [.ref a, w] ∧ (OexC K C ∧ PySem.W.findIn K (.ref C) "value" = some none ∧ H a = some (exo a C none) ∧ ∀ H' d, HS.Keep (fun x => x = a) H H' → H d = none → d ≠ a → H' a = some (exo a C (some d)) → H' d = some (exd d [("value", w)]) → Q .non H')
theorem ok_InvalidBook___init__ (T : Txt K mg A) : FnOk P w K mg base CX0 1 A.a_InvalidBook___init__ A.d_InvalidBook___init__ ["self", "value"] (sp_InvalidBook___init__ K) := by
  refine T.F_InvalidBook___init__.ok sc_InvalidBook___init__ (fun vs H Q E h => ?_) (fun cdv A0 outer s H vs Q E hr h => ?_)
  · obtain ⟨a, C, w, rfl, hw⟩ := h
    rfl
  · obtain ⟨a, C, w, rfl, hw⟩ := h
    refine ⟨_, (pss_one (ps_ost (pv 0) (pv 1))), ?_⟩
    obtain ⟨T1, hv, ha, k⟩ := hw
    walk_at "hs"
    refine ⟨a, C, rfl, T1, hv, .inl ⟨ha, fun d hd hne => ?_⟩⟩
    walk_at "hs"
    exact k _ d ((HS.Keep.new hd).at rfl) hd (by first | exact hne | exact Ne.symm hne) upd_same (by rw [upd_ne hne]; exact upd_same)
def sp_InvalidSize___init__ (K : PySem.W.Frag) : Sp := fun vs H Q _ => ∃ (a C : Addr) (w : V), vs = [.ref a, w] ∧ (OexC K C ∧ PySem.W.findIn K (.ref C) "value" = some none ∧ H a = some (exo a C none) ∧ ∀ H' d, HS.Keep (fun x => x = a) H H' → H d = none → d ≠ a → H' a = some (exo a C (some d)) → H' d = some (exd d [("value", w)]) → Q .non H')
theorem ok_InvalidSize___init__ (T : Txt K mg A) : FnOk P w K mg base CX0 1 A.a_InvalidSize___init__ A.d_InvalidSize___init__ ["self", "value"] (sp_InvalidSize___init__ K) := by
  refine T.F_InvalidSize___init__.ok sc_InvalidSize___init__ (fun vs H Q E h => ?_) (fun cdv A0 outer s H vs Q E hr h => ?_)
  · obtain ⟨a, C, w, rfl, hw⟩ := h
    rfl
  · obtain ⟨a, C, w, rfl, hw⟩ := h
    refine ⟨_, (pss_one (ps_ost (pv 0) (pv 1))), ?_⟩
    obtain ⟨T1, hv, ha, k⟩ := hw
    walk_at "hs"
    refine ⟨a, C, rfl, T1, hv, .inl ⟨ha, fun d hd hne => ?_⟩⟩
    walk_at "hs"
    exact k _ d ((HS.Keep.new hd).at rfl) hd (by first | exact hne | exact Ne.symm hne) upd_same (by rw [upd_ne hne]; exact upd_same)
def sp_InvalidTable___init__ (K : PySem.W.Frag) : Sp := fun vs H Q _ => ∃ (a C : Addr) (w : V), vs = [.ref a, w] ∧ (OexC K C ∧ PySem.W.findIn K (.ref C) "value" = some none ∧ H a = some (exo a C none) ∧ ∀ H' d, HS.Keep (fun x => x = a) H H' → H d = none → d ≠ a → H' a = some (exo a C (some d)) → H' d = some (exd d [("value", w)]) → Q .non H')
theorem ok_InvalidTable___init__ (T : Txt K mg A) : FnOk P w K mg base CX0 1 A.a_InvalidTable___init__ A.d_InvalidTable___init__ ["self", "value"] (sp_InvalidTable___init__ K) := by
  refine T.F_InvalidTable___init__.ok sc_InvalidTable___init__ (fun vs H Q E h => ?_) (fun cdv A0 outer s H vs Q E hr h => ?_)
  · obtain ⟨a, C, w, rfl, hw⟩ := h
    rfl
  · obtain ⟨a, C, w, rfl, hw⟩ := h
    refine ⟨_, (pss_one (ps_ost (pv 0) (pv 1))), ?_⟩
    obtain ⟨T1, hv, ha, k⟩ := hw
    walk_at "hs"
    refine ⟨a, C, rfl, T1, hv, .inl ⟨ha, fun d hd hne => ?_⟩⟩
    walk_at "hs"
    exact k _ d ((HS.Keep.new hd).at rfl) hd (by first | exact hne | exact Ne.symm hne) upd_same (by rw [upd_ne hne]; exact upd_same)
def sp_InvalidNumber___init__ (K : PySem.W.Frag) : Sp := fun vs H Q _ => ∃ (a C : Addr) (w : V), vs = [.ref a, w] ∧ (OexC K C ∧ PySem.W.findIn K (.ref C) "value" = some none ∧ H a = some (exo a C none) ∧ ∀ H' d, HS.Keep (fun x => x = a) H H' → H d = none → d ≠ a → H' a = some (exo a C (some d)) → H' d = some (exd d [("value", w)]) → Q .non H')
theorem ok_InvalidNumber___init__ (T : Txt K mg A) : FnOk P w K mg base CX0 1 A.a_InvalidNumber___init__ A.d_InvalidNumber___init__ ["self", "value"] (sp_InvalidNumber___init__ K) := by
  refine T.F_InvalidNumber___init__.ok sc_InvalidNumber___init__ (fun vs H Q E h => ?_) (fun cdv A0 outer s H vs Q E hr h => ?_)
  · obtain ⟨a, C, w, rfl, hw⟩ := h
    rfl
  · obtain ⟨a, C, w, rfl, hw⟩ := h
    refine ⟨_, (pss_one (ps_ost (pv 0) (pv 1))), ?_⟩
    obtain ⟨T1, hv, ha, k⟩ := hw
    walk_at "hs"
    refine ⟨a, C, rfl, T1, hv, .inl ⟨ha, fun d hd hne => ?_⟩⟩
    walk_at "hs"
    exact k _ d ((HS.Keep.new hd).at rfl) hd (by first | exact hne | exact Ne.symm hne) upd_same (by rw [upd_ne hne]; exact upd_same)
def sp_NothingToUndo___init__ (K : PySem.W.Frag) : Sp := fun vs H Q _ => ∃ (a C : Addr) (w : V), vs = [.ref a, w] ∧ (OexC K C ∧ PySem.W.findIn K (.ref C) "value" = some none ∧ H a = some (exo a C none) ∧ ∀ H' d, HS.Keep (fun x => x = a) H H' → H d = none → d ≠ a → H' a = some (exo a C (some d)) → H' d = some (exd d [("value", w)]) → Q .non H')
theorem ok_NothingToUndo___init__ (T : Txt K mg A) : FnOk P w K mg base CX0 1 A.a_NothingToUndo___init__ A.d_NothingToUndo___init__ ["self", "value"] (sp_NothingToUndo___init__ K) := by
  refine T.F_NothingToUndo___init__.ok sc_NothingToUndo___init__ (fun vs H Q E h => ?_) (fun cdv A0 outer s H vs Q E hr h => ?_)
  · obtain ⟨a, C, w, rfl, hw⟩ := h
    rfl
  · obtain ⟨a, C, w, rfl, hw⟩ := h
    refine ⟨_, (pss_one (ps_ost (pv 0) (pv 1))), ?_⟩
    obtain ⟨T1, hv, ha, k⟩ := hw
    walk_at "hs"
    refine ⟨a, C, rfl, T1, hv, .inl ⟨ha, fun d hd hne => ?_⟩⟩
    walk_at "hs"
    exact k _ d ((HS.Keep.new hd).at rfl) hd (by first | exact hne | exact Ne.symm hne) upd_same (by rw [upd_ne hne]; exact upd_same)
def sp_check_book (K : PySem.W.Frag) (A : Ad) : Sp := fun vs H Q E => ∃ (b : Addr) (ls : List Int), vs = [.ref b] ∧ (HS.SqA K H b (ls.map V.int) ∧ (∀ i, badAt ls = some i → ∀ H' d, HS.Keep (fun _ => False) H H' → H d = none → H' d = some (.xd [("value", .int (i : Nat))]) → E (.ref A.c_InvalidBook) (some d) H') ∧
  (badAt ls = none → ∀ H', HS.Keep (fun _ => False) H H' → Q .non H'))
theorem ok_check_book (T : Txt K mg A) : FnOk P w K mg base (L2.CX P w) 3 A.a_check_book A.d_check_book ["book"] (sp_check_book K A) := by
  have G_InvalidBook___init__ : FnOk P w K mg base CX0 1 A.a_InvalidBook___init__ A.d_InvalidBook___init__ ["self", "value"] (sp_InvalidBook___init__ K) := ok_InvalidBook___init__ T
  refine L2.Fun.okX T.F_check_book sc_check_book (fun vs H Q E h => ?_) (fun cdv A0 outer s H vs Q E hr h => ?_)
  · obtain ⟨b, ls, rfl, hw⟩ := h
    rfl
  · obtain ⟨b, ls, rfl, hw⟩ := h
    refine ⟨_, (pss_one (ps_for (passes_of rfl) rfl (HS.kenA K (HS.pi_enumA (by rfl) T.z_enumerate (pa_cons (pv 0) pa_nil))) (HS.kgt K (pg_tup rfl (pgs_cons (pg_name (i := 1) sc_check_book.nd rfl (.inl rfl)) (pgs_cons (pg_name (i := 2) sc_check_book.nd rfl (.inl rfl)) pgs_nil))))
      (pss_one (ps_if (pt_cmpR op_lt (pv 2) pe_int (nomark _))
      (pss_one (ps_raise rfl (takes_of rfl rfl rfl rfl) (pmk_oex T.C_InvalidBook T.i_InvalidBook T.t_InvalidBook G_InvalidBook___init__ hr T.b_InvalidBook___init__ .nil pass0 (by rfl) T.m_InvalidBook (pa_cons (pv 1) pa_nil))))
      pss_nil)))), ?_⟩
    obtain ⟨hb, kE, k⟩ := hw
    walk_at "hs"
    refine ⟨b, ls.map V.int, rfl, ?_⟩
    have t0 : HS.Keep (fun _ => False) H H ∧ badAt ls = (badAt (ls.drop 0)).map (· + 0) ∧ ∃ x1 x2, ([some (.ref b), none, none] : L2.St) = [some (.ref b), x1, x2] := ⟨.refl, by rw [List.drop_zero]; cases badAt ls <;> rfl, _, _, rfl⟩
    rcases hb with hb | hb
    · refine .inl ⟨hb, for_it walk_enum (fun i σ H' => HS.Keep (fun _ => False) H H' ∧ badAt ls = (badAt (ls.drop i)).map (· + i) ∧ ∃ x1 x2, σ = [some (.ref b), x1, x2]) t0 (fun i σ H' _ ⟨K', _⟩ => K'.sq hb id) ?_ ?_⟩
      · rintro i x σ H1 H2 hi ⟨K1, hd, x1, x2, rfl⟩ ⟨T1, u, v, rfl, hT, rfl, e1, e2⟩
        cases e1
        obtain ⟨z, rfl, hz, hil⟩ := HS.get_int e2
        have ez : ls.drop i = z :: ls.drop (i + 1) := by rw [List.drop_eq_getElem_cons hil]; rw [List.getElem?_eq_getElem hil] at hz; injection hz with hz; rw [hz]
        rw [ez, badAt] at hd
        have K2 := K1.put (o := .tup [V.int (i : Nat), V.int z]) (K1.free hT id)
        walk_at "hs"
        refine HS.itd (fun h1 => ?_) (fun h1 => ?_)
        · rw [if_pos h1] at hd
          have e0 : badAt ls = some i := by rw [hd, Option.map_some, Nat.zero_add]
          walk_at "hs"
          exact HS.mk1 (fun H' Q' E' b h1 h2 h3 h4 => ⟨b, _, _, rfl, h1, h2, h3, h4⟩) T.C_InvalidBook T.n_InvalidBook fun H' d k' hd' e => kE i e0 H' d (K2.trans k') (K2.free hd' id) e
        · rw [if_neg h1, Option.map_map] at hd
          walk_at "hs"
          refine ⟨K2, ?_, _, _, rfl⟩
          rw [hd]
          congr 1
          funext y
          show y + 1 + i = y + (i + 1)
          omega
      · rintro σ H1 ⟨K1, hd, x1, x2, rfl⟩
        rw [List.length_map, List.drop_length] at hd
        walk_at "hs"
        exact k hd _ K1
    · refine .inr ⟨hb, for_it HS.walk_enumT (fun i σ H' => HS.Keep (fun _ => False) H H' ∧ badAt ls = (badAt (ls.drop i)).map (· + i) ∧ ∃ x1 x2, σ = [some (.ref b), x1, x2]) t0 (fun i σ H' _ ⟨K', _⟩ => K'.st hb id) ?_ ?_⟩
      · rintro i x σ H1 H2 hi ⟨K1, hd, x1, x2, rfl⟩ ⟨T1, u, v, rfl, hT, rfl, e1, e2⟩
        cases e1
        obtain ⟨z, rfl, hz, hil⟩ := HS.get_int e2
        have ez : ls.drop i = z :: ls.drop (i + 1) := by rw [List.drop_eq_getElem_cons hil]; rw [List.getElem?_eq_getElem hil] at hz; injection hz with hz; rw [hz]
        rw [ez, badAt] at hd
        have K2 := K1.put (o := .tup [V.int (i : Nat), V.int z]) (K1.free hT id)
        walk_at "hs"
        refine HS.itd (fun h1 => ?_) (fun h1 => ?_)
        · rw [if_pos h1] at hd
          have e0 : badAt ls = some i := by rw [hd, Option.map_some, Nat.zero_add]
          walk_at "hs"
          exact HS.mk1 (fun H' Q' E' b h1 h2 h3 h4 => ⟨b, _, _, rfl, h1, h2, h3, h4⟩) T.C_InvalidBook T.n_InvalidBook fun H' d k' hd' e => kE i e0 H' d (K2.trans k') (K2.free hd' id) e
        · rw [if_neg h1, Option.map_map] at hd
          walk_at "hs"
          refine ⟨K2, ?_, _, _, rfl⟩
          rw [hd]
          congr 1
          funext y
          show y + 1 + i = y + (i + 1)
          omega
      · rintro σ H1 ⟨K1, hd, x1, x2, rfl⟩
        rw [List.length_map, List.drop_length] at hd
        walk_at "hs"
        exact k hd _ K1
def sp_check_size (K : PySem.W.Frag) (A : Ad) : Sp := fun vs H Q E => ∃ (j : Int), vs = [.int j] ∧ ((j < 1 → ErrIs E H A.c_InvalidSize j) ∧ (1 ≤ j → Q .non H))
theorem ok_check_size (T : Txt K mg A) : FnOk P w K mg base (L2.CX P w) 3 A.a_check_size A.d_check_size ["size"] (sp_check_size K A) := by
  have G_InvalidSize___init__ : FnOk P w K mg base CX0 1 A.a_InvalidSize___init__ A.d_InvalidSize___init__ ["self", "value"] (sp_InvalidSize___init__ K) := ok_InvalidSize___init__ T
  refine L2.Fun.okX T.F_check_size sc_check_size (fun vs H Q E h => ?_) (fun cdv A0 outer s H vs Q E hr h => ?_)
  · obtain ⟨j, rfl, hw⟩ := h
    rfl
  · obtain ⟨j, rfl, hw⟩ := h
    refine ⟨_, (pss_one (ps_if (pt_cmpR op_lt (pv 0) pe_int (nomark _))
      (pss_one (ps_raise rfl (takes_of rfl rfl rfl rfl) (pmk_oex T.C_InvalidSize T.i_InvalidSize T.t_InvalidSize G_InvalidSize___init__ hr T.b_InvalidSize___init__ .nil pass0 (by rfl) T.m_InvalidSize (pa_cons (pv 0) pa_nil))))
      pss_nil)), ?_⟩
    obtain ⟨kE, k⟩ := hw
    walk_at "hs"
    refine HS.itd (fun h1 => ?_) (fun h1 => ?_)
    · walk_at "hs"
      exact HS.mk1 (fun H' Q' E' b h1 h2 h3 h4 => ⟨b, _, _, rfl, h1, h2, h3, h4⟩) T.C_InvalidSize T.n_InvalidSize fun H' d k' hd' e => kE h1 H' d k' hd' e
    · walk_at "hs"
      exact k (by omega)
def sp_check_number (K : PySem.W.Frag) (A : Ad) : Sp := fun vs H Q E => ∃ (i lo hi : Int), vs = [.int i, .int lo, .int hi] ∧ ((¬ (lo ≤ i ∧ i ≤ hi) → ErrIs E H A.c_InvalidNumber i) ∧ (lo ≤ i ∧ i ≤ hi → Q .non H))
theorem ok_check_number (T : Txt K mg A) : FnOk P w K mg base (L2.CX P w) 3 A.a_check_number A.d_check_number ["number", "least", "greatest"] (sp_check_number K A) := by
  have G_InvalidNumber___init__ : FnOk P w K mg base CX0 1 A.a_InvalidNumber___init__ A.d_InvalidNumber___init__ ["self", "value"] (sp_InvalidNumber___init__ K) := ok_InvalidNumber___init__ T
  refine L2.Fun.okX T.F_check_number sc_check_number (fun vs H Q E h => ?_) (fun cdv A0 outer s H vs Q E hr h => ?_)
  · obtain ⟨i, lo, hi, rfl, hw⟩ := h
    rfl
  · obtain ⟨i, lo, hi, rfl, hw⟩ := h
    refine ⟨_, (pss_one (ps_if (PW.pt (pw_or (pt_cmpR op_lt (pv 0) (pv 1) (nomark _)) (pw_or1 (pt_cmpR op_gt (pv 0) (pv 2) (nomark _)))))
      (pss_one (ps_raise rfl (takes_of rfl rfl rfl rfl) (pmk_oex T.C_InvalidNumber T.i_InvalidNumber T.t_InvalidNumber G_InvalidNumber___init__ hr T.b_InvalidNumber___init__ .nil pass0 (by rfl) T.m_InvalidNumber (pa_cons (pv 0) pa_nil))))
      pss_nil)), ?_⟩
    obtain ⟨kE, k⟩ := hw
    walk_at "hs"
    refine HS.itd (fun h1 => ?_) (fun h1 => ?_)
    · walk_at "hs"
      exact HS.mk1 (fun H' Q' E' b h1 h2 h3 h4 => ⟨b, _, _, rfl, h1, h2, h3, h4⟩) T.C_InvalidNumber T.n_InvalidNumber fun H' d k' hd' e => kE (by omega) H' d k' hd' e
    · walk_at "hs"
      refine HS.itd (fun h2 => ?_) (fun h2 => ?_)
      · walk_at "hs"
        exact HS.mk1 (fun H' Q' E' b h1 h2 h3 h4 => ⟨b, _, _, rfl, h1, h2, h3, h4⟩) T.C_InvalidNumber T.n_InvalidNumber fun H' d k' hd' e => kE (by omega) H' d k' hd' e
      · walk_at "hs"
        exact k (by omega)
def sp_chapter_pages (K : PySem.W.Frag) : Sp := fun vs H Q _ => ∃ (i j : Int), vs = [.int i, .int j] ∧ (1 ≤ j ∧ j < 2 ^ 200 ∧ Q (.int ((i + j - 1) / j)) H)
theorem ok_chapter_pages (T : Txt K mg A) : FnOk P w K mg base CX0 1 A.a_chapter_pages A.d_chapter_pages ["length", "size"] (sp_chapter_pages K) := by
  refine T.F_chapter_pages.ok sc_chapter_pages (fun vs H Q E h => ?_) (fun cdv A0 outer s H vs Q E hr h => ?_)
  · obtain ⟨i, j, rfl, hw⟩ := h
    rfl
  · obtain ⟨i, j, rfl, hw⟩ := h
    refine ⟨_, (pss_one (ps_ret (pe_op op_fdivW (pe_op op_sub (pe_op op_add (pv 0) (pv 1)) pe_int) (pv 1)))), ?_⟩
    obtain ⟨h1, h2, k⟩ := hw
    walk_at "hs"
    refine ⟨HS.divW 200 (by omega) h2 (by decide) (by decide), ?_⟩
    exact k
theorem parted_succ (x y : Int) (i : Nat) : parted x y (i + 1) = parted x y i ++ (if (x - 1) % (1 + (i : Int)) + 1 + (y - 1) % (1 + (i : Int)) + 1 ≤ 1 + (i : Int) then [1 + (i : Int)] else []) := by
  unfold parted
  rw [List.range_succ, List.map_append, List.filter_append, List.map_singleton, show (i : Int) + 1 = 1 + i by omega]
  congr 1
  by_cases h : (x - 1) % (1 + (i : Int)) + 1 + (y - 1) % (1 + (i : Int)) + 1 ≤ 1 + (i : Int)
  · rw [if_pos h, List.filter_cons_of_pos (by simpa using h)]; rfl
  · rw [if_neg h, List.filter_cons_of_neg (by simpa using h)]; rfl
theorem parted_len (x y : Int) (i : Nat) : (parted x y i).length ≤ i := by
  unfold parted
  refine Nat.le_trans (List.length_filter_le _ _) ?_
  rw [List.length_map, List.length_range]
  exact Nat.le_refl i
def sp_list_parting (K : PySem.W.Frag) : Sp := fun vs H Q _ => ∃ (x y : Int), vs = [.int x, .int y] ∧ (∀ H' p, HS.Keep (fun _ => False) H H' → H p = none → H' p = some (.lst ((parted x y 100).map V.int)) → Q (.ref p) H')
theorem ok_list_parting (T : Txt K mg A) : FnOk P w K mg base CX0 1 A.a_list_parting A.d_list_parting ["first", "second"] (sp_list_parting K) := by
  refine T.F_list_parting.ok sc_list_parting (fun vs H Q E h => ?_) (fun cdv A0 outer s H vs Q E hr h => ?_)
  · obtain ⟨x, y, rfl, hw⟩ := h
    rfl
  · obtain ⟨x, y, rfl, hw⟩ := h
    refine ⟨_, (pss_cons (ps_set (i := 2) sc_list_parting.nd rfl (.inl rfl) (HS.pe_rngV (by rfl) T.z_range (pa_cons pe_int (pa_cons (pe_op op_add (pe_glob (v := .int 100) (by rfl) T.v_GREATEST_TOLD.choose_spec ⟨_, rfl⟩) pe_int) pa_nil))))
    (pss_one (ps_ret (pe_lc (own := [("size", 3)]) (g := gName 3) rfl sc_list_parting.nd (HS.pi_rngV (pv 2)) (blkOk_by (own := [("size", 3)]) (N := N_list_parting) (sc := defScope s_list_parting) (by decide +kernel)) (fun _ _ _ _ _ => pg_name (i := 3) sc_list_parting.nd rfl (by first | exact .inl rfl | exact .inr rfl)) (fun _ _ _ _ _ => (pts_one (pt_cmpR op_le (pe_op op_add (pe_op op_add (pe_op op_add (pe_op op_mod (pe_op op_sub (pv 0) pe_int) (pv 3)) pe_int) (pe_op op_mod (pe_op op_sub (pv 1) pe_int) (pv 3))) pe_int) (pv 3) (nomark _)))) (fun _ _ _ _ _ => (pv 3)))))), ?_⟩
    have k := hw
    walk_at "hs"
    intro p hp
    have K0 : HS.Keep (fun _ => False) H (upd H p (HS.rgo p 1 (100 + 1))) := .new hp
    have hp1 : upd H p (HS.rgo p 1 (100 + 1)) p = some (HS.rgo p 1 101) := upd_same
    generalize upd H p (HS.rgo p 1 (100 + 1)) = H1 at K0 hp1 ⊢
    walk_at "hs"
    refine ⟨p, 1, 101, rfl, hp1, by decide, fun D hD => lc_range (lo := 1) (n := (101 - 1 : Int).toNat) (fun i H' => HS.Keep (fun _ => False) H1 H' ∧ H' D = some (.lst ((parted x y i).map V.int))) ⟨.new hD, upd_same⟩ ?_ ?_⟩
    · rintro i H2 hi ⟨K2, h2⟩
      have pl := parted_len x y i
      walk_at "hs"
      refine HS.itd (fun c => ?_) (fun c => ?_)
      · walk_at "hs"
        refine ⟨_, h2, HS.sz (by rw [List.length_map]; omega), K2.put hD, ?_⟩
        rw [upd_same, parted_succ, if_pos c, List.map_append]
        rfl
      · refine ⟨K2, ?_⟩
        rw [h2, parted_succ, if_neg c, List.append_nil]
    · rintro H2 ⟨K2, h2⟩
      walk_at "hs"
      exact k _ D (K0.trans K2) (K0.free hD id) h2
def sp_LiveBook__change_to (K : PySem.W.Frag) (A : Ad) : Sp := fun vs H Q _ => ∃ (o b c p dx : Addr) (ls ms : List Int) (ps : List Addr), vs = [.ref o, .ref c] ∧ (LivAt A.c_LiveBook H o b p dx ls ps ∧ H c = some (.lst (ms.map V.int)) ∧ c ≠ p ∧ ps.length ≤ 1000 ∧ ∀ H', HS.Keep (fun a => a = o ∨ a = p) H H' → LivAt A.c_LiveBook H' o c p dx ms (ps ++ [b]) → Q .non H')
theorem ok_LiveBook__change_to (T : Txt K mg A) : FnOk P w K mg base CX0 1 A.a_LiveBook__change_to A.d_LiveBook__change_to ["self", "lengths"] (sp_LiveBook__change_to K A) := by
  refine T.F_LiveBook__change_to.ok sc_LiveBook__change_to (fun vs H Q E h => ?_) (fun cdv A0 outer s H vs Q E hr h => ?_)
  · obtain ⟨o, b, c, p, dx, ls, ms, ps, rfl, hw⟩ := h
    rfl
  · obtain ⟨o, b, c, p, dx, ls, ms, ps, rfl, hw⟩ := h
    refine ⟨_, (pss_cons (ps_expr (HS.kbm K (pe_bm PySem.F.plainAttrs_list PySem.F.slot_list_append PySem.F.type_list_append mt_append (pe_fld (pv 0) rfl) (pa_cons (pe_fld (pv 0) rfl) pa_nil))))
    (pss_one (ps_fld (pv 0) (pv 1) rfl))), ?_⟩
    obtain ⟨h0, hc, hcp, hp, k⟩ := hw
    have op := h0.op
    have bo := h0.ob
    have bp := h0.bp
    have co : c ≠ o := fun e => by rw [e, h0.eo] at hc; cases hc
    walk_at "hs"
    refine ⟨o, _, dx, _, _, rfl, h0.eo, T.C_LiveBook, T.n_LiveBook__past, lf_past _ _, ?_⟩
    refine HS.tyL h0.ep ?_
    walk_at "hs"
    refine ⟨o, _, dx, _, _, rfl, h0.eo, T.C_LiveBook, T.n_LiveBook__lengths, lf_lengths _ _, ?_⟩
    walk_at "hs"
    refine HS.app h0.ep ⟨HS.sz (by rw [List.length_map]; omega), ?_⟩
    walk_at "hs"
    refine ⟨o, _, dx, lf b p, rfl, by rw [upd_ne op.symm]; exact h0.eo, T.C_LiveBook, T.n_LiveBook__lengths, (show (2 : Nat) < 1000 by decide), ?_⟩
    walk_at "hs"
    rw [lf_put]
    refine k _ ((HS.Keep.refl.at (.inr rfl)).at (.inl rfl)) ⟨upd_same, ?_, ?_, hcp⟩
    · rw [upd_ne co, upd_ne hcp]
      exact hc
    · rw [upd_ne op, upd_same, List.map_append]
      rfl
def sp_LiveBook___init__ (K : PySem.W.Frag) (A : Ad) : Sp := fun vs H Q E => ∃ (x dx bk : Addr) (ls : List Int), vs = [.ref x, .ref bk] ∧ (H x = some (.ins A.c_LiveBook dx []) ∧ SqL K H bk (ls.map V.int) ∧ ls.length ≤ 1000 ∧ (∀ i : Nat, badAt ls = some i → ErrIs E H A.c_InvalidBook i) ∧
  (badAt ls = none → ∀ H' b p, HS.Keep (fun a => a = x) H H' → H b = none → H p = none → LivAt A.c_LiveBook H' x b p dx ls [] → Q .non H'))
theorem ok_LiveBook___init__ (T : Txt K mg A) : FnOk P w K mg base (L2.CX P w) 4 A.a_LiveBook___init__ A.d_LiveBook___init__ ["self", "book"] (sp_LiveBook___init__ K A) := by
  have G_check_book : FnOk P w K mg base (L2.CX P w) 3 A.a_check_book A.d_check_book ["book"] (sp_check_book K A) := ok_check_book T
  refine L2.Fun.okX T.F_LiveBook___init__ sc_LiveBook___init__ (fun vs H Q E h => ?_) (fun cdv A0 outer s H vs Q E hr h => ?_)
  · obtain ⟨x, dx, bk, ls, rfl, hw⟩ := h
    rfl
  · obtain ⟨x, dx, bk, ls, rfl, hw⟩ := h
    refine ⟨_, (pss_cons (ps_expr (pe_call G_check_book hr (by rfl) T.g_check_book T.F_check_book.kp T.b_check_book .nil (passes_call (takes_of rfl rfl rfl rfl) (fun _ _ _ _ h => h)) (pa_cons (pv 1) pa_nil)))
    (pss_cons (ps_fld (pv 0) (pe_callTy (HS.klst K) (by rfl) T.z_list (by decide +kernel) (pa_cons (pv 1) pa_nil)) rfl)
    (pss_one (ps_fld (pv 0) (pe_lst pa_nil) rfl)))), ?_⟩
    obtain ⟨hx, hb, hn, kE, k⟩ := hw
    walk_at "hs"
    refine ⟨bk, ls, rfl, .inl hb, kE, fun hL H1 K1 => ?_⟩
    replace k := k hL
    have hx1 := K1 _ _ hx id
    walk_at "hs"
    refine ⟨bk, _, rfl, .inl (K1.sq hb id), fun q hq => ?_⟩
    have hq0 := K1.free hq id
    have nq := ne_of_none hx1 hq
    have hq2 : upd H1 q (.lst (ls.map V.int)) q = some (.lst (ls.map V.int)) := upd_same
    have hx2 : upd H1 q (.lst (ls.map V.int)) x = some (.ins A.c_LiveBook dx []) := by rw [upd_ne nq]; exact hx1
    have K2 := K1.put (o := .lst (ls.map V.int)) hq0
    generalize upd H1 q (.lst (ls.map V.int)) = H2 at hq2 hx2 K2 ⊢
    walk_at "hs"
    refine ⟨x, _, dx, [], rfl, hx2, T.C_LiveBook, T.n_LiveBook__lengths, (show (0 : Nat) < 1000 by decide), ?_⟩
    walk_at "hs"
    intro p hp
    have np : p ≠ x := (ne_of_none upd_same hp).symm
    rw [upd_ne np] at hp
    have nqp := ne_of_none hq2 hp
    walk_at "hs"
    refine ⟨x, _, dx, putF "_lengths" (V.ref q) [], rfl, by rw [upd_ne np.symm]; exact upd_same, T.C_LiveBook, T.n_LiveBook__past, (show (1 : Nat) < 1000 by decide), ?_⟩
    walk_at "hs"
    rw [lf_new]
    have K3 : HS.Keep (fun a => a = x) H H2 := K2.any
    refine k _ q p (HS.Keep.at (HS.Keep.put (HS.Keep.at K3 rfl) (K2.free hp id)) rfl) hq0 (K2.free hp id) ⟨upd_same, ?_, ?_, nqp⟩
    · rw [upd_ne nq.symm, upd_ne nqp, upd_ne nq.symm]
      exact hq2
    · rw [upd_ne np, upd_same]
      rfl
def sp_LiveBook_add (K : PySem.W.Frag) (A : Ad) : Sp := fun vs H Q E => ∃ (o b p dx t : Addr) (ls ms : List Int) (ps : List Addr), vs = [.ref o, .ref t] ∧ (LivAt A.c_LiveBook H o b p dx ls ps ∧ H t = some (.tup (ms.map V.int)) ∧ ls.length + ms.length ≤ 1000 ∧ ps.length ≤ 1000 ∧ (∀ i : Nat, badAt ms = some i → ErrIs E H A.c_InvalidBook i) ∧ (badAt ms = none → ∀ H' c, HS.Keep (fun a => a = o ∨ a = p) H H' → H c = none → LivAt A.c_LiveBook H' o c p dx (ls ++ ms) (ps ++ [b]) → Q .non H'))
theorem ok_LiveBook_add (T : Txt K mg A) : FnR P w K mg base (L2.CX P w) 4 A.a_LiveBook_add (HS.starS 1 (sp_LiveBook_add K A)) := by
  have G_check_book : FnOk P w K mg base (L2.CX P w) 3 A.a_check_book A.d_check_book ["book"] (sp_check_book K A) := ok_check_book T
  have G_LiveBook__change_to : FnOk P w K mg base CX0 1 A.a_LiveBook__change_to A.d_LiveBook__change_to ["self", "lengths"] (sp_LiveBook__change_to K A) := ok_LiveBook__change_to T
  refine HS.Fun.star (ps := ["self"]) (pv := "lengths") T.F_LiveBook_add sc_LiveBook_add T.bs_LiveBook_add (fun cdv A0 outer s H vs Q E hr h => ?_)
  · obtain ⟨o, b, p, dx, t, ls, ms, ps, rfl, hw⟩ := h
    refine ⟨_, (pss_cons (ps_expr (pe_call G_check_book hr (by rfl) T.g_check_book T.F_check_book.kp T.b_check_book .nil (passes_call (takes_of rfl rfl rfl rfl) (fun _ _ _ _ h => h)) (pa_cons (pv 1) pa_nil)))
    (pss_one (ps_expr (pe_meth (pv 0) T.C_LiveBook T.M_LiveBook__change_to G_LiveBook__change_to (hr.mono (by decide)) T.b_LiveBook__change_to .nil pass0 (pa_cons (pe_op op_cat (pe_fld (pv 0) rfl) (pe_callTy (HS.klst K) (by rfl) T.z_list (by decide +kernel) (pa_cons (pv 1) pa_nil))) pa_nil))))), ?_⟩
    obtain ⟨h0, ht, hn, hp, kE, k⟩ := hw
    walk_at "hs"
    refine ⟨t, ms, rfl, .inr (.inl (.inl ht)), kE, fun hL H1 K1 => ?_⟩
    replace k := k hL
    have h1 := h0.same K1
    have ht1 := K1 _ _ ht id
    walk_at "hs"
    refine ⟨o, dx, _, rfl, h1.eo, lf_no (by decide +kernel) (by decide +kernel), ?_⟩
    walk_at "hs"
    refine ⟨o, _, dx, _, _, rfl, h1.eo, T.C_LiveBook, T.n_LiveBook__lengths, lf_lengths _ _, ?_⟩
    walk_at "hs"
    refine ⟨t, _, rfl, .inr (.inl (.inl ht1)), fun q hq => ?_⟩
    have h2 := h1.new (u := .lst (ms.map V.int)) hq
    have K2 := K1.nw (o := .lst (ms.map V.int)) hq
    have hq2 : upd H1 q (.lst (ms.map V.int)) q = some (.lst (ms.map V.int)) := upd_same
    generalize upd H1 q (.lst (ms.map V.int)) = H2 at h2 K2 hq2 ⊢
    refine HS.cat h2.eb hq2 ?_
    walk_at "hs"
    intro c hc
    have h3 := h2.new (u := .lst (ls.map V.int ++ ms.map V.int)) hc
    have K3 := K2.nw (o := .lst (ls.map V.int ++ ms.map V.int)) hc
    have hc3 : upd H2 c (.lst (ls.map V.int ++ ms.map V.int)) c = some (.lst ((ls ++ ms).map V.int)) := by rw [upd_same, List.map_append]
    have hcp : c ≠ p := (ne_of_none h2.ep hc).symm
    have hc0 := K2.free hc id
    generalize upd H2 c (.lst (ls.map V.int ++ ms.map V.int)) = H3 at h3 K3 hc3 ⊢
    walk_at "hs"
    exact ⟨o, b, c, p, dx, ls, _, ps, rfl, h3, hc3, hcp, hp, fun H4 K4 h4 => k _ c (HS.Keep.trans K3.any K4) hc0 h4⟩
def sp_LiveBook_book (K : PySem.W.Frag) (A : Ad) : Sp := fun vs H Q _ => ∃ (o b p dx : Addr) (ls : List Int) (ps : List Addr), vs = [.ref o] ∧ (LivAt A.c_LiveBook H o b p dx ls ps ∧ ∀ c, H c = none → Q (.ref c) (upd H c (.lst (ls.map V.int))))
theorem ok_LiveBook_book (T : Txt K mg A) : FnOk P w K mg base CX0 1 A.a_LiveBook_book A.d_LiveBook_book ["self"] (sp_LiveBook_book K A) := by
  refine T.F_LiveBook_book.ok sc_LiveBook_book (fun vs H Q E h => ?_) (fun cdv A0 outer s H vs Q E hr h => ?_)
  · obtain ⟨o, b, p, dx, ls, ps, rfl, hw⟩ := h
    rfl
  · obtain ⟨o, b, p, dx, ls, ps, rfl, hw⟩ := h
    refine ⟨_, (pss_one (ps_ret (pe_callTy (HS.klst K) (by rfl) T.z_list (by decide +kernel) (pa_cons (pe_fld (pv 0) rfl) pa_nil)))), ?_⟩
    obtain ⟨h0, k⟩ := hw
    walk_at "hs"
    refine ⟨o, _, dx, _, _, rfl, h0.eo, T.C_LiveBook, T.n_LiveBook__lengths, lf_lengths _ _, ?_⟩
    walk_at "hs"
    exact ⟨b, _, rfl, .inl (HS.sq h0.eb), k⟩
def sp_LiveBook_chapters (K : PySem.W.Frag) (A : Ad) : Sp := fun vs H Q _ => ∃ (o b p dx : Addr) (ls : List Int) (ps : List Addr), vs = [.ref o] ∧ (LivAt A.c_LiveBook H o b p dx ls ps ∧ Q (.int ls.length) H)
theorem ok_LiveBook_chapters (T : Txt K mg A) : FnOk P w K mg base CX0 1 A.a_LiveBook_chapters A.d_LiveBook_chapters ["self"] (sp_LiveBook_chapters K A) := by
  refine T.F_LiveBook_chapters.ok sc_LiveBook_chapters (fun vs H Q E h => ?_) (fun cdv A0 outer s H vs Q E hr h => ?_)
  · obtain ⟨o, b, p, dx, ls, ps, rfl, hw⟩ := h
    rfl
  · obtain ⟨o, b, p, dx, ls, ps, rfl, hw⟩ := h
    refine ⟨_, (pss_one (ps_ret (pe_callB (HS.klen K) (by rfl) T.z_len PySem.boot_len (pa_cons (pe_fld (pv 0) rfl) pa_nil)))), ?_⟩
    obtain ⟨h0, k⟩ := hw
    walk_at "hs"
    refine ⟨o, _, dx, _, _, rfl, h0.eo, T.C_LiveBook, T.n_LiveBook__lengths, lf_lengths _ _, ?_⟩
    walk_at "hs"
    refine HS.lenL (HS.sq h0.eb) ?_
    walk_at "hs"
    rw [List.length_map]
    exact k
def sp_LiveBook_lines (K : PySem.W.Frag) (A : Ad) : Sp := fun vs H Q _ => ∃ (o b p dx : Addr) (ls : List Int) (ps : List Addr), vs = [.ref o] ∧ (LivAt A.c_LiveBook H o b p dx ls ps ∧ Q (.int ls.sum) H)
theorem ok_LiveBook_lines (T : Txt K mg A) : FnOk P w K mg base CX0 1 A.a_LiveBook_lines A.d_LiveBook_lines ["self"] (sp_LiveBook_lines K A) := by
  refine T.F_LiveBook_lines.ok sc_LiveBook_lines (fun vs H Q E h => ?_) (fun cdv A0 outer s H vs Q E hr h => ?_)
  · obtain ⟨o, b, p, dx, ls, ps, rfl, hw⟩ := h
    rfl
  · obtain ⟨o, b, p, dx, ls, ps, rfl, hw⟩ := h
    refine ⟨_, (pss_one (ps_ret (pe_callB (HS.ksum K rfl) (by rfl) T.z_sum (by decide +kernel) (pa_cons (pe_fld (pv 0) rfl) pa_nil)))), ?_⟩
    obtain ⟨h0, k⟩ := hw
    walk_at "hs"
    refine ⟨o, _, dx, _, _, rfl, h0.eo, T.C_LiveBook, T.n_LiveBook__lengths, lf_lengths _ _, ?_⟩
    walk_at "hs"
    refine HS.sumL (HS.sq h0.eb) ?_
    walk_at "hs"
    exact k
def sp_LiveBook_undo (K : PySem.W.Frag) (A : Ad) : Sp := fun vs H Q E => ∃ (o b p dx : Addr) (ls : List Int) (ps : List Addr), vs = [.ref o] ∧ (LivAt A.c_LiveBook H o b p dx ls ps ∧ ps.length ≤ 1000 ∧
  (ps = [] → ∀ H' d, HS.Keep (fun _ => False) H H' → H d = none → H' d = some (.xd [("value", .int 0)]) → E (.ref A.c_NothingToUndo) (some d) H') ∧
  (∀ qs q, ps = qs ++ [q] → ∃ us : List Int, H q = some (.lst (us.map V.int)) ∧ q ≠ p ∧ ∀ H', HS.Keep (fun a => a = o ∨ a = p) H H' → LivAt A.c_LiveBook H' o q p dx us qs → Q .non H'))
theorem ok_LiveBook_undo (T : Txt K mg A) : FnOk P w K mg base (L2.CX P w) 3 A.a_LiveBook_undo A.d_LiveBook_undo ["self"] (sp_LiveBook_undo K A) := by
  have G_NothingToUndo___init__ : FnOk P w K mg base CX0 1 A.a_NothingToUndo___init__ A.d_NothingToUndo___init__ ["self", "value"] (sp_NothingToUndo___init__ K) := ok_NothingToUndo___init__ T
  refine L2.Fun.okX T.F_LiveBook_undo sc_LiveBook_undo (fun vs H Q E h => ?_) (fun cdv A0 outer s H vs Q E hr h => ?_)
  · obtain ⟨o, b, p, dx, ls, ps, rfl, hw⟩ := h
    rfl
  · obtain ⟨o, b, p, dx, ls, ps, rfl, hw⟩ := h
    refine ⟨_, (pss_cons (ps_if (pt_not (pt_truth (pe_fld (pv 0) rfl) (by intro _; rfl)))
      (pss_one (ps_raise rfl (takes_of rfl rfl rfl rfl) (pmk_oex T.C_NothingToUndo T.i_NothingToUndo T.t_NothingToUndo G_NothingToUndo___init__ hr T.b_NothingToUndo___init__ .nil pass0 (by rfl) T.m_NothingToUndo (pa_cons pe_int pa_nil))))
      pss_nil)
    (pss_one (ps_fld (pv 0) (HS.kbm0 K (pe_bm0 PySem.F.plainAttrs_list PySem.F.slot_list_pop PySem.F.type_list_pop mt_pop (pe_fld (pv 0) rfl))) rfl))), ?_⟩
    obtain ⟨h0, hn, kE, k⟩ := hw
    walk_at "hs"
    refine ⟨o, _, dx, _, _, rfl, h0.eo, T.C_LiveBook, T.n_LiveBook__past, lf_past _ _, ?_⟩
    walk_at "hs"
    rcases List.eq_nil_or_concat ps with e | ⟨qs, q, e⟩
    · subst e
      refine ⟨_, .inl ⟨_, HS.sq h0.ep, rfl⟩, ?_⟩
      refine (if_pos (c := ((!!(([] : List Addr).map V.ref).isEmpty) = true)) rfl).mpr ?_
      walk_at "hs"
      exact HS.mk1 (fun H' Q' E' b h1 h2 h3 h4 => ⟨b, _, _, rfl, h1, h2, h3, h4⟩) T.C_NothingToUndo T.n_NothingToUndo fun H' d k' hd' e => kE rfl H' d k' hd' e
    · rw [List.concat_eq_append] at e
      refine ⟨_, .inl ⟨_, HS.sq h0.ep, rfl⟩, ?_⟩
      dsimp only
      rw [if_neg (by rw [e]; simp)]
      walk_at "hs"
      refine ⟨o, _, dx, _, _, rfl, h0.eo, T.C_LiveBook, T.n_LiveBook__past, lf_past _ _, ?_⟩
      refine HS.tyL h0.ep ?_
      have em : ps.map V.ref = qs.map V.ref ++ [V.ref q] := by rw [e, List.map_append]; rfl
      refine ⟨p, _, .ref q, rfl, rfl, h0.ep, by rw [em]; simp, ?_⟩
      walk_at "hs"
      refine ⟨o, _, dx, lf b p, rfl, by rw [upd_ne h0.op.symm]; exact h0.eo, T.C_LiveBook, T.n_LiveBook__lengths, (show (2 : Nat) < 1000 by decide), ?_⟩
      walk_at "hs"
      rw [lf_put]
      obtain ⟨us, hq, nqp, k⟩ := k qs q e
      have qo : q ≠ o := fun z => by rw [z, h0.eo] at hq; cases hq
      refine k _ ((HS.Keep.refl.at (.inr rfl)).at (.inl rfl)) ⟨upd_same, ?_, ?_, nqp⟩
      · rw [upd_ne qo, upd_ne nqp]
        exact hq
      · rw [upd_ne h0.op, upd_same, em, List.dropLast_concat]
def sp_LiveBook_split (K : PySem.W.Frag) (A : Ad) : Sp := fun vs H Q E => ∃ (o b p dx : Addr) (ls : List Int) (ps : List Addr) (c n : Int), vs = [.ref o, .int c, .int n] ∧ (LivAt A.c_LiveBook H o b p dx ls ps ∧ ((¬ (1 ≤ c ∧ c ≤ ls.length) ∧ ErrIs E H A.c_InvalidNumber c) ∨ (∃ z, 1 ≤ c ∧ c ≤ ls.length ∧ ls[(c - 1).toNat]? = some z ∧ ¬ (1 ≤ n ∧ n ≤ z - 1) ∧ ErrIs E H A.c_InvalidNumber n)))
theorem ok_LiveBook_split (T : Txt K mg A) : FnOk P w K mg base (L2.CX P w) 4 A.a_LiveBook_split A.d_LiveBook_split ["self", "chapter", "line"] (sp_LiveBook_split K A) := by
  have G_check_number : FnOk P w K mg base (L2.CX P w) 3 A.a_check_number A.d_check_number ["number", "least", "greatest"] (sp_check_number K A) := ok_check_number T
  have G_LiveBook__change_to : FnOk P w K mg base CX0 1 A.a_LiveBook__change_to A.d_LiveBook__change_to ["self", "lengths"] (sp_LiveBook__change_to K A) := ok_LiveBook__change_to T
  have G_list_parting : FnOk P w K mg base CX0 1 A.a_list_parting A.d_list_parting ["first", "second"] (sp_list_parting K) := ok_list_parting T
  refine L2.Fun.okX T.F_LiveBook_split sc_LiveBook_split (fun vs H Q E h => ?_) (fun cdv A0 outer s H vs Q E hr h => ?_)
  · obtain ⟨o, b, p, dx, ls, ps, c, n, rfl, hw⟩ := h
    rfl
  · obtain ⟨o, b, p, dx, ls, ps, c, n, rfl, hw⟩ := h
    refine ⟨_, (pss_cons (ps_expr (pe_call G_check_number hr (by rfl) T.g_check_number T.F_check_number.kp T.b_check_number .nil (passes_call (takes_of rfl rfl rfl rfl) (fun _ _ _ _ h => h)) (pa_cons (pv 1) (pa_cons pe_int (pa_cons (pe_callB (HS.klen K) (by rfl) T.z_len PySem.boot_len (pa_cons (pe_fld (pv 0) rfl) pa_nil)) pa_nil)))))
    (pss_cons (ps_set (i := 3) sc_LiveBook_split.nd rfl (.inl rfl) (pe_ix (HS.ixl K) (pe_fld (pv 0) rfl) (pe_op op_sub (pv 1) pe_int) (fun _ _ => rfl)))
    (pss_cons (ps_expr (pe_call G_check_number hr (by rfl) T.g_check_number T.F_check_number.kp T.b_check_number .nil (passes_call (takes_of rfl rfl rfl rfl) (fun _ _ _ _ h => h)) (pa_cons (pv 2) (pa_cons pe_int (pa_cons (pe_op op_sub (pv 3) pe_int) pa_nil)))))
    (pss_cons (ps_set (i := 4) sc_LiveBook_split.nd rfl (.inl rfl) (pe_lst (pa_cons (pv 2) (pa_cons (pe_op op_sub (pv 3) (pv 2)) pa_nil))))
    (pss_cons (ps_expr (pe_meth (pv 0) T.C_LiveBook T.M_LiveBook__change_to G_LiveBook__change_to (hr.mono (by decide)) T.b_LiveBook__change_to .nil pass0 (pa_cons (pe_op op_cat (pe_op op_cat (pe_slice (HS.sll K) (pe_fld (pv 0) rfl) po_none (po_some (pe_op op_sub (pv 1) pe_int))) (pv 4)) (pe_slice (HS.sll K) (pe_fld (pv 0) rfl) (po_some (pv 1)) po_none)) pa_nil)))
    (pss_one (ps_ret (pe_call G_list_parting (hr.mono (by decide)) (by rfl) T.g_list_parting T.F_list_parting.kp T.b_list_parting .nil pass0 (pa_cons (pv 2) (pa_cons (pe_op op_sub (pv 3) (pv 2)) pa_nil)))))))))), ?_⟩
    obtain ⟨h0, hc⟩ := hw
    walk_at "hs"
    refine ⟨o, _, dx, _, _, rfl, h0.eo, T.C_LiveBook, T.n_LiveBook__lengths, lf_lengths _ _, ?_⟩
    walk_at "hs"
    refine HS.lenL (HS.sq h0.eb) ?_
    walk_at "hs"
    rw [List.length_map]
    rcases hc with ⟨hc, kE⟩ | ⟨z, c0, c1, hz, hn, kE⟩
    · exact ⟨_, _, _, rfl, fun _ => kE, fun y => absurd y hc⟩
    refine ⟨_, _, _, rfl, fun y => absurd ⟨c0, c1⟩ y, fun _ => ?_⟩
    walk_at "hs"
    refine ⟨o, _, dx, _, _, rfl, h0.eo, T.C_LiveBook, T.n_LiveBook__lengths, lf_lengths _ _, ?_⟩
    walk_at "hs"
    refine HS.ixZ (HS.sq h0.eb) (by omega) hz ?_
    walk_at "hs"
    exact ⟨_, _, _, rfl, fun _ => kE, fun y => absurd y hn⟩
def sp_LiveBook_join (K : PySem.W.Frag) (A : Ad) : Sp := fun vs H Q E => ∃ (o b p dx : Addr) (ls : List Int) (ps : List Addr) (c : Int), vs = [.ref o, .int c] ∧ (LivAt A.c_LiveBook H o b p dx ls ps ∧ ¬ (1 ≤ c ∧ c ≤ (ls.length : Int) - 1) ∧ ErrIs E H A.c_InvalidNumber c)
theorem ok_LiveBook_join (T : Txt K mg A) : FnOk P w K mg base (L2.CX P w) 4 A.a_LiveBook_join A.d_LiveBook_join ["self", "chapter"] (sp_LiveBook_join K A) := by
  have G_check_number : FnOk P w K mg base (L2.CX P w) 3 A.a_check_number A.d_check_number ["number", "least", "greatest"] (sp_check_number K A) := ok_check_number T
  have G_LiveBook__change_to : FnOk P w K mg base CX0 1 A.a_LiveBook__change_to A.d_LiveBook__change_to ["self", "lengths"] (sp_LiveBook__change_to K A) := ok_LiveBook__change_to T
  have G_list_parting : FnOk P w K mg base CX0 1 A.a_list_parting A.d_list_parting ["first", "second"] (sp_list_parting K) := ok_list_parting T
  refine L2.Fun.okX T.F_LiveBook_join sc_LiveBook_join (fun vs H Q E h => ?_) (fun cdv A0 outer s H vs Q E hr h => ?_)
  · obtain ⟨o, b, p, dx, ls, ps, c, rfl, hw⟩ := h
    rfl
  · obtain ⟨o, b, p, dx, ls, ps, c, rfl, hw⟩ := h
    refine ⟨_, (pss_cons (ps_expr (pe_call G_check_number hr (by rfl) T.g_check_number T.F_check_number.kp T.b_check_number .nil (passes_call (takes_of rfl rfl rfl rfl) (fun _ _ _ _ h => h)) (pa_cons (pv 1) (pa_cons pe_int (pa_cons (pe_op op_sub (pe_callB (HS.klen K) (by rfl) T.z_len PySem.boot_len (pa_cons (pe_fld (pv 0) rfl) pa_nil)) pe_int) pa_nil)))))
    (pss_cons (ps_set (i := 2) sc_LiveBook_join.nd rfl (.inl rfl) (pe_ix (HS.ixl K) (pe_fld (pv 0) rfl) (pe_op op_sub (pv 1) pe_int) (fun _ _ => rfl)))
    (pss_cons (ps_set (i := 3) sc_LiveBook_join.nd rfl (.inl rfl) (pe_ix (HS.ixl K) (pe_fld (pv 0) rfl) (pv 1) (fun _ _ => rfl)))
    (pss_cons (ps_expr (pe_meth (pv 0) T.C_LiveBook T.M_LiveBook__change_to G_LiveBook__change_to (hr.mono (by decide)) T.b_LiveBook__change_to .nil pass0 (pa_cons (pe_op op_cat (pe_op op_cat (pe_slice (HS.sll K) (pe_fld (pv 0) rfl) po_none (po_some (pe_op op_sub (pv 1) pe_int))) (pe_lst (pa_cons (pe_op op_add (pv 2) (pv 3)) pa_nil))) (pe_slice (HS.sll K) (pe_fld (pv 0) rfl) (po_some (pe_op op_add (pv 1) pe_int)) po_none)) pa_nil)))
    (pss_one (ps_ret (pe_call G_list_parting (hr.mono (by decide)) (by rfl) T.g_list_parting T.F_list_parting.kp T.b_list_parting .nil pass0 (pa_cons (pv 2) (pa_cons (pv 3) pa_nil))))))))), ?_⟩
    obtain ⟨h0, hc, kE⟩ := hw
    walk_at "hs"
    refine ⟨o, _, dx, _, _, rfl, h0.eo, T.C_LiveBook, T.n_LiveBook__lengths, lf_lengths _ _, ?_⟩
    walk_at "hs"
    refine HS.lenL (HS.sq h0.eb) ?_
    walk_at "hs"
    rw [List.length_map]
    exact ⟨_, _, _, rfl, fun _ => kE, fun y => absurd y hc⟩
theorem gfor_list {K : PySem.W.Frag} {σ : L2.St} {H : Hp} {g : TG} {tb : TGn} {n : List V → L2.St → Hp → Prop} {rt : List V → VK} {ys : List V} {a : Addr} {xs : List V} (Pv : Nat → List V → L2.St → Hp → Prop) (h0 : Pv 0 ys σ H) (hG : ∀ i ys σ H, Pv i ys σ H → SqL K H a xs)
    (hs : ∀ i x ys σ H, xs[i]? = some x → Pv i ys σ H → g x σ H fun σ2 H2 => tb ⟨Pv (i + 1), rt, n, Pv (i + 1)⟩ ys σ2 H2) (hd : ∀ ys σ H, Pv xs.length ys σ H → n ys σ H) :
    ∃ W : Nat → Nat → List V → L2.St → Hp → Prop, (∃ m, W 0 m ys σ H) ∧ ∀ i m' ys σ H, W i m' ys σ H →
      ((Itl K a).stop i H ∧ n ys σ H) ∨ ((Itl K a).go i H ∧ ∃ N : List V → L2.St → Hp → Prop, (∀ ys' σ' H', N ys' σ' H' → ∃ m'', m'' < m' ∧ W (i + 1) m'' ys' σ' H') ∧ ∀ x H', (Itl K a).yld i H x H' → g x σ H' fun σ2 H2 => tb ⟨N, rt, n, N⟩ ys σ2 H2) := by
  refine ⟨fun i k ys σ H => k = xs.length - i ∧ i ≤ xs.length ∧ Pv i ys σ H, ⟨xs.length, by simp, Nat.zero_le _, h0⟩, ?_⟩
  rintro i k ys σ H ⟨rfl, hi, p⟩
  have q := hG i ys σ H p
  by_cases hlt : i < xs.length
  · refine .inr ⟨⟨xs, xs[i], q, List.getElem?_eq_getElem hlt⟩, Pv (i + 1), fun ys' σ' H' p' => ⟨xs.length - (i + 1), by omega, rfl, hlt, p'⟩, fun x H' y => ?_⟩
    obtain ⟨rfl, y⟩ := y
    exact hs i x ys σ _ (y xs q) p
  · have e : i = xs.length := by omega
    subst e
    exact .inl ⟨⟨xs, q, Nat.le_refl _⟩, hd ys σ H p⟩
def sp_LiveBook_titles (K : PySem.W.Frag) (A : Ad) : SpG := fun vs H Q _ => ∃ (o b p dx : Addr) (ls : List Int) (ps : List Addr) (j : Int), vs = [.ref o, .int j] ∧ (LivAt A.c_LiveBook H o b p dx ls ps ∧ 1 ≤ j ∧ j < 2 ^ 200 ∧ ls.length ≤ 1000 ∧ Q ((titlesOf ls j ls.length).map V.int) H)
theorem ok_LiveBook_titles (T : Txt K mg A) : GFn P w K mg base 4 A.a_LiveBook_titles A.d_LiveBook_titles ["self", "size"] (sp_LiveBook_titles K A) := by
  have G_check_size : FnOk P w K mg base (L2.CX P w) 3 A.a_check_size A.d_check_size ["size"] (sp_check_size K A) := ok_check_size T
  have G_chapter_pages : FnOk P w K mg base CX0 1 A.a_chapter_pages A.d_chapter_pages ["length", "size"] (sp_chapter_pages K) := ok_chapter_pages T
  obtain ⟨oc, od, kV, doc, pm, an, cdv, ct, osl, hfd, lk, hcd⟩ := T.F_LiveBook_titles.ex
  rw [hfd] at lk ⊢
  refine gfn_of lk hcd sc_LiveBook_titles (fun vs H Q E h => ?_) (fun A0 outer s H vs Q E pn hr h => ?_)
  · obtain ⟨o, b, p, dx, ls, ps, j, rfl, hw⟩ := h
    rfl
  · obtain ⟨o, b, p, dx, ls, ps, j, rfl, hw⟩ := h
    refine ⟨_, (gss_cons (gs_ps (ps_expr (pe_call G_check_size hr (by rfl) T.g_check_size T.F_check_size.kp T.b_check_size .nil passL (pa_cons (pv 1) pa_nil))))
    (gss_cons (gs_ps (ps_set (i := 2) sc_LiveBook_titles.nd rfl (.inl rfl) pe_int))
    (gss_cons (HS.gs_for owns_gcx rfl (HS.kil K (pi_list (pe_fld (pv 0) rfl))) (pg_name (i := 3) sc_LiveBook_titles.nd rfl (.inl rfl))
      (gss_cons (gs_yield (pv 2))
    (gss_cons (gs_ps (ps_set (i := 2) sc_LiveBook_titles.nd rfl (.inl rfl) (pe_op op_add (pv 2) (pe_call G_chapter_pages (hr.mono (by decide)) (by rfl) T.g_chapter_pages T.F_chapter_pages.kp T.b_chapter_pages .nil pass0 (pa_cons (pv 3) (pa_cons (pv 1) pa_nil))))))
    gss_nil)))
    gss_nil))), ?_⟩
    obtain ⟨h0, j0, j1, hl, k⟩ := hw
    walk_at "hs"
    refine ⟨j, rfl, fun z => absurd z (by omega), fun _ => ?_⟩
    walk_at "hs"
    refine ⟨o, _, dx, _, _, rfl, h0.eo, T.C_LiveBook, T.n_LiveBook__lengths, lf_lengths _ _, ?_⟩
    walk_at "hs"
    refine ⟨⟨_, HS.sq h0.eb⟩, gfor_list (xs := ls.map V.int) (fun i ys σ H' => H' = H ∧ ys = (titlesOf ls j i).map V.int ∧ ∃ x3, σ = [some (.ref o), some (.int j), some (.int (1 + pcount (ls.take i) j)), x3]) ⟨rfl, rfl, _, rfl⟩ ?_ ?_ ?_⟩
    · rintro i ys σ H2 ⟨rfl, _⟩
      exact HS.sq h0.eb
    · rintro i x ys σ H2 hi ⟨rfl, rfl, x3, rfl⟩
      obtain ⟨z, rfl, hz, hil⟩ := HS.get_int hi
      walk_at "hs"
      refine ⟨HS.sz (by rw [List.length_map]; unfold titlesOf; rw [List.length_map, List.length_range]; omega), ?_⟩
      walk_at "hs"
      refine ⟨z, j, rfl, j0, j1, ?_⟩
      walk_at "hs"
      have e1 : pcount (ls.take (i + 1)) j = pcount (ls.take i) j + (z + j - 1) / j := by
        rw [List.take_add_one, hz, pcount_append]
        show _ + pcount [z] j = _
        rw [pcount_cons, pcount_nil, Int.add_zero]
      refine ⟨rfl, ?_, some (.int z), by rw [e1, ← Int.add_assoc]; rfl⟩
      unfold titlesOf
      rw [List.range_succ, List.map_append, List.map_append]
      rfl
    · rintro ys σ H2 ⟨rfl, rfl, x3, rfl⟩
      rw [List.length_map]
      walk_at "hs"
      exact k
def sp2_LiveBook_titles (K : PySem.W.Frag) (A : Ad) : HS.SpG2 := fun vs H ry yl en E => ∃ (o : Addr) (j : Int), vs = [.ref o, .int j] ∧ (j < 1 ∧ ErrIs E H A.c_InvalidSize j)
theorem ok2_LiveBook_titles (T : Txt K mg A) : HS.GFn2 (L2.CX P w) P w K mg base 4 A.a_LiveBook_titles A.d_LiveBook_titles ["self", "size"] (sp2_LiveBook_titles K A) := by
  have G_check_size : FnOk P w K mg base (L2.CX P w) 3 A.a_check_size A.d_check_size ["size"] (sp_check_size K A) := ok_check_size T
  have G_chapter_pages : FnOk P w K mg base CX0 1 A.a_chapter_pages A.d_chapter_pages ["length", "size"] (sp_chapter_pages K) := ok_chapter_pages T
  obtain ⟨oc, od, kV, doc, pm, an, cdv, ct, osl, hfd, lk, hcd⟩ := T.F_LiveBook_titles.ex
  rw [hfd] at lk ⊢
  refine HS.gfn2_of (pre := HS.preS (defBody s_LiveBook_titles)) (tg := HS.tgS (defBody s_LiveBook_titles)) (iter := HS.itS (defBody s_LiveBook_titles)) (e := HS.yS (defBody s_LiveBook_titles)) (post := HS.poS (defBody s_LiveBook_titles)) lk hcd sc_LiveBook_titles rfl (by decide +kernel) (fun _ _ => rfl) rfl (fun _ => rfl) (fun vs H ry yl en E h => ?_) (fun A0 outer s H vs ry yl en E pn hr h => ?_)
  · obtain ⟨o, j, rfl, hw⟩ := h
    rfl
  · obtain ⟨o, j, rfl, hw⟩ := h
    refine ⟨_, _, _, _, _, (pss_cons (ps_expr (pe_call G_check_size hr (by rfl) T.g_check_size T.F_check_size.kp T.b_check_size .nil (passes_call HS.takesG (fun _ _ _ _ h => h)) (pa_cons (pv 1) pa_nil)))
    (pss_one (ps_set (i := 2) sc_LiveBook_titles.nd rfl (.inl rfl) pe_int))), (HS.kil K (pi_list (pe_fld (pv 0) rfl))), fun _ _ => (pg_name (i := 3) sc_LiveBook_titles.nd rfl (.inl rfl)), fun _ _ => (pv 2), fun _ _ => (pss_one (ps_set (i := 2) sc_LiveBook_titles.nd rfl (.inl rfl) (pe_op op_add (pv 2) (pe_call G_chapter_pages (hr.mono (by decide)) (by rfl) T.g_chapter_pages T.F_chapter_pages.kp T.b_chapter_pages .nil pass0 (pa_cons (pv 3) (pa_cons (pv 1) pa_nil)))))), ?_⟩
    obtain ⟨hj, kE⟩ := hw
    refine HS.genX ?_
    walk_at "hs"
    exact ⟨j, rfl, fun _ => kE, fun y => absurd hj (by omega)⟩
def sp_count_pages (K : PySem.W.Frag) : Sp := fun vs H Q _ => ∃ (b : Addr) (ls : List Int) (j : Int), vs = [.ref b, .int j] ∧ (SqL K H b (ls.map V.int) ∧ ls.length ≤ 50000 ∧ 1 ≤ j ∧ j < 2 ^ 200 ∧ ∀ H', HS.Keep (fun _ => False) H H' → Q (.int (pcount ls j)) H')
theorem ok_count_pages (T : Txt K mg A) : FnOk P w K mg base CX0 2 A.a_count_pages A.d_count_pages ["book", "size"] (sp_count_pages K) := by
  refine T.F_count_pages.ok sc_count_pages (fun vs H Q E h => ?_) (fun cdv A0 outer s H vs Q E hr h => ?_)
  · obtain ⟨b, ls, j, rfl, hw⟩ := h
    rfl
  · obtain ⟨b, ls, j, rfl, hw⟩ := h
    refine ⟨_, (pss_one (ps_ret (pe_op op_add (pe_callB (HS.klen K) (by rfl) T.z_len PySem.boot_len (pa_cons (pv 0) pa_nil)) (pe_callB (HS.ksum K rfl) (by rfl) T.z_sum (by decide +kernel) (pa_cons (pe_lc (own := [("length", 2)]) (g := gName 2) (tt := tYes) rfl sc_count_pages.nd (HS.kil K (pi_list (pv 0))) (blkOk_by (own := [("length", 2)]) (N := N_count_pages) (sc := defScope s_count_pages) (by decide +kernel)) (fun _ _ _ _ _ => pg_name (i := 2) sc_count_pages.nd rfl (by first | exact .inl rfl | exact .inr rfl)) (fun _ _ _ _ _ => pts_nil) (fun _ _ _ _ _ => (pe_op op_fdivW (pe_op op_sub (pv 2) pe_int) (pv 1)))) pa_nil))))), ?_⟩
    obtain ⟨hb, hl, h1, h2, k⟩ := hw
    walk_at "hs"
    rw [List.length_map]
    refine ⟨⟨_, hb⟩, fun D hD => lc_list (xs := ls.map V.int) (fun i H' => HS.Keep (fun _ => False) H H' ∧ H' D = some (.lst (((ls.take i).map fun x => (x - 1) / j).map V.int))) ⟨.new hD, upd_same⟩ (fun i H' _ ⟨K', _⟩ => K'.sq hb id) ?_ ?_⟩
    · rintro i x H1 hi ⟨K1, h3⟩
      obtain ⟨z, rfl, hz, hil⟩ := HS.get_int hi
      walk_at "hs"
      refine ⟨HS.divW 200 (by omega) h2 (by decide) (by decide), ?_⟩
      refine ⟨_, h3, HS.sz (by simp; omega), K1.put hD, ?_⟩
      rw [upd_same, List.take_add_one, hz, List.map_append, List.map_append]
      rfl
    · rintro H1 ⟨K1, h3⟩
      rw [List.length_map, List.take_length] at h3
      walk_at "hs"
      rw [pcount_less1 h1]
      exact k _ K1
def sp_lengths_of (K : PySem.W.Frag) (A : Ad) : Sp := fun vs H Q E => ∃ (t : Addr) (rows : List Int), vs = [.ref t] ∧ (SqL K H t (rows.map V.int) ∧ rows.length ≤ 1000 ∧ (∀ c, rows.getLast? = some c → c ≤ 1000) ∧
  (∀ w, readAll rows = .inl w → ∀ H' d, HS.Keep (fun _ => False) H H' → H d = none → H' d = some (.xd [("value", .int w)]) → E (.ref A.c_InvalidTable) (some d) H') ∧
  (∀ ls, readAll rows = .inr ls → ∀ H' p, HS.Keep (fun _ => False) H H' → H p = none → H' p = some (.lst (ls.map V.int)) → Q (.ref p) H'))
theorem ok_lengths_of (T : Txt K mg A) : FnOk P w K mg base (L2.CX P w) 3 A.a_lengths_of A.d_lengths_of ["table"] (sp_lengths_of K A) := by
  have G_InvalidTable___init__ : FnOk P w K mg base CX0 1 A.a_InvalidTable___init__ A.d_InvalidTable___init__ ["self", "value"] (sp_InvalidTable___init__ K) := ok_InvalidTable___init__ T
  have G_count_pages : FnOk P w K mg base CX0 2 A.a_count_pages A.d_count_pages ["book", "size"] (sp_count_pages K) := ok_count_pages T
  refine L2.Fun.okX T.F_lengths_of sc_lengths_of (fun vs H Q E h => ?_) (fun cdv A0 outer s H vs Q E hr h => ?_)
  · obtain ⟨t, rows, rfl, hw⟩ := h
    rfl
  · obtain ⟨t, rows, rfl, hw⟩ := h
    refine ⟨_, (pss_cons (ps_if (pt_not (pt_truth (pv 0) (by intro _; rfl)))
      (pss_one (ps_ret (pe_lst pa_nil)))
      pss_nil)
    (pss_cons (ps_set (i := 1) sc_lengths_of.nd rfl (.inl rfl) (pe_ix (HS.ixl K) (pv 0) (pe_un un_neg pe_int) (fun _ _ => rfl)))
    (pss_cons (ps_if (pt_cmpR op_lt (pv 1) pe_int (nomark _))
      (pss_one (ps_raise rfl (takes_of rfl rfl rfl rfl) (pmk_oex T.C_InvalidTable T.i_InvalidTable T.t_InvalidTable G_InvalidTable___init__ hr T.b_InvalidTable___init__ .nil pass0 (by rfl) T.m_InvalidTable (pa_cons (pe_callB (HS.klen K) (by rfl) T.z_len PySem.boot_len (pa_cons (pv 0) pa_nil)) pa_nil))))
      pss_nil)
    (pss_cons (ps_set (i := 2) sc_lengths_of.nd rfl (.inl rfl) (pe_lst pa_nil))
    (pss_cons (ps_for (passes_of rfl) rfl (pi_range3 (by rfl) T.z_range (pa_cons (pe_op op_sub (pe_callB (HS.klen K) (by rfl) T.z_len PySem.boot_len (pa_cons (pv 0) pa_nil)) pe_int) (pa_cons pe_int (pa_cons (pe_un un_neg pe_int) pa_nil)))) (pg_name (i := 3) sc_lengths_of.nd rfl (.inl rfl))
      (pss_cons (ps_set (i := 4) sc_lengths_of.nd rfl (.inl rfl) (pe_op op_sub (pv 1) (pe_callB (HS.klen K) (by rfl) T.z_len PySem.boot_len (pa_cons (pv 2) pa_nil))))
    (pss_cons (ps_set (i := 5) sc_lengths_of.nd rfl (.inl rfl) (pe_op op_sub (pe_op op_sub (pe_ix (HS.ixl K) (pv 0) (pe_op op_sub (pv 3) pe_int) (fun _ _ => rfl)) (pe_call G_count_pages hr (by rfl) T.g_count_pages T.F_count_pages.kp T.b_count_pages .nil pass0 (pa_cons (pv 2) (pa_cons (pv 3) pa_nil)))) (pv 4)))
    (pss_cons (ps_if (PW.pt (pw_or (pt_cmpR op_lt (pv 5) pe_int (nomark _)) (pw_or1 (pt_cmpR op_gt (pv 5) (pv 4) (nomark _)))))
      (pss_one (ps_raise rfl (takes_of rfl rfl rfl rfl) (pmk_oex T.C_InvalidTable T.i_InvalidTable T.t_InvalidTable G_InvalidTable___init__ hr T.b_InvalidTable___init__ .nil pass0 (by rfl) T.m_InvalidTable (pa_cons (pv 3) pa_nil))))
      pss_nil)
    (pss_one (ps_expr (HS.kbm K (pe_bm PySem.F.plainAttrs_list PySem.F.slot_list_extend PySem.F.type_list_extend mt_extend (pv 2) (pa_cons (pe_op op_rep (pe_lst (pa_cons (pe_op op_add (pv 3) pe_int) pa_nil)) (pv 5)) pa_nil)))))))))
    (pss_cons (ps_expr (HS.kbm K (pe_bm PySem.F.plainAttrs_list PySem.F.slot_list_extend PySem.F.type_list_extend mt_extend (pv 2) (pa_cons (pe_op op_rep (pe_lst (pa_cons pe_int pa_nil)) (pe_op op_sub (pv 1) (pe_callB (HS.klen K) (by rfl) T.z_len PySem.boot_len (pa_cons (pv 2) pa_nil)))) pa_nil))))
    (pss_one (ps_ret (pv 2))))))))), ?_⟩
    obtain ⟨ht, hs, hc, kE, kQ⟩ := hw
    walk_at "hs"
    cases hl : rows.getLast? with
    | none =>
      have e0 : rows = [] := List.getLast?_eq_none_iff.mp hl
      subst e0
      refine ⟨_, .inl ⟨_, ht, rfl⟩, ?_⟩
      refine HS.ifT (by rfl) ?_
      walk_at "hs"
      intro p hp
      exact kQ [] rfl _ p (.new hp) hp upd_same
    | some c =>
      obtain ⟨r0, er⟩ := List.getLast?_eq_some_iff.mp hl
      have hn : rows.length = r0.length + 1 := by rw [er, List.length_append]; rfl
      have hc1 := hc c hl
      refine ⟨_, .inl ⟨_, ht, rfl⟩, ?_⟩
      refine HS.ifF (by rw [er]; simp) ?_
      walk_at "hs"
      refine ⟨t, _, -1, _, rfl, rfl, ht, HS.at_last (ys := r0.map V.int) (by rw [er, List.map_append]; rfl), ?_⟩
      walk_at "hs"
      have eA : readAll rows = if c < 0 then .inl rows.length else readT rows c (rows.length - 1) [] := by unfold readAll; rw [hl]
      refine HS.itd (fun hc0 => ?_) (fun hc0 => ?_)
      · walk_at "hs"
        rw [List.length_map]
        exact HS.mk1 (fun H' Q' E' b h1 h2 h3 h4 => ⟨b, _, _, rfl, h1, h2, h3, h4⟩) T.C_InvalidTable T.n_InvalidTable fun H' d k hd e => kE _ (by rw [eA, if_pos hc0]) H' d k hd e
      rw [if_neg hc0] at eA
      walk_at "hs"
      intro D hD
      have ht2 := HS.Keep.sq (S := fun _ => False) (HS.Keep.new (o := .lst []) hD) ht id
      walk_at "hs"
      rw [List.length_map, hn]
      refine ⟨_, _, _, _, rfl, RgC.neg (by omega) (by omega) (by omega) (by omega), ?_⟩
      rw [show (((r0.length + 1 : Nat) : Int) - 1 - 0).toNat = r0.length by omega]
      refine for_rangeC (fun i σ H' => HS.Keep (fun _ => False) H H' ∧ i ≤ r0.length ∧ ∃ ls : List Int, H' D = some (.lst (ls.map V.int)) ∧ (ls.length : Int) ≤ c ∧ readT rows c (r0.length - i) ls = readAll rows ∧ ∃ x3 x4 x5, σ = [some (.ref t), some (.int c), some (.ref D), x3, x4, x5]) ?_ ?_ ?_
      · exact ⟨.new hD, Nat.zero_le _, [], upd_same, by simp; omega, by rw [eA, hn]; rfl, _, _, _, rfl⟩
      · rintro i σ H1 hi ⟨K1, _, ls, hl1, hlc, hR, x3, x4, x5, rfl⟩
        obtain ⟨s, es⟩ : ∃ s, r0.length - i = s + 1 := ⟨r0.length - i - 1, by omega⟩
        have hsz : ((r0.length + 1 : Nat) : Int) - 1 + (i : Nat) * -1 = (s : Int) + 1 := by push_cast; omega
        obtain ⟨z, hz⟩ : ∃ z, rows[s]? = some z := ⟨_, List.getElem?_eq_getElem (by omega)⟩
        have hg : rows.getD s 0 = z := by rw [List.getD_eq_getElem?_getD, hz]; rfl
        rw [es, readT, hg] at hR
        rw [hsz]
        walk_at "hs"
        refine HS.ixZ (K1.sq ht id) (by omega) (by rw [show ((s : Int) + 1 - 1).toNat = s by omega]; exact hz) ?_
        walk_at "hs"
        refine ⟨D, _, _, rfl, HS.sq hl1, by omega, by omega, by omega, fun H2 K2 => ?_⟩
        have hl2 := K2 _ _ hl1 id
        walk_at "hs"
        rw [List.length_map]
        generalize hf : z - pcount ls ((s : Int) + 1) - (c - ls.length) = f at hR ⊢
        have KK := K1.trans K2
        refine HS.itd (fun h0 => ?_) (fun h0 => ?_)
        · walk_at "hs"
          exact HS.mk1 (fun H' Q' E' b h1 h2 h3 h4 => ⟨b, _, _, rfl, h1, h2, h3, h4⟩) T.C_InvalidTable T.n_InvalidTable fun H' d k hd e => kE _ (by rw [← hR, if_pos (.inl h0)]) H' d (KK.trans k) (KK.free hd id) e
        walk_at "hs"
        refine HS.itd (fun h1 => ?_) (fun h1 => ?_)
        · walk_at "hs"
          exact HS.mk1 (fun H' Q' E' b h1 h2 h3 h4 => ⟨b, _, _, rfl, h1, h2, h3, h4⟩) T.C_InvalidTable T.n_InvalidTable fun H' d k hd e => kE _ (by rw [← hR, if_pos (.inr h1)]) H' d (KK.trans k) (KK.free hd id) e
        rw [if_neg (by omega)] at hR
        walk_at "hs"
        intro p hp
        walk_at "hs"
        refine HS.rep1 upd_same (by omega) (by omega) fun q hq => ?_
        have hne1 := ne_of_none hl2 hp
        have hne2 : D ≠ q := ne_of_none (show upd H2 p _ D = _ by rw [upd_ne hne1]; exact hl2) hq
        walk_at "hs"
        refine ⟨((KK.put (KK.free hp id)).put (HS.Keep.free (KK.put (KK.free hp id)) hq id)).put hD, by omega, ls ++ List.replicate f.toNat ((s : Int) + 2), ?_, ?_, ?_, _, _, _, rfl⟩
        · rw [upd_same, List.map_append, List.map_replicate, show (s : Int) + 1 + 1 = s + 2 by omega]
        · rw [List.length_append, List.length_replicate]; omega
        · rw [show r0.length - (i + 1) = s by omega]; exact hR
      · rintro σ H1 ⟨K1, _, ls, hl1, hlc, hR, x3, x4, x5, rfl⟩
        rw [Nat.sub_self, readT] at hR
        walk_at "hs"
        intro p hp
        walk_at "hs"
        rw [List.length_map]
        refine HS.rep1 upd_same (by omega) (by omega) fun q hq => ?_
        have hne1 := ne_of_none hl1 hp
        have hne2 : D ≠ q := ne_of_none (show upd H1 p _ D = _ by rw [upd_ne hne1]; exact hl1) hq
        walk_at "hs"
        refine kQ _ hR.symm _ D ((((K1.put (K1.free hp id)).put (HS.Keep.free (K1.put (K1.free hp id)) hq id)).put hD)) hD ?_
        rw [upd_same, List.map_append, List.map_replicate]
def sp_LiveBook_from_table (K : PySem.W.Frag) (A : Ad) : Sp := fun vs H Q E => ∃ (t : Addr) (rows : List Int), vs = [.ref A.c_LiveBook, .ref t] ∧ (SqL K H t (rows.map V.int) ∧ rows.length ≤ 300 ∧ (∀ c, rows.getLast? = some c → c ≤ 120) ∧ (∀ w, readAll rows = .inl w → ErrIs E H A.c_InvalidTable w) ∧
  (∀ ls, readAll rows = .inr ls → ls.length ≤ 1000 ∧ (∀ y ∈ ls, 1 ≤ y) ∧ ∀ H' o b p dx, HS.Keep (fun _ => False) H H' → H o = none → H b = none → H p = none → LivAt A.c_LiveBook H' o b p dx ls [] → Q (.ref o) H'))
theorem ok_LiveBook_from_table (T : Txt K mg A) : FnOk P w K mg base (L2.CX P w) 6 A.a_LiveBook_from_table A.d_LiveBook_from_table ["cls", "table"] (sp_LiveBook_from_table K A) := by
  have G_LiveBook___init__ : FnOk P w K mg base (L2.CX P w) 4 A.a_LiveBook___init__ A.d_LiveBook___init__ ["self", "book"] (sp_LiveBook___init__ K A) := ok_LiveBook___init__ T
  have G_lengths_of : FnOk P w K mg base (L2.CX P w) 3 A.a_lengths_of A.d_lengths_of ["table"] (sp_lengths_of K A) := ok_lengths_of T
  refine L2.Fun.okX T.F_LiveBook_from_table sc_LiveBook_from_table (fun vs H Q E h => ?_) (fun cdv A0 outer s H vs Q E hr h => ?_)
  · obtain ⟨t, rows, rfl, hw⟩ := h
    rfl
  · obtain ⟨t, rows, rfl, hw⟩ := h
    refine ⟨_, (pss_one (ps_ret (HS.pe_makeL (i := 0) T.K_LiveBook G_LiveBook___init__ hr rfl (.inl rfl) T.b_LiveBook___init__ .nil (passes_call (takes_of rfl rfl rfl rfl) (fun _ _ _ _ h => h)) (pa_cons (pe_call G_lengths_of (hr.mono (by decide)) (by rfl) T.g_lengths_of T.F_lengths_of.kp T.b_lengths_of .nil (passes_call (takes_of rfl rfl rfl rfl) (fun _ _ _ _ h => h)) (pa_cons (pv 1) pa_nil)) pa_nil)))), ?_⟩
    obtain ⟨ht, hl, hc, kE, k⟩ := hw
    walk_at "hs"
    refine HS.omakeL rfl ?_
    walk_at "hs"
    refine ⟨t, rows, rfl, ht, by omega, fun c e => by have := hc c e; omega, kE, fun ls hls H1 q K1 hq0 hq => ?_⟩
    obtain ⟨k1, k2, k⟩ := k ls hls
    walk_at "hs"
    intro x dx hx hdx hne
    have qx : q ≠ x := ne_of_none hq hx
    have qd : q ≠ dx := ne_of_none hq hdx
    refine ⟨x, dx, q, ls, rfl, upd_same, HS.sq (by rw [upd_ne qx, upd_ne qd]; exact hq), k1, fun i hi => absurd ((badAt_none k2).symm.trans hi) (by simp), fun _ H2 b p K2 hb0 hp0 h => ⟨rfl, ?_⟩⟩
    obtain ⟨K3, f1, f2⟩ := fresh_live hx hdx hne K2 hb0 hp0
    exact k H2 x b p dx (K1.trans K3) (K1.free hx id) (K1.free f1 id) (K1.free f2 id) h
def sp__law_pool (K : PySem.W.Frag) : Sp := fun vs H Q _ => ∃ (a : Addr) (ns : List Int) (at0 : Int), vs = [.ref a, .int at0] ∧ (SqL K H a (ns.map V.int) ∧ 0 ≤ at0 ∧ at0 ≤ 100 ∧ ∀ H' s, HS.Keep (fun _ => False) H H' → H s = none → Rng H' s 0 → Q (.ref s) H')
theorem ok__law_pool (T : Txt K mg A) : FnOk P w K mg base CX0 1 A.a__law_pool A.d__law_pool ["script", "at"] (sp__law_pool K) := by
  refine T.F__law_pool.ok sc__law_pool (fun vs H Q E h => ?_) (fun cdv A0 outer s H vs Q E hr h => ?_)
  · obtain ⟨a, ns, at0, rfl, hw⟩ := h
    rfl
  · obtain ⟨a, ns, at0, rfl, hw⟩ := h
    refine ⟨_, (pss_cons (ps_set (i := 2) sc__law_pool.nd rfl (.inl rfl) pe_int)
    (pss_cons (ps_if (pt_cmpR op_lt (pv 1) (pe_callB (HS.klen K) (by rfl) T.z_len PySem.boot_len (pa_cons (pv 0) pa_nil)) (nomark _))
      (pss_one (ps_set (i := 2) sc__law_pool.nd rfl (.inl rfl) (pe_ix (HS.ixl K) (pv 0) (pv 1) (fun _ _ => rfl))))
      pss_nil)
    (pss_one (ps_ret (pe_lst (pa_cons (pe_callB (call_max2 rfl) (by rfl) T.z_max (by decide +kernel) (pa_cons pe_int (pa_cons (pe_op op_sub (pe_callB call_abs (by rfl) T.z_abs (by decide +kernel) (pa_cons (pv 2) pa_nil)) (HS.pe_fold (1000000000000000000) (pe_op op_pow pe_int pe_int) (by intro σ H Q q; walk_at "fold"))) pa_nil))) (pa_cons (pe_op op_add (pe_op op_mod (pv 2) pe_int) (pe_op op_mul pe_int (pe_op op_add (pv 1) pe_int))) (pa_cons pe_int pa_nil)))))))), ?_⟩
    obtain ⟨hS, a0, a1, k⟩ := hw
    have go : ∀ (z : Int) (s : Addr) (H' : Hp), H' s = none → HS.Keep (fun _ => False) H H' → Q (.ref s) (upd H' s (.lst [.int (if (if z < 0 then -z else z) - 1000000000000000000 > 0 then (if z < 0 then -z else z) - 1000000000000000000 else 0), .int (z % 2305843009213693951 + 3367900313 * (at0 + 1)), .int 0])) := fun z s H' h K1 => by
      have b0 : 0 ≤ z % 2305843009213693951 := Int.emod_nonneg _ (by decide)
      have b1 : z % 2305843009213693951 < 2305843009213693951 := Int.emod_lt_of_pos _ (by decide)
      refine k _ s (K1.put (K1.free h id)) (K1.free h id) ⟨_, _, 0, upd_same, ?_, by omega, by omega, by decide, by decide⟩
      split <;> omega
    walk_at "hs"
    rw [List.length_map]
    refine HS.itd (fun hd => ?_) (fun hd => ?_)
    · walk_at "hs"
      refine HS.ixI ns hS a0 hd fun z _ _ => ?_
      walk_at "hs"
      exact fun s hs => go z s _ hs .refl
    · walk_at "hs"
      exact fun s hs => go 0 s _ hs .refl
def sp__law_draw (K : PySem.W.Frag) : Sp := fun vs H Q _ => ∃ (s : Addr) (many : Int) (n : Nat), vs = [.ref s, .int many] ∧ (Rng H s n ∧ 0 < many ∧ many < 2 ^ 200 ∧ n < 2 ^ 33 ∧ ∀ H' v, HS.Keep (fun a => a = s) H H' → Rng H' s (n + 1) → 0 ≤ v → v < many → Q (.int v) H')
theorem ok__law_draw (T : Txt K mg A) : FnOk P w K mg base CX0 1 A.a__law_draw A.d__law_draw ["pool", "many"] (sp__law_draw K) := by
  refine T.F__law_draw.ok sc__law_draw (fun vs H Q E h => ?_) (fun cdv A0 outer s H vs Q E hr h => ?_)
  · obtain ⟨s, many, n, rfl, hw⟩ := h
    rfl
  · obtain ⟨s, many, n, rfl, hw⟩ := h
    refine ⟨_, (pss_cons (ps_if (pt_cmpR op_gt (pe_ix (HS.ixl K) (pv 0) pe_int (fun _ _ => rfl)) pe_int (nomark _))
      (pss_cons (ps_set (i := 2) sc__law_draw.nd rfl (.inl rfl) (pe_op op_mod (pe_ix (HS.ixl K) (pv 0) pe_int (fun _ _ => rfl)) (pv 1)))
    (pss_cons (ps_asg (pe_op op_fdivW (pe_ix (HS.ixl K) (pv 0) pe_int (fun _ _ => rfl)) (pv 1)) (pg_sub (pv 0) pe_int set_list))
    (pss_one (ps_ret (pv 2)))))
      pss_nil)
    (pss_cons (ps_asg (pe_op op_add (pe_ix (HS.ixl K) (pv 0) pe_int (fun _ _ => rfl)) pe_int) (pg_sub (pv 0) pe_int set_list))
    (pss_cons (ps_set (i := 3) sc__law_draw.nd rfl (.inl rfl) (pe_op op_mod (pe_op HS.op_powW (pe_op op_add (pe_ix (HS.ixl K) (pv 0) pe_int (fun _ _ => rfl)) (pe_op op_mul pe_int (pe_ix (HS.ixl K) (pv 0) pe_int (fun _ _ => rfl)))) pe_int) pe_int))
    (pss_cons (ps_set (i := 3) sc__law_draw.nd rfl (.inl rfl) (pe_op op_mod (pe_op HS.op_powW (pe_op op_add (pv 3) (pe_op op_mul pe_int (pe_ix (HS.ixl K) (pv 0) pe_int (fun _ _ => rfl)))) pe_int) pe_int))
    (pss_one (ps_ret (pe_op op_mod (pe_op op_fdivW (pv 3) pe_int) (pv 1)))))))), ?_⟩
    obtain ⟨⟨l, m, c, hs, hl0, hm0, hm1, hc0, hc1⟩, hn0, hn1, hn, k⟩ := hw
    walk_at "hs"
    refine HS.itd (fun hl => ?_) (fun hl => ?_)
    · walk_at "hs"
      refine ⟨HS.divW 200 hn0 hn1 (by decide) (by decide), ?_⟩
      walk_at "hs"
      exact k _ _ (by walk_at "kp") ⟨l / many, m, c, upd_same, Int.ediv_nonneg hl0 (by omega), hm0, hm1, hc0, by omega⟩ (Int.emod_nonneg _ (by omega)) (Int.emod_lt_of_pos _ hn0)
    · walk_at "hs"
      refine ⟨HS.powW 66 (by omega) (by omega) (by decide) (by decide), ?_⟩
      walk_at "hs"
      have m0 : 0 ≤ (m + 15492367 * (c + 1)) ^ Int.toNat 3 % 162259276829213363391578010288127 := Int.emod_nonneg _ (by decide)
      have m1 : (m + 15492367 * (c + 1)) ^ Int.toNat 3 % 162259276829213363391578010288127 < 162259276829213363391578010288127 := Int.emod_lt_of_pos _ (by decide)
      generalize (m + 15492367 * (c + 1)) ^ Int.toNat 3 % 162259276829213363391578010288127 = z at m0 m1 ⊢
      refine ⟨HS.powW 128 (by omega) (by omega) (by decide) (by decide), ?_⟩
      walk_at "hs"
      exact k _ _ (by walk_at "kp") ⟨l, m, c + 1, upd_same, hl0, hm0, hm1, by omega, by omega⟩ (Int.emod_nonneg _ (by omega)) (Int.emod_lt_of_pos _ hn0)
def sp__law_length (K : PySem.W.Frag) : Sp := fun vs H Q _ => ∃ (s : Addr) (far : Int) (n : Nat), vs = [.ref s, .int far] ∧ (Rng H s n ∧ 1 ≤ far ∧ far < 10 ^ 30 ∧ n < 2 ^ 32 ∧ ∀ H' v, HS.Keep (fun a => a = s) H H' → Rng H' s (n + 2) → 1 ≤ v → v < 10 ^ 30 → Q (.int v) H')
theorem ok__law_length (T : Txt K mg A) : FnOk P w K mg base CX0 2 A.a__law_length A.d__law_length ["pool", "far"] (sp__law_length K) := by
  have G__law_draw : FnOk P w K mg base CX0 1 A.a__law_draw A.d__law_draw ["pool", "many"] (sp__law_draw K) := ok__law_draw T
  refine T.F__law_length.ok sc__law_length (fun vs H Q E h => ?_) (fun cdv A0 outer s H vs Q E hr h => ?_)
  · obtain ⟨s, far, n, rfl, hw⟩ := h
    rfl
  · obtain ⟨s, far, n, rfl, hw⟩ := h
    refine ⟨_, (pss_one (ps_ret (pe_op op_add pe_int (pe_call G__law_draw hr (by rfl) T.g__law_draw T.F__law_draw.kp T.b__law_draw .nil pass0 (pa_cons (pv 0) (pa_cons (pe_ix (HS.ixl K) (pe_lst (pa_cons pe_int (pa_cons pe_int (pa_cons pe_int (pa_cons (pv 1) pa_nil))))) (pe_call G__law_draw hr (by rfl) T.g__law_draw T.F__law_draw.kp T.b__law_draw .nil pass0 (pa_cons (pv 0) (pa_cons pe_int pa_nil))) (fun _ _ => rfl)) pa_nil)))))), ?_⟩
    obtain ⟨S0, f0, f1, hn, k⟩ := hw
    walk_at "hs"
    intro p hp
    have e1 := S0.ne hp
    walk_at "hs"
    refine ⟨s, 4, _, rfl, S0.new hp, by decide, by decide, by omega, fun H1 d K1 S1 d0 d1 => ?_⟩
    have hp1 := K1 _ _ upd_same e1
    refine HS.ixI [6, 30, 200, far] (HS.sq hp1) d0 d1 fun z _ hz => ?_
    have hz' : 1 ≤ z ∧ z < 10 ^ 30 := by
      simp only [List.mem_cons, List.not_mem_nil, or_false] at hz
      rcases hz with rfl | rfl | rfl | rfl <;> omega
    walk_at "hs"
    refine ⟨s, z, _, rfl, S1, by omega, by omega, by omega, fun H2 e K2 S2 e0 e1 => ?_⟩
    walk_at "hs"
    exact k _ _ (((HS.Keep.new hp).trans K1).trans K2) S2 (by omega) (by omega)
def sp__law_book (K : PySem.W.Frag) : Sp := fun vs H Q _ => ∃ (s : Addr) (most far : Int) (n : Nat), vs = [.ref s, .int most, .int far] ∧ (Rng H s n ∧ 0 ≤ most ∧ most ≤ 100 ∧ 1 ≤ far ∧ far < 10 ^ 30 ∧ n < 2 ^ 31 ∧ ∀ H' p (ls : List Int), HS.Keep (fun a => a = s) H H' → H p = none → p ≠ s → H' p = some (.lst (ls.map V.int)) → (ls.length : Int) ≤ most → Lens ls (10 ^ 30 - 1) → Rng H' s (n + 401) → Q (.ref p) H')
theorem ok__law_book (T : Txt K mg A) : FnOk P w K mg base CX0 3 A.a__law_book A.d__law_book ["pool", "most", "far"] (sp__law_book K) := by
  have G__law_draw : FnOk P w K mg base CX0 1 A.a__law_draw A.d__law_draw ["pool", "many"] (sp__law_draw K) := ok__law_draw T
  have G__law_length : FnOk P w K mg base CX0 2 A.a__law_length A.d__law_length ["pool", "far"] (sp__law_length K) := ok__law_length T
  refine T.F__law_book.ok sc__law_book (fun vs H Q E h => ?_) (fun cdv A0 outer s H vs Q E hr h => ?_)
  · obtain ⟨s, most, far, n, rfl, hw⟩ := h
    rfl
  · obtain ⟨s, most, far, n, rfl, hw⟩ := h
    refine ⟨_, (pss_cons (ps_set (i := 3) sc__law_book.nd rfl (.inl rfl) (pe_lst pa_nil))
    (pss_cons (ps_for PassesOwn.never rfl (pi_range1 (by rfl) T.z_range (pa_cons (pe_call G__law_draw (hr.mono (by decide)) (by rfl) T.g__law_draw T.F__law_draw.kp T.b__law_draw .nil pass0 (pa_cons (pv 0) (pa_cons (pe_op op_add (pv 1) pe_int) pa_nil))) pa_nil)) (pg_name (i := 4) sc__law_book.nd rfl (.inl rfl))
      (pss_one (ps_if (PW.pt (pw_and (pt_cmpR (HS.kne K (hu64 hr)) (pv 3) (pe_lst pa_nil) (nomark _)) (pw_and1 (pt_cmpR op_eq (pe_call G__law_draw (hr.mono (by decide)) (by rfl) T.g__law_draw T.F__law_draw.kp T.b__law_draw .nil pass0 (pa_cons (pv 0) (pa_cons pe_int pa_nil))) pe_int (nomark _)))))
      (pss_one (ps_expr (HS.kbm K (pe_bm PySem.F.plainAttrs_list PySem.F.slot_list_append PySem.F.type_list_append mt_append (pv 3) (pa_cons (pe_ix (HS.ixl K) (pv 3) (pe_call G__law_draw (hr.mono (by decide)) (by rfl) T.g__law_draw T.F__law_draw.kp T.b__law_draw .nil pass0 (pa_cons (pv 0) (pa_cons (pe_callB (HS.klen K) (by rfl) T.z_len PySem.boot_len (pa_cons (pv 3) pa_nil)) pa_nil))) (fun _ _ => rfl)) pa_nil)))))
      (pss_one (ps_expr (HS.kbm K (pe_bm PySem.F.plainAttrs_list PySem.F.slot_list_append PySem.F.type_list_append mt_append (pv 3) (pa_cons (pe_call G__law_length hr (by rfl) T.g__law_length T.F__law_length.kp T.b__law_length .nil pass0 (pa_cons (pv 0) (pa_cons (pv 2) pa_nil))) pa_nil))))))))
    (pss_one (ps_ret (pv 3))))), ?_⟩
    obtain ⟨S0, m0, m1, f0, f1, hn, k⟩ := hw
    walk_at "hs"
    intro D hD
    have hDs := S0.ne hD
    walk_at "hs"
    refine ⟨s, _, _, rfl, S0.new hD, by omega, by omega, by omega, fun H1 cnt K1 S1 c0 c1 => ?_⟩
    have KK1 : HS.Keep (fun a => a = s) H H1 := (HS.Keep.new hD).trans K1
    walk_at "hs"
    refine ⟨by omega, by omega, for_range (n := cnt.toNat) (fun i σ H' => HS.Keep (fun a => a = s) H H' ∧ (∃ ls : List Int, H' D = some (.lst (ls.map V.int)) ∧ ls.length = i ∧ Lens ls (10 ^ 30 - 1)) ∧ Rng H' s (n + 1 + 4 * i) ∧ ∃ x4, σ = [some (.ref s), some (.int most), some (.int far), some (.ref D), x4]) ?_ ?_ ?_⟩
    · exact ⟨KK1, ⟨[], K1 _ _ upd_same hDs, rfl, fun x hx => absurd hx List.not_mem_nil⟩, S1, _, rfl⟩
    · rintro i σ H3 hi ⟨K3, ⟨ls, hls, hll, hL⟩, S3, x4, rfl⟩
      walk_at "hs"
      intro p hp
      have e1 := S3.ne hp
      have e2 : D ≠ p := ne_of_none hls hp
      refine HS.neL (xs := ls) (ys := []) (HS.sq (by rw [upd_ne e2]; exact hls)) (HS.sq upd_same) ?_
      have hls4 : upd H3 p (.lst []) D = some (.lst (ls.map V.int)) := by rw [upd_ne e2]; exact hls
      have K4 : HS.Keep (fun a => a = s) H3 (upd H3 p (.lst [])) := .new hp
      have S4 := S3.new (o := .lst []) hp
      generalize upd H3 p (.lst []) = H4 at hls4 K4 S4 ⊢
      have K34 := K3.trans K4
      walk_at "hs"
      refine HS.itn (fun hc => ?_) (fun hc => ?_)
      · have hl0 : 0 < ls.length := List.length_pos_iff.mpr hc
        walk_at "hs"
        refine ⟨s, 3, _, rfl, S4, by decide, by decide, by omega, fun H5 a K5 S5 a0 a1 => ?_⟩
        have hls5 := K5 _ _ hls4 hDs
        walk_at "hs"
        refine HS.itd (fun ha => ?_) (fun ha => ?_)
        · walk_at "hs"
          rw [List.length_map]
          refine ⟨s, _, _, rfl, S5, by omega, by omega, by omega, fun H6 b K6 S6 b0 b1 => ?_⟩
          have hls6 := K6 _ _ hls5 hDs
          refine HS.ixI ls (HS.sq hls6) b0 b1 fun z _ hz => ?_
          walk_at "hs"
          refine ⟨((K34.trans K5).trans K6).put hD, ⟨ls ++ [z], by rw [upd_same, List.map_append]; rfl, by walk_at "len", fun x hx => ?_⟩, (S6.put hDs).up (by omega), _, rfl⟩
          rcases List.mem_append.mp hx with hx | hx
          · exact hL x hx
          · rw [List.mem_singleton] at hx
            exact hx ▸ hL z hz
        · walk_at "hs"
          refine ⟨s, far, _, rfl, S5, f0, f1, by omega, fun H6 b K6 S6 b0 b1 => ?_⟩
          have hls6 := K6 _ _ hls5 hDs
          walk_at "hs"
          refine ⟨((K34.trans K5).trans K6).put hD, ⟨ls ++ [b], by rw [upd_same, List.map_append]; rfl, by walk_at "len", fun x hx => ?_⟩, (S6.put hDs).up (by omega), _, rfl⟩
          rcases List.mem_append.mp hx with hx | hx
          · exact hL x hx
          · rw [List.mem_singleton] at hx
            subst hx
            omega
      · walk_at "hs"
        refine ⟨s, far, _, rfl, S4, f0, f1, by omega, fun H6 b K6 S6 b0 b1 => ?_⟩
        have hls6 := K6 _ _ hls4 hDs
        walk_at "hs"
        refine ⟨(K34.trans K6).put hD, ⟨ls ++ [b], by rw [upd_same, List.map_append]; rfl, by walk_at "len", fun x hx => ?_⟩, (S6.put hDs).up (by omega), _, rfl⟩
        rcases List.mem_append.mp hx with hx | hx
        · exact hL x hx
        · rw [List.mem_singleton] at hx
          subst hx
          omega
    · rintro σ H3 ⟨K3, ⟨ls, hls, hll, hL⟩, S3, x4, rfl⟩
      walk_at "hs"
      exact k _ D ls K3 hD hDs hls (by omega) hL (S3.up (by omega))
def sp__law_pages (K : PySem.W.Frag) : Sp := fun vs H Q _ => ∃ (b : Addr) (ls : List Int) (j : Int), vs = [.ref b, .int j] ∧ (SqL K H b (ls.map V.int) ∧ ls.length ≤ 50000 ∧ 1 ≤ j ∧ j < 2 ^ 200 ∧ ∀ H', HS.Keep (fun _ => False) H H' → Q (.int (pcount ls j)) H')
theorem ok__law_pages (T : Txt K mg A) : FnOk P w K mg base CX0 1 A.a__law_pages A.d__law_pages ["lengths", "lines_here"] (sp__law_pages K) := by
  refine T.F__law_pages.ok sc__law_pages (fun vs H Q E h => ?_) (fun cdv A0 outer s H vs Q E hr h => ?_)
  · obtain ⟨b, ls, j, rfl, hw⟩ := h
    rfl
  · obtain ⟨b, ls, j, rfl, hw⟩ := h
    refine ⟨_, (pss_one (ps_ret (pe_callB (HS.ksum K rfl) (by rfl) T.z_sum (by decide +kernel) (pa_cons (pe_lc (own := [("one", 2)]) (g := gName 2) (tt := tYes) rfl sc__law_pages.nd (HS.kil K (pi_list (pv 0))) (blkOk_by (own := [("one", 2)]) (N := N__law_pages) (sc := defScope s__law_pages) (by decide +kernel)) (fun _ _ _ _ _ => pg_name (i := 2) sc__law_pages.nd rfl (by first | exact .inl rfl | exact .inr rfl)) (fun _ _ _ _ _ => pts_nil) (fun _ _ _ _ _ => (pe_op op_fdivW (pe_op op_sub (pe_op op_add (pv 2) (pv 1)) pe_int) (pv 1)))) pa_nil)))), ?_⟩
    obtain ⟨hb, hl, h1, h2, k⟩ := hw
    walk_at "hs"
    refine ⟨⟨_, hb⟩, fun D hD => lc_list (xs := ls.map V.int) (fun i H' => HS.Keep (fun _ => False) H H' ∧ H' D = some (.lst (((ls.take i).map fun x => (x + j - 1) / j).map V.int))) ⟨.new hD, upd_same⟩ (fun i H' _ ⟨K', _⟩ => K'.sq hb id) ?_ ?_⟩
    · rintro i x H1 hi ⟨K1, h3⟩
      obtain ⟨z, rfl, hz, hil⟩ := HS.get_int hi
      walk_at "hs"
      refine ⟨HS.divW 200 (by omega) h2 (by decide) (by decide), ?_⟩
      walk_at "hs"
      refine ⟨_, h3, HS.sz (by simp; omega), K1.put hD, ?_⟩
      rw [upd_same, List.take_add_one, hz, List.map_append, List.map_append]
      rfl
    · rintro H1 ⟨K1, h3⟩
      rw [List.length_map, List.take_length] at h3
      refine HS.sumL (HS.sq h3) ?_
      exact k _ K1
def sp__law_kind (K : PySem.W.Frag) (A : Ad) : Sp := fun vs H Q _ => ∃ (e D : Addr) (fs : List (Str × V)) (c : Nat), vs = [.ref e] ∧ (HS.Exh H e D fs ∧ ExcC K D ∧ KindOf K A D c ∧ ∀ H', HS.Keep (fun _ => False) H H' → Q (.str (kword c)) H')
theorem ok__law_kind (T : Txt K mg A) : FnOk P w K mg base CX0 1 A.a__law_kind A.d__law_kind ["caught"] (sp__law_kind K A) := by
  refine T.F__law_kind.ok sc__law_kind (fun vs H Q E h => ?_) (fun cdv A0 outer s H vs Q E hr h => ?_)
  · obtain ⟨e, D, fs, c, rfl, hw⟩ := h
    rfl
  · obtain ⟨e, D, fs, c, rfl, hw⟩ := h
    refine ⟨_, (pss_cons (ps_set (i := 1) sc__law_kind.nd rfl (.inl rfl) (pe_lst (pa_cons (pe_callB (HS.kisX K) (by rfl) T.z_isinstance (by decide +kernel) (pa_cons (pv 0) (pa_cons (pe_glob (v := .ref A.c_InvalidBook) (by rfl) T.m_InvalidBook rfl) pa_nil))) (pa_cons (pe_callB (HS.kisX K) (by rfl) T.z_isinstance (by decide +kernel) (pa_cons (pv 0) (pa_cons (pe_glob (v := .ref A.c_InvalidSize) (by rfl) T.m_InvalidSize rfl) pa_nil))) (pa_cons (pe_callB (HS.kisX K) (by rfl) T.z_isinstance (by decide +kernel) (pa_cons (pv 0) (pa_cons (pe_glob (v := .ref A.c_InvalidTable) (by rfl) T.m_InvalidTable rfl) pa_nil))) pa_nil)))))
    (pss_cons (ps_set (i := 1) sc__law_kind.nd rfl (.inl rfl) (pe_op op_cat (pv 1) (pe_lst (pa_cons (pe_callB (HS.kisX K) (by rfl) T.z_isinstance (by decide +kernel) (pa_cons (pv 0) (pa_cons (pe_glob (v := .ref A.c_InvalidChain) (by rfl) T.m_InvalidChain rfl) pa_nil))) (pa_cons (pe_callB (HS.kisX K) (by rfl) T.z_isinstance (by decide +kernel) (pa_cons (pv 0) (pa_cons (pe_glob (v := .ref A.c_InvalidNumber) (by rfl) T.m_InvalidNumber rfl) pa_nil))) pa_nil)))))
    (pss_cons (ps_set (i := 1) sc__law_kind.nd rfl (.inl rfl) (pe_op op_cat (pv 1) (pe_lst (pa_cons (pe_callB (HS.kisX K) (by rfl) T.z_isinstance (by decide +kernel) (pa_cons (pv 0) (pa_cons (pe_glob (v := .ref A.c_NothingToUndo) (by rfl) T.m_NothingToUndo rfl) pa_nil))) (pa_cons (pe_callB (HS.kisX K) (by rfl) T.z_isinstance (by decide +kernel) (pa_cons (pv 0) (pa_cons (pe_glob (v := .ref A.c_Unreadable) (by rfl) T.m_Unreadable rfl) pa_nil))) pa_nil)))))
    (pss_cons (ps_if (PW.pt (pw_or (pt_not (pt_val (pe_callB (HS.kisX K) (by rfl) T.z_isinstance (by decide +kernel) (pa_cons (pv 0) (pa_cons (pe_glob (v := .ref A.c_BookError) (by rfl) T.m_BookError rfl) pa_nil))))) (pw_or (pt_not (pt_val (pe_callB (HS.kisX K) (by rfl) T.z_isinstance (by decide +kernel) (pa_cons (pv 0) (pa_cons (pe_bltn (v := .ty "ValueError") (by rfl) T.z_ValueError (by decide +kernel) rfl) pa_nil))))) (pw_or1 (pt_cmpR op_ne (HS.kbm K (pe_bm PySem.F.plainAttrs_list PySem.F.slot_list_count PySem.F.type_list_count (HS.kcountD K (HS.hu65 hr)) (pv 1) (pa_cons pe_bl pa_nil))) pe_int (nomark _))))))
      (pss_one (ps_ret pe_str))
      pss_nil)
    (pss_one (ps_ret (pe_ix (HS.ixl K) (pe_lst (pa_cons pe_str (pa_cons pe_str (pa_cons pe_str (pa_cons pe_str (pa_cons pe_str (pa_cons pe_str (pa_cons pe_str pa_nil)))))))) (HS.kbm K (pe_bm PySem.F.plainAttrs_list PySem.F.slot_list_index PySem.F.type_list_index (HS.kindexD K (HS.hu65 hr)) (pv 1) (pa_cons pe_bl pa_nil))) (fun _ _ => rfl)))))))), ?_⟩
    obtain ⟨hE, T1, ⟨hc, q0, q1, q2, q3, q4, q5, q6, qb, qv⟩, k⟩ := hw
    have W := HS.Wd.nil (H := H) (S := fun _ => False)
    walk_at "hs"
    refine HS.isX T1 hE q0 ?_
    walk_at "hs"
    refine HS.isX T1 hE q1 ?_
    walk_at "hs"
    refine HS.isX T1 hE q2 ?_
    walk_at "hs"
    intro p0 h0
    generalize hG_p0 : upd _ p0 _ = H1
    have Kn_p0 := HS.upgK hG_p0 h0
    replace W := W.newG hG_p0 h0
    clear hG_p0 h0
    try dsimp only [List.set, List.cons_append, List.nil_append] at W
    walk_at "hs"
    refine HS.isX T1 (hE.same W.kp) q3 ?_
    walk_at "hs"
    refine HS.isX T1 (hE.same W.kp) q4 ?_
    walk_at "hs"
    intro p1 h1
    generalize hG_p1 : upd _ p1 _ = H2
    have Kn_p1 := HS.upgK hG_p1 h1
    replace W := W.newG hG_p1 h1
    clear hG_p1 h1
    try dsimp only [List.set, List.cons_append, List.nil_append] at W
    refine HS.cat (W.at 0 rfl) (W.at 1 rfl) ?_
    walk_at "hs"
    intro p2 h2
    generalize hG_p2 : upd _ p2 _ = H3
    have Kn_p2 := HS.upgK hG_p2 h2
    replace W := W.newG hG_p2 h2
    clear hG_p2 h2
    try dsimp only [List.set, List.cons_append, List.nil_append] at W
    walk_at "hs"
    refine HS.isX T1 (hE.same W.kp) q5 ?_
    walk_at "hs"
    refine HS.isX T1 (hE.same W.kp) q6 ?_
    walk_at "hs"
    intro p3 h3
    generalize hG_p3 : upd _ p3 _ = H4
    have Kn_p3 := HS.upgK hG_p3 h3
    replace W := W.newG hG_p3 h3
    clear hG_p3 h3
    try dsimp only [List.set, List.cons_append, List.nil_append] at W
    refine HS.cat (W.at 2 rfl) (W.at 3 rfl) ?_
    walk_at "hs"
    intro p4 h4
    generalize hG_p4 : upd _ p4 _ = H5
    have Kn_p4 := HS.upgK hG_p4 h4
    replace W := W.newG hG_p4 h4
    clear hG_p4 h4
    try dsimp only [List.set, List.cons_append, List.nil_append] at W
    walk_at "hs"
    refine HS.isX T1 (hE.same W.kp) qb ?_
    walk_at "hs"
    refine HS.isXt T1 (hE.same W.kp) qv ?_
    walk_at "hs"
    refine HS.tyL (W.at 4 rfl) ?_
    walk_at "hs"
    have cc : c = 0 ∨ c = 1 ∨ c = 2 ∨ c = 3 ∨ c = 4 ∨ c = 5 ∨ c = 6 := by omega
    have hD := fun (H : Hp) (h : H p4 = _) => Dp.lst (K := K) (HS.sq h) (.cons (.bl (decide (c = 0))) (.cons (.bl (decide (c = 1))) (.cons (.bl (decide (c = 2))) (.cons (.bl (decide (c = 3))) (.cons (.bl (decide (c = 4))) (.cons (.bl (decide (c = 5))) (.cons (.bl (decide (c = 6))) .nil)))))))
    rcases cc with rfl | rfl | rfl | rfl | rfl | rfl | rfl
    all_goals
      refine ⟨p4, _, .bool true, _, rfl, rfl, hD _ (W.at 4 rfl), .bl true, by decide +kernel, by decide +kernel, ?_⟩
      rw [show (List.countP _ _ : Nat) = 1 from by decide +kernel]
      walk_at "hs"
      refine HS.in0 rfl ?_
      walk_at "hs"
      intro u hu
      have W2 := W.new (o := .lst [V.str "book", V.str "size", V.str "table", V.str "chain", V.str "number", V.str "undo", V.str "read"]) (P := fun _ => True) hu trivial
      walk_at "hs"
      refine HS.tyL (W2.at 4 rfl) ?_
      walk_at "hs"
    · refine ⟨p4, _, .bool true, _, 0, .bool true, rfl, rfl, hD _ (W2.at 4 rfl), .bl true, by decide +kernel, by decide +kernel, rfl, by decide +kernel, none_ahead (by decide +kernel), ?_⟩
      walk_at "hs"
      exact k _ W2.kp
    · refine ⟨p4, _, .bool true, _, 1, .bool true, rfl, rfl, hD _ (W2.at 4 rfl), .bl true, by decide +kernel, by decide +kernel, rfl, by decide +kernel, none_ahead (by decide +kernel), ?_⟩
      walk_at "hs"
      exact k _ W2.kp
    · refine ⟨p4, _, .bool true, _, 2, .bool true, rfl, rfl, hD _ (W2.at 4 rfl), .bl true, by decide +kernel, by decide +kernel, rfl, by decide +kernel, none_ahead (by decide +kernel), ?_⟩
      walk_at "hs"
      exact k _ W2.kp
    · refine ⟨p4, _, .bool true, _, 3, .bool true, rfl, rfl, hD _ (W2.at 4 rfl), .bl true, by decide +kernel, by decide +kernel, rfl, by decide +kernel, none_ahead (by decide +kernel), ?_⟩
      walk_at "hs"
      exact k _ W2.kp
    · refine ⟨p4, _, .bool true, _, 4, .bool true, rfl, rfl, hD _ (W2.at 4 rfl), .bl true, by decide +kernel, by decide +kernel, rfl, by decide +kernel, none_ahead (by decide +kernel), ?_⟩
      walk_at "hs"
      exact k _ W2.kp
    · refine ⟨p4, _, .bool true, _, 5, .bool true, rfl, rfl, hD _ (W2.at 4 rfl), .bl true, by decide +kernel, by decide +kernel, rfl, by decide +kernel, none_ahead (by decide +kernel), ?_⟩
      walk_at "hs"
      exact k _ W2.kp
    · refine ⟨p4, _, .bool true, _, 6, .bool true, rfl, rfl, hD _ (W2.at 4 rfl), .bl true, by decide +kernel, by decide +kernel, rfl, by decide +kernel, none_ahead (by decide +kernel), ?_⟩
      walk_at "hs"
      exact k _ W2.kp
def sp__law_added (K : PySem.W.Frag) (A : Ad) : Sp := fun vs H Q E => ∃ (o b p dx t : Addr) (ls ms : List Int) (ps : List Addr), vs = [.ref o, .ref t] ∧ (LivAt A.c_LiveBook H o b p dx ls ps ∧ SqL K H t (ms.map V.int) ∧ ms.length ≤ 4 ∧ ls.length ≤ 900 ∧ ps.length ≤ 1000 ∧ (∀ i : Nat, badAt ms = some i → ErrIs E H A.c_InvalidBook i) ∧ (badAt ms = none → ∀ H' c, HS.Keep (fun a => a = o ∨ a = p) H H' → H c = none → LivAt A.c_LiveBook H' o c p dx (ls ++ ms) (ps ++ [b]) → Q .non H'))
theorem ok__law_added (T : Txt K mg A) : FnOk P w K mg base (L2.CX P w) 6 A.a__law_added A.d__law_added ["live", "some"] (sp__law_added K A) := by
  have G_LiveBook_add : FnR P w K mg base (L2.CX P w) 4 A.a_LiveBook_add (HS.starS 1 (sp_LiveBook_add K A)) := ok_LiveBook_add T
  refine L2.Fun.okX T.F__law_added sc__law_added (fun vs H Q E h => ?_) (fun cdv A0 outer s H vs Q E hr h => ?_)
  · obtain ⟨o, b, p, dx, t, ls, ms, ps, rfl, hw⟩ := h
    rfl
  · obtain ⟨o, b, p, dx, t, ls, ms, ps, rfl, hw⟩ := h
    refine ⟨_, (pss_cons (ps_if (pt_cmpR op_eq (pe_callB (HS.klen K) (by rfl) T.z_len PySem.boot_len (pa_cons (pv 1) pa_nil)) pe_int (nomark _))
      (pss_one (ps_ret (HS.pe_methR0 (pv 0) T.C_LiveBook T.M_LiveBook_add G_LiveBook_add (hr.mono (by decide)) (passes_call (takes_of rfl rfl rfl rfl) (fun _ _ _ _ h => h)))))
      pss_nil)
    (pss_cons (ps_if (pt_cmpR op_eq (pe_callB (HS.klen K) (by rfl) T.z_len PySem.boot_len (pa_cons (pv 1) pa_nil)) pe_int (nomark _))
      (pss_one (ps_ret (pe_methR (pv 0) T.C_LiveBook T.M_LiveBook_add G_LiveBook_add (hr.mono (by decide)) (passes_call (takes_of rfl rfl rfl rfl) (fun _ _ _ _ h => h)) (pa_cons (pe_ix (HS.ixl K) (pv 1) pe_int (fun _ _ => rfl)) pa_nil))))
      pss_nil)
    (pss_cons (ps_if (pt_cmpR op_eq (pe_callB (HS.klen K) (by rfl) T.z_len PySem.boot_len (pa_cons (pv 1) pa_nil)) pe_int (nomark _))
      (pss_one (ps_ret (pe_methR (pv 0) T.C_LiveBook T.M_LiveBook_add G_LiveBook_add (hr.mono (by decide)) (passes_call (takes_of rfl rfl rfl rfl) (fun _ _ _ _ h => h)) (pa_cons (pe_ix (HS.ixl K) (pv 1) pe_int (fun _ _ => rfl)) (pa_cons (pe_ix (HS.ixl K) (pv 1) pe_int (fun _ _ => rfl)) pa_nil)))))
      pss_nil)
    (pss_cons (ps_if (pt_cmpR op_eq (pe_callB (HS.klen K) (by rfl) T.z_len PySem.boot_len (pa_cons (pv 1) pa_nil)) pe_int (nomark _))
      (pss_one (ps_ret (pe_methR (pv 0) T.C_LiveBook T.M_LiveBook_add G_LiveBook_add (hr.mono (by decide)) (passes_call (takes_of rfl rfl rfl rfl) (fun _ _ _ _ h => h)) (pa_cons (pe_ix (HS.ixl K) (pv 1) pe_int (fun _ _ => rfl)) (pa_cons (pe_ix (HS.ixl K) (pv 1) pe_int (fun _ _ => rfl)) (pa_cons (pe_ix (HS.ixl K) (pv 1) pe_int (fun _ _ => rfl)) pa_nil))))))
      pss_nil)
    (pss_one (ps_ret (pe_methR (pv 0) T.C_LiveBook T.M_LiveBook_add G_LiveBook_add (hr.mono (by decide)) (passes_call (takes_of rfl rfl rfl rfl) (fun _ _ _ _ h => h)) (pa_cons (pe_ix (HS.ixl K) (pv 1) pe_int (fun _ _ => rfl)) (pa_cons (pe_ix (HS.ixl K) (pv 1) pe_int (fun _ _ => rfl)) (pa_cons (pe_ix (HS.ixl K) (pv 1) pe_int (fun _ _ => rfl)) (pa_cons (pe_ix (HS.ixl K) (pv 1) pe_int (fun _ _ => rfl)) pa_nil))))))))))), ?_⟩
    obtain ⟨h0, ht, hm, hl, hp, kE, k⟩ := hw
    have go : HS.starS 1 (sp_LiveBook_add K A) (.ref o :: ms.map V.int) H Q E := by
      refine ⟨[.ref o], ms.map V.int, rfl, rfl, Nat.le_of_lt (HS.sz (by rw [List.length_map]; omega)), fun q hq => ?_⟩
      exact ⟨o, b, p, dx, q, ls, ms, ps, rfl, h0.new hq, upd_same, by omega, hp, fun i hi => (kE i hi).mono (.new hq), fun hL H' c K' hc hv => k hL H' c (HS.Keep.trans (HS.Keep.new hq) K') ((HS.Keep.new (S := fun _ => False) hq).free hc id) hv⟩
    walk_at "hs"
    rcases ms with _ | ⟨y1, _ | ⟨y2, _ | ⟨y3, _ | ⟨y4, _ | ⟨y5, r⟩⟩⟩⟩⟩
    · refine HS.it1 (by simp) ?_
      walk_at "hs"
      refine ⟨o, dx, _, rfl, h0.eo, lf_no (by decide +kernel) (by decide +kernel), ?_⟩
      walk_at "hs"
      exact go
    · refine HS.it0 (by simp) ?_
      walk_at "hs"
      refine HS.it1 (by simp) ?_
      walk_at "hs"
      refine ⟨o, dx, _, rfl, h0.eo, lf_no (by decide +kernel) (by decide +kernel), ?_⟩
      walk_at "hs"
      exact go
    · refine HS.it0 (by simp) ?_
      walk_at "hs"
      refine HS.it0 (by simp) ?_
      walk_at "hs"
      refine HS.it1 (by simp) ?_
      walk_at "hs"
      refine ⟨o, dx, _, rfl, h0.eo, lf_no (by decide +kernel) (by decide +kernel), ?_⟩
      walk_at "hs"
      exact go
    · refine HS.it0 (by simp) ?_
      walk_at "hs"
      refine HS.it0 (by simp) ?_
      walk_at "hs"
      refine HS.it0 (by simp) ?_
      walk_at "hs"
      refine HS.it1 (by simp) ?_
      walk_at "hs"
      refine ⟨o, dx, _, rfl, h0.eo, lf_no (by decide +kernel) (by decide +kernel), ?_⟩
      walk_at "hs"
      exact go
    · refine HS.it0 (by simp) ?_
      walk_at "hs"
      refine HS.it0 (by simp) ?_
      walk_at "hs"
      refine HS.it0 (by simp) ?_
      walk_at "hs"
      refine HS.it0 (by simp) ?_
      walk_at "hs"
      refine ⟨o, dx, _, rfl, h0.eo, lf_no (by decide +kernel) (by decide +kernel), ?_⟩
      walk_at "hs"
      exact go
    · simp only [List.length_cons] at hm
      omega
def sp__law_told_right (K : PySem.W.Frag) (A : Ad) : Sp := fun vs H Q _ => ∃ (o b p dx t : Addr) (ls : List Int) (ps : List Addr) (j : Int), vs = [.ref o, .ref t, .int j] ∧ (LivAt A.c_LiveBook H o b p dx ls ps ∧ SqL K H t (ls.map V.int) ∧ ls.length ≤ 900 ∧ 1 ≤ j ∧ j < 2 ^ 200 ∧ ∀ H', HS.Keep (fun _ => False) H H' → Q (.bl true) H')
theorem ok__law_told_right (T : Txt K mg A) : FnOk P w K mg base CX0 8 A.a__law_told_right A.d__law_told_right ["live", "lengths", "lines_here"] (sp__law_told_right K A) := by
  have G_LiveBook_lines : FnOk P w K mg base CX0 1 A.a_LiveBook_lines A.d_LiveBook_lines ["self"] (sp_LiveBook_lines K A) := ok_LiveBook_lines T
  have G_LiveBook_chapters : FnOk P w K mg base CX0 1 A.a_LiveBook_chapters A.d_LiveBook_chapters ["self"] (sp_LiveBook_chapters K A) := ok_LiveBook_chapters T
  have G_LiveBook_book : FnOk P w K mg base CX0 1 A.a_LiveBook_book A.d_LiveBook_book ["self"] (sp_LiveBook_book K A) := ok_LiveBook_book T
  have G__law_pages : FnOk P w K mg base CX0 1 A.a__law_pages A.d__law_pages ["lengths", "lines_here"] (sp__law_pages K) := ok__law_pages T
  have G_LiveBook_titles : GFn P w K mg base 4 A.a_LiveBook_titles A.d_LiveBook_titles ["self", "size"] (sp_LiveBook_titles K A) := ok_LiveBook_titles T
  refine T.F__law_told_right.ok sc__law_told_right (fun vs H Q E h => ?_) (fun cdv A0 outer s H vs Q E hr h => ?_)
  · obtain ⟨o, b, p, dx, t, ls, ps, j, rfl, hw⟩ := h
    rfl
  · obtain ⟨o, b, p, dx, t, ls, ps, j, rfl, hw⟩ := h
    refine ⟨_, (pss_cons (ps_if (pt_cmpR (HS.kne K (hu64 hr)) (pe_lst (pa_cons (pe_prop (pv 0) T.C_LiveBook T.P_LiveBook_book G_LiveBook_book (hr.mono (by decide)) T.b_LiveBook_book .nil pass0 rfl) (pa_cons (pe_prop (pv 0) T.C_LiveBook T.P_LiveBook_chapters G_LiveBook_chapters (hr.mono (by decide)) T.b_LiveBook_chapters .nil pass0 rfl) (pa_cons (pe_prop (pv 0) T.C_LiveBook T.P_LiveBook_lines G_LiveBook_lines (hr.mono (by decide)) T.b_LiveBook_lines .nil pass0 rfl) pa_nil)))) (pe_lst (pa_cons (pv 1) (pa_cons (pe_callB (HS.klen K) (by rfl) T.z_len PySem.boot_len (pa_cons (pv 1) pa_nil)) (pa_cons (pe_callB (HS.ksum K rfl) (by rfl) T.z_sum (by decide +kernel) (pa_cons (pv 1) pa_nil)) pa_nil)))) (nomark _))
      (pss_one (ps_ret pe_bl))
      pss_nil)
    (pss_cons (ps_par (i := 3) (j := 4) rfl sc__law_told_right.nd rfl rfl (by decide) rfl rfl (pa_cons (pe_lst pa_nil) (pa_cons pe_int pa_nil)) (by rfl))
    (pss_cons (ps_for PassesOwn.never rfl (HS.kil K (pi_list (pv 1))) (pg_name (i := 5) sc__law_told_right.nd rfl (.inl rfl))
      (pss_cons (ps_expr (HS.kbm K (pe_bm PySem.F.plainAttrs_list PySem.F.slot_list_append PySem.F.type_list_append mt_append (pv 3) (pa_cons (pv 4) pa_nil))))
    (pss_one (ps_set (i := 4) sc__law_told_right.nd rfl (.inl rfl) (pe_op op_add (pv 4) (pe_call G__law_pages (hr.mono (by decide)) (by rfl) T.g__law_pages T.F__law_pages.kp T.b__law_pages .nil pass0 (pa_cons (pe_lst (pa_cons (pv 5) pa_nil)) (pa_cons (pv 2) pa_nil))))))))
    (pss_one (ps_ret (pe_cmpR (HS.keq K (hu64 hr)) (pe_lst (pa_cons (pe_listG (pgen_meth (pv 0) T.C_LiveBook T.M_LiveBook_titles G_LiveBook_titles (hr.mono (by decide)) T.b_LiveBook_titles .nil (pa_cons (pv 2) pa_nil)) passL (fun _ _ _ h => h.elim) (hr.mono (by decide)) (by rfl) T.z_list (by decide +kernel)) (pa_cons (pe_listG (HS.pgen_methN0 (pv 0) T.C_LiveBook T.M_LiveBook_titles G_LiveBook_titles (hr.mono (by decide)) T.kb_LiveBook_titles_1_size (pk_cons (pv 2) pk_nil)) passL (fun _ _ _ h => h.elim) (hr.mono (by decide)) (by rfl) T.z_list (by decide +kernel)) pa_nil))) (pe_lst (pa_cons (pv 3) (pa_cons (pv 3) pa_nil))) (nomark _))))))), ?_⟩
    obtain ⟨h0, ht, hl, j0, j1, k⟩ := hw
    have W := HS.Wd.nil (H := H) (S := fun _ => False)
    walk_at "hs"
    refine ⟨o, dx, _, rfl, h0.eo, o, b, p, dx, ls, ps, rfl, h0, ?_⟩
    intro q hq
    generalize hG_q : upd _ q _ = H1
    have Kn_q := HS.upgK hG_q hq
    replace W := W.newG hG_q hq
    clear hG_q hq
    try dsimp only [List.set, List.cons_append, List.nil_append] at W
    have h1 := h0.same W.kp
    walk_at "hs"
    refine ⟨o, dx, _, rfl, h1.eo, o, b, p, dx, ls, ps, rfl, h1, ?_⟩
    walk_at "hs"
    refine ⟨o, dx, _, rfl, h1.eo, o, b, p, dx, ls, ps, rfl, h1, ?_⟩
    walk_at "hs"
    intro q2 hq2
    generalize hG_q2 : upd _ q2 _ = H2
    have Kn_q2 := HS.upgK hG_q2 hq2
    replace W := W.newG hG_q2 hq2
    clear hG_q2 hq2
    try dsimp only [List.set, List.cons_append, List.nil_append] at W
    have ht2 := W.kp.sq ht id
    walk_at "hs"
    rw [List.length_map]
    intro q3 hq3
    generalize hG_q3 : upd _ q3 _ = H3
    have Kn_q3 := HS.upgK hG_q3 hq3
    replace W := W.newG hG_q3 hq3
    clear hG_q3 hq3
    try dsimp only [List.set, List.cons_append, List.nil_append] at W
    have ht3 := W.kp.sq ht id
    refine HS.neSame (.lst (W.sq 1 rfl) (.cons (HS.dp_ints (W.sq 0 rfl)) (.cons (.int _) (.cons (.int _) .nil)))) (.lst (W.sq 2 rfl) (.cons (HS.dp_ints ht3) (.cons (.int _) (.cons (.int _) .nil)))) (by simp [SeqAt.shaped, HS.dInts, PyData.canLay0, PyData.canLayAll0, PyData.depth, PyData.depthAll, HS.lay_ints, HS.dep_ints]) (by simp [PyData.eqv, PyData.eqvAll, HS.eqv_ints]) ?_
    walk_at "hs"
    intro D hD
    generalize hG_D : upd _ D _ = H4
    have Kn_D := HS.upgK hG_D hD
    replace W := W.newG hG_D hD
    clear hG_D hD
    try dsimp only [List.set, List.cons_append, List.nil_append] at W
    have ht4 := W.kp.sq ht id
    walk_at "hs"
    refine ⟨⟨_, ht4⟩, for_list (xs := ls.map V.int) (fun i σ H' => HS.Wd H H' (fun _ => False) [(q, Eq (.lst (ls.map V.int))), (q2, Eq (.lst [.ref q, .int ls.length, .int ls.sum])), (q3, Eq (.lst [.ref t, .int ls.length, .int ls.sum])), (D, Eq (.lst ((titlesOf ls j i).map V.int)))] ∧ ∃ x5, σ = [some (.ref o), some (.ref t), some (.int j), some (.ref D), some (.int (1 + pcount (ls.take i) j)), x5]) ⟨W, _, rfl⟩ (fun i σ H' _ ⟨W, _⟩ => W.kp.sq ht id) ?_ ?_⟩
    · rintro i x σ H5 hi ⟨W, x5, rfl⟩
      obtain ⟨z, rfl, hz, hil⟩ := HS.get_int hi
      walk_at "hs"
      refine HS.tyL (W.at 3 rfl) ?_
      walk_at "hs"
      refine HS.app (W.at 3 rfl) ⟨HS.sz (by rw [List.length_map]; unfold titlesOf; rw [List.length_map, List.length_range]; omega), ?_⟩
      generalize hG_D : upd _ D _ = H6
      replace W := W.putG 3 rfl hG_D
      clear hG_D
      try dsimp only [List.set, List.cons_append, List.nil_append] at W
      walk_at "hs"
      intro t2 ht2'
      generalize hG_t2 : upd _ t2 _ = H7
      have Kn_t2 := HS.upgK hG_t2 ht2'
      replace W := W.newG hG_t2 ht2'
      clear hG_t2 ht2'
      try dsimp only [List.set, List.cons_append, List.nil_append] at W
      walk_at "hs"
      refine ⟨t2, [z], j, rfl, W.sq 4 rfl, show 1 ≤ 50000 by decide, j0, j1, fun H8 K8 => ?_⟩
      replace W := W.same K8
      walk_at "hs"
      have e1 : pcount (ls.take (i + 1)) j = pcount (ls.take i) j + pcount [z] j := by
        rw [List.take_add_one, hz, pcount_append]
        rfl
      have e2 : (titlesOf ls j (i + 1)).map V.int = (titlesOf ls j i).map V.int ++ [V.int (1 + pcount (ls.take i) j)] := by
        unfold titlesOf
        rw [List.range_succ, List.map_append, List.map_append]
        rfl
      refine ⟨by rw [e2]; exact W.take 4, some (.int z), by rw [e1, ← Int.add_assoc]; rfl⟩
    · rintro σ H5 ⟨W, x5, rfl⟩
      rw [List.length_map] at W
      have h5 := h0.same W.kp
      walk_at "hs"
      refine ⟨o, dx, _, rfl, h5.eo, lf_no (by decide +kernel) (by decide +kernel), ?_⟩
      walk_at "hs"
      refine ⟨o, b, p, dx, ls, ps, j, rfl, h5, j0, j1, by omega, ?_⟩
      intro r1 hr1
      generalize hG_r1 : upd _ r1 _ = H6
      have Kn_r1 := HS.upgK hG_r1 hr1
      replace W := W.newG hG_r1 hr1
      clear hG_r1 hr1
      try dsimp only [List.set, List.cons_append, List.nil_append] at W
      have h6 := h0.same W.kp
      walk_at "hs"
      refine ⟨o, dx, _, rfl, h6.eo, lf_no (by decide +kernel) (by decide +kernel), ?_⟩
      walk_at "hs"
      refine ⟨o, b, p, dx, ls, ps, j, rfl, h6, j0, j1, by omega, ?_⟩
      intro r2 hr2
      generalize hG_r2 : upd _ r2 _ = H7
      have Kn_r2 := HS.upgK hG_r2 hr2
      replace W := W.newG hG_r2 hr2
      clear hG_r2 hr2
      try dsimp only [List.set, List.cons_append, List.nil_append] at W
      walk_at "hs"
      intro p1 hp1
      generalize hG_p1 : upd _ p1 _ = H8
      have Kn_p1 := HS.upgK hG_p1 hp1
      replace W := W.newG hG_p1 hp1
      clear hG_p1 hp1
      try dsimp only [List.set, List.cons_append, List.nil_append] at W
      walk_at "hs"
      intro p2 hp2
      generalize hG_p2 : upd _ p2 _ = H9
      have Kn_p2 := HS.upgK hG_p2 hp2
      replace W := W.newG hG_p2 hp2
      clear hG_p2 hp2
      try dsimp only [List.set, List.cons_append, List.nil_append] at W
      refine HS.eqSame (HS.dp_II (W.sq 6 rfl) (W.sq 4 rfl) (W.sq 5 rfl)) (HS.dp_II (W.sq 7 rfl) (W.sq 3 rfl) (W.sq 3 rfl)) (HS.sh_II _ _) (HS.eqv_II _ _) ?_
      exact k _ W.kp
def sp__law_out (K : PySem.W.Frag) : Sp := fun vs H Q _ => ∃ (s : Addr) (most : Int) (n : Nat), vs = [.ref s, .int most] ∧ (Rng H s n ∧ 0 ≤ most ∧ most < 2 ^ 100 ∧ n < 2 ^ 32 ∧ ∀ H' v, HS.Keep (fun a => a = s) H H' → Rng H' s (n + 3) → ¬ (1 ≤ v ∧ v ≤ most) → -(10 ^ 30) < v → v < 2 ^ 101 → Q (.int v) H')
theorem ok__law_out (T : Txt K mg A) : FnOk P w K mg base CX0 2 A.a__law_out A.d__law_out ["pool", "most"] (sp__law_out K) := by
  have G__law_draw : FnOk P w K mg base CX0 1 A.a__law_draw A.d__law_draw ["pool", "many"] (sp__law_draw K) := ok__law_draw T
  refine T.F__law_out.ok sc__law_out (fun vs H Q E h => ?_) (fun cdv A0 outer s H vs Q E hr h => ?_)
  · obtain ⟨s, most, n, rfl, hw⟩ := h
    rfl
  · obtain ⟨s, most, n, rfl, hw⟩ := h
    refine ⟨_, (pss_one (ps_ret (pe_ix (HS.ixl K) (pe_lst (pa_cons pe_int (pa_cons (pe_op op_add (pv 1) pe_int) (pa_cons (pe_un un_neg pe_int) (pa_cons (pe_op op_add (pe_op op_add (pv 1) pe_int) (pe_call G__law_draw hr (by rfl) T.g__law_draw T.F__law_draw.kp T.b__law_draw .nil pass0 (pa_cons (pv 0) (pa_cons (HS.pe_fold (100000000000000000000000000000) (pe_op op_pow pe_int pe_int) (by intro σ H Q q; walk_at "fold")) pa_nil)))) (pa_cons (pe_op op_sub pe_int (pe_call G__law_draw hr (by rfl) T.g__law_draw T.F__law_draw.kp T.b__law_draw .nil pass0 (pa_cons (pv 0) (pa_cons (HS.pe_fold (100000000000000000000000000000) (pe_op op_pow pe_int pe_int) (by intro σ H Q q; walk_at "fold")) pa_nil)))) pa_nil)))))) (pe_call G__law_draw hr (by rfl) T.g__law_draw T.F__law_draw.kp T.b__law_draw .nil pass0 (pa_cons (pv 0) (pa_cons pe_int pa_nil))) (fun _ _ => rfl)))), ?_⟩
    obtain ⟨S0, m0, m1, hn, k⟩ := hw
    walk_at "hs"
    refine ⟨s, _, _, rfl, S0, by decide, by decide, by omega, fun H1 u K1 S1 u0 u1 => ?_⟩
    walk_at "hs"
    refine ⟨s, _, _, rfl, S1, by decide, by decide, by omega, fun H2 w K2 S2 w0 w1 => ?_⟩
    walk_at "hs"
    intro p hp
    have e1 := S2.ne hp
    walk_at "hs"
    refine ⟨s, 5, _, rfl, S2.new hp, by decide, by decide, by omega, fun H3 d K3 S3 d0 d1 => ?_⟩
    have hp1 := K3 _ _ upd_same e1
    refine HS.ixI [0, most + 1, -1, most + 1 + u, 0 - w] (HS.sq hp1) d0 d1 fun z _ hz => ?_
    simp only [List.mem_cons, List.not_mem_nil, or_false] at hz
    exact k _ _ ((K1.trans K2).trans ((HS.Keep.new hp).trans K3)) S3 (by omega) (by omega) (by omega)
def sp__law_bad_book (K : PySem.W.Frag) : Sp := fun vs H Q _ => ∃ (s b : Addr) (ls : List Int) (n : Nat), vs = [.ref s, .ref b] ∧ (Rng H s n ∧ SqL K H b (ls.map V.int) ∧ ls.length ≤ 40 ∧ n < 2 ^ 32 ∧ ∀ H' r p (ms : List Int) (i : Nat), HS.Keep (fun a => a = s) H H' → H r = none → H p = none → r ≠ p → H' r = some (.lst [.ref p, .int i]) → H' p = some (.lst (ms.map V.int)) → badAt ms = some i → ms.length ≤ ls.length + 2 → Rng H' s (n + 7) → Q (.ref r) H')
theorem ok__law_bad_book (T : Txt K mg A) : FnOk P w K mg base CX0 3 A.a__law_bad_book A.d__law_bad_book ["pool", "lengths"] (sp__law_bad_book K) := by
  have G__law_draw : FnOk P w K mg base CX0 1 A.a__law_draw A.d__law_draw ["pool", "many"] (sp__law_draw K) := ok__law_draw T
  refine T.F__law_bad_book.ok sc__law_bad_book (fun vs H Q E h => ?_) (fun cdv A0 outer s H vs Q E hr h => ?_)
  · obtain ⟨s, b, ls, n, rfl, hw⟩ := h
    rfl
  · obtain ⟨s, b, ls, n, rfl, hw⟩ := h
    refine ⟨_, (pss_cons (ps_set (i := 2) sc__law_bad_book.nd rfl (.inl rfl) (pe_callTy (HS.klst K) (by rfl) T.z_list (by decide +kernel) (pa_cons (pv 1) pa_nil)))
    (pss_cons (ps_for PassesOwn.never rfl (pi_range1 (by rfl) T.z_range (pa_cons (pe_op op_add pe_int (pe_call G__law_draw (hr.mono (by decide)) (by rfl) T.g__law_draw T.F__law_draw.kp T.b__law_draw .nil pass0 (pa_cons (pv 0) (pa_cons pe_int pa_nil)))) pa_nil)) (pg_name (i := 3) sc__law_bad_book.nd rfl (.inl rfl))
      (pss_cons (ps_set (i := 4) sc__law_bad_book.nd rfl (.inl rfl) (pe_ix (HS.ixl K) (pe_lst (pa_cons pe_int (pa_cons (pe_un un_neg pe_int) (pa_cons (pe_op op_sub (pe_un un_neg pe_int) (pe_call G__law_draw (hr.mono (by decide)) (by rfl) T.g__law_draw T.F__law_draw.kp T.b__law_draw .nil pass0 (pa_cons (pv 0) (pa_cons (HS.pe_fold (100000000000000000000000000000) (pe_op op_pow pe_int pe_int) (by intro σ H Q q; walk_at "fold")) pa_nil)))) pa_nil)))) (pe_call G__law_draw (hr.mono (by decide)) (by rfl) T.g__law_draw T.F__law_draw.kp T.b__law_draw .nil pass0 (pa_cons (pv 0) (pa_cons pe_int pa_nil))) (fun _ _ => rfl)))
    (pss_one (ps_expr (HS.kbm K (pe_bm PySem.F.plainAttrs_list PySem.F.slot_list_insert PySem.F.type_list_insert mt_insert (pv 2) (pa_cons (pe_call G__law_draw (hr.mono (by decide)) (by rfl) T.g__law_draw T.F__law_draw.kp T.b__law_draw .nil pass0 (pa_cons (pv 0) (pa_cons (pe_op op_add (pe_callB (HS.klen K) (by rfl) T.z_len PySem.boot_len (pa_cons (pv 2) pa_nil)) pe_int) pa_nil))) (pa_cons (pv 4) pa_nil))))))))
    (pss_one (ps_ret (pe_lst (pa_cons (pv 2) (pa_cons (pe_ix (HS.ixl K) (pe_lc (own := [("at", 5), ("one", 4)]) (g := gTup K 2 (gCons (gName 5) (gCons (gName 4) gNil))) rfl sc__law_bad_book.nd (HS.kien K (pi_enum (by rfl) T.z_enumerate (pa_cons (pv 2) pa_nil))) (blkOk_by (own := [("at", 5), ("one", 4)]) (N := N__law_bad_book) (sc := defScope s__law_bad_book) (by decide +kernel)) (fun _ _ _ _ _ => HS.kgt K (pg_tup rfl (pgs_cons (pg_name (i := 5) sc__law_bad_book.nd rfl (by first | exact .inl rfl | exact .inr rfl)) (pgs_cons (pg_name (i := 4) sc__law_bad_book.nd rfl (by first | exact .inl rfl | exact .inr rfl)) pgs_nil)))) (fun _ _ _ _ _ => (pts_one (pt_cmpR op_lt (pv 4) pe_int (nomark _)))) (fun _ _ _ _ _ => (pv 5))) pe_int (fun _ _ => rfl)) pa_nil))))))), ?_⟩
    obtain ⟨S0, hb, hl, hn, k⟩ := hw
    walk_at "hs"
    refine ⟨b, _, rfl, .inl hb, ?_⟩
    have W := wd_rng S0
    intro p hp
    generalize hG_p : upd _ p _ = H1
    have Kn_p := HS.upgK hG_p hp
    replace W := W.newG hG_p hp
    clear hG_p hp
    try dsimp only [List.set, List.cons_append, List.nil_append] at W
    walk_at "hs"
    refine ⟨s, 2, _, rfl, W.rng 0 rfl, by decide, by decide, by omega, fun H2 d K2 S2 d0 d1 => ?_⟩
    replace W := W.drawn 0 rfl K2 S2
    walk_at "hs"
    refine ⟨by omega, by omega, for_range (n := (1 + d).toNat) (fun i σ H' => ∃ ms : List Int, HS.Wd H H' (fun a => a = s) [(s, RngO (n + 1 + 3 * i)), (p, Eq (.lst (ms.map V.int)))] ∧ ms.length = ls.length + i ∧ (1 ≤ i → ∃ x ∈ ms, x < 1) ∧ ∃ x3 x4, σ = [some (.ref s), some (.ref b), some (.ref p), x3, x4, none]) ?_ ?_ ?_⟩
    · exact ⟨ls, W, rfl, fun z => absurd z (by decide), _, _, rfl⟩
    · rintro i σ H3 hi ⟨ms, W, hm, hx, x3, x4, rfl⟩
      have hi2 : i < 2 := by omega
      walk_at "hs"
      refine ⟨s, _, _, rfl, W.rng 0 rfl, by decide, by decide, by omega, fun H4 e K4 S4 e0 e1 => ?_⟩
      replace W := W.drawn 0 rfl K4 S4
      walk_at "hs"
      intro q hq
      generalize hG_q : upd _ q _ = H5
      have Kn_q := HS.upgK hG_q hq
      replace W := W.newG hG_q hq
      clear hG_q hq
      try dsimp only [List.set, List.cons_append, List.nil_append] at W
      walk_at "hs"
      refine ⟨s, 3, _, rfl, W.rng 0 rfl, by decide, by decide, by omega, fun H6 f K6 S6 f0 f1 => ?_⟩
      replace W := W.drawn 0 rfl K6 S6
      refine HS.ixI [0, -1, -1 - e] (W.sq 2 rfl) f0 f1 fun z _ hz => ?_
      have hz1 : z < 1 := by
        simp only [List.mem_cons, List.not_mem_nil, or_false] at hz
        rcases hz with rfl | rfl | rfl <;> omega
      walk_at "hs"
      refine HS.tyL (W.at 1 rfl) ?_
      walk_at "hs"
      refine HS.lenL (W.sq 1 rfl) ?_
      rw [List.length_map]
      walk_at "hs"
      refine ⟨s, _, _, rfl, W.rng 0 rfl, by omega, by omega, by omega, fun H7 g K7 S7 g0 g1 => ?_⟩
      replace W := W.drawn 0 rfl K7 S7
      walk_at "hs"
      refine ⟨p, _, g, _, rfl, rfl, W.at 1 rfl, HS.sz (by rw [List.length_map]; omega), g0, by omega, ?_⟩
      have em : (ms.map V.int).take g.toNat ++ [V.int z] ++ (ms.map V.int).drop g.toNat = (ms.take g.toNat ++ [z] ++ ms.drop g.toNat).map V.int := by
        rw [List.map_append, List.map_append, List.map_take, List.map_drop]; rfl
      rw [em]
      replace W := (W.put 1 rfl (P' := Eq (HO.lst ((ms.take g.toNat ++ [z] ++ ms.drop g.toNat).map V.int))) rfl).take 2
      walk_at "hs"
      refine ⟨_, W.rup 0 rfl (by omega), ?_, fun _ => ⟨z, List.mem_append_left _ (List.mem_append_right _ List.mem_cons_self), hz1⟩, _, _, rfl⟩
      rw [List.length_append, List.length_append, List.length_take, List.length_drop, List.length_singleton]
      omega
    · rintro σ H3 ⟨ms, W, hm, hx, x3, x4, rfl⟩
      obtain ⟨i0, ei⟩ := badAt_some (hx (by omega))
      walk_at "hs"
      refine ⟨p, _, rfl, W.sq 1 rfl, fun D hD => lc_it walk_enum (fun j H' => HS.Keep (fun _ => False) H3 H' ∧ H' D = some (.lst ((badsFrom 0 (ms.take j)).map V.int))) ⟨.new hD, upd_same⟩ (fun j H' _ ⟨K', _⟩ => K'.sq (W.sq 1 rfl) id) ?_ ?_⟩
      · rintro j x H4 H5 hj ⟨K4, h4⟩ ⟨T1, u, v, rfl, hT, rfl, e1, e2⟩
        cases e1
        obtain ⟨z, rfl, hz, hjl⟩ := HS.get_int e2
        have et : ms.take (j + 1) = ms.take j ++ [z] := by rw [List.take_add_one, hz]; rfl
        have nd : D ≠ T1 := ne_of_none h4 hT
        have K5 := K4.put (o := .tup [V.int (j : Nat), V.int z]) (K4.free hT id)
        have h5 : upd H4 T1 (.tup [V.int (j : Nat), V.int z]) D = some (.lst ((badsFrom 0 (ms.take j)).map V.int)) := by rw [upd_ne nd]; exact h4
        have bl := badsFrom_len 0 (ms.take j)
        rw [List.length_take] at bl
        walk_at "hs"
        refine HS.itd (fun c1 => ?_) (fun c1 => ?_)
        · walk_at "hs"
          refine ⟨_, h5, HS.sz (by rw [List.length_map]; omega), K5.put hD, ?_⟩
          rw [upd_same, et, badsFrom_snoc, if_pos c1, List.map_append, List.length_take, Nat.min_eq_left (by omega), Nat.zero_add]
          rfl
        · refine ⟨K5, ?_⟩
          rw [h5, et, badsFrom_snoc, if_neg c1, List.append_nil]
      · rintro H4 ⟨K4, h4⟩
        rw [List.length_map, List.take_length] at h4
        replace W := W.made K4 hD h4 (P := Eq _) rfl
        have b0 := badsFrom_head 0 ms i0 ei
        rw [Nat.zero_add] at b0
        walk_at "hs"
        refine HS.ixZ (W.sq 2 rfl) (by decide) b0 ?_
        walk_at "hs"
        intro r hr
        generalize hG_r : upd _ r _ = H5
        have Kn_r := HS.upgK hG_r hr
        replace W := W.newG hG_r hr
        clear hG_r hr
        try dsimp only [List.set, List.cons_append, List.nil_append] at W
        refine k _ r p ms i0 W.kp ?_ ?_ (W.ne 3 1 rfl rfl) (W.at 3 rfl) (W.at 1 rfl) ei (by omega) ((W.rng 0 rfl).up (by omega))
        · exact (W.fr _ (List.mem_of_getElem? (i := 3) rfl)).resolve_left (W.ne 3 0 rfl rfl)
        · exact (W.fr _ (List.mem_of_getElem? (i := 1) rfl)).resolve_left (W.ne 1 0 rfl rfl)
/-- a class of errors by its number: what is asked of it -/
structure Cau (K : PySem.W.Frag) (A : Ad) (C : Addr) (n : Nat) : Prop where
  kd : KindOf K A C n
  V : ExcC K C
  X : XfC K C
  n : PySem.W.findIn K (.ref C) "value" = some none
  e : PySem.W.exmOne K (.ref C) (.ref A.c_BookError) = some true
theorem cau_InvalidBook (T : Txt K mg A) : Cau K A A.c_InvalidBook 0 := ⟨⟨by decide, T.q_InvalidBook_InvalidBook, T.q_InvalidBook_InvalidSize, T.q_InvalidBook_InvalidTable, T.q_InvalidBook_InvalidChain, T.q_InvalidBook_InvalidNumber, T.q_InvalidBook_NothingToUndo, T.q_InvalidBook_Unreadable, T.q_InvalidBook_BookError, T.q_InvalidBook_ValueError⟩, T.V_InvalidBook, T.X_InvalidBook, T.n_InvalidBook, T.e_InvalidBook_BookError⟩
theorem cau_InvalidSize (T : Txt K mg A) : Cau K A A.c_InvalidSize 1 := ⟨⟨by decide, T.q_InvalidSize_InvalidBook, T.q_InvalidSize_InvalidSize, T.q_InvalidSize_InvalidTable, T.q_InvalidSize_InvalidChain, T.q_InvalidSize_InvalidNumber, T.q_InvalidSize_NothingToUndo, T.q_InvalidSize_Unreadable, T.q_InvalidSize_BookError, T.q_InvalidSize_ValueError⟩, T.V_InvalidSize, T.X_InvalidSize, T.n_InvalidSize, T.e_InvalidSize_BookError⟩
theorem cau_InvalidTable (T : Txt K mg A) : Cau K A A.c_InvalidTable 2 := ⟨⟨by decide, T.q_InvalidTable_InvalidBook, T.q_InvalidTable_InvalidSize, T.q_InvalidTable_InvalidTable, T.q_InvalidTable_InvalidChain, T.q_InvalidTable_InvalidNumber, T.q_InvalidTable_NothingToUndo, T.q_InvalidTable_Unreadable, T.q_InvalidTable_BookError, T.q_InvalidTable_ValueError⟩, T.V_InvalidTable, T.X_InvalidTable, T.n_InvalidTable, T.e_InvalidTable_BookError⟩
theorem cau_InvalidNumber (T : Txt K mg A) : Cau K A A.c_InvalidNumber 4 := ⟨⟨by decide, T.q_InvalidNumber_InvalidBook, T.q_InvalidNumber_InvalidSize, T.q_InvalidNumber_InvalidTable, T.q_InvalidNumber_InvalidChain, T.q_InvalidNumber_InvalidNumber, T.q_InvalidNumber_NothingToUndo, T.q_InvalidNumber_Unreadable, T.q_InvalidNumber_BookError, T.q_InvalidNumber_ValueError⟩, T.V_InvalidNumber, T.X_InvalidNumber, T.n_InvalidNumber, T.e_InvalidNumber_BookError⟩
theorem cau_NothingToUndo (T : Txt K mg A) : Cau K A A.c_NothingToUndo 5 := ⟨⟨by decide, T.q_NothingToUndo_InvalidBook, T.q_NothingToUndo_InvalidSize, T.q_NothingToUndo_InvalidTable, T.q_NothingToUndo_InvalidChain, T.q_NothingToUndo_InvalidNumber, T.q_NothingToUndo_NothingToUndo, T.q_NothingToUndo_Unreadable, T.q_NothingToUndo_BookError, T.q_NothingToUndo_ValueError⟩, T.V_NothingToUndo, T.X_NothingToUndo, T.n_NothingToUndo, T.e_NothingToUndo_BookError⟩
/-- a wrong call: its name, its arguments at q, the class, its number and the value of the error -/
inductive BadCall (H : Hp) (A : Ad) (q : Addr) (ls : List Int) (ps : List Addr) : Str → Addr → Nat → Int → Prop where
  | add (ms : List Int) (i : Nat) : H q = some (.lst (ms.map V.int)) → ms.length ≤ 4 → badAt ms = some i → BadCall H A q ls ps "add" A.c_InvalidBook 0 i
  | split (c n : Int) : H q = some (.lst [.int c, .int n]) → ¬ (1 ≤ c ∧ c ≤ ls.length) → BadCall H A q ls ps "split" A.c_InvalidNumber 4 c
  | split2 (c n z : Int) : H q = some (.lst [.int c, .int n]) → 1 ≤ c → c ≤ ls.length → ls[(c - 1).toNat]? = some z → ¬ (1 ≤ n ∧ n ≤ z - 1) → BadCall H A q ls ps "split" A.c_InvalidNumber 4 n
  | join (c : Int) : H q = some (.lst [.int c]) → ¬ (1 ≤ c ∧ c ≤ (ls.length : Int) - 1) → BadCall H A q ls ps "join" A.c_InvalidNumber 4 c
  | undo : ps = [] → BadCall H A q ls ps "undo" A.c_NothingToUndo 5 0
theorem BadCall.cau {H : Hp} {q : Addr} {ls : List Int} {ps : List Addr} {c : Str} {C : Addr} {n : Nat} {v : Int} (T : Txt K mg A) (h : BadCall H A q ls ps c C n v) : Cau K A C n := by
  cases h with
  | add => exact cau_InvalidBook T
  | split => exact cau_InvalidNumber T
  | split2 => exact cau_InvalidNumber T
  | join => exact cau_InvalidNumber T
  | undo => exact cau_NothingToUndo T
def sp__law_called (K : PySem.W.Frag) (A : Ad) : Sp := fun vs H Q _ => ∃ (o b p dx q : Addr) (ls : List Int) (ps : List Addr) (c : Str), vs = [.ref o, .str c, .ref q] ∧ (LivAt A.c_LiveBook H o b p dx ls ps ∧ ls.length ≤ 900 ∧ ps.length ≤ 900 ∧
  ((∃ C n v, BadCall H A q ls ps c C n v ∧ ∀ H' r, HS.Keep (fun _ => False) H H' → H r = none → H' r = some (.lst [.str (kword n), .int v]) → Q (.ref r) H') ∨
  (c = "add" ∧ ∃ ms : List Int, H q = some (.lst (ms.map V.int)) ∧ ms.length ≤ 4 ∧ badAt ms = none ∧ ∀ H' e r, HS.Keep (fun a => a = o ∨ a = p) H H' → H e = none → H r = none → LivAt A.c_LiveBook H' o e p dx (ls ++ ms) (ps ++ [b]) → H' r = some (.lst [.non]) → Q (.ref r) H') ∨
  (c = "undo" ∧ ∃ (qs : List Addr) (q2 : Addr) (us : List Int), ps = qs ++ [q2] ∧ H q2 = some (.lst (us.map V.int)) ∧ q2 ≠ p ∧ ∀ H' r, HS.Keep (fun a => a = o ∨ a = p) H H' → H r = none → LivAt A.c_LiveBook H' o q2 p dx us qs → H' r = some (.lst [.non]) → Q (.ref r) H')))
theorem ok__law_called (T : Txt K mg A) : FnOk P w K mg base CX0 7 A.a__law_called A.d__law_called ["live", "call", "some"] (sp__law_called K A) := by
  have G__law_added : FnOk P w K mg base (L2.CX P w) 6 A.a__law_added A.d__law_added ["live", "some"] (sp__law_added K A) := ok__law_added T
  have G_LiveBook_split : FnOk P w K mg base (L2.CX P w) 4 A.a_LiveBook_split A.d_LiveBook_split ["self", "chapter", "line"] (sp_LiveBook_split K A) := ok_LiveBook_split T
  have G_LiveBook_join : FnOk P w K mg base (L2.CX P w) 4 A.a_LiveBook_join A.d_LiveBook_join ["self", "chapter"] (sp_LiveBook_join K A) := ok_LiveBook_join T
  have G_LiveBook_undo : FnOk P w K mg base (L2.CX P w) 3 A.a_LiveBook_undo A.d_LiveBook_undo ["self"] (sp_LiveBook_undo K A) := ok_LiveBook_undo T
  have G__law_kind : FnOk P w K mg base CX0 1 A.a__law_kind A.d__law_kind ["caught"] (sp__law_kind K A) := ok__law_kind T
  refine T.F__law_called.ok sc__law_called (fun vs H Q E h => ?_) (fun cdv A0 outer s H vs Q E hr h => ?_)
  · obtain ⟨o, b, p, dx, q, ls, ps, c, rfl, hw⟩ := h
    rfl
  · obtain ⟨o, b, p, dx, q, ls, ps, c, rfl, hw⟩ := h
    refine ⟨_, (pss_cons (ps_set (i := 3) sc__law_called.nd rfl (.inl rfl) pe_non)
    (pss_cons (HS.ps_try_keep (i := 4) rfl rfl sc__law_called.nd rfl rfl ⟨rfl, by decide, Or.inl T.m_BookError⟩ takes0
      (fun W pn xe tk po => (pss_cons (ps_if (pt_cmpR op_eq (pv 1) pe_str (nomark _))
      (pss_one (ps_ret (pe_lst (pa_cons (pe_callS G__law_added hr (by rfl) T.g__law_added T.F__law_added.kp T.b__law_added (fun σ => passAt tk σ) (pa_cons (pv 0) (pa_cons (pv 2) pa_nil))) pa_nil))))
      pss_nil)
    (pss_cons (ps_if (pt_cmpR op_eq (pv 1) pe_str (nomark _))
      (pss_one (ps_ret (pe_lst (pa_cons (HS.pe_methS (pv 0) T.C_LiveBook T.M_LiveBook_split G_LiveBook_split (hr.mono (by decide)) T.b_LiveBook_split (fun σ => passAt tk σ) (pa_cons (pe_ix (HS.ixl K) (pv 2) pe_int (fun _ _ => rfl)) (pa_cons (pe_ix (HS.ixl K) (pv 2) pe_int (fun _ _ => rfl)) pa_nil))) pa_nil))))
      pss_nil)
    (pss_cons (ps_if (pt_cmpR op_eq (pv 1) pe_str (nomark _))
      (pss_one (ps_ret (pe_lst (pa_cons (HS.pe_methS (pv 0) T.C_LiveBook T.M_LiveBook_join G_LiveBook_join (hr.mono (by decide)) T.b_LiveBook_join (fun σ => passAt tk σ) (pa_cons (pe_ix (HS.ixl K) (pv 2) pe_int (fun _ _ => rfl)) pa_nil)) pa_nil))))
      pss_nil)
    (pss_one (ps_ret (pe_lst (pa_cons (HS.pe_methS0 (pv 0) T.C_LiveBook T.M_LiveBook_undo G_LiveBook_undo (hr.mono (by decide)) T.b_LiveBook_undo (fun σ => passAt tk σ)) pa_nil))))))))
      (fun a oe cls d pn hz hf => (pss_one (ps_set (i := 3) sc__law_called.nd rfl (.inl rfl) (pv 4)))))
    (pss_one (ps_ret (pe_lst (pa_cons (pe_call G__law_kind (hr.mono (by decide)) (by rfl) T.g__law_kind T.F__law_kind.kp T.b__law_kind .nil pass0 (pa_cons (pv 3) pa_nil)) (pa_cons (HS.pe_fldX (pv 3)) pa_nil))))))), ?_⟩
    obtain ⟨h0, hl, hp, hw⟩ := hw
    walk_at "hs"
    rcases hw with ⟨C, n, v, hb, k⟩ | ⟨rfl, ms, hq, hm, hL, k⟩ | ⟨rfl, qs, q2, us, e0, hq, nqp, k⟩
    · have hc := hb.cau T
      have err : ∀ {Ex : XK}, (∀ H' d, HS.Keep (fun _ => False) H H' → H d = none → H' d = some (.xd [("value", .int v)]) → Ex (.ref C) (some d) H') → ErrIs Ex H C v := fun h => h
      rcases hb with ⟨ms, i, hq, hm, hbad⟩ | ⟨c, m, hq, h1⟩ | ⟨c, m, z, hq, c0, c1, hz, h1⟩ | ⟨c, hq, h1⟩ | h1
      · refine HS.eqSy ?_
        walk_at "hs"
        refine ⟨o, b, p, dx, q, ls, ms, ps, rfl, h0, HS.sq hq, hm, hl, by omega, fun j hj => ?_, fun z => absurd (hbad.symm.trans z) (by simp)⟩
        obtain rfl : i = j := Option.some.inj (hbad.symm.trans hj)
        generalize hC : A.c_InvalidBook = C at hc ⊢
        generalize hv : ((i : Nat) : Int) = v at k ⊢
        clear err
        intro H1 d K1 hd e
        refine ⟨true, hc.e, fun _ a ha => ?_, fun z => by cases z⟩
        walk_at "hs"
        intro ha2
        have hX : HS.Exh (upd H1 a (HS.exh a (.ref C) (some d))) a C [("value", .int v)] := ⟨d, upd_same, by rw [upd_ne (ne_of_none e ha)]; exact e⟩
        have K3 := K1.nw (o := HS.exh a (.ref C) (some d)) ha
        generalize upd H1 a (HS.exh a (.ref C) (some d)) = H2 at hX K3 ⊢
        walk_at "hs"
        refine ⟨a, C, _, _, rfl, hX, hc.V, hc.kd, fun H3 K4 => ?_⟩
        walk_at "hs"
        refine ⟨a, _, _, _, rfl, hc.X, hc.n, hX.same K4, rfl, ?_⟩
        walk_at "hs"
        intro r hr
        exact k _ r ((K3.trans K4).nw hr) ((K3.trans K4).free hr id) upd_same
      · refine HS.eqSn (by decide +kernel) ?_
        walk_at "hs"
        refine HS.eqSy ?_
        walk_at "hs"
        refine ⟨o, dx, _, rfl, h0.eo, lf_no (by decide +kernel) (by decide +kernel), ?_⟩
        walk_at "hs"
        refine ⟨o, b, p, dx, ls, ps, v, m, rfl, h0, .inl ⟨h1, ?_⟩⟩
        generalize hC : A.c_InvalidNumber = C at hc ⊢
        clear err
        intro H1 d K1 hd e
        refine ⟨true, hc.e, fun _ a ha => ?_, fun z => by cases z⟩
        walk_at "hs"
        intro ha2
        have hX : HS.Exh (upd H1 a (HS.exh a (.ref C) (some d))) a C [("value", .int v)] := ⟨d, upd_same, by rw [upd_ne (ne_of_none e ha)]; exact e⟩
        have K3 := K1.nw (o := HS.exh a (.ref C) (some d)) ha
        generalize upd H1 a (HS.exh a (.ref C) (some d)) = H2 at hX K3 ⊢
        walk_at "hs"
        refine ⟨a, C, _, _, rfl, hX, hc.V, hc.kd, fun H3 K4 => ?_⟩
        walk_at "hs"
        refine ⟨a, _, _, _, rfl, hc.X, hc.n, hX.same K4, rfl, ?_⟩
        walk_at "hs"
        intro r hr
        exact k _ r ((K3.trans K4).nw hr) ((K3.trans K4).free hr id) upd_same
      · refine HS.eqSn (by decide +kernel) ?_
        walk_at "hs"
        refine HS.eqSy ?_
        walk_at "hs"
        refine ⟨o, dx, _, rfl, h0.eo, lf_no (by decide +kernel) (by decide +kernel), ?_⟩
        walk_at "hs"
        refine ⟨o, b, p, dx, ls, ps, c, v, rfl, h0, .inr ⟨z, c0, c1, hz, h1, ?_⟩⟩
        generalize hC : A.c_InvalidNumber = C at hc ⊢
        clear err
        intro H1 d K1 hd e
        refine ⟨true, hc.e, fun _ a ha => ?_, fun z => by cases z⟩
        walk_at "hs"
        intro ha2
        have hX : HS.Exh (upd H1 a (HS.exh a (.ref C) (some d))) a C [("value", .int v)] := ⟨d, upd_same, by rw [upd_ne (ne_of_none e ha)]; exact e⟩
        have K3 := K1.nw (o := HS.exh a (.ref C) (some d)) ha
        generalize upd H1 a (HS.exh a (.ref C) (some d)) = H2 at hX K3 ⊢
        walk_at "hs"
        refine ⟨a, C, _, _, rfl, hX, hc.V, hc.kd, fun H3 K4 => ?_⟩
        walk_at "hs"
        refine ⟨a, _, _, _, rfl, hc.X, hc.n, hX.same K4, rfl, ?_⟩
        walk_at "hs"
        intro r hr
        exact k _ r ((K3.trans K4).nw hr) ((K3.trans K4).free hr id) upd_same
      · refine HS.eqSn (by decide +kernel) ?_
        walk_at "hs"
        refine HS.eqSn (by decide +kernel) ?_
        walk_at "hs"
        refine HS.eqSy ?_
        walk_at "hs"
        refine ⟨o, dx, _, rfl, h0.eo, lf_no (by decide +kernel) (by decide +kernel), ?_⟩
        walk_at "hs"
        refine ⟨o, b, p, dx, ls, ps, v, rfl, h0, h1, ?_⟩
        generalize hC : A.c_InvalidNumber = C at hc ⊢
        clear err
        intro H1 d K1 hd e
        refine ⟨true, hc.e, fun _ a ha => ?_, fun z => by cases z⟩
        walk_at "hs"
        intro ha2
        have hX : HS.Exh (upd H1 a (HS.exh a (.ref C) (some d))) a C [("value", .int v)] := ⟨d, upd_same, by rw [upd_ne (ne_of_none e ha)]; exact e⟩
        have K3 := K1.nw (o := HS.exh a (.ref C) (some d)) ha
        generalize upd H1 a (HS.exh a (.ref C) (some d)) = H2 at hX K3 ⊢
        walk_at "hs"
        refine ⟨a, C, _, _, rfl, hX, hc.V, hc.kd, fun H3 K4 => ?_⟩
        walk_at "hs"
        refine ⟨a, _, _, _, rfl, hc.X, hc.n, hX.same K4, rfl, ?_⟩
        walk_at "hs"
        intro r hr
        exact k _ r ((K3.trans K4).nw hr) ((K3.trans K4).free hr id) upd_same
      · refine HS.eqSn (by decide +kernel) ?_
        walk_at "hs"
        refine HS.eqSn (by decide +kernel) ?_
        walk_at "hs"
        refine HS.eqSn (by decide +kernel) ?_
        walk_at "hs"
        refine ⟨o, dx, _, rfl, h0.eo, lf_no (by decide +kernel) (by decide +kernel), ?_⟩
        refine ⟨o, b, p, dx, ls, ps, rfl, h0, by omega, fun _ => ?_, fun qs q e1 => absurd (h1.symm.trans e1) (by simp)⟩
        generalize hC : A.c_NothingToUndo = C at hc ⊢
        generalize hv : (0 : Int) = v at k ⊢
        clear err
        intro H1 d K1 hd e
        refine ⟨true, hc.e, fun _ a ha => ?_, fun z => by cases z⟩
        walk_at "hs"
        intro ha2
        have hX : HS.Exh (upd H1 a (HS.exh a (.ref C) (some d))) a C [("value", .int v)] := ⟨d, upd_same, by rw [upd_ne (ne_of_none e ha)]; exact e⟩
        have K3 := K1.nw (o := HS.exh a (.ref C) (some d)) ha
        generalize upd H1 a (HS.exh a (.ref C) (some d)) = H2 at hX K3 ⊢
        walk_at "hs"
        refine ⟨a, C, _, _, rfl, hX, hc.V, hc.kd, fun H3 K4 => ?_⟩
        walk_at "hs"
        refine ⟨a, _, _, _, rfl, hc.X, hc.n, hX.same K4, rfl, ?_⟩
        walk_at "hs"
        intro r hr
        exact k _ r ((K3.trans K4).nw hr) ((K3.trans K4).free hr id) upd_same
    · refine HS.eqSy ?_
      walk_at "hs"
      refine ⟨o, b, p, dx, q, ls, ms, ps, rfl, h0, HS.sq hq, hm, hl, by omega, fun i hi => absurd (hL.symm.trans hi) (by simp), fun _ H1 e K1 he h1 => ?_⟩
      walk_at "hs"
      intro r hr
      exact k _ e r (K1.nwS hr (h1.nS hr)) he (K1.free hr (h1.nS hr)) (h1.new hr) upd_same
    · refine HS.eqSn (by decide +kernel) ?_
      walk_at "hs"
      refine HS.eqSn (by decide +kernel) ?_
      walk_at "hs"
      refine HS.eqSn (by decide +kernel) ?_
      walk_at "hs"
      refine ⟨o, dx, _, rfl, h0.eo, lf_no (by decide +kernel) (by decide +kernel), ?_⟩
      refine ⟨o, b, p, dx, ls, ps, rfl, h0, by omega, fun e1 => absurd (e1.symm.trans e0) (by simp), fun qs' q' e1 => ?_⟩
      have e2 := e1.symm.trans e0
      obtain ⟨rfl, e3⟩ := List.append_inj' e2 rfl
      obtain rfl : q' = q2 := by simpa using e3
      refine ⟨us, hq, nqp, fun H1 K1 h1 => ?_⟩
      walk_at "hs"
      intro r hr
      exact k _ r (K1.nwS hr (h1.nS hr)) (K1.free hr (h1.nS hr)) (h1.new hr) upd_same
/-- a wrong book or a wrong table -/
inductive BadMade (A : Ad) (rows : List Int) : Bool → Addr → Nat → Int → Prop where
  | book (i : Nat) : badAt rows = some i → BadMade A rows false A.c_InvalidBook 0 i
  | table (w : Int) : readAll rows = .inl w → (∀ c, rows.getLast? = some c → c ≤ 120) → BadMade A rows true A.c_InvalidTable 2 w
def sp__law_made (K : PySem.W.Frag) (A : Ad) : Sp := fun vs H Q _ => ∃ (t : Addr) (rows : List Int) (y : Bool), vs = [.ref t, .bl y] ∧ (SqL K H t (rows.map V.int) ∧ rows.length ≤ 300 ∧ ((∃ C n v, BadMade A rows y C n v ∧ ∀ H' r, HS.Keep (fun _ => False) H H' → H r = none → H' r = some (.lst [.str (kword n), .int v]) → Q (.ref r) H') ∨
  (y = false ∧ badAt rows = none ∧ ∀ H' r, HS.Keep (fun _ => False) H H' → H r = none → H' r = some (.lst [.str "none", .non]) → Q (.ref r) H')))
theorem ok__law_made (T : Txt K mg A) : FnOk P w K mg base CX0 8 A.a__law_made A.d__law_made ["lengths", "by_table"] (sp__law_made K A) := by
  have G_LiveBook_from_table : FnOk P w K mg base (L2.CX P w) 6 A.a_LiveBook_from_table A.d_LiveBook_from_table ["cls", "table"] (sp_LiveBook_from_table K A) := ok_LiveBook_from_table T
  have G_LiveBook___init__ : FnOk P w K mg base (L2.CX P w) 4 A.a_LiveBook___init__ A.d_LiveBook___init__ ["self", "book"] (sp_LiveBook___init__ K A) := ok_LiveBook___init__ T
  have G__law_kind : FnOk P w K mg base CX0 1 A.a__law_kind A.d__law_kind ["caught"] (sp__law_kind K A) := ok__law_kind T
  refine T.F__law_made.ok sc__law_made (fun vs H Q E h => ?_) (fun cdv A0 outer s H vs Q E hr h => ?_)
  · obtain ⟨t, rows, y, rfl, hw⟩ := h
    rfl
  · obtain ⟨t, rows, y, rfl, hw⟩ := h
    refine ⟨_, (pss_cons (ps_set (i := 2) sc__law_made.nd rfl (.inl rfl) pe_non)
    (pss_cons (HS.ps_try_keep (i := 3) rfl rfl sc__law_made.nd rfl rfl ⟨rfl, by decide, Or.inl T.m_BookError⟩ takes0
      (fun W pn xe tk po => (pss_one (ps_if (pt_val (pv 1))
      (pss_one (ps_expr (HS.pe_cmethS (pe_glob (v := .ref A.c_LiveBook) (by rfl) T.m_LiveBook rfl) T.D_LiveBook T.W_LiveBook_from_table (HS.fnR_of G_LiveBook_from_table T.b_LiveBook_from_table) (hr.mono (by decide)) (fun σ => passAt tk σ) (pa_cons (pv 0) pa_nil))))
      (pss_one (ps_expr (HS.pe_makeS T.K_LiveBook G_LiveBook___init__ (hr.mono (by decide)) (by rfl) T.m_LiveBook T.b_LiveBook___init__ (fun σ => passAt tk σ) (pa_cons (pv 0) pa_nil)))))))
      (fun a oe cls d pn hz hf => (pss_one (ps_set (i := 2) sc__law_made.nd rfl (.inl rfl) (pv 3)))))
    (pss_one (ps_ret (pe_ifExp (pt_cmpR op_isN (pv 2) pe_non (nomark _)) (pe_lst (pa_cons pe_str (pa_cons pe_non pa_nil))) (pe_lst (pa_cons (pe_call G__law_kind (hr.mono (by decide)) (by rfl) T.g__law_kind T.F__law_kind.kp T.b__law_kind .nil pass0 (pa_cons (pv 2) pa_nil)) (pa_cons (HS.pe_fldX (pv 2)) pa_nil)))))))), ?_⟩
    obtain ⟨ht, hl, hw⟩ := hw
    walk_at "hs"
    rcases hw with ⟨C, n, v, hb, k⟩ | ⟨rfl, hL, k⟩
    · rcases hb with ⟨i, hbad⟩ | ⟨w, hw, hc⟩
      · have hc := cau_InvalidBook T
        walk_at "hs"
        intro x dx hx hdx hne
        have K0 : HS.Keep (fun _ => False) H (upd (upd H dx (.own x)) x (.ins A.c_LiveBook dx [])) := (HS.Keep.new hdx).nw (by rw [upd_ne hne.symm]; exact hx)
        refine ⟨x, dx, t, rows, rfl, upd_same, K0.sq ht id, by omega, fun j hj => ?_, fun z => absurd (hbad.symm.trans z) (by simp)⟩
        obtain rfl : i = j := Option.some.inj (hbad.symm.trans hj)
        generalize upd (upd H dx (.own x)) x (.ins A.c_LiveBook dx []) = H0 at K0 ⊢
        generalize hC : A.c_InvalidBook = C at hc ⊢
        generalize hv : ((i : Nat) : Int) = v at k ⊢
        intro H1 d K1 hd e
        replace K1 := K0.trans K1
        refine ⟨true, hc.e, fun _ a ha => ?_, fun z => by cases z⟩
        walk_at "hs"
        intro ha2
        have hX : HS.Exh (upd H1 a (HS.exh a (.ref C) (some d))) a C [("value", .int v)] := ⟨d, upd_same, by rw [upd_ne (ne_of_none e ha)]; exact e⟩
        have K3 := K1.nw (o := HS.exh a (.ref C) (some d)) ha
        generalize upd H1 a (HS.exh a (.ref C) (some d)) = H2 at hX K3 ⊢
        walk_at "hs"
        refine ⟨rfl, ?_⟩
        walk_at "hs"
        refine HS.it0 (fun z => by cases z) ?_
        walk_at "hs"
        refine ⟨a, C, _, _, rfl, hX, hc.V, hc.kd, fun H3 K4 => ?_⟩
        walk_at "hs"
        refine ⟨a, _, _, _, rfl, hc.X, hc.n, hX.same K4, rfl, ?_⟩
        walk_at "hs"
        intro r hr
        exact k _ r ((K3.trans K4).nw hr) ((K3.trans K4).free hr id) upd_same
      · have hc' := cau_InvalidTable T
        walk_at "hs"
        refine ⟨rfl, ?_⟩
        walk_at "hs"
        refine ⟨t, rows, rfl, ht, hl, hc, fun w' hw' => ?_, fun ls z => absurd (hw.symm.trans z) (by simp)⟩
        obtain rfl : v = w' := Sum.inl.inj (hw.symm.trans hw')
        clear hc
        have hc := hc'
        generalize hC : A.c_InvalidTable = C at hc ⊢
        intro H1 d K1 hd e
        refine ⟨true, hc.e, fun _ a ha => ?_, fun z => by cases z⟩
        walk_at "hs"
        intro ha2
        have hX : HS.Exh (upd H1 a (HS.exh a (.ref C) (some d))) a C [("value", .int v)] := ⟨d, upd_same, by rw [upd_ne (ne_of_none e ha)]; exact e⟩
        have K3 := K1.nw (o := HS.exh a (.ref C) (some d)) ha
        generalize upd H1 a (HS.exh a (.ref C) (some d)) = H2 at hX K3 ⊢
        walk_at "hs"
        refine ⟨rfl, ?_⟩
        walk_at "hs"
        refine HS.it0 (fun z => by cases z) ?_
        walk_at "hs"
        refine ⟨a, C, _, _, rfl, hX, hc.V, hc.kd, fun H3 K4 => ?_⟩
        walk_at "hs"
        refine ⟨a, _, _, _, rfl, hc.X, hc.n, hX.same K4, rfl, ?_⟩
        walk_at "hs"
        intro r hr
        exact k _ r ((K3.trans K4).nw hr) ((K3.trans K4).free hr id) upd_same
    · walk_at "hs"
      intro x dx hx hdx hne
      have K0 : HS.Keep (fun _ => False) H (upd (upd H dx (.own x)) x (.ins A.c_LiveBook dx [])) := (HS.Keep.new hdx).nw (by rw [upd_ne hne.symm]; exact hx)
      refine ⟨x, dx, t, rows, rfl, upd_same, K0.sq ht id, by omega, fun j hj => absurd (hL.symm.trans hj) (by simp), fun _ H2 b p K2 hb0 hp0 h => ⟨rfl, ?_⟩⟩
      obtain ⟨K3, f1, f2⟩ := fresh_live hx hdx hne K2 hb0 hp0
      walk_at "hs"
      refine ⟨rfl, ?_⟩
      walk_at "hs"
      refine HS.it1 rfl ?_
      walk_at "hs"
      intro r hr
      exact k _ r (K3.nw hr) (K3.free hr id) upd_same
def sp__law_titles (K : PySem.W.Frag) (A : Ad) : Sp := fun vs H Q _ => ∃ (o b p dx : Addr) (ls : List Int) (ps : List Addr) (j : Int), vs = [.ref o, .int j] ∧ (LivAt A.c_LiveBook H o b p dx ls ps ∧ j < 1 ∧ ∀ H' r, HS.Keep (fun _ => False) H H' → H r = none → H' r = some (.lst [.str "size", .int j]) → Q (.ref r) H')
theorem ok__law_titles (T : Txt K mg A) : FnOk P w K mg base CX0 7 A.a__law_titles A.d__law_titles ["live", "lines_here"] (sp__law_titles K A) := by
  have G2_LiveBook_titles : HS.GFn2 (L2.CX P w) P w K mg base 4 A.a_LiveBook_titles A.d_LiveBook_titles ["self", "size"] (sp2_LiveBook_titles K A) := ok2_LiveBook_titles T
  have G__law_kind : FnOk P w K mg base CX0 1 A.a__law_kind A.d__law_kind ["caught"] (sp__law_kind K A) := ok__law_kind T
  refine T.F__law_titles.ok sc__law_titles (fun vs H Q E h => ?_) (fun cdv A0 outer s H vs Q E hr h => ?_)
  · obtain ⟨o, b, p, dx, ls, ps, j, rfl, hw⟩ := h
    rfl
  · obtain ⟨o, b, p, dx, ls, ps, j, rfl, hw⟩ := h
    refine ⟨_, (pss_cons (ps_set (i := 2) sc__law_titles.nd rfl (.inl rfl) pe_non)
    (pss_cons (HS.ps_try_keep (i := 4) rfl rfl sc__law_titles.nd rfl rfl ⟨rfl, by decide, Or.inl T.m_BookError⟩ takes0
      (fun W pn xe tk po => (pss_one (HS.ps_forG po (HS.failsAtS K (fun σ => passAt tk σ)) (hr.mono (by decide)) (HS.pgen2_meth (pv 0) T.C_LiveBook T.M_LiveBook_titles G2_LiveBook_titles (hr.mono (by decide)) T.b_LiveBook_titles .nil (pa_cons (pv 1) pa_nil)) (pg_name (i := 3) sc__law_titles.nd rfl (.inl rfl))
      (pss_one (ps_set (i := 2) sc__law_titles.nd rfl (.inl rfl) pe_non)))))
      (fun a oe cls d pn hz hf => (pss_one (ps_set (i := 2) sc__law_titles.nd rfl (.inl rfl) (pv 4)))))
    (pss_one (ps_ret (pe_ifExp (pt_cmpR op_isN (pv 2) pe_non (nomark _)) (pe_lst (pa_cons pe_str (pa_cons pe_non pa_nil))) (pe_lst (pa_cons (pe_call G__law_kind (hr.mono (by decide)) (by rfl) T.g__law_kind T.F__law_kind.kp T.b__law_kind .nil pass0 (pa_cons (pv 2) pa_nil)) (pa_cons (HS.pe_fldX (pv 2)) pa_nil)))))))), ?_⟩
    obtain ⟨h0, hj, k⟩ := hw
    have hc := cau_InvalidSize T
    walk_at "hs"
    refine HS.forM ?_
    walk_at "hs"
    refine ⟨o, dx, _, rfl, h0.eo, lf_no (by decide +kernel) (by decide +kernel), ?_⟩
    walk_at "hs"
    refine ⟨0, fun i σ H' => i = 0 ∧ σ = [some (.ref o), some (.int j), some .non, none, none] ∧ H' = H, ⟨rfl, rfl, rfl⟩, fun i σ H' z => by omega, ?_⟩
    unfold HS.WantG sp2_LiveBook_titles
    refine ⟨o, j, rfl, hj, fun H1 d K1 hd e => ⟨⟨true, hc.e, fun _ a ha => ?_, fun z => by cases z⟩, T.s_InvalidSize⟩⟩
    walk_at "hs"
    intro ha2
    generalize hC : A.c_InvalidSize = C at hc e ⊢
    have hX : HS.Exh (upd H1 a (HS.exh a (.ref C) (some d))) a C [("value", .int j)] := ⟨d, upd_same, by rw [upd_ne (ne_of_none e ha)]; exact e⟩
    have K3 := K1.nw (o := HS.exh a (.ref C) (some d)) ha
    generalize upd H1 a (HS.exh a (.ref C) (some d)) = H2 at hX K3 ⊢
    walk_at "hs"
    refine ⟨rfl, ?_⟩
    walk_at "hs"
    refine HS.it0 (fun z => by cases z) ?_
    walk_at "hs"
    refine ⟨a, C, _, _, rfl, hX, hc.V, hc.kd, fun H3 K4 => ?_⟩
    walk_at "hs"
    refine ⟨a, _, _, _, rfl, hc.X, hc.n, hX.same K4, rfl, ?_⟩
    walk_at "hs"
    intro r hr
    exact k _ r ((K3.trans K4).nw hr) ((K3.trans K4).free hr id) upd_same
abbrev L24 (A : Ad) (s : Addr) (n : Nat) (q : Addr) (ls : List Int) (o dx p b : Addr) : HS.WdL := [(s, RngO n), (q, Eq (.lst (ls.map V.int))), (o, Eq (.ins A.c_LiveBook dx (lf b p))), (p, Eq (.lst [])), (b, Eq (.lst (ls.map V.int)))]
theorem liv_at {H0 H : Hp} {S : Addr → Prop} {l : HS.WdL} {C o dx b p : Addr} {ls : List Int} (W : HS.Wd H0 H S l) (i j m : Nat) (ei : l[i]? = some (o, Eq (.ins C dx (lf b p)))) (ej : l[j]? = some (p, Eq (.lst []))) (em : l[m]? = some (b, Eq (.lst (ls.map V.int)))) (h : m ≠ j := by decide) : LivAt C H o b p dx ls [] :=
  ⟨W.at i ei, W.at m em, W.at j ej, W.ne m j em ej h⟩
def sp__law_right (K : PySem.W.Frag) (A : Ad) : Sp := fun vs H Q _ => ∃ (s : Addr) (n : Nat), vs = [.ref s] ∧ (Rng H s n ∧ n < 2 ^ 30 ∧ ∀ H', HS.Keep (fun a => a = s) H H' → Rng H' s (n + 1000) → Q (.bl true) H')
theorem ok__law_right (T : Txt K mg A) : FnOk P w K mg base CX0 9 A.a__law_right A.d__law_right ["pool"] (sp__law_right K A) := by
  have G__law_book : FnOk P w K mg base CX0 3 A.a__law_book A.d__law_book ["pool", "most", "far"] (sp__law_book K) := ok__law_book T
  have G__law_bad_book : FnOk P w K mg base CX0 3 A.a__law_bad_book A.d__law_bad_book ["pool", "lengths"] (sp__law_bad_book K) := ok__law_bad_book T
  have G__law_made : FnOk P w K mg base CX0 8 A.a__law_made A.d__law_made ["lengths", "by_table"] (sp__law_made K A) := ok__law_made T
  have G_LiveBook___init__ : FnOk P w K mg base (L2.CX P w) 4 A.a_LiveBook___init__ A.d_LiveBook___init__ ["self", "book"] (sp_LiveBook___init__ K A) := ok_LiveBook___init__ T
  have G__law_draw : FnOk P w K mg base CX0 1 A.a__law_draw A.d__law_draw ["pool", "many"] (sp__law_draw K) := ok__law_draw T
  have G__law_length : FnOk P w K mg base CX0 2 A.a__law_length A.d__law_length ["pool", "far"] (sp__law_length K) := ok__law_length T
  have G__law_called : FnOk P w K mg base CX0 7 A.a__law_called A.d__law_called ["live", "call", "some"] (sp__law_called K A) := ok__law_called T
  have G__law_out : FnOk P w K mg base CX0 2 A.a__law_out A.d__law_out ["pool", "most"] (sp__law_out K) := ok__law_out T
  have G__law_told_right : FnOk P w K mg base CX0 8 A.a__law_told_right A.d__law_told_right ["live", "lengths", "lines_here"] (sp__law_told_right K A) := ok__law_told_right T
  have G__law_titles : FnOk P w K mg base CX0 7 A.a__law_titles A.d__law_titles ["live", "lines_here"] (sp__law_titles K A) := ok__law_titles T
  refine T.F__law_right.ok sc__law_right (fun vs H Q E h => ?_) (fun cdv A0 outer s H vs Q E hr h => ?_)
  · obtain ⟨s, n, rfl, hw⟩ := h
    rfl
  · obtain ⟨s, n, rfl, hw⟩ := h
    refine ⟨_, (pss_cons (ps_set (i := 1) sc__law_right.nd rfl (.inl rfl) (pe_call G__law_book (hr.mono (by decide)) (by rfl) T.g__law_book T.F__law_book.kp T.b__law_book .nil pass0 (pa_cons (pv 0) (pa_cons pe_int (pa_cons pe_int pa_nil)))))
    (pss_cons (ps_asg (pe_call G__law_bad_book (hr.mono (by decide)) (by rfl) T.g__law_bad_book T.F__law_bad_book.kp T.b__law_bad_book .nil pass0 (pa_cons (pv 0) (pa_cons (pv 1) pa_nil))) (HS.kunl K (pg_unl rfl (pgs_cons (pg_name (i := 2) sc__law_right.nd rfl (.inl rfl)) (pgs_cons (pg_name (i := 3) sc__law_right.nd rfl (.inl rfl)) pgs_nil)))))
    (pss_cons (ps_if (pt_cmpR (HS.kne K (hu64 hr)) (pe_lst (pa_cons (pe_call G__law_made hr (by rfl) T.g__law_made T.F__law_made.kp T.b__law_made .nil pass0 (pa_cons (pv 2) (pa_cons pe_bl pa_nil))) (pa_cons (pe_call G__law_made hr (by rfl) T.g__law_made T.F__law_made.kp T.b__law_made .nil pass0 (pa_cons (pv 1) (pa_cons pe_bl pa_nil))) pa_nil))) (pe_lst (pa_cons (pe_lst (pa_cons pe_str (pa_cons (pv 3) pa_nil))) (pa_cons (pe_lst (pa_cons pe_str (pa_cons pe_non pa_nil))) pa_nil))) (nomark _))
      (pss_one (ps_ret pe_bl))
      pss_nil)
    (pss_cons (ps_set (i := 4) sc__law_right.nd rfl (.inl rfl) (HS.pe_makeS T.K_LiveBook G_LiveBook___init__ (hr.mono (by decide)) (by rfl) T.m_LiveBook T.b_LiveBook___init__ (fun σ => HS.passSt passL σ) (pa_cons (pv 1) pa_nil)))
    (pss_cons (ps_for PassesOwn.never rfl (pi_range1 (by rfl) T.z_range (pa_cons pe_int pa_nil)) (pg_name (i := 5) sc__law_right.nd rfl (.inl rfl))
      (pss_cons (ps_set (i := 6) sc__law_right.nd rfl (.inl rfl) (pe_callB (HS.klen K) (by rfl) T.z_len PySem.boot_len (pa_cons (pv 1) pa_nil)))
    (pss_cons (ps_asg (pe_call G__law_bad_book (hr.mono (by decide)) (by rfl) T.g__law_bad_book T.F__law_bad_book.kp T.b__law_bad_book .nil pass0 (pa_cons (pv 0) (pa_cons (pe_lc (own := [("number", 12)]) (g := gName 12) (tt := tYes) rfl sc__law_right.nd (pi_range1 (by rfl) T.z_range (pa_cons (pe_call G__law_draw (hr.mono (by decide)) (by rfl) T.g__law_draw T.F__law_draw.kp T.b__law_draw .nil pass0 (pa_cons (pv 0) (pa_cons pe_int pa_nil))) pa_nil)) (blkOk_by (own := [("number", 12)]) (N := N__law_right) (sc := defScope s__law_right) (by decide +kernel)) (fun _ _ _ _ _ => pg_name (i := 12) sc__law_right.nd rfl (by first | exact .inl rfl | exact .inr rfl)) (fun _ _ _ _ _ => pts_nil) (fun _ _ _ _ _ => (pe_call G__law_length (hr.mono (by decide)) (by rfl) T.g__law_length T.F__law_length.kp T.b__law_length .nil pass0 (pa_cons (pv 0) (pa_cons pe_int pa_nil))))) pa_nil))) (HS.kunl K (pg_unl rfl (pgs_cons (pg_name (i := 7) sc__law_right.nd rfl (.inl rfl)) (pgs_cons (pg_name (i := 3) sc__law_right.nd rfl (.inl rfl)) pgs_nil)))))
    (pss_cons (ps_if (pt_cmpR (HS.kne K (hu64 hr)) (pe_call G__law_called (hr.mono (by decide)) (by rfl) T.g__law_called T.F__law_called.kp T.b__law_called .nil pass0 (pa_cons (pv 4) (pa_cons pe_str (pa_cons (pv 7) pa_nil)))) (pe_lst (pa_cons pe_str (pa_cons (pv 3) pa_nil))) (nomark _))
      (pss_one (ps_ret pe_bl))
      pss_nil)
    (pss_cons (ps_set (i := 8) sc__law_right.nd rfl (.inl rfl) (pe_call G__law_out (hr.mono (by decide)) (by rfl) T.g__law_out T.F__law_out.kp T.b__law_out .nil pass0 (pa_cons (pv 0) (pa_cons (pv 6) pa_nil))))
    (pss_cons (ps_if (pt_cmpR (HS.kne K (hu64 hr)) (pe_call G__law_called (hr.mono (by decide)) (by rfl) T.g__law_called T.F__law_called.kp T.b__law_called .nil pass0 (pa_cons (pv 4) (pa_cons pe_str (pa_cons (pe_lst (pa_cons (pv 8) (pa_cons (pe_call G__law_out (hr.mono (by decide)) (by rfl) T.g__law_out T.F__law_out.kp T.b__law_out .nil pass0 (pa_cons (pv 0) (pa_cons pe_int pa_nil))) pa_nil))) pa_nil)))) (pe_lst (pa_cons pe_str (pa_cons (pv 8) pa_nil))) (nomark _))
      (pss_one (ps_ret pe_bl))
      pss_nil)
    (pss_cons (ps_set (i := 9) sc__law_right.nd rfl (.inl rfl) (pe_ix (HS.ixl K) (pe_lst (pa_cons (pv 6) (pa_cons (pe_call G__law_out (hr.mono (by decide)) (by rfl) T.g__law_out T.F__law_out.kp T.b__law_out .nil pass0 (pa_cons (pv 0) (pa_cons (pv 6) pa_nil))) pa_nil))) (pe_call G__law_draw (hr.mono (by decide)) (by rfl) T.g__law_draw T.F__law_draw.kp T.b__law_draw .nil pass0 (pa_cons (pv 0) (pa_cons pe_int pa_nil))) (fun _ _ => rfl)))
    (pss_cons (ps_if (pt_cmpR (HS.kne K (hu64 hr)) (pe_call G__law_called (hr.mono (by decide)) (by rfl) T.g__law_called T.F__law_called.kp T.b__law_called .nil pass0 (pa_cons (pv 4) (pa_cons pe_str (pa_cons (pe_lst (pa_cons (pv 9) pa_nil)) pa_nil)))) (pe_lst (pa_cons pe_str (pa_cons (pv 9) pa_nil))) (nomark _))
      (pss_one (ps_ret pe_bl))
      pss_nil)
    (Evl.pss_cut (ps_if (pt_cmpR op_gt (pv 6) pe_int (nomark _))
      (pss_cons (ps_set (i := 10) sc__law_right.nd rfl (.inl rfl) (pe_call G__law_draw (hr.mono (by decide)) (by rfl) T.g__law_draw T.F__law_draw.kp T.b__law_draw .nil pass0 (pa_cons (pv 0) (pa_cons (pv 6) pa_nil))))
    (pss_cons (ps_set (i := 8) sc__law_right.nd rfl (.inl rfl) (pe_call G__law_out (hr.mono (by decide)) (by rfl) T.g__law_out T.F__law_out.kp T.b__law_out .nil pass0 (pa_cons (pv 0) (pa_cons (pe_op op_sub (pe_ix (HS.ixl K) (pv 1) (pv 10) (fun _ _ => rfl)) pe_int) pa_nil))))
    (pss_one (ps_if (pt_cmpR (HS.kne K (hu64 hr)) (pe_call G__law_called (hr.mono (by decide)) (by rfl) T.g__law_called T.F__law_called.kp T.b__law_called .nil pass0 (pa_cons (pv 4) (pa_cons pe_str (pa_cons (pe_lst (pa_cons (pe_op op_add (pv 10) pe_int) (pa_cons (pv 8) pa_nil))) pa_nil)))) (pe_lst (pa_cons pe_str (pa_cons (pv 8) pa_nil))) (nomark _))
      (pss_one (ps_ret pe_bl))
      pss_nil))))
      pss_nil)
    (pss_cons (ps_set (i := 11) sc__law_right.nd rfl (.inl rfl) (pe_op op_sub pe_int (pe_ix (HS.ixl K) (pe_lst (pa_cons pe_int (pa_cons pe_int (pa_cons (pe_call G__law_draw (hr.mono (by decide)) (by rfl) T.g__law_draw T.F__law_draw.kp T.b__law_draw .nil pass0 (pa_cons (pv 0) (pa_cons (HS.pe_fold (100000000000000000000000000000) (pe_op op_pow pe_int pe_int) (by intro σ H Q q; walk_at "fold")) pa_nil))) pa_nil)))) (pe_call G__law_draw (hr.mono (by decide)) (by rfl) T.g__law_draw T.F__law_draw.kp T.b__law_draw .nil pass0 (pa_cons (pv 0) (pa_cons pe_int pa_nil))) (fun _ _ => rfl))))
    (pss_one (ps_if (PW.pt (pw_or (pt_cmpR (HS.kne K (hu64 hr)) (pe_call G__law_titles (hr.mono (by decide)) (by rfl) T.g__law_titles T.F__law_titles.kp T.b__law_titles .nil pass0 (pa_cons (pv 4) (pa_cons (pv 11) pa_nil))) (pe_lst (pa_cons pe_str (pa_cons (pv 11) pa_nil))) (nomark _)) (pw_or1 (pt_not (pt_val (pe_call G__law_told_right hr (by rfl) T.g__law_told_right T.F__law_told_right.kp T.b__law_told_right .nil pass0 (pa_cons (pv 4) (pa_cons (pv 1) (pa_cons (pe_op op_add pe_int (pe_call G__law_draw (hr.mono (by decide)) (by rfl) T.g__law_draw T.F__law_draw.kp T.b__law_draw .nil pass0 (pa_cons (pv 0) (pa_cons pe_int pa_nil)))) pa_nil)))))))))
      (pss_one (ps_ret pe_bl))
      pss_nil))))))))))))
    (pss_one (ps_ret (pe_cmpR (HS.keq K (hu64 hr)) (pe_call G__law_called (hr.mono (by decide)) (by rfl) T.g__law_called T.F__law_called.kp T.b__law_called .nil pass0 (pa_cons (pv 4) (pa_cons pe_str (pa_cons (pe_lst pa_nil) pa_nil)))) (pe_lst (pa_cons pe_str (pa_cons pe_int pa_nil))) (nomark _))))))))), ?_⟩
    obtain ⟨S0, hn, k⟩ := hw
    have W := wd_rng S0
    walk_at "hs"
    refine ⟨s, 9, 60, _, rfl, W.rng 0 rfl, by decide, by decide, by decide, by decide, by omega, fun H1 q ls K1 hq0 hqs hq hl L1 S1 => ?_⟩
    replace W := W.madeT (P := Eq _) (W.drawn 0 rfl K1 S1) rfl hq0 hq rfl
    have g0 := badAt_none L1.one
    clear K1 S1 hq0 hqs hq
    walk_at "hs"
    refine ⟨s, q, ls, _, rfl, W.rng 0 rfl, W.sq 1 rfl, by omega, by omega, fun H2 r b ms i K2 hr0 hb0 nrb hr hb hi hm S2 => ?_⟩
    replace W := W.madeT (P := Eq _) (W.drawn 0 rfl K2 S2) rfl hb0 hb rfl
    walk_at "hs"
    clear K2 hr0 hb0 nrb hr hb S2
    walk_at "hs"
    refine ⟨b, ms, false, rfl, W.sq 2 rfl, by omega, .inl ⟨_, _, _, .book i hi, fun H3 r1 K3 hr1 h1 => ?_⟩⟩
    replace W := W.made K3 hr1 h1 (P := Eq _) rfl
    clear K3 hr1 h1
    walk_at "hs"
    refine ⟨q, ls, false, rfl, W.sq 1 rfl, by omega, .inr ⟨rfl, g0, fun H4 r2 K4 hr2 h2 => ?_⟩⟩
    replace W := W.made K4 hr2 h2 (P := Eq _) rfl
    clear K4 hr2 h2
    walk_at "hs"
    intro p1 hp1
    generalize hG_p1 : upd _ p1 _ = H5
    have Kn_p1 := HS.upgK hG_p1 hp1
    replace W := W.newG hG_p1 hp1
    clear hG_p1 hp1
    try dsimp only [List.set, List.cons_append, List.nil_append] at W
    walk_at "hs"
    intro p2 hp2
    generalize hG_p2 : upd _ p2 _ = H6
    have Kn_p2 := HS.upgK hG_p2 hp2
    replace W := W.newG hG_p2 hp2
    clear hG_p2 hp2
    try dsimp only [List.set, List.cons_append, List.nil_append] at W
    walk_at "hs"
    intro p3 hp3
    generalize hG_p3 : upd _ p3 _ = H7
    have Kn_p3 := HS.upgK hG_p3 hp3
    replace W := W.newG hG_p3 hp3
    clear hG_p3 hp3
    try dsimp only [List.set, List.cons_append, List.nil_append] at W
    walk_at "hs"
    intro p4 hp4
    generalize hG_p4 : upd _ p4 _ = H8
    have Kn_p4 := HS.upgK hG_p4 hp4
    replace W := W.newG hG_p4 hp4
    clear hG_p4 hp4
    try dsimp only [List.set, List.cons_append, List.nil_append] at W
    refine HS.neSame (d := .list [HS.dSI "book" i, HS.dSN "none"]) (.lst (W.sq 5 rfl) (.cons (HS.dp_SI (W.sq 3 rfl)) (.cons (HS.dp_SN (W.sq 4 rfl)) .nil))) (.lst (W.sq 8 rfl) (.cons (HS.dp_SI (W.sq 6 rfl)) (.cons (HS.dp_SN (W.sq 7 rfl)) .nil))) (by simp [show PyData.strOk (("book" : String) : Str) = true from by decide +kernel, show PyData.strOk (("none" : String) : Str) = true from by decide +kernel, SeqAt.shaped, HS.dSI, HS.dSN, PyData.canLay0, PyData.canLayAll0, PyData.depth, PyData.depthAll]) (by simp [HS.dSI, HS.dSN, PyData.eqv, PyData.eqvAll]) ?_
    replace W := W.take 2
    walk_at "hs"
    intro o dx ho hdx hne
    have Wa := (W.new (o := .own o) (P := fun _ => True) hdx trivial).new (o := .ins A.c_LiveBook dx []) (P := fun _ => True) (by rw [upd_ne hne.symm]; exact ho) trivial
    refine ⟨o, dx, q, ls, rfl, upd_same, Wa.sq 1 rfl, by omega, fun j hj => absurd (g0.symm.trans hj) (by simp), fun _ H9 b1 p K9 hb1 hp1 h9 => ⟨rfl, ?_⟩⟩
    replace W := wd_liv4 W ho hdx hne K9 hb1 hp1 h9
    replace W : HS.Wd H H9 (fun a => a = s) (L24 A s (n + 401 + 7) q ls o dx p b1) := W.sub (by walk_at "sub")
    clear ho hdx hne Wa K9 hb1 hp1 h9
    walk_at "hs"
    refine ⟨by decide, by decide, for_range (n := 6) (fun i σ H' => HS.Wd H H' (fun a => a = s) (L24 A s (n + 408 + 40 * i) q ls o dx p b1) ∧ ∃ x3 x5 x6 x7 x8 x9 x10 x11, σ = [some (.ref s), some (.ref q), some (.ref b), x3, some (.ref o), x5, x6, x7, x8, x9, x10, x11, none]) ⟨W, _, _, _, _, _, _, _, _, rfl⟩ ?_ ?_⟩
    · rintro i σ H2 hi ⟨W, x3, x5, x6, x7, x8, x9, x10, x11, rfl⟩
      have hi6 : i < 6 := hi
      walk_at "hs"
      refine HS.lenL (W.sq 1 rfl) ?_
      rw [List.length_map]
      walk_at "hs"
      refine ⟨s, 3, _, rfl, W.rng 0 rfl, by decide, by decide, by omega, fun H3 m K3 S3 m0 m1 => ?_⟩
      replace W := W.drawn 0 rfl K3 S3
      obtain ⟨m, rfl⟩ := Int.eq_ofNat_of_zero_le m0
      clear K3 S3
      walk_at "hs"
      refine ⟨by omega, by omega, fun D hD => ?_⟩
      refine lc_range (lo := 0) (n := m) (fun j H' => ∃ zs : List Int, HS.Wd H H' (fun a => a = s) (L24 A s (n + 408 + 40 * i + 1 + 2 * j) q ls o dx p b1 ++ [(D, Eq (.lst (zs.map V.int)))]) ∧ zs.length = j) ⟨[], W.new hD rfl, rfl⟩ ?_ ?_
      · rintro j H4 hj ⟨zs, W, hz⟩
        walk_at "hs"
        refine ⟨s, 60, _, rfl, W.rng 0 rfl, by decide, by decide, by omega, fun H5 v K5 S5 v0 v1 => ?_⟩
        replace W := W.drawn 0 rfl K5 S5
        refine ⟨_, W.at 5 rfl, HS.sz (by rw [List.length_map]; omega), zs ++ [v], ?_, by rw [List.length_append, hz]; rfl⟩
        exact (W.put 5 rfl (P' := Eq (.lst ((zs ++ [v]).map V.int))) (by rw [List.map_append]; rfl)).rup 0 rfl (by omega)
      rintro H4 ⟨zs, W, hz⟩
      walk_at "hs"
      refine ⟨s, D, zs, _, rfl, W.rng 0 rfl, W.sq 5 rfl, by omega, by omega, fun H5 r c ms i2 K5 hr0 hc0 nrc hr hc hi2 hm S5 => ?_⟩
      replace W := W.madeT (P := Eq _) (W.drawn 0 rfl K5 S5) rfl hc0 hc rfl
      clear K5 hr0 hc0 nrc hc S5
      walk_at "hs"
      clear hr
      refine ⟨o, b1, p, dx, c, ls, [], "add", rfl, liv_at W 2 3 4 rfl rfl rfl, by omega, by decide, .inl ⟨_, _, _, .add ms i2 (W.at 6 rfl) (by omega) hi2, fun Hc rc Kc hrc hc => ?_⟩⟩
      replace W := W.made Kc hrc hc (P := Eq _) rfl
      clear Kc hrc hc
      walk_at "hs"
      intro pe hpe
      generalize hG_pe : upd _ pe _ = He
      have Kn_pe := HS.upgK hG_pe hpe
      replace W := W.newG hG_pe hpe
      clear hG_pe hpe
      try dsimp only [List.set, List.cons_append, List.nil_append] at W
      refine HS.neSame (HS.dp_SI (W.sq 7 rfl)) (HS.dp_SI (W.sq 8 rfl)) (HS.sh_SI _ _) (HS.eqv_SI _ _) ?_
      replace W := W.take 5
      walk_at "hs"
      refine ⟨s, _, _, rfl, W.rng 0 rfl, by omega, by omega, by omega, fun H6 out K6 S6 o1 o2 o3 => ?_⟩
      replace W := W.drawn 0 rfl K6 S6
      clear K6 S6
      walk_at "hs"
      refine ⟨s, 5, _, rfl, W.rng 0 rfl, by decide, by decide, by omega, fun H7 out2 K7 S7 _ _ _ => ?_⟩
      replace W := W.drawn 0 rfl K7 S7
      clear K7 S7
      walk_at "hs"
      intro p3 hp3
      generalize hG_p3 : upd _ p3 _ = H8
      have Kn_p3 := HS.upgK hG_p3 hp3
      replace W := W.newG hG_p3 hp3
      clear hG_p3 hp3
      try dsimp only [List.set, List.cons_append, List.nil_append] at W
      walk_at "hs"
      refine ⟨o, b1, p, dx, p3, ls, [], "split", rfl, liv_at W 2 3 4 rfl rfl rfl, by omega, by decide, .inl ⟨_, _, _, .split out out2 (W.at 5 rfl) o1, fun Hc rc Kc hrc hc => ?_⟩⟩
      replace W := W.made Kc hrc hc (P := Eq _) rfl
      clear Kc hrc hc
      walk_at "hs"
      intro pe hpe
      generalize hG_pe : upd _ pe _ = He
      have Kn_pe := HS.upgK hG_pe hpe
      replace W := W.newG hG_pe hpe
      clear hG_pe hpe
      try dsimp only [List.set, List.cons_append, List.nil_append] at W
      refine HS.neSame (HS.dp_SI (W.sq 6 rfl)) (HS.dp_SI (W.sq 7 rfl)) (HS.sh_SI _ _) (HS.eqv_SI _ _) ?_
      replace W := W.take 5
      walk_at "hs"
      refine ⟨s, _, _, rfl, W.rng 0 rfl, by omega, by omega, by omega, fun H9 out3 K9 S9 q1 q2 q3 => ?_⟩
      replace W := W.drawn 0 rfl K9 S9
      clear K9 S9
      walk_at "hs"
      intro p5 hp5
      generalize hG_p5 : upd _ p5 _ = Ha
      have Kn_p5 := HS.upgK hG_p5 hp5
      replace W := W.newG hG_p5 hp5
      clear hG_p5 hp5
      try dsimp only [List.set, List.cons_append, List.nil_append] at W
      walk_at "hs"
      refine ⟨s, 2, _, rfl, W.rng 0 rfl, by decide, by decide, by omega, fun Hb d Kb Sb d0 d1 => ?_⟩
      replace W := W.drawn 0 rfl Kb Sb
      clear Kb Sb
      refine HS.ixI [(ls.length : Int), out3] (W.sq 5 rfl) d0 d1 fun last _ hz => ?_
      have hlast : ¬ (1 ≤ last ∧ last ≤ (ls.length : Int) - 1) := by
        simp only [List.mem_cons, List.not_mem_nil, or_false] at hz
        rcases hz with rfl | rfl <;> omega
      clear hz
      replace W := W.take 5
      walk_at "hs"
      intro p6 hp6
      generalize hG_p6 : upd _ p6 _ = Hd
      have Kn_p6 := HS.upgK hG_p6 hp6
      replace W := W.newG hG_p6 hp6
      clear hG_p6 hp6
      try dsimp only [List.set, List.cons_append, List.nil_append] at W
      walk_at "hs"
      refine ⟨o, b1, p, dx, p6, ls, [], "join", rfl, liv_at W 2 3 4 rfl rfl rfl, by omega, by decide, .inl ⟨_, _, _, .join last (W.at 5 rfl) hlast, fun Hc rc Kc hrc hc => ?_⟩⟩
      replace W := W.made Kc hrc hc (P := Eq _) rfl
      clear Kc hrc hc
      walk_at "hs"
      intro pe hpe
      generalize hG_pe : upd _ pe _ = He
      have Kn_pe := HS.upgK hG_pe hpe
      replace W := W.newG hG_pe hpe
      clear hG_pe hpe
      try dsimp only [List.set, List.cons_append, List.nil_append] at W
      refine HS.neSame (HS.dp_SI (W.sq 6 rfl)) (HS.dp_SI (W.sq 7 rfl)) (HS.sh_SI _ _) (HS.eqv_SI _ _) ?_
      replace W := W.take 5
      walk_at "hs"
      refine HS.cut (fun σ' H' => HS.Wd H H' (fun a => a = s) (L24 A s (n + 408 + 40 * i + 34) q ls o dx p b1) ∧ ∃ y3 y5 y6 y7 y8 y9 y10 y11, σ' = [some (.ref s), some (.ref q), some (.ref b), y3, some (.ref o), y5, y6, y7, y8, y9, y10, y11, none]) ?_ ?_
      · walk_at "hs"
        refine HS.itd (fun m0 => ?_) (fun m0 => ?_)
        · walk_at "hs"
          refine ⟨s, _, _, rfl, W.rng 0 rfl, by omega, by omega, by omega, fun H6 at1 K6 S6 a0 a1 => ?_⟩
          replace W := W.drawn 0 rfl K6 S6
          clear K6 S6
          walk_at "hs"
          refine HS.ixI ls (W.sq 1 rfl) a0 a1 fun z hz0 hz => ?_
          have hz1 := L1 z hz
          walk_at "hs"
          refine ⟨s, _, _, rfl, W.rng 0 rfl, by omega, by omega, by omega, fun H7 out4 K7 S7 e1 e2 e3 => ?_⟩
          replace W := W.drawn 0 rfl K7 S7
          clear K7 S7
          walk_at "hs"
          intro p7 hp7
          generalize hG_p7 : upd _ p7 _ = Hf
          have Kn_p7 := HS.upgK hG_p7 hp7
          replace W := W.newG hG_p7 hp7
          clear hG_p7 hp7
          try dsimp only [List.set, List.cons_append, List.nil_append] at W
          walk_at "hs"
          refine ⟨o, b1, p, dx, p7, ls, [], "split", rfl, liv_at W 2 3 4 rfl rfl rfl, by omega, by decide, .inl ⟨_, _, _, .split2 (at1 + 1) out4 z (W.at 5 rfl) (by omega) (by omega) (by rw [show (at1 + 1 - 1).toNat = at1.toNat by omega]; exact hz0) e1, fun Hc rc Kc hrc hc => ?_⟩⟩
          replace W := W.made Kc hrc hc (P := Eq _) rfl
          clear Kc hrc hc
          walk_at "hs"
          intro pe hpe
          generalize hG_pe : upd _ pe _ = He
          have Kn_pe := HS.upgK hG_pe hpe
          replace W := W.newG hG_pe hpe
          clear hG_pe hpe
          try dsimp only [List.set, List.cons_append, List.nil_append] at W
          refine HS.neSame (HS.dp_SI (W.sq 6 rfl)) (HS.dp_SI (W.sq 7 rfl)) (HS.sh_SI _ _) (HS.eqv_SI _ _) ?_
          walk_at "hs"
          exact ⟨(W.take 5).rup 0 rfl (by omega), _, _, _, _, _, _, _, _, rfl⟩
        · walk_at "hs"
          exact ⟨W.rup 0 rfl (by omega), _, _, _, _, _, _, _, _, rfl⟩
      rintro σ' H6 ⟨W, y3, y5, y6, y7, y8, y9, y10, y11, rfl⟩
      walk_at "hs"
      refine ⟨s, _, _, rfl, W.rng 0 rfl, by decide, by decide, by omega, fun H7 u K7 S7 u0 u1 => ?_⟩
      replace W := W.drawn 0 rfl K7 S7
      walk_at "hs"
      intro p8 hp8
      generalize hG_p8 : upd _ p8 _ = H8
      have Kn_p8 := HS.upgK hG_p8 hp8
      replace W := W.newG hG_p8 hp8
      clear hG_p8 hp8
      try dsimp only [List.set, List.cons_append, List.nil_append] at W
      walk_at "hs"
      refine ⟨s, 3, _, rfl, W.rng 0 rfl, by decide, by decide, by omega, fun H9 d2 K9 S9 d20 d21 => ?_⟩
      replace W := W.drawn 0 rfl K9 S9
      refine HS.ixI [0, 1, u] (W.sq 5 rfl) d20 d21 fun lo _ hz => ?_
      have hlo : 0 ≤ lo := by
        simp only [List.mem_cons, List.not_mem_nil, or_false] at hz
        rcases hz with rfl | rfl | rfl <;> omega
      clear hz K7 S7 K9 S9
      replace W := W.take 5
      walk_at "hs"
      refine ⟨o, b1, p, dx, ls, [], _, rfl, liv_at W 2 3 4 rfl rfl rfl, by omega, fun Hc rc Kc hrc hc => ?_⟩
      replace W := W.made Kc hrc hc (P := Eq _) rfl
      clear Kc hrc hc
      walk_at "hs"
      intro p9 hp9
      generalize hG_p9 : upd _ p9 _ = Hg
      have Kn_p9 := HS.upgK hG_p9 hp9
      replace W := W.newG hG_p9 hp9
      clear hG_p9 hp9
      try dsimp only [List.set, List.cons_append, List.nil_append] at W
      refine HS.neSame (HS.dp_SI (W.sq 5 rfl)) (HS.dp_SI (W.sq 6 rfl)) (HS.sh_SI _ _) (HS.eqv_SI _ _) ?_
      replace W := W.take 5
      walk_at "hs"
      refine ⟨s, 20, _, rfl, W.rng 0 rfl, by decide, by decide, by omega, fun Hh j Kh Sh j0 j1 => ?_⟩
      replace W := W.drawn 0 rfl Kh Sh
      walk_at "hs"
      refine ⟨o, b1, p, dx, q, ls, [], _, rfl, liv_at W 2 3 4 rfl rfl rfl, W.sq 1 rfl, by omega, by omega, by omega, fun Hi Ki => ?_⟩
      replace W := W.same Ki
      walk_at "hs"
      exact ⟨W.rup 0 rfl (by omega), _, _, _, _, _, _, _, _, rfl⟩
    · rintro σ H2 ⟨W, x3, x5, x6, x7, x8, x9, x10, x11, rfl⟩
      walk_at "hs"
      intro p1 hp1
      generalize hG_p1 : upd _ p1 _ = H3
      have Kn_p1 := HS.upgK hG_p1 hp1
      replace W := W.newG hG_p1 hp1
      clear hG_p1 hp1
      try dsimp only [List.set, List.cons_append, List.nil_append] at W
      walk_at "hs"
      refine ⟨o, b1, p, dx, p1, ls, [], "undo", rfl, liv_at W 2 3 4 rfl rfl rfl, by omega, by decide, .inl ⟨_, _, _, .undo rfl, fun Hc rc Kc hrc hc => ?_⟩⟩
      replace W := W.made Kc hrc hc (P := Eq _) rfl
      walk_at "hs"
      intro p2 hp2
      generalize hG_p2 : upd _ p2 _ = H4
      have Kn_p2 := HS.upgK hG_p2 hp2
      replace W := W.newG hG_p2 hp2
      clear hG_p2 hp2
      try dsimp only [List.set, List.cons_append, List.nil_append] at W
      refine HS.eqSame (HS.dp_SI (W.sq 6 rfl)) (HS.dp_SI (W.sq 7 rfl)) (HS.sh_SI _ _) (HS.eqv_SI _ _) ?_
      exact k _ W.kp ((W.rng 0 rfl).up (by omega))
def sp_law (K : PySem.W.Frag) : Sp := fun vs H Q _ => ∃ (a : Addr) (ns : List Int), vs = [.ref a] ∧ (SqL K H a (ns.map V.int) ∧ ns.length ≤ 63 ∧ ∀ H', Q (.bl true) H')
theorem ok_law (T : Txt K mg A) : FnOk P w K mg base CX0 10 A.a_law A.d_law ["script"] (sp_law K) := by
  have G__law_pool : FnOk P w K mg base CX0 1 A.a__law_pool A.d__law_pool ["script", "at"] (sp__law_pool K) := ok__law_pool T
  have G__law_right : FnOk P w K mg base CX0 9 A.a__law_right A.d__law_right ["pool"] (sp__law_right K A) := ok__law_right T
  have G_LiveBook___init__ : FnOk P w K mg base (L2.CX P w) 4 A.a_LiveBook___init__ A.d_LiveBook___init__ ["self", "book"] (sp_LiveBook___init__ K A) := ok_LiveBook___init__ T
  have G_LiveBook_add : FnR P w K mg base (L2.CX P w) 4 A.a_LiveBook_add (HS.starS 1 (sp_LiveBook_add K A)) := ok_LiveBook_add T
  have G_LiveBook_book : FnOk P w K mg base CX0 1 A.a_LiveBook_book A.d_LiveBook_book ["self"] (sp_LiveBook_book K A) := ok_LiveBook_book T
  have G__law_kind : FnOk P w K mg base CX0 1 A.a__law_kind A.d__law_kind ["caught"] (sp__law_kind K A) := ok__law_kind T
  have G_LiveBook_from_table : FnOk P w K mg base (L2.CX P w) 6 A.a_LiveBook_from_table A.d_LiveBook_from_table ["cls", "table"] (sp_LiveBook_from_table K A) := ok_LiveBook_from_table T
  have G__law_called : FnOk P w K mg base CX0 7 A.a__law_called A.d__law_called ["live", "call", "some"] (sp__law_called K A) := ok__law_called T
  have G__law_made : FnOk P w K mg base CX0 8 A.a__law_made A.d__law_made ["lengths", "by_table"] (sp__law_made K A) := ok__law_made T
  refine T.F_law.ok sc_law (fun vs H Q E h => ?_) (fun cdv A0 outer s H vs Q E hr h => ?_)
  · obtain ⟨a, ns, rfl, hw⟩ := h
    rfl
  · obtain ⟨a, ns, rfl, hw⟩ := h
    refine ⟨_, (pss_cons (ps_for PassesOwn.never rfl (pi_range1 (by rfl) T.z_range (pa_cons (pe_callB (call_max2 rfl) (by rfl) T.z_max (by decide +kernel) (pa_cons pe_int (pa_cons (pe_callB (call_min2 rfl) (by rfl) T.z_min (by decide +kernel) (pa_cons pe_int (pa_cons (pe_callB (HS.klen K) (by rfl) T.z_len PySem.boot_len (pa_cons (pv 0) pa_nil)) pa_nil))) pa_nil))) pa_nil)) (pg_name (i := 1) sc_law.nd rfl (.inl rfl))
      (pss_cons (ps_set (i := 2) sc_law.nd rfl (.inl rfl) (pe_call G__law_pool (hr.mono (by decide)) (by rfl) T.g__law_pool T.F__law_pool.kp T.b__law_pool .nil pass0 (pa_cons (pv 0) (pa_cons (pv 1) pa_nil))))
    (pss_one (ps_for PassesOwn.never rfl (pi_range1 (by rfl) T.z_range (pa_cons pe_int pa_nil)) (pg_name (i := 3) sc_law.nd rfl (.inl rfl))
      (pss_one (ps_if (pt_not (pt_val (pe_call G__law_right hr (by rfl) T.g__law_right T.F__law_right.kp T.b__law_right .nil pass0 (pa_cons (pv 2) pa_nil))))
      (pss_one (ps_ret pe_bl))
      pss_nil))))))
    (pss_cons (ps_par (i := 4) (j := 5) rfl sc_law.nd rfl rfl (by decide) rfl rfl (pa_cons (HS.pe_makeS T.K_LiveBook G_LiveBook___init__ (hr.mono (by decide)) (by rfl) T.m_LiveBook T.b_LiveBook___init__ (fun σ => HS.passSt passL σ) (pa_cons (pe_lst (pa_cons pe_int (pa_cons pe_int pa_nil))) pa_nil)) (pa_cons pe_non pa_nil)) (by rfl))
    (pss_cons (HS.ps_try_keep (i := 6) rfl rfl sc_law.nd rfl rfl ⟨rfl, by decide, Or.inl T.m_BookError⟩ takes0
      (fun W pn xe tk po => (pss_one (ps_expr (HS.pe_methRS (pv 4) T.C_LiveBook T.M_LiveBook_add G_LiveBook_add (hr.mono (by decide)) (fun σ => passAt tk σ) (pa_cons pe_int (pa_cons pe_int (pa_cons pe_int (pa_cons pe_int (pa_cons pe_int (pa_cons pe_int (pa_cons pe_int (pa_cons pe_int (pa_cons pe_int (pa_cons pe_int (pa_cons (pe_un un_neg pe_int) (pa_cons pe_int pa_nil))))))))))))))))
      (fun a oe cls d pn hz hf => (pss_one (ps_set (i := 5) sc_law.nd rfl (.inl rfl) (pv 6)))))
    (pss_cons (ps_if (PW.pt (pw_or (pt_cmpR op_isN (pv 5) pe_non (nomark _)) (pw_or1 (pt_cmpR (HS.kne K (hu64 hr)) (pe_lst (pa_cons (pe_call G__law_kind (hr.mono (by decide)) (by rfl) T.g__law_kind T.F__law_kind.kp T.b__law_kind .nil pass0 (pa_cons (pv 5) pa_nil)) (pa_cons (HS.pe_fldX (pv 5)) (pa_cons (pe_prop (pv 4) T.C_LiveBook T.P_LiveBook_book G_LiveBook_book (hr.mono (by decide)) T.b_LiveBook_book .nil pass0 rfl) pa_nil)))) (pe_lst (pa_cons pe_str (pa_cons pe_int (pa_cons (pe_lst (pa_cons pe_int (pa_cons pe_int pa_nil))) pa_nil)))) (nomark _)))))
      (pss_one (ps_ret pe_bl))
      pss_nil)
    (pss_cons (ps_set (i := 4) sc_law.nd rfl (.inl rfl) (ClX.pe_cmeth (pe_glob (v := .ref A.c_LiveBook) (by rfl) T.m_LiveBook rfl) T.D_LiveBook T.W_LiveBook_from_table (HS.fnR_of G_LiveBook_from_table T.b_LiveBook_from_table) (hr.mono (by decide)) passL (pa_cons (pe_lst (pa_cons pe_int (pa_cons pe_int (pa_cons pe_int (pa_cons pe_int (pa_cons pe_int pa_nil)))))) pa_nil)))
    (pss_cons (ps_set (i := 7) sc_law.nd rfl (.inl rfl) (pe_lst (pa_cons (pe_call G__law_called (hr.mono (by decide)) (by rfl) T.g__law_called T.F__law_called.kp T.b__law_called .nil pass0 (pa_cons (pv 4) (pa_cons pe_str (pa_cons (pe_lst pa_nil) pa_nil)))) (pa_cons (pe_call G__law_called (hr.mono (by decide)) (by rfl) T.g__law_called T.F__law_called.kp T.b__law_called .nil pass0 (pa_cons (pv 4) (pa_cons pe_str (pa_cons (pe_lst (pa_cons pe_int pa_nil)) pa_nil)))) (pa_cons (pe_call G__law_called (hr.mono (by decide)) (by rfl) T.g__law_called T.F__law_called.kp T.b__law_called .nil pass0 (pa_cons (pv 4) (pa_cons pe_str (pa_cons (pe_lst pa_nil) pa_nil)))) pa_nil)))))
    (pss_cons (ps_expr (HS.kbm K (pe_bm PySem.F.plainAttrs_list PySem.F.slot_list_append PySem.F.type_list_append mt_append (pv 7) (pa_cons (pe_call G__law_called (hr.mono (by decide)) (by rfl) T.g__law_called T.F__law_called.kp T.b__law_called .nil pass0 (pa_cons (pv 4) (pa_cons pe_str (pa_cons (pe_lst pa_nil) pa_nil)))) pa_nil))))
    (pss_cons (ps_if (PW.pt (pw_or (pt_cmpR (HS.kne K (hu64 hr)) (pv 7) (pe_lst (pa_cons (pe_lst (pa_cons pe_str (pa_cons pe_int pa_nil))) (pa_cons (pe_lst (pa_cons pe_non pa_nil)) (pa_cons (pe_lst (pa_cons pe_non pa_nil)) (pa_cons (pe_lst (pa_cons pe_str (pa_cons pe_int pa_nil))) pa_nil))))) (nomark _)) (pw_or1 (pt_cmpR (HS.kne K (hu64 hr)) (pe_prop (pv 4) T.C_LiveBook T.P_LiveBook_book G_LiveBook_book (hr.mono (by decide)) T.b_LiveBook_book .nil pass0 rfl) (pe_lst (pa_cons pe_int (pa_cons pe_int (pa_cons pe_int pa_nil)))) (nomark _)))))
      (pss_one (ps_ret pe_bl))
      pss_nil)
    (pss_one (ps_ret (pe_cmpR (HS.keq K (hu64 hr)) (pe_lst (pa_cons (pe_call G__law_made (hr.mono (by decide)) (by rfl) T.g__law_made T.F__law_made.kp T.b__law_made .nil pass0 (pa_cons (pe_lst (pa_cons pe_int (pa_cons pe_int (pa_cons pe_int (pa_cons pe_int pa_nil))))) (pa_cons pe_bl pa_nil))) (pa_cons (pe_call G__law_made (hr.mono (by decide)) (by rfl) T.g__law_made T.F__law_made.kp T.b__law_made .nil pass0 (pa_cons (pe_lst (pa_cons pe_int (pa_cons (pe_un un_neg pe_int) pa_nil))) (pa_cons pe_bl pa_nil))) pa_nil))) (pe_lst (pa_cons (pe_lst (pa_cons pe_str (pa_cons pe_int pa_nil))) (pa_cons (pe_lst (pa_cons pe_str (pa_cons pe_int pa_nil))) pa_nil))) (nomark _)))))))))))), ?_⟩
    obtain ⟨hS, hl, k⟩ := hw
    walk_at "hs"
    rw [List.length_map]
    generalize hcc : (if (if (ns.length : Int) < 8 then (ns.length : Int) else 8) > 1 then (if (ns.length : Int) < 8 then (ns.length : Int) else 8) else 1) = c
    have c1 : 1 ≤ c ∧ c ≤ 8 := by
      rw [← hcc]
      constructor <;> (repeat' split) <;> omega
    refine ⟨by omega, by omega, for_range (n := c.toNat) (fun i σ H' => HS.Keep (fun _ => False) H H' ∧ ∃ x1 x2 x3 x4 x5 x6 x7, σ = [some (.ref a), x1, x2, x3, x4, x5, x6, x7]) ⟨.refl, _, _, _, _, _, _, _, rfl⟩ ?_ ?_⟩
    · rintro i σ H1 hi ⟨K1, x1, x2, x3, x4, x5, x6, x7, rfl⟩
      walk_at "hs"
      refine ⟨a, ns, _, rfl, K1.sq hS id, by omega, by omega, fun H2 s K2 hs0 S2 => ?_⟩
      have s0 := K1.free hs0 id
      walk_at "hs"
      refine ⟨by decide, by decide, for_range (n := Int.toNat 4) (fun j σ H' => HS.Keep (fun _ => False) H H' ∧ Rng H' s (1000 * j) ∧ ∃ x3, σ = [some (.ref a), some (.int (0 + (i : Int))), some (.ref s), x3, x4, x5, x6, x7]) ⟨K1.trans K2, S2, _, rfl⟩ ?_ ?_⟩
      · rintro j σ H3 hj ⟨K3, S3, x3, rfl⟩
        have hj3 : j < 4 := hj
        walk_at "hs"
        refine ⟨s, _, rfl, S3, by omega, fun H4 K4 S4 => ?_⟩
        walk_at "hs"
        exact ⟨keep_tro K3 K4 s0, S4.up (by omega), _, rfl⟩
      · rintro σ H3 ⟨K3, S3, x3, rfl⟩
        walk_at "hs"
        exact ⟨K3, _, _, _, _, _, _, _, rfl⟩
    · rintro σ H1 ⟨K1, x1, x2, x3, x4, x5, x6, x7, rfl⟩
      clear K1
      have W := HS.Wd.nil (H := H1) (S := fun _ => False)
      walk_at "hs"
      intro p1 hp1
      generalize hG_p1 : upd _ p1 _ = G1
      have Kn_p1 := HS.upgK hG_p1 hp1
      replace W := W.newG hG_p1 hp1
      clear hG_p1 hp1
      try dsimp only [List.set, List.cons_append, List.nil_append] at W
      walk_at "hs"
      intro o dx ho hdx hne
      have Wa := (W.new (o := .own o) (P := fun _ => True) hdx trivial).new (o := .ins A.c_LiveBook dx []) (P := fun _ => True) (by rw [upd_ne hne.symm]; exact ho) trivial
      refine ⟨o, dx, p1, [4, 2], rfl, upd_same, Wa.sq 0 rfl, by decide, fun j hj => absurd (hj.symm.trans (show badAt [4, 2] = none by decide)) (by simp), fun _ H2 b p K2 hb hp h2 => ⟨rfl, ?_⟩⟩
      replace W := wd_liv4 W ho hdx hne K2 hb hp h2
      clear Wa ho hdx hne K2 hb hp
      walk_at "hs"
      refine ⟨o, dx, _, rfl, h2.eo, lf_no (by decide +kernel) (by decide +kernel), ?_⟩
      walk_at "hs"
      refine ⟨[.ref o], ([3, 3, 3, 3, 3, 3, 3, 3, 3, 0, -1, 3] : List Int).map V.int, rfl, rfl, Nat.le_of_lt (HS.sz (show 12 ≤ 100000 by decide)), fun q hq => ?_⟩
      have hc := cau_InvalidBook T
      refine ⟨o, b, p, dx, q, [4, 2], [3, 3, 3, 3, 3, 3, 3, 3, 3, 0, -1, 3], [], rfl, h2.new hq, upd_same, by decide, by decide, fun i hi => ?_, fun z => absurd z (by decide)⟩
      obtain rfl : 9 = i := Option.some.inj ((show badAt [3, 3, 3, 3, 3, 3, 3, 3, 3, 0, -1, 3] = some 9 by decide).symm.trans hi)
      have Kq : HS.Keep (fun _ => False) H2 (upd H2 q (.tup (([3, 3, 3, 3, 3, 3, 3, 3, 3, 0, -1, 3] : List Int).map V.int))) := .new hq
      generalize upd H2 q (.tup (([3, 3, 3, 3, 3, 3, 3, 3, 3, 0, -1, 3] : List Int).map V.int)) = Hq at Kq ⊢
      intro H3 d K3 hd e
      replace K3 := Kq.trans K3
      refine ⟨true, hc.e, fun _ r ha => ?_, fun z => by cases z⟩
      walk_at "hs"
      intro ha2
      have hX : HS.Exh (upd H3 r (HS.exh r (.ref A.c_InvalidBook) (some d))) r A.c_InvalidBook [("value", .int 9)] := ⟨d, upd_same, by rw [upd_ne (ne_of_none e ha)]; exact e⟩
      have K4 := K3.nw (o := HS.exh r (.ref A.c_InvalidBook) (some d)) ha
      generalize upd H3 r (HS.exh r (.ref A.c_InvalidBook) (some d)) = H4 at hX K4 ⊢
      have h4 := h2.same K4
      clear W h2 K3 K4 Kq
      walk_at "hs"
      refine ⟨rfl, ?_⟩
      walk_at "hs"
      refine HS.it0 (fun z => by cases z) ?_
      walk_at "hs"
      refine ⟨r, A.c_InvalidBook, _, _, rfl, hX, hc.V, hc.kd, fun H5 K5 => ?_⟩
      walk_at "hs"
      refine ⟨r, _, _, _, rfl, hc.X, hc.n, hX.same K5, rfl, ?_⟩
      walk_at "hs"
      have h5 := h4.same K5
      refine ⟨o, dx, _, rfl, h5.eo, o, b, p, dx, [4, 2], [], rfl, h5, ?_⟩
      have W := HS.Wd.nil (H := H5) (S := fun _ => False)
      clear h4 K5 hX
      intro c1 hc1
      generalize hG_c1 : upd _ c1 _ = H6
      have Kn_c1 := HS.upgK hG_c1 hc1
      replace W := W.newG hG_c1 hc1
      clear hG_c1 hc1
      try dsimp only [List.set, List.cons_append, List.nil_append] at W
      walk_at "hs"
      intro c2 hc2
      generalize hG_c2 : upd _ c2 _ = H7
      have Kn_c2 := HS.upgK hG_c2 hc2
      replace W := W.newG hG_c2 hc2
      clear hG_c2 hc2
      try dsimp only [List.set, List.cons_append, List.nil_append] at W
      walk_at "hs"
      intro c3 hc3
      generalize hG_c3 : upd _ c3 _ = H8
      have Kn_c3 := HS.upgK hG_c3 hc3
      replace W := W.newG hG_c3 hc3
      clear hG_c3 hc3
      try dsimp only [List.set, List.cons_append, List.nil_append] at W
      walk_at "hs"
      intro c4 hc4
      generalize hG_c4 : upd _ c4 _ = H9
      have Kn_c4 := HS.upgK hG_c4 hc4
      replace W := W.newG hG_c4 hc4
      clear hG_c4 hc4
      try dsimp only [List.set, List.cons_append, List.nil_append] at W
      refine HS.neSame (d := .list [.str "book", .int 9, HS.dInts [4, 2]]) (.lst (W.sq 1 rfl) (.cons (.str _) (.cons (.int _) (.cons (HS.dp_ints (W.sq 0 rfl)) .nil)))) (.lst (W.sq 3 rfl) (.cons (.str _) (.cons (.int _) (.cons (HS.dp_ints (W.sq 2 rfl)) .nil)))) (by simp [show PyData.strOk (("book" : String) : Str) = true from by decide +kernel, SeqAt.shaped, HS.dInts, PyData.canLay0, PyData.canLayAll0, PyData.depth, PyData.depthAll]) (by simp [HS.dInts, PyData.eqv, PyData.eqvAll]) ?_
      clear W h5
      have W := HS.Wd.nil (H := H9) (S := fun _ => False)
      walk_at "hs"
      refine HS.ocmeth ?_
      walk_at "hs"
      refine ⟨rfl, ?_⟩
      walk_at "hs"
      intro t1 ht1
      generalize hG_t1 : upd _ t1 _ = Ha
      have Kn_t1 := HS.upgK hG_t1 ht1
      replace W := W.newG hG_t1 ht1
      clear hG_t1 ht1
      try dsimp only [List.set, List.cons_append, List.nil_append] at W
      refine ⟨t1, [11, 7, 4, 4, 3], rfl, W.sq 0 rfl, by decide, fun c e => ?_, fun w' z => absurd (z.symm.trans (show readAll [11, 7, 4, 4, 3] = .inr [5, 3, 3] by decide)) (by simp), fun ls hls => ?_⟩
      · obtain rfl : 3 = c := Option.some.inj e
        decide
      obtain rfl : [5, 3, 3] = ls := Sum.inr.inj ((show readAll [11, 7, 4, 4, 3] = .inr [5, 3, 3] by decide).symm.trans hls)
      refine ⟨by decide, by decide, fun Hb o1 b1 p1 dx1 Kb _ _ _ L0 => ?_⟩
      clear W
      have W := (HS.Wd.one (S := fun a => a = o1 ∨ a = p1) (P := Eq _) L0.eo rfl (.inl rfl)).old (P := Eq _) L0.ep rfl (.inr rfl) (fun x hx => by rw [List.mem_singleton] at hx; subst hx; exact L0.op.symm)
      have nb : ¬ (b1 = o1 ∨ b1 = p1) := fun z => z.elim L0.ob L0.bp
      walk_at "hs"
      intro q1 hq1
      generalize hG_q1 : upd _ q1 _ = Hc
      have Kn_q1 := HS.upgK hG_q1 hq1
      replace W := W.newG hG_q1 hq1
      clear hG_q1 hq1
      try dsimp only [List.set, List.cons_append, List.nil_append] at W
      walk_at "hs"
      refine ⟨o1, b1, p1, dx1, q1, [5, 3, 3], [], "undo", rfl, ⟨W.at 0 rfl, W.kp _ _ L0.eb nb, W.at 1 rfl, L0.bp⟩, by decide, by decide, .inl ⟨_, _, _, .undo rfl, fun Hd r1 Kd hr1 hd1 => ?_⟩⟩
      replace W := W.made Kd hr1 hd1 (P := Eq _) rfl
      clear Kd hr1 hd1
      walk_at "hs"
      intro q2 hq2
      generalize hG_q2 : upd _ q2 _ = He
      have Kn_q2 := HS.upgK hG_q2 hq2
      replace W := W.newG hG_q2 hq2
      clear hG_q2 hq2
      try dsimp only [List.set, List.cons_append, List.nil_append] at W
      walk_at "hs"
      refine ⟨o1, b1, p1, dx1, q2, [5, 3, 3], [], "add", rfl, ⟨W.at 0 rfl, W.kp _ _ L0.eb nb, W.at 1 rfl, L0.bp⟩, by decide, by decide, .inr (.inl ⟨rfl, [2], W.at 4 rfl, by decide, by decide, fun Hf e2 r2 Kf he2 hr2 L1 hd2 => ?_⟩)⟩
      replace W := W.madeT (P := Eq _) (W.two 0 1 rfl rfl (by decide) Kf L1.eo L1.ep) rfl hr2 hd2 rfl
      clear Kf he2 hr2 hd2
      dsimp only [List.set, List.cons_append, List.nil_append] at W
      walk_at "hs"
      intro q3 hq3
      generalize hG_q3 : upd _ q3 _ = Hg
      have Kn_q3 := HS.upgK hG_q3 hq3
      replace W := W.newG hG_q3 hq3
      clear hG_q3 hq3
      try dsimp only [List.set, List.cons_append, List.nil_append] at W
      walk_at "hs"
      refine ⟨o1, e2, p1, dx1, q3, _, [b1], "undo", rfl, L1.same Kn_q3, by simp, by simp, .inr (.inr ⟨rfl, [], b1, [5, 3, 3], rfl, W.kp _ _ L0.eb nb, L0.bp, fun Hh r3 Kh hr3 L3 hd3 => ?_⟩)⟩
      replace W := W.madeT (P := Eq _) (W.two 0 1 rfl rfl (by decide) Kh L3.eo L3.ep) rfl hr3 hd3 rfl
      clear Kh hr3 hd3
      dsimp only [List.set, List.cons_append, List.nil_append] at W
      walk_at "hs"
      intro tt htt
      generalize hG_tt : upd _ tt _ = Hi
      have Kn_tt := HS.upgK hG_tt htt
      replace W := W.newG hG_tt htt
      clear hG_tt htt
      try dsimp only [List.set, List.cons_append, List.nil_append] at W
      walk_at "hs"
      refine HS.tyL (W.at 8 rfl) ?_
      walk_at "hs"
      intro q4 hq4
      generalize hG_q4 : upd _ q4 _ = Hj
      have Kn_q4 := HS.upgK hG_q4 hq4
      replace W := W.newG hG_q4 hq4
      clear hG_q4 hq4
      try dsimp only [List.set, List.cons_append, List.nil_append] at W
      walk_at "hs"
      refine ⟨o1, b1, p1, dx1, q4, [5, 3, 3], [], "undo", rfl, ⟨W.at 0 rfl, W.kp _ _ L0.eb nb, W.at 1 rfl, L0.bp⟩, by decide, by decide, .inl ⟨_, _, _, .undo rfl, fun Hk r4 Kk hr4 hd4 => ?_⟩⟩
      replace W := W.made Kk hr4 hd4 (P := Eq _) rfl
      clear Kk hr4 hd4
      walk_at "hs"
      refine HS.app (W.at 8 rfl) ⟨HS.sz (show _ ≤ 100000 from by simp), ?_⟩
      generalize hG_tt : upd _ tt _ = Hl
      replace W := W.putG 8 rfl hG_tt
      clear hG_tt
      try dsimp only [List.set, List.cons_append, List.nil_append] at W
      walk_at "hs"
      intro u1 hu1
      generalize hG_u1 : upd _ u1 _ = Hm
      have Kn_u1 := HS.upgK hG_u1 hu1
      replace W := W.newG hG_u1 hu1
      clear hG_u1 hu1
      try dsimp only [List.set, List.cons_append, List.nil_append] at W
      walk_at "hs"
      intro u2 hu2
      generalize hG_u2 : upd _ u2 _ = Hn
      have Kn_u2 := HS.upgK hG_u2 hu2
      replace W := W.newG hG_u2 hu2
      clear hG_u2 hu2
      try dsimp only [List.set, List.cons_append, List.nil_append] at W
      walk_at "hs"
      intro u3 hu3
      generalize hG_u3 : upd _ u3 _ = Ho
      have Kn_u3 := HS.upgK hG_u3 hu3
      replace W := W.newG hG_u3 hu3
      clear hG_u3 hu3
      try dsimp only [List.set, List.cons_append, List.nil_append] at W
      walk_at "hs"
      intro u4 hu4
      generalize hG_u4 : upd _ u4 _ = Hp1
      have Kn_u4 := HS.upgK hG_u4 hu4
      replace W := W.newG hG_u4 hu4
      clear hG_u4 hu4
      try dsimp only [List.set, List.cons_append, List.nil_append] at W
      walk_at "hs"
      intro u5 hu5
      generalize hG_u5 : upd _ u5 _ = Hq1
      have Kn_u5 := HS.upgK hG_u5 hu5
      replace W := W.newG hG_u5 hu5
      clear hG_u5 hu5
      try dsimp only [List.set, List.cons_append, List.nil_append] at W
      refine HS.neSame (d := .list [HS.dSI "undo" 0, .list [.none], .list [.none], HS.dSI "undo" 0]) (.lst (W.sq 8 rfl) (.cons (HS.dp_SI (W.sq 3 rfl)) (.cons (.lst (W.sq 5 rfl) (.cons .non .nil)) (.cons (.lst (W.sq 7 rfl) (.cons .non .nil)) (.cons (HS.dp_SI (W.sq 10 rfl)) .nil))))) (.lst (W.sq 15 rfl) (.cons (HS.dp_SI (W.sq 11 rfl)) (.cons (.lst (W.sq 12 rfl) (.cons .non .nil)) (.cons (.lst (W.sq 13 rfl) (.cons .non .nil)) (.cons (HS.dp_SI (W.sq 14 rfl)) .nil))))) (by simp [show PyData.strOk (("undo" : String) : Str) = true from by decide +kernel, SeqAt.shaped, HS.dSI, PyData.canLay0, PyData.canLayAll0, PyData.depth, PyData.depthAll]) (by simp [HS.dSI, PyData.eqv, PyData.eqvAll]) ?_
      replace W := W.take 2
      have L9 : LivAt A.c_LiveBook Hq1 o1 b1 p1 dx1 [5, 3, 3] [] := ⟨W.at 0 rfl, W.kp _ _ L0.eb nb, W.at 1 rfl, L0.bp⟩
      clear W
      walk_at "hs"
      refine ⟨o1, dx1, _, rfl, L9.eo, o1, b1, p1, dx1, [5, 3, 3], [], rfl, L9, ?_⟩
      have W := HS.Wd.nil (H := Hq1) (S := fun _ => False)
      intro v1 hv1
      generalize hG_v1 : upd _ v1 _ = Hr
      have Kn_v1 := HS.upgK hG_v1 hv1
      replace W := W.newG hG_v1 hv1
      clear hG_v1 hv1
      try dsimp only [List.set, List.cons_append, List.nil_append] at W
      walk_at "hs"
      intro v2 hv2
      generalize hG_v2 : upd _ v2 _ = Hs
      have Kn_v2 := HS.upgK hG_v2 hv2
      replace W := W.newG hG_v2 hv2
      clear hG_v2 hv2
      try dsimp only [List.set, List.cons_append, List.nil_append] at W
      refine HS.neL (xs := [5, 3, 3]) (ys := [5, 3, 3]) (W.sq 0 rfl) (W.sq 1 rfl) ?_
      rw [decide_eq_true rfl]
      clear W
      have W := HS.Wd.nil (H := Hs) (S := fun _ => False)
      walk_at "hs"
      intro v3 hv3
      generalize hG_v3 : upd _ v3 _ = Ht
      have Kn_v3 := HS.upgK hG_v3 hv3
      replace W := W.newG hG_v3 hv3
      clear hG_v3 hv3
      try dsimp only [List.set, List.cons_append, List.nil_append] at W
      walk_at "hs"
      refine ⟨v3, [9, 6, 2, 3], true, rfl, W.sq 0 rfl, by decide, .inl ⟨_, _, _, .table 3 (by decide) (fun c e => by obtain rfl : 3 = c := Option.some.inj e; decide), fun Hu r5 Ku hr5 hd5 => ?_⟩⟩
      replace W := W.made Ku hr5 hd5 (P := Eq _) rfl
      walk_at "hs"
      intro v4 hv4
      generalize hG_v4 : upd _ v4 _ = Hv
      have Kn_v4 := HS.upgK hG_v4 hv4
      replace W := W.newG hG_v4 hv4
      clear hG_v4 hv4
      try dsimp only [List.set, List.cons_append, List.nil_append] at W
      walk_at "hs"
      refine ⟨v4, [5, -1], true, rfl, W.sq 2 rfl, by decide, .inl ⟨_, _, _, .table 2 (by decide) (fun c e => by obtain rfl : -1 = c := Option.some.inj e; decide), fun Hw r6 Kw hr6 hd6 => ?_⟩⟩
      replace W := W.made Kw hr6 hd6 (P := Eq _) rfl
      walk_at "hs"
      intro v5 hv5
      generalize hG_v5 : upd _ v5 _ = Hx
      have Kn_v5 := HS.upgK hG_v5 hv5
      replace W := W.newG hG_v5 hv5
      clear hG_v5 hv5
      try dsimp only [List.set, List.cons_append, List.nil_append] at W
      walk_at "hs"
      intro v6 hv6
      generalize hG_v6 : upd _ v6 _ = Hy
      have Kn_v6 := HS.upgK hG_v6 hv6
      replace W := W.newG hG_v6 hv6
      clear hG_v6 hv6
      try dsimp only [List.set, List.cons_append, List.nil_append] at W
      walk_at "hs"
      intro v7 hv7
      generalize hG_v7 : upd _ v7 _ = Hz
      have Kn_v7 := HS.upgK hG_v7 hv7
      replace W := W.newG hG_v7 hv7
      clear hG_v7 hv7
      try dsimp only [List.set, List.cons_append, List.nil_append] at W
      walk_at "hs"
      intro v8 hv8
      generalize hG_v8 : upd _ v8 _ = HA
      have Kn_v8 := HS.upgK hG_v8 hv8
      replace W := W.newG hG_v8 hv8
      clear hG_v8 hv8
      try dsimp only [List.set, List.cons_append, List.nil_append] at W
      refine HS.eqSame (d := .list [HS.dSI "table" 3, HS.dSI "table" 2]) (.lst (W.sq 4 rfl) (.cons (HS.dp_SI (W.sq 1 rfl)) (.cons (HS.dp_SI (W.sq 3 rfl)) .nil))) (.lst (W.sq 7 rfl) (.cons (HS.dp_SI (W.sq 5 rfl)) (.cons (HS.dp_SI (W.sq 6 rfl)) .nil))) (by simp [show PyData.strOk (("table" : String) : Str) = true from by decide +kernel, SeqAt.shaped, HS.dSI, PyData.canLay0, PyData.canLayAll0, PyData.depth, PyData.depthAll]) (by simp [HS.dSI, PyData.eqv, PyData.eqvAll]) ?_
      exact k _
end
theorem all_mk {l : PySem.W.OpenLaw} {w : World} {K : PySem.W.Frag} {h : Heap} {mg : Str → Option Value} {fa f0 f1 f2 f3 f4 f5 f6 f7 f8 f9 f10 f11 f12 f13 f14 f15 f16 f17 f18 f19 f20 f21 f22 f23 f24 f25 f26 f27 f28 f29 f30 f31 f32 f33 f34 f35 f36 f37 c_BookError c_InvalidBook c_InvalidSize c_InvalidTable c_InvalidChain c_InvalidNumber c_NothingToUndo c_Unreadable c_LiveBook p_LiveBook_book p_LiveBook_chapters p_LiveBook_lines p_LiveBook_from_table : Addr} (X : K.In h) (G : h.Ns mainGlobals mg) (hfa : mg "law" = some (.ref fa))
    {od0 an0 od1 an1 od2 an2 od3 an3 od4 an4 od5 an5 od6 an6 od7 an7 od8 an8 od9 an9 od10 an10 od11 an11 od12 an12 od13 an13 od14 an14 od15 an15 od16 an16 od17 an17 od18 an18 od19 an19 od20 an20 od21 an21 od22 an22 od23 an23 od24 an24 od25 an25 od26 an26 od27 an27 od28 an28 od29 an29 od30 an30 od31 an31 od32 an32 od33 an33 od34 an34 od35 an35 od36 an36 od37 an37 : Option Addr} {sl0 sl1 sl2 sl3 sl4 sl5 sl6 sl7 sl8 sl9 sl10 sl11 sl12 sl13 sl14 sl15 sl16 sl17 sl18 sl19 sl20 sl21 sl22 sl23 sl24 sl25 sl26 sl27 sl28 sl29 sl30 sl31 sl32 sl33 sl34 sl35 sl36 sl37 : Array (Option Value)} {oc0 kV0 dc0 pm0 cd0 ct0 oc1 kV1 dc1 pm1 cd1 ct1 oc2 kV2 dc2 pm2 cd2 ct2 oc3 kV3 dc3 pm3 cd3 ct3 oc4 kV4 dc4 pm4 cd4 ct4 oc5 kV5 dc5 pm5 cd5 ct5 oc6 kV6 dc6 pm6 cd6 ct6 oc7 kV7 dc7 pm7 cd7 ct7 oc8 kV8 dc8 pm8 cd8 ct8 oc9 kV9 dc9 pm9 cd9 ct9 oc10 kV10 dc10 pm10 cd10 ct10 oc11 kV11 dc11 pm11 cd11 ct11 oc12 kV12 dc12 pm12 cd12 ct12 oc13 kV13 dc13 pm13 cd13 ct13 oc14 kV14 dc14 pm14 cd14 ct14 oc15 kV15 dc15 pm15 cd15 ct15 oc16 kV16 dc16 pm16 cd16 ct16 oc17 kV17 dc17 pm17 cd17 ct17 oc18 kV18 dc18 pm18 cd18 ct18 oc19 kV19 dc19 pm19 cd19 ct19 oc20 kV20 dc20 pm20 cd20 ct20 oc21 kV21 dc21 pm21 cd21 ct21 oc22 kV22 dc22 pm22 cd22 ct22 oc23 kV23 dc23 pm23 cd23 ct23 oc24 kV24 dc24 pm24 cd24 ct24 oc25 kV25 dc25 pm25 cd25 ct25 oc26 kV26 dc26 pm26 cd26 ct26 oc27 kV27 dc27 pm27 cd27 ct27 oc28 kV28 dc28 pm28 cd28 ct28 oc29 kV29 dc29 pm29 cd29 ct29 oc30 kV30 dc30 pm30 cd30 ct30 oc31 kV31 dc31 pm31 cd31 ct31 oc32 kV32 dc32 pm32 cd32 ct32 oc33 kV33 dc33 pm33 cd33 ct33 oc34 kV34 dc34 pm34 cd34 ct34 oc35 kV35 dc35 pm35 cd35 ct35 oc36 kV36 dc36 pm36 cd36 ct36 oc37 kV37 dc37 pm37 cd37 ct37 : Value}
    (m_BookError : PySem.W.nsIn K mainGlobals "BookError" = some (some (.ref c_BookError)))
    (m_InvalidBook : PySem.W.nsIn K mainGlobals "InvalidBook" = some (some (.ref c_InvalidBook)))
    (m_InvalidSize : PySem.W.nsIn K mainGlobals "InvalidSize" = some (some (.ref c_InvalidSize)))
    (m_InvalidTable : PySem.W.nsIn K mainGlobals "InvalidTable" = some (some (.ref c_InvalidTable)))
    (m_InvalidChain : PySem.W.nsIn K mainGlobals "InvalidChain" = some (some (.ref c_InvalidChain)))
    (m_InvalidNumber : PySem.W.nsIn K mainGlobals "InvalidNumber" = some (some (.ref c_InvalidNumber)))
    (m_NothingToUndo : PySem.W.nsIn K mainGlobals "NothingToUndo" = some (some (.ref c_NothingToUndo)))
    (m_Unreadable : PySem.W.nsIn K mainGlobals "Unreadable" = some (some (.ref c_Unreadable)))
    (m_LiveBook : PySem.W.nsIn K mainGlobals "LiveBook" = some (some (.ref c_LiveBook)))
    (pg_LiveBook : PySem.W.plainGet K c_LiveBook Str.empty = true)
    (hd_LiveBook : PySem.W.hasDictIn K c_LiveBook = true)
    (po_LiveBook : PySem.W.plainOver K c_LiveBook = true)
    (sa_LiveBook : PySem.W.findIn K (.ref c_LiveBook) "__setattr__" = some (some (.builtin "object.__setattr__")))
    (mk_LiveBook : PySem.W.makesIn K c_LiveBook = true)
    (kc_LiveBook : PySem.W.keepIn K (.ref c_LiveBook) = true)
    (na_LiveBook__lengths : PySem.W.findIn K (.ref c_LiveBook) "_lengths" = some none)
    (na_LiveBook__past : PySem.W.findIn K (.ref c_LiveBook) "_past" = some none)
    (in_InvalidBook : PySem.W.findIn K (.ref c_InvalidBook) "__init__" = some (some (.ref f0)))
    (l0 : K.lookup f0 = some ⟨oc0, od0, .func (PySem.W.fnOf "__init__" "InvalidBook.__init__" (defArgs s_InvalidBook___init__) (defBody s_InvalidBook___init__) (defScope s_InvalidBook___init__) .none kV0 dc0 pm0 an0 cd0 ct0), sl0⟩) (c0 : PySem.W.codeIn K cd0 "InvalidBook.__init__" = true) (k0 : PySem.W.keepIn K (.ref f0) = true)
    (in_InvalidSize : PySem.W.findIn K (.ref c_InvalidSize) "__init__" = some (some (.ref f1)))
    (l1 : K.lookup f1 = some ⟨oc1, od1, .func (PySem.W.fnOf "__init__" "InvalidSize.__init__" (defArgs s_InvalidSize___init__) (defBody s_InvalidSize___init__) (defScope s_InvalidSize___init__) .none kV1 dc1 pm1 an1 cd1 ct1), sl1⟩) (c1 : PySem.W.codeIn K cd1 "InvalidSize.__init__" = true) (k1 : PySem.W.keepIn K (.ref f1) = true)
    (in_InvalidTable : PySem.W.findIn K (.ref c_InvalidTable) "__init__" = some (some (.ref f2)))
    (l2 : K.lookup f2 = some ⟨oc2, od2, .func (PySem.W.fnOf "__init__" "InvalidTable.__init__" (defArgs s_InvalidTable___init__) (defBody s_InvalidTable___init__) (defScope s_InvalidTable___init__) .none kV2 dc2 pm2 an2 cd2 ct2), sl2⟩) (c2 : PySem.W.codeIn K cd2 "InvalidTable.__init__" = true) (k2 : PySem.W.keepIn K (.ref f2) = true)
    (in_InvalidNumber : PySem.W.findIn K (.ref c_InvalidNumber) "__init__" = some (some (.ref f3)))
    (l3 : K.lookup f3 = some ⟨oc3, od3, .func (PySem.W.fnOf "__init__" "InvalidNumber.__init__" (defArgs s_InvalidNumber___init__) (defBody s_InvalidNumber___init__) (defScope s_InvalidNumber___init__) .none kV3 dc3 pm3 an3 cd3 ct3), sl3⟩) (c3 : PySem.W.codeIn K cd3 "InvalidNumber.__init__" = true) (k3 : PySem.W.keepIn K (.ref f3) = true)
    (in_NothingToUndo : PySem.W.findIn K (.ref c_NothingToUndo) "__init__" = some (some (.ref f4)))
    (l4 : K.lookup f4 = some ⟨oc4, od4, .func (PySem.W.fnOf "__init__" "NothingToUndo.__init__" (defArgs s_NothingToUndo___init__) (defBody s_NothingToUndo___init__) (defScope s_NothingToUndo___init__) .none kV4 dc4 pm4 an4 cd4 ct4), sl4⟩) (c4 : PySem.W.codeIn K cd4 "NothingToUndo.__init__" = true) (k4 : PySem.W.keepIn K (.ref f4) = true)
    (a5 : PySem.W.nsIn K mainGlobals "check_book" = some (some (.ref f5)))
    (l5 : K.lookup f5 = some ⟨oc5, od5, .func (PySem.W.fnOf "check_book" "check_book" (defArgs s_check_book) (defBody s_check_book) (defScope s_check_book) .none kV5 dc5 pm5 an5 cd5 ct5), sl5⟩) (c5 : PySem.W.codeIn K cd5 "check_book" = true) (k5 : PySem.W.keepIn K (.ref f5) = true)
    (a6 : PySem.W.nsIn K mainGlobals "check_size" = some (some (.ref f6)))
    (l6 : K.lookup f6 = some ⟨oc6, od6, .func (PySem.W.fnOf "check_size" "check_size" (defArgs s_check_size) (defBody s_check_size) (defScope s_check_size) .none kV6 dc6 pm6 an6 cd6 ct6), sl6⟩) (c6 : PySem.W.codeIn K cd6 "check_size" = true) (k6 : PySem.W.keepIn K (.ref f6) = true)
    (a7 : PySem.W.nsIn K mainGlobals "check_number" = some (some (.ref f7)))
    (l7 : K.lookup f7 = some ⟨oc7, od7, .func (PySem.W.fnOf "check_number" "check_number" (defArgs s_check_number) (defBody s_check_number) (defScope s_check_number) .none kV7 dc7 pm7 an7 cd7 ct7), sl7⟩) (c7 : PySem.W.codeIn K cd7 "check_number" = true) (k7 : PySem.W.keepIn K (.ref f7) = true)
    (a8 : PySem.W.nsIn K mainGlobals "chapter_pages" = some (some (.ref f8)))
    (l8 : K.lookup f8 = some ⟨oc8, od8, .func (PySem.W.fnOf "chapter_pages" "chapter_pages" (defArgs s_chapter_pages) (defBody s_chapter_pages) (defScope s_chapter_pages) .none kV8 dc8 pm8 an8 cd8 ct8), sl8⟩) (c8 : PySem.W.codeIn K cd8 "chapter_pages" = true) (k8 : PySem.W.keepIn K (.ref f8) = true)
    (a9 : PySem.W.nsIn K mainGlobals "list_parting" = some (some (.ref f9)))
    (l9 : K.lookup f9 = some ⟨oc9, od9, .func (PySem.W.fnOf "list_parting" "list_parting" (defArgs s_list_parting) (defBody s_list_parting) (defScope s_list_parting) .none kV9 dc9 pm9 an9 cd9 ct9), sl9⟩) (c9 : PySem.W.codeIn K cd9 "list_parting" = true) (k9 : PySem.W.keepIn K (.ref f9) = true)
    (in_LiveBook__change_to : PySem.W.findIn K (.ref c_LiveBook) "_change_to" = some (some (.ref f10)))
    (fn_LiveBook__change_to : PySem.W.isFn K (.ref f10) = true)
    (l10 : K.lookup f10 = some ⟨oc10, od10, .func (PySem.W.fnOf "_change_to" "LiveBook._change_to" (defArgs s_LiveBook__change_to) (defBody s_LiveBook__change_to) (defScope s_LiveBook__change_to) .none kV10 dc10 pm10 an10 cd10 ct10), sl10⟩) (c10 : PySem.W.codeIn K cd10 "LiveBook._change_to" = true) (k10 : PySem.W.keepIn K (.ref f10) = true)
    (in_LiveBook___init__ : PySem.W.findIn K (.ref c_LiveBook) "__init__" = some (some (.ref f11)))
    (fn_LiveBook___init__ : PySem.W.isFn K (.ref f11) = true)
    (l11 : K.lookup f11 = some ⟨oc11, od11, .func (PySem.W.fnOf "__init__" "LiveBook.__init__" (defArgs s_LiveBook___init__) (defBody s_LiveBook___init__) (defScope s_LiveBook___init__) .none kV11 dc11 pm11 an11 cd11 ct11), sl11⟩) (c11 : PySem.W.codeIn K cd11 "LiveBook.__init__" = true) (k11 : PySem.W.keepIn K (.ref f11) = true)
    (in_LiveBook_add : PySem.W.findIn K (.ref c_LiveBook) "add" = some (some (.ref f12)))
    (fn_LiveBook_add : PySem.W.isFn K (.ref f12) = true)
    (l12 : K.lookup f12 = some ⟨oc12, od12, .func (PySem.W.fnOf "add" "LiveBook.add" (defArgs s_LiveBook_add) (defBody s_LiveBook_add) (defScope s_LiveBook_add) .none kV12 dc12 pm12 an12 cd12 ct12), sl12⟩) (c12 : PySem.W.codeIn K cd12 "LiveBook.add" = true) (k12 : PySem.W.keepIn K (.ref f12) = true)
    {rs_LiveBook_book : List Value}
    (pq_LiveBook_book : PySem.W.findIn K (.ref c_LiveBook) "book" = some (some (.ref p_LiveBook_book)))
    (ps_LiveBook_book : PySem.W.specialIn K (.ref p_LiveBook_book) "__get__" = some (some (.builtin "property.__get__")))
    (pt_LiveBook_book : PySem.W.takesIn K (.ref p_LiveBook_book) = some true)
    (pr_LiveBook_book : PySem.W.recIn K p_LiveBook_book "property" = some (.ref f13 :: rs_LiveBook_book))
    (l13 : K.lookup f13 = some ⟨oc13, od13, .func (PySem.W.fnOf "book" "LiveBook.book" (defArgs s_LiveBook_book) (defBody s_LiveBook_book) (defScope s_LiveBook_book) .none kV13 dc13 pm13 an13 cd13 ct13), sl13⟩) (c13 : PySem.W.codeIn K cd13 "LiveBook.book" = true) (k13 : PySem.W.keepIn K (.ref f13) = true)
    {rs_LiveBook_chapters : List Value}
    (pq_LiveBook_chapters : PySem.W.findIn K (.ref c_LiveBook) "chapters" = some (some (.ref p_LiveBook_chapters)))
    (ps_LiveBook_chapters : PySem.W.specialIn K (.ref p_LiveBook_chapters) "__get__" = some (some (.builtin "property.__get__")))
    (pt_LiveBook_chapters : PySem.W.takesIn K (.ref p_LiveBook_chapters) = some true)
    (pr_LiveBook_chapters : PySem.W.recIn K p_LiveBook_chapters "property" = some (.ref f14 :: rs_LiveBook_chapters))
    (l14 : K.lookup f14 = some ⟨oc14, od14, .func (PySem.W.fnOf "chapters" "LiveBook.chapters" (defArgs s_LiveBook_chapters) (defBody s_LiveBook_chapters) (defScope s_LiveBook_chapters) .none kV14 dc14 pm14 an14 cd14 ct14), sl14⟩) (c14 : PySem.W.codeIn K cd14 "LiveBook.chapters" = true) (k14 : PySem.W.keepIn K (.ref f14) = true)
    {rs_LiveBook_lines : List Value}
    (pq_LiveBook_lines : PySem.W.findIn K (.ref c_LiveBook) "lines" = some (some (.ref p_LiveBook_lines)))
    (ps_LiveBook_lines : PySem.W.specialIn K (.ref p_LiveBook_lines) "__get__" = some (some (.builtin "property.__get__")))
    (pt_LiveBook_lines : PySem.W.takesIn K (.ref p_LiveBook_lines) = some true)
    (pr_LiveBook_lines : PySem.W.recIn K p_LiveBook_lines "property" = some (.ref f15 :: rs_LiveBook_lines))
    (l15 : K.lookup f15 = some ⟨oc15, od15, .func (PySem.W.fnOf "lines" "LiveBook.lines" (defArgs s_LiveBook_lines) (defBody s_LiveBook_lines) (defScope s_LiveBook_lines) .none kV15 dc15 pm15 an15 cd15 ct15), sl15⟩) (c15 : PySem.W.codeIn K cd15 "LiveBook.lines" = true) (k15 : PySem.W.keepIn K (.ref f15) = true)
    (in_LiveBook_undo : PySem.W.findIn K (.ref c_LiveBook) "undo" = some (some (.ref f16)))
    (fn_LiveBook_undo : PySem.W.isFn K (.ref f16) = true)
    (l16 : K.lookup f16 = some ⟨oc16, od16, .func (PySem.W.fnOf "undo" "LiveBook.undo" (defArgs s_LiveBook_undo) (defBody s_LiveBook_undo) (defScope s_LiveBook_undo) .none kV16 dc16 pm16 an16 cd16 ct16), sl16⟩) (c16 : PySem.W.codeIn K cd16 "LiveBook.undo" = true) (k16 : PySem.W.keepIn K (.ref f16) = true)
    (in_LiveBook_split : PySem.W.findIn K (.ref c_LiveBook) "split" = some (some (.ref f17)))
    (fn_LiveBook_split : PySem.W.isFn K (.ref f17) = true)
    (l17 : K.lookup f17 = some ⟨oc17, od17, .func (PySem.W.fnOf "split" "LiveBook.split" (defArgs s_LiveBook_split) (defBody s_LiveBook_split) (defScope s_LiveBook_split) .none kV17 dc17 pm17 an17 cd17 ct17), sl17⟩) (c17 : PySem.W.codeIn K cd17 "LiveBook.split" = true) (k17 : PySem.W.keepIn K (.ref f17) = true)
    (in_LiveBook_join : PySem.W.findIn K (.ref c_LiveBook) "join" = some (some (.ref f18)))
    (fn_LiveBook_join : PySem.W.isFn K (.ref f18) = true)
    (l18 : K.lookup f18 = some ⟨oc18, od18, .func (PySem.W.fnOf "join" "LiveBook.join" (defArgs s_LiveBook_join) (defBody s_LiveBook_join) (defScope s_LiveBook_join) .none kV18 dc18 pm18 an18 cd18 ct18), sl18⟩) (c18 : PySem.W.codeIn K cd18 "LiveBook.join" = true) (k18 : PySem.W.keepIn K (.ref f18) = true)
    (in_LiveBook_titles : PySem.W.findIn K (.ref c_LiveBook) "titles" = some (some (.ref f19)))
    (fn_LiveBook_titles : PySem.W.isFn K (.ref f19) = true)
    (l19 : K.lookup f19 = some ⟨oc19, od19, .func (PySem.W.fnOf "titles" "LiveBook.titles" (defArgs s_LiveBook_titles) (defBody s_LiveBook_titles) (defScope s_LiveBook_titles) .none kV19 dc19 pm19 an19 cd19 ct19), sl19⟩) (c19 : PySem.W.codeIn K cd19 "LiveBook.titles" = true) (k19 : PySem.W.keepIn K (.ref f19) = true)
    (a20 : PySem.W.nsIn K mainGlobals "count_pages" = some (some (.ref f20)))
    (l20 : K.lookup f20 = some ⟨oc20, od20, .func (PySem.W.fnOf "count_pages" "count_pages" (defArgs s_count_pages) (defBody s_count_pages) (defScope s_count_pages) .none kV20 dc20 pm20 an20 cd20 ct20), sl20⟩) (c20 : PySem.W.codeIn K cd20 "count_pages" = true) (k20 : PySem.W.keepIn K (.ref f20) = true)
    (a21 : PySem.W.nsIn K mainGlobals "lengths_of" = some (some (.ref f21)))
    (l21 : K.lookup f21 = some ⟨oc21, od21, .func (PySem.W.fnOf "lengths_of" "lengths_of" (defArgs s_lengths_of) (defBody s_lengths_of) (defScope s_lengths_of) .none kV21 dc21 pm21 an21 cd21 ct21), sl21⟩) (c21 : PySem.W.codeIn K cd21 "lengths_of" = true) (k21 : PySem.W.keepIn K (.ref f21) = true)
    {rs_LiveBook_from_table : List Value}
    (rd_LiveBook : PySem.W.readsIn K c_LiveBook (.type "type") = true)
    (cg_LiveBook : PySem.W.specialIn K (.ref c_LiveBook) "__getattribute__" = some (some (.builtin "type.__getattribute__")))
    (cf_LiveBook_from_table : PySem.W.findCls K (.ref c_LiveBook) (.type "type") "from_table" = some (.get (.builtin "classmethod.__get__") (.ref p_LiveBook_from_table) .none (.ref c_LiveBook)))
    (cr_LiveBook_from_table : PySem.W.recIn K p_LiveBook_from_table "classmethod" = some (.ref f22 :: rs_LiveBook_from_table))
    (ci_LiveBook_from_table : PySem.W.fnIn K f22 = true)
    (l22 : K.lookup f22 = some ⟨oc22, od22, .func (PySem.W.fnOf "from_table" "LiveBook.from_table" (defArgs s_LiveBook_from_table) (defBody s_LiveBook_from_table) (defScope s_LiveBook_from_table) .none kV22 dc22 pm22 an22 cd22 ct22), sl22⟩) (c22 : PySem.W.codeIn K cd22 "LiveBook.from_table" = true) (k22 : PySem.W.keepIn K (.ref f22) = true)
    (a23 : PySem.W.nsIn K mainGlobals "_law_pool" = some (some (.ref f23)))
    (l23 : K.lookup f23 = some ⟨oc23, od23, .func (PySem.W.fnOf "_law_pool" "_law_pool" (defArgs s__law_pool) (defBody s__law_pool) (defScope s__law_pool) .none kV23 dc23 pm23 an23 cd23 ct23), sl23⟩) (c23 : PySem.W.codeIn K cd23 "_law_pool" = true) (k23 : PySem.W.keepIn K (.ref f23) = true)
    (a24 : PySem.W.nsIn K mainGlobals "_law_draw" = some (some (.ref f24)))
    (l24 : K.lookup f24 = some ⟨oc24, od24, .func (PySem.W.fnOf "_law_draw" "_law_draw" (defArgs s__law_draw) (defBody s__law_draw) (defScope s__law_draw) .none kV24 dc24 pm24 an24 cd24 ct24), sl24⟩) (c24 : PySem.W.codeIn K cd24 "_law_draw" = true) (k24 : PySem.W.keepIn K (.ref f24) = true)
    (a25 : PySem.W.nsIn K mainGlobals "_law_length" = some (some (.ref f25)))
    (l25 : K.lookup f25 = some ⟨oc25, od25, .func (PySem.W.fnOf "_law_length" "_law_length" (defArgs s__law_length) (defBody s__law_length) (defScope s__law_length) .none kV25 dc25 pm25 an25 cd25 ct25), sl25⟩) (c25 : PySem.W.codeIn K cd25 "_law_length" = true) (k25 : PySem.W.keepIn K (.ref f25) = true)
    (a26 : PySem.W.nsIn K mainGlobals "_law_book" = some (some (.ref f26)))
    (l26 : K.lookup f26 = some ⟨oc26, od26, .func (PySem.W.fnOf "_law_book" "_law_book" (defArgs s__law_book) (defBody s__law_book) (defScope s__law_book) .none kV26 dc26 pm26 an26 cd26 ct26), sl26⟩) (c26 : PySem.W.codeIn K cd26 "_law_book" = true) (k26 : PySem.W.keepIn K (.ref f26) = true)
    (a27 : PySem.W.nsIn K mainGlobals "_law_pages" = some (some (.ref f27)))
    (l27 : K.lookup f27 = some ⟨oc27, od27, .func (PySem.W.fnOf "_law_pages" "_law_pages" (defArgs s__law_pages) (defBody s__law_pages) (defScope s__law_pages) .none kV27 dc27 pm27 an27 cd27 ct27), sl27⟩) (c27 : PySem.W.codeIn K cd27 "_law_pages" = true) (k27 : PySem.W.keepIn K (.ref f27) = true)
    (a28 : PySem.W.nsIn K mainGlobals "_law_kind" = some (some (.ref f28)))
    (l28 : K.lookup f28 = some ⟨oc28, od28, .func (PySem.W.fnOf "_law_kind" "_law_kind" (defArgs s__law_kind) (defBody s__law_kind) (defScope s__law_kind) .none kV28 dc28 pm28 an28 cd28 ct28), sl28⟩) (c28 : PySem.W.codeIn K cd28 "_law_kind" = true) (k28 : PySem.W.keepIn K (.ref f28) = true)
    (a29 : PySem.W.nsIn K mainGlobals "_law_added" = some (some (.ref f29)))
    (l29 : K.lookup f29 = some ⟨oc29, od29, .func (PySem.W.fnOf "_law_added" "_law_added" (defArgs s__law_added) (defBody s__law_added) (defScope s__law_added) .none kV29 dc29 pm29 an29 cd29 ct29), sl29⟩) (c29 : PySem.W.codeIn K cd29 "_law_added" = true) (k29 : PySem.W.keepIn K (.ref f29) = true)
    (a30 : PySem.W.nsIn K mainGlobals "_law_told_right" = some (some (.ref f30)))
    (l30 : K.lookup f30 = some ⟨oc30, od30, .func (PySem.W.fnOf "_law_told_right" "_law_told_right" (defArgs s__law_told_right) (defBody s__law_told_right) (defScope s__law_told_right) .none kV30 dc30 pm30 an30 cd30 ct30), sl30⟩) (c30 : PySem.W.codeIn K cd30 "_law_told_right" = true) (k30 : PySem.W.keepIn K (.ref f30) = true)
    (a31 : PySem.W.nsIn K mainGlobals "_law_out" = some (some (.ref f31)))
    (l31 : K.lookup f31 = some ⟨oc31, od31, .func (PySem.W.fnOf "_law_out" "_law_out" (defArgs s__law_out) (defBody s__law_out) (defScope s__law_out) .none kV31 dc31 pm31 an31 cd31 ct31), sl31⟩) (c31 : PySem.W.codeIn K cd31 "_law_out" = true) (k31 : PySem.W.keepIn K (.ref f31) = true)
    (a32 : PySem.W.nsIn K mainGlobals "_law_bad_book" = some (some (.ref f32)))
    (l32 : K.lookup f32 = some ⟨oc32, od32, .func (PySem.W.fnOf "_law_bad_book" "_law_bad_book" (defArgs s__law_bad_book) (defBody s__law_bad_book) (defScope s__law_bad_book) .none kV32 dc32 pm32 an32 cd32 ct32), sl32⟩) (c32 : PySem.W.codeIn K cd32 "_law_bad_book" = true) (k32 : PySem.W.keepIn K (.ref f32) = true)
    (a33 : PySem.W.nsIn K mainGlobals "_law_called" = some (some (.ref f33)))
    (l33 : K.lookup f33 = some ⟨oc33, od33, .func (PySem.W.fnOf "_law_called" "_law_called" (defArgs s__law_called) (defBody s__law_called) (defScope s__law_called) .none kV33 dc33 pm33 an33 cd33 ct33), sl33⟩) (c33 : PySem.W.codeIn K cd33 "_law_called" = true) (k33 : PySem.W.keepIn K (.ref f33) = true)
    (a34 : PySem.W.nsIn K mainGlobals "_law_made" = some (some (.ref f34)))
    (l34 : K.lookup f34 = some ⟨oc34, od34, .func (PySem.W.fnOf "_law_made" "_law_made" (defArgs s__law_made) (defBody s__law_made) (defScope s__law_made) .none kV34 dc34 pm34 an34 cd34 ct34), sl34⟩) (c34 : PySem.W.codeIn K cd34 "_law_made" = true) (k34 : PySem.W.keepIn K (.ref f34) = true)
    (a35 : PySem.W.nsIn K mainGlobals "_law_titles" = some (some (.ref f35)))
    (l35 : K.lookup f35 = some ⟨oc35, od35, .func (PySem.W.fnOf "_law_titles" "_law_titles" (defArgs s__law_titles) (defBody s__law_titles) (defScope s__law_titles) .none kV35 dc35 pm35 an35 cd35 ct35), sl35⟩) (c35 : PySem.W.codeIn K cd35 "_law_titles" = true) (k35 : PySem.W.keepIn K (.ref f35) = true)
    (a36 : PySem.W.nsIn K mainGlobals "_law_right" = some (some (.ref f36)))
    (l36 : K.lookup f36 = some ⟨oc36, od36, .func (PySem.W.fnOf "_law_right" "_law_right" (defArgs s__law_right) (defBody s__law_right) (defScope s__law_right) .none kV36 dc36 pm36 an36 cd36 ct36), sl36⟩) (c36 : PySem.W.codeIn K cd36 "_law_right" = true) (k36 : PySem.W.keepIn K (.ref f36) = true)
    (a37 : PySem.W.nsIn K mainGlobals "law" = some (some (.ref f37)))
    (l37 : K.lookup f37 = some ⟨oc37, od37, .func (PySem.W.fnOf "law" "law" (defArgs s_law) (defBody s_law) (defScope s_law) .none kV37 dc37 pm37 an37 cd37 ct37), sl37⟩) (c37 : PySem.W.codeIn K cd37 "law" = true) (k37 : PySem.W.keepIn K (.ref f37) = true)
    (z0 : PySem.W.nsIn K mainGlobals "ValueError" = some none)
    (z1 : PySem.W.nsIn K mainGlobals "abs" = some none)
    (z2 : PySem.W.nsIn K mainGlobals "enumerate" = some none)
    (z3 : PySem.W.nsIn K mainGlobals "isinstance" = some none)
    (z4 : PySem.W.nsIn K mainGlobals "len" = some none)
    (z5 : PySem.W.nsIn K mainGlobals "list" = some none)
    (z6 : PySem.W.nsIn K mainGlobals "max" = some none)
    (z7 : PySem.W.nsIn K mainGlobals "min" = some none)
    (z8 : PySem.W.nsIn K mainGlobals "range" = some none)
    (z9 : PySem.W.nsIn K mainGlobals "sum" = some none)
    {tk_GREATEST_TOLD : PySem.Tok} (v_GREATEST_TOLD : PySem.W.nsIn K mainGlobals "GREATEST_TOLD" = some (some (.int 100 tk_GREATEST_TOLD)))
    (st_InvalidSize : PySem.W.subIn K (.ref c_InvalidSize) (.type "StopIteration") = some false)
    {nm_InvalidBook qn_InvalidBook : Str} {N_InvalidBook : Addr} {bs_InvalidBook bm_InvalidBook : List Value} {sn_InvalidBook : List Str} {sub_InvalidBook : List Value} {ab_InvalidBook : Bool} {col_InvalidBook : Option Bool} {dd_InvalidBook : Option Addr} {k0_InvalidBook k1_InvalidBook k2_InvalidBook k3_InvalidBook k5_InvalidBook : Option Value}
    (l_InvalidBook : K.lookup c_InvalidBook = some (excClassObj nm_InvalidBook qn_InvalidBook c_InvalidBook N_InvalidBook bs_InvalidBook bm_InvalidBook true sn_InvalidBook sub_InvalidBook ab_InvalidBook col_InvalidBook dd_InvalidBook k0_InvalidBook k1_InvalidBook k2_InvalidBook k3_InvalidBook k5_InvalidBook "ValueError.__new__"))
    (r_InvalidBook : PySem.HandSPX.refsVE bm_InvalidBook = true)
    (sa_InvalidBook : PySem.W.findIn K (.ref c_InvalidBook) "__setattr__" = some (some (.builtin "object.__setattr__")))
    (ex_InvalidBook : PySem.W.subIn K (.ref c_InvalidBook) (.type "BaseException") = some true)
    (ty_InvalidBook : PySem.W.typeIn K (.ref c_InvalidBook) = some (.type "type"))
    (kc_InvalidBook : PySem.W.keepIn K (.ref c_InvalidBook) = true)
    (ga_InvalidBook : PySem.W.findIn K (.ref c_InvalidBook) "__getattribute__" = some (some (.builtin "BaseException.__getattribute__")))
    (gg_InvalidBook : PySem.W.findIn K (.ref c_InvalidBook) "__getattr__" = some none)
    (hd_InvalidBook : PySem.W.hasDictIn K c_InvalidBook = true)
    (ha_InvalidBook : PySem.W.findIn K (.ref c_InvalidBook) "__class__" = some (some (.builtin "object.__class__")))
    (hn_InvalidBook : PySem.W.specialIn K (.builtin "object.__class__") "__get__" = some (some (.builtin "getset_descriptor.__get__")))
    (ht_InvalidBook : PySem.W.takesIn K (.builtin "object.__class__") = some true)
    (hm_InvalidBook : PySem.W.mroIn K c_InvalidBook (.type "object") = some true)
    (nv_InvalidBook : PySem.W.findIn K (.ref c_InvalidBook) "value" = some none)
    (ti_InvalidBook : PySem.W.typeIn K (.ref f0) = some (.type "function"))
    (kq_InvalidBook_BookError : PySem.W.kitOne K (.ref c_InvalidBook) (.ref c_BookError) = some true)
    (kq_InvalidBook_InvalidBook : PySem.W.kitOne K (.ref c_InvalidBook) (.ref c_InvalidBook) = some true)
    (kq_InvalidBook_InvalidSize : PySem.W.kitOne K (.ref c_InvalidBook) (.ref c_InvalidSize) = some false)
    (kq_InvalidBook_InvalidTable : PySem.W.kitOne K (.ref c_InvalidBook) (.ref c_InvalidTable) = some false)
    (kq_InvalidBook_InvalidChain : PySem.W.kitOne K (.ref c_InvalidBook) (.ref c_InvalidChain) = some false)
    (kq_InvalidBook_InvalidNumber : PySem.W.kitOne K (.ref c_InvalidBook) (.ref c_InvalidNumber) = some false)
    (kq_InvalidBook_NothingToUndo : PySem.W.kitOne K (.ref c_InvalidBook) (.ref c_NothingToUndo) = some false)
    (kq_InvalidBook_Unreadable : PySem.W.kitOne K (.ref c_InvalidBook) (.ref c_Unreadable) = some false)
    (kq_InvalidBook_ValueError : PySem.W.kitOne K (.ref c_InvalidBook) (.type "ValueError") = some true)
    {nm_InvalidSize qn_InvalidSize : Str} {N_InvalidSize : Addr} {bs_InvalidSize bm_InvalidSize : List Value} {sn_InvalidSize : List Str} {sub_InvalidSize : List Value} {ab_InvalidSize : Bool} {col_InvalidSize : Option Bool} {dd_InvalidSize : Option Addr} {k0_InvalidSize k1_InvalidSize k2_InvalidSize k3_InvalidSize k5_InvalidSize : Option Value}
    (l_InvalidSize : K.lookup c_InvalidSize = some (excClassObj nm_InvalidSize qn_InvalidSize c_InvalidSize N_InvalidSize bs_InvalidSize bm_InvalidSize true sn_InvalidSize sub_InvalidSize ab_InvalidSize col_InvalidSize dd_InvalidSize k0_InvalidSize k1_InvalidSize k2_InvalidSize k3_InvalidSize k5_InvalidSize "ValueError.__new__"))
    (r_InvalidSize : PySem.HandSPX.refsVE bm_InvalidSize = true)
    (sa_InvalidSize : PySem.W.findIn K (.ref c_InvalidSize) "__setattr__" = some (some (.builtin "object.__setattr__")))
    (ex_InvalidSize : PySem.W.subIn K (.ref c_InvalidSize) (.type "BaseException") = some true)
    (ty_InvalidSize : PySem.W.typeIn K (.ref c_InvalidSize) = some (.type "type"))
    (kc_InvalidSize : PySem.W.keepIn K (.ref c_InvalidSize) = true)
    (ga_InvalidSize : PySem.W.findIn K (.ref c_InvalidSize) "__getattribute__" = some (some (.builtin "BaseException.__getattribute__")))
    (gg_InvalidSize : PySem.W.findIn K (.ref c_InvalidSize) "__getattr__" = some none)
    (hd_InvalidSize : PySem.W.hasDictIn K c_InvalidSize = true)
    (ha_InvalidSize : PySem.W.findIn K (.ref c_InvalidSize) "__class__" = some (some (.builtin "object.__class__")))
    (hn_InvalidSize : PySem.W.specialIn K (.builtin "object.__class__") "__get__" = some (some (.builtin "getset_descriptor.__get__")))
    (ht_InvalidSize : PySem.W.takesIn K (.builtin "object.__class__") = some true)
    (hm_InvalidSize : PySem.W.mroIn K c_InvalidSize (.type "object") = some true)
    (nv_InvalidSize : PySem.W.findIn K (.ref c_InvalidSize) "value" = some none)
    (ti_InvalidSize : PySem.W.typeIn K (.ref f1) = some (.type "function"))
    (kq_InvalidSize_BookError : PySem.W.kitOne K (.ref c_InvalidSize) (.ref c_BookError) = some true)
    (kq_InvalidSize_InvalidBook : PySem.W.kitOne K (.ref c_InvalidSize) (.ref c_InvalidBook) = some false)
    (kq_InvalidSize_InvalidSize : PySem.W.kitOne K (.ref c_InvalidSize) (.ref c_InvalidSize) = some true)
    (kq_InvalidSize_InvalidTable : PySem.W.kitOne K (.ref c_InvalidSize) (.ref c_InvalidTable) = some false)
    (kq_InvalidSize_InvalidChain : PySem.W.kitOne K (.ref c_InvalidSize) (.ref c_InvalidChain) = some false)
    (kq_InvalidSize_InvalidNumber : PySem.W.kitOne K (.ref c_InvalidSize) (.ref c_InvalidNumber) = some false)
    (kq_InvalidSize_NothingToUndo : PySem.W.kitOne K (.ref c_InvalidSize) (.ref c_NothingToUndo) = some false)
    (kq_InvalidSize_Unreadable : PySem.W.kitOne K (.ref c_InvalidSize) (.ref c_Unreadable) = some false)
    (kq_InvalidSize_ValueError : PySem.W.kitOne K (.ref c_InvalidSize) (.type "ValueError") = some true)
    {nm_InvalidTable qn_InvalidTable : Str} {N_InvalidTable : Addr} {bs_InvalidTable bm_InvalidTable : List Value} {sn_InvalidTable : List Str} {sub_InvalidTable : List Value} {ab_InvalidTable : Bool} {col_InvalidTable : Option Bool} {dd_InvalidTable : Option Addr} {k0_InvalidTable k1_InvalidTable k2_InvalidTable k3_InvalidTable k5_InvalidTable : Option Value}
    (l_InvalidTable : K.lookup c_InvalidTable = some (excClassObj nm_InvalidTable qn_InvalidTable c_InvalidTable N_InvalidTable bs_InvalidTable bm_InvalidTable true sn_InvalidTable sub_InvalidTable ab_InvalidTable col_InvalidTable dd_InvalidTable k0_InvalidTable k1_InvalidTable k2_InvalidTable k3_InvalidTable k5_InvalidTable "ValueError.__new__"))
    (r_InvalidTable : PySem.HandSPX.refsVE bm_InvalidTable = true)
    (sa_InvalidTable : PySem.W.findIn K (.ref c_InvalidTable) "__setattr__" = some (some (.builtin "object.__setattr__")))
    (ex_InvalidTable : PySem.W.subIn K (.ref c_InvalidTable) (.type "BaseException") = some true)
    (ty_InvalidTable : PySem.W.typeIn K (.ref c_InvalidTable) = some (.type "type"))
    (kc_InvalidTable : PySem.W.keepIn K (.ref c_InvalidTable) = true)
    (ga_InvalidTable : PySem.W.findIn K (.ref c_InvalidTable) "__getattribute__" = some (some (.builtin "BaseException.__getattribute__")))
    (gg_InvalidTable : PySem.W.findIn K (.ref c_InvalidTable) "__getattr__" = some none)
    (hd_InvalidTable : PySem.W.hasDictIn K c_InvalidTable = true)
    (ha_InvalidTable : PySem.W.findIn K (.ref c_InvalidTable) "__class__" = some (some (.builtin "object.__class__")))
    (hn_InvalidTable : PySem.W.specialIn K (.builtin "object.__class__") "__get__" = some (some (.builtin "getset_descriptor.__get__")))
    (ht_InvalidTable : PySem.W.takesIn K (.builtin "object.__class__") = some true)
    (hm_InvalidTable : PySem.W.mroIn K c_InvalidTable (.type "object") = some true)
    (nv_InvalidTable : PySem.W.findIn K (.ref c_InvalidTable) "value" = some none)
    (ti_InvalidTable : PySem.W.typeIn K (.ref f2) = some (.type "function"))
    (kq_InvalidTable_BookError : PySem.W.kitOne K (.ref c_InvalidTable) (.ref c_BookError) = some true)
    (kq_InvalidTable_InvalidBook : PySem.W.kitOne K (.ref c_InvalidTable) (.ref c_InvalidBook) = some false)
    (kq_InvalidTable_InvalidSize : PySem.W.kitOne K (.ref c_InvalidTable) (.ref c_InvalidSize) = some false)
    (kq_InvalidTable_InvalidTable : PySem.W.kitOne K (.ref c_InvalidTable) (.ref c_InvalidTable) = some true)
    (kq_InvalidTable_InvalidChain : PySem.W.kitOne K (.ref c_InvalidTable) (.ref c_InvalidChain) = some false)
    (kq_InvalidTable_InvalidNumber : PySem.W.kitOne K (.ref c_InvalidTable) (.ref c_InvalidNumber) = some false)
    (kq_InvalidTable_NothingToUndo : PySem.W.kitOne K (.ref c_InvalidTable) (.ref c_NothingToUndo) = some false)
    (kq_InvalidTable_Unreadable : PySem.W.kitOne K (.ref c_InvalidTable) (.ref c_Unreadable) = some false)
    (kq_InvalidTable_ValueError : PySem.W.kitOne K (.ref c_InvalidTable) (.type "ValueError") = some true)
    {nm_InvalidNumber qn_InvalidNumber : Str} {N_InvalidNumber : Addr} {bs_InvalidNumber bm_InvalidNumber : List Value} {sn_InvalidNumber : List Str} {sub_InvalidNumber : List Value} {ab_InvalidNumber : Bool} {col_InvalidNumber : Option Bool} {dd_InvalidNumber : Option Addr} {k0_InvalidNumber k1_InvalidNumber k2_InvalidNumber k3_InvalidNumber k5_InvalidNumber : Option Value}
    (l_InvalidNumber : K.lookup c_InvalidNumber = some (excClassObj nm_InvalidNumber qn_InvalidNumber c_InvalidNumber N_InvalidNumber bs_InvalidNumber bm_InvalidNumber true sn_InvalidNumber sub_InvalidNumber ab_InvalidNumber col_InvalidNumber dd_InvalidNumber k0_InvalidNumber k1_InvalidNumber k2_InvalidNumber k3_InvalidNumber k5_InvalidNumber "ValueError.__new__"))
    (r_InvalidNumber : PySem.HandSPX.refsVE bm_InvalidNumber = true)
    (sa_InvalidNumber : PySem.W.findIn K (.ref c_InvalidNumber) "__setattr__" = some (some (.builtin "object.__setattr__")))
    (ex_InvalidNumber : PySem.W.subIn K (.ref c_InvalidNumber) (.type "BaseException") = some true)
    (ty_InvalidNumber : PySem.W.typeIn K (.ref c_InvalidNumber) = some (.type "type"))
    (kc_InvalidNumber : PySem.W.keepIn K (.ref c_InvalidNumber) = true)
    (ga_InvalidNumber : PySem.W.findIn K (.ref c_InvalidNumber) "__getattribute__" = some (some (.builtin "BaseException.__getattribute__")))
    (gg_InvalidNumber : PySem.W.findIn K (.ref c_InvalidNumber) "__getattr__" = some none)
    (hd_InvalidNumber : PySem.W.hasDictIn K c_InvalidNumber = true)
    (ha_InvalidNumber : PySem.W.findIn K (.ref c_InvalidNumber) "__class__" = some (some (.builtin "object.__class__")))
    (hn_InvalidNumber : PySem.W.specialIn K (.builtin "object.__class__") "__get__" = some (some (.builtin "getset_descriptor.__get__")))
    (ht_InvalidNumber : PySem.W.takesIn K (.builtin "object.__class__") = some true)
    (hm_InvalidNumber : PySem.W.mroIn K c_InvalidNumber (.type "object") = some true)
    (nv_InvalidNumber : PySem.W.findIn K (.ref c_InvalidNumber) "value" = some none)
    (ti_InvalidNumber : PySem.W.typeIn K (.ref f3) = some (.type "function"))
    (kq_InvalidNumber_BookError : PySem.W.kitOne K (.ref c_InvalidNumber) (.ref c_BookError) = some true)
    (kq_InvalidNumber_InvalidBook : PySem.W.kitOne K (.ref c_InvalidNumber) (.ref c_InvalidBook) = some false)
    (kq_InvalidNumber_InvalidSize : PySem.W.kitOne K (.ref c_InvalidNumber) (.ref c_InvalidSize) = some false)
    (kq_InvalidNumber_InvalidTable : PySem.W.kitOne K (.ref c_InvalidNumber) (.ref c_InvalidTable) = some false)
    (kq_InvalidNumber_InvalidChain : PySem.W.kitOne K (.ref c_InvalidNumber) (.ref c_InvalidChain) = some false)
    (kq_InvalidNumber_InvalidNumber : PySem.W.kitOne K (.ref c_InvalidNumber) (.ref c_InvalidNumber) = some true)
    (kq_InvalidNumber_NothingToUndo : PySem.W.kitOne K (.ref c_InvalidNumber) (.ref c_NothingToUndo) = some false)
    (kq_InvalidNumber_Unreadable : PySem.W.kitOne K (.ref c_InvalidNumber) (.ref c_Unreadable) = some false)
    (kq_InvalidNumber_ValueError : PySem.W.kitOne K (.ref c_InvalidNumber) (.type "ValueError") = some true)
    {nm_NothingToUndo qn_NothingToUndo : Str} {N_NothingToUndo : Addr} {bs_NothingToUndo bm_NothingToUndo : List Value} {sn_NothingToUndo : List Str} {sub_NothingToUndo : List Value} {ab_NothingToUndo : Bool} {col_NothingToUndo : Option Bool} {dd_NothingToUndo : Option Addr} {k0_NothingToUndo k1_NothingToUndo k2_NothingToUndo k3_NothingToUndo k5_NothingToUndo : Option Value}
    (l_NothingToUndo : K.lookup c_NothingToUndo = some (excClassObj nm_NothingToUndo qn_NothingToUndo c_NothingToUndo N_NothingToUndo bs_NothingToUndo bm_NothingToUndo true sn_NothingToUndo sub_NothingToUndo ab_NothingToUndo col_NothingToUndo dd_NothingToUndo k0_NothingToUndo k1_NothingToUndo k2_NothingToUndo k3_NothingToUndo k5_NothingToUndo "ValueError.__new__"))
    (r_NothingToUndo : PySem.HandSPX.refsVE bm_NothingToUndo = true)
    (sa_NothingToUndo : PySem.W.findIn K (.ref c_NothingToUndo) "__setattr__" = some (some (.builtin "object.__setattr__")))
    (ex_NothingToUndo : PySem.W.subIn K (.ref c_NothingToUndo) (.type "BaseException") = some true)
    (ty_NothingToUndo : PySem.W.typeIn K (.ref c_NothingToUndo) = some (.type "type"))
    (kc_NothingToUndo : PySem.W.keepIn K (.ref c_NothingToUndo) = true)
    (ga_NothingToUndo : PySem.W.findIn K (.ref c_NothingToUndo) "__getattribute__" = some (some (.builtin "BaseException.__getattribute__")))
    (gg_NothingToUndo : PySem.W.findIn K (.ref c_NothingToUndo) "__getattr__" = some none)
    (hd_NothingToUndo : PySem.W.hasDictIn K c_NothingToUndo = true)
    (ha_NothingToUndo : PySem.W.findIn K (.ref c_NothingToUndo) "__class__" = some (some (.builtin "object.__class__")))
    (hn_NothingToUndo : PySem.W.specialIn K (.builtin "object.__class__") "__get__" = some (some (.builtin "getset_descriptor.__get__")))
    (ht_NothingToUndo : PySem.W.takesIn K (.builtin "object.__class__") = some true)
    (hm_NothingToUndo : PySem.W.mroIn K c_NothingToUndo (.type "object") = some true)
    (nv_NothingToUndo : PySem.W.findIn K (.ref c_NothingToUndo) "value" = some none)
    (ti_NothingToUndo : PySem.W.typeIn K (.ref f4) = some (.type "function"))
    (kq_NothingToUndo_BookError : PySem.W.kitOne K (.ref c_NothingToUndo) (.ref c_BookError) = some true)
    (kq_NothingToUndo_InvalidBook : PySem.W.kitOne K (.ref c_NothingToUndo) (.ref c_InvalidBook) = some false)
    (kq_NothingToUndo_InvalidSize : PySem.W.kitOne K (.ref c_NothingToUndo) (.ref c_InvalidSize) = some false)
    (kq_NothingToUndo_InvalidTable : PySem.W.kitOne K (.ref c_NothingToUndo) (.ref c_InvalidTable) = some false)
    (kq_NothingToUndo_InvalidChain : PySem.W.kitOne K (.ref c_NothingToUndo) (.ref c_InvalidChain) = some false)
    (kq_NothingToUndo_InvalidNumber : PySem.W.kitOne K (.ref c_NothingToUndo) (.ref c_InvalidNumber) = some false)
    (kq_NothingToUndo_NothingToUndo : PySem.W.kitOne K (.ref c_NothingToUndo) (.ref c_NothingToUndo) = some true)
    (kq_NothingToUndo_Unreadable : PySem.W.kitOne K (.ref c_NothingToUndo) (.ref c_Unreadable) = some false)
    (kq_NothingToUndo_ValueError : PySem.W.kitOne K (.ref c_NothingToUndo) (.type "ValueError") = some true)
    (ks_InvalidBook_BookError : PySem.W.subIn K (.ref c_InvalidBook) (.ref c_BookError) = some true)
    (ex_BookError : PySem.W.subIn K (.ref c_BookError) (.type "BaseException") = some true)
    (ty_BookError : PySem.W.typeIn K (.ref c_BookError) = some (.type "type"))
    (hd_BookError : PySem.W.hasDictIn K c_BookError = true)
    (ks_InvalidSize_BookError : PySem.W.subIn K (.ref c_InvalidSize) (.ref c_BookError) = some true)
    (ks_InvalidTable_BookError : PySem.W.subIn K (.ref c_InvalidTable) (.ref c_BookError) = some true)
    (ks_InvalidNumber_BookError : PySem.W.subIn K (.ref c_InvalidNumber) (.ref c_BookError) = some true)
    (ks_NothingToUndo_BookError : PySem.W.subIn K (.ref c_NothingToUndo) (.ref c_BookError) = some true)
    : ∃ fd : FuncData, (∀ (s : Shared) (v : Value), BindsTo s fd ⟨[v], []⟩ [("script", v)]) ∧ ∀ base : Heap, K.In base → base.Ns mainGlobals mg → FnOk l.prog w K mg base CX0 10 fa fd ["script"] (sp_law K) := by
  have e := hfa.symm.trans (PySem.W.mg_of X G a37)
  cases e
  have F0 := fun_mk (st := s_InvalidBook___init__) l0 c0 k0
  have F1 := fun_mk (st := s_InvalidSize___init__) l1 c1 k1
  have F2 := fun_mk (st := s_InvalidTable___init__) l2 c2 k2
  have F3 := fun_mk (st := s_InvalidNumber___init__) l3 c3 k3
  have F4 := fun_mk (st := s_NothingToUndo___init__) l4 c4 k4
  have F5 := fun_mk (st := s_check_book) l5 c5 k5
  have F6 := fun_mk (st := s_check_size) l6 c6 k6
  have F7 := fun_mk (st := s_check_number) l7 c7 k7
  have F8 := fun_mk (st := s_chapter_pages) l8 c8 k8
  have F9 := fun_mk (st := s_list_parting) l9 c9 k9
  have F10 := fun_mk (st := s_LiveBook__change_to) l10 c10 k10
  have F11 := fun_mk (st := s_LiveBook___init__) l11 c11 k11
  have F12 := fun_mk (st := s_LiveBook_add) l12 c12 k12
  have F13 := fun_mk (st := s_LiveBook_book) l13 c13 k13
  have F14 := fun_mk (st := s_LiveBook_chapters) l14 c14 k14
  have F15 := fun_mk (st := s_LiveBook_lines) l15 c15 k15
  have F16 := fun_mk (st := s_LiveBook_undo) l16 c16 k16
  have F17 := fun_mk (st := s_LiveBook_split) l17 c17 k17
  have F18 := fun_mk (st := s_LiveBook_join) l18 c18 k18
  have F19 := fun_mk (st := s_LiveBook_titles) l19 c19 k19
  have F20 := fun_mk (st := s_count_pages) l20 c20 k20
  have F21 := fun_mk (st := s_lengths_of) l21 c21 k21
  have F22 := fun_mk (st := s_LiveBook_from_table) l22 c22 k22
  have F23 := fun_mk (st := s__law_pool) l23 c23 k23
  have F24 := fun_mk (st := s__law_draw) l24 c24 k24
  have F25 := fun_mk (st := s__law_length) l25 c25 k25
  have F26 := fun_mk (st := s__law_book) l26 c26 k26
  have F27 := fun_mk (st := s__law_pages) l27 c27 k27
  have F28 := fun_mk (st := s__law_kind) l28 c28 k28
  have F29 := fun_mk (st := s__law_added) l29 c29 k29
  have F30 := fun_mk (st := s__law_told_right) l30 c30 k30
  have F31 := fun_mk (st := s__law_out) l31 c31 k31
  have F32 := fun_mk (st := s__law_bad_book) l32 c32 k32
  have F33 := fun_mk (st := s__law_called) l33 c33 k33
  have F34 := fun_mk (st := s__law_made) l34 c34 k34
  have F35 := fun_mk (st := s__law_titles) l35 c35 k35
  have F36 := fun_mk (st := s__law_right) l36 c36 k36
  have F37 := fun_mk (st := s_law) l37 c37 k37
  have T : Txt K mg ⟨f0, PySem.W.fnOf "__init__" "InvalidBook.__init__" (defArgs s_InvalidBook___init__) (defBody s_InvalidBook___init__) (defScope s_InvalidBook___init__) .none kV0 dc0 pm0 an0 cd0 ct0, f1, PySem.W.fnOf "__init__" "InvalidSize.__init__" (defArgs s_InvalidSize___init__) (defBody s_InvalidSize___init__) (defScope s_InvalidSize___init__) .none kV1 dc1 pm1 an1 cd1 ct1, f2, PySem.W.fnOf "__init__" "InvalidTable.__init__" (defArgs s_InvalidTable___init__) (defBody s_InvalidTable___init__) (defScope s_InvalidTable___init__) .none kV2 dc2 pm2 an2 cd2 ct2, f3, PySem.W.fnOf "__init__" "InvalidNumber.__init__" (defArgs s_InvalidNumber___init__) (defBody s_InvalidNumber___init__) (defScope s_InvalidNumber___init__) .none kV3 dc3 pm3 an3 cd3 ct3, f4, PySem.W.fnOf "__init__" "NothingToUndo.__init__" (defArgs s_NothingToUndo___init__) (defBody s_NothingToUndo___init__) (defScope s_NothingToUndo___init__) .none kV4 dc4 pm4 an4 cd4 ct4, f5, PySem.W.fnOf "check_book" "check_book" (defArgs s_check_book) (defBody s_check_book) (defScope s_check_book) .none kV5 dc5 pm5 an5 cd5 ct5, f6, PySem.W.fnOf "check_size" "check_size" (defArgs s_check_size) (defBody s_check_size) (defScope s_check_size) .none kV6 dc6 pm6 an6 cd6 ct6, f7, PySem.W.fnOf "check_number" "check_number" (defArgs s_check_number) (defBody s_check_number) (defScope s_check_number) .none kV7 dc7 pm7 an7 cd7 ct7, f8, PySem.W.fnOf "chapter_pages" "chapter_pages" (defArgs s_chapter_pages) (defBody s_chapter_pages) (defScope s_chapter_pages) .none kV8 dc8 pm8 an8 cd8 ct8, f9, PySem.W.fnOf "list_parting" "list_parting" (defArgs s_list_parting) (defBody s_list_parting) (defScope s_list_parting) .none kV9 dc9 pm9 an9 cd9 ct9, f10, PySem.W.fnOf "_change_to" "LiveBook._change_to" (defArgs s_LiveBook__change_to) (defBody s_LiveBook__change_to) (defScope s_LiveBook__change_to) .none kV10 dc10 pm10 an10 cd10 ct10, f11, PySem.W.fnOf "__init__" "LiveBook.__init__" (defArgs s_LiveBook___init__) (defBody s_LiveBook___init__) (defScope s_LiveBook___init__) .none kV11 dc11 pm11 an11 cd11 ct11, f12, PySem.W.fnOf "add" "LiveBook.add" (defArgs s_LiveBook_add) (defBody s_LiveBook_add) (defScope s_LiveBook_add) .none kV12 dc12 pm12 an12 cd12 ct12, f13, PySem.W.fnOf "book" "LiveBook.book" (defArgs s_LiveBook_book) (defBody s_LiveBook_book) (defScope s_LiveBook_book) .none kV13 dc13 pm13 an13 cd13 ct13, f14, PySem.W.fnOf "chapters" "LiveBook.chapters" (defArgs s_LiveBook_chapters) (defBody s_LiveBook_chapters) (defScope s_LiveBook_chapters) .none kV14 dc14 pm14 an14 cd14 ct14, f15, PySem.W.fnOf "lines" "LiveBook.lines" (defArgs s_LiveBook_lines) (defBody s_LiveBook_lines) (defScope s_LiveBook_lines) .none kV15 dc15 pm15 an15 cd15 ct15, f16, PySem.W.fnOf "undo" "LiveBook.undo" (defArgs s_LiveBook_undo) (defBody s_LiveBook_undo) (defScope s_LiveBook_undo) .none kV16 dc16 pm16 an16 cd16 ct16, f17, PySem.W.fnOf "split" "LiveBook.split" (defArgs s_LiveBook_split) (defBody s_LiveBook_split) (defScope s_LiveBook_split) .none kV17 dc17 pm17 an17 cd17 ct17, f18, PySem.W.fnOf "join" "LiveBook.join" (defArgs s_LiveBook_join) (defBody s_LiveBook_join) (defScope s_LiveBook_join) .none kV18 dc18 pm18 an18 cd18 ct18, f19, PySem.W.fnOf "titles" "LiveBook.titles" (defArgs s_LiveBook_titles) (defBody s_LiveBook_titles) (defScope s_LiveBook_titles) .none kV19 dc19 pm19 an19 cd19 ct19, f20, PySem.W.fnOf "count_pages" "count_pages" (defArgs s_count_pages) (defBody s_count_pages) (defScope s_count_pages) .none kV20 dc20 pm20 an20 cd20 ct20, f21, PySem.W.fnOf "lengths_of" "lengths_of" (defArgs s_lengths_of) (defBody s_lengths_of) (defScope s_lengths_of) .none kV21 dc21 pm21 an21 cd21 ct21, f22, PySem.W.fnOf "from_table" "LiveBook.from_table" (defArgs s_LiveBook_from_table) (defBody s_LiveBook_from_table) (defScope s_LiveBook_from_table) .none kV22 dc22 pm22 an22 cd22 ct22, f23, PySem.W.fnOf "_law_pool" "_law_pool" (defArgs s__law_pool) (defBody s__law_pool) (defScope s__law_pool) .none kV23 dc23 pm23 an23 cd23 ct23, f24, PySem.W.fnOf "_law_draw" "_law_draw" (defArgs s__law_draw) (defBody s__law_draw) (defScope s__law_draw) .none kV24 dc24 pm24 an24 cd24 ct24, f25, PySem.W.fnOf "_law_length" "_law_length" (defArgs s__law_length) (defBody s__law_length) (defScope s__law_length) .none kV25 dc25 pm25 an25 cd25 ct25, f26, PySem.W.fnOf "_law_book" "_law_book" (defArgs s__law_book) (defBody s__law_book) (defScope s__law_book) .none kV26 dc26 pm26 an26 cd26 ct26, f27, PySem.W.fnOf "_law_pages" "_law_pages" (defArgs s__law_pages) (defBody s__law_pages) (defScope s__law_pages) .none kV27 dc27 pm27 an27 cd27 ct27, f28, PySem.W.fnOf "_law_kind" "_law_kind" (defArgs s__law_kind) (defBody s__law_kind) (defScope s__law_kind) .none kV28 dc28 pm28 an28 cd28 ct28, f29, PySem.W.fnOf "_law_added" "_law_added" (defArgs s__law_added) (defBody s__law_added) (defScope s__law_added) .none kV29 dc29 pm29 an29 cd29 ct29, f30, PySem.W.fnOf "_law_told_right" "_law_told_right" (defArgs s__law_told_right) (defBody s__law_told_right) (defScope s__law_told_right) .none kV30 dc30 pm30 an30 cd30 ct30, f31, PySem.W.fnOf "_law_out" "_law_out" (defArgs s__law_out) (defBody s__law_out) (defScope s__law_out) .none kV31 dc31 pm31 an31 cd31 ct31, f32, PySem.W.fnOf "_law_bad_book" "_law_bad_book" (defArgs s__law_bad_book) (defBody s__law_bad_book) (defScope s__law_bad_book) .none kV32 dc32 pm32 an32 cd32 ct32, f33, PySem.W.fnOf "_law_called" "_law_called" (defArgs s__law_called) (defBody s__law_called) (defScope s__law_called) .none kV33 dc33 pm33 an33 cd33 ct33, f34, PySem.W.fnOf "_law_made" "_law_made" (defArgs s__law_made) (defBody s__law_made) (defScope s__law_made) .none kV34 dc34 pm34 an34 cd34 ct34, f35, PySem.W.fnOf "_law_titles" "_law_titles" (defArgs s__law_titles) (defBody s__law_titles) (defScope s__law_titles) .none kV35 dc35 pm35 an35 cd35 ct35, f36, PySem.W.fnOf "_law_right" "_law_right" (defArgs s__law_right) (defBody s__law_right) (defScope s__law_right) .none kV36 dc36 pm36 an36 cd36 ct36, fa, PySem.W.fnOf "law" "law" (defArgs s_law) (defBody s_law) (defScope s_law) .none kV37 dc37 pm37 an37 cd37 ct37, c_BookError, c_InvalidBook, c_InvalidSize, c_InvalidTable, c_InvalidChain, c_InvalidNumber, c_NothingToUndo, c_Unreadable, c_LiveBook, p_LiveBook_book, p_LiveBook_chapters, p_LiveBook_lines, p_LiveBook_from_table⟩ :=
    { F_InvalidBook___init__ := F0,
      b_InvalidBook___init__ := F0.binds (ps := ["self", "value"]) fun _ _ _ _ _ _ us hl => match us, hl with | [_, _], _ => rfl,
      F_InvalidSize___init__ := F1,
      b_InvalidSize___init__ := F1.binds (ps := ["self", "value"]) fun _ _ _ _ _ _ us hl => match us, hl with | [_, _], _ => rfl,
      F_InvalidTable___init__ := F2,
      b_InvalidTable___init__ := F2.binds (ps := ["self", "value"]) fun _ _ _ _ _ _ us hl => match us, hl with | [_, _], _ => rfl,
      F_InvalidNumber___init__ := F3,
      b_InvalidNumber___init__ := F3.binds (ps := ["self", "value"]) fun _ _ _ _ _ _ us hl => match us, hl with | [_, _], _ => rfl,
      F_NothingToUndo___init__ := F4,
      b_NothingToUndo___init__ := F4.binds (ps := ["self", "value"]) fun _ _ _ _ _ _ us hl => match us, hl with | [_, _], _ => rfl,
      F_check_book := F5,
      g_check_book := PySem.W.mg_of X G a5,
      b_check_book := F5.binds (ps := ["book"]) fun _ _ _ _ _ _ us hl => match us, hl with | [_], _ => rfl,
      F_check_size := F6,
      g_check_size := PySem.W.mg_of X G a6,
      b_check_size := F6.binds (ps := ["size"]) fun _ _ _ _ _ _ us hl => match us, hl with | [_], _ => rfl,
      F_check_number := F7,
      g_check_number := PySem.W.mg_of X G a7,
      b_check_number := F7.binds (ps := ["number", "least", "greatest"]) fun _ _ _ _ _ _ us hl => match us, hl with | [_, _, _], _ => rfl,
      F_chapter_pages := F8,
      g_chapter_pages := PySem.W.mg_of X G a8,
      b_chapter_pages := F8.binds (ps := ["length", "size"]) fun _ _ _ _ _ _ us hl => match us, hl with | [_, _], _ => rfl,
      F_list_parting := F9,
      g_list_parting := PySem.W.mg_of X G a9,
      b_list_parting := F9.binds (ps := ["first", "second"]) fun _ _ _ _ _ _ us hl => match us, hl with | [_, _], _ => rfl,
      F_LiveBook__change_to := F10,
      b_LiveBook__change_to := F10.binds (ps := ["self", "lengths"]) fun _ _ _ _ _ _ us hl => match us, hl with | [_, _], _ => rfl,
      F_LiveBook___init__ := F11,
      b_LiveBook___init__ := F11.binds (ps := ["self", "book"]) fun _ _ _ _ _ _ us hl => match us, hl with | [_, _], _ => rfl,
      F_LiveBook_add := F12,
      bs_LiveBook_add := StX.bind_star1 (B := fun l => bindArgs _ ⟨l, []⟩) (fun _ => rfl) (fun _ _ _ => rfl),
      F_LiveBook_book := F13,
      b_LiveBook_book := F13.binds (ps := ["self"]) fun _ _ _ _ _ _ us hl => match us, hl with | [_], _ => rfl,
      F_LiveBook_chapters := F14,
      b_LiveBook_chapters := F14.binds (ps := ["self"]) fun _ _ _ _ _ _ us hl => match us, hl with | [_], _ => rfl,
      F_LiveBook_lines := F15,
      b_LiveBook_lines := F15.binds (ps := ["self"]) fun _ _ _ _ _ _ us hl => match us, hl with | [_], _ => rfl,
      F_LiveBook_undo := F16,
      b_LiveBook_undo := F16.binds (ps := ["self"]) fun _ _ _ _ _ _ us hl => match us, hl with | [_], _ => rfl,
      F_LiveBook_split := F17,
      b_LiveBook_split := F17.binds (ps := ["self", "chapter", "line"]) fun _ _ _ _ _ _ us hl => match us, hl with | [_, _, _], _ => rfl,
      F_LiveBook_join := F18,
      b_LiveBook_join := F18.binds (ps := ["self", "chapter"]) fun _ _ _ _ _ _ us hl => match us, hl with | [_, _], _ => rfl,
      F_LiveBook_titles := F19,
      b_LiveBook_titles := F19.binds (ps := ["self", "size"]) fun _ _ _ _ _ _ us hl => match us, hl with | [_, _], _ => rfl,
      F_count_pages := F20,
      g_count_pages := PySem.W.mg_of X G a20,
      b_count_pages := F20.binds (ps := ["book", "size"]) fun _ _ _ _ _ _ us hl => match us, hl with | [_, _], _ => rfl,
      F_lengths_of := F21,
      g_lengths_of := PySem.W.mg_of X G a21,
      b_lengths_of := F21.binds (ps := ["table"]) fun _ _ _ _ _ _ us hl => match us, hl with | [_], _ => rfl,
      F_LiveBook_from_table := F22,
      b_LiveBook_from_table := F22.binds (ps := ["cls", "table"]) fun _ _ _ _ _ _ us hl => match us, hl with | [_, _], _ => rfl,
      F__law_pool := F23,
      g__law_pool := PySem.W.mg_of X G a23,
      b__law_pool := F23.binds (ps := ["script", "at"]) fun _ _ _ _ _ _ us hl => match us, hl with | [_, _], _ => rfl,
      F__law_draw := F24,
      g__law_draw := PySem.W.mg_of X G a24,
      b__law_draw := F24.binds (ps := ["pool", "many"]) fun _ _ _ _ _ _ us hl => match us, hl with | [_, _], _ => rfl,
      F__law_length := F25,
      g__law_length := PySem.W.mg_of X G a25,
      b__law_length := F25.binds (ps := ["pool", "far"]) fun _ _ _ _ _ _ us hl => match us, hl with | [_, _], _ => rfl,
      F__law_book := F26,
      g__law_book := PySem.W.mg_of X G a26,
      b__law_book := F26.binds (ps := ["pool", "most", "far"]) fun _ _ _ _ _ _ us hl => match us, hl with | [_, _, _], _ => rfl,
      F__law_pages := F27,
      g__law_pages := PySem.W.mg_of X G a27,
      b__law_pages := F27.binds (ps := ["lengths", "lines_here"]) fun _ _ _ _ _ _ us hl => match us, hl with | [_, _], _ => rfl,
      F__law_kind := F28,
      g__law_kind := PySem.W.mg_of X G a28,
      b__law_kind := F28.binds (ps := ["caught"]) fun _ _ _ _ _ _ us hl => match us, hl with | [_], _ => rfl,
      F__law_added := F29,
      g__law_added := PySem.W.mg_of X G a29,
      b__law_added := F29.binds (ps := ["live", "some"]) fun _ _ _ _ _ _ us hl => match us, hl with | [_, _], _ => rfl,
      F__law_told_right := F30,
      g__law_told_right := PySem.W.mg_of X G a30,
      b__law_told_right := F30.binds (ps := ["live", "lengths", "lines_here"]) fun _ _ _ _ _ _ us hl => match us, hl with | [_, _, _], _ => rfl,
      F__law_out := F31,
      g__law_out := PySem.W.mg_of X G a31,
      b__law_out := F31.binds (ps := ["pool", "most"]) fun _ _ _ _ _ _ us hl => match us, hl with | [_, _], _ => rfl,
      F__law_bad_book := F32,
      g__law_bad_book := PySem.W.mg_of X G a32,
      b__law_bad_book := F32.binds (ps := ["pool", "lengths"]) fun _ _ _ _ _ _ us hl => match us, hl with | [_, _], _ => rfl,
      F__law_called := F33,
      g__law_called := PySem.W.mg_of X G a33,
      b__law_called := F33.binds (ps := ["live", "call", "some"]) fun _ _ _ _ _ _ us hl => match us, hl with | [_, _, _], _ => rfl,
      F__law_made := F34,
      g__law_made := PySem.W.mg_of X G a34,
      b__law_made := F34.binds (ps := ["lengths", "by_table"]) fun _ _ _ _ _ _ us hl => match us, hl with | [_, _], _ => rfl,
      F__law_titles := F35,
      g__law_titles := PySem.W.mg_of X G a35,
      b__law_titles := F35.binds (ps := ["live", "lines_here"]) fun _ _ _ _ _ _ us hl => match us, hl with | [_, _], _ => rfl,
      F__law_right := F36,
      g__law_right := PySem.W.mg_of X G a36,
      b__law_right := F36.binds (ps := ["pool"]) fun _ _ _ _ _ _ us hl => match us, hl with | [_], _ => rfl,
      F_law := F37,
      g_law := PySem.W.mg_of X G a37,
      b_law := F37.binds (ps := ["script"]) fun _ _ _ _ _ _ us hl => match us, hl with | [_], _ => rfl,
      z_ValueError := PySem.W.mg_none_of X G z0,
      z_abs := PySem.W.mg_none_of X G z1,
      z_enumerate := PySem.W.mg_none_of X G z2,
      z_isinstance := PySem.W.mg_none_of X G z3,
      z_len := PySem.W.mg_none_of X G z4,
      z_list := PySem.W.mg_none_of X G z5,
      z_max := PySem.W.mg_none_of X G z6,
      z_min := PySem.W.mg_none_of X G z7,
      z_range := PySem.W.mg_none_of X G z8,
      z_sum := PySem.W.mg_none_of X G z9,
      kb_LiveBook_titles_1_size := ⟨fun s us ws h1 h2 => match us, ws, h1, h2 with | [_], [_], _, _ => .of_eq rfl, fun r1 r2 => .cons (HS.relAt r1 0) (.cons (HS.relAt r2 0) (.nil))⟩,
      m_BookError := PySem.W.mg_of X G m_BookError,
      m_InvalidBook := PySem.W.mg_of X G m_InvalidBook,
      m_InvalidSize := PySem.W.mg_of X G m_InvalidSize,
      m_InvalidTable := PySem.W.mg_of X G m_InvalidTable,
      m_InvalidChain := PySem.W.mg_of X G m_InvalidChain,
      m_InvalidNumber := PySem.W.mg_of X G m_InvalidNumber,
      m_NothingToUndo := PySem.W.mg_of X G m_NothingToUndo,
      m_Unreadable := PySem.W.mg_of X G m_Unreadable,
      m_LiveBook := PySem.W.mg_of X G m_LiveBook,
      C_LiveBook := ⟨pg_LiveBook, hd_LiveBook, po_LiveBook, sa_LiveBook⟩,
      n_LiveBook__lengths := na_LiveBook__lengths,
      n_LiveBook__past := na_LiveBook__past,
      D_LiveBook := ⟨rd_LiveBook, cg_LiveBook⟩,
      M_LiveBook__change_to := ⟨in_LiveBook__change_to, fn_LiveBook__change_to, k10⟩,
      K_LiveBook := ⟨mk_LiveBook, in_LiveBook___init__, fn_LiveBook___init__, kc_LiveBook⟩,
      M_LiveBook_add := ⟨in_LiveBook_add, fn_LiveBook_add, k12⟩,
      P_LiveBook_book := ⟨pq_LiveBook_book, ps_LiveBook_book, pt_LiveBook_book, ⟨_, pr_LiveBook_book⟩⟩,
      P_LiveBook_chapters := ⟨pq_LiveBook_chapters, ps_LiveBook_chapters, pt_LiveBook_chapters, ⟨_, pr_LiveBook_chapters⟩⟩,
      P_LiveBook_lines := ⟨pq_LiveBook_lines, ps_LiveBook_lines, pt_LiveBook_lines, ⟨_, pr_LiveBook_lines⟩⟩,
      M_LiveBook_undo := ⟨in_LiveBook_undo, fn_LiveBook_undo, k16⟩,
      M_LiveBook_split := ⟨in_LiveBook_split, fn_LiveBook_split, k17⟩,
      M_LiveBook_join := ⟨in_LiveBook_join, fn_LiveBook_join, k18⟩,
      M_LiveBook_titles := ⟨in_LiveBook_titles, fn_LiveBook_titles, k19⟩,
      W_LiveBook_from_table := ⟨cf_LiveBook_from_table, ⟨_, cr_LiveBook_from_table⟩, ci_LiveBook_from_table⟩,
      v_GREATEST_TOLD := ⟨_, PySem.W.mg_of X G v_GREATEST_TOLD⟩,
      C_InvalidBook := ⟨⟨_, _, _, _, _, _, _, _, _, _, _, _, _, _, _, l_InvalidBook, r_InvalidBook⟩, sa_InvalidBook, ex_InvalidBook, ty_InvalidBook, kc_InvalidBook⟩,
      V_InvalidBook := ⟨ga_InvalidBook, gg_InvalidBook, ex_InvalidBook, hd_InvalidBook, ha_InvalidBook, hn_InvalidBook, ht_InvalidBook, hm_InvalidBook⟩,
      X_InvalidBook := ⟨ga_InvalidBook, gg_InvalidBook, ex_InvalidBook, hd_InvalidBook⟩,
      n_InvalidBook := nv_InvalidBook,
      i_InvalidBook := in_InvalidBook,
      t_InvalidBook := ti_InvalidBook,
      k_InvalidBook := ⟨fun s us ws _ h1 h2 => match us, ws, h1, h2 with | [_], [_], _, _ => .of_eq rfl, fun r1 r2 => r1.append r2⟩,
      q_InvalidBook_BookError := kq_InvalidBook_BookError,
      q_InvalidBook_InvalidBook := kq_InvalidBook_InvalidBook,
      q_InvalidBook_InvalidSize := kq_InvalidBook_InvalidSize,
      q_InvalidBook_InvalidTable := kq_InvalidBook_InvalidTable,
      q_InvalidBook_InvalidChain := kq_InvalidBook_InvalidChain,
      q_InvalidBook_InvalidNumber := kq_InvalidBook_InvalidNumber,
      q_InvalidBook_NothingToUndo := kq_InvalidBook_NothingToUndo,
      q_InvalidBook_Unreadable := kq_InvalidBook_Unreadable,
      q_InvalidBook_ValueError := kq_InvalidBook_ValueError,
      C_InvalidSize := ⟨⟨_, _, _, _, _, _, _, _, _, _, _, _, _, _, _, l_InvalidSize, r_InvalidSize⟩, sa_InvalidSize, ex_InvalidSize, ty_InvalidSize, kc_InvalidSize⟩,
      V_InvalidSize := ⟨ga_InvalidSize, gg_InvalidSize, ex_InvalidSize, hd_InvalidSize, ha_InvalidSize, hn_InvalidSize, ht_InvalidSize, hm_InvalidSize⟩,
      X_InvalidSize := ⟨ga_InvalidSize, gg_InvalidSize, ex_InvalidSize, hd_InvalidSize⟩,
      n_InvalidSize := nv_InvalidSize,
      i_InvalidSize := in_InvalidSize,
      t_InvalidSize := ti_InvalidSize,
      k_InvalidSize := ⟨fun s us ws _ h1 h2 => match us, ws, h1, h2 with | [_], [_], _, _ => .of_eq rfl, fun r1 r2 => r1.append r2⟩,
      q_InvalidSize_BookError := kq_InvalidSize_BookError,
      q_InvalidSize_InvalidBook := kq_InvalidSize_InvalidBook,
      q_InvalidSize_InvalidSize := kq_InvalidSize_InvalidSize,
      q_InvalidSize_InvalidTable := kq_InvalidSize_InvalidTable,
      q_InvalidSize_InvalidChain := kq_InvalidSize_InvalidChain,
      q_InvalidSize_InvalidNumber := kq_InvalidSize_InvalidNumber,
      q_InvalidSize_NothingToUndo := kq_InvalidSize_NothingToUndo,
      q_InvalidSize_Unreadable := kq_InvalidSize_Unreadable,
      q_InvalidSize_ValueError := kq_InvalidSize_ValueError,
      C_InvalidTable := ⟨⟨_, _, _, _, _, _, _, _, _, _, _, _, _, _, _, l_InvalidTable, r_InvalidTable⟩, sa_InvalidTable, ex_InvalidTable, ty_InvalidTable, kc_InvalidTable⟩,
      V_InvalidTable := ⟨ga_InvalidTable, gg_InvalidTable, ex_InvalidTable, hd_InvalidTable, ha_InvalidTable, hn_InvalidTable, ht_InvalidTable, hm_InvalidTable⟩,
      X_InvalidTable := ⟨ga_InvalidTable, gg_InvalidTable, ex_InvalidTable, hd_InvalidTable⟩,
      n_InvalidTable := nv_InvalidTable,
      i_InvalidTable := in_InvalidTable,
      t_InvalidTable := ti_InvalidTable,
      k_InvalidTable := ⟨fun s us ws _ h1 h2 => match us, ws, h1, h2 with | [_], [_], _, _ => .of_eq rfl, fun r1 r2 => r1.append r2⟩,
      q_InvalidTable_BookError := kq_InvalidTable_BookError,
      q_InvalidTable_InvalidBook := kq_InvalidTable_InvalidBook,
      q_InvalidTable_InvalidSize := kq_InvalidTable_InvalidSize,
      q_InvalidTable_InvalidTable := kq_InvalidTable_InvalidTable,
      q_InvalidTable_InvalidChain := kq_InvalidTable_InvalidChain,
      q_InvalidTable_InvalidNumber := kq_InvalidTable_InvalidNumber,
      q_InvalidTable_NothingToUndo := kq_InvalidTable_NothingToUndo,
      q_InvalidTable_Unreadable := kq_InvalidTable_Unreadable,
      q_InvalidTable_ValueError := kq_InvalidTable_ValueError,
      C_InvalidNumber := ⟨⟨_, _, _, _, _, _, _, _, _, _, _, _, _, _, _, l_InvalidNumber, r_InvalidNumber⟩, sa_InvalidNumber, ex_InvalidNumber, ty_InvalidNumber, kc_InvalidNumber⟩,
      V_InvalidNumber := ⟨ga_InvalidNumber, gg_InvalidNumber, ex_InvalidNumber, hd_InvalidNumber, ha_InvalidNumber, hn_InvalidNumber, ht_InvalidNumber, hm_InvalidNumber⟩,
      X_InvalidNumber := ⟨ga_InvalidNumber, gg_InvalidNumber, ex_InvalidNumber, hd_InvalidNumber⟩,
      n_InvalidNumber := nv_InvalidNumber,
      i_InvalidNumber := in_InvalidNumber,
      t_InvalidNumber := ti_InvalidNumber,
      k_InvalidNumber := ⟨fun s us ws _ h1 h2 => match us, ws, h1, h2 with | [_], [_], _, _ => .of_eq rfl, fun r1 r2 => r1.append r2⟩,
      q_InvalidNumber_BookError := kq_InvalidNumber_BookError,
      q_InvalidNumber_InvalidBook := kq_InvalidNumber_InvalidBook,
      q_InvalidNumber_InvalidSize := kq_InvalidNumber_InvalidSize,
      q_InvalidNumber_InvalidTable := kq_InvalidNumber_InvalidTable,
      q_InvalidNumber_InvalidChain := kq_InvalidNumber_InvalidChain,
      q_InvalidNumber_InvalidNumber := kq_InvalidNumber_InvalidNumber,
      q_InvalidNumber_NothingToUndo := kq_InvalidNumber_NothingToUndo,
      q_InvalidNumber_Unreadable := kq_InvalidNumber_Unreadable,
      q_InvalidNumber_ValueError := kq_InvalidNumber_ValueError,
      C_NothingToUndo := ⟨⟨_, _, _, _, _, _, _, _, _, _, _, _, _, _, _, l_NothingToUndo, r_NothingToUndo⟩, sa_NothingToUndo, ex_NothingToUndo, ty_NothingToUndo, kc_NothingToUndo⟩,
      V_NothingToUndo := ⟨ga_NothingToUndo, gg_NothingToUndo, ex_NothingToUndo, hd_NothingToUndo, ha_NothingToUndo, hn_NothingToUndo, ht_NothingToUndo, hm_NothingToUndo⟩,
      X_NothingToUndo := ⟨ga_NothingToUndo, gg_NothingToUndo, ex_NothingToUndo, hd_NothingToUndo⟩,
      n_NothingToUndo := nv_NothingToUndo,
      i_NothingToUndo := in_NothingToUndo,
      t_NothingToUndo := ti_NothingToUndo,
      k_NothingToUndo := ⟨fun s us ws _ h1 h2 => match us, ws, h1, h2 with | [_], [_], _, _ => .of_eq rfl, fun r1 r2 => r1.append r2⟩,
      q_NothingToUndo_BookError := kq_NothingToUndo_BookError,
      q_NothingToUndo_InvalidBook := kq_NothingToUndo_InvalidBook,
      q_NothingToUndo_InvalidSize := kq_NothingToUndo_InvalidSize,
      q_NothingToUndo_InvalidTable := kq_NothingToUndo_InvalidTable,
      q_NothingToUndo_InvalidChain := kq_NothingToUndo_InvalidChain,
      q_NothingToUndo_InvalidNumber := kq_NothingToUndo_InvalidNumber,
      q_NothingToUndo_NothingToUndo := kq_NothingToUndo_NothingToUndo,
      q_NothingToUndo_Unreadable := kq_NothingToUndo_Unreadable,
      q_NothingToUndo_ValueError := kq_NothingToUndo_ValueError,
      e_InvalidBook_BookError := PySem.W.exm_ref ex_BookError hd_BookError ty_BookError ks_InvalidBook_BookError,
      e_InvalidSize_BookError := PySem.W.exm_ref ex_BookError hd_BookError ty_BookError ks_InvalidSize_BookError,
      e_InvalidTable_BookError := PySem.W.exm_ref ex_BookError hd_BookError ty_BookError ks_InvalidTable_BookError,
      e_InvalidNumber_BookError := PySem.W.exm_ref ex_BookError hd_BookError ty_BookError ks_InvalidNumber_BookError,
      e_NothingToUndo_BookError := PySem.W.exm_ref ex_BookError hd_BookError ty_BookError ks_NothingToUndo_BookError,
      s_InvalidSize := st_InvalidSize }
  exact ⟨_, fun s v => .of_eq rfl, fun base _ _ => ok_law T⟩
end WK24
open PySem PySem.W PyProof.Rows
set_option maxHeartbeats 0 in
theorem PySem.Challenge.cw_pagecounts_k24_live_errors_holds : PySem.Challenge.rw_pagecounts_k24_live_errors.Holds := by
  w_on; o_law; k_head; (case hw => w_witness2)
  k_fill
  refine L2.walk_of (l := PySem.Challenge.rw_pagecounts_k24_live_errors) (n := 63) (k := 10) (x := "script") (CX := fun _ => L2.CX0) (sp := fun w => WK24.sp_law _) rfl (by decide) rfl ⟨rfl, by decide, by decide⟩ (fun w h Y => PySem.W.kIn_of Y) ?F (fun _ _ a ns hl _ hS => ⟨a, ns, rfl, hS, hl, fun _ => rfl⟩) (fun _ _ _ _ _ h => h)
  case F =>
    intro w mg fa h KX G hmg
    refine' WK24.all_mk KX G hmg ?m_BookError ?m_InvalidBook ?m_InvalidSize ?m_InvalidTable ?m_InvalidChain ?m_InvalidNumber ?m_NothingToUndo ?m_Unreadable ?m_LiveBook ?pg_LiveBook ?hd_LiveBook ?po_LiveBook ?sa_LiveBook ?mk_LiveBook ?kc_LiveBook ?na_LiveBook__lengths ?na_LiveBook__past ?in_InvalidBook ?l0 ?c0 ?k0 ?in_InvalidSize ?l1 ?c1 ?k1 ?in_InvalidTable ?l2 ?c2 ?k2 ?in_InvalidNumber ?l3 ?c3 ?k3 ?in_NothingToUndo ?l4 ?c4 ?k4 ?a5 ?l5 ?c5 ?k5 ?a6 ?l6 ?c6 ?k6 ?a7 ?l7 ?c7 ?k7 ?a8 ?l8 ?c8 ?k8 ?a9 ?l9 ?c9 ?k9 ?in_LiveBook__change_to ?fn_LiveBook__change_to ?l10 ?c10 ?k10 ?in_LiveBook___init__ ?fn_LiveBook___init__ ?l11 ?c11 ?k11 ?in_LiveBook_add ?fn_LiveBook_add ?l12 ?c12 ?k12 ?pq_LiveBook_book ?ps_LiveBook_book ?pt_LiveBook_book ?pr_LiveBook_book ?l13 ?c13 ?k13 ?pq_LiveBook_chapters ?ps_LiveBook_chapters ?pt_LiveBook_chapters ?pr_LiveBook_chapters ?l14 ?c14 ?k14 ?pq_LiveBook_lines ?ps_LiveBook_lines ?pt_LiveBook_lines ?pr_LiveBook_lines ?l15 ?c15 ?k15 ?in_LiveBook_undo ?fn_LiveBook_undo ?l16 ?c16 ?k16 ?in_LiveBook_split ?fn_LiveBook_split ?l17 ?c17 ?k17 ?in_LiveBook_join ?fn_LiveBook_join ?l18 ?c18 ?k18 ?in_LiveBook_titles ?fn_LiveBook_titles ?l19 ?c19 ?k19 ?a20 ?l20 ?c20 ?k20 ?a21 ?l21 ?c21 ?k21 ?rd_LiveBook ?cg_LiveBook ?cf_LiveBook_from_table ?cr_LiveBook_from_table ?ci_LiveBook_from_table ?l22 ?c22 ?k22 ?a23 ?l23 ?c23 ?k23 ?a24 ?l24 ?c24 ?k24 ?a25 ?l25 ?c25 ?k25 ?a26 ?l26 ?c26 ?k26 ?a27 ?l27 ?c27 ?k27 ?a28 ?l28 ?c28 ?k28 ?a29 ?l29 ?c29 ?k29 ?a30 ?l30 ?c30 ?k30 ?a31 ?l31 ?c31 ?k31 ?a32 ?l32 ?c32 ?k32 ?a33 ?l33 ?c33 ?k33 ?a34 ?l34 ?c34 ?k34 ?a35 ?l35 ?c35 ?k35 ?a36 ?l36 ?c36 ?k36 ?a37 ?l37 ?c37 ?k37 ?z0 ?z1 ?z2 ?z3 ?z4 ?z5 ?z6 ?z7 ?z8 ?z9 ?v_GREATEST_TOLD ?st_InvalidSize ?l_InvalidBook ?r_InvalidBook ?sa_InvalidBook ?ex_InvalidBook ?ty_InvalidBook ?kc_InvalidBook ?ga_InvalidBook ?gg_InvalidBook ?hd_InvalidBook ?ha_InvalidBook ?hn_InvalidBook ?ht_InvalidBook ?hm_InvalidBook ?nv_InvalidBook ?ti_InvalidBook ?kq_InvalidBook_BookError ?kq_InvalidBook_InvalidBook ?kq_InvalidBook_InvalidSize ?kq_InvalidBook_InvalidTable ?kq_InvalidBook_InvalidChain ?kq_InvalidBook_InvalidNumber ?kq_InvalidBook_NothingToUndo ?kq_InvalidBook_Unreadable ?kq_InvalidBook_ValueError ?l_InvalidSize ?r_InvalidSize ?sa_InvalidSize ?ex_InvalidSize ?ty_InvalidSize ?kc_InvalidSize ?ga_InvalidSize ?gg_InvalidSize ?hd_InvalidSize ?ha_InvalidSize ?hn_InvalidSize ?ht_InvalidSize ?hm_InvalidSize ?nv_InvalidSize ?ti_InvalidSize ?kq_InvalidSize_BookError ?kq_InvalidSize_InvalidBook ?kq_InvalidSize_InvalidSize ?kq_InvalidSize_InvalidTable ?kq_InvalidSize_InvalidChain ?kq_InvalidSize_InvalidNumber ?kq_InvalidSize_NothingToUndo ?kq_InvalidSize_Unreadable ?kq_InvalidSize_ValueError ?l_InvalidTable ?r_InvalidTable ?sa_InvalidTable ?ex_InvalidTable ?ty_InvalidTable ?kc_InvalidTable ?ga_InvalidTable ?gg_InvalidTable ?hd_InvalidTable ?ha_InvalidTable ?hn_InvalidTable ?ht_InvalidTable ?hm_InvalidTable ?nv_InvalidTable ?ti_InvalidTable ?kq_InvalidTable_BookError ?kq_InvalidTable_InvalidBook ?kq_InvalidTable_InvalidSize ?kq_InvalidTable_InvalidTable ?kq_InvalidTable_InvalidChain ?kq_InvalidTable_InvalidNumber ?kq_InvalidTable_NothingToUndo ?kq_InvalidTable_Unreadable ?kq_InvalidTable_ValueError ?l_InvalidNumber ?r_InvalidNumber ?sa_InvalidNumber ?ex_InvalidNumber ?ty_InvalidNumber ?kc_InvalidNumber ?ga_InvalidNumber ?gg_InvalidNumber ?hd_InvalidNumber ?ha_InvalidNumber ?hn_InvalidNumber ?ht_InvalidNumber ?hm_InvalidNumber ?nv_InvalidNumber ?ti_InvalidNumber ?kq_InvalidNumber_BookError ?kq_InvalidNumber_InvalidBook ?kq_InvalidNumber_InvalidSize ?kq_InvalidNumber_InvalidTable ?kq_InvalidNumber_InvalidChain ?kq_InvalidNumber_InvalidNumber ?kq_InvalidNumber_NothingToUndo ?kq_InvalidNumber_Unreadable ?kq_InvalidNumber_ValueError ?l_NothingToUndo ?r_NothingToUndo ?sa_NothingToUndo ?ex_NothingToUndo ?ty_NothingToUndo ?kc_NothingToUndo ?ga_NothingToUndo ?gg_NothingToUndo ?hd_NothingToUndo ?ha_NothingToUndo ?hn_NothingToUndo ?ht_NothingToUndo ?hm_NothingToUndo ?nv_NothingToUndo ?ti_NothingToUndo ?kq_NothingToUndo_BookError ?kq_NothingToUndo_InvalidBook ?kq_NothingToUndo_InvalidSize ?kq_NothingToUndo_InvalidTable ?kq_NothingToUndo_InvalidChain ?kq_NothingToUndo_InvalidNumber ?kq_NothingToUndo_NothingToUndo ?kq_NothingToUndo_Unreadable ?kq_NothingToUndo_ValueError ?ks_InvalidBook_BookError ?ex_BookError ?ty_BookError ?hd_BookError ?ks_InvalidSize_BookError ?ks_InvalidTable_BookError ?ks_InvalidNumber_BookError ?ks_NothingToUndo_BookError
    (case m_BookError => k_is); (case m_InvalidBook => k_is); (case m_InvalidSize => k_is); (case m_InvalidTable => k_is); (case m_InvalidChain => k_is); (case m_InvalidNumber => k_is); (case m_NothingToUndo => k_is); (case m_Unreadable => k_is); (case m_LiveBook => k_is); (case pg_LiveBook => k_is); (case hd_LiveBook => k_is); (case po_LiveBook => k_is); (case sa_LiveBook => k_is); (case mk_LiveBook => k_is); (case kc_LiveBook => k_is); (case na_LiveBook__lengths => k_is); (case na_LiveBook__past => k_is); (case in_InvalidBook => k_is); (case l0 => k_is); (case c0 => k_is); (case k0 => k_is); (case in_InvalidSize => k_is); (case l1 => k_is); (case c1 => k_is); (case k1 => k_is); (case in_InvalidTable => k_is); (case l2 => k_is); (case c2 => k_is); (case k2 => k_is); (case in_InvalidNumber => k_is); (case l3 => k_is); (case c3 => k_is); (case k3 => k_is); (case in_NothingToUndo => k_is); (case l4 => k_is); (case c4 => k_is); (case k4 => k_is); (case a5 => k_is); (case l5 => k_is); (case c5 => k_is); (case k5 => k_is); (case a6 => k_is); (case l6 => k_is); (case c6 => k_is); (case k6 => k_is); (case a7 => k_is); (case l7 => k_is); (case c7 => k_is); (case k7 => k_is); (case a8 => k_is); (case l8 => k_is); (case c8 => k_is); (case k8 => k_is); (case a9 => k_is); (case l9 => k_is); (case c9 => k_is); (case k9 => k_is); (case in_LiveBook__change_to => k_is); (case fn_LiveBook__change_to => k_is); (case l10 => k_is); (case c10 => k_is); (case k10 => k_is); (case in_LiveBook___init__ => k_is); (case fn_LiveBook___init__ => k_is); (case l11 => k_is); (case c11 => k_is); (case k11 => k_is); (case in_LiveBook_add => k_is); (case fn_LiveBook_add => k_is); (case l12 => k_is); (case c12 => k_is); (case k12 => k_is); (case pq_LiveBook_book => k_is); (case ps_LiveBook_book => k_is); (case pt_LiveBook_book => k_is); (case pr_LiveBook_book => k_is); (case l13 => k_is); (case c13 => k_is); (case k13 => k_is); (case pq_LiveBook_chapters => k_is); (case ps_LiveBook_chapters => k_is); (case pt_LiveBook_chapters => k_is); (case pr_LiveBook_chapters => k_is); (case l14 => k_is); (case c14 => k_is); (case k14 => k_is); (case pq_LiveBook_lines => k_is); (case ps_LiveBook_lines => k_is); (case pt_LiveBook_lines => k_is); (case pr_LiveBook_lines => k_is); (case l15 => k_is); (case c15 => k_is); (case k15 => k_is); (case in_LiveBook_undo => k_is); (case fn_LiveBook_undo => k_is); (case l16 => k_is); (case c16 => k_is); (case k16 => k_is); (case in_LiveBook_split => k_is); (case fn_LiveBook_split => k_is); (case l17 => k_is); (case c17 => k_is); (case k17 => k_is); (case in_LiveBook_join => k_is); (case fn_LiveBook_join => k_is); (case l18 => k_is); (case c18 => k_is); (case k18 => k_is); (case in_LiveBook_titles => k_is); (case fn_LiveBook_titles => k_is); (case l19 => k_is); (case c19 => k_is); (case k19 => k_is); (case a20 => k_is); (case l20 => k_is); (case c20 => k_is); (case k20 => k_is); (case a21 => k_is); (case l21 => k_is); (case c21 => k_is); (case k21 => k_is); (case rd_LiveBook => k_is); (case cg_LiveBook => k_is); (case cf_LiveBook_from_table => k_is); (case cr_LiveBook_from_table => k_is); (case ci_LiveBook_from_table => k_is); (case l22 => k_is); (case c22 => k_is); (case k22 => k_is); (case a23 => k_is); (case l23 => k_is); (case c23 => k_is); (case k23 => k_is); (case a24 => k_is); (case l24 => k_is); (case c24 => k_is); (case k24 => k_is); (case a25 => k_is); (case l25 => k_is); (case c25 => k_is); (case k25 => k_is); (case a26 => k_is); (case l26 => k_is); (case c26 => k_is); (case k26 => k_is); (case a27 => k_is); (case l27 => k_is); (case c27 => k_is); (case k27 => k_is); (case a28 => k_is); (case l28 => k_is); (case c28 => k_is); (case k28 => k_is); (case a29 => k_is); (case l29 => k_is); (case c29 => k_is); (case k29 => k_is); (case a30 => k_is); (case l30 => k_is); (case c30 => k_is); (case k30 => k_is); (case a31 => k_is); (case l31 => k_is); (case c31 => k_is); (case k31 => k_is); (case a32 => k_is); (case l32 => k_is); (case c32 => k_is); (case k32 => k_is); (case a33 => k_is); (case l33 => k_is); (case c33 => k_is); (case k33 => k_is); (case a34 => k_is); (case l34 => k_is); (case c34 => k_is); (case k34 => k_is); (case a35 => k_is); (case l35 => k_is); (case c35 => k_is); (case k35 => k_is); (case a36 => k_is); (case l36 => k_is); (case c36 => k_is); (case k36 => k_is); (case a37 => k_is); (case l37 => k_is); (case c37 => k_is); (case k37 => k_is); (case z0 => k_is); (case z1 => k_is); (case z2 => k_is); (case z3 => k_is); (case z4 => k_is); (case z5 => k_is); (case z6 => k_is); (case z7 => k_is); (case z8 => k_is); (case z9 => k_is); (case v_GREATEST_TOLD => k_is); (case st_InvalidSize => k_is); (case l_InvalidBook => k_is); (case r_InvalidBook => rfl); (case sa_InvalidBook => k_is); (case ex_InvalidBook => k_is); (case ty_InvalidBook => k_is); (case kc_InvalidBook => k_is); (case ga_InvalidBook => k_is); (case gg_InvalidBook => k_is); (case hd_InvalidBook => k_is); (case ha_InvalidBook => k_is); (case hn_InvalidBook => k_is); (case ht_InvalidBook => k_is); (case hm_InvalidBook => k_is); (case nv_InvalidBook => k_is); (case ti_InvalidBook => k_is); (case kq_InvalidBook_BookError => kit_is); (case kq_InvalidBook_InvalidBook => kit_is); (case kq_InvalidBook_InvalidSize => kit_is); (case kq_InvalidBook_InvalidTable => kit_is); (case kq_InvalidBook_InvalidChain => kit_is); (case kq_InvalidBook_InvalidNumber => kit_is); (case kq_InvalidBook_NothingToUndo => kit_is); (case kq_InvalidBook_Unreadable => kit_is); (case kq_InvalidBook_ValueError => kit_is); (case l_InvalidSize => k_is); (case r_InvalidSize => rfl); (case sa_InvalidSize => k_is); (case ex_InvalidSize => k_is); (case ty_InvalidSize => k_is); (case kc_InvalidSize => k_is); (case ga_InvalidSize => k_is); (case gg_InvalidSize => k_is); (case hd_InvalidSize => k_is); (case ha_InvalidSize => k_is); (case hn_InvalidSize => k_is); (case ht_InvalidSize => k_is); (case hm_InvalidSize => k_is); (case nv_InvalidSize => k_is); (case ti_InvalidSize => k_is); (case kq_InvalidSize_BookError => kit_is); (case kq_InvalidSize_InvalidBook => kit_is); (case kq_InvalidSize_InvalidSize => kit_is); (case kq_InvalidSize_InvalidTable => kit_is); (case kq_InvalidSize_InvalidChain => kit_is); (case kq_InvalidSize_InvalidNumber => kit_is); (case kq_InvalidSize_NothingToUndo => kit_is); (case kq_InvalidSize_Unreadable => kit_is); (case kq_InvalidSize_ValueError => kit_is); (case l_InvalidTable => k_is); (case r_InvalidTable => rfl); (case sa_InvalidTable => k_is); (case ex_InvalidTable => k_is); (case ty_InvalidTable => k_is); (case kc_InvalidTable => k_is); (case ga_InvalidTable => k_is); (case gg_InvalidTable => k_is); (case hd_InvalidTable => k_is); (case ha_InvalidTable => k_is); (case hn_InvalidTable => k_is); (case ht_InvalidTable => k_is); (case hm_InvalidTable => k_is); (case nv_InvalidTable => k_is); (case ti_InvalidTable => k_is); (case kq_InvalidTable_BookError => kit_is); (case kq_InvalidTable_InvalidBook => kit_is); (case kq_InvalidTable_InvalidSize => kit_is); (case kq_InvalidTable_InvalidTable => kit_is); (case kq_InvalidTable_InvalidChain => kit_is); (case kq_InvalidTable_InvalidNumber => kit_is); (case kq_InvalidTable_NothingToUndo => kit_is); (case kq_InvalidTable_Unreadable => kit_is); (case kq_InvalidTable_ValueError => kit_is); (case l_InvalidNumber => k_is); (case r_InvalidNumber => rfl); (case sa_InvalidNumber => k_is); (case ex_InvalidNumber => k_is); (case ty_InvalidNumber => k_is); (case kc_InvalidNumber => k_is); (case ga_InvalidNumber => k_is); (case gg_InvalidNumber => k_is); (case hd_InvalidNumber => k_is); (case ha_InvalidNumber => k_is); (case hn_InvalidNumber => k_is); (case ht_InvalidNumber => k_is); (case hm_InvalidNumber => k_is); (case nv_InvalidNumber => k_is); (case ti_InvalidNumber => k_is); (case kq_InvalidNumber_BookError => kit_is); (case kq_InvalidNumber_InvalidBook => kit_is); (case kq_InvalidNumber_InvalidSize => kit_is); (case kq_InvalidNumber_InvalidTable => kit_is); (case kq_InvalidNumber_InvalidChain => kit_is); (case kq_InvalidNumber_InvalidNumber => kit_is); (case kq_InvalidNumber_NothingToUndo => kit_is); (case kq_InvalidNumber_Unreadable => kit_is); (case kq_InvalidNumber_ValueError => kit_is); (case l_NothingToUndo => k_is); (case r_NothingToUndo => rfl); (case sa_NothingToUndo => k_is); (case ex_NothingToUndo => k_is); (case ty_NothingToUndo => k_is); (case kc_NothingToUndo => k_is); (case ga_NothingToUndo => k_is); (case gg_NothingToUndo => k_is); (case hd_NothingToUndo => k_is); (case ha_NothingToUndo => k_is); (case hn_NothingToUndo => k_is); (case ht_NothingToUndo => k_is); (case hm_NothingToUndo => k_is); (case nv_NothingToUndo => k_is); (case ti_NothingToUndo => k_is); (case kq_NothingToUndo_BookError => kit_is); (case kq_NothingToUndo_InvalidBook => kit_is); (case kq_NothingToUndo_InvalidSize => kit_is); (case kq_NothingToUndo_InvalidTable => kit_is); (case kq_NothingToUndo_InvalidChain => kit_is); (case kq_NothingToUndo_InvalidNumber => kit_is); (case kq_NothingToUndo_NothingToUndo => kit_is); (case kq_NothingToUndo_Unreadable => kit_is); (case kq_NothingToUndo_ValueError => kit_is); (case ks_InvalidBook_BookError => k_is); (case ex_BookError => k_is); (case ty_BookError => k_is); (case hd_BookError => k_is); (case ks_InvalidSize_BookError => k_is); (case ks_InvalidTable_BookError => k_is); (case ks_InvalidNumber_BookError => k_is); (case ks_NothingToUndo_BookError => k_is)

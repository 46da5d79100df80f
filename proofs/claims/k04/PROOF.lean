import PyProof.Rows.All
import Wide.All
import OpenK.AllK
import Wide.FinOn
import HandS.Evl
import HandS.GenList
import HandS.Walk
import HandS.WordsExc
import HandS.ForMost
import HandS.Wide
import HandS.Style
import HandS.ExcInit
import HandS.ExcIs
import HandS.ExcField
import HandS.IsInst
import HandS.Defaults
import HandS.Text
import HandS.FStr
import HandS.StrMore
import HandS.RaiseMore
import HandS.SetFor
import HandS.Flow
import HandS.Deep
import HandS.NoneIn
import HandS.ExcOwn
import HandS.ExcCtx
import HandS.HotCalls
import HandS.Replace
import HandS.Star
import HandS.Conv
import PyProof.Rows.TupIter
import PyProof.LongRange
import KE.KExcIs
import KE.KIsAll
import PyProof.ReprRoads
import PyProof.ReprBulk
import PyProof.FitsInt
import PySem.Challenge.RW_pagecounts_k04_errors_of_books
set_option Elab.async false
set_option linter.all false
set_option maxRecDepth 100000
set_option maxHeartbeats 4000000
/-! Readings, step by step, from their heads (own lemmas over HandS). -/
namespace HS
open PySem PySem.Spec PyProof.Rows L2
section
variable {σ : L2.St} {H : Hp} {Q : VK} {t u : TS} {te ta tb tx : TE} {tt tv : TT} {n bk ct : L2.St → Hp → Prop} {rt : VK} {K : PySem.W.Frag}
theorem seq (h : t ⟨u ⟨n, rt, bk, ct⟩, rt, bk, ct⟩ σ H) : tSeq t u ⟨n, rt, bk, ct⟩ σ H := h
theorem nxt (h : n σ H) : tNext ⟨n, rt, bk, ct⟩ σ H := h
theorem brk (h : bk σ H) : tBreak ⟨n, rt, bk, ct⟩ σ H := h
theorem cnt (h : ct σ H) : tCont ⟨n, rt, bk, ct⟩ σ H := h
theorem asg {g : TG} (h : te σ H fun x H1 => g x σ H1 n) : tAsg te g ⟨n, rt, bk, ct⟩ σ H := h
theorem nm {v : V} {i : Nat} {q : L2.St → Hp → Prop} (h : q (σ.set i (some v)) H) : gName i v σ H q := h
theorem sub {to ti : TE} {ts : TSet} {v : V} {q : L2.St → Hp → Prop} (h : to σ H fun o H1 => ti σ H1 fun i H2 => ts o i v H2 fun H3 => q σ H3) : gSub to ti ts v σ H q := h
theorem var {i : Nat} {v : V} (h : σ[i]? = some (some v)) (q : Q v H) : tVar i σ H Q := ⟨v, h, q⟩
theorem cst {v : V} (q : Q v H) : tC v σ H Q := q
theorem op {r : R2} (h : ta σ H fun x H1 => tb σ H1 fun y H2 => r x y H2 Q) : tOp r ta tb σ H Q := h
theorem un {r : V → Hp → VK → Prop} (h : ta σ H fun x H1 => r x H1 Q) : tUn r ta σ H Q := h
theorem i0 {g : Int → Int → V} {i j : Int} (q : Q (g i j) H) : rI0 g (.int i) (.int j) H Q := ⟨i, j, rfl, rfl, q⟩
theorem i1 {C : Int → Int → Prop} {g : Int → Int → V} {i j : Int} (q : C i j ∧ Q (g i j) H) : rI C g (.int i) (.int j) H Q := ⟨i, j, rfl, rfl, q⟩
theorem u0 {g : Int → V} {i : Int} (q : Q (g i) H) : rU g (.int i) H Q := ⟨i, rfl, q⟩
theorem eqI {i j : Int} (q : Q (.bl (decide (i = j))) H) : rEq (.int i) (.int j) H Q := ⟨rfl, by
  have e : decide ((V.int i) = V.int j) = decide (i = j) := by
    by_cases h : i = j
    · rw [h]; simp
    · have h2 : ¬ (V.int i = V.int j) := fun z => h (V.int.inj z)
      rw [decide_eq_false h, decide_eq_false h2]
  rw [e]; exact q⟩
theorem neI {i j : Int} (q : Q (.bl (!decide (i = j))) H) : rNe (.int i) (.int j) H Q := ⟨rfl, by
  have e : decide ((V.int i) = V.int j) = decide (i = j) := by
    by_cases h : i = j
    · rw [h]; simp
    · have h2 : ¬ (V.int i = V.int j) := fun z => h (V.int.inj z)
      rw [decide_eq_false h, decide_eq_false h2]
  rw [e]; exact q⟩
theorem tst {q : Bool → Hp → Prop} (h : te σ H fun x H' => ∃ k, x = .bl k ∧ q k H') : tTest te σ H q := h
theorem tb1 {q : Bool → Hp → Prop} (h : te σ H fun x H' => ∃ k, x = .bl k ∧ q k H') : tB te σ H q := h
theorem bex {b : Bool} {q : Bool → Prop} (h : q b) : ∃ k, V.bl b = V.bl k ∧ q k := ⟨b, rfl, h⟩
theorem ifs (h : tt σ H fun b H1 => if b = true then t ⟨n, rt, bk, ct⟩ σ H1 else u ⟨n, rt, bk, ct⟩ σ H1) : tIfS tt t u ⟨n, rt, bk, ct⟩ σ H := h
theorem ife (h : tt σ H fun b H1 => if b = true then ta σ H1 Q else tb σ H1 Q) : tIf tt ta tb σ H Q := h
theorem and {q : Bool → Hp → Prop} (h : tt σ H fun c H1 => if c = true then tv σ H1 q else q false H1) : tAnd tt tv σ H q := h
theorem or {q : Bool → Hp → Prop} (h : tt σ H fun c H1 => if c = true then q true H1 else tv σ H1 q) : tOr tt tv σ H q := h
theorem not {q : Bool → Hp → Prop} (h : tt σ H fun c H1 => q (!c) H1) : tNot tt σ H q := h
theorem andV (h : ta σ H fun x H1 => ∃ c, x = .bl c ∧ if c = true then tb σ H1 Q else Q (.bl false) H1) : tAndV ta tb σ H Q := h
theorem orV (h : ta σ H fun x H1 => ∃ c, x = .bl c ∧ if c = true then Q (.bl true) H1 else tb σ H1 Q) : tOrV ta tb σ H Q := h
theorem notV (h : ta σ H fun x H1 => ∃ c, x = .bl c ∧ Q (.bl (!c)) H1) : tNotV ta σ H Q := h
theorem chn {r r' : R2} {tc : TE} (h : ta σ H fun x H1 => tb σ H1 fun y H2 => r x y H2 fun z H3 => ∃ k, z = .bl k ∧ if k = true then tc σ H3 fun w H4 => r' y w H4 Q else Q (.bl false) H3) : tChain r r' ta tb tc σ H Q := h
theorem ret (h : te σ H rt) : tRet te ⟨n, rt, bk, ct⟩ σ H := h
theorem retN (h : rt .non H) : tRetN ⟨n, rt, bk, ct⟩ σ H := h
theorem drp (h : te σ H fun _ H1 => n σ H1) : tDrop te ⟨n, rt, bk, ct⟩ σ H := h
theorem cb {r : List V → Hp → VK → Prop} {tl : TA} (h : tl σ H fun vs H1 => r vs H1 Q) : tCB r tl σ H Q := h
theorem anil {q : List V → Hp → Prop} (h : q [] H) : tNil σ H q := h
theorem acons {tl : TA} {q : List V → Hp → Prop} (h : te σ H fun x H1 => tl σ H1 fun xs H2 => q (x :: xs) H2) : tCons te tl σ H q := h
theorem cal {sp : Sp} {E : XK} {tl : TA} (h : tl σ H fun vs H1 => sp vs H1 Q E) : tCall sp [] E tl σ H Q := by
  show tl σ H fun vs H1 => sp (vs ++ []) H1 Q E
  simp only [List.append_nil]; exact h
theorem tup {tl : TA} (h : tl σ H fun xs H1 => xs.length ≤ sizeLine ∧ ∀ p, H1 p = none → Q (.ref p) (upd H1 p (.tup xs))) : tTup tl σ H Q := h
theorem lst {tl : TA} (h : tl σ H fun xs H1 => xs.length ≤ sizeLine ∧ ∀ p, H1 p = none → Q (.ref p) (upd H1 p (.lst xs))) : tLst tl σ H Q := h
theorem par {i j : Nat} {tl : TA} (h : tl σ H fun vs H1 => ∃ v w, vs = [v, w] ∧ n ((σ.set i (some v)).set j (some w)) H1) : tPar i j tl ⟨n, rt, bk, ct⟩ σ H := h
theorem ex2 {v w : V} {q : V → V → Prop} (h : q v w) : ∃ a b, [v, w] = [a, b] ∧ q a b := ⟨v, w, rfl, h⟩
theorem aug {i : Nat} {ti : TIp} {x : V} (e : σ[i]? = some (some x)) (h : te σ H fun y H1 => ti x y H1 fun z H2 => n (σ.set i (some z)) H2) : tAug i te ti ⟨n, rt, bk, ct⟩ σ H := ⟨x, e, h⟩
theorem ipi {f : Int → Int → Int} {i j : Int} (q : Q (.int (f i j)) H) : ipI f (.int i) (.int j) H Q := ⟨i, j, rfl, rfl, q⟩
theorem addI {i j : Int} (q : Q (.int (i + j)) H) : rAdd (.int i) (.int j) H Q := ⟨i, j, rfl, rfl, q⟩
theorem ixL {p : Addr} {xs : List V} {i : Int} {v : V} (h : SqL K H p xs) (e : atI xs i = some v) (q : Q v H) : rIxL K (.ref p) (.int i) H Q := ⟨p, xs, i, v, rfl, rfl, h, e, q⟩
theorem ixT {p : Addr} {xs : List V} {i : Int} {v : V} (h : SqT K H p xs) (e : atI xs i = some v) (q : Q v H) : rIxT K (.ref p) (.int i) H Q := ⟨p, xs, i, v, rfl, rfl, h, e, q⟩
/-- an if over a decided thing -/
theorem itd {c A B : Prop} [Decidable c] (h1 : c → A) (h2 : ¬ c → B) : if decide c = true then A else B := by
  by_cases h : c
  · rw [decide_eq_true h, if_pos rfl]; exact h1 h
  · rw [decide_eq_false h, if_neg Bool.false_ne_true]; exact h2 h
theorem itn {c A B : Prop} [Decidable c] (h1 : ¬ c → A) (h2 : c → B) : if (!decide c) = true then A else B := by
  by_cases h : c
  · rw [decide_eq_true h]; exact iteF (h2 h)
  · rw [decide_eq_false h]; exact iteT (h1 h)
theorem it1 {c A B : Prop} [Decidable c] (hc : c) (h : A) : if decide c = true then A else B := itd (fun _ => h) fun z => absurd hc z
theorem it0 {c A B : Prop} [Decidable c] (hc : ¬ c) (h : B) : if decide c = true then A else B := itd (fun z => absurd z hc) fun _ => h
theorem in1 {c A B : Prop} [Decidable c] (hc : ¬ c) (h : A) : if (!decide c) = true then A else B := itn (fun _ => h) fun z => absurd z hc
theorem in0 {c A B : Prop} [Decidable c] (hc : c) (h : B) : if (!decide c) = true then A else B := itn (fun z => absurd hc z) fun _ => h
end
/-! ### heaps: all but S stands -/
def Keep (S : Addr → Prop) (H H' : Hp) : Prop := ∀ a o, H a = some o → ¬ S a → H' a = some o
section
variable {S : Addr → Prop} {H H1 H2 : Hp} {p q : Addr} {o u : HO}
theorem Keep.refl : Keep S H H := fun _ _ h _ => h
theorem Keep.trans (a : Keep S H H1) (b : Keep S H1 H2) : Keep S H H2 := fun x o h n => b x o (a x o h n) n
theorem Keep.new (h : H p = none) : Keep S H (upd H p o) := fun a u e _ => by rw [upd_ne (ne_of_none e h)]; exact e
theorem Keep.put (k : Keep S H H1) (h : H p = none) : Keep S H (upd H1 p o) := fun a u e n => by rw [upd_ne (ne_of_none e h)]; exact k a u e n
theorem Keep.at (k : Keep S H H1) (h : S p) : Keep S H (upd H1 p o) := fun a u e n => by rw [upd_ne (fun z => n (by rw [z]; exact h))]; exact k a u e n
theorem Keep.free (k : Keep S H H1) (h : H1 p = none) (n : ¬ S p) : H p = none := by
  cases e : H p with
  | none => rfl
  | some o => have z := k p o e n; rw [h] at z; cases z
theorem Keep.sq {K : PySem.W.Frag} {xs : List V} (k : Keep S H H1) (h : SqL K H p xs) (n : ¬ S p) : SqL K H1 p xs := by
  rcases h with (h | ⟨o, h⟩) | h
  · exact .inl (.inl (k _ _ h n))
  · exact .inl (.inr ⟨o, k _ _ h n⟩)
  · exact .inr h
theorem Keep.st {K : PySem.W.Frag} {xs : List V} (k : Keep S H H1) (h : SqT K H p xs) (n : ¬ S p) : SqT K H1 p xs := by
  rcases h with (h | ⟨o, h⟩) | h
  · exact .inl (.inl (k _ _ h n))
  · exact .inl (.inr ⟨o, k _ _ h n⟩)
  · exact .inr h
theorem sq {K : PySem.W.Frag} {xs : List V} (h : H p = some (.lst xs)) : SqL K H p xs := .inl (.inl h)
theorem st {K : PySem.W.Frag} {xs : List V} (h : H p = some (.tup xs)) : SqT K H p xs := .inl (.inl h)
end
end HS
theorem hu64 {A : PySem.Around} {k : Nat} (hr : L2.Room k A) : A.units + 64 < PySem.cLine := hr.units
namespace HS
open PySem PySem.Spec PyProof.Rows L2
section
variable {σ : L2.St} {H : Hp} {Q : VK} {te ta tb tx : TE} {K : PySem.W.Frag} {X : Cx}
theorem sz {n : Nat} (h : n ≤ 100000) : n < sizeLine := Nat.lt_of_le_of_lt h (by decide)
theorem szl {n : Nat} (h : n ≤ 100000) : n ≤ sizeLine := Nat.le_of_lt (sz h)
theorem pe_fold {e : Expr} {t : TE} (z : Int) (h : PE X e t) (k : ∀ (σ : L2.St) (H : Hp) (Q : VK), Q (.int z) H → t σ H Q) : PE X e (tC (.int z)) :=
  ⟨fun pins s σ H Q I q => h.run pins s σ H Q I (k σ H Q q)⟩
theorem ii {a b : Int} {q : Int → Int → Prop} (h : q a b) : ∃ i j, [V.int a, V.int b] = [V.int i, V.int j] ∧ q i j := ⟨a, b, rfl, h⟩
theorem bmL {r : V → List V → Hp → VK → Prop} {tl : TA} (h : ta σ H fun x H1 => tyV K "list" x H1 ∧ tl σ H1 fun xs H2 => r x xs H2 Q) : tBM K "list" r ta tl σ H Q := h
theorem bmL0 {r : V → List V → Hp → VK → Prop} (h : ta σ H fun x H1 => tyV K "list" x H1 ∧ r x [] H1 Q) : tBM0 K "list" r ta σ H Q := h
theorem tyL {p : Addr} {xs : List V} {A : Prop} (h : H p = some (.lst xs)) (q : A) : tyV K "list" (.ref p) H ∧ A := ⟨.inl ⟨rfl, _, .inl (.inl h)⟩, q⟩
theorem app {l : Addr} {xs : List V} {y : V} (h : H l = some (.lst xs)) (q : xs.length < sizeLine ∧ Q .non (upd H l (.lst (xs ++ [y])))) : rAppend (.ref l) [y] H Q := ⟨l, xs, y, rfl, rfl, h, q⟩
theorem pop0 {l : Addr} {y : V} {ys : List V} (h : H l = some (.lst (y :: ys))) (q : Q y (upd H l (.lst ys))) : rPopAt (.ref l) [.int 0] H Q := ⟨l, y :: ys, 0, 0, y, rfl, rfl, h, by decide, by decide, by simp [seqIndex?], rfl, q⟩
theorem setL {p : Addr} {xs : List V} {k : Int} {j : Nat} {v : V} {q : Hp → Prop} (h : H p = some (.lst xs)) (e : ixN xs.length k = some j) (g : q (upd H p (.lst (xs.set j v)))) : rSetL (.ref p) (.int k) v H q := ⟨p, xs, _, j, rfl, rfl, h, e, g⟩
theorem mulW {i j : Int} (a b : Nat) (h0 : 0 ≤ i) (h1 : i < 2 ^ a) (g0 : 0 ≤ j) (g1 : j < 2 ^ b) (ha : 0 < a) (hb : 0 < b) (h : a + b ≤ 1000000) : CMulW i j := by
  refine wide_mul (a := a) (b := b) ?_ ?_ ha hb h
  · have : ((i.natAbs : Nat) : Int) < ((2 ^ a : Nat) : Int) := by rw [Int.natAbs_of_nonneg h0]; simpa using h1
    exact Int.ofNat_lt.mp this
  · have : ((j.natAbs : Nat) : Int) < ((2 ^ b : Nat) : Int) := by rw [Int.natAbs_of_nonneg g0]; simpa using g1
    exact Int.ofNat_lt.mp this
theorem divW {i j : Int} (b : Nat) (h : 0 < j) (h1 : j < 2 ^ b) (hb : 0 < b) (h9 : b ≤ 9000) : CDivW i j := by
  refine wide_div (b := b) h ?_ hb h9
  have : ((j.natAbs : Nat) : Int) < ((2 ^ b : Nat) : Int) := by rw [Int.natAbs_of_nonneg (by omega)]; simpa using h1
  exact Int.ofNat_lt.mp this
theorem get_int {ns : List Int} {i : Nat} {x : V} (hi : (ns.map V.int)[i]? = some x) : ∃ z, x = .int z ∧ ns[i]? = some z ∧ i < ns.length := by
  rw [List.getElem?_map] at hi
  cases e : ns[i]? with
  | none => rw [e] at hi; cases hi
  | some z => rw [e] at hi; exact ⟨z, (Option.some.inj hi).symm, rfl, (List.getElem?_eq_some_iff.mp e).1⟩
end
end HS
namespace HS
open PySem PySem.Spec PyProof.Rows L2
theorem Keep.new' {S : Addr → Prop} {H H0 H1 : Hp} {p : Addr} {o : HO} (h : H0 p = none) (k0 : Keep S H H0) (n : ¬ S p) (k : Keep S H H1) : Keep S H (upd H1 p o) := k.put (k0.free h n)
theorem nS2 {p a b : Addr} (h1 : p ≠ a) (h2 : p ≠ b) : ¬ (p = a ∨ p = b) := fun z => z.elim h1 h2
theorem nS3 {p a b c : Addr} (h1 : p ≠ a) (h2 : p ≠ b) (h3 : p ≠ c) : ¬ (p = a ∨ p = b ∨ p = c) := fun z => z.elim h1 fun z => z.elim h2 h3
end HS
namespace HS
open PySem PySem.Spec PyProof.Rows L2
section
variable {σ : L2.St} {H : Hp} {t u : TS} {n bk ct : L2.St → Hp → Prop} {rt : VK}
theorem pnx (h : n σ H) : Ends.nx ⟨n, rt, bk, ct⟩ σ H := h
theorem pbk (h : bk σ H) : Ends.bk ⟨n, rt, bk, ct⟩ σ H := h
theorem pct (h : ct σ H) : Ends.ct ⟨n, rt, bk, ct⟩ σ H := h
theorem prt {v : V} (h : rt v H) : Ends.rt ⟨n, rt, bk, ct⟩ v H := h
theorem cut (M : L2.St → Hp → Prop) (h : t ⟨M, rt, bk, ct⟩ σ H) (k : ∀ σ' H', M σ' H' → u ⟨n, rt, bk, ct⟩ σ' H') : Evl.tCut t u ⟨n, rt, bk, ct⟩ σ H := ⟨M, h, k⟩
theorem pow_lt {i : Int} {a : Nat} (k : Nat) (h0 : 0 ≤ i) (h : i < 2 ^ a) : 0 ≤ i ^ k ∧ (i ^ k < 2 ^ (a * k) ∨ k = 0) := by
  refine ⟨Int.pow_nonneg h0, ?_⟩
  cases k with
  | zero => exact .inr rfl
  | succ k =>
    refine .inl ?_
    obtain ⟨m, rfl⟩ := Int.eq_ofNat_of_zero_le h0
    have h' : m < 2 ^ a := by have : ((m : Nat) : Int) < ((2 ^ a : Nat) : Int) := by simpa using h
                              exact Int.ofNat_lt.mp this
    have := Nat.pow_lt_pow_left h' (Nat.succ_ne_zero k)
    rw [← Nat.pow_mul] at this
    have z : ((m ^ (k + 1) : Nat) : Int) < ((2 ^ (a * (k + 1)) : Nat) : Int) := Int.ofNat_lt.mpr this
    simpa using z
end
end HS
namespace HS
open PySem PySem.Spec PyProof.Rows L2
section
variable {σ : L2.St} {H : Hp} {Q : VK} {ta tb te : TE} {K : PySem.W.Frag}
theorem szc {n : Nat} {A : Prop} (h : n ≤ 100000) (q : A) : n ≤ sizeLine ∧ A := ⟨szl h, q⟩
theorem szd {n : Nat} {A : Prop} (h : n ≤ 100000) (q : A) : n < sizeLine ∧ A := ⟨sz h, q⟩
theorem wp {σ1 σ2 : L2.St} {vs : List Nat} {A : Prop} (e : wipe σ2 vs = wipe σ1 vs) (q : A) : wipe σ2 vs = wipe σ1 vs ∧ A := ⟨e, q⟩
theorem yes {q : Bool → Hp → Prop} (h : q true H) : tYes σ H q := h
theorem ixI {p : Addr} {i : Int} (ns : List Int) (h : SqL K H p (ns.map V.int)) (h0 : 0 ≤ i) (h1 : i < ns.length) (q : ∀ z, ns[i.toNat]? = some z → z ∈ ns → Q (.int z) H) : rIxL K (.ref p) (.int i) H Q := by
  have hi : i.toNat < ns.length := by omega
  have e : ns[i.toNat]? = some ns[i.toNat] := List.getElem?_eq_getElem hi
  refine ⟨p, ns.map V.int, i, .int ns[i.toNat], rfl, rfl, h, ?_, q _ e (List.getElem_mem hi)⟩
  exact at_of (j := i.toNat) (by omega) (by rw [List.getElem?_map, e]; rfl)
theorem ixV {p : Addr} {i : Int} {xs : List V} (h : SqL K H p xs) (h0 : 0 ≤ i) (h1 : i < xs.length) (q : ∀ v, xs[i.toNat]? = some v → v ∈ xs → Q v H) : rIxL K (.ref p) (.int i) H Q := by
  have hi : i.toNat < xs.length := by omega
  have e : xs[i.toNat]? = some xs[i.toNat] := List.getElem?_eq_getElem hi
  refine ⟨p, xs, i, xs[i.toNat], rfl, rfl, h, ?_, q _ e (List.getElem_mem hi)⟩
  exact at_of (j := i.toNat) (by omega) e
theorem ixVT {p : Addr} {i : Int} {xs : List V} (h : SqT K H p xs) (h0 : 0 ≤ i) (h1 : i < xs.length) (q : ∀ v, xs[i.toNat]? = some v → v ∈ xs → Q v H) : rIxT K (.ref p) (.int i) H Q := by
  have hi : i.toNat < xs.length := by omega
  have e : xs[i.toNat]? = some xs[i.toNat] := List.getElem?_eq_getElem hi
  refine ⟨p, xs, i, xs[i.toNat], rfl, rfl, h, ?_, q _ e (List.getElem_mem hi)⟩
  exact at_of (j := i.toNat) (by omega) e
theorem lc {wi : TI} {g : TG} {tt : TT} {vs : List Nat} (h : wi σ H fun J H1 => ∀ D, H1 D = none → ∃ W : Nat → Nat → Hp → Prop, (∃ m, W 0 m (upd H1 D (.lst []))) ∧ ∀ i m H, W i m H → (J.stop i H ∧ Q (.ref D) H) ∨ (J.go i H ∧ ∃ Nx : Hp → Prop, (∀ H', Nx H' → ∃ m', m' < m ∧ W (i + 1) m' H') ∧ ∀ x H', J.yld i H x H' → g x (wipe σ vs) H' fun σ2 H2 => wipe σ2 vs = wipe σ vs ∧ tt σ2 H2 fun b H3 => if b = true then te σ2 H3 fun y H4 => ∃ acc, H4 D = some (.lst acc) ∧ acc.length < sizeLine ∧ Nx (upd H4 D (.lst (acc ++ [y]))) else Nx H3)) : tLc wi g tt te vs σ H Q := h
theorem rng1 {tl : TA} {R : It → Hp → Prop} (h : tl σ H fun vs H1 => ∃ j : Int, vs = [.int j] ∧ -(2 ^ 62) ≤ j ∧ j < 2 ^ 62 ∧ R (Itr 0 j.toNat) H1) : iRng1 tl σ H R := h
theorem rng2 {tl : TA} {R : It → Hp → Prop} (h : tl σ H fun vs H1 => ∃ i j : Int, vs = [.int i, .int j] ∧ (-(2 ^ 62) ≤ i ∧ i < 2 ^ 62 ∧ -(2 ^ 62) ≤ j ∧ j < 2 ^ 62) ∧ R (Itr i (j - i).toNat) H1) : iRng2 tl σ H R := h
theorem lis {tl : TE} {R : It → Hp → Prop} (h : tl σ H fun x H1 => ∃ a, x = .ref a ∧ (∃ xs, SqL K H1 a xs) ∧ R (Itl K a) H1) : iList K tl σ H R := h
theorem ra {a : Addr} {q : Addr → Prop} (h : q a) : ∃ b, V.ref a = V.ref b ∧ q b := ⟨a, rfl, h⟩
theorem i1e {a : Int} {q : Int → Prop} (h : q a) : ∃ i, [V.int a] = [V.int i] ∧ q i := ⟨a, rfl, h⟩
theorem fr {wi : TI} {g : TG} {tb : TS} {D : Ends} (h : wi σ H fun J H1 => ∃ W : Nat → Nat → L2.St → Hp → Prop, (∃ m, W 0 m σ H1) ∧ ∀ i m σ H, W i m σ H →
    (J.stop i H ∧ D.nx σ H) ∨ (J.go i H ∧ ∃ N : L2.St → Hp → Prop, (∀ σ' H', N σ' H' → ∃ m', m' < m ∧ W (i + 1) m' σ' H') ∧ ∀ x H', J.yld i H x H' → g x σ H' fun σ2 H2 => tb { D with nx := N, ct := N, bk := D.nx } σ2 H2)) : tFor wi g tb D σ H := h
end
end HS
namespace HS
open PySem PySem.Spec PyProof.Rows L2
theorem iteM {c : Bool} {ta tb : TE} {σ : L2.St} {H1 : Hp} {Q : VK} (M : VK) (h : c = true → ∀ Q' : VK, (∀ v H', M v H' → Q' v H') → ta σ H1 Q') (g : c = false → ∀ Q' : VK, (∀ v H', M v H' → Q' v H') → tb σ H1 Q') (k : ∀ v H', M v H' → Q v H') :
    if c = true then ta σ H1 Q else tb σ H1 Q := by
  cases c with
  | true => rw [if_pos rfl]; exact h rfl Q k
  | false => rw [if_neg Bool.false_ne_true]; exact g rfl Q k
/-- ceilings -/
theorem ceil_eq {i j : Int} (hj : 1 ≤ j) : (i + j - 1) / j = i / j + (if 0 < i % j then 1 else 0) := by
  have h0 := Int.emod_nonneg i (by omega : j ≠ 0)
  have h1 := Int.emod_lt_of_pos i (by omega : 0 < j)
  have e := Int.mul_ediv_add_emod i j
  generalize i / j = q at e ⊢
  generalize i % j = r at e h0 h1 ⊢
  subst e
  split
  · rename_i h
    rw [show j * q + r + j - 1 = (r - 1) + j * (q + 1) by rw [Int.mul_add]; omega, Int.add_mul_ediv_left _ _ (by omega), Int.ediv_eq_zero_of_lt (by omega) (by omega)]
    omega
  · rename_i h
    rw [show j * q + r + j - 1 = (j - 1) + j * q by omega, Int.add_mul_ediv_left _ _ (by omega), Int.ediv_eq_zero_of_lt (by omega) (by omega)]
    omega
end HS
namespace HS
open PySem PySem.Spec PyProof.Rows L2
section
variable {σ : L2.St} {H : Hp} {te : TE} {t : TS} {tg ug : TGn} {n bk ct : List V → L2.St → Hp → Prop} {rt : List V → VK} {ys : List V} {Q : VK}
theorem gthen (h : tg ⟨fun ys' σ' H' => ug ⟨n, rt, bk, ct⟩ ys' σ' H', rt, bk, ct⟩ ys σ H) : tGThen tg ug ⟨n, rt, bk, ct⟩ ys σ H := h
theorem g0 (h : n ys σ H) : tG0 ⟨n, rt, bk, ct⟩ ys σ H := h
theorem gpl (h : t ⟨n ys, rt ys, bk ys, ct ys⟩ σ H) : tPlain t ⟨n, rt, bk, ct⟩ ys σ H := h
theorem gyl (h : ys.length < sizeLine ∧ te σ H fun x H1 => n (ys ++ [x]) σ H1) : tGYield te ⟨n, rt, bk, ct⟩ ys σ H := h
theorem lgn {tg : TGen} (h : tg σ H fun out H2 => ∀ p, H2 p = none → Q (.ref p) (upd H2 p (.lst out))) : tListG tg σ H Q := h
theorem calg {sp : SpG} {E : XK} {tl : TA} {q : List V → Hp → Prop} (h : tl σ H fun vs H1 => sp vs H1 q E) : tCallG sp [] E tl σ H q := by
  show tl σ H fun vs H1 => sp (vs ++ []) H1 q E
  simp only [List.append_nil]; exact h
end
end HS
namespace HS
open PySem PySem.Spec PyProof.Rows L2
section
variable {H : Hp} {Q : VK} {K : PySem.W.Frag}
theorem ixZ {p : Addr} {i z : Int} {ns : List Int} (h : SqL K H p (ns.map V.int)) (h0 : 0 ≤ i) (e : ns[i.toNat]? = some z) (q : Q (.int z) H) : rIxL K (.ref p) (.int i) H Q :=
  ⟨p, ns.map V.int, i, .int z, rfl, rfl, h, at_of (j := i.toNat) (by omega) (by rw [List.getElem?_map, e]; rfl), q⟩
theorem cut_to (xs : List V) (n : Nat) : cutV xs none (some (n : Int)) = xs.take n := by
  unfold cutV
  rw [HT.sIx_none, HT.sIx_nat, List.drop_zero, Nat.sub_zero]
  rw [List.take_eq_take_iff]
  omega
theorem cut_from (xs : List V) (n : Nat) : cutV xs (some (n : Int)) none = xs.drop n := by
  unfold cutV
  rw [HT.sIx_none, HT.sIx_nat]
  rw [List.take_of_length_le (by rw [List.length_drop]; omega)]
  by_cases h : n ≤ xs.length
  · rw [Nat.min_eq_left h]
  · rw [Nat.min_eq_right (by omega), List.drop_eq_nil_of_le (Nat.le_refl _), List.drop_eq_nil_of_le (by omega)]
end
end HS
namespace HS
open PySem PySem.Spec PyProof.Rows L2
theorem Keep.any {S : Addr → Prop} {H H1 : Hp} (k : Keep (fun _ => False) H H1) : Keep S H H1 := fun a o e _ => k a o e id
theorem Keep.mono {S T : Addr → Prop} {H H1 : Hp} (k : Keep S H H1) (h : ∀ a, S a → T a) : Keep T H H1 := fun a o e n => k a o e fun z => n (h a z)
end HS
namespace HS
open PySem PySem.Spec PyProof.Rows L2
theorem cut_toI {i : Int} (ls : List Int) (h : 0 ≤ i) : cutV (ls.map V.int) none (some i) = (ls.take i.toNat).map V.int := by
  obtain ⟨n, rfl⟩ := Int.eq_ofNat_of_zero_le h
  rw [cut_to, List.map_take]; simp
theorem cut_fromI {i : Int} (ls : List Int) (h : 0 ≤ i) : cutV (ls.map V.int) (some i) none = (ls.drop i.toNat).map V.int := by
  obtain ⟨n, rfl⟩ := Int.eq_ofNat_of_zero_le h
  rw [cut_from, List.map_drop]; simp
end HS
namespace HS
theorem ifT {c : Bool} {A B : Prop} (e : c = true) (h : A) : if c = true then A else B := by rw [if_pos e]; exact h
theorem ifF {c : Bool} {A B : Prop} (e : c = false) (h : B) : if c = true then A else B := by rw [if_neg (by rw [e]; exact Bool.false_ne_true)]; exact h
end HS
namespace HS
open PySem PySem.Spec PyProof.Rows L2
/-- a new object behind what stands -/
theorem Keep.nw {H H1 : Hp} {p : Addr} {o : HO} (k : Keep (fun _ => False) H H1) (h : H1 p = none) : Keep (fun _ => False) H (upd H1 p o) := k.put (k.free h id)
theorem Keep.nwS {S : Addr → Prop} {H H1 : Hp} {p : Addr} {o : HO} (k : Keep S H H1) (h : H1 p = none) (n : ¬ S p) : Keep S H (upd H1 p o) := k.put (k.free h n)
end HS
namespace HS
theorem nt {A B : Prop} (h : B) : if (!true) = true then A else B := by rw [if_neg (show ¬ ((!true) = true) from Bool.false_ne_true)]; exact h
theorem nf {A B : Prop} (h : A) : if (!false) = true then A else B := by rw [if_pos (show (!false) = true from rfl)]; exact h
end HS
namespace HS
open PySem PySem.Spec PyProof.Rows L2
section
variable {H H' : Hp} {p x : Addr} {o u : HO}
theorem upgs (e : upd H p o = H') : H' p = some o := by rw [← e]; exact upd_same
theorem upgK (e : upd H p o = H') (h : H p = none) : Keep (fun _ => False) H H' := by rw [← e]; exact Keep.new h
end
end HS
/-! Data of ints, lists and tuples, and == of such. -/
namespace HS
open PySem PySem.Spec PyProof.Rows L2
def dInts (ns : List Int) : PyData := .list (ns.map .int)
section
variable {K : PySem.W.Frag} {H : Hp}
theorem dpAll_ints : ∀ ns : List Int, DpAll K H (ns.map V.int) (ns.map .int)
  | [] => .nil
  | n :: r => .cons (.int n) (dpAll_ints r)
theorem dp_ints {a : Addr} {ns : List Int} (h : SqL K H a (ns.map V.int)) : Dp K H (.ref a) (dInts ns) := .lst h (dpAll_ints ns)
theorem lay_ints : ∀ ns : List Int, PyData.canLayAll0 (ns.map .int) = true
  | [] => rfl
  | n :: r => by rw [List.map_cons, PyData.canLayAll0, lay_ints r]; rfl
theorem dep_ints : ∀ ns : List Int, PyData.depthAll (ns.map .int) = 0
  | [] => rfl
  | n :: r => by rw [List.map_cons, PyData.depthAll, dep_ints r]; rfl
theorem sh_ints (ns : List Int) : SeqAt.shaped (dInts ns) = true := by
  unfold SeqAt.shaped dInts
  rw [PyData.canLay0, PyData.depth, lay_ints, dep_ints]; rfl
theorem eqv_int (i j : Int) : PyData.eqv (.int i) (.int j) = decide (i = j) := by
  rw [PyData.eqv]; exact Bool.beq_eq_decide_eq i j
theorem eqvAll_ints : ∀ xs ys : List Int, PyData.eqvAll (xs.map .int) (ys.map .int) = decide (xs = ys)
  | [], [] => rfl
  | [], y :: ys => rfl
  | x :: xs, [] => rfl
  | x :: xs, y :: ys => by
    rw [List.map_cons, List.map_cons, PyData.eqvAll, eqv_int, eqvAll_ints xs ys]
    by_cases h : x = y <;> by_cases g : xs = ys <;> simp [h, g]
theorem eqv_ints (xs ys : List Int) : PyData.eqv (dInts xs) (dInts ys) = decide (xs = ys) := by
  unfold dInts; rw [PyData.eqv]; exact eqvAll_ints xs ys
/-- == and != of two lists of ints -/
theorem eqL {a b : Addr} {xs ys : List Int} {Q : VK} (h1 : SqL K H a (xs.map V.int)) (h2 : SqL K H b (ys.map V.int)) (q : Q (.bl (decide (xs = ys))) H) : rEqD K (.ref a) (.ref b) H Q :=
  ⟨_, _, dp_ints h1, dp_ints h2, sh_ints _, sh_ints _, by rw [eqv_ints]; exact q⟩
theorem neL {a b : Addr} {xs ys : List Int} {Q : VK} (h1 : SqL K H a (xs.map V.int)) (h2 : SqL K H b (ys.map V.int)) (q : Q (.bl (!decide (xs = ys))) H) : rNeD K (.ref a) (.ref b) H Q :=
  ⟨_, _, dp_ints h1, dp_ints h2, sh_ints _, sh_ints _, by rw [eqv_ints]; exact q⟩
end
end HS
/-! Rules told with the written part K by its own letter. -/
namespace HS
open PySem PySem.Spec PyProof.Rows L2
section
variable {X : Cx} (K : PySem.W.Frag)
theorem ixl (h : X.K = K := by rfl) : IxR X (rIxL K) := h ▸ ix_list
theorem ixt (h : X.K = K := by rfl) : IxR X (rIxT K) := h ▸ ix_tup
theorem sll (h : X.K = K := by rfl) : SlR X (rSlL K) := h ▸ sl_list
theorem slt (h : X.K = K := by rfl) : SlR X (rSlT K) := h ▸ sl_tup
theorem kbm {E : Expr} {T : String} {r : V → List V → Hp → VK → Prop} {to : TE} {t : TA} (p : PE X E (tBM X.K T r to t)) (h : X.K = K := by rfl) : PE X E (tBM K T r to t) := h ▸ p
theorem kbm0 {E : Expr} {T : String} {r : V → List V → Hp → VK → Prop} {to : TE} (p : PE X E (tBM0 X.K T r to)) (h : X.K = K := by rfl) : PE X E (tBM0 K T r to) := h ▸ p
theorem kil {tg l : Expr} {tl : TE} (p : PI X tg l (iList X.K tl)) (h : X.K = K := by rfl) : PI X tg l (iList K tl) := h ▸ p
theorem kit {tg l : Expr} {tl : TE} (p : PI X tg l (iTup X.K tl)) (h : X.K = K := by rfl) : PI X tg l (iTup K tl) := h ▸ p
theorem kien {tg l : Expr} {tl : TA} (p : PI X tg l (iEnum X.K tl)) (h : X.K = K := by rfl) : PI X tg l (iEnum K tl) := h ▸ p
theorem kgt {tg : Expr} {n : Nat} {t : TGs} (p : PG X tg (gTup X.K n t)) (h : X.K = K := by rfl) : PG X tg (gTup K n t) := h ▸ p
theorem keq (hu : X.A.units + 64 < cLine) (h : X.K = K := by rfl) : OpR X (compareOp .Eq) (rEqD K) := h ▸ op_eqD hu
theorem kne (hu : X.A.units + 64 < cLine) (h : X.K = K := by rfl) : OpR X (compareOp .NotEq) (rNeD K) := h ▸ op_neD hu
theorem kin (h : X.K = K := by rfl) : OpR X (compareOp .In) (rIn K false) := h ▸ op_in_seq
theorem knin (h : X.K = K := by rfl) : OpR X (compareOp .NotIn) (rIn K true) := h ▸ op_notIn_seq
theorem kcatT (h : X.K = K := by rfl) : OpR X (binaryOp .Add) (rCatT K) := h ▸ op_catT
def rLen : List V → Hp → VK → Prop := fun xs H Q => ∃ p ys, xs = [.ref p] ∧ (SqL K H p ys ∨ SqT K H p ys) ∧ Q (.int ys.length) H
def rLst : List V → Hp → VK → Prop := fun xs H Q => ∃ p ys, xs = [.ref p] ∧ (SqL K H p ys ∨ SqT K H p ys) ∧ ∀ l, H l = none → Q (.ref l) (upd H l (.lst ys))
theorem klen (h : X.K = K := by rfl) : CallR X (.builtin "len") (rLen K) := h ▸ call_len_seq
theorem klst (h : X.K = K := by rfl) : CallR X (.type "list") (rLst K) := h ▸ call_list_of
theorem ksum (hc : X.calm = true) (h : X.K = K := by rfl) : CallR X (.builtin "sum") (rSum K) := h ▸ cr_sum hc
theorem kmax (hc : X.calm = true) (h : X.K = K := by rfl) : CallR X (.builtin "max") (rMax K) := h ▸ cr_max hc
theorem kmin (hc : X.calm = true) (h : X.K = K := by rfl) : CallR X (.builtin "min") (rMin K) := h ▸ cr_min hc
theorem krev {E : Expr} {te : TE} (p : PE X E (tRevL X.K te)) (h : X.K = K := by rfl) : PE X E (tRevL K te) := h ▸ p
/-- the names of a block within a block -/
def relab (scO sc : Scope) : Scope := { scO with names := scO.names.map fun (n, k) => if (k == .free && sc.kind == .function && sc.names.lookup n == some .cell) then (n, .cell) else (n, k) }
/-- a list comprehension within a comprehension's block -/
theorem pe_lcIn {X : Cx} {s0 : Shared} {H0 : Hp} {C0 : Addr} {cl0 : List (Str × Addr)} {fp0 : List Addr} {scO : Scope} {elt tg iter : Expr} {ifs : List Expr} {scope : Scope} {own : List (Str × Nat)} {pos : Pos} {wi : TI} {g : TG} {tt : TT} {te : TE} (hc : X.calm = true) (hN : X.N.Nodup) (hi : PI (X.blk s0 H0 scO (compEnvC scO cl0 C0 X.env) fp0) tg iter wi) (sc : Scope) (hsc : X.env.scope = sc) (ok : BlkOk X.N (relab scO sc) scope own)
    (hg : ∀ (s : Shared) (H : Hp) (C : Addr) (cl : List (Str × Addr)) (fp : List Addr), PG ((X.blk s0 H0 scO (compEnvC scO cl0 C0 X.env) fp0).blk s H scope (compEnvC scope cl C (compEnvC scO cl0 C0 X.env)) fp) tg g) (ht : ∀ (s : Shared) (H : Hp) (C : Addr) (cl : List (Str × Addr)) (fp : List Addr), PTs ((X.blk s0 H0 scO (compEnvC scO cl0 C0 X.env) fp0).blk s H scope (compEnvC scope cl C (compEnvC scO cl0 C0 X.env)) fp) ifs tt)
    (he : ∀ (s : Shared) (H : Hp) (C : Addr) (cl : List (Str × Addr)) (fp : List Addr), PE ((X.blk s0 H0 scO (compEnvC scO cl0 C0 X.env) fp0).blk s H scope (compEnvC scope cl C (compEnvC scO cl0 C0 X.env)) fp) elt te) (hs : ∀ x, foldedSetIterable iter (compEnvC scO cl0 C0 X.env) x = pure x := by intro _; rfl) :
    PE (X.blk s0 H0 scO (compEnvC scO cl0 C0 X.env) fp0) (.ListComp elt [⟨tg, iter, ifs, 0⟩] scope pos) (tLc wi g tt te (own.map (·.2))) :=
  by subst hsc; exact pe_lc (X := X.blk s0 H0 scO (compEnvC scO cl0 C0 X.env) fp0) hc hN hi ok hg ht he hs
end
section
variable {σ : L2.St} {H : Hp} {Q : VK} {te : TE} {K : PySem.W.Frag}
theorem lenL {p : Addr} {ys : List V} (h : SqL K H p ys) (q : Q (.int ys.length) H) : rLen K [.ref p] H Q := ⟨p, ys, rfl, .inl h, q⟩
theorem lenT {p : Addr} {ys : List V} (h : SqT K H p ys) (q : Q (.int ys.length) H) : rLen K [.ref p] H Q := ⟨p, ys, rfl, .inr h, q⟩
theorem sumL {p : Addr} {ns : List Int} (h : SqL K H p (ns.map V.int)) (q : Q (.int ns.sum) H) : rSum K [.ref p] H Q := ⟨p, ns, rfl, h, q⟩
theorem revL (h : te σ H fun x H1 => ∃ a xs, x = .ref a ∧ SqL K H1 a xs ∧ ∀ p, H1 p = none → Q (.ref p) (upd H1 p (.lst xs.reverse))) : tRevL K te σ H Q := h
theorem sl {r : V → Option Int → Option Int → Hp → VK → Prop} {tl th : TO} (h : te σ H fun x H1 => tl σ H1 fun l H2 => th σ H2 fun u H3 => r x l u H3 Q) : tSl r te tl th σ H Q := h
theorem noP {q : Option Int → Hp → Prop} (h : q none H) : tNoPart σ H q := h
theorem part {q : Option Int → Hp → Prop} (h : te σ H fun x H1 => ∃ i, x = .int i ∧ q (some i) H1) : tPart te σ H q := h
theorem ie {a : Int} {q : Int → Prop} (h : q a) : ∃ i, V.int a = V.int i ∧ q i := ⟨a, rfl, h⟩
theorem slLs {p : Addr} {xs : List V} {lo hi : Option Int} (h : SqL K H p xs) (q : ∀ p, H p = none → Q (.ref p) (upd H p (.lst (cutV xs lo hi)))) : rSlL K (.ref p) lo hi H Q := ⟨p, xs, rfl, h, q⟩
theorem gtup {n : Nat} {t : TGs} {a : Addr} {xs : List V} {q : L2.St → Hp → Prop} (h : SqT K H a xs) (e : xs.length = n) (k : t xs σ H q) : gTup K n t (.ref a) σ H q := ⟨a, xs, rfl, h, e, k⟩
theorem gcons {t : TG} {u : TGs} {v : V} {r : List V} {q : L2.St → Hp → Prop} (h : t v σ H fun σ' H' => u r σ' H' q) : gCons t u (v :: r) σ H q := ⟨v, r, rfl, h⟩
theorem gnil {q : L2.St → Hp → Prop} (h : q σ H) : gNil [] σ H q := ⟨rfl, h⟩
theorem itup {R : It → Hp → Prop} (h : te σ H fun x H1 => ∃ a, x = .ref a ∧ (∃ xs, SqT K H1 a xs) ∧ R (Itt K a) H1) : iTup K te σ H R := h
theorem ienu {tl : TA} {R : It → Hp → Prop} (h : tl σ H fun vs H1 => ∃ a xs, vs = [.ref a] ∧ SqL K H1 a xs ∧ R (Ite K a) H1) : iEnum K tl σ H R := h
theorem cat {l b : Addr} {xs zs : List V} (h1 : H l = some (.lst xs)) (h2 : H b = some (.lst zs)) (q : xs.length + zs.length ≤ sizeLine ∧ ∀ p, H p = none → Q (.ref p) (upd H p (.lst (xs ++ zs)))) : rCat (.ref l) (.ref b) H Q := ⟨l, b, xs, zs, rfl, rfl, h1, h2, q⟩
theorem ext {l b : Addr} {xs zs : List V} (h1 : H l = some (.lst xs)) (h2 : H b = some (.lst zs)) (q : xs.length + zs.length ≤ sizeLine ∧ Q .non (upd H l (.lst (xs ++ zs)))) : rExtend (.ref l) [.ref b] H Q := ⟨l, b, xs, zs, rfl, rfl, h1, h2, q⟩
end
end HS
/-! Lists of new pairs of ints, and == of such; ranges by steps. -/
namespace HS
open PySem PySem.Spec PyProof.Rows L2
/-- the refs of vs are tuples of these pairs -/
def Prs (H : Hp) : List V → List (Int × Int) → Prop
  | [], [] => True
  | v :: vs, p :: ps => (∃ t, v = .ref t ∧ H t = some (.tup [.int p.1, .int p.2])) ∧ Prs H vs ps
  | _, _ => False
theorem Prs.keep {S : Addr → Prop} {H H' : Hp} (k : Keep S H H') : ∀ {vs : List V} {ps : List (Int × Int)}, Prs H vs ps → (∀ v ∈ vs, ∀ t, v = .ref t → ¬ S t) → Prs H' vs ps
  | [], [], h, _ => h
  | _ :: _, _ :: _, ⟨⟨t, e, o⟩, h⟩, n => ⟨⟨t, e, k t _ o (n _ List.mem_cons_self t e)⟩, h.keep k fun v hv => n v (List.mem_cons_of_mem _ hv)⟩
theorem Prs.app {H : Hp} : ∀ {vs ws : List V} {ps qs : List (Int × Int)}, Prs H vs ps → Prs H ws qs → Prs H (vs ++ ws) (ps ++ qs)
  | [], _, [], _, _, g => g
  | _ :: _, _, _ :: _, _, ⟨a, h⟩, g => ⟨a, h.app g⟩
theorem Prs.len {H : Hp} : ∀ {vs : List V} {ps : List (Int × Int)}, Prs H vs ps → vs.length = ps.length
  | [], [], _ => rfl
  | _ :: _, _ :: _, ⟨_, h⟩ => by rw [List.length_cons, List.length_cons, h.len]
def dPr (p : Int × Int) : PyData := .tuple [.int p.1, .int p.2]
def dPrs (ps : List (Int × Int)) : PyData := .list (ps.map dPr)
section
variable {K : PySem.W.Frag} {H : Hp}
theorem dpAll_prs : ∀ {vs : List V} {ps : List (Int × Int)}, Prs H vs ps → DpAll K H vs (ps.map dPr)
  | [], [], _ => .nil
  | _ :: _, p :: _, ⟨⟨t, e, o⟩, h⟩ => .cons (by rw [e]; exact .tup (st o) (.cons (.int p.1) (.cons (.int p.2) .nil))) (dpAll_prs h)
theorem lay_prs : ∀ ps : List (Int × Int), PyData.canLayAll0 (ps.map dPr) = true
  | [] => rfl
  | p :: r => by rw [List.map_cons, PyData.canLayAll0, lay_prs r]; rfl
theorem dep_prs : ∀ ps : List (Int × Int), PyData.depthAll (ps.map dPr) ≤ 2
  | [] => by simp [PyData.depthAll]
  | p :: r => by
    have h := dep_prs r
    have h2 : (dPr p).depth ≤ 2 := by simp [dPr, PyData.depth, PyData.depthAll]
    rw [List.map_cons, PyData.depthAll]; omega
theorem sh_prs (ps : List (Int × Int)) : SeqAt.shaped (dPrs ps) = true := by
  have h1 := dep_prs ps
  have h2 : PyData.depth (dPrs ps) ≤ 64 := by unfold dPrs; rw [PyData.depth]; omega
  show (PyData.canLay0 (dPrs ps) && decide (PyData.depth (dPrs ps) ≤ 64)) = true
  rw [Bool.and_eq_true]
  exact ⟨by unfold dPrs; rw [PyData.canLay0]; exact lay_prs ps, decide_eq_true h2⟩
theorem eqv_pr (p q : Int × Int) : PyData.eqv (dPr p) (dPr q) = decide (p = q) := by
  unfold dPr
  rw [PyData.eqv, PyData.eqvAll, PyData.eqvAll, PyData.eqvAll, eqv_int, eqv_int]
  obtain ⟨a, b⟩ := p
  obtain ⟨c, d⟩ := q
  by_cases h : a = c <;> by_cases g : b = d <;> simp [h, g]
theorem eqvAll_prs : ∀ xs ys : List (Int × Int), PyData.eqvAll (xs.map dPr) (ys.map dPr) = decide (xs = ys)
  | [], [] => rfl
  | [], y :: ys => rfl
  | x :: xs, [] => rfl
  | x :: xs, y :: ys => by
    rw [List.map_cons, List.map_cons, PyData.eqvAll, eqv_pr, eqvAll_prs xs ys]
    by_cases h : x = y <;> by_cases g : xs = ys <;> simp [h, g]
/-- == of two lists of pairs of ints -/
theorem eqP {a b : Addr} {vs ws : List V} {xs ys : List (Int × Int)} {Q : VK} (h1 : SqL K H a vs) (g1 : Prs H vs xs) (h2 : SqL K H b ws) (g2 : Prs H ws ys) (q : Q (.bl (decide (xs = ys))) H) : rEqD K (.ref a) (.ref b) H Q := by
  refine ⟨dPrs xs, dPrs ys, .lst h1 (dpAll_prs g1), .lst h2 (dpAll_prs g2), sh_prs _, sh_prs _, ?_⟩
  rw [show PyData.eqv (dPrs xs) (dPrs ys) = decide (xs = ys) by unfold dPrs; rw [PyData.eqv]; exact eqvAll_prs xs ys]
  exact q
end
theorem RgC.up {j c : Int} (hc : 1 ≤ c) (hc2 : c < 2 ^ 30) (h0 : 0 ≤ j) (h1 : j < 2 ^ 61) : RgC 0 j c ((j + c - 1) / c).toNat := by
  have hn : 0 ≤ (j + c - 1) / c := Int.ediv_nonneg (by omega) (by omega)
  have e : Builtin.Range.rangeSize 0 j c = (j + c - 1) / c := by
    unfold Builtin.Range.rangeSize
    rw [if_pos (by omega)]
    split
    · rw [show j + c - 1 = (j - 0 - 1) + c * 1 by omega, Int.add_mul_ediv_left _ _ (by omega)]
    · rw [show j = 0 by omega, Int.ediv_eq_zero_of_lt (by omega) (by omega)]
  have hl : (j + c - 1) / c ≤ j + c := Int.le_trans (Int.ediv_le_self _ (by omega)) (by omega)
  refine ⟨by omega, by omega, ?_, by rw [e]; omega⟩
  unfold Builtin.Range.small
  rw [e]
  simp only [Builtin.Range.rangeFitsLong, Bool.and_eq_true, Bool.or_eq_true, decide_eq_true_eq, beq_iff_eq]
  rw [if_pos (show c > 0 by omega)]
  simp only [Bool.and_eq_true, decide_eq_true_eq]
  omega
end HS
namespace HS
open PySem PySem.Spec PyProof.Rows L2
section
variable {σ : L2.St} {H : Hp}
theorem rng3 {tl : TA} {R : It → Hp → Prop} (h : tl σ H fun vs H1 => ∃ (i j c : Int) (n : Nat), vs = [.int i, .int j, .int c] ∧ RgC i j c n ∧ R (Itc i c n) H1) : iRng3 tl σ H R := h
end
end HS
namespace HS
open PySem PySem.Spec PyProof.Rows L2
theorem Prs.new {H : Hp} {p : Addr} {o : HO} (hp : H p = none) {vs : List V} {ps : List (Int × Int)} (h : Prs H vs ps) : Prs (upd H p o) vs ps :=
  h.keep (S := fun _ => False) (Keep.new hp) fun _ _ _ _ z => z
theorem Prs.same {H H' : Hp} {vs : List V} {ps : List (Int × Int)} (h : Prs H vs ps) (k : Keep (fun _ => False) H H') : Prs H' vs ps :=
  h.keep (S := fun _ => False) k fun _ _ _ _ z => z
theorem Prs.lst {H : Hp} {L : Addr} {ws : List V} (hL : H L = some (.lst ws)) : ∀ {vs : List V} {ps : List (Int × Int)}, Prs H vs ps → ∀ v ∈ vs, ∀ t, v = .ref t → t ≠ L
  | [], [], _, _, hv, _, _ => absurd hv List.not_mem_nil
  | _ :: _, _ :: _, ⟨⟨t', e', o'⟩, h⟩, v, hv, t, e => by
    rcases List.mem_cons.mp hv with hv | hv
    · subst hv
      rw [e'] at e
      have := V.ref.inj e
      subst this
      intro z
      rw [z, hL] at o'
      cases o'
    · exact h.lst hL v hv t e
theorem Prs.put {H : Hp} {L : Addr} {ws : List V} {o : HO} (hL : H L = some (.lst ws)) {vs : List V} {ps : List (Int × Int)} (h : Prs H vs ps) : Prs (upd H L o) vs ps :=
  h.keep (S := fun a => a = L) (Keep.at Keep.refl rfl) (h.lst hL)
theorem Prs.snoc {H : Hp} {vs : List V} {ps : List (Int × Int)} {t : Addr} {a b : Int} (h : Prs H vs ps) (e : H t = some (.tup [.int a, .int b])) : Prs H (vs ++ [.ref t]) (ps ++ [(a, b)]) :=
  h.app ⟨⟨t, rfl, e⟩, trivial⟩
end HS
/-! Exceptions of own classes as values: made, asked, read (own rules over HandS). -/
namespace HS
open PySem PySem.Spec PyProof.Rows L2
/-- the j-th row of a class's block -/
def inS (s : Stmt) (j : Nat) : Stmt := match s with
  | .ClassDef _ _ _ body _ _ _ _ _ _ _ => body.getD j (.Pass ⟨0, 0, 0, 0⟩)
  | s => s
/-- an own exception that stands in the heap, with its fields -/
def Exv (H : Hp) (a C : Addr) (fs : List (Str × V)) : Prop := ∃ d, H a = some (exo a C (some d)) ∧ H d = some (exd d fs)
def rIsV (K : PySem.W.Frag) : List V → Hp → VK → Prop := fun xs H Q => ∃ (a D : Addr) (fs : List (Str × V)) (c : V) (cv : Value) (b : Bool), xs = [.ref a, c] ∧ ExcC K D ∧ Exv H a D fs ∧ ClsV c cv ∧ PySem.W.kitOne K (.ref D) cv = some b ∧ Q (.bl b) H
theorem call_isV {X : Cx} : CallR X (.builtin "isinstance") (rIsV X.K) := by
  intro pins s σ H xs us Q I r hw
  obtain ⟨a, D, fs, c, cv, b, e0, T, ⟨d, ea, ed⟩, hcv, hb, q⟩ := hw
  subst e0
  match us, r with
  | [_, _], .cons rx (.cons rt .nil) =>
    cases rx
    have e1 := hcv.eq rt
    subst e1
    obtain ⟨t1, ho⟩ := exo_at I.hok ea
    obtain ⟨mA, hns, _⟩ := exd_at I.hok ed
    obtain ⟨od, hod, _⟩ := lookIn_ns hns
    obtain ⟨cd, hcd, _⟩ := PySem.W.any_some T.hd
    have here : PySem.W.InstAt s.heap a _ D (some od) := ⟨ho, rfl, rfl, hod⟩
    exact PySem.W.kia_one (PySem.W.kitx_exc (by rw [hcd]; rfl) T.hg T.hk T.hs T.ha T.hn T.ht T.hm) I.kIn here hb (fun z => nomatch z) fun tk => ⟨.bl b, H, I.kept (t' := tk) fun _ _ z => z, rfl, q⟩
/-- e.f of such an exception -/
def tFldV (K : PySem.W.Frag) (f : Str) (te : TE) : TE := fun σ H Q => te σ H fun x H1 => ∃ (a C : Addr) (fs : List (Str × V)) (v : V), x = .ref a ∧ XfC K C ∧ PySem.W.findIn K (.ref C) f = some none ∧ Exv H1 a C fs ∧ fs.lookup f = some v ∧ Q v H1
theorem pe_fldV {X : Cx} {e : Expr} {te : TE} {pos : Pos} {f : Str} (he : PE X e te) (hb : attributeBase e f X.env (eval e X.env) = eval e X.env := by rfl) : PE X (.Attribute e f pos) (tFldV X.K f te) := by
  refine ⟨fun pins s σ H Q I hw => attr_of hb (thn (he.run pins s σ H _ I hw) fun u s1 ⟨x, H1, I1, rx, a, C, fs, v, e0, T, hno, ⟨d, ea, ed⟩, l, q⟩ => ?_)⟩
  subst e0
  cases rx
  obtain ⟨t1, ho⟩ := exo_at I1.hok ea
  obtain ⟨mA, hns, hr⟩ := exd_at I1.hok ed
  obtain ⟨od, hod, hl⟩ := lookIn_ns hns
  obtain ⟨w, hw, rw'⟩ := RelO.some_of (v := v) (o := mA f) (by rw [← l]; exact hr f)
  have here : PySem.W.InstAt s1.heap a _ C (some od) := ⟨ho, rfl, rfl, hod⟩
  exact HandSPX.exc_get I1.kIn here T.ga T.gg T.exC (PySem.W.findObj_own T.hdC hno rfl (by rw [hl, hw])) (handed_of rw') ⟨v, H1, I1.tok _, rw', q⟩
/-- C(e, ..) as a value -/
def tNewV (C : Addr) (sp : Sp) (ta : TA) : TE := fun σ H Q => ta σ H fun vs H1 => vs.length ≤ 1000 ∧ ∀ a, H1 a = none → sp (.ref a :: vs) (upd H1 a (exo a C none)) (fun v H2 => v = .non ∧ Q (.ref a) H2) (fun _ _ _ => False)
section
variable {X : Cx} {CX : CXT} {x : Str} {C fI : Addr} {k : Nat} {fd : FuncData} {ps : List Str} {sp : Sp} {e : Expr} {es : List Expr} {ta : TA} {p pos : Pos}
theorem pe_newV (T : OexC X.K C) (iC : PySem.W.findIn X.K (.ref C) "__init__" = some (some (.ref fI))) (tI : PySem.W.typeIn X.K (.ref fI) = some (.type "function"))
    (F1 : FnOk X.prog X.w X.K X.mg X.base CX k fI fd ps sp) (hr : Room (k + 1) X.A) (hb : Binds X.K fd ps []) (hx : Passes CX X (fun _ _ _ => False)) (hg : Gl X x) (hm : X.mg x = some (.ref C)) (ha : PA X (e :: es) ta)
    (hdb : (x == ("__debug__" : Str)) = false := by decide) (he : starEach (e :: es) X.env = (false, eval e X.env) :: starEach es X.env := by rfl) (hpl : (backTo pos (starEach es X.env)).any (·.1) = false := by rfl) :
    PE X (.Call (.Name x p) (e :: es) [] pos) (tNewV C sp ta) := by
  refine ⟨fun pins s σ H Q I hw => wpAny_Call_Name_kw (ld_glob I hg hm ?_ hdb)⟩
  obtain ⟨nm, qn, N, bs, bm, sn, sub, ab, col, dd, k0, k1, k2, k3, k5, hC, hbm⟩ := T.cls
  refine PySem.W.callWith_K (h₀ := X.base) I.ok.mod.kin T.kC (thn (ha.run pos pins s σ H _ I hw) fun us s1 ⟨vs, H1, I1, r1, hz, q1⟩ => ⟨I1.kIn, ?_⟩) he hpl
  show wpAny _ _ (call (.ref C) us) _ _ _
  obtain ⟨hp, g, dr, tk, os⟩ := s1
  have le1 : hp.objs.size ≤ hp.objs.size + 1 := by omega
  have kept : ∀ b o, hp.get? b = some o → ((hp.push (PySem.W.kdv_tup us)).push (PySem.HandSPX.excO C hp.objs.size)).get? b = some o := fun _ _ z => Heap.get?_push_of_some _ (Heap.get?_push_of_some _ z)
  have at1 : ((hp.push (PySem.W.kdv_tup us)).push (PySem.HandSPX.excO C hp.objs.size)).get? (hp.objs.size + 1) = some (PySem.HandSPX.excO C hp.objs.size) := by heap_get
  have J : Inv X pins σ (upd H1 (hp.objs.size + 1) (exo (hp.objs.size + 1) C none)) ⟨(hp.push (PySem.W.kdv_tup us)).push (PySem.HandSPX.excO C hp.objs.size), g, dr, tk, os⟩ := I1.laid (t' := tk) kept le1 (exo_ok at1)
  have q2 := q1 (hp.objs.size + 1) (I1.hok.fresh le1)
  have r2 : Vals (V.ref (hp.objs.size + 1) :: vs) (Value.ref (hp.objs.size + 1) :: us) := .cons rfl r1
  have len2 : (Value.ref (hp.objs.size + 1) :: us).length = ps.length := r2.length.symm.trans (F1.len _ _ _ _ q2)
  have small : us.length ≤ sizeLine := by have := Paired.length r1; rw [sizeLine_eq]; omega
  have bnd := hb _ (Value.ref (hp.objs.size + 1) :: us) J.kIn (by simpa using len2)
  refine wpAny_call (PySem.HandSPX.call_own F.excBase_ValueError (fun Y => PySem.HandSPX.refsVE_contains Y bm hbm) (I1.kIn _ _ hC) (PySem.W.looks_findIn I1.kIn iC) (fun self => PySem.W.bind_fn I1.kIn self tI) small
    (codeAny_mono (F1.run _ X.stack _ _ ⟨Value.ref (hp.objs.size + 1) :: us, []⟩ _ _ _ _ (hr.make C us []) (J.env0.make C us []) bnd (by simpa using r2) q2) fun r s' back => ?_))
  match r, back with
  | .error er, back => exact hx pins σ _ _ er s' J back
  | .ok (.ret u), back =>
    obtain ⟨v, H', J', rv, ev, q3⟩ := J.after back
    subst ev
    exact ⟨rv, ⟨V.ref (hp.objs.size + 1), H', J', rfl, q3⟩⟩
end
section
variable {σ : L2.St} {H : Hp} {Q : VK} {te to : TE} {ta : TA} {K : PySem.W.Frag} {n bk ct : L2.St → Hp → Prop} {rt : VK} {f : Str} {C : Addr} {sp : Sp}
theorem ost (h : te σ H fun y H1 => to σ H1 fun x H2 => ∃ a C : Addr, x = .ref a ∧ OexC K C ∧ PySem.W.findIn K (.ref C) f = some none ∧
  ((H2 a = some (exo a C none) ∧ ∀ dx, H2 dx = none → dx ≠ a → n σ (upd (upd H2 dx (exd dx [(f, y)])) a (exo a C (some dx)))) ∨
    ∃ (dx : Addr) (fs : List (Str × V)), H2 a = some (exo a C (some dx)) ∧ H2 dx = some (exd dx fs) ∧ fs.length ≤ 900 ∧ n σ (upd H2 dx (exd dx ((f, y) :: fs))))) : tOst K f to te ⟨n, rt, bk, ct⟩ σ H := h
theorem fldV (h : te σ H fun x H1 => ∃ (a C : Addr) (fs : List (Str × V)) (v : V), x = .ref a ∧ XfC K C ∧ PySem.W.findIn K (.ref C) f = some none ∧ Exv H1 a C fs ∧ fs.lookup f = some v ∧ Q v H1) : tFldV K f te σ H Q := h
theorem newV (h : ta σ H fun vs H1 => vs.length ≤ 1000 ∧ ∀ a, H1 a = none → sp (.ref a :: vs) (upd H1 a (exo a C none)) (fun v H2 => v = .non ∧ Q (.ref a) H2) (fun _ _ _ => False)) : tNewV C sp ta σ H Q := h
end
end HS
namespace HS
open PySem PySem.Spec PyProof.Rows L2
/-- the refs of vs are tuples of these two values -/
def PrV (H : Hp) : List V → List (V × V) → Prop
  | [], [] => True
  | v :: vs, p :: ps => (∃ t, v = .ref t ∧ H t = some (.tup [p.1, p.2])) ∧ PrV H vs ps
  | _, _ => False
theorem PrV.keep {S : Addr → Prop} {H H' : Hp} (k : Keep S H H') : ∀ {vs : List V} {ps : List (V × V)}, PrV H vs ps → (∀ v ∈ vs, ∀ t, v = .ref t → ¬ S t) → PrV H' vs ps
  | [], [], h, _ => h
  | _ :: _, _ :: _, ⟨⟨t, e, o⟩, h⟩, n => ⟨⟨t, e, k t _ o (n _ List.mem_cons_self t e)⟩, h.keep k fun v hv => n v (List.mem_cons_of_mem _ hv)⟩
theorem PrV.same {H H' : Hp} {vs : List V} {ps : List (V × V)} (h : PrV H vs ps) (k : Keep (fun _ => False) H H') : PrV H' vs ps :=
  h.keep k fun _ _ _ _ z => z
theorem PrV.len {H : Hp} : ∀ {vs : List V} {ps : List (V × V)}, PrV H vs ps → vs.length = ps.length
  | [], [], _ => rfl
  | _ :: _, _ :: _, ⟨_, h⟩ => by rw [List.length_cons, List.length_cons, h.len]
theorem PrV.at {H : Hp} : ∀ {vs : List V} {ps : List (V × V)} {i : Nat} {v : V}, PrV H vs ps → vs[i]? = some v → ∃ t p, v = .ref t ∧ ps[i]? = some p ∧ H t = some (.tup [p.1, p.2])
  | [], [], i, _, _, e => by cases i <;> cases e
  | x :: _, p :: _, 0, v, ⟨⟨t, e', o⟩, _⟩, e => ⟨t, p, by rw [← Option.some.inj e]; exact e', rfl, o⟩
  | _ :: vs, _ :: ps, i + 1, v, ⟨_, h⟩, e => h.at (i := i) (by rw [List.getElem?_cons_succ] at e; exact e)
end HS
namespace HS
open PySem PySem.Spec PyProof.Rows L2
theorem kisV {X : Cx} (K : PySem.W.Frag) (h : X.K = K := by rfl) : CallR X (.builtin "isinstance") (rIsV K) := h ▸ call_isV
theorem kisi {X : Cx} (K : PySem.W.Frag) (h : X.K = K := by rfl) : CallR X (.builtin "isinstance") (rIsi K) := h ▸ call_isi
section
variable {K : PySem.W.Frag} {H H' : Hp} {Q : VK} {a D C p : Addr} {fs : List (Str × V)} {b : Bool} {o : HO}
theorem Exv.same (h : Exv H a C fs) (k : Keep (fun _ => False) H H') : Exv H' a C fs := by
  obtain ⟨d, e1, e2⟩ := h
  exact ⟨d, k _ _ e1 id, k _ _ e2 id⟩
theorem Exv.new (h : Exv H a C fs) (hp : H p = none) : Exv (upd H p o) a C fs := h.same (Keep.new hp)
theorem isV (T : ExcC K D) (he : Exv H a D fs) (hq : PySem.W.kitOne K (.ref D) (.ref C) = some b) (q : Q (.bl b) H) : rIsV K [.ref a, .ref C] H Q := ⟨a, D, fs, _, _, b, rfl, T, he, .own C, hq, q⟩
theorem isVt {n : String} (T : ExcC K D) (he : Exv H a D fs) (hq : PySem.W.kitOne K (.ref D) (.type n) = some b) (q : Q (.bl b) H) : rIsV K [.ref a, .ty n] H Q := ⟨a, D, fs, _, _, b, rfl, T, he, .ty n, hq, q⟩
end
end HS
namespace HS
open PySem PySem.Spec PyProof.Rows L2
theorem PrV.app {H : Hp} : ∀ {vs ws : List V} {ps qs : List (V × V)}, PrV H vs ps → PrV H ws qs → PrV H (vs ++ ws) (ps ++ qs)
  | [], _, [], _, _, g => g
  | _ :: _, _, _ :: _, _, ⟨a, h⟩, g => ⟨a, h.app g⟩
theorem PrV.new {H : Hp} {p : Addr} {o : HO} {vs : List V} {ps : List (V × V)} (h : PrV H vs ps) (hp : H p = none) : PrV (upd H p o) vs ps := h.same (Keep.new hp)
section
variable {H : Hp} {t0 t1 l : Addr} {x0 y0 x1 y1 : V}
theorem pair2 (h0 : H t0 = none) (h1 : upd H t0 (.tup [x0, y0]) t1 = none) (h2 : upd (upd H t0 (.tup [x0, y0])) t1 (.tup [x1, y1]) l = none) :
    ∃ H1, upd (upd (upd H t0 (.tup [x0, y0])) t1 (.tup [x1, y1])) l (.lst [.ref t0, .ref t1]) = H1 ∧ Keep (fun _ => False) H H1 ∧ PrV H1 [.ref t0, .ref t1] [(x0, y0), (x1, y1)] ∧ H1 l = some (.lst [.ref t0, .ref t1]) := by
  have n1 : t0 ≠ t1 := ne_of_none upd_same h1
  have e0 : upd (upd H t0 (.tup [x0, y0])) t1 (.tup [x1, y1]) t0 = some (.tup [x0, y0]) := by rw [upd_ne n1]; exact upd_same
  have e1 : upd (upd H t0 (.tup [x0, y0])) t1 (.tup [x1, y1]) t1 = some (.tup [x1, y1]) := upd_same
  refine ⟨_, rfl, (Keep.new h0).trans ((Keep.new h1).trans (Keep.new h2)), ⟨⟨t0, rfl, ?_⟩, ⟨t1, rfl, ?_⟩, trivial⟩, upd_same⟩
  · rw [upd_ne (ne_of_none e0 h2)]; exact e0
  · rw [upd_ne (ne_of_none e1 h2)]; exact e1
theorem pair1 (h0 : H t0 = none) (h2 : upd H t0 (.tup [x0, y0]) l = none) :
    ∃ H1, upd (upd H t0 (.tup [x0, y0])) l (.lst [.ref t0]) = H1 ∧ Keep (fun _ => False) H H1 ∧ PrV H1 [.ref t0] [(x0, y0)] ∧ H1 l = some (.lst [.ref t0]) := by
  refine ⟨_, rfl, (Keep.new h0).trans (Keep.new h2), ⟨⟨t0, rfl, ?_⟩, trivial⟩, upd_same⟩
  rw [upd_ne (ne_of_none upd_same h2)]; exact upd_same
end
end HS
namespace HS
open PySem PySem.Spec PyProof.Rows L2
theorem Keep.over {H H' : Hp} {a : Addr} {o : HO} (k : Keep (fun x => x = a) (upd H a o) H') (h : H a = none) : Keep (fun _ => False) H H' := fun p u e _ => by
  have n := ne_of_none e h
  exact k p u (by rw [upd_ne n]; exact e) n
end HS
namespace HS
open PySem PySem.Spec PyProof.Rows L2
/-- the same by the law's own look: leaves, lists and tuples of such -/
inductive SmV (K : PySem.W.Frag) (H : Hp) : Nat → V → V → Prop
  | non {n : Nat} : SmV K H n .non .non
  | bl {n : Nat} (b : Bool) : SmV K H n (.bl b) (.bl b)
  | int {n : Nat} (i : Int) : SmV K H n (.int i) (.int i)
  | str {n : Nat} (x : Str) : SmV K H n (.str x) (.str x)
  | lst {n : Nat} {a b : Addr} {xs ys : List V} : H a = some (.lst xs) → H b = some (.lst ys) → xs.length = ys.length → xs.length ≤ 1000 → (∀ (i : Nat) (x y : V), xs[i]? = some x → ys[i]? = some y → SmV K H n x y) → SmV K H (n + 1) (.ref a) (.ref b)
  | tup {n : Nat} {a b : Addr} {xs ys : List V} : H a = some (.tup xs) → H b = some (.tup ys) → xs.length = ys.length → xs.length ≤ 1000 → (∀ (i : Nat) (x y : V), xs[i]? = some x → ys[i]? = some y → SmV K H n x y) → SmV K H (n + 1) (.ref a) (.ref b)
theorem SmV.same {K : PySem.W.Frag} {H H' : Hp} (k : Keep (fun _ => False) H H') : ∀ {n : Nat} {x y : V}, SmV K H n x y → SmV K H' n x y
  | _, _, _, .non => .non
  | _, _, _, .bl b => .bl b
  | _, _, _, .int i => .int i
  | _, _, _, .str x => .str x
  | _, _, _, .lst h1 h2 h3 h4 h => .lst (k _ _ h1 id) (k _ _ h2 id) h3 h4 fun i x y e1 e2 => (h i x y e1 e2).same k
  | _, _, _, .tup h1 h2 h3 h4 h => .tup (k _ _ h1 id) (k _ _ h2 id) h3 h4 fun i x y e1 e2 => (h i x y e1 e2).same k
/-- x[i] of a list or a tuple -/
def rIxA (K : PySem.W.Frag) : R2 := fun x y H Q => rIxL K x y H Q ∨ rIxT K x y H Q
theorem ixa {X : Cx} (K : PySem.W.Frag) (h : X.K = K := by rfl) : IxR X (rIxA K) := fun value slice pins s σ H x y v u Q I rx ry r =>
  r.elim (fun r => ixl K h value slice pins s σ H x y v u Q I rx ry r) fun r => ixt K h value slice pins s σ H x y v u Q I rx ry r
section
variable {K : PySem.W.Frag} {H : Hp} {Q : VK}
theorem isi {x : V} {m n : String} (b : Bool) (ty : TyX K H x (.type m)) (hq : kitB m n = some b) (q : Q (.bl b) H) : rIsi K [x, .ty n] H Q := ⟨x, _, _, _, b, rfl, .ty n, ty, kit_ty hq, q⟩
theorem isN {x : V} (q : Q (.bl (decide (x = .non))) H) : (fun x y H Q => y = V.non ∧ Q (.bl (decide (x = .non))) H : R2) x .non H Q := ⟨rfl, q⟩
theorem eqS {x y : V} (hs : scal x y = true) (e : x = y) (q : Q (.bl true) H) : rEq x y H Q := ⟨hs, by rw [decide_eq_true e]; exact q⟩
theorem neB {b c : Bool} (q : Q (.bl (!decide (b = c))) H) : rNe (.bl b) (.bl c) H Q := ⟨rfl, by
  have e : decide (V.bl b = V.bl c) = decide (b = c) := by cases b <;> cases c <;> rfl
  rw [e]; exact q⟩
theorem kb_bb : kitB "bool" "bool" = some true := by decide +kernel
theorem kb_ib : kitB "int" "bool" = some false := by decide +kernel
theorem kb_ii : kitB "int" "int" = some true := by decide +kernel
theorem kb_sb : kitB "str" "bool" = some false := by decide +kernel
theorem kb_si : kitB "str" "int" = some false := by decide +kernel
theorem kb_ss : kitB "str" "str" = some true := by decide +kernel
theorem kb_lb : kitB "list" "bool" = some false := by decide +kernel
theorem kb_li : kitB "list" "int" = some false := by decide +kernel
theorem kb_ls : kitB "list" "str" = some false := by decide +kernel
theorem kb_ll : kitB "list" "list" = some true := by decide +kernel
theorem kb_lt : kitB "list" "tuple" = some false := by decide +kernel
theorem kb_tb : kitB "tuple" "bool" = some false := by decide +kernel
theorem kb_ti : kitB "tuple" "int" = some false := by decide +kernel
theorem kb_ts : kitB "tuple" "str" = some false := by decide +kernel
theorem kb_tl : kitB "tuple" "list" = some false := by decide +kernel
theorem kb_tt : kitB "tuple" "tuple" = some true := by decide +kernel
end
end HS
/-! An own exception class called with keywords. -/
namespace PySem
namespace HSK
open HandSPX Builtin Builtin.ObjectAttr
section
variable {prog : Program} {w : World} {A : Around} {E : Value → Shared → Prop} {R : Result → Shared → Prop} {h : Heap} {g : Array GenState} {d : Drawn} {t : Nat} {os : OsState} {kw : List (Str × Value)} {fI : Addr}
variable {nm q : Str} {C N : Addr} {bs bm bmB : List Value} {hdct : Bool} {sn : List Str} {sub : List Value} {ab : Bool} {col : Option Bool} {dd : Option Addr} {k0 k1 k2 k3 k5 : Option Value} {B newId initId : String}
theorem kw_check_new {M : Model} (F : ExcBaseFacts B newId initId bmB) (hT : ∀ X : String, bm.contains (.type X) = bmB.contains (.type X)) {Q : Unit → Shared → Prop} (hC : h.get? C = some (excClassObj nm q C N bs bm hdct sn sub ab col dd k0 k1 k2 k3 k5 newId)) (z : Q () ⟨h, g, d, t, os⟩) :
    wpAny M A (checkBuiltinCall newId ⟨[.ref C], kw⟩) Q E ⟨h, g, d, t, os⟩ := by
  have inB : (Value.ref C :: bm).contains (.type B) = true := by rw [List.contains_cons, hT, F.hasB, Bool.or_true]
  have star := F.noStar
  simp only [checkBuiltinCall, F.newKind, F.newSplit, F.newRow]
  repeat (first | refine wpAny_loadPart_at hC ?_ | (refine wpAny_isSubtype_exc hC ?_; rw [inB]) | refine wpAny_staticBase_exc hC ?_ | refine wpAny_madeBy_exc hC ?_ | simp only [bne_self_eq_false, Bool.false_eq_true, if_false] | wp_step)
  exact z
theorem kw_new (F : ExcBaseFacts B newId initId bmB) (hT : ∀ X : String, bm.contains (.type X) = bmB.contains (.type X)) (hC : h.get? C = some (excClassObj nm q C N bs bm hdct sn sub ab col dd k0 k1 k2 k3 k5 newId))
    (z : R (.ok (.ret (.ref (h.objs.size + 1)))) ⟨(h.push (W.kdv_tup [])).push (excO C h.objs.size), g, d, t, os⟩) : codeAny (model prog w) A (.builtin newId ⟨[.ref C], kw⟩) R ⟨h, g, d, t, os⟩ := by
  have ends := F.ends
  have inB : (Value.ref C :: bm).contains (.type B) = true := by rw [List.contains_cons, hT, F.hasB, Bool.or_true]
  have noA : (Value.ref C :: bm).contains (.type "AttributeError") = false := by rw [List.contains_cons, hT, F.noAttr]; rfl
  have noN : (Value.ref C :: bm).contains (.type "NameError") = false := by rw [List.contains_cons, hT, F.noName]; rfl
  have tiny : ([] : List Value).length ≤ sizeLine := Nat.zero_le _
  refine codeAny_builtinAt F.entry ?_
  unfold Builtin.«BaseException.__new__»
  refine wpAt_bind ?_
  show wpAt _ _ _ (stack >>= _) _ _ _
  refine wpAt_bind (wpAt_stack fun p below => wpAt_of_wpAny ?_)
  wp_walk
  refine wpAt_of_wpAny ?_
  rw [F.owner]
  repeat (first | with_reducible refine wpAny_madeHere_exc F.canon hC ?_ | with_reducible refine wpAny_loadPart_at hC ?_ | (with_reducible refine wpAny_isSubtype_exc hC ?_; first | rw [inB] | rw [noA] | rw [noN]) | wp_step)
  show R _ _
  rw [Heap.size_push]
  exact z
theorem kw_type_call (F : ExcBaseFacts B newId initId bmB) (hT : ∀ X : String, bm.contains (.type X) = bmB.contains (.type X)) {Q : Fin → Shared → Prop} (hC : h.get? C = some (excClassObj nm q C N bs bm hdct sn sub ab col dd k0 k1 k2 k3 k5 newId))
    (li : W.Looks (model prog w) h (typeLookup (.ref C) "__init__") (some (.ref fI))) (lb : ∀ self, W.Looks (model prog w) h (bindSpecial (.ref fI) self) (.ref fI, [self]))
    (run : codeAny (model prog w) A (.call (.ref fI) ⟨[.ref (h.objs.size + 1)], kw⟩) (fun r s' => match r with | .ok (.ret v) => v = .none ∧ Q (.done (.ret (.ref (h.objs.size + 1)))) s' | .ok _ => False | .error e => E e s')
      ⟨(h.push (W.kdv_tup [])).push (excO C h.objs.size), g, d, t, os⟩) : wpAny (model prog w) A (Builtin.«type.__call__» ⟨[.ref C], kw⟩) Q E ⟨h, g, d, t, os⟩ := by
  repeat (first | with_reducible refine wpAny_loadPart_at hC ?_ | with_reducible refine wpAny_madeBy_exc hC ?_ | wp_step)
  refine codeAny_call_builtin_code (Code.quiet_builtin _ F.quiet) (kw_check_new F hT hC (kw_new F hT hC ?_))
  have up : ∀ b o, h.get? b = some o → ((h.push (W.kdv_tup [])).push (excO C h.objs.size)).get? b = some o := fun _ _ y => Heap.get?_push_of_some _ (Heap.get?_push_of_some _ y)
  have hC2 := up _ _ hC
  have hE : ((h.push (W.kdv_tup [])).push (excO C h.objs.size)).get? (h.objs.size + 1) = some (excO C h.objs.size) := by heap_get
  have isC : (Value.ref C :: bm).contains (.ref C) = true := by simp
  have li2 := li.keeps up
  have lb2 := (lb (.ref (h.objs.size + 1))).keeps up
  show wpAny _ _ _ _ _ _
  unfold isInstance
  repeat (first | with_reducible refine wpAny_loadPart_at hE ?_ | (with_reducible refine wpAny_isSubtype_exc hC2 ?_; rw [isC]) | wp_step)
  show wpAny _ _ (typeLookup (.ref C) _) _ _ _
  refine li2.at (wpAny_holding (wpAny_bind (lb2.at (wpAny_bind (wpAny_call (codeAny_mono run fun r s' y => ?_))))))
  rcases r with e | (v | _ | _ | _) <;> first | exact y | exact y.elim | skip
  obtain ⟨y0, y⟩ := y
  subst y0
  first
    | exact wpAny_pure (wpAny_pure y)
    | (wp_walk; exact y)
theorem kw_call (F : ExcBaseFacts B newId initId bmB) (hT : ∀ X : String, bm.contains (.type X) = bmB.contains (.type X)) (hC : h.get? C = some (excClassObj nm q C N bs bm hdct sn sub ab col dd k0 k1 k2 k3 k5 newId))
    (li : W.Looks (model prog w) h (typeLookup (.ref C) "__init__") (some (.ref fI))) (lb : ∀ self, W.Looks (model prog w) h (bindSpecial (.ref fI) self) (.ref fI, [self]))
    (run : codeAny (model prog w) (A.under (.builtin "type.__call__" ⟨[.ref C], kw⟩)) (.call (.ref fI) ⟨[.ref (h.objs.size + 1)], kw⟩) (W.InitBack (h.objs.size + 1) R) ⟨(h.push (W.kdv_tup [])).push (excO C h.objs.size), g, d, t, os⟩) :
    codeAny (model prog w) A (.call (.ref C) ⟨[], kw⟩) R ⟨h, g, d, t, os⟩ := by
  have c1 := tc_lookup
  have c2 := tc_bind (.ref C)
  have ty : (⟨h, g, d, t, os⟩ : Shared).TypeIs (.ref C) "type" := ⟨_, hC, rfl⟩
  refine codeAny_of_tree ?_
  show wpAny _ _ (callAny (.ref C) _) _ _ _
  repeat (any_goals (first | assumption | with_reducible refine wpAny_loadPart_at hC ?_ | wp_step))
  refine ⟨rfl, codeAny_call_builtin_at (Code.quiet_builtin _ (by decide +kernel)) entry_typeCall (wpAny_check_type_call_sub hC (kw_type_call F hT hC li lb ?_))⟩
  refine codeAny_mono run fun r s' y => ?_
  rcases r with e | (v | _ | _ | _) <;> exact y
end
end HSK
end PySem
namespace HS
open PySem PySem.Spec PyProof.Rows L2
/-- C(k = v) as a value -/
def tNewK (C : Addr) (n : Nat) (sp : Sp) (gV : List V → List V → List V) (tk : TA) : TE := fun σ H Q => tk σ H fun zs H1 => zs.length = n ∧ ∀ a, H1 a = none → sp (gV [.ref a] zs) (upd H1 a (exo a C none)) (fun v H2 => v = .non ∧ Q (.ref a) H2) (fun _ _ _ => False)
section
variable {X : Cx} {CX : CXT} {x : Str} {C fI : Addr} {k : Nat} {fd : FuncData} {ps ks : List Str} {sp : Sp} {kws : List Keyword} {tk : TA} {p pos : Pos} {g : List Value → List Value → List Value} {gV : List V → List V → List V}
theorem pe_newK (T : OexC X.K C) (iC : PySem.W.findIn X.K (.ref C) "__init__" = some (some (.ref fI))) (tI : PySem.W.typeIn X.K (.ref fI) = some (.type "function"))
    (F1 : FnOk X.prog X.w X.K X.mg X.base CX k fI fd ps sp) (hr : Room (k + 1) X.A) (hb : KBn X.K fd ps 1 ks g gV) (hx : Passes CX X (fun _ _ _ => False)) (hg : Gl X x) (hm : X.mg x = some (.ref C)) (hkw : PK X kws tk)
    (hall : (backToKw pos (keywordEach kws X.env)).all (·.1.isSome) = true := by rfl) (hks : (backToKw pos (keywordEach kws X.env)).filterMap (·.1) = ks := by rfl) (hdb : (x == ("__debug__" : Str)) = false := by decide)
    (hpl : ((backTo pos (starEach [] X.env)).any (·.1) || (backToKw pos (keywordEach kws X.env)).any (·.1.isNone)) = false := by rfl) : PE X (.Call (.Name x p) [] kws pos) (tNewK C ks.length sp gV tk) := by
  refine ⟨fun pins s σ H Q I hw => wpAny_Call_Name_kw (ld_glob I hg hm (PySem.W.callWith_KW0 (h₀ := X.base) I.ok.mod.kin T.kC hall (thn (hkw.run pos pins s σ H _ I hw) fun ws s1 ⟨zs, H1, I1, rz, lz, q1⟩ => ⟨I1.kIn, ?_⟩) hpl) hdb)⟩
  obtain ⟨nm, qn, N, bs, bm, sn, sub, ab, col, dd, k0, k1, k2, k3, k5, hC, hbm⟩ := T.cls
  rw [hks]
  obtain ⟨hp, g0, dr, t, os⟩ := s1
  have le1 : hp.objs.size ≤ hp.objs.size + 1 := by omega
  have kept : ∀ b o, hp.get? b = some o → ((hp.push (PySem.W.kdv_tup [])).push (PySem.HandSPX.excO C hp.objs.size)).get? b = some o := fun _ _ z => Heap.get?_push_of_some _ (Heap.get?_push_of_some _ z)
  have at1 : ((hp.push (PySem.W.kdv_tup [])).push (PySem.HandSPX.excO C hp.objs.size)).get? (hp.objs.size + 1) = some (PySem.HandSPX.excO C hp.objs.size) := by heap_get
  have J : Inv X pins σ (upd H1 (hp.objs.size + 1) (exo (hp.objs.size + 1) C none)) ⟨(hp.push (PySem.W.kdv_tup [])).push (PySem.HandSPX.excO C hp.objs.size), g0, dr, t, os⟩ := I1.laid (t' := t) kept le1 (exo_ok at1)
  have q2 := q1 (hp.objs.size + 1) (I1.hok.fresh le1)
  have r1 : Vals [V.ref (hp.objs.size + 1)] [Value.ref (hp.objs.size + 1)] := .cons rfl .nil
  have bnd := hb.to _ [Value.ref (hp.objs.size + 1)] ws J.kIn rfl (rz.length.symm.trans lz)
  refine wpAny_call (PySem.HSK.kw_call F.excBase_ValueError (fun Y => PySem.HandSPX.refsVE_contains Y bm hbm) (I1.kIn _ _ hC) (PySem.W.looks_findIn I1.kIn iC) (fun self => PySem.W.bind_fn I1.kIn self tI)
    (codeAny_mono (F1.run _ X.stack _ _ ⟨[Value.ref (hp.objs.size + 1)], ks.zip ws⟩ _ _ _ _ (hr.make C [] (ks.zip ws)) (J.env0.make C [] (ks.zip ws)) bnd (hb.rel r1 rz) q2) fun r s' back => ?_))
  match r, back with
  | .error er, back => exact hx pins σ _ _ er s' J back
  | .ok (.ret u), back =>
    obtain ⟨v, H', J', rv, ev, q3⟩ := J.after back
    subst ev
    exact ⟨rv, ⟨V.ref (hp.objs.size + 1), H', J', rfl, q3⟩⟩
end
section
variable {σ : L2.St} {H : Hp} {Q : VK} {C : Addr} {sp : Sp} {m : Nat} {gV : List V → List V → List V} {tk : TA}
theorem newK (h : tk σ H fun zs H1 => zs.length = m ∧ ∀ a, H1 a = none → sp (gV [.ref a] zs) (upd H1 a (exo a C none)) (fun v H2 => v = .non ∧ Q (.ref a) H2) (fun _ _ _ => False)) : tNewK C m sp gV tk σ H Q := h
end
end HS
namespace HS
open PySem PySem.Spec PyProof.Rows L2
/-! ### own exceptions that are raised and caught -/
section
variable {C a : Addr} {sp : Sp} {dvs : List V} {ta : TA} {te : TE} {σ : L2.St} {H H1 H2 : Hp} {R : XK} {Q : VK} {d : Addr} {u o : HO}
theorem mkO (h : ta σ H fun vs H1 => vs.length ≤ 1000 ∧ ∀ a, H1 a = none → sp (.ref a :: (vs ++ dvs)) (upd H1 a (exo a C none))
    (fun v H2 => v = .non ∧ ∃ (d : Addr) (fs : List (Str × V)), H2 a = some (exo a C (some d)) ∧ H2 d = some (exd d fs) ∧ H1 d = none ∧ R (.ref C) (some d) (upd (del H2 a) d (.xd fs))) (fun _ _ _ => False)) : tMkO C sp dvs ta σ H R := h
theorem callS {E : L2.St → XK} (h : ta σ H fun vs H1 => sp vs H1 Q (E σ)) : tCallS sp E ta σ H Q := h
theorem xf {cls : Value} {dx : Option Addr} {f : Str} (h : te σ H fun x H1 => x = .ref a ∧ cls = .ref C ∧ ∃ (dd : Addr) (fs : List (Str × V)) (v : V), dx = some dd ∧ H1 dd = some (.xd fs) ∧ fs.lookup f = some v ∧ Q v H1) : tXf a cls dx C f te σ H Q := h
/-- what stood ahead of the new exception a stands, and its dict at d besides -/
theorem Keep.exc (k : Keep (fun x => x = a) (upd H a o) H2) (ha : H a = none) (hd : H d = none) : Keep (fun _ => False) H (upd (del H2 a) d u) := fun b q e _ => by
  have hba : b ≠ a := ne_of_none e ha
  rw [upd_ne (ne_of_none e hd)]
  show (if b = a then none else H2 b) = some q
  rw [if_neg hba]
  exact k b q (by rw [upd_ne hba]; exact e) hba
/-- one value, put into a new exception whose maker holds the usual promise -/
theorem mk1 {K : PySem.W.Frag} {w : V}
    (hsp : ∀ (H' : Hp) (Q' : VK) (E' : XK) (b : Addr), OexC K C → PySem.W.findIn K (.ref C) "value" = some none → H' b = some (exo b C none) →
      (∀ H3 d, HS.Keep (fun x => x = b) H' H3 → H' d = none → d ≠ b → H3 b = some (exo b C (some d)) → H3 d = some (exd d [("value", w)]) → Q' .non H3) → sp [.ref b, w] H' Q' E')
    (T1 : OexC K C) (hv : PySem.W.findIn K (.ref C) "value" = some none)
    (h : ∀ H' d, Keep (fun _ => False) H H' → H d = none → H' d = some (.xd [("value", w)]) → R (.ref C) (some d) H') :
    [w].length ≤ 1000 ∧ ∀ a, H a = none → sp (.ref a :: ([w] ++ [])) (upd H a (exo a C none))
      (fun v H2 => v = .non ∧ ∃ (d : Addr) (fs : List (Str × V)), H2 a = some (exo a C (some d)) ∧ H2 d = some (exd d fs) ∧ H d = none ∧ R (.ref C) (some d) (upd (del H2 a) d (.xd fs))) (fun _ _ _ => False) :=
  ⟨show 1 ≤ 1000 by decide, fun a ha => hsp _ _ _ a T1 hv upd_same fun H3 d k hd hne e1 e2 =>
    have hd' : H d = none := by rw [upd_ne hne] at hd; exact hd
    ⟨rfl, d, _, e1, e2, hd', h _ d (k.exc ha hd') hd' upd_same⟩⟩
end
end HS
/-! Defs that are called while nothing is being shown (no repr stands on the stack), so that they may call repr of a list. -/
namespace HS
open PySem PySem.Spec PyProof.Rows L2
/-- a def's promise where no repr is under way -/
structure FnG (Pg : Program) (wd : World) (K : PySem.W.Frag) (mg : Str → Option Value) (base : Heap) (C : CXT) (n : Nat) (f : Addr) (fd : FuncData) (ps : List Str) (sp : Sp) : Prop where
  len : ∀ vs H Q E, sp vs H Q E → vs.length = ps.length
  go : ∀ (B : Around) (o : List Env) (s : Shared) (H : Hp) (ar : Args) (us : List Value) (vs : List V) (Q : VK) (E : XK), B.guards = some [] → Room n B → Env0 Pg wd K mg base B o s H →
    BindsTo s fd ar (ps.zip us) → Vals vs us → sp vs H Q E → codeAny (model Pg wd) B (.call (.ref f) ar) (CR C o Pg wd H s Q E) s
section
variable {Pg : Program} {wd : World} {K : PySem.W.Frag} {mg : Str → Option Value} {base : Heap} {C : CXT} {n : Nat} {f : Addr} {fd : FuncData} {ps : List Str} {sp : Sp}
/-- a finished body's end is the call's end -/
theorem g_end {N : List Str} {q : Str} {sc : Scope} {cd : Value} {B : Around} {o : List Env} {s : Shared} {H : Hp} {E : XK} {Q : VK} {x : Cx} (hx : x = cxOf C Pg wd K mg base N q sc f cd B o s H E) (fl : Flow) {s' : Shared} :
    SP x [] { nx := fun _ H' => Q .non H', rt := Q } fl s' → CR C o Pg wd H s Q E (.ok (.ret (match fl with | .ret v => v | _ => .none))) s' := by
  subst hx
  intro h
  cases fl
  case ret u => obtain ⟨v, st, H', J, rv, y⟩ := h; exact ⟨v, H', J.os, J.bare, J.base, J.hok, rv, y⟩
  case next => obtain ⟨st, H', J, y⟩ := h; exact ⟨.non, H', J.os, J.bare, J.base, J.hok, rfl, y⟩
  all_goals exact h.elim fun _ z => z.elim fun _ z => z.2.elim
theorem Fun.okG {x qn : Str} {st : Stmt} {N : List Str} (F : L2.Fun K x qn st f fd) (S : FnScope N ps (defScope st)) (len : ∀ vs H Q E, sp vs H Q E → vs.length = ps.length)
    (hb : ∀ (cd : Value) (B : Around) (o : List Env) (s : Shared) (H : Hp) (vs : List V) (Q : VK) (E : XK), B.guards = some [] → Room n (B.deeper (envOfC qn (defScope st) s.heap.objs.size f cd)) → sp vs H Q E →
      ∃ t, PSs (cxOf L2.CX0 Pg wd K mg base N qn (defScope st) f cd B o s H E).nox (defBody st) t ∧ t { nx := fun _ H' => Q .non H', rt := Q } (start N vs) H) : FnG Pg wd K mg base L2.CX0 (n + 1) f fd ps sp := by
  obtain ⟨_, _, _, _, _, _, cd, _, _, rfl, lk, hcd⟩ := F.ex
  refine ⟨len, fun B o s H ar us vs Q E hg hr e0 bd rv hs => ?_⟩
  have kin : K.In s.heap := e0.mod.kin.keeps fun b u e => (e0.bs b u e).1
  have kinds : ∀ y ∈ ps.zip us, (defScope st).names.lookup y.1 = some .local ∨ ((defScope st).names.lookup y.1 = some .cell ∧ ((cellsFrom (s.heap.objs.size + 1) (defScope st).names []).lookup y.1).isSome = true) := by
    rintro ⟨z, v⟩ hy
    exact (S.par z (List.of_mem_zip hy).1).elim .inl fun c => .inr ⟨c, PySem.W.cellsFrom_some _ _ _ (.inl c)⟩
  refine codeAny_call_function hr.depth (kin _ _ lk) rfl S.co S.gen rfl (PySem.W.codeRec_of kin hcd) (bd _ _ _ _ (wpAny_newFunctionEnv_cells S.kind kinds fun _ he s1 made => ?_))
  subst he
  obtain ⟨t, ht, hq⟩ := hb cd B o s H vs Q E hg (hr.deeper _) hs
  have start0 := inv_start (CX := L2.CX0) (E := E) (qual := qn) (cd := cd) (f := f) S hr.hd e0 (len _ _ _ _ hs) rv made
  exact ⟨(e0.mod.nolimit.keeps fun b u e => (e0.bs b u e).1).keeps made.toInCall.keep, codeAny_func (wpAny_mono (ht.nox.run [] s1 _ H _ start0 hq) (fun fl s' => g_end rfl fl) fun _ _ h => h)⟩
end
/-! ### calls -/
/-- the call of a def, whichever way its arguments come -/
theorem after_call {X : Cx} {C : CXT} {E : XK} {pins : List (Addr × Obj)} {σ : L2.St} {H : Hp} {s : Shared} {Q : VK} {f : Addr} {us : List Value} {kw : List (Str × Value)} (hx : Passes C X E) (I : Inv X pins σ H s)
    (h : codeAny (model X.prog X.w) X.A (.call (.ref f) ⟨us, kw⟩) (CR C X.stack X.prog X.w H s Q E) s) : wpAny (model X.prog X.w) X.A (call (.ref f) us kw) (EP X pins σ Q) X.xe s :=
  wpAny_call (codeAny_mono h fun r s' y => match r, y with
    | .error e, y => hx pins σ H s e s' I y
    | .ok (.ret _), y => I.after y)
/-- how a call with keywords binds, where the numbers of its arguments are written -/
structure KBX (K : PySem.W.Frag) (fd : FuncData) (ps : List Str) (n : Nat) (ks : List Str) (g : List Value → List Value → List Value) (gV : List V → List V → List V) : Prop where
  to : ∀ (s : Shared) (us ws : List Value), us.length = n → ws.length = ks.length → BindsTo s fd ⟨us, ks.zip ws⟩ (ps.zip (g us ws))
  rel : ∀ {vs : List V} {us : List Value} {zs : List V} {ws : List Value}, Vals vs us → Vals zs ws → Vals (gV vs zs) (g us ws)
def tCallN (n m : Nat) (sp : Sp) (gV : List V → List V → List V) (E : XK) (t tk : TA) : TE := fun σ H Q => t σ H fun vs H1 => tk σ H1 fun zs H2 => vs.length = n ∧ zs.length = m ∧ sp (gV vs zs) H2 Q E
theorem relAt : ∀ {vs : List V} {us : List Value} (_ : Vals vs us) (i : Nat), RelV (vs.getD i .non) (us.getD i .none)
  | [], _, r, i => by cases r; exact rfl
  | _ :: _, _, r, 0 => by cases r with | cons a _ => exact a
  | _ :: _, _, r, i + 1 => by cases r with | cons _ b => exact relAt b i
section
variable {X : Cx} {C : CXT} {n m : Nat} {f : Addr} {fd : FuncData} {ps ks : List Str} {sp : Sp} {E : XK} {x : Str} {p q : Pos} {e : Expr} {es : List Expr} {kws : List Keyword} {t tk : TA} {g : List Value → List Value → List Value} {gV : List V → List V → List V}
theorem pe_callG (hG : X.A.guards = some []) (F : FnG X.prog X.w X.K X.mg X.base C n f fd ps sp) (hr : Room n X.A) (gl : Gl X x) (mf : X.mg x = some (.ref f)) (kf : PySem.W.keepIn X.K (.ref f) = true) (bd : Binds X.K fd ps []) (hx : Passes C X E) (ha : PA X (e :: es) t)
    (h1 : (x == ("__debug__" : Str)) = false := by decide) (h2 : starEach (e :: es) X.env = (false, eval e X.env) :: starEach es X.env := by rfl) (h3 : (backTo q (starEach es X.env)).any (·.1) = false := by rfl) :
    PE X (.Call (.Name x p) (e :: es) [] q) (tCall sp [] E t) := by
  constructor
  intro pins s σ H Q I h
  refine wpAny_Call_Name_kw (ld_glob I gl mf (PySem.W.callWith_K (h₀ := X.base) I.ok.mod.kin kf (thn (ha.run q pins s σ H _ I h) fun us s1 ⟨vs, H1, I1, r, y⟩ => ⟨I1.kIn, ?_⟩) h2 h3) h1)
  have y : sp (vs ++ []) H1 Q E := y
  rw [List.append_nil] at y
  have hl : (us ++ []).length = ps.length := by rw [List.append_nil, ← r.length]; exact F.len _ _ _ _ y
  exact after_call hx I1 (F.go X.A X.stack s1 H1 _ (us ++ []) vs Q E hG hr I1.env0 (bd s1 us I1.kIn hl) (by rw [List.append_nil]; exact r) y)
/-- f(e, .., k = v, ..), f(k = v, ..) -/
theorem kw_to (hb : KBX X.K fd ps n ks g gV) {pins : List (Addr × Obj)} {σ : L2.St} {H : Hp} {s : Shared} {Q : VK} {vs zs : List V} {us ws : List Value}
    (run : ∀ (bs : List Value) (bv : List V), BindsTo s fd ⟨us, ks.zip ws⟩ (ps.zip bs) → Vals bv bs → sp bv H Q E → codeAny (model X.prog X.w) X.A (.call (.ref f) ⟨us, ks.zip ws⟩) (CR C X.stack X.prog X.w H s Q E) s)
    (hx : Passes C X E) (I : Inv X pins σ H s) (r : Vals vs us) (rz : Vals zs ws) (l1 : vs.length = n) (l2 : zs.length = ks.length) (y : sp (gV vs zs) H Q E) : wpAny (model X.prog X.w) X.A (call (.ref f) us (ks.zip ws)) (EP X pins σ Q) X.xe s :=
  after_call hx I (run _ _ (hb.to s us ws (by rw [← r.length]; exact l1) (by rw [← rz.length]; exact l2)) (hb.rel r rz) y)
theorem pe_kwG (hG : X.A.guards = some []) (F : FnG X.prog X.w X.K X.mg X.base C m f fd ps sp) (hr : Room m X.A) (gl : Gl X x) (mf : X.mg x = some (.ref f)) (kf : PySem.W.keepIn X.K (.ref f) = true) (hb : KBX X.K fd ps n ks g gV) (hx : Passes C X E) (ha : PA X (e :: es) t) (hk : PK X kws tk)
    (h0 : (backToKw q (keywordEach kws X.env)).all (·.1.isSome) = true := by rfl) (hks : (backToKw q (keywordEach kws X.env)).filterMap (·.1) = ks := by rfl) (h1 : (x == ("__debug__" : Str)) = false := by decide) (h2 : starEach (e :: es) X.env = (false, eval e X.env) :: starEach es X.env := by rfl)
    (h3 : ((backTo q (starEach (e :: es) X.env)).any (·.1) || (backToKw q (keywordEach kws X.env)).any (·.1.isNone)) = false := by rfl) : PE X (.Call (.Name x p) (e :: es) kws q) (tCallN n ks.length sp gV E t tk) := by
  constructor
  intro pins s σ H Q I h
  refine wpAny_Call_Name_kw (ld_glob I gl mf (PySem.W.callWith_KW (h₀ := X.base) I.ok.mod.kin kf h0 (thn (ha.run q pins s σ H _ I h) fun us s1 ⟨vs, H1, I1, r, y⟩ => thn (hk.run q pins s1 σ H1 _ I1 y) fun ws s2 ⟨zs, H2, I2, rz, l1, l2, y2⟩ => ⟨I2.kIn, ?_⟩) h3 h2) h1)
  rw [hks]
  exact kw_to hb (fun bs bv b1 b2 b3 => F.go X.A X.stack s2 H2 _ bs bv Q E hG hr I2.env0 b1 b2 b3) hx I2 r rz l1 l2 y2
theorem pe_kwG0 (hG : X.A.guards = some []) (F : FnG X.prog X.w X.K X.mg X.base C m f fd ps sp) (hr : Room m X.A) (gl : Gl X x) (mf : X.mg x = some (.ref f)) (kf : PySem.W.keepIn X.K (.ref f) = true) (hb : KBX X.K fd ps 0 ks g gV) (hx : Passes C X E) (hk : PK X kws tk)
    (h0 : (backToKw q (keywordEach kws X.env)).all (·.1.isSome) = true := by rfl) (hks : (backToKw q (keywordEach kws X.env)).filterMap (·.1) = ks := by rfl) (h1 : (x == ("__debug__" : Str)) = false := by decide)
    (h3 : ((backTo q (starEach [] X.env)).any (·.1) || (backToKw q (keywordEach kws X.env)).any (·.1.isNone)) = false := by rfl) : PE X (.Call (.Name x p) [] kws q) (tCallN 0 ks.length sp gV E tNil tk) := by
  constructor
  intro pins s σ H Q I h
  refine wpAny_Call_Name_kw (ld_glob I gl mf (PySem.W.callWith_KW0 (h₀ := X.base) I.ok.mod.kin kf h0 (thn (hk.run q pins s σ H _ I h) fun ws s2 ⟨zs, H2, I2, rz, l1, l2, y2⟩ => ⟨I2.kIn, ?_⟩) h3) h1)
  rw [hks]
  exact kw_to hb (fun bs bv b1 b2 b3 => F.go X.A X.stack s2 H2 _ bs bv Q E hG hr I2.env0 b1 b2 b3) hx I2 .nil rz rfl l2 y2
/-- the same of a def that may be called anywhere -/
theorem pe_kw (F : FnOk X.prog X.w X.K X.mg X.base C m f fd ps sp) (hr : Room m X.A) (gl : Gl X x) (mf : X.mg x = some (.ref f)) (kf : PySem.W.keepIn X.K (.ref f) = true) (hb : KBX X.K fd ps n ks g gV) (hx : Passes C X E) (ha : PA X (e :: es) t) (hk : PK X kws tk)
    (h0 : (backToKw q (keywordEach kws X.env)).all (·.1.isSome) = true := by rfl) (hks : (backToKw q (keywordEach kws X.env)).filterMap (·.1) = ks := by rfl) (h1 : (x == ("__debug__" : Str)) = false := by decide) (h2 : starEach (e :: es) X.env = (false, eval e X.env) :: starEach es X.env := by rfl)
    (h3 : ((backTo q (starEach (e :: es) X.env)).any (·.1) || (backToKw q (keywordEach kws X.env)).any (·.1.isNone)) = false := by rfl) : PE X (.Call (.Name x p) (e :: es) kws q) (tCallN n ks.length sp gV E t tk) := by
  constructor
  intro pins s σ H Q I h
  refine wpAny_Call_Name_kw (ld_glob I gl mf (PySem.W.callWith_KW (h₀ := X.base) I.ok.mod.kin kf h0 (thn (ha.run q pins s σ H _ I h) fun us s1 ⟨vs, H1, I1, r, y⟩ => thn (hk.run q pins s1 σ H1 _ I1 y) fun ws s2 ⟨zs, H2, I2, rz, l1, l2, y2⟩ => ⟨I2.kIn, ?_⟩) h3 h2) h1)
  rw [hks]
  exact kw_to hb (fun bs bv b1 b2 b3 => F.run X.A X.stack s2 H2 _ bs bv Q E hr I2.env0 b1 b2 b3) hx I2 r rz l1 l2 y2
theorem pe_kw0 (F : FnOk X.prog X.w X.K X.mg X.base C m f fd ps sp) (hr : Room m X.A) (gl : Gl X x) (mf : X.mg x = some (.ref f)) (kf : PySem.W.keepIn X.K (.ref f) = true) (hb : KBX X.K fd ps 0 ks g gV) (hx : Passes C X E) (hk : PK X kws tk)
    (h0 : (backToKw q (keywordEach kws X.env)).all (·.1.isSome) = true := by rfl) (hks : (backToKw q (keywordEach kws X.env)).filterMap (·.1) = ks := by rfl) (h1 : (x == ("__debug__" : Str)) = false := by decide)
    (h3 : ((backTo q (starEach [] X.env)).any (·.1) || (backToKw q (keywordEach kws X.env)).any (·.1.isNone)) = false := by rfl) : PE X (.Call (.Name x p) [] kws q) (tCallN 0 ks.length sp gV E tNil tk) := by
  constructor
  intro pins s σ H Q I h
  refine wpAny_Call_Name_kw (ld_glob I gl mf (PySem.W.callWith_KW0 (h₀ := X.base) I.ok.mod.kin kf h0 (thn (hk.run q pins s σ H _ I h) fun ws s2 ⟨zs, H2, I2, rz, l1, l2, y2⟩ => ⟨I2.kIn, ?_⟩) h3) h1)
  rw [hks]
  exact kw_to hb (fun bs bv b1 b2 b3 => F.run X.A X.stack s2 H2 _ bs bv Q E hr I2.env0 b1 b2 b3) hx I2 .nil rz rfl l2 y2
end
section
variable {σ : L2.St} {H : Hp} {Q : VK} {t tk : TA} {sp : Sp} {gV : List V → List V → List V} {E : XK} {n m : Nat}
theorem caln (h : t σ H fun vs H1 => tk σ H1 fun zs H2 => vs.length = n ∧ zs.length = m ∧ sp (gV vs zs) H2 Q E) : tCallN n m sp gV E t tk σ H Q := h
theorem lnn {a b c d : Nat} {A : Prop} (e : a = c) (f : b = d) (h : A) : a = c ∧ b = d ∧ A := ⟨e, f, h⟩
end
/-! ### repr -/
mutual
/-- data of ints below 2 ^ 200, bools, None, in lists and tuples -/
def tame : PyData → Bool
  | .none | .bool _ => true
  | .int i => decide (i.natAbs < 2 ^ 200)
  | .list ds | .tuple ds => tameAll ds
  | .str x => PyData.showable (.str x) && PyData.leavesShort 201 (.str x)
  | _ => false
def tameAll : List PyData → Bool
  | [] => true
  | d :: ds => tame d && tameAll ds
end
theorem tame_int {i : Int} (h : i.natAbs < 2 ^ 200) : i.natAbs.log2 < 200 := by
  by_cases z : i.natAbs = 0
  · rw [z]; decide
  · exact (Nat.log2_lt z).mpr h
mutual
theorem tame_ok : ∀ d : PyData, tame d = true → d.showable = true ∧ d.hasDict = false ∧ d.leavesShort 201 = true
  | .none, _ => ⟨rfl, rfl, rfl⟩
  | .bool _, _ => ⟨rfl, rfl, rfl⟩
  | .int i, h => by
    have h' := tame_int (of_decide_eq_true (by simpa only [tame] using h))
    refine ⟨by simp only [PyData.showable]; exact decide_eq_true (by omega), rfl, ?_⟩
    simp only [PyData.leavesShort]
    exact decide_eq_true (by show (Str.ofString (toString i)).length ≤ 201; rw [PySem.ofString_length]; exact PySem.int_text_length_le (by decide) h')
  | .str x, h => by
    have h' : PyData.showable (.str x) = true ∧ PyData.leavesShort 201 (.str x) = true := by simpa only [tame, Bool.and_eq_true] using h
    exact ⟨h'.1, rfl, h'.2⟩
  | .dict _, h => by simp [tame] at h
  | .list ds, h => by
    have := tame_okAll ds (by simpa only [tame] using h)
    simpa only [PyData.showable, PyData.hasDict, PyData.leavesShort] using this
  | .tuple ds, h => by
    have := tame_okAll ds (by simpa only [tame] using h)
    simpa only [PyData.showable, PyData.hasDict, PyData.leavesShort] using this
theorem tame_okAll : ∀ ds : List PyData, tameAll ds = true → PyData.showableAll ds = true ∧ PyData.hasDictAll ds = false ∧ PyData.leavesShortAll 201 ds = true
  | [], _ => ⟨rfl, rfl, rfl⟩
  | d :: ds, h => by
    have h' : tame d = true ∧ tameAll ds = true := by simpa only [tameAll, Bool.and_eq_true] using h
    obtain ⟨a, b, c⟩ := tame_ok d h'.1
    obtain ⟨a', b', c'⟩ := tame_okAll ds h'.2
    simp only [PyData.showableAll, PyData.hasDictAll, PyData.leavesShortAll, a, b, c, a', b', c']
    decide
end
/-- repr of a list or a tuple -/
def rRepr (K : PySem.W.Frag) : List V → Hp → VK → Prop := fun vs H Q => ∃ a d, vs = [.ref a] ∧ Dp K H (.ref a) d ∧ tame d = true ∧ d.depth ≤ 60 ∧ d.bulk ≤ 60000 ∧ Q (.str d.shown) H
theorem krepr (K : PySem.W.Frag) {X : Cx} {k : Nat} (hG : X.A.guards = some []) (hr : Room k X.A) (h : X.K = K := by rfl) : CallR X (.builtin "repr") (rRepr K) := by
  subst h
  intro pins s σ H xs us Q I r hq
  obtain ⟨a, d, rfl, hd, ht, hdp, hb, q⟩ := hq
  obtain ⟨u, rfl, ru⟩ := vals1 r
  obtain rfl : u = Value.ref a := ru
  obtain ⟨as, rd⟩ := Dp.reads I d _ _ hd rfl
  obtain ⟨o1, o2, o3⟩ := tame_ok d ht
  have fits := PyData.shown_le_bulk 201 (by decide) d o3
  have un := hr.units
  refine repr_of_reads' rd o1 (PyData.noDict_hsm o2) hG (by omega) (fun _ _ e => e) (fun h' u tk hk => ⟨.str d.shown, H, ?_, ⟨u, rfl⟩, q⟩) (by rw [sizeLine_eq]; omega)
  exact I.kept hk
end HS
/-! The end of a proof whose law def is called while nothing is being shown. -/
namespace HS
open PySem PySem.Spec PyProof.Rows L2
section
variable {Pg : Program} {wd : World} {K : PySem.W.Frag} {mg mb : Str → Option Value} {C : CXT} {n : Nat} {fa a : Addr} {fd : FuncData} {x : Str} {sp : Sp} {s1 : Shared} {vs : List Value} {ns : List Int}
/-- what the caller's heap holds where the abstract heap tracks the script alone, or nothing -/
structure AtTop (Pg : Program) (wd : World) (K : PySem.W.Frag) (a : Addr) (ns : List Int) (s1 : Shared) (H : Hp) : Prop where
  only : Only H
  here : SqL K H a (ns.map V.int)
  hok : HOk Pg wd H s1.heap
  one : ∀ b, b ≠ a → H b = none
  out : H a = none ∨ K.lookup a = none
theorem top_run (T : AtTop Pg wd K a ns s1 H) (KX : K.In s1.heap) (g : s1.heap.Ns mainGlobals mg) (gb : s1.heap.Ns builtinsNs mb) (hb : ∀ y : Str, y ≠ "__name__" → mb y = bootBuiltins y) (lim : s1.heap.NoLimit) (hg : s1.gens = #[])
    (seq : ∃ o, s1.heap.get? a = some o ∧ ∃ us m, o.data = .seq us m) (hr : Room n callerA) (F : ∀ base : Heap, K.In base → base.Ns mainGlobals mg → FnG Pg wd K mg base C n fa fd [x] sp) (bd : ∀ (s : Shared) (u : Value), BindsTo s fd ⟨[u], []⟩ [(x, u)])
    (want : ∀ H : Hp, Only H → SqL K H a (ns.map V.int) → sp [.ref a] H (fun v _ => v = .bl true) fun _ _ _ => False) (noX : ∀ H e s', C [] H s1 (fun _ _ _ => False) e s' → False) :
    codeAny (model Pg wd) callerA (.call (.ref fa) ⟨[.ref a], []⟩) (fun r s' => r = .ok (.ret (.bool true)) ∧ OldK s1.heap s'.heap ∧ s'.os = s1.os ∧ AllBare s'.gens) s1 := by
  obtain ⟨oa, ea, us, m, da⟩ := seq
  -- the base: all but what is tracked
  have stays : ∀ {b : Addr} {o : Obj}, s1.heap.get? b = some o → (b = a → H a = none) → (hidT s1.heap H).get? b = some o := fun {b o} e h =>
    hidT_get e (by by_cases q : b = a; · subst q; exact h rfl
                   · exact T.one b q)
  have dict : ∀ {b : Addr} {f : Str → Option Value}, s1.heap.Ns b f → (hidT s1.heap H).Ns b f := by
    rintro b f ⟨o, es, ep, e, d, r⟩
    refine ⟨o, es, ep, stays e fun q => ?_, d, r⟩
    subst q
    rw [ea] at e
    cases e
    rw [da] at d
    cases d
  have kin : K.In (hidT s1.heap H) := fun b o e => stays (KX b o e) fun q => by
    subst q
    rcases T.out with h | h
    · exact h
    · rw [h] at e; cases e
  have md : Mod K mg (hidT s1.heap H) := ⟨kin, dict g, ⟨mb, dict gb, hb⟩, by obtain ⟨mc, l1, l2⟩ := lim; exact ⟨mc, dict l1, l2⟩⟩
  have e0 : Env0 Pg wd K mg (hidT s1.heap H) callerA [] s1 H := ⟨rfl, md, fun _ _ e => of_hidT e, Nat.le_of_eq (hidT_size _ _), trivial, nofun, T.hok, .of_eq hg⟩
  refine codeAny_mono ((F _ kin (dict g)).go callerA [] s1 H ⟨[.ref a], []⟩ [.ref a] [.ref a] _ _ rfl hr e0 (bd s1 (.ref a)) (.cons rfl .nil) (want H T.only T.here)) fun r s' y => ?_
  match r, y with
  | .error e, y => exact (noX H e s' y).elim
  | .ok (.ret u), y =>
    obtain ⟨v, H', os, bare, un, ok', rv, rfl⟩ := y
    obtain rfl : u = Value.bool true := rv
    refine ⟨rfl, OldK.of_keep fun b o e => ?_, os, bare⟩
    rcases T.only b with z | ⟨ob, xs, z⟩
    · exact un.keep b o e z nofun nofun
    · have t1 := (T.hok b _ z).1
      rw [e] at t1
      rw [Option.some.inj t1]
      exact (ok' b _ (un.frzs b ob _ z)).1
theorem top_at (KX : K.In s1.heap) (ha : s1.heap.get? a = some { cls := .type "list", data := .seq vs.toArray }) (hi : IntsAre vs ns) (hl : ns.length ≤ sizeLine) : ∃ H, AtTop Pg wd K a ns s1 H := by
  have rv := vals_ints hi
  by_cases hk : K.lookup a = none
  · refine ⟨fun b => if b = a then some (.frz { cls := .type "list", data := .seq vs.toArray } (.lst (ns.map V.int))) else none, fun b => ?_, .inl (.inr ⟨_, if_pos rfl⟩), fun b u z => ?_, fun b q => if_neg q, .inr hk⟩
    · by_cases q : b = a
      · exact .inr ⟨_, _, if_pos q⟩
      · exact .inl (if_neg q)
    · by_cases q : b = a
      · subst q
        rw [if_pos rfl] at z
        cases z
        exact ⟨ha, by rw [List.length_map]; exact hl, vs, _, rv, ha⟩
      · rw [if_neg q] at z
        cases z
  · obtain ⟨o, ho⟩ := Option.ne_none_iff_exists'.mp hk
    have e := KX a o ho
    rw [ha] at e
    cases e
    exact ⟨fun _ => none, fun _ => .inl rfl, .inr ⟨_, vs.toArray, _, ho, rfl, rfl, rfl, by rw [List.size_toArray, hi.length]; exact hl, by simpa using rv⟩, (fun _ _ z => nomatch z), fun _ _ => rfl, .inl rfl⟩
end
theorem walk_ofG {l : PySem.W.OpenLaw} {n k : Nat} {q : Program} {loose : List Str} {XP : (Str → Option Value) → Heap → Prop} {YP : World → Heap → Prop} {d : DefRec} {K : Params → PySem.W.Frag} {CX : World → CXT} {sp : World → Sp} {x : Str}
    (h1 : l.most = some n) (h2 : n ≤ sizeLine) (h3 : d.params.defaults = []) (hr : Room k callerA) (hY : ∀ (w : World) (h : Heap), YP w h → (K w.params).In h)
    (F : ∀ (w : World) (mg : Str → Option Value) (fa : Addr) (h : Heap), (K w.params).In h → h.Ns mainGlobals mg → mg d.name = some (.ref fa) → ∃ fd : FuncData, (∀ (s : Shared) (u : Value), BindsTo s fd ⟨[u], []⟩ [(x, u)]) ∧
      ∀ base : Heap, (K w.params).In base → base.Ns mainGlobals mg → FnG l.prog w (K w.params) mg base (CX w) k fa fd [x] (sp w))
    (want : ∀ (w : World) (H : Hp) (a : Addr) (ns : List Int), ns.length ≤ n → Only H → SqL (K w.params) H a (ns.map V.int) → sp w [.ref a] H (fun v _ => v = .bl true) fun _ _ _ => False)
    (noX : ∀ (w : World) (H : Hp) (s : Shared) (e : Value) (s' : Shared), CX w [] H s (fun _ _ _ => False) e s' → False) : PySem.W.WalkO q loose XP YP l.row.toRowW d [] (fun f vs => PySem.call f vs) :=
  Att.attach_call h1 h3 fun w _ s1 mg _ fa _ _ _ _ a vs ns G Y _ _ _ hm ho hi hl hg => by
    obtain ⟨fd, bd, hF⟩ := F w mg fa _ (hY w _ Y) G.T.g hm
    obtain ⟨H, T⟩ := top_at (Pg := l.prog) (wd := w) (hY w _ Y) ho hi (Nat.le_trans hl h2)
    exact top_run T (hY w _ Y) G.T.g G.T.b G.T.builtins G.T.nolimit hg ⟨_, ho, _, _, rfl⟩ hr hF bd (fun H o => want w H a ns hl o) fun H e s' => noX w H s1 e s'
end HS
/-! An exception that is kept behind its suite; methods and classes called where an exception may come. -/
namespace HS
open PySem PySem.Spec PyProof.Rows L2
/-- at a: an exception of this class that was caught -/
def exh (a : Addr) (cls : Value) (d : Option Addr) : HO := .ext fun h => ∃ (oe : Obj) (vs : Array Value), h.get? a = some oe ∧ oe.cls = cls ∧ oe.dict = d ∧ oe.data = .fields vs
theorem exh_ok {P : Program} {w : World} {H : Hp} {h : Heap} {a : Addr} {cls : Value} {d : Option Addr} {oe : Obj} {vs : Array Value} (e : h.get? a = some oe) (z : Zc cls d oe) (f : oe.data = .fields vs) : ObjOk P w H h a (exh a cls d) :=
  ⟨⟨oe, vs, e, z.1, z.2, f⟩, ⟨oe, e⟩, fun _ _ ⟨o, v, q, r⟩ k => ⟨o, v, k o q, r⟩⟩
/-- a caught exception that stands in the heap, with its fields -/
def Exh (H : Hp) (a C : Addr) (fs : List (Str × V)) : Prop := ∃ d, H a = some (exh a (.ref C) (some d)) ∧ H d = some (.xd fs)
theorem Exh.keep {S : Addr → Prop} {H H' : Hp} {a C : Addr} {fs : List (Str × V)} (h : Exh H a C fs) (k : Keep S H H') (ha : ¬ S a) (hd : ∀ d, H d = some (.xd fs) → ¬ S d) : Exh H' a C fs := by
  obtain ⟨d, e1, e2⟩ := h
  exact ⟨d, k _ _ e1 ha, k _ _ e2 (hd d e2)⟩
theorem Exh.same {H H' : Hp} {a C : Addr} {fs : List (Str × V)} (h : Exh H a C fs) (k : Keep (fun _ => False) H H') : Exh H' a C fs := h.keep k id fun _ _ => id
theorem Exh.new {H : Hp} {a C p : Addr} {fs : List (Str × V)} {o : HO} (h : Exh H a C fs) (hp : H p = none) : Exh (upd H p o) a C fs := h.same (Keep.new hp)
/-- an object that stands in the state, made behind the entry, is tracked from now on -/
theorem track {X : Cx} {pins : List (Addr × Obj)} {σ : L2.St} {H : Hp} {s : Shared} {a : Addr} {o : HO} (I : Inv X pins σ H s) (na : H a = none) (n0 : X.s_0.heap.get? a = none) (nL : a ≠ X.env.locals)
    (nC : ∀ x c, X.env.cells.lookup x = some c → c ≠ a) (nP : ∀ p ∈ X.pn ++ pins, p.1 ≠ a) (new : ObjOk X.prog X.w (upd H a o) s.heap a o) : Inv X pins σ (upd H a o) s := by
  refine ⟨I.ok, I.os, I.bare, ⟨I.base.keep, I.base.slot, fun b u e n hx => ?_, I.base.there, fun b xs e => ?_, fun b u xs e => ?_, fun b ps e => ?_⟩, I.loc, I.cell, ?_, fun x c e => ?_, fun p hp => ?_, fun b u e => ?_, I.len⟩
  · rw [upd_ne (fun z => by rw [z, n0] at e; cases e)]; exact I.base.free b u e n hx
  · have q := I.base.tups b xs e; rw [upd_ne (ne_of_none q na)]; exact q
  · have q := I.base.frzs b u xs e; rw [upd_ne (ne_of_none q na)]; exact q
  · obtain ⟨m, q⟩ := I.base.tbls b ps e; exact ⟨m, by rw [upd_ne (ne_of_none q na)]; exact q⟩
  · rw [upd_ne (Ne.symm nL)]; exact I.free
  · rw [upd_ne (nC x c e)]; exact I.freeC x c e
  · obtain ⟨e, n, r⟩ := I.pin p hp; exact ⟨e, by rw [upd_ne (nP p hp)]; exact n, r⟩
  · by_cases hb : b = a
    · subst hb; rw [upd_same] at e; cases e; exact new
    · rw [upd_ne hb] at e
      exact (I.hok b u e).stay (fun c v _ q => q) (fun c q => by rw [upd_ne (ne_of_none q na)]; exact q) fun c xs q => by rw [upd_ne (ne_of_none q na)]; exact q
theorem unsuite1 {X : Cx} {pins pn' : List (Addr × Obj)} {σ : L2.St} {H : Hp} {s : Shared} {a : Addr} {q : Addr × Obj} (I : Inv (X.suite a (q :: (X.pn ++ pins))) pn' σ H s) (ok : X.Ok) : Inv X (q :: pins) σ H s :=
  ⟨ok, I.os, I.bare, I.base, I.loc, I.cell, I.free, I.freeC, fun p hp => I.pin p (List.mem_append_left _ (by
    rcases List.mem_append.mp hp with h | h
    · exact List.mem_cons_of_mem _ (List.mem_append_left _ h)
    · rcases List.mem_cons.mp h with e | h
      · rw [e]; exact List.mem_cons_self
      · exact List.mem_cons_of_mem _ (List.mem_append_right _ h))), I.hok, I.len⟩
/-- what the clause wishes of an exception of the body: behind the suite's end the exception stands in the heap -/
def wKeep (K : PySem.W.Frag) (c : Value) (i : Nat) (ts : Addr → Value → Option Addr → TS) (Wout : WX) (D : Ends) : WX := fun cls d σ H =>
  ∃ b, PySem.W.exmOne K cls c = some b ∧ (b = true → ∀ a, H a = none → ts a cls d { nx := fun σ' H' => H' a = none → D.nx (σ'.set i none) (upd H' a (exh a cls d)), rt := D.rt, bk := fun σ' H' => D.bk (σ'.set i none) H', ct := fun σ' H' => D.ct (σ'.set i none) H' } (σ.set i (some (.ref a))) H) ∧
    (b = false → Wout cls d σ H)
section
variable {X : Cx} {x n : Str} {c : Value} {i : Nat} {body suite : List Stmt} {b₀ : Stmt} {np pos pos' : Pos} {tb : WX → TS} {ts : Addr → Value → Option Addr → TS} {Wout : WX}
theorem ps_try_keep (hs : X.stack = X.env :: X.outer) (hf : X.env.frame = some X.env.locals) (hN : X.N.Nodup) (hi : X.N[i]? = some n) (hln : X.env.kindOf n = some .local) (hc : Names X x c) (tk : Takes X Wout)
    (hb : ∀ (W : WX) (pn : List (Addr × Obj)) (xe : Value → Shared → Prop), Takes (X.tr pn xe) W → PassesOwn (model X.prog X.w) X.A X.env xe → PSs (X.tr pn xe) body (tb W))
    (hsu : ∀ (a : Addr) (oe : Obj) (cls : Value) (d : Option Addr) (pn : List (Addr × Obj)), Zc cls d oe → (∃ vs, oe.data = .fields vs) → PSs (X.suite a ((a, oe) :: pn)) (b₀ :: suite) (ts a cls d))
    (hex : X.ex = [] := by rfl) :
    PS X (.Try body [.ExceptHandler (some (.Name x np)) (some n) (b₀ :: suite) pos'] [] [] pos) (fun D σ H => tb (wKeep X.K c i ts Wout D) D σ H) := by
  refine ⟨fun pins s σ H D I hw => ?_⟩
  have ok := I.ok
  have fr0 : X.A.frames = some (X.env :: X.outer) := by rw [ok.frames, hs]
  have loc0 : Loc X.env.scope n := .inl hln
  refine wpAny_Try_except ?_
  refine wpAny_mono ((hb (wKeep X.K c i ts Wout D) (X.pn ++ pins) (fun e s₁ => wpAny (model X.prog X.w) X.A (noteFrame e X.env) (fun _ s₂ => wpAny (model X.prog X.w) X.A (setFlight e none) (fun _ s₃ =>
    wpAny (model X.prog X.w) X.A (handleBy e X.env [.ExceptHandler (some (.Name x np)) (some n) (b₀ :: suite) pos']) (SP X pins D) X.xe s₃) X.xe s₂) X.xe s₁) (fun u s' xx => ?_) PassesOwn.looking).run [] s σ H D (I.toTry _) hw) (fun f s1 hsp => ?_) (fun e s1 he => he)
  · obtain ⟨a, B, sI, pins', σ', H', cls, d, rfl, J', nb, up, sky, na, os, ag, b, hb1, hyes, hno⟩ := xx
    have J : Inv X pins σ' H' sI := J'.ofTry ok
    have sky' : Sky B (X.env :: X.outer) a (Zc cls d) X.env.locals s'.heap := by rw [← hs]; exact sky
    show wpAny (model X.prog X.w) X.A (noteFrame (.ref a) X.env) _ _ _
    refine Sky.land Zc.steady fr0 hf sky' fun h3 fl3 up3 => ?_
    have J3 : Inv X pins σ' H' { s' with heap := h3 } := J.landed nb fl3.1 (up.trans up3) os ag
    obtain ⟨oe3, vs3, he3, hz3, hd3⟩ := fl3.there
    have nfr : a ∉ frs (X.env :: X.outer) := fun hm => by
      obtain ⟨_, o', e', hnf⟩ := fl3.2.2.1.mem hm
      rw [he3] at e'; cases e'
      exact hnf _ hd3
    have nL : a ≠ X.env.locals := fun z => nfr (List.mem_filterMap.mpr ⟨X.env, List.mem_cons_self, by rw [hf, z]⟩)
    have nF : a ∉ X.fs := fun hm => by
      obtain ⟨e, he, q⟩ := List.mem_filterMap.mp hm
      exact nfr (List.mem_filterMap.mpr ⟨e, List.mem_cons_of_mem _ he, q⟩)
    have nI : sI.heap.get? a = none := by
      cases q : sI.heap.get? a with
      | none => rfl
      | some o =>
        have z := nb a o q (by rw [hs]; exact nfr)
        rw [fl3.2.1] at z; cases z
    have n0 : X.s_0.heap.get? a = none := by
      cases q : X.s_0.heap.get? a with
      | none => rfl
      | some o =>
        obtain ⟨o', z⟩ := J.base.there a o q (by rw [hex]; exact fun z => nomatch z)
        rw [nI] at z; cases z
    have S3 := J3.suite he3 hd3 na nL nF
    refine wpAny_handleBy_cons (codeAny_handlers_test ?_) (by intro q; cases q)
    have LT : PySem.W.Looks (model X.prog X.w) h3 (typeOf (.ref a)) cls := fun A Q E s k q => wpAny_typeOf_ref (k _ _ he3) (by rw [hz3.1]; exact q)
    have LM := PySem.W.exm_one (M := model X.prog X.w) (J3.kIn) LT hb1
    have test : ∀ {Q : Value → Shared → Prop} {E : Value → Shared → Prop}, Q c { s' with heap := h3 } → wpAny (model X.prog X.w) (X.A.mark (some (.ref a))) (eval (.Name x np) X.env) Q E { s' with heap := h3 } := fun {Q E} q => by
      obtain ⟨hg, hdbg, hm | ⟨hm, hv, hnn⟩⟩ := hc
      · exact ld_glob (X := X.suite a ((a, oe3) :: (X.pn ++ pins))) S3 hg hm q hdbg
      · exact ld_blt (X := X.suite a ((a, oe3) :: (X.pn ++ pins))) S3 hg hm hv q hnn hdbg
    refine test (LM.here ?_)
    cases b with
    | true =>
      refine codeAny_handlers_suite_as ?_
      refine HandSPX.lands_againZ fl3 fun h4 fl4 up4 => ?_
      have J4 : Inv X pins σ' H' { s' with heap := h4 } := J.landed nb fl4.1 ((up.trans up3).trans up4) os ag
      obtain ⟨oe4, vs4, he4, hz4, hd4⟩ := fl4.there
      have S4 := J4.suite he4 hd4 na nL nF
      refine store_ok (X := X.suite a ((a, oe4) :: (X.pn ++ pins))) (v := .ref a) S4 hN hi loc0 rfl (fun s5 S5 => ?_) (.inr hln)
      refine wpAny_mono ((hsu a oe4 cls d (X.pn ++ pins) hz4 ⟨_, hd4⟩).run [] s5 _ H' _ S5 (hyes rfl a na)) (fun f s6 hsp => ?_) (fun _ _ z => False.elim z)
      have fin : ∀ {σ6 : L2.St} {H6 : Hp} {Q : Shared → Prop}, Inv (X.suite a ((a, oe4) :: (X.pn ++ pins))) [] σ6 H6 s6 → (∀ s7, Inv X ((a, oe4) :: pins) (σ6.set i none) H6 s7 → Q s7) →
          wpAny (model X.prog X.w) X.A (do bindName X.env n .none; unbindBehindTheSuite X.env n pos') (fun _ s7 => Q s7) X.xe s6 := fun {σ6 H6 Q} S6 hq => gone_ok (unsuite1 S6 ok) hN hi hln hq
      have less : ∀ {σ7 : L2.St} {H7 : Hp} {s7 : Shared}, Inv X ((a, oe4) :: pins) σ7 H7 s7 → Inv X pins σ7 H7 s7 := fun J7 => ⟨J7.ok, J7.os, J7.bare, J7.base, J7.loc, J7.cell, J7.free, J7.freeC, fun p hp => J7.pin p (by
        rcases List.mem_append.mp hp with h | h
        · exact List.mem_append_left _ h
        · exact List.mem_append_right _ (List.mem_cons_of_mem _ h)), J7.hok, J7.len⟩
      cases f with
      | next =>
        obtain ⟨σ6, H6, S6, q6⟩ := hsp
        refine fin S6 fun s7 J7 => ?_
        obtain ⟨g1, g2, _⟩ := J7.pin (a, oe4) (List.mem_append_right _ List.mem_cons_self)
        refine ⟨_, _, track (less J7) g2 n0 nL (fun x c e z => ?_) (fun p hp z => ?_) (exh_ok g1 hz4 hd4), q6 g2⟩
        · obtain ⟨v, o, ho, hd⟩ := J7.cell x c e
          rw [z, g1] at ho; cases ho
          rw [hd4] at hd; cases hd
        · have P1 := (J.pin p hp).1
          rw [z, nI] at P1; cases P1
      | brk =>
        obtain ⟨σ6, H6, S6, q6⟩ := hsp
        exact fin S6 fun s7 J7 => ⟨_, _, less J7, q6⟩
      | cont =>
        obtain ⟨σ6, H6, S6, q6⟩ := hsp
        exact fin S6 fun s7 J7 => ⟨_, _, less J7, q6⟩
      | ret u =>
        obtain ⟨v6, σ6, H6, S6, r6, q6⟩ := hsp
        exact fin S6 fun s7 J7 => ⟨_, _, _, less J7, r6, q6⟩
    | false =>
      show wpAny _ X.A (handleBy (.ref a) X.env []) _ _ _
      refine wpAny_handleBy_nil ?_
      obtain ⟨k1, k2, k3, oe, vs, T, oT, ts', he, hz, hd, h1, hr⟩ := id fl3
      unfold PySem.passOn
      refine wpAny_bind (wpAny_field he hd h1 ?_)
      rw [if_neg (show ¬ ((Value.ref T == Value.none) = true) from by simp)]
      have gone : wpAny (model X.prog X.w) X.A (setFlight (.ref a) X.env.frame) (fun _ s4 => wpAny (model X.prog X.w) X.A (throw (.ref a) : Sem Flow) (SP X pins D) X.xe s4) X.xe { s' with heap := h3 } := by
        rw [hf]
        refine HandSPX.setFlight_upZ fl3 fun h4 hh4 up4 => wpAny_throw (tk _ _ ?_)
        exact ⟨a, B, sI, pins, σ', H', cls, d, rfl, J, nb, (up.trans up3).trans up4, .inr (.inr (by rw [hs]; exact hh4)), na, os, ag, hno rfl⟩
      first
        | exact wpAny_bind (wpAny_pure (wpAny_bind gone))
        | exact wpAny_bind gone
  · cases f with
    | next =>
      obtain ⟨σ', H', J', q⟩ := hsp
      exact wpAny_execs_nil ⟨σ', H', J'.ofTry ok, q⟩
    | brk =>
      obtain ⟨σ', H', J', q⟩ := hsp
      exact ⟨σ', H', J'.ofTry ok, q⟩
    | cont =>
      obtain ⟨σ', H', J', q⟩ := hsp
      exact ⟨σ', H', J'.ofTry ok, q⟩
    | ret u =>
      obtain ⟨v, σ', H', J', r, q⟩ := hsp
      exact ⟨v, σ', H', J'.ofTry ok, r, q⟩
end
/-! ### asked and read -/
theorem exh_at {X : Cx} {pins : List (Addr × Obj)} {σ : L2.St} {H : Hp} {s : Shared} {a D : Addr} {fs : List (Str × V)} (I : Inv X pins σ H s) (h : Exh H a D fs) :
    ∃ (oe : Obj) (od : Obj) (d : Addr) (mA : Str → Option Value), PySem.W.InstAt s.heap a oe D (some od) ∧ s.heap.Ns1 d mA ∧ (∀ f, RelO (fs.lookup f) (mA f)) := by
  obtain ⟨d, ea, ed⟩ := h
  have x1 : ObjOk X.prog X.w H s.heap a (.ext fun h => ∃ (oe : Obj) (vs : Array Value), h.get? a = some oe ∧ oe.cls = .ref D ∧ oe.dict = some d ∧ oe.data = .fields vs) := I.hok a _ ea
  obtain ⟨oe, vs, ho, hc, hdd, hv⟩ := x1.1
  have x2 : ObjOk X.prog X.w H s.heap d (.xd fs) := I.hok d _ ed
  obtain ⟨mA, hns, hr⟩ := x2
  obtain ⟨od, hod, _⟩ := lookIn_ns hns
  exact ⟨oe, od, d, mA, ⟨ho, hc, by unfold PySem.W.notCls; rw [hv] <;> rfl, by rw [hdd]; exact hod⟩, hns, hr⟩
def rIsX (K : PySem.W.Frag) : List V → Hp → VK → Prop := fun xs H Q => ∃ (a D : Addr) (fs : List (Str × V)) (c : V) (cv : Value) (b : Bool), xs = [.ref a, c] ∧ ExcC K D ∧ Exh H a D fs ∧ ClsV c cv ∧ PySem.W.kitOne K (.ref D) cv = some b ∧ Q (.bl b) H
theorem call_isX {X : Cx} : CallR X (.builtin "isinstance") (rIsX X.K) := by
  intro pins s σ H xs us Q I r hw
  obtain ⟨a, D, fs, c, cv, b, e0, T, hE, hcv, hb, q⟩ := hw
  subst e0
  match us, r with
  | [_, _], .cons rx (.cons rt .nil) =>
    cases rx
    have e1 := hcv.eq rt
    subst e1
    obtain ⟨oe, od, d, mA, here, _⟩ := exh_at I hE
    obtain ⟨cd, hcd, _⟩ := PySem.W.any_some T.hd
    exact PySem.W.kia_one (PySem.W.kitx_exc (by rw [hcd]; rfl) T.hg T.hk T.hs T.ha T.hn T.ht T.hm) I.kIn here hb (fun z => nomatch z) fun tk => ⟨.bl b, H, I.kept (t' := tk) fun _ _ z => z, rfl, q⟩
theorem kisX {X : Cx} (K : PySem.W.Frag) (h : X.K = K := by rfl) : CallR X (.builtin "isinstance") (rIsX K) := h ▸ call_isX
def tFldX (K : PySem.W.Frag) (f : Str) (te : TE) : TE := fun σ H Q => te σ H fun x H1 => ∃ (a C : Addr) (fs : List (Str × V)) (v : V), x = .ref a ∧ XfC K C ∧ PySem.W.findIn K (.ref C) f = some none ∧ Exh H1 a C fs ∧ fs.lookup f = some v ∧ Q v H1
theorem pe_fldX {X : Cx} {e : Expr} {te : TE} {pos : Pos} {f : Str} (he : PE X e te) (hb : attributeBase e f X.env (eval e X.env) = eval e X.env := by rfl) : PE X (.Attribute e f pos) (tFldX X.K f te) := by
  refine ⟨fun pins s σ H Q I hw => attr_of hb (thn (he.run pins s σ H _ I hw) fun u s1 ⟨x, H1, I1, rx, a, C, fs, v, e0, T, hno, ⟨d, ea, ed⟩, l, q⟩ => ?_)⟩
  subst e0
  cases rx
  have x1 : ObjOk X.prog X.w H1 s1.heap a (.ext fun h => ∃ (oe : Obj) (vs : Array Value), h.get? a = some oe ∧ oe.cls = .ref C ∧ oe.dict = some d ∧ oe.data = .fields vs) := I1.hok a _ ea
  obtain ⟨oe, vs, ho, hc, hdd, hv⟩ := x1.1
  have x2 : ObjOk X.prog X.w H1 s1.heap d (.xd fs) := I1.hok d _ ed
  obtain ⟨mA, hns, hr⟩ := x2
  obtain ⟨od, hod, hl⟩ := lookIn_ns hns
  obtain ⟨w, hw, rw'⟩ := RelO.some_of (v := v) (o := mA f) (by rw [← l]; exact hr f)
  have here : PySem.W.InstAt s1.heap a oe C (some od) := ⟨ho, hc, by unfold PySem.W.notCls; rw [hv] <;> rfl, by rw [hdd]; exact hod⟩
  exact HandSPX.exc_get I1.kIn here T.ga T.gg T.exC (PySem.W.findObj_own T.hdC hno rfl (by rw [hl, hw])) (handed_of rw') ⟨v, H1, I1.tok _, rw', q⟩
section
variable {K : PySem.W.Frag} {σ : L2.St} {H : Hp} {Q : VK} {a D C : Addr} {fs : List (Str × V)} {b : Bool} {te : TE} {f : Str}
theorem isX (T : ExcC K D) (he : Exh H a D fs) (hq : PySem.W.kitOne K (.ref D) (.ref C) = some b) (q : Q (.bl b) H) : rIsX K [.ref a, .ref C] H Q := ⟨a, D, fs, _, _, b, rfl, T, he, .own C, hq, q⟩
theorem isXt {n : String} (T : ExcC K D) (he : Exh H a D fs) (hq : PySem.W.kitOne K (.ref D) (.type n) = some b) (q : Q (.bl b) H) : rIsX K [.ref a, .ty n] H Q := ⟨a, D, fs, _, _, b, rfl, T, he, .ty n, hq, q⟩
theorem fldX (h : te σ H fun x H1 => ∃ (a C : Addr) (fs : List (Str × V)) (v : V), x = .ref a ∧ XfC K C ∧ PySem.W.findIn K (.ref C) f = some none ∧ Exh H1 a C fs ∧ fs.lookup f = some v ∧ Q v H1) : tFldX K f te σ H Q := h
end
end HS
namespace HS
open PySem PySem.Spec PyProof.Rows L2
/-! ### methods and classes that may raise, called where the slots are known -/
def tMethS (C : Addr) (m : Str) (sp : Sp) (E : L2.St → XK) (ta : TE) (t : TA) : TE := fun σ H Q => ta σ H fun x H1 => ∃ a dx fs, x = .ref a ∧ H1 a = some (.ins C dx fs) ∧ fs.lookup m = none ∧ t σ H1 fun vs H2 => sp (x :: vs) H2 Q (E σ)
def tMethN (C : Addr) (m : Str) (n k : Nat) (gV : List V → List V → List V) (sp : Sp) (E : L2.St → XK) (ta : TE) (t tk : TA) : TE := fun σ H Q => ta σ H fun x H1 => ∃ a dx fs, x = .ref a ∧ H1 a = some (.ins C dx fs) ∧ fs.lookup m = none ∧ t σ H1 fun vs H2 => tk σ H2 fun zs H3 => (x :: vs).length = n ∧ zs.length = k ∧ sp (gV (x :: vs) zs) H3 Q (E σ)
def tMakeS (C : Addr) (sp : Sp) (E : L2.St → XK) (t : TA) : TE := fun σ H Q => t σ H fun vs H1 => ∀ x dx, H1 x = none → H1 dx = none → dx ≠ x → sp (.ref x :: vs) (upd (upd H1 dx (.own x)) x (.ins C dx [])) (fun v H2 => v = .non ∧ Q (.ref x) H2) (E σ)
def tMakeN (C : Addr) (n k : Nat) (gV : List V → List V → List V) (sp : Sp) (E : L2.St → XK) (t tk : TA) : TE := fun σ H Q => t σ H fun vs H1 => tk σ H1 fun zs H2 => ∀ x dx, H2 x = none → H2 dx = none → dx ≠ x → (V.ref x :: vs).length = n ∧ zs.length = k ∧ sp (gV (.ref x :: vs) zs) (upd (upd H2 dx (.own x)) x (.ins C dx [])) (fun v H3 => v = .non ∧ Q (.ref x) H3) (E σ)
section
variable {X : Cx} {CX : CXT} {k n : Nat} {f C : Addr} {fd : FuncData} {ps ks : List Str} {sp : Sp} {E : L2.St → XK} {E0 : XK} {x m : Str} {p pos apos : Pos} {e o : Expr} {es : List Expr} {kws : List Keyword} {ta : TE} {t tk : TA} {g : List Value → List Value → List Value} {gV : List V → List V → List V}
theorem passSt (h : Passes CX X E0) (σ : L2.St) : PassesAt CX X σ E0 := fun pins H s e s' I c => h pins σ H s e s' I c
theorem runK {pins : List (Addr × Obj)} {σ : L2.St} {H : Hp} {s : Shared} {Q : VK} {us ws : List Value} {vs zs : List V} (F : FnOk X.prog X.w X.K X.mg X.base CX k f fd ps sp) (hr : Room k X.A) (hb : KBX X.K fd ps n ks g gV) (hx : PassesAt CX X σ (E σ))
    (I : Inv X pins σ H s) (r : Vals vs us) (rz : Vals zs ws) (l1 : vs.length = n) (l2 : zs.length = ks.length) (h : sp (gV vs zs) H Q (E σ)) : wpAny (model X.prog X.w) X.A (call (.ref f) us (ks.zip ws)) (EP X pins σ Q) X.xe s := by
  have l3 : us.length = n := by rw [← r.length]; exact l1
  have l4 : ws.length = ks.length := by rw [← rz.length]; exact l2
  refine wpAny_call (codeAny_mono (F.run X.A X.stack s H ⟨us, ks.zip ws⟩ (g us ws) (gV vs zs) Q (E σ) hr I.env0 (hb.to s us ws l3 l4) (hb.rel r rz) h) fun r s' hq => ?_)
  match r, hq with
  | .error e, hq => exact hx pins H s e s' I hq
  | .ok (.ret u), hq => exact I.after hq
theorem pe_methS {pl : Sem Bool} (he : PE X o ta) (c : Cls X.K C) (hm : Meth X.K C m f) (F : FnOk X.prog X.w X.K X.mg X.base CX k f fd ps sp) (hr : Room k X.A) (hb : Binds X.K fd ps []) (hx : ∀ σ, PassesAt CX X σ (E σ)) (ha : PA X (e :: es) t)
    (hst : starEach (e :: es) X.env = (false, eval e X.env) :: starEach es X.env := by rfl) (hpl : (backTo pos (starEach es X.env)).any (·.1) = false := by rfl)
    (ht : eval (.Call (.Attribute o m apos) (e :: es) [] pos) X.env = (do
      let ov ← eval o X.env
      standAt apos.atName
      let (f, first) ← holding [ov] (getMethod ov m pl)
      callWith pos f first (backTo pos (starEach (e :: es) X.env)) (backToKw pos (keywordEach [] X.env))) := by rfl) :
    PE X (.Call (.Attribute o m apos) (e :: es) [] pos) (tMethS C m sp E ta t) := by
  refine ⟨fun pins s σ H Q I hw => ?_⟩
  refine PySem.W.methodCall_KW (pl := pl) (thn (he.run pins s σ H _ I hw) fun u s1 ⟨x, H1, I1, rx, a, dx, fs, ex, ea, l, q⟩ => ?_) ht
  subst ex
  cases rx
  refine getmeth_ok I1 ea c hm l ?_
  refine PySem.W.callWith_K (first := [.ref a]) (h₀ := X.base) I.ok.mod.kin hm.kp (thn (ha.run pos pins s1 σ H1 _ I1 q) fun us s2 ⟨vs, H2, I2, r, q2⟩ => ⟨I2.kIn, ?_⟩) hst hpl
  exact run_fnS (us := .ref a :: us) (vs := .ref a :: vs) F hr hb (hx σ) I2 (.cons rfl r) q2
theorem pe_methS0 {pl : Sem Bool} (he : PE X o ta) (c : Cls X.K C) (hm : Meth X.K C m f) (F : FnOk X.prog X.w X.K X.mg X.base CX k f fd ps sp) (hr : Room k X.A) (hb : Binds X.K fd ps []) (hx : ∀ σ, PassesAt CX X σ (E σ))
    (ht : eval (.Call (.Attribute o m apos) [] [] pos) X.env = (do
      let ov ← eval o X.env
      standAt apos.atName
      let (f, first) ← holding [ov] (getMethod ov m pl)
      callWith pos f first (backTo pos (starEach [] X.env)) (backToKw pos (keywordEach [] X.env))) := by rfl) :
    PE X (.Call (.Attribute o m apos) [] [] pos) (tMethS C m sp E ta tNil) := by
  refine ⟨fun pins s σ H Q I hw => ?_⟩
  refine PySem.W.methodCall_KW (pl := pl) (thn (he.run pins s σ H _ I hw) fun u s1 ⟨x, H1, I1, rx, a, dx, fs, ex, ea, l, q⟩ => ?_) ht
  subst ex
  cases rx
  refine getmeth_ok I1 ea c hm l ?_
  exact PySem.W.callWith_K0 (first := [.ref a]) I1.kIn hm.kp (run_fnS (us := [.ref a]) (vs := [.ref a]) F hr hb (hx σ) I1 (.cons rfl .nil) q)
/-- o.m(k = v, ..) -/
theorem pe_methN0 {pl : Sem Bool} (he : PE X o ta) (c : Cls X.K C) (hm : Meth X.K C m f) (F : FnOk X.prog X.w X.K X.mg X.base CX k f fd ps sp) (hr : Room k X.A) (hb : KBX X.K fd ps n ks g gV) (hx : ∀ σ, PassesAt CX X σ (E σ)) (hkw : PK X kws tk)
    (h0 : (backToKw pos (keywordEach kws X.env)).all (·.1.isSome) = true := by rfl) (hks : (backToKw pos (keywordEach kws X.env)).filterMap (·.1) = ks := by rfl)
    (h3 : ((backTo pos (starEach [] X.env)).any (·.1) || (backToKw pos (keywordEach kws X.env)).any (·.1.isNone)) = false := by rfl)
    (ht : eval (.Call (.Attribute o m apos) [] kws pos) X.env = (do
      let ov ← eval o X.env
      standAt apos.atName
      let (f, first) ← holding [ov] (getMethod ov m pl)
      callWith pos f first (backTo pos (starEach [] X.env)) (backToKw pos (keywordEach kws X.env))) := by rfl) :
    PE X (.Call (.Attribute o m apos) [] kws pos) (tMethN C m n ks.length gV sp E ta tNil tk) := by
  refine ⟨fun pins s σ H Q I hw => ?_⟩
  refine PySem.W.methodCall_KW (pl := pl) (thn (he.run pins s σ H _ I hw) fun u s1 ⟨x, H1, I1, rx, a, dx, fs, ex, ea, l, q⟩ => ?_) ht
  subst ex
  cases rx
  refine getmeth_ok I1 ea c hm l ?_
  refine PySem.W.callWith_KW0 (first := [.ref a]) (h₀ := X.base) I.ok.mod.kin hm.kp h0 (thn (hkw.run pos pins s1 σ H1 _ I1 q) fun ws s2 ⟨zs, H2, I2, rz, l1, l2, y2⟩ => ⟨I2.kIn, ?_⟩) h3
  rw [hks]
  exact runK (us := [.ref a]) (vs := [.ref a]) F hr hb (hx σ) I2 (.cons rfl .nil) rz l1 l2 y2
/-- a new instance whose maker may raise -/
theorem runMk {pins : List (Addr × Obj)} {σ : L2.St} {H : Hp} {s : Shared} {Q : VK} {us ws : List Value} (M : Mk X.K C f) (F : FnOk X.prog X.w X.K X.mg X.base CX k f fd ps sp) (hr : Room (k + 1) X.A)
    (hx : PassesAt CX X σ (E σ)) (I : Inv X pins σ H s) {args : List V} {as' : List Value} (ra : ∀ x, Vals (.ref x :: args) (.ref x :: as')) (hbt : ∀ s', X.K.In s'.heap → BindsTo s' fd ⟨Value.ref (s.heap.objs.size + 1) :: us, ks.zip ws⟩ (ps.zip (Value.ref (s.heap.objs.size + 1) :: as')))
    (h : ∀ x dx, H x = none → H dx = none → dx ≠ x → sp (.ref x :: args) (upd (upd H dx (.own x)) x (.ins C dx [])) (fun v H2 => v = .non ∧ Q (.ref x) H2) (E σ)) :
    wpAny (model X.prog X.w) X.A (call (.ref C) us (ks.zip ws)) (EP X pins σ Q) X.xe s := by
  have hq := h (s.heap.objs.size + 1) s.heap.objs.size (I.hok.fresh (Nat.le_succ _)) (I.hok.fresh (Nat.le_refl _)) (Nat.ne_of_lt (Nat.lt_succ_self _))
  have I2 := Inv.made (C := C) I
  refine wpAny_call (make_map (f := f) I.kIn M.makes M.init (beq_iff_eq.mp M.fn) (codeAny_mono (F.run _ X.stack _ _ ⟨Value.ref (s.heap.objs.size + 1) :: us, ks.zip ws⟩ (Value.ref (s.heap.objs.size + 1) :: as') _ _ (E σ) (hr.make C us (ks.zip ws))
    (I2.env0.make C us (ks.zip ws)) (hbt _ I2.kIn) (ra _) hq) fun r s' hq' => ?_))
  match r, hq' with
  | .error e, hq' => exact hx pins _ _ e s' I2 hq'
  | .ok (.ret u), hq' =>
    obtain ⟨v, H', I3, rv, ev, q3⟩ := I2.after hq'
    subst ev
    exact ⟨rv, ⟨V.ref (s.heap.objs.size + 1), H', I3, rfl, q3⟩⟩
theorem pe_makeS (M : Mk X.K C f) (F : FnOk X.prog X.w X.K X.mg X.base CX k f fd ps sp) (hr : Room (k + 1) X.A) (hg : Gl X x) (hm : X.mg x = some (.ref C)) (hb : Binds X.K fd ps []) (hx : ∀ σ, PassesAt CX X σ (E σ))
    (ha : PA X (e :: es) t) (hdb : (x == ("__debug__" : Str)) = false := by decide) (he : starEach (e :: es) X.env = (false, eval e X.env) :: starEach es X.env := by rfl) (hpl : (backTo pos (starEach es X.env)).any (·.1) = false := by rfl) :
    PE X (.Call (.Name x p) (e :: es) [] pos) (tMakeS C sp E t) := by
  refine ⟨fun pins s σ H Q I hw => ?_⟩
  refine wpAny_Call_Name_kw (ld_glob I hg hm ?_ hdb)
  refine PySem.W.callWith_K (h₀ := X.base) I.ok.mod.kin M.kp (thn (ha.run pos pins s σ H _ I hw) fun us s1 ⟨vs, H1, I1, r, q⟩ => ⟨I1.kIn, ?_⟩) he hpl
  have q0 := q (s1.heap.objs.size + 1) s1.heap.objs.size (I1.hok.fresh (Nat.le_succ _)) (I1.hok.fresh (Nat.le_refl _)) (Nat.ne_of_lt (Nat.lt_succ_self _))
  have hl : (Value.ref (s1.heap.objs.size + 1) :: us).length = ps.length := by
    have r2 : Vals (V.ref (s1.heap.objs.size + 1) :: vs) (Value.ref (s1.heap.objs.size + 1) :: us) := .cons rfl r
    rw [← r2.length]; exact F.len _ _ _ _ q0
  refine runMk (us := us) (ks := []) (ws := []) M F hr (hx σ) I1 (fun x => .cons rfl r) (fun s' k' => ?_) q
  have b := hb s' (Value.ref (s1.heap.objs.size + 1) :: us) k' (by rw [List.append_nil]; exact hl)
  rw [List.append_nil] at b
  exact b
/-- C(k = v, ..) -/
theorem pe_makeN0 (M : Mk X.K C f) (F : FnOk X.prog X.w X.K X.mg X.base CX k f fd ps sp) (hr : Room (k + 1) X.A) (hg : Gl X x) (hm : X.mg x = some (.ref C)) (hb : KBX X.K fd ps n ks g gV) (hx : ∀ σ, PassesAt CX X σ (E σ)) (hkw : PK X kws tk) (hg1 : ∀ (a : Value) (ws : List Value), ∃ as', g [a] ws = a :: as' ∧ ∀ b, g [b] ws = b :: as')
    (hg2 : ∀ (a : V) (zs : List V), ∃ as', gV [a] zs = a :: as' ∧ ∀ b, gV [b] zs = b :: as')
    (h0 : (backToKw pos (keywordEach kws X.env)).all (·.1.isSome) = true := by rfl) (hks : (backToKw pos (keywordEach kws X.env)).filterMap (·.1) = ks := by rfl)
    (hdb : (x == ("__debug__" : Str)) = false := by decide) (h3 : ((backTo pos (starEach [] X.env)).any (·.1) || (backToKw pos (keywordEach kws X.env)).any (·.1.isNone)) = false := by rfl) :
    PE X (.Call (.Name x p) [] kws pos) (tMakeN C n ks.length gV sp E tNil tk) := by
  refine ⟨fun pins s σ H Q I hw => ?_⟩
  refine wpAny_Call_Name_kw (ld_glob I hg hm ?_ hdb)
  refine PySem.W.callWith_KW0 (h₀ := X.base) I.ok.mod.kin M.kp h0 (thn (hkw.run pos pins s σ H _ I hw) fun ws s1 ⟨zs, H1, I1, rz, q⟩ => ⟨I1.kIn, ?_⟩) h3
  rw [hks]
  have q0 := q (s1.heap.objs.size + 1) s1.heap.objs.size (I1.hok.fresh (Nat.le_succ _)) (I1.hok.fresh (Nat.le_refl _)) (Nat.ne_of_lt (Nat.lt_succ_self _))
  obtain ⟨l1, l2, _⟩ := q0
  obtain ⟨as', e1, e2⟩ := hg1 (.ref (s1.heap.objs.size + 1)) ws
  obtain ⟨av, f1, f2⟩ := hg2 (.ref (s1.heap.objs.size + 1)) zs
  refine runMk (us := []) (ks := ks) (ws := ws) (args := av) (as' := as') M F hr (hx σ) I1 (fun x => ?_) (fun s' k' => ?_) (fun x dx n1 n2 n3 => ?_)
  · have r := hb.rel (vs := [.ref x]) (us := [.ref x]) (.cons rfl .nil) rz
    rw [f2, e2] at r
    exact r
  · have b := hb.to s' [Value.ref (s1.heap.objs.size + 1)] ws l1 (by rw [← rz.length]; exact l2)
    rw [e1] at b
    exact b
  · have q1 := (q x dx n1 n2 n3).2.2
    rw [f2] at q1
    exact q1
end
section
variable {σ : L2.St} {H : Hp} {Q : VK} {C : Addr} {m : Str} {n k : Nat} {gV : List V → List V → List V} {sp : Sp} {E : L2.St → XK} {ta : TE} {t tk : TA}
theorem omtS (h : ta σ H fun x H1 => ∃ a dx fs, x = .ref a ∧ H1 a = some (.ins C dx fs) ∧ fs.lookup m = none ∧ t σ H1 fun vs H2 => sp (x :: vs) H2 Q (E σ)) : tMethS C m sp E ta t σ H Q := h
theorem omtN (h : ta σ H fun x H1 => ∃ a dx fs, x = .ref a ∧ H1 a = some (.ins C dx fs) ∧ fs.lookup m = none ∧ t σ H1 fun vs H2 => tk σ H2 fun zs H3 => (x :: vs).length = n ∧ zs.length = k ∧ sp (gV (x :: vs) zs) H3 Q (E σ)) : tMethN C m n k gV sp E ta t tk σ H Q := h
theorem omkS (h : t σ H fun vs H1 => ∀ x dx, H1 x = none → H1 dx = none → dx ≠ x → sp (.ref x :: vs) (upd (upd H1 dx (.own x)) x (.ins C dx [])) (fun v H2 => v = .non ∧ Q (.ref x) H2) (E σ)) : tMakeS C sp E t σ H Q := h
theorem omkN (h : t σ H fun vs H1 => tk σ H1 fun zs H2 => ∀ x dx, H2 x = none → H2 dx = none → dx ≠ x → (V.ref x :: vs).length = n ∧ zs.length = k ∧ sp (gV (.ref x :: vs) zs) (upd (upd H2 dx (.own x)) x (.ins C dx [])) (fun v H3 => v = .non ∧ Q (.ref x) H3) (E σ)) : tMakeN C n k gV sp E t tk σ H Q := h
end
end HS
namespace HS
open PySem PySem.Spec PyProof.Rows L2
/-! ### xs.count(y) of plain data -/
def rCntD (K : PySem.W.Frag) : V → List V → Hp → VK → Prop := fun x xs H Q => ∃ (a : Addr) (y : V) (d : PyData) (ds : List PyData), x = V.ref a ∧ xs = [y] ∧ Dp K H (V.ref a) (.list ds) ∧ Dp K H y d ∧ SeqAt.shaped (.list ds) = true ∧ SeqAt.shaped d = true ∧ Q (.int (ds.countP fun z => PyData.eqv z d : Nat)) H
theorem mt_countD {X : Cx} (hu : X.A.units + 65 < cLine) : MtR X "list.count" (rCntD X.K) := by
  intro pins s σ H x xs v us Q I rx rxs h
  obtain ⟨a, y, d, ds, rfl, rfl, hl, hy, sl, sd, q⟩ := h
  cases rx
  match us, rxs with
  | [uy], .cons ry .nil =>
    obtain ⟨bs, r1⟩ := Dp.reads I d y uy hy ry
    have hxs : PyData.canLayAll0 ds = true := SeqAt.canLay_of_shaped sl
    have hroom : X.A.units + 1 + min (PyData.depthAll ds) d.depth < cLine := room_in_shaped sd hu
    match hl with
    | .lst hs ha =>
      obtain ⟨its, rv, ⟨⟨cls, dd, data, sls⟩, n, ho, hc, hdn, hdt⟩, hlen⟩ := I.list hs
      simp only at hc hdt
      subst hc hdt
      obtain ⟨as, h4⟩ := Dp.readsAll I ds _ its ha rv
      have hmap : its.map (SeqAt.readOf s.heap) = ds := SeqAt.readsAll_map ds its as hxs h4
      have ec : its.toArray.toList.countP (fun u => PyData.eqv (SeqAt.readOf s.heap u) d) = ds.countP fun z => PyData.eqv z d := by
        rw [← hmap, List.countP_map]; rfl
      refine call_meets PySem.F.slot_list_count ⟨_, ho, rfl⟩ PySem.F.entry_list_count (PySem.F.args_list_count_2 _ _)
        (SeqAt.list_countAt a its.toArray n dd sls uy (fun u => PyData.eqv (SeqAt.readOf s.heap u) d)) ⟨ho, SeqAt.items_eqAt (vs := its.toArray) (show ReadsAll s.heap its.toArray.toList ds as from h4) r1 hxs (SeqAt.canLay_of_shaped sd) hroom, ?_⟩
      refine ⟨.int (ds.countP fun z => PyData.eqv z d : Nat), H, I.tok _, ⟨s.toks, ?_⟩, q⟩
      show Value.int ((its.toArray.toList.countP (fun u => PyData.eqv (SeqAt.readOf s.heap u) d) : Nat) : Int) s.toks = Value.int ((ds.countP fun z => PyData.eqv z d : Nat) : Int) s.toks
      rw [ec]
end HS
namespace HS
open PySem PySem.Spec PyProof.Rows L2
theorem hu65 {A : PySem.Around} {k : Nat} (hr : L2.Room k A) : A.units + 65 < PySem.cLine := by have := hr.un; omega
section
variable {X : Cx} (K : PySem.W.Frag)
theorem kcountD (hu : X.A.units + 65 < cLine) (h : X.K = K := by rfl) : MtR X "list.count" (rCntD K) := h ▸ mt_countD hu
theorem kindexD (hu : X.A.units + 65 < cLine) (h : X.K = K := by rfl) : MtR X "list.index" (rIndexD K) := h ▸ mt_indexD hu
theorem kunl {tg : Expr} {n : Nat} {t : TGs} (p : PG X tg (gUnl X.K n t)) (h : X.K = K := by rfl) : PG X tg (gUnl K n t) := h ▸ p
end
section
variable {K : PySem.W.Frag} {σ : L2.St} {H : Hp} {Q : VK}
theorem gunl {n : Nat} {t : TGs} {a : Addr} {xs : List V} {q : L2.St → Hp → Prop} (h : SqL K H a xs) (e : xs.length = n) (k : t xs σ H q) : gUnl K n t (.ref a) σ H q := ⟨a, xs, rfl, h, e, k⟩
end
end HS
/-! A for whose body hands out (own rule over HandS.GenBody). -/
namespace HS
open PySem PySem.Spec PyProof.Rows L2
def tGFor (wi : TI) (g : TG) (tb : TGn) : TGn := fun D ys σ H => wi σ H fun J H1 => ∃ W : Nat → Nat → List V → L2.St → Hp → Prop, (∃ m, W 0 m ys σ H1) ∧ ∀ i m ys σ H, W i m ys σ H →
  (J.stop i H ∧ D.nx ys σ H) ∨ (J.go i H ∧ ∃ N : List V → L2.St → Hp → Prop, (∀ ys' σ' H', N ys' σ' H' → ∃ m', m' < m ∧ W (i + 1) m' ys' σ' H') ∧ ∀ x H', J.yld i H x H' → g x σ H' fun σ2 H2 => tb { D with nx := N, ct := N, bk := D.nx } ys σ2 H2)
section
variable {X : Cx}
theorem gs_for {tg iter : Expr} {body : List Stmt} {wi : TI} {g : TG} {tb : TGn} {pos : Pos} (hp : PassesOwn (model X.prog X.w) X.A X.env X.xe) (hc : X.calm = true) (hi : PI X tg iter wi) (hg : PG X tg g) (hb : GSs X body tb)
    (hs : ∀ x, foldedSetIterable iter X.env x = pure x := by intro _; rfl) : GS X (.For tg iter body [] pos) (tGFor wi g tb) := by
  refine ⟨fun A S ip R n ys s₀ c fs K J gd lv s σ H D gc hn k hI ht => ?_⟩
  obtain ⟨acc0, cc0, r0, I0⟩ := hI
  rw [exec_For]
  show Seg _ _ _ _ _ _ _ (.at pos fun _ => (eval iter X.env >>= fun v => (foldedSetIterable iter X.env v >>= fun x => (standAt iter.pos >>= fun _ => (holding [x] (pyIter x) >>= fun itv => runOwn (.forLoop tg itv body [] X.env) X.env)))).wrap K J gd lv) _ _
  refine seg_at (seg_bind_wrap ?_)
  rw [gc.over]
  refine wpAny_mono (hi.run _ s σ H _ I0 ht) (fun v s1 h1 => ?_) fun x s' hx => k.exc n s₀ x s' hx
  rw [hs v]
  refine seg_bind_wrap (wpAny_pure ?_)
  refine seg_bind_wrap (wpAny_standAt ?_)
  refine seg_bind_wrap ?_
  rw [gc.over]
  refine wpAny_holding (wpAny_mono h1 (fun itv s2 h2 => ?_) fun x s' hx => k.exc n s₀ x s' hx)
  obtain ⟨it, fp, tn, Jt, H2, e, I2, T, st2, f2, W, ⟨m0, w0⟩, turn⟩ := h2
  subst e
  have stat : ∀ {H' : Hp} (acc : Array Value) (cc : Nat), (∀ b ∈ fp, H' b = none) → ∀ b ∈ fp, FpOk X ((S, lstObj acc cc) :: ip) H' b := fun {H'} acc cc hn b hb => by
    obtain ⟨_, q1, q2, q3, q4, q5⟩ := f2 b hb
    refine ⟨hn b hb, q1, q2, q3, q4, fun p hp => ?_⟩
    rcases List.mem_append.mp hp with z | z
    · exact q5 p (List.mem_append_left _ z)
    · rcases List.mem_cons.mp z with z | z
      · rw [z]; exact q5 (S, lstObj acc0 cc0) (List.mem_append_right _ List.mem_cons_self)
      · exact q5 p (List.mem_append_right _ (List.mem_cons_of_mem _ z))
  have neS : ∀ b ∈ fp, b ≠ S := fun b hb z => (f2 b hb).2.2.2.2.2 (S, lstObj acc0 cc0) (List.mem_append_right _ List.mem_cons_self) z.symm
  refine seg_call fun p => ?_
  have gl := fun (kk : Result → Sem PySem.Fin) => gc_loop (k := kk) (c' := .forLoop tg (.ref it) body [] X.env) (l := lv []) (kp := []) (p := p) gc rfl rfl
  have loop : ∀ (m i n : Nat) (ys : List V) (s₀ s : Shared) (σ : L2.St) (H : Hp), n + ys.length = sizeLine → W i m ys σ H → GI X S ip ys σ H s → tn i s.heap → (∀ b ∈ fp, H b = none) →
      Seg (model X.prog X.w) A R (GY X S) n s₀ (.forLoop tg (.ref it) body [] X.env) ((model X.prog X.w).den (.forLoop tg (.ref it) body [] X.env))
        (.ret (fun r => ((match r with | .ok f => (.pure f : Sem Flow) | .error e => .raise e).onRaise (cameBack X.env)).wrap K J gd lv) none (gd false) (lv []) c p [] :: fs) s := by
    intro m
    induction m using Nat.strongRecOn with
    | ind m ih =>
      intro i n ys s₀ s σ H hn w hI st fr
      have ee : ∀ (n : Nat) (s₀ : Shared) (x : Value) (s' : Shared), X.xe x s' → Seg (model X.prog X.w) A R (GY X S) n s₀ (.forLoop tg (.ref it) body [] X.env)
          ((do noteFrame x X.env; theTreesLotGoes x : Sem Unit).bind (fun _ => .raise x))
          (.ret (fun r => ((match r with | .ok f => (.pure f : Sem Flow) | .error e => .raise e).onRaise (cameBack X.env)).wrap K J gd lv) none (gd false) (lv []) c p [] :: fs) s' := fun n s₀ x s' hx => by
        rw [Sem.bind_eq_wrap]
        refine seg_wrap ?_
        rw [(gl _).over]
        refine wpAny_bind (wpAny_mono (hp x s' hx) (fun _ s'' hcb => wpAny_theTreesLotGoes ?_) fun y s'' hcb => ?_)
        · exact seg_leaf (.error x) (seg_cameBack gc k hcb)
        · exact seg_leaf (.error y) (seg_cameBack gc k hcb)
      show Seg _ A R (GY X S) n s₀ _ ((forTurn tg (.ref it) body [] X.env).onRaise (fun x => do noteFrame x X.env; theTreesLotGoes x)) _ s
      unfold forTurn
      rw [Sem.onRaise_eq_wrap]
      refine seg_bind_wrap (wpAny_standAt ?_)
      refine seg_bind_wrap ?_
      rw [(gl _).over]
      obtain ⟨acc, cc, r, I⟩ := hI
      rcases turn i m ys σ H w with ⟨stop, qn⟩ | ⟨go, N, hN, step⟩
      · refine wpAny_onRaise (wpAny_mono (T.done X rfl rfl rfl hc i _ s σ H X.xe I (stat acc cc fr) st stop) (fun r' s4 h4 => ?_) fun x s' hx => wpAny_standAt (ee n s₀ x s' hx))
        obtain ⟨hr, I4⟩ := h4
        subst hr
        refine seg_again rfl ?_
        show Seg _ A R (GY X S) n s₀ _ (((execs [] X.env).onRaise (fun x => do noteFrame x X.env; theTreesLotGoes x)) >>= fun f => .pure (Fin.done f)) _ s4
        exact seg_leaf (.ok .next) (k.ok n ys s₀ s4 .next hn ⟨σ, H, ⟨acc, cc, r, I4⟩, qn⟩)
      · refine wpAny_onRaise (wpAny_mono (T.item X rfl rfl rfl hc i _ s σ H X.xe I (stat acc cc fr) st go) (fun r' s4 h4 => ?_) fun x s' hx => wpAny_standAt (ee n s₀ x s' hx))
        obtain ⟨u, hr, h4⟩ := h4
        subst hr
        refine seg_bind_wrap ?_
        rw [(gl _).over]
        refine wpAny_mono h4 (fun _ s5 h5 => ?_) fun x s' hx => ee n s₀ x s' hx
        obtain ⟨x, H5, I5, r5, y5, st5, fr5⟩ := h5
        have I5' := I5.pinned (stat acc cc fr5) (T.obj _ _ st5)
        refine seg_bind_wrap ?_
        rw [(gl _).over]
        refine wpAny_mono (hg.run _ s5 σ H5 x u _ I5' r5 (step x H5 y5)) (fun _ s6 h6 => ?_) fun x s' hx => ee n s₀ x s' hx
        obtain ⟨σ6, H6, I6, q6⟩ := h6
        rw [Sem.bind_eq_wrap', Sem.wrap_wrap]
        refine hb.run A S (ip ++ pinsAt fp s5.heap) R n ys s₀ _ _ _ _ _ _ s6 σ6 H6 { D with nx := N, ct := N, bk := D.nx } ⟨gc.pn, fun p hp => ?_, gc.apart, (gl _).over, (gl _).split, (gl _).guard, rfl⟩ hn ⟨fun n' ys' s₀' s7 f hn' hs => ?_, fun n' s₀' x s3 hx => ee n' s₀' x s3 hx⟩ ⟨acc, cc, r, I6⟩ q6
        · rcases List.mem_append.mp hp with z | z
          · exact gc.ip p z
          · exact neS _ (of_pinsAt z).1
        · have again : ∀ {σ7 : L2.St} {H7 : Hp}, GI X S (ip ++ pinsAt fp s5.heap) ys' σ7 H7 s7 → GI X S ip ys' σ7 H7 s7 ∧ tn (i + 1) s7.heap ∧ ∀ b ∈ fp, H7 b = none := fun {σ7 H7} hI => by
            obtain ⟨acc7, cc7, r7, I7⟩ := hI
            have pin : ∀ b ∈ fp, ∀ o, s5.heap.get? b = some o → s7.heap.get? b = some o ∧ H7 b = none := fun b hb o e => by
              have z := I7.pin (b, o) (List.mem_append_right _ (List.mem_cons_of_mem _ (List.mem_append_right _ (mem_pinsAt hb e))))
              exact ⟨z.1, z.2.1⟩
            have I7' : Inv X ((S, lstObj acc7 cc7) :: ip) σ7 H7 s7 := Inv.unpinned (pins := (S, lstObj acc7 cc7) :: ip) (pl := pinsAt fp s5.heap) I7
            refine ⟨⟨acc7, cc7, r7, I7'⟩, T.keep _ _ _ st5 fun b hb o e => (pin b hb o e).1, fun b hb => ?_⟩
            obtain ⟨o, e, _⟩ := T.obj _ _ st5 b hb
            exact (pin b hb o e).2
          cases f with
          | next =>
            obtain ⟨σ7, H7, I7, n7⟩ := hs
            obtain ⟨m', hm, w7⟩ := hN ys' σ7 H7 n7
            obtain ⟨g1, g2, g3⟩ := again I7
            exact seg_again rfl (ih m' hm (i + 1) n' ys' s₀' s7 σ7 H7 hn' w7 g1 g2 g3)
          | cont =>
            obtain ⟨σ7, H7, I7, n7⟩ := hs
            obtain ⟨m', hm, w7⟩ := hN ys' σ7 H7 n7
            obtain ⟨g1, g2, g3⟩ := again I7
            exact seg_again rfl (ih m' hm (i + 1) n' ys' s₀' s7 σ7 H7 hn' w7 g1 g2 g3)
          | brk =>
            obtain ⟨σ7, H7, I7, q7⟩ := hs
            exact seg_leaf (.ok .next) (k.ok n' ys' s₀' s7 .next hn' ⟨σ7, H7, (again I7).1, q7⟩)
          | ret v =>
            obtain ⟨x7, σ7, H7, I7, r7, q7⟩ := hs
            exact seg_leaf (.ok (.ret v)) (k.ok n' ys' s₀' s7 (.ret v) hn' ⟨x7, σ7, H7, (again I7).1, r7, q7⟩)
  exact loop m0 0 n ys s₀ s2 σ H2 hn w0 ⟨acc0, cc0, r0, I2⟩ st2 fun b hb => (f2 b hb).1
end
end HS
namespace HS
open PySem PySem.Spec PyProof.Rows L2
section
variable {σ : L2.St} {H : Hp} {g : TG} {tb : TGn} {n bk ct : List V → L2.St → Hp → Prop} {rt : List V → VK} {ys : List V}
theorem gfr {wi : TI} (h : wi σ H fun J H1 => ∃ W : Nat → Nat → List V → L2.St → Hp → Prop, (∃ m, W 0 m ys σ H1) ∧ ∀ i m ys σ H, W i m ys σ H →
  (J.stop i H ∧ n ys σ H) ∨ (J.go i H ∧ ∃ N : List V → L2.St → Hp → Prop, (∀ ys' σ' H', N ys' σ' H' → ∃ m', m' < m ∧ W (i + 1) m' ys' σ' H') ∧ ∀ x H', J.yld i H x H' → g x σ H' fun σ2 H2 => tb ⟨N, rt, n, N⟩ ys σ2 H2)) : tGFor wi g tb ⟨n, rt, bk, ct⟩ ys σ H := h
theorem gfor_range {lo : Int} {m : Nat} (Pv : Nat → List V → L2.St → Hp → Prop) (h0 : Pv 0 ys σ H)
    (hs : ∀ i ys σ H, i < m → Pv i ys σ H → g (.int (lo + i)) σ H fun σ2 H2 => tb ⟨Pv (i + 1), rt, n, Pv (i + 1)⟩ ys σ2 H2) (hd : ∀ ys σ H, Pv m ys σ H → n ys σ H) :
    ∃ W : Nat → Nat → List V → L2.St → Hp → Prop, (∃ m, W 0 m ys σ H) ∧ ∀ i m' ys σ H, W i m' ys σ H →
      ((Itr lo m).stop i H ∧ n ys σ H) ∨ ((Itr lo m).go i H ∧ ∃ N : List V → L2.St → Hp → Prop, (∀ ys' σ' H', N ys' σ' H' → ∃ m'', m'' < m' ∧ W (i + 1) m'' ys' σ' H') ∧ ∀ x H', (Itr lo m).yld i H x H' → g x σ H' fun σ2 H2 => tb ⟨N, rt, n, N⟩ ys σ2 H2) := by
  refine ⟨fun i k ys σ H => k = m - i ∧ i ≤ m ∧ Pv i ys σ H, ⟨m, by simp, Nat.zero_le _, h0⟩, ?_⟩
  rintro i k ys σ H ⟨rfl, hi, p⟩
  by_cases hlt : i < m
  · refine .inr ⟨hlt, Pv (i + 1), fun ys' σ' H' p' => ⟨m - (i + 1), by omega, rfl, hlt, p'⟩, fun x H' y => ?_⟩
    obtain ⟨rfl, rfl⟩ := y
    exact hs i ys σ _ hlt p
  · have e : i = m := by omega
    subst e
    exact .inl ⟨Nat.le_refl _, hd ys σ H p⟩
end
end HS
/-! Powers of great numbers, [x] * n. -/
namespace HS
open PySem PySem.Spec PyProof.Rows L2
def CPowW (i j : Int) : Prop := 0 ≤ j ∧ (Builtin.Int.intBits i : Int) * j ≤ 2 ^ 27
section
variable {X : Cx} {σ : L2.St} {H : Hp} {Q : VK}
theorem op_powW : OpR X (binaryOp .Pow) (rI CPowW fun i j => .int (i ^ j.toNat)) := opI fun _ _ _ _ _ _ _ hc q => pow_int hc.1 hc.2 q
theorem bits_le {i : Int} (k : Nat) (h0 : 0 ≤ i) (h : i < 2 ^ k) : Builtin.Int.intBits i ≤ k := by
  unfold Builtin.Int.intBits
  by_cases z : i = 0
  · subst z; exact Nat.zero_le _
  · rw [if_neg (by simpa using z)]
    have z' : i.natAbs ≠ 0 := by omega
    have : i.natAbs.log2 < k := (Nat.log2_lt z').mpr (by
      have : ((i.natAbs : Nat) : Int) < ((2 ^ k : Nat) : Int) := by rw [Int.natAbs_of_nonneg h0]; simpa using h
      exact Int.ofNat_lt.mp this)
    omega
theorem powW {i : Int} (k : Nat) {j : Int} (h0 : 0 ≤ i) (h : i < 2 ^ k) (hj : 0 ≤ j) (hk : (k : Int) * j ≤ 2 ^ 27) : CPowW i j := by
  refine ⟨hj, Int.le_trans (Int.mul_le_mul_of_nonneg_right ?_ hj) hk⟩
  exact Int.ofNat_le.mpr (bits_le k h0 h)
theorem flat_one {v : V} : ∀ n : Nat, (List.replicate n [v]).flatten = List.replicate n v
  | 0 => rfl
  | n + 1 => by rw [List.replicate_succ, List.flatten_cons, flat_one n]; rfl
theorem rep1 {p : Addr} {v : V} {k : Int} (h : H p = some (.lst [v])) (hk : k ≤ 1000000) (h0 : 0 ≤ k) (q : ∀ p, H p = none → Q (.ref p) (upd H p (.lst (List.replicate k.toNat v)))) : rRep (.ref p) (.int k) H Q := by
  refine ⟨p, k, _, rfl, rfl, h, by omega, by omega, ?_, fun p hp => ?_⟩
  · rw [List.length_singleton, sizeLine_eq]; omega
  · rw [flat_one]; exact q p hp
end
end HS
/-! repr of lists of ints, and == of texts. -/
namespace HS
open PySem PySem.Spec PyProof.Rows L2
section
variable {H : Hp} {Q : VK} {K : PySem.W.Frag}
theorem rep {a : Addr} {d : PyData} (h : Dp K H (.ref a) d) (t : tame d = true) (hd : d.depth ≤ 60) (hb : d.bulk ≤ 60000) (q : Q (.str d.shown) H) : rRepr K [.ref a] H Q := ⟨a, d, rfl, h, t, hd, hb, q⟩
theorem eqSS {x : Str} (q : Q (.bl true) H) : rEq (.str x) (.str x) H Q := ⟨rfl, by rw [decide_eq_true rfl]; exact q⟩
theorem neSS {x : Str} (q : Q (.bl false) H) : rNe (.str x) (.str x) H Q := ⟨rfl, by rw [decide_eq_true rfl]; exact q⟩
/-- ints that are shown -/
def Tm (ns : List Int) : Prop := (∀ x ∈ ns, x.natAbs < 2 ^ 200) ∧ ns.length ≤ 5000
theorem tame_ints : ∀ ns : List Int, (∀ x ∈ ns, x.natAbs < 2 ^ 200) → tameAll (ns.map .int) = true
  | [], _ => rfl
  | n :: r, h => by
    rw [List.map_cons, tameAll, tame_ints r fun x hx => h x (List.mem_cons_of_mem _ hx)]
    simp only [tame, Bool.and_true]
    exact decide_eq_true (h n List.mem_cons_self)
theorem bulk_ints : ∀ ns : List Int, PyData.bulkAll (ns.map .int) = ns.length
  | [] => rfl
  | n :: r => by rw [List.map_cons, PyData.bulkAll, bulk_ints r, PyData.bulk, List.length_cons]; omega
theorem tm_tame {ns : List Int} (h : Tm ns) : tame (dInts ns) = true := by unfold dInts; rw [tame]; exact tame_ints ns h.1
theorem tm_bulk {ns : List Int} (h : Tm ns) : (dInts ns).bulk ≤ 5000 := by unfold dInts; rw [PyData.bulk, bulk_ints]; exact h.2
theorem dInts_depth (ns : List Int) : (dInts ns).depth = 1 := by unfold dInts; rw [PyData.depth, dep_ints]
/-- repr of a list of ints -/
theorem repI {a : Addr} {ns : List Int} (h : SqL K H a (ns.map V.int)) (t : Tm ns) (q : Q (.str (dInts ns).shown) H) : rRepr K [.ref a] H Q :=
  rep (dp_ints h) (tm_tame t) (by rw [dInts_depth]; decide) (Nat.le_trans (tm_bulk t) (by decide)) q
/-- repr of a list of two lists of ints -/
def dII (xs ys : List Int) : PyData := .list [dInts xs, dInts ys]
theorem repII {a p r : Addr} {xs ys : List Int} (h : SqL K H a [.ref p, .ref r]) (h1 : SqL K H p (xs.map V.int)) (h2 : SqL K H r (ys.map V.int)) (t1 : Tm xs) (t2 : Tm ys) (q : Q (.str (dII xs ys).shown) H) : rRepr K [.ref a] H Q := by
  refine rep (.lst h (.cons (dp_ints h1) (.cons (dp_ints h2) .nil))) ?_ ?_ ?_ q
  · rw [tame, tameAll, tameAll, tameAll, tm_tame t1, tm_tame t2]; rfl
  · rw [PyData.depth, PyData.depthAll, PyData.depthAll, PyData.depthAll, dInts_depth, dInts_depth]; decide
  · have := tm_bulk t1
    have := tm_bulk t2
    rw [PyData.bulk, PyData.bulkAll, PyData.bulkAll, PyData.bulkAll]; omega
theorem tm_of {ns : List Int} {B : Int} (hB : B < 2 ^ 200) (h : ∀ x ∈ ns, 0 ≤ x ∧ x ≤ B) (hl : ns.length ≤ 5000) : Tm ns := ⟨fun x hx => by have := h x hx; omega, hl⟩
end
end HS
/-! Texts: joined, shown ints, ==. -/
namespace HS
open PySem PySem.Spec PyProof.Rows L2
section
variable {σ : L2.St} {H : Hp} {Q : VK} {te to : TE} {K : PySem.W.Frag}
theorem js {t : TE} {ts : List TE} {acc : Str} {q : Str → Hp → Prop} (h : t σ H fun x H1 => ∃ y : Str, x = .str y ∧ (acc ++ y).length ≤ sizeLine ∧ tJs ts (acc ++ y) σ H1 q) : tJs (t :: ts) acc σ H q := h
theorem jsn {acc : Str} {q : Str → Hp → Prop} (h : q acc H) : tJs [] acc σ H q := h
theorem fmt (h : te σ H fun x H1 => (∃ y : Str, x = .str y ∧ y.length ≤ sizeLine ∧ Q (.str y) H1) ∨ ∃ i : Int, x = .int i ∧ i.natAbs.log2 < 1920 ∧ Q (.str (toString i)) H1) : tFmt te σ H Q := h
theorem fmtI {i : Int} (h : i.natAbs.log2 < 1920 ∧ Q (.str (toString i)) H) : (∃ y : Str, V.int i = .str y ∧ y.length ≤ sizeLine ∧ Q (.str y) H) ∨ ∃ j : Int, V.int i = .int j ∧ j.natAbs.log2 < 1920 ∧ Q (.str (toString j)) H := .inr ⟨i, rfl, h⟩
theorem m1S {r : V → List V → Hp → VK → Prop} (h : to σ H fun x H1 => (∃ a, x = .str a) ∧ te σ H1 fun y H2 => r x [y] H2 Q) : tM1 r to te σ H Q := h
theorem m0S {r : V → List V → Hp → VK → Prop} (h : to σ H fun x H1 => (∃ a, x = .str a) ∧ r x [] H1 Q) : tM0 r to σ H Q := h
theorem strE {x : Str} {A : Prop} (h : A) : (∃ a, V.str x = .str a) ∧ A := ⟨⟨x, rfl⟩, h⟩
theorem atN {α : Type} {xs : List α} {i : Int} {v : α} (j : Nat) (e : i = j) (h : xs[j]? = some v) : atI xs i = some v := by
  subst e
  have hj := (List.getElem?_eq_some_iff.mp h).1
  unfold atI ixN
  rw [if_pos (by omega), if_pos (by omega)]
  exact h
theorem lg {z : Int} (h : z.natAbs < 2 ^ 200) : z.natAbs.log2 < 1920 := by
  by_cases e : z.natAbs = 0
  · rw [e]; decide
  · exact Nat.lt_of_lt_of_le ((Nat.log2_lt e).mpr h) (by decide)
theorem eqStr {x y : Str} (q : Q (.bl (decide (x = y))) H) : rEq (.str x) (.str y) H Q := ⟨rfl, by
  have e : decide ((V.str x) = V.str y) = decide (x = y) := by
    by_cases h : x = y
    · rw [h]; simp
    · have h2 : ¬ (V.str x = V.str y) := fun z => h (V.str.inj z)
      rw [decide_eq_false h, decide_eq_false h2]
  rw [e]; exact q⟩
theorem neStr {x y : Str} (q : Q (.bl (!decide (x = y))) H) : rNe (.str x) (.str y) H Q := ⟨rfl, by
  have e : decide ((V.str x) = V.str y) = decide (x = y) := by
    by_cases h : x = y
    · rw [h]; simp
    · have h2 : ¬ (V.str x = V.str y) := fun z => h (V.str.inj z)
      rw [decide_eq_false h, decide_eq_false h2]
  rw [e]; exact q⟩
theorem addS {x y : Str} (q : x.length + y.length ≤ sizeLine ∧ Q (.str (x ++ y)) H) : ∃ i j : Str, V.str x = V.str i ∧ V.str y = .str j ∧ i.length + j.length ≤ sizeLine ∧ Q (.str (i ++ j)) H := ⟨x, y, rfl, rfl, q⟩
end
theorem cutS_to (z : Str) (n : Nat) : (cutS z none (some (n : Int))).cps.toList = z.cps.toList.take n := by
  unfold cutS
  rw [HT.sIx_none, HT.sIx_nat, List.drop_zero, Nat.sub_zero]
  show List.take (min n z.length) z.cps.toList = _
  rw [List.take_eq_take_iff]
  have : z.length = z.cps.toList.length := by rw [Array.length_toList]; rfl
  omega
theorem cutS_from (z : Str) (n : Nat) : (cutS z (some (n : Int)) none).cps.toList = z.cps.toList.drop n := by
  have hl : z.length = z.cps.toList.length := by rw [Array.length_toList]; rfl
  unfold cutS
  rw [HT.sIx_none, HT.sIx_nat]
  show List.take (z.length - min n z.length) (List.drop (min n z.length) z.cps.toList) = _
  rw [List.take_of_length_le (by rw [List.length_drop]; omega)]
  by_cases h : n ≤ z.length
  · rw [Nat.min_eq_left h]
  · rw [Nat.min_eq_right (by omega), List.drop_eq_nil_of_le (by omega), List.drop_eq_nil_of_le (by omega)]
end HS
/-! Lists of new triples of ints. -/
namespace HS
open PySem PySem.Spec PyProof.Rows L2
/-- the refs of vs are tuples of these triples -/
def Tri (H : Hp) : List V → List (Int × Int × Int) → Prop
  | [], [] => True
  | v :: vs, p :: ps => (∃ t, v = .ref t ∧ H t = some (.tup [.int p.1, .int p.2.1, .int p.2.2])) ∧ Tri H vs ps
  | _, _ => False
theorem Tri.keep {S : Addr → Prop} {H H' : Hp} (k : Keep S H H') : ∀ {vs : List V} {ps : List (Int × Int × Int)}, Tri H vs ps → (∀ v ∈ vs, ∀ t, v = .ref t → ¬ S t) → Tri H' vs ps
  | [], [], h, _ => h
  | _ :: _, _ :: _, ⟨⟨t, e, o⟩, h⟩, n => ⟨⟨t, e, k t _ o (n _ List.mem_cons_self t e)⟩, h.keep k fun v hv => n v (List.mem_cons_of_mem _ hv)⟩
theorem Tri.same {H H' : Hp} {vs : List V} {ps : List (Int × Int × Int)} (h : Tri H vs ps) (k : Keep (fun _ => False) H H') : Tri H' vs ps := h.keep k fun _ _ _ _ z => z
theorem Tri.app {H : Hp} : ∀ {vs ws : List V} {ps qs : List (Int × Int × Int)}, Tri H vs ps → Tri H ws qs → Tri H (vs ++ ws) (ps ++ qs)
  | [], _, [], _, _, g => g
  | _ :: _, _, _ :: _, _, ⟨a, h⟩, g => ⟨a, h.app g⟩
theorem Tri.len {H : Hp} : ∀ {vs : List V} {ps : List (Int × Int × Int)}, Tri H vs ps → vs.length = ps.length
  | [], [], _ => rfl
  | _ :: _, _ :: _, ⟨_, h⟩ => by rw [List.length_cons, List.length_cons, h.len]
theorem Tri.at {H : Hp} : ∀ {vs : List V} {ps : List (Int × Int × Int)}, Tri H vs ps → ∀ {i : Nat} {v : V}, vs[i]? = some v → ∃ t p, v = .ref t ∧ ps[i]? = some p ∧ H t = some (.tup [.int p.1, .int p.2.1, .int p.2.2])
  | [], [], _, i, v, hv => by simp at hv
  | _ :: _, p :: _, ⟨⟨t, e, o⟩, _⟩, 0, v, hv => by
    cases hv
    exact ⟨t, p, e, rfl, o⟩
  | _ :: _, _ :: _, ⟨_, h⟩, i + 1, v, hv => h.at (i := i) hv
theorem Tri.split {H : Hp} : ∀ {vs : List V} {ps : List (Int × Int × Int)} {p : Int × Int × Int}, Tri H vs (ps ++ [p]) → ∃ us t, vs = us ++ [.ref t] ∧ Tri H us ps ∧ H t = some (.tup [.int p.1, .int p.2.1, .int p.2.2])
  | [], ps, p, h => by cases ps <;> exact h.elim
  | v :: vs, [], p, ⟨⟨t, e, o⟩, h⟩ => by
    cases vs with
    | nil => exact ⟨[], t, by rw [e]; rfl, trivial, o⟩
    | cons _ _ => exact h.elim
  | v :: vs, q :: ps, p, ⟨a, h⟩ => by
    obtain ⟨us, t, e, g, o⟩ := h.split
    exact ⟨v :: us, t, by rw [e]; rfl, ⟨a, g⟩, o⟩
theorem Tri.lst {H : Hp} {L : Addr} {ws : List V} (hL : H L = some (.lst ws)) : ∀ {vs : List V} {ps : List (Int × Int × Int)}, Tri H vs ps → ∀ v ∈ vs, ∀ t, v = .ref t → t ≠ L
  | [], [], _, v, hv => by cases hv
  | w :: vs, p :: ps, ⟨⟨t, e, o⟩, h⟩, v, hv => fun u eu z => by
    rcases List.mem_cons.mp hv with hv | hv
    · subst hv
      rw [e] at eu
      cases eu
      rw [z, hL] at o
      cases o
    · exact h.lst hL v hv u eu z
theorem Tri.put {H : Hp} {L : Addr} {ws : List V} {o : HO} (hL : H L = some (.lst ws)) {vs : List V} {ps : List (Int × Int × Int)} (h : Tri H vs ps) : Tri (upd H L o) vs ps :=
  h.keep (S := fun a => a = L) (HS.Keep.at HS.Keep.refl rfl) (Tri.lst hL h)
theorem atLst {xs ys : List V} {v : V} (h : xs = ys ++ [v]) : atI xs (-1) = some v := by
  subst h
  unfold atI ixN
  rw [if_neg (by decide), if_pos (by rw [List.length_append, List.length_singleton]; omega)]
  show (ys ++ [v])[((-1 : Int) + (ys ++ [v]).length).toNat]? = some v
  rw [List.length_append, List.length_singleton, show ((-1 : Int) + ((ys.length + 1 : Nat) : Int)).toNat = ys.length by omega, List.getElem?_append_right (Nat.le_refl _), Nat.sub_self]
  rfl
theorem setLst {p : Addr} {ys : List V} {v w : V} {H : Hp} {q : Hp → Prop} (h : H p = some (.lst (ys ++ [v]))) (g : q (upd H p (.lst (ys ++ [w])))) : rSetL (.ref p) (.int (-1)) w H q := by
  refine HS.setL h (j := ys.length) ?_ ?_
  · unfold ixN
    rw [if_neg (by decide), if_pos (by rw [List.length_append, List.length_singleton]; omega)]
    congr 1
    rw [List.length_append, List.length_singleton]
    omega
  · rw [List.set_append_right _ _ (Nat.le_refl _), Nat.sub_self]
    exact g
end HS
/-! What _law_same looks at: pairs, triples. -/
namespace HS
open PySem PySem.Spec PyProof.Rows L2
section
variable {K : PySem.W.Frag} {H : Hp} {n : Nat} {a b : Addr}
theorem smI {i j : Int} (h : i = j) : SmV K H n (.int i) (.int j) := by rw [h]; exact .int j
theorem smT3 {x y z x' y' z' : Int} (h1 : H a = some (.tup [.int x, .int y, .int z])) (h2 : H b = some (.tup [.int x', .int y', .int z'])) (e1 : x = x') (e2 : y = y') (e3 : z = z') : SmV K H (n + 1) (.ref a) (.ref b) := by
  subst e1 e2 e3
  refine .tup h1 h2 rfl (show 3 ≤ 1000 by decide) fun i u v g1 g2 => ?_
  rw [g1] at g2
  cases g2
  match i, g1 with
  | 0, g1 => cases g1; exact .int _
  | 1, g1 => cases g1; exact .int _
  | 2, g1 => cases g1; exact .int _
  | _ + 3, g1 => cases g1
theorem sm2 {x y x' y' : V} (h1 : H a = some (.lst [x, y])) (h2 : H b = some (.lst [x', y'])) (s1 : SmV K H n x x') (s2 : SmV K H n y y') : SmV K H (n + 1) (.ref a) (.ref b) := by
  refine .lst h1 h2 rfl (show 2 ≤ 1000 by decide) fun i u v g1 g2 => ?_
  match i, g1, g2 with
  | 0, g1, g2 => cases g1; cases g2; exact s1
  | 1, g1, g2 => cases g1; cases g2; exact s2
  | _ + 2, g1, g2 => cases g1
theorem smL {xs : List Int} (h1 : H a = some (.lst (xs.map V.int))) (h2 : H b = some (.lst (xs.map V.int))) (hl : xs.length ≤ 1000) : SmV K H (n + 1) (.ref a) (.ref b) := by
  refine .lst h1 h2 rfl (by rw [List.length_map]; exact hl) fun i u v g1 g2 => ?_
  rw [g1] at g2
  cases g2
  rw [List.getElem?_map] at g1
  cases e : xs[i]? with
  | none => rw [e] at g1; cases g1
  | some z => rw [e] at g1; cases g1; exact .int _
/-- == of two tuples of ints -/
theorem sh_tints (ns : List Int) : SeqAt.shaped (.tuple (ns.map .int)) = true := by
  unfold SeqAt.shaped
  rw [PyData.canLay0, PyData.depth, lay_ints, dep_ints]; rfl
theorem eqT {xs ys : List Int} {Q : VK} (h1 : SqT K H a (xs.map V.int)) (h2 : SqT K H b (ys.map V.int)) (q : Q (.bl (decide (xs = ys))) H) : rEqD K (.ref a) (.ref b) H Q :=
  ⟨.tuple (xs.map .int), .tuple (ys.map .int), .tup h1 (dpAll_ints xs), .tup h2 (dpAll_ints ys), sh_tints _, sh_tints _, by rw [PyData.eqv, eqvAll_ints]; exact q⟩
end
end HS
/-! What stands in a heap, told as one list: addresses that differ, each with what is known of its object. -/
namespace HS
open PySem PySem.Spec PyProof.Rows L2
abbrev WdL := List (Addr × (HO → Prop))
/-- H0: the heap at the entry; S: what may have changed there; l: what is known now -/
structure Wd (H0 H : Hp) (S : Addr → Prop) (l : WdL) : Prop where
  nd : (l.map (·.1)).Nodup
  at_ : ∀ x ∈ l, ∃ o, H x.1 = some o ∧ x.2 o
  kp : Keep S H0 H
  fr : ∀ x ∈ l, S x.1 ∨ H0 x.1 = none
section
variable {H0 H H' : Hp} {S : Addr → Prop} {l l' : WdL} {p q : Addr} {o : HO} {P P' : HO → Prop} {i j : Nat}
theorem Wd.nil : Wd H H S [] := ⟨.nil, fun _ h => absurd h List.not_mem_nil, .refl, fun _ h => absurd h List.not_mem_nil⟩
theorem nd_snoc {l : WdL} {P : HO → Prop} (nd : (l.map (·.1)).Nodup) (n : ∀ x ∈ l, x.1 ≠ p) : ((l ++ [(p, P)]).map (·.1)).Nodup := by
  rw [List.map_append, List.nodup_append]
  refine ⟨nd, List.nodup_cons.mpr ⟨List.not_mem_nil, .nil⟩, fun a ha b hb e => ?_⟩
  obtain ⟨x, hx, rfl⟩ := List.mem_map.mp ha
  have hb' : b = p := List.mem_singleton.mp hb
  exact n x hx (e.trans hb')
theorem mem_snoc {l : WdL} {x y : Addr × (HO → Prop)} (h : x ∈ l ++ [y]) : x ∈ l ∨ x = y := by
  rcases List.mem_append.mp h with h | h
  · exact .inl h
  · exact .inr (List.mem_singleton.mp h)
/-- what stood at the entry and may change -/
theorem Wd.old (W : Wd H0 H S l) (h : H p = some o) (hp : P o) (s : S p) (n : ∀ x ∈ l, x.1 ≠ p) : Wd H0 H S (l ++ [(p, P)]) := by
  refine ⟨nd_snoc W.nd n, fun x hx => ?_, W.kp, fun x hx => ?_⟩
  · rcases mem_snoc hx with hx | e
    · exact W.at_ x hx
    · subst e; exact ⟨o, h, hp⟩
  · rcases mem_snoc hx with hx | e
    · exact W.fr x hx
    · subst e; exact .inl s
theorem Wd.one (h : H p = some o) (hp : P o) (s : S p) : Wd H H S [(p, P)] := Wd.nil.old h hp s fun _ h => absurd h List.not_mem_nil
theorem Wd.get (W : Wd H0 H S l) (i : Nat) (e : l[i]? = some (p, P)) : ∃ o, H p = some o ∧ P o := W.at_ _ (List.mem_of_getElem? e)
theorem Wd.at (W : Wd H0 H S l) (i : Nat) (e : l[i]? = some (p, Eq o)) : H p = some o := by
  obtain ⟨o', h, e'⟩ := W.get i e
  cases e'; exact h
theorem Wd.sq {K : PySem.W.Frag} {xs : List V} (W : Wd H0 H S l) (i : Nat) (e : l[i]? = some (p, Eq (.lst xs))) : SqL K H p xs := HS.sq (W.at i e)
theorem Wd.same (W : Wd H0 H S l) (k : Keep (fun _ => False) H H') : Wd H0 H' S l :=
  ⟨W.nd, fun x hx => let ⟨o, h, z⟩ := W.at_ x hx; ⟨o, k _ _ h id, z⟩, W.kp.trans k.any, W.fr⟩
theorem Wd.miss (W : Wd H0 H S l) (h : H p = none) : ∀ x ∈ l, x.1 ≠ p := fun x hx e => by
  obtain ⟨o', h', _⟩ := W.at_ x hx
  rw [e, h] at h'; cases h'
/-- an object that some call has made: it was not there before the call -/
theorem Wd.made (W : Wd H0 H S l) {H1 : Hp} (k : Keep (fun _ => False) H H1) (h0 : H p = none) (h : H1 p = some o) (z : P o) : Wd H0 H1 S (l ++ [(p, P)]) := by
  have W1 := W.same k
  refine ⟨nd_snoc W.nd (W.miss h0), fun x hx => ?_, W1.kp, fun x hx => ?_⟩
  · rcases mem_snoc hx with hx | e
    · exact W1.at_ x hx
    · subst e; exact ⟨o, h, z⟩
  · rcases mem_snoc hx with hx | e
    · exact W.fr x hx
    · subst e
      by_cases s : S p
      · exact .inl s
      · exact .inr (W.kp.free h0 s)
theorem Wd.new (W : Wd H0 H S l) (h : H p = none) (z : P o) : Wd H0 (upd H p o) S (l ++ [(p, P)]) := W.made (Keep.new h) h upd_same z
/-- the same, the new heap by its name -/
theorem Wd.newG (W : Wd H0 H S l) (e : upd H p o = H') (h : H p = none) : Wd H0 H' S (l ++ [(p, Eq o)]) := e ▸ W.new h rfl
theorem nd_ne {l : WdL} (nd : (l.map (·.1)).Nodup) (e1 : l[i]? = some (p, P)) (e2 : l[j]? = some (q, P')) (h : i ≠ j) : p ≠ q := fun z => by
  have f1 : (l.map (·.1))[i]? = some p := by rw [List.getElem?_map, e1]; rfl
  have f2 : (l.map (·.1))[j]? = some q := by rw [List.getElem?_map, e2]; rfl
  have hl : i < (l.map (·.1)).length := (List.getElem?_eq_some_iff.mp f1).1
  exact h ((List.getElem?_inj hl nd).mp (by rw [f1, f2, z]))
theorem Wd.ne (W : Wd H0 H S l) (i j : Nat) (e1 : l[i]? = some (p, P)) (e2 : l[j]? = some (q, P')) (h : i ≠ j := by decide) : p ≠ q := nd_ne W.nd e1 e2 h
theorem Wd.no (W : Wd H0 H S l) (i : Nat) (e : l[i]? = some (p, P)) (h : H q = none) : q ≠ p := fun z => by
  obtain ⟨o, h', _⟩ := W.get i e
  rw [z, h'] at h; cases h
/-- the i-th object changes, all else stands -/
theorem Wd.chg (W : Wd H0 H S l) (i : Nat) (e : l[i]? = some (p, P)) (k : Keep (fun a => a = p) H H') (h : H' p = some o) (z : P' o) : Wd H0 H' S (l.set i (p, P')) := by
  have hi : i < l.length := (List.getElem?_eq_some_iff.mp e).1
  have em : (l.set i (p, P')).map (·.1) = l.map (·.1) := by
    apply List.ext_getElem?
    intro j
    rw [List.getElem?_map, List.getElem?_map, List.getElem?_set]
    by_cases hj : i = j
    · subst hj; rw [if_pos rfl, if_pos hi, e]; rfl
    · rw [if_neg hj]
  have hm : ∀ x ∈ l.set i (p, P'), x = (p, P') ∨ (x ∈ l ∧ x.1 ≠ p) := fun x hx => by
    obtain ⟨j, hj⟩ := List.getElem?_of_mem hx
    rw [List.getElem?_set] at hj
    by_cases hij : i = j
    · rw [if_pos hij, if_pos hi] at hj
      exact .inl (Option.some.inj hj).symm
    · rw [if_neg hij] at hj
      exact .inr ⟨List.mem_of_getElem? hj, fun y => nd_ne W.nd e (show l[j]? = some (x.1, x.2) from hj) hij y.symm⟩
  have sp := W.fr _ (List.mem_of_getElem? e)
  refine ⟨by rw [em]; exact W.nd, fun x hx => ?_, fun a u ha n => ?_, fun x hx => ?_⟩
  · rcases hm x hx with rfl | ⟨hx, n⟩
    · exact ⟨o, h, z⟩
    · obtain ⟨u, hu, y⟩ := W.at_ x hx
      exact ⟨u, k _ _ hu n, y⟩
  · refine k _ _ (W.kp _ _ ha n) fun y => ?_
    subst y
    rcases sp with sp | sp
    · exact n sp
    · rw [sp] at ha; cases ha
  · rcases hm x hx with rfl | ⟨hx, n⟩
    · exact sp
    · exact W.fr x hx
theorem Wd.chgE (W : Wd H0 H S l) (i : Nat) (e : l[i]? = some (p, P)) (k : Keep (fun a => a = p) H H') (h : H' p = some o) : Wd H0 H' S (l.set i (p, Eq o)) := W.chg i e k h rfl
theorem Wd.put (W : Wd H0 H S l) (i : Nat) (e : l[i]? = some (p, P)) (z : P' o) : Wd H0 (upd H p o) S (l.set i (p, P')) := W.chg i e (Keep.refl.at rfl) upd_same z
theorem Wd.putG (W : Wd H0 H S l) (i : Nat) (e : l[i]? = some (p, P)) (g : upd H p o = H') : Wd H0 H' S (l.set i (p, Eq o)) := g ▸ W.put i e rfl
/-- only some of it is told further -/
theorem Wd.sub (W : Wd H0 H S l) (h : l'.Sublist l) : Wd H0 H S l' := ⟨W.nd.sublist (h.map _), fun x hx => W.at_ x (h.subset hx), W.kp, fun x hx => W.fr x (h.subset hx)⟩
theorem Wd.take (W : Wd H0 H S l) (n : Nat) : Wd H0 H S (l.take n) := W.sub (List.take_sublist n l)
theorem Wd.weak (W : Wd H0 H S l) (i : Nat) (e : l[i]? = some (p, P)) (z : ∀ o, P o → P' o) : Wd H0 H S (l.set i (p, P')) := by
  obtain ⟨o, h, y⟩ := W.get i e
  exact W.chg i e .refl h (z o y)
/-- an object that a call has made which changed told objects besides: W before it, W' behind it -/
theorem Wd.madeT {H1 : Hp} (W : Wd H0 H S l) (W' : Wd H0 H1 S l') (e : l'.map (·.1) = l.map (·.1)) (h0 : H p = none) (h : H1 p = some o) (z : P o) : Wd H0 H1 S (l' ++ [(p, P)]) := by
  have n : ∀ x ∈ l', x.1 ≠ p := fun x hx y => by
    have hm : p ∈ l.map (·.1) := by rw [← e, ← y]; exact List.mem_map_of_mem hx
    obtain ⟨u, hu, eu⟩ := List.mem_map.mp hm
    exact W.miss h0 u hu eu
  refine ⟨nd_snoc W'.nd n, fun x hx => ?_, W'.kp, fun x hx => ?_⟩
  · rcases mem_snoc hx with hx | e
    · exact W'.at_ x hx
    · subst e; exact ⟨o, h, z⟩
  · rcases mem_snoc hx with hx | e
    · exact W'.fr x hx
    · subst e
      by_cases s : S p
      · exact .inl s
      · exact .inr (W.kp.free h0 s)
theorem Wd.keep (W : Wd H0 H S l) : Keep S H0 H := W.kp
/-- a change of several told objects and of nothing else -/
theorem Wd.chgs {T : Addr → Prop} (W : Wd H0 H S l) (k : Keep T H H') (hT : ∀ a, T a → S a ∨ H0 a = none) (f : ∀ x ∈ l, ¬ T x.1 ∨ ∃ o, H' x.1 = some o ∧ x.2 o) : Wd H0 H' S l := by
  refine ⟨W.nd, fun x hx => ?_, fun a u ha n => k _ _ (W.kp _ _ ha n) fun y => ?_, W.fr⟩
  · rcases f x hx with n | y
    · obtain ⟨u, hu, y⟩ := W.at_ x hx
      exact ⟨u, k _ _ hu n, y⟩
    · exact y
  · rcases hT a y with z | z
    · exact n z
    · rw [z] at ha; cases ha
theorem Wd.chgO (W : Wd H0 H S l) (k : Keep (fun a => a = p) H H') (hp : ∀ x ∈ l, x.1 ≠ p) (s : S p ∨ H0 p = none) : Wd H0 H' S l :=
  W.chgs k (fun a e => by cases (show a = p from e); exact s) fun x hx => .inl (hp x hx)
end
end HS
namespace HS
open PySem PySem.Spec PyProof.Rows L2
theorem Prs.at {H : Hp} : ∀ {vs : List V} {ps : List (Int × Int)}, Prs H vs ps → ∀ {i : Nat} {v : V}, vs[i]? = some v → ∃ t p, v = .ref t ∧ ps[i]? = some p ∧ H t = some (.tup [.int p.1, .int p.2])
  | [], [], _, i, v, hv => by simp at hv
  | _ :: _, p :: _, ⟨⟨t, e, o⟩, _⟩, 0, v, hv => by
    cases hv
    exact ⟨t, p, e, rfl, o⟩
  | _ :: _, _ :: _, ⟨_, h⟩, i + 1, v, hv => Prs.at h (i := i) hv
theorem Prs.setAt {H : Hp} {q : Addr} {p : Int × Int} (hq : H q = some (.tup [.int p.1, .int p.2])) : ∀ {vs : List V} {ps : List (Int × Int)} {i : Nat}, Prs H vs ps → Prs H (vs.set i (.ref q)) (ps.set i p)
  | [], [], _, _ => trivial
  | _ :: _, _ :: _, 0, ⟨_, h⟩ => ⟨⟨q, rfl, hq⟩, h⟩
  | _ :: _, _ :: _, i + 1, ⟨a, h⟩ => ⟨a, Prs.setAt hq (i := i) h⟩
theorem neP {K : PySem.W.Frag} {H : Hp} {a b : Addr} {vs ws : List V} {xs ys : List (Int × Int)} {Q : VK} (h1 : SqL K H a vs) (g1 : Prs H vs xs) (h2 : SqL K H b ws) (g2 : Prs H ws ys) (q : Q (.bl (!decide (xs = ys))) H) : rNeD K (.ref a) (.ref b) H Q := by
  refine ⟨dPrs xs, dPrs ys, .lst h1 (dpAll_prs g1), .lst h2 (dpAll_prs g2), sh_prs _, sh_prs _, ?_⟩
  rw [show PyData.eqv (dPrs xs) (dPrs ys) = decide (xs = ys) by unfold dPrs; rw [PyData.eqv]; exact eqvAll_prs xs ys]
  exact q
section
variable {σ : L2.St} {H : Hp} {n bk ct : L2.St → Hp → Prop} {rt : VK}
theorem par3 {i j l : Nat} {tl : TA} (h : tl σ H fun vs H1 => ∃ u v w, vs = [u, v, w] ∧ n (((σ.set i (some u)).set j (some v)).set l (some w)) H1) : tPar3 i j l tl ⟨n, rt, bk, ct⟩ σ H := h
theorem ex3 {u v w : V} {q : V → V → V → Prop} (h : q u v w) : ∃ a b c, [u, v, w] = [a, b, c] ∧ q a b c := ⟨u, v, w, rfl, h⟩
end
end HS
/-! In a suite of a base class: isinstance of the exception, also by a tuple of classes, and its value. -/
namespace HS
open PySem PySem.Spec PyProof.Rows L2
theorem exc_here {X : Cx} {a D d : Addr} {oe : Obj} {pn pins : List (Addr × Obj)} {σ : L2.St} {H : Hp} {s : Shared} {fs : List (Str × V)} (I : Inv (X.suite a ((a, oe) :: pn)) pins σ H s) (hz : Zc (.ref D) (some d) oe) (hf : ∃ vs, oe.data = .fields vs) (hd : H d = some (.xd fs)) :
    ∃ (od : Obj) (mA : Str → Option Value), PySem.W.InstAt s.heap a oe D (some od) ∧ (∀ f, RelO (fs.lookup f) (mA f)) ∧ ∀ f, PySem.W.lookIn f od = some (mA f) := by
  obtain ⟨hget, _⟩ := I.pin (a, oe) (List.mem_append.mpr (.inl List.mem_cons_self))
  obtain ⟨vs, hv⟩ := hf
  have x2 : ObjOk X.prog X.w H s.heap d (.xd fs) := I.hok d _ hd
  obtain ⟨mA, hns, hr⟩ := x2
  obtain ⟨od, hod, hl⟩ := lookIn_ns hns
  exact ⟨od, mA, ⟨hget, hz.1, by unfold PySem.W.notCls; rw [hv] <;> rfl, by rw [hz.2]; exact hod⟩, hr, hl⟩
/-- what is asked of isinstance: a class, or a tuple of own classes -/
def AskB (K : PySem.W.Frag) (H : Hp) (D : Addr) (c : V) (b : Bool) : Prop := (∃ cv, ClsV c cv ∧ PySem.W.kitOne K (.ref D) cv = some b) ∨ ∃ (t : Addr) (cs : List Addr), c = .ref t ∧ SqT K H t (cs.map V.ref) ∧ PySem.W.kitAny K (.ref D) (cs.map Value.ref) = some b
def rIsP (K : PySem.W.Frag) (a : Addr) (cls : Value) (dx : Option Addr) : List V → Hp → VK → Prop := fun xs H Q => ∃ (D d : Addr) (fs : List (Str × V)) (c : V) (b : Bool), xs = [.ref a, c] ∧ cls = .ref D ∧ dx = some d ∧ H d = some (.xd fs) ∧ ExcC K D ∧ AskB K H D c b ∧ Q (.bl b) H
theorem vals_refs : ∀ {cs : List Addr} {its : List Value}, Vals (cs.map V.ref) its → its = cs.map Value.ref
  | [], _, .nil => rfl
  | c :: cs, _, .cons r rr => by cases r; rw [vals_refs rr]; rfl
theorem call_isP {X : Cx} {a : Addr} {oe : Obj} {cls : Value} {dx : Option Addr} {pn : List (Addr × Obj)} (K : PySem.W.Frag) (hz : Zc cls dx oe) (hf : ∃ vs, oe.data = .fields vs) (hK : X.K = K := by rfl) : CallR (X.suite a ((a, oe) :: pn)) (.builtin "isinstance") (rIsP K a cls dx) := by
  subst hK
  intro pins s σ H xs us Q I r hw
  obtain ⟨D, d, fs, c, b, e0, ec, ed, hd, T, ask, q⟩ := hw
  subst e0 ec ed
  match us, r with
  | [_, _], .cons rx (.cons rt .nil) =>
    cases rx
    obtain ⟨od, mA, here, _, _⟩ := exc_here I hz hf hd
    obtain ⟨cd, hcd, _⟩ := PySem.W.any_some T.hd
    rcases ask with ⟨cv, hcv, hb⟩ | ⟨t, cs, e1, ht, hb⟩
    · have e1 := hcv.eq rt
      subst e1
      exact PySem.W.kia_one (PySem.W.kitx_exc (by rw [hcd]; rfl) T.hg T.hk T.hs T.ha T.hn T.ht T.hm) I.kIn here hb (fun z => nomatch z) fun tk => ⟨.bl b, H, I.kept (t' := tk) fun _ _ z => z, rfl, q⟩
    · subst e1
      cases rt
      obtain ⟨its, rv, ⟨⟨oc, od', odt, osl⟩, ho, hc, n, hdt⟩, _⟩ := I.tuple ht
      dsimp only at hc hdt
      subst hc hdt
      rw [← vals_refs rv] at hb
      exact PySem.W.kia_tup (PySem.W.kitx_exc (by rw [hcd]; rfl) T.hg T.hk T.hs T.ha T.hn T.ht T.hm) I.kIn here ho hb (fun z => nomatch z) fun tk => ⟨.bl b, H, I.kept (t' := tk) fun _ _ z => z, rfl, q⟩
def tFldP (K : PySem.W.Frag) (a : Addr) (cls : Value) (dx : Option Addr) (f : Str) (te : TE) : TE := fun σ H Q => te σ H fun x H1 => x = .ref a ∧ ∃ (C d : Addr) (fs : List (Str × V)) (v : V), cls = .ref C ∧ dx = some d ∧ XfC K C ∧ PySem.W.findIn K (.ref C) f = some none ∧ H1 d = some (.xd fs) ∧ fs.lookup f = some v ∧ Q v H1
theorem pe_fldP {X : Cx} {a : Addr} {oe : Obj} {cls : Value} {dx : Option Addr} {pn : List (Addr × Obj)} {e : Expr} {te : TE} {pos : Pos} {f : Str} (K : PySem.W.Frag) (hz : Zc cls dx oe) (hf : ∃ vs, oe.data = .fields vs) (he : PE (X.suite a ((a, oe) :: pn)) e te)
    (hK : X.K = K := by rfl) (hb : attributeBase e f X.env (eval e X.env) = eval e X.env := by rfl) : PE (X.suite a ((a, oe) :: pn)) (.Attribute e f pos) (tFldP K a cls dx f te) := by
  subst hK
  refine ⟨fun pins s σ H Q I hw => attr_of hb (thn (he.run pins s σ H _ I hw) fun u s1 ⟨x, H1, I1, rx, e0, C, d, fs, v, ec, ed, T, hno, hd, l, q⟩ => ?_)⟩
  subst e0 ec ed
  cases rx
  obtain ⟨od, mA, here, hr, hl⟩ := exc_here I1 hz hf hd
  obtain ⟨w, hw, rw'⟩ := RelO.some_of (v := v) (o := mA f) (by rw [← l]; exact hr f)
  exact HandSPX.exc_get I1.kIn here T.ga T.gg T.exC (PySem.W.findObj_own T.hdC hno rfl (by rw [hl, hw])) (handed_of rw') ⟨v, H1, I1.tok _, rw', q⟩
section
variable {K : PySem.W.Frag} {σ : L2.St} {H : Hp} {Q : VK} {a D C d t : Addr} {fs : List (Str × V)} {b : Bool} {te : TE} {f : Str} {v : V}
theorem isP (T : ExcC K D) (hd : H d = some (.xd fs)) (hq : PySem.W.kitOne K (.ref D) (.ref C) = some b) (q : Q (.bl b) H) : rIsP K a (.ref D) (some d) [.ref a, .ref C] H Q := ⟨D, d, fs, _, b, rfl, rfl, rfl, hd, T, .inl ⟨_, .own C, hq⟩, q⟩
theorem isPt {n : String} (T : ExcC K D) (hd : H d = some (.xd fs)) (hq : PySem.W.kitOne K (.ref D) (.type n) = some b) (q : Q (.bl b) H) : rIsP K a (.ref D) (some d) [.ref a, .ty n] H Q := ⟨D, d, fs, _, b, rfl, rfl, rfl, hd, T, .inl ⟨_, .ty n, hq⟩, q⟩
theorem isPs {cs : List Addr} (T : ExcC K D) (hd : H d = some (.xd fs)) (ht : SqT K H t (cs.map V.ref)) (hq : PySem.W.kitAny K (.ref D) (cs.map Value.ref) = some b) (q : Q (.bl b) H) : rIsP K a (.ref D) (some d) [.ref a, .ref t] H Q := ⟨D, d, fs, _, b, rfl, rfl, rfl, hd, T, .inr ⟨t, cs, rfl, ht, hq⟩, q⟩
theorem fldP (h : te σ H fun x H1 => x = .ref a ∧ ∃ (C' d' : Addr) (fs : List (Str × V)) (v : V), Value.ref C = .ref C' ∧ some d = some d' ∧ XfC K C' ∧ PySem.W.findIn K (.ref C') f = some none ∧ H1 d' = some (.xd fs) ∧ fs.lookup f = some v ∧ Q v H1) : tFldP K a (.ref C) (some d) f te σ H Q := h
theorem kany_no {D : Addr} : ∀ {cs : List Addr}, (∀ c ∈ cs, PySem.W.kitOne K (.ref D) (.ref c) = some false) → PySem.W.kitAny K (.ref D) (cs.map Value.ref) = some false
  | [], _ => rfl
  | c :: cs, h => by
    unfold PySem.W.kitAny
    rw [List.map_cons]
    dsimp only
    rw [h c List.mem_cons_self]
    exact kany_no fun x hx => h x (List.mem_cons_of_mem _ hx)
end
end HS
/-! Exceptions of own classes whose context is None: made, let out by a call in a try, kept by a def (the twins of pmk_oex, passAt, okX ..). -/
namespace HS
open PySem PySem.Spec PyProof.Rows L2
section
variable {X : Cx}
theorem made_n {pn : List (Addr × Obj)} {σ : L2.St} {Ha Hb : Hp} {W : XK} {h0 h1 h2 : Heap} {ga gb : Array GenState} {da db : Drawn} {ta tb : Nat} {oa ob : OsState} {x C d : Addr} {fs : List (Str × V)} (T : Raises X (.ref C)) (J : Inv X pn σ Ha ⟨h0, ga, da, ta, oa⟩)
    (hx : h0.objs.size ≤ x) (k : ∀ b o, h0.get? b = some o → h1.get? b = some o) (un : Un (frs X.stack) [] (upd Ha x (exo x C none)) Hb h1 h2) (ok : HOk X.prog X.w Hb h2) (eo : ob = oa) (bb : AllBare gb)
    (ex : Hb x = some (exo x C (some d))) (ed : Hb d = some (exd d fs)) (nd : Ha d = none) (q : W (.ref C) (some d) (upd (del Hb x) d (.xd fs))) : L2N.MkP X pn σ W (.ref x) ⟨h2, gb, db, tb, ob⟩ := by
  obtain ⟨tt, G, I, kG, ng, he, nx⟩ := mk_end0 (d2 := db) (t2 := tb) J hx k un ok eo bb ex ed nd
  exact ⟨x, _, _, ⟨G, gb, db, tb, ob⟩, _, .ref C, some d, rfl, I, kG, ng, he, ⟨rfl, rfl, fun vs e => by cases e; rfl⟩, rfl, rfl, nx, rfl, bb, T, q⟩
theorem pmk_oexN {CX : CXT} {x : Str} {C g : Addr} {k : Nat} {fd : FuncData} {ps : List Str} {sp : Sp} {ds : List Value} {dvs : List V} {p pos : Pos} {e : Expr} {es : List Expr} {ta : TA} (T : OexC X.K C)
    (iC : PySem.W.findIn X.K (.ref C) "__init__" = some (some (.ref g))) (tI : PySem.W.typeIn X.K (.ref g) = some (.type "function"))
    (Fi : FnOk X.prog X.w X.K X.mg X.base CX k g fd ps sp) (hr : Room (k + 1) X.A) (hb : Binds X.K fd ps ds) (hd : Vals dvs ds) (hx : Passes CX X (fun _ _ _ => False)) (hg : Gl X x) (hm : X.mg x = some (.ref C)) (ha : PA X (e :: es) ta)
    (n1 : (x == ("__debug__" : Str)) = false := by decide) (n2 : starEach (e :: es) X.env = (false, eval e X.env) :: starEach es X.env := by rfl) (n3 : (backTo pos (starEach es X.env)).any (·.1) = false := by rfl) :
    L2N.PMk X (.Call (.Name x p) (e :: es) [] pos) (tMkO C sp dvs ta) := by
  intro pn s σ H Q I h
  obtain ⟨nm, q, N, bs, bm, sn, sub, ab, col, dd, k0, k1, k2, k3, k5, hC, hbm⟩ := T.cls
  refine wpAny_Call_Name_kw (ld_glob I hg hm ?_ n1)
  refine PySem.W.callWith_K (h₀ := X.base) I.ok.mod.kin T.kC (thn (ha.run pos pn s σ H _ I h) fun us s1 ⟨vs, H1, J, rv, le, q1⟩ => ⟨J.kIn, ?_⟩) n2 n3
  (show wpAny _ _ (call (.ref C) us) _ _ _)
  obtain ⟨hp, gs, dr, tk, os⟩ := s1
  have s01 : hp.objs.size ≤ hp.objs.size + 1 := Nat.le_succ _
  have free := J.hok.fresh s01
  have hq := q1 (hp.objs.size + 1) free
  have old : ∀ b o, hp.get? b = some o → ((hp.push (PySem.W.kdv_tup us)).push (PySem.HandSPX.excO C hp.objs.size)).get? b = some o := fun b o z => Heap.get?_push_of_some _ (Heap.get?_push_of_some _ z)
  have own : ((hp.push (PySem.W.kdv_tup us)).push (PySem.HandSPX.excO C hp.objs.size)).get? (hp.objs.size + 1) = some (PySem.HandSPX.excO C hp.objs.size) := by heap_get
  have J2 : Inv X pn σ (upd H1 (hp.objs.size + 1) (exo (hp.objs.size + 1) C none)) ⟨(hp.push (PySem.W.kdv_tup us)).push (PySem.HandSPX.excO C hp.objs.size), gs, dr, tk, os⟩ :=
    J.laid (t' := tk) (a := hp.objs.size + 1) (o := exo (hp.objs.size + 1) C none) (h' := (hp.push (PySem.W.kdv_tup us)).push (PySem.HandSPX.excO C hp.objs.size)) old s01 (exo_ok own)
  have rv2 : Vals (V.ref (hp.objs.size + 1) :: (vs ++ dvs)) (Value.ref (hp.objs.size + 1) :: (us ++ ds)) := .cons rfl (rv.append hd)
  have len : (Value.ref (hp.objs.size + 1) :: us ++ ds).length = ps.length := by
    have z := rv2.length
    rw [Fi.len _ _ _ _ hq] at z
    exact z.symm
  have small : us.length ≤ sizeLine := by
    rw [← Paired.length rv, sizeLine_eq]
    omega
  refine wpAny_call (PySem.HandSPX.call_own F.excBase_ValueError (fun Y => PySem.HandSPX.refsVE_contains Y bm hbm) (J.kIn _ _ hC) (PySem.W.looks_findIn J.kIn iC) (fun self => PySem.W.bind_fn J.kIn self tI) small
    (codeAny_mono (Fi.run _ X.stack _ _ ⟨Value.ref (hp.objs.size + 1) :: us, []⟩ (Value.ref (hp.objs.size + 1) :: (us ++ ds)) _ _ (fun _ _ _ => False) (hr.make C us []) (J2.env0.make C us []) (hb _ (Value.ref (hp.objs.size + 1) :: us) J2.kIn len) rv2 hq) fun r s2 y => ?_))
  cases r with
  | error er => exact hx pn σ _ _ er s2 J2 y
  | ok fl =>
    cases fl
    case ret u =>
      obtain ⟨v, H2, os2, bare2, un2, hok2, rv, ev, d, fs, ea, ed, hd1, q2⟩ := y
      subst ev
      obtain ⟨h2, g2, d2, t2, os'⟩ := s2
      exact ⟨rv, made_n (raises_own T.exC T.tyC) J s01 old un2 hok2 os2 bare2 ea ed hd1 q2⟩
    all_goals exact False.elim y
theorem passAtN {W : WX} (tk : L2N.Takes X W) (σ : L2.St) : PassesAt (L2N.CX X.prog X.w) X σ (WE W σ) := fun _ _ _ e s' I c => tk e s' (L2N.XE.of_call I (fun _ _ _ h => h) c)
theorem passLN : Passes (L2N.CX X.prog X.w) X E0 := fun _ _ _ _ _ _ _ h => by
  obtain ⟨_, _, _, _, _, _, _, _, _, _, _, _, z⟩ := h
  exact False.elim z
theorem takesN0 : L2N.Takes X (fun _ _ _ _ => False) := fun _ _ x => by
  obtain ⟨_, _, _, _, _, _, _, _, _, _, _, _, _, _, _, _, z⟩ := x
  exact False.elim z
end
section
variable {P : Program} {w : World} {K : PySem.W.Frag} {mg : Str → Option Value} {base : Heap}
theorem Fun.okN {x qual : Str} {st : Stmt} {f : Addr} {fd : FuncData} {N ps : List Str} {k : Nat} {sp : Sp} (F : Fun K x qual st f fd) (S : FnScope N ps (defScope st)) (len : ∀ vs H Q E, sp vs H Q E → vs.length = ps.length)
    (hb : ∀ (cdv : Value) (A : Around) (outer : List Env) (s : Shared) (H : Hp) (vs : List V) (Q : VK) (E : XK), Room k (A.deeper (envOfC qual (defScope st) s.heap.objs.size f cdv)) → sp vs H Q E →
      ∃ t, PSs (cxOf (L2N.CX P w) P w K mg base N qual (defScope st) f cdv A outer s H E) (defBody st) t ∧ t { nx := fun _ H' => Q .non H', rt := Q } (start N vs) H) : FnOk P w K mg base (L2N.CX P w) (k + 1) f fd ps sp := by
  obtain ⟨_, _, _, _, _, _, cdv, _, _, rfl, lk, hcd⟩ := F.ex
  exact fn_of lk hcd S len fun A outer s H vs Q E hr y => hb cdv A outer s H vs Q E hr y
end
end HS
/-! A def that is called within an except suite and handed the exception that is handled. -/
namespace HS
open PySem PySem.Spec PyProof.Rows L2
/-- a promise that knows the exception: its place, its class, its dict -/
abbrev SpE := Addr → Value → Option Addr → Sp
structure FnE (Pg : Program) (wd : World) (K : PySem.W.Frag) (mg : Str → Option Value) (base : Heap) (n : Nat) (f : Addr) (fd : FuncData) (ps : List Str) (sp : SpE) : Prop where
  len : ∀ xa xc xd vs H Q E, sp xa xc xd vs H Q E → vs.length = ps.length
  go : ∀ (B : Around) (o : List Env) (s : Shared) (H : Hp) (ar : Args) (us : List Value) (vs : List V) (Q : VK) (E : XK) (xa : Addr) (oe : Obj) (xc : Value) (xd : Option Addr), L2H.RoomH n B → B.handled = some (.ref xa) → L2N.Zn xc xd oe → (∃ zs, oe.data = .fields zs) → L2H.PinOk o H s (xa, oe) →
    Env0 Pg wd K mg base B o s H → BindsTo s fd ar (ps.zip us) → Vals vs us → sp xa xc xd vs H Q E → codeAny (model Pg wd) B (.call (.ref f) ar) (CR L2.CX0 o Pg wd H s Q E) s
section
variable {Pg : Program} {wd : World} {K : PySem.W.Frag} {mg : Str → Option Value} {base : Heap} {n : Nat} {f : Addr} {fd : FuncData} {ps : List Str} {sp : SpE}
theorem e_end {N : List Str} {q : Str} {sc : Scope} {cd : Value} {B : Around} {o : List Env} {s : Shared} {H : Hp} {E : XK} {Q : VK} {r : Addr × Obj} {x : Cx} (hx : x = L2H.cxH L2.CX0 Pg wd K mg base N q sc f cd B o s H E r) (fl : Flow) {s' : Shared} :
    SP x [] { nx := fun _ H' => Q .non H', rt := Q } fl s' → CR L2.CX0 o Pg wd H s Q E (.ok (.ret (match fl with | .ret v => v | _ => .none))) s' := by
  subst hx
  intro h
  cases fl
  case ret u => obtain ⟨v, st, H', J, rv, y⟩ := h; exact ⟨v, H', J.os, J.bare, J.base, J.hok, rv, y⟩
  case next => obtain ⟨st, H', J, y⟩ := h; exact ⟨.non, H', J.os, J.bare, J.base, J.hok, rfl, y⟩
  all_goals exact h.elim fun _ z => z.elim fun _ z => z.2.elim
theorem Fun.okE {x qn : Str} {st : Stmt} {N : List Str} (F : L2.Fun K x qn st f fd) (S : FnScope N ps (defScope st)) (len : ∀ xa xc xd vs H Q E, sp xa xc xd vs H Q E → vs.length = ps.length)
    (hb : ∀ (cd : Value) (B : Around) (o : List Env) (s : Shared) (H : Hp) (vs : List V) (Q : VK) (E : XK) (xa : Addr) (oe : Obj) (xc : Value) (xd : Option Addr), B.handled = some (.ref xa) → L2N.Zn xc xd oe → (∃ zs, oe.data = .fields zs) → L2H.RoomH n (B.deeper (envOfC qn (defScope st) s.heap.objs.size f cd)) → sp xa xc xd vs H Q E →
      ∃ t, PSs (L2H.cxH L2.CX0 Pg wd K mg base N qn (defScope st) f cd B o s H E (xa, oe)).nox (defBody st) t ∧ t { nx := fun _ H' => Q .non H', rt := Q } (start N vs) H) : FnE Pg wd K mg base (n + 1) f fd ps sp := by
  obtain ⟨_, _, _, _, _, _, cd, _, _, rfl, lk, hcd⟩ := F.ex
  refine ⟨len, fun B o s H ar us vs Q E xa oe xc xd hr hh hz hf pin e0 bd rv hs => ?_⟩
  have kin : K.In s.heap := e0.mod.kin.keeps fun b u e => (e0.bs b u e).1
  have kinds : ∀ y ∈ ps.zip us, (defScope st).names.lookup y.1 = some .local ∨ ((defScope st).names.lookup y.1 = some .cell ∧ ((cellsFrom (s.heap.objs.size + 1) (defScope st).names []).lookup y.1).isSome = true) := by
    rintro ⟨z, v⟩ hy
    exact (S.par z (List.of_mem_zip hy).1).elim .inl fun c => .inr ⟨c, PySem.W.cellsFrom_some _ _ _ (.inl c)⟩
  refine codeAny_call_function hr.depth (kin _ _ lk) rfl S.co S.gen rfl (PySem.W.codeRec_of kin hcd) (bd _ _ _ _ (wpAny_newFunctionEnv_cells S.kind kinds fun _ he s1 made => ?_))
  subst he
  obtain ⟨t, ht, hq⟩ := hb cd B o s H vs Q E xa oe xc xd hh hz hf (hr.deeper _) hs
  have start0 := L2H.inv_startH (CX := L2.CX0) (E := E) (qual := qn) (cd := cd) (f := f) (A := B) S pin e0 (len _ _ _ _ _ _ _ hs) rv made
  exact ⟨(e0.mod.nolimit.keeps fun b u e => (e0.bs b u e).1).keeps made.toInCall.keep, codeAny_func (wpAny_mono (ht.nox.run [] s1 _ H _ start0 hq) (fun fl s' => e_end rfl fl) fun _ _ h => h)⟩
end
/-! ### the call -/
def tCallE (sp : SpE) (xa : Addr) (xc : Value) (xd : Option Addr) (t : TA) : TE := fun σ H Q => t σ H fun vs H1 => sp xa xc xd vs H1 Q (fun _ _ _ => False)
section
variable {X : Cx} {n : Nat} {f : Addr} {fd : FuncData} {ps : List Str} {sp : SpE} {x : Str} {p q : Pos} {e : Expr} {es : List Expr} {t : TA} {xa : Addr} {oe : Obj} {xc : Value} {xd : Option Addr}
theorem pe_callE (F : FnE X.prog X.w X.K X.mg X.base n f fd ps sp) (hr : L2H.RoomH n X.A) (hh : X.A.handled = some (.ref xa)) (hz : L2N.Zn xc xd oe) (hf : ∃ zs, oe.data = .fields zs) (hp : (xa, oe) ∈ X.pn) (gl : Gl X x) (mf : X.mg x = some (.ref f)) (kf : PySem.W.keepIn X.K (.ref f) = true) (bd : Binds X.K fd ps []) (ha : PA X (e :: es) t)
    (h1 : (x == ("__debug__" : Str)) = false := by decide) (h2 : starEach (e :: es) X.env = (false, eval e X.env) :: starEach es X.env := by rfl) (h3 : (backTo q (starEach es X.env)).any (·.1) = false := by rfl) :
    PE X (.Call (.Name x p) (e :: es) [] q) (tCallE sp xa xc xd t) := by
  constructor
  intro pins s σ H Q I h
  refine wpAny_Call_Name_kw (ld_glob I gl mf (PySem.W.callWith_K (h₀ := X.base) I.ok.mod.kin kf (thn (ha.run q pins s σ H _ I h) fun us s1 ⟨vs, H1, I1, r, y⟩ => ⟨I1.kIn, ?_⟩) h2 h3) h1)
  have hl : (us ++ []).length = ps.length := by rw [List.append_nil, ← r.length]; exact F.len _ _ _ _ _ _ _ y
  have P1 := I1.pin (xa, oe) (List.mem_append_left _ hp)
  have pin : L2H.PinOk X.stack H1 s1 (xa, oe) := ⟨P1.1, P1.2.1, fun hm => (List.mem_cons.mp (I1.stkSub xa hm)).elim P1.2.2.1 P1.2.2.2.1, P1.2.2.2.2⟩
  exact after_call (E := fun _ _ _ => False) pass0 I1 (F.go X.A X.stack s1 H1 _ (us ++ []) vs Q _ xa oe xc xd hr hh hz hf pin I1.env0 (bd s1 us I1.kIn hl) (by rw [List.append_nil]; exact r) y)
end
section
variable {σ : L2.St} {H : Hp} {Q : VK} {sp : SpE} {xa : Addr} {xc : Value} {xd : Option Addr} {t : TA}
theorem ocle (h : t σ H fun vs H1 => sp xa xc xd vs H1 Q (fun _ _ _ => False)) : tCallE sp xa xc xd t σ H Q := h
theorem hu64H {A : Around} {k : Nat} (hr : L2H.RoomH k A) : A.units + 64 < cLine := by have := hr.un; omega
theorem hu65H {A : Around} {k : Nat} (hr : L2H.RoomH k A) : A.units + 65 < cLine := by have := hr.un; omega
end
/-! ### isinstance of it, its value -/
theorem exc_hereG {X : Cx} {a D d : Addr} {oe : Obj} {pins : List (Addr × Obj)} {σ : L2.St} {H : Hp} {s : Shared} {fs : List (Str × V)} (I : Inv X pins σ H s) (hp : (a, oe) ∈ X.pn) (hz : Zc (.ref D) (some d) oe) (hf : ∃ zs, oe.data = .fields zs) (hd : H d = some (.xd fs)) :
    ∃ (od : Obj) (mA : Str → Option Value), PySem.W.InstAt s.heap a oe D (some od) ∧ (∀ f, RelO (fs.lookup f) (mA f)) ∧ ∀ f, PySem.W.lookIn f od = some (mA f) := by
  obtain ⟨hget, _⟩ := I.pin (a, oe) (List.mem_append_left _ hp)
  obtain ⟨zs, hv⟩ := hf
  have x2 : ObjOk X.prog X.w H s.heap d (.xd fs) := I.hok d _ hd
  obtain ⟨mA, hns, hr⟩ := x2
  obtain ⟨od, hod, hl⟩ := lookIn_ns hns
  exact ⟨od, mA, ⟨hget, hz.1, by unfold PySem.W.notCls; rw [hv] <;> rfl, by rw [hz.2]; exact hod⟩, hr, hl⟩
theorem call_isG {X : Cx} {a : Addr} {oe : Obj} {cls : Value} {dx : Option Addr} (K : PySem.W.Frag) (hz : Zc cls dx oe) (hf : ∃ zs, oe.data = .fields zs) (hp : (a, oe) ∈ X.pn) (hK : X.K = K := by rfl) : CallR X (.builtin "isinstance") (rIsP K a cls dx) := by
  subst hK
  intro pins s σ H xs us Q I r hw
  obtain ⟨D, d, fs, c, b, e0, ec, ed, hd, T, ask, q⟩ := hw
  subst e0 ec ed
  match us, r with
  | [_, _], .cons rx (.cons rt .nil) =>
    cases rx
    obtain ⟨od, mA, here, _, _⟩ := exc_hereG I hp hz hf hd
    obtain ⟨cd, hcd, _⟩ := PySem.W.any_some T.hd
    rcases ask with ⟨cv, hcv, hb⟩ | ⟨t, cs, e1, ht, hb⟩
    · have e1 := hcv.eq rt
      subst e1
      exact PySem.W.kia_one (PySem.W.kitx_exc (by rw [hcd]; rfl) T.hg T.hk T.hs T.ha T.hn T.ht T.hm) I.kIn here hb (fun z => nomatch z) fun tk => ⟨.bl b, H, I.kept (t' := tk) fun _ _ z => z, rfl, q⟩
    · subst e1
      cases rt
      obtain ⟨its, rv, ⟨⟨oc, od', odt, osl⟩, ho, hc, n, hdt⟩, _⟩ := I.tuple ht
      dsimp only at hc hdt
      subst hc hdt
      rw [← vals_refs rv] at hb
      exact PySem.W.kia_tup (PySem.W.kitx_exc (by rw [hcd]; rfl) T.hg T.hk T.hs T.ha T.hn T.ht T.hm) I.kIn here ho hb (fun z => nomatch z) fun tk => ⟨.bl b, H, I.kept (t' := tk) fun _ _ z => z, rfl, q⟩
theorem pe_fldG {X : Cx} {a : Addr} {oe : Obj} {cls : Value} {dx : Option Addr} {e : Expr} {te : TE} {pos : Pos} {f : Str} (K : PySem.W.Frag) (hz : Zc cls dx oe) (hf : ∃ zs, oe.data = .fields zs) (hp : (a, oe) ∈ X.pn) (he : PE X e te)
    (hK : X.K = K := by rfl) (hb : attributeBase e f X.env (eval e X.env) = eval e X.env := by rfl) : PE X (.Attribute e f pos) (tFldP K a cls dx f te) := by
  subst hK
  refine ⟨fun pins s σ H Q I hw => attr_of hb (thn (he.run pins s σ H _ I hw) fun u s1 ⟨x, H1, I1, rx, e0, C, d, fs, v, ec, ed, T, hno, hd, l, q⟩ => ?_)⟩
  subst e0 ec ed
  cases rx
  obtain ⟨od, mA, here, hr, hl⟩ := exc_hereG I1 hp hz hf hd
  obtain ⟨w, hw, rw'⟩ := RelO.some_of (v := v) (o := mA f) (by rw [← l]; exact hr f)
  exact HandSPX.exc_get I1.kIn here T.ga T.gg T.exC (PySem.W.findObj_own T.hdC hno rfl (by rw [hl, hw])) (handed_of rw') ⟨v, H1, I1.tok _, rw', q⟩
end HS
/-! While an exception is handled: a tuple's iterator and a list's iterator at their ends, and the unpacking of a tuple. -/
namespace HS
open PySem PySem.Spec PyProof.Rows L2
section
variable {prog : Program} {w : World} {A : Around} {E : Value → Shared → Prop} {s : Shared} {it t x1 : Addr} {i : Nat} {items : Array Value}
theorem tup_stop {Q : Option Value → Shared → Prop} (hot : HotX.HotAt A x1 s.heap) (n1 : x1 ≠ it) (hit : s.heap.IsTupleIter it t i) (ht : s.heap.IsTuple t items) (hx : items[i]? = none) (hQ : ∀ h', Heap.ExtBut it s.heap h' → Q none { s with heap := h' }) :
    wpAny (model prog w) A (pyNext (.ref it)) Q E s := by
  obtain ⟨o, ho, hc, hd⟩ := id hit; obtain ⟨ol, hol, _, nl, hdl⟩ := ht; obtain ⟨hh, o1, zs, h1, d1, c1⟩ := hot
  unfold pyNext
  refine wpAny_bind (wpAny_attempt (wpAny_callSpecial?_slot (name := Str.ofString "__next__") hit.typeIs F.slot_tuple_iterator_next (wpAny_call_entry F.slot_tuple_iterator_next hit.typeIs F.entry_tuple_iterator_next ?_ (F.args_tuple_iterator_next_1 _))))
  (show wpAny _ _ (field (.ref it) 0 >>= _) _ _ s); refine wpAny_bind (wpAny_field ho hd (x := .ref t) rfl ?_)
  (show wpAny _ _ (if (Value.ref t == Value.none) = true then _ else _) _ _ s); rw [if_neg (fun z : (Value.ref t == Value.none) = true => Bool.false_ne_true z)]
  (show wpAny _ _ (field (.ref it) 1 >>= _) _ _ s); refine wpAny_bind (wpAny_field ho hd (x := .int i 0) rfl ?_)
  (show wpAny _ _ (seqItems? (.ref t) >>= _) _ _ s); refine wpAny_bind (wpAny_seqItems hol hdl ?_); simp only [Int.toNat_natCast, hx]
  refine wpAny_bind (wpAny_rule (wpAny_bind (wpAny_setField ho hd (by simp) ?_)))
  (show wpAny _ _ (newExc (.type "StopIteration") [] >>= _) _ _ _); refine wpAny_bind ?_; simp only [newExc, newTuple]
  refine wpAny_bind (wpAny_newObj_type ?_ (by size_fits)); refine wpAny_bind (m := firstArgMember _ _) (wpAny_of_eq (a := Value.none) (by first | rfl | (simp only [firstArgMember]; rfl)) ?_); refine wpAny_newObj_type ?_ (by size_fits)
  have up : ∀ b o, b ≠ it → s.heap.get? b = some o → ((s.heap.update it (Obj.mapFields fun x => x.setIfInBounds 0 Value.none)).push { cls := .type "tuple", data := .seq #[] }).get? b = some o := fun b o hb e => Heap.get?_push_of_some _ ((Heap.get?_update_other _ _ (Ne.symm hb)).trans e)
  refine HotX.raiseNew_hot ⟨hh, o1, zs, Heap.get?_push_of_some _ (up _ _ n1 h1), d1, c1⟩ (Nat.ne_of_lt (Heap.lt_size (up _ _ n1 h1))) (Heap.get?_push_size _ rfl) rfl (by first | (simp; done) | (simp; omega) | (simp only [Array.size_append]; simp; omega)) ?_
  refine wpAny_bind (wpAny_isInstance (T := "StopIteration") (b := true) ⟨_, Heap.get?_update_self _ (Heap.get?_push_size _ rfl) rfl, rfl⟩ isSubtype_stop (wpAny_pure (hQ _ fun b o hb e => ?_)))
  exact (Heap.get?_update_other _ _ (Nat.ne_of_gt (Heap.lt_size (up b o hb e)))).trans (Heap.get?_push_of_some _ (up b o hb e))
theorem lst_stop {Q : Option Value → Shared → Prop} (hot : HotX.HotAt A x1 s.heap) (n1 : x1 ≠ it) (hit : s.heap.IsListIter it t i) (ht : s.heap.IsList t items) (hx : items[i]? = none) (hQ : ∀ h', Heap.ExtBut it s.heap h' → Q none { s with heap := h' }) :
    wpAny (model prog w) A (pyNext (.ref it)) Q E s := by
  obtain ⟨o, ho, hc, hd⟩ := id hit; obtain ⟨ol, hol, _, nl, hdl⟩ := ht; obtain ⟨hh, o1, zs, h1, d1, c1⟩ := hot
  unfold pyNext
  refine wpAny_bind (wpAny_attempt (wpAny_callSpecial?_slot (name := Str.ofString "__next__") hit.typeIs slot_listiter_next (wpAny_call_entry slot_listiter_next hit.typeIs entry_listiter_next ?_ (args_listiter_next _))))
  (show wpAny _ _ (field (.ref it) 0 >>= _) _ _ s); refine wpAny_bind (wpAny_field ho hd (x := .ref t) rfl ?_)
  (show wpAny _ _ (if (Value.ref t == Value.none) = true then _ else _) _ _ s); rw [if_neg (fun z : (Value.ref t == Value.none) = true => Bool.false_ne_true z)]
  (show wpAny _ _ (field (.ref it) 1 >>= _) _ _ s); refine wpAny_bind (wpAny_field ho hd (x := .int i 0) rfl ?_)
  (show wpAny _ _ (seqItems? (.ref t) >>= _) _ _ s); refine wpAny_bind (wpAny_seqItems hol hdl ?_); simp only [Int.toNat_natCast, hx]
  refine wpAny_bind (wpAny_rule (wpAny_bind (wpAny_setField ho hd (by simp) ?_)))
  (show wpAny _ _ (newExc (.type "StopIteration") [] >>= _) _ _ _); refine wpAny_bind ?_; simp only [newExc, newTuple]
  refine wpAny_bind (wpAny_newObj_type ?_ (by size_fits)); refine wpAny_bind (m := firstArgMember _ _) (wpAny_of_eq (a := Value.none) (by first | rfl | (simp only [firstArgMember]; rfl)) ?_); refine wpAny_newObj_type ?_ (by size_fits)
  have up : ∀ b o, b ≠ it → s.heap.get? b = some o → ((s.heap.update it (Obj.mapFields fun x => x.setIfInBounds 0 Value.none)).push { cls := .type "tuple", data := .seq #[] }).get? b = some o := fun b o hb e => Heap.get?_push_of_some _ ((Heap.get?_update_other _ _ (Ne.symm hb)).trans e)
  refine HotX.raiseNew_hot ⟨hh, o1, zs, Heap.get?_push_of_some _ (up _ _ n1 h1), d1, c1⟩ (Nat.ne_of_lt (Heap.lt_size (up _ _ n1 h1))) (Heap.get?_push_size _ rfl) rfl (by first | (simp; done) | (simp; omega) | (simp only [Array.size_append]; simp; omega)) ?_
  refine wpAny_bind (wpAny_isInstance (T := "StopIteration") (b := true) ⟨_, Heap.get?_update_self _ (Heap.get?_push_size _ rfl) rfl, rfl⟩ isSubtype_stop (wpAny_pure (hQ _ fun b o hb e => ?_)))
  exact (Heap.get?_update_other _ _ (Nat.ne_of_gt (Heap.lt_size (up b o hb e)))).trans (Heap.get?_push_of_some _ (up b o hb e))
/-- (a, b, ..) = t -/
theorem set_tup_hot {env : Env} {elts : List Expr} {k} {pos : Pos} {Q : Unit → Shared → Prop} (hot : HotX.HotAt A x1 s.heap) (ht : PyProof.Rows.IsTup s.heap t items) (hn : (assignEach elts env).length = items.size) (hstar : (assignEach elts env).findIdx? (·.1) = none)
    (h : ∀ h', Heap.ExtBut s.heap.objs.size s.heap h' → wpAny (model prog w) A (assignInOrder ((assignEach elts env).map (·.2)) items.toList) Q E { s with heap := h' }) : wpAny (model prog w) A (assign (.Tuple elts k pos) env (.ref t)) Q E s := by
  have tl : t < s.heap.objs.size := by obtain ⟨o, ho, _⟩ := ht; exact Heap.lt_size ho
  have xl : x1 < s.heap.objs.size := by obtain ⟨_, o, _, ho, _⟩ := hot; exact Heap.lt_size ho
  obtain ⟨hh, o1, zs, h1, d1, c1⟩ := hot
  rw [assign_Tuple]
  refine wpAny_bind (wpAny_standAt ?_)
  unfold unpack; rw [hn, hstar]
  refine wpAny_bind (wpAny_holding ?_)
  unfold unpackItems
  refine wpAny_bind ?_
  unfold notIterableAtAll
  refine wpAny_bind (wpAny_specialOf ht.typeIs slot_tuple_iter.lookup (wpAny_pure ?_))
  simp only [Bool.false_eq_true, if_false]
  refine wpAny_bind (wpAny_holding (iter_tuple ht (wpAny_bind (wpAny_holding (draw_tuple (Nat.ne_of_lt tl) items.size 0 _ _ ⟨_, Heap.get?_push_size _ rfl, rfl, rfl⟩ (ht.push _) (by omega) fun h₁ hit₁ hs₁ => ?_)))))
  rw [show List.take items.size (List.drop 0 items.toList) = items.toList by rw [List.drop_zero]; exact List.take_of_length_le (by simp)]
  rw [if_neg (by simp)]
  have old : ∀ b o, s.heap.get? b = some o → h₁.get? b = some o := fun b o e => hs₁.extBut b o (Nat.ne_of_lt (Heap.lt_size e)) (Heap.get?_push_of_some _ e)
  refine wpAny_bind (wpAny_holding (tup_stop (x1 := x1) ⟨hh, o1, zs, old _ _ h1, d1, c1⟩ (Nat.ne_of_lt xl) hit₁ ((ht.push _).extBut hs₁.extBut (Nat.ne_of_lt tl)) (by simp) fun h₂ he₂ => ?_))
  simp only [Option.isSome_none, Bool.false_eq_true, if_false]
  exact wpAny_pure (h h₂ fun b o hb e => he₂ b o hb (old b o e))
end
end HS
/-! A list comprehension over a list while an exception is handled. -/
namespace HS
open PySem PySem.Spec PyProof.Rows L2
/-- the handled exception stood at this context's start, untold, and is none of its own things -/
def HotB (X : Cx) (x1 : Addr) : Prop := X.A.handled = some (.ref x1) ∧ ∃ (o : Obj) (zs : Array Value), X.s_0.heap.get? x1 = some o ∧ o.data = .fields zs ∧ zs[2]? = some .none ∧ X.H_0 x1 = none ∧ x1 ∉ X.fs ∧ x1 ∉ X.ex
theorem HotB.at {X : Cx} {pins : List (Addr × Obj)} {σ : L2.St} {H : Hp} {s : Shared} {x1 : Addr} (h : HotB X x1) (I : Inv X pins σ H s) : HotX.HotAt X.A x1 s.heap := by
  obtain ⟨hh, o, zs, e, d, c, n, nf, ne⟩ := h
  exact ⟨hh, o, zs, I.base.keep x1 o e n nf ne, d, c⟩
/-- (a, b, ..) = t there -/
theorem pg_tupE {X : Cx} {x1 : Addr} {es : List Expr} {k : Nat} {t : TGs} {n : Nat} {pos : Pos} (hot : HotB X x1) (h : PGs X es t) (hn : (assignEach es X.env).length = n := by rfl) (hst : (assignEach es X.env).findIdx? (·.1) = none := by rfl) : PG X (.Tuple es k pos) (gTup X.K n t) := by
  constructor
  rintro pins s σ H v u Q I r ⟨a, xs, ev, hq, hl, hw⟩
  subst ev; cases r
  obtain ⟨its, rv, ht, hz⟩ := I.tuple hq
  refine set_tup_hot (hot.at I) ht (by simp [hn, ← hl, rv.length]) hst fun h1 hx => h.run pins _ σ H xs _ Q (I.kept (t' := s.toks) fun b o e => hx b o (Nat.ne_of_lt (Heap.lt_size e)) e) (by simpa using rv) hw
/-- what a list's iterator does there -/
structure TurnE (P : Program) (w : World) (K : PySem.W.Frag) (tg : Expr) (J : It) (fp : List Addr) (it : Addr) (tn : Nat → Heap → Prop) : Prop where
  obj : ∀ i h, tn i h → ∀ b ∈ fp, ∃ o, h.get? b = some o ∧ ∀ v, o.data ≠ .cell v
  keep : ∀ i h h', tn i h → (∀ b ∈ fp, ∀ o, h.get? b = some o → h'.get? b = some o) → tn i h'
  item : ∀ (X : Cx), X.prog = P → X.w = w → X.K = K → ∀ (i : Nat) (pins : List (Addr × Obj)) (s : Shared) (σ : L2.St) (H : Hp) (E : Value → Shared → Prop), Inv X pins σ H s → (∀ b ∈ fp, FpOk X pins H b) → tn i s.heap → J.go i H →
    wpAny (model P w) X.A (pyNext (.ref it)) (fun r s1 => ∃ u, r = some u ∧ wpAny (model P w) X.A (letOwnedTupleGo tg (.ref it) u) (fun _ s2 => ∃ x H', Inv X pins σ H' s2 ∧ RelV x u ∧ J.yld i H x H' ∧ tn (i + 1) s2.heap ∧ ∀ b ∈ fp, H' b = none) E s1) E s
  done : ∀ (X : Cx) (x1 : Addr), X.prog = P → X.w = w → X.K = K → HotB X x1 → (∀ b ∈ fp, b ∈ X.ex) → ∀ (i : Nat) (pins : List (Addr × Obj)) (s : Shared) (σ : L2.St) (H : Hp) (E : Value → Shared → Prop), Inv X pins σ H s → (∀ b ∈ fp, FpOk X pins H b) → tn i s.heap → J.stop i H →
    wpAny (model P w) X.A (pyNext (.ref it)) (fun r s1 => r = none ∧ Inv X pins σ H s1) E s
  self : ∀ (A : Around) (i : Nat) (s : Shared) (Q : Value → Shared → Prop) (E : Value → Shared → Prop), tn i s.heap → Q (.ref it) s → wpAny (model P w) A (pyIter (.ref it)) Q E s
theorem turn_listE {P : Program} {w : World} {K : PySem.W.Frag} {tg : Expr} (a it : Addr) : TurnE P w K tg (Itl K a) [it] it (fun i h => h.IsListIter it a i) where
  obj := (turn_list (P := P) (w := w) (K := K) (tg := tg) a it).obj
  keep := (turn_list (P := P) (w := w) (K := K) (tg := tg) a it).keep
  item := by
    rintro X hP hw hK i pins s σ H E I hf st ⟨xs, x, hq, hx⟩
    subst hP hw hK
    obtain ⟨its, rv, p, _⟩ := I.list hq; obtain ⟨u, hu, ru⟩ := rv.get hx; obtain ⟨g0, g1, g2, g3, g4, g5⟩ := hf it (by simp)
    refine wpAny_pyNext_list_item st p.isList (x := u) (by simpa using hu) fun h1 st1 sb => ?_
    obtain ⟨o, e, c, d⟩ := id st1
    exact ⟨u, rfl, go_of (s := { s with heap := h1 }) e c d (by decide) ⟨x, H, I.turned (t' := s.toks) (fun b o hb e => (sb.2 b hb).trans e) g0 g1 g3 g4 g5, ru, ⟨rfl, fun ys hy => by rw [I.list_inj hy hq]; exact hx⟩, st1, fun b hb => (hf b hb).1⟩⟩
  done := by
    rintro X x1 hP hw hK hot hex i pins s σ H E I hf st ⟨xs, hq, hx⟩
    subst hP hw hK
    obtain ⟨its, rv, p, _⟩ := I.list hq; obtain ⟨g0, g1, g2, g3, g4, g5⟩ := hf it (by simp)
    have hl := rv.length
    have ne : x1 ≠ it := fun z => by obtain ⟨_, _, _, _, _, _, _, _, n⟩ := hot; exact n (z ▸ hex it (by simp))
    exact lst_stop (hot.at I) ne st p.isList (by simp; omega) fun h1 eb => ⟨rfl, I.turned (t' := s.toks) (fun b o hb e => eb b o hb e) g0 g1 g3 g4 g5⟩
  self := (turn_list (P := P) (w := w) (K := K) (tg := tg) a it).self
end HS
namespace HS
open PySem PySem.Spec PyProof.Rows L2
section
variable {X : Cx}
theorem hotB_blk {pins : List (Addr × Obj)} {σ : L2.St} {H : Hp} {s : Shared} {scope : Scope} {ce : Env} {fp : List Addr} (c : L2H.HotC X) (I : Inv X pins σ H s) (f : ∀ b ∈ fp, FpOk X pins H b) : ∃ x1, HotB (X.blk s H scope ce fp) x1 := by
  obtain ⟨p, ⟨hh, zs, e, c1⟩, hp⟩ := c
  have P := I.pin p (List.mem_append_left _ hp)
  refine ⟨p.1, hh, p.2, zs, P.1, e, c1, P.2.1, fun hm => (List.mem_cons.mp (I.stkSub p.1 hm)).elim P.2.2.1 P.2.2.2.1, fun hm => ?_⟩
  exact (f p.1 hm).2.2.2.2.2 p (List.mem_append_left _ hp) rfl
theorem lc_coreE {pins : List (Addr × Obj)} {s : Shared} {σ : L2.St} {H : Hp} {Q : VK} {elt tg iter : Expr} {ifs : List Expr} {scope : Scope} {own : List (Str × Nat)} {pos pos' : Pos} {tl : TE} {g : TG} {tt : TT} {te : TE} {use : Option (Value → Sem Unit)} {Qf : Value → Shared → Prop} (hc : L2H.HotC X) (hN : X.N.Nodup) (I : Inv X pins σ H s) (hi : PE X iter tl) (ok : BlkOk X.N X.env.scope scope own)
    (hg : ∀ (x1 : Addr) (s : Shared) (H : Hp) (C : Addr) (cl : List (Str × Addr)) (fp : List Addr), HotB (X.blk s H scope (compEnvC scope cl C X.env) fp) x1 → PG (X.blk s H scope (compEnvC scope cl C X.env) fp) tg g) (ht : ∀ (s : Shared) (H : Hp) (C : Addr) (cl : List (Str × Addr)) (fp : List Addr), PTs (X.blk s H scope (compEnvC scope cl C X.env) fp) ifs tt) (he : ∀ (s : Shared) (H : Hp) (C : Addr) (cl : List (Str × Addr)) (fp : List Addr), PE (X.blk s H scope (compEnvC scope cl C X.env) fp) elt te) (hs : ∀ x, foldedSetIterable iter X.env x = pure x) (h : tLc (iList X.K tl) g tt te (own.map (·.2)) σ H Q)
    (hRR : ∀ D C s' m H', Inv X pins σ H' s' → Q (.ref D) H' → s'.heap.Ns C m → FpOk X pins H' C → compPost (model X.prog X.w) X.A X.xe use Qf (.ref D) C (.ok .next) s') : wpAny (model X.prog X.w) X.A (comprehension (.ListComp elt [⟨tg, iter, ifs, 0⟩] scope pos) scope X.env pos' (newList []) false (eval iter X.env) use) Qf X.xe s := by
  have fr : ∀ y ∈ scope.names, y.2 = .free → ∃ c, X.env.cells.lookup y.1 = some c := fun y hy e => (ok.free y hy e).elim (fun k => I.ok.has _ (.inl k)) fun k => I.ok.has _ (.inr k)
  refine wpAny_comprehension_free (use := use) rfl hs (closure_ok fr) ok.kind (fun y hy e => by rw [ok.uniq y hy, e]) (thn (hi.run pins s σ H _ I h) fun v s1 ⟨x, H1, I1, r1, a, ex, ⟨xs, hq⟩, q⟩ => ?_)
  subst ex; cases r1
  obtain ⟨its, rv, pl, _⟩ := I1.list hq
  refine wpAny_pyIter_list pl.isList ?_
  have f2 : ∀ b ∈ [s1.heap.objs.size], FpOk X pins H1 b := fun b hb => by
    rw [List.mem_singleton.mp hb]
    exact I1.fpOk (Nat.le_refl _) (I1.hok.fresh (Nat.le_refl _))
  have T := turn_listE (P := X.prog) (w := X.w) (K := X.K) (tg := tg) a s1.heap.objs.size
  generalize hs2 : ({ s1 with heap := s1.heap.push { cls := Value.type "list_iterator", data := Data.fields #[Value.ref a, Value.int 0 0] } } : Shared) = s2
  have I2 : Inv X pins σ H1 s2 := by rw [← hs2]; exact I1.kept (t' := s1.toks) fun b o e => Heap.get?_push_of_some _ e
  have st2 : s2.heap.IsListIter s1.heap.objs.size a 0 := by rw [← hs2]; exact ⟨_, Heap.get?_push_size _ rfl, rfl, rfl⟩
  generalize s1.heap.objs.size = it at T f2 st2 ⊢
  refine wpAny_newObj_type (newEnv_comp ?_) (by (show 0 ≤ sizeLine); decide)
  generalize hD : s2.heap.objs.size = D
  have nD : H1 D = none := I2.hok.fresh (Nat.le_of_eq hD)
  obtain ⟨W, ⟨m0, w0⟩, turn⟩ := q D nD
  generalize hs3 : ({ s2 with heap := s2.heap.push { cls := .type "list", data := .seq ([] : List Value).toArray } } : Shared) = s3
  have e3 : s3.heap = s2.heap.push { cls := .type "list", data := .seq ([] : List Value).toArray } := by rw [← hs3]
  have I3 : Inv X pins σ (upd H1 D (.lst [])) s3 := by
    rw [← hs3]
    exact I2.laid (t' := s2.toks) (fun b o e => Heap.get?_push_of_some _ e) (Nat.le_of_eq hD) ⟨Nat.zero_le _, [], 0, .nil, by rw [← hD]; exact Heap.get?_push_size _ rfl⟩
  have itD : it < s2.heap.objs.size := by obtain ⟨o, e, _⟩ := st2; exact Heap.lt_size e
  have f3 : ∀ b ∈ [it], FpOk X pins (upd H1 D (.lst [])) b ∧ b < s3.heap.objs.size := fun b hb => by
    have eb := List.mem_singleton.mp hb
    refine ⟨⟨?_, (f2 b hb).2⟩, by rw [e3, Heap.size_push, eb]; exact Nat.lt_succ_of_lt itD⟩
    rw [upd_ne (by rw [← hD, eb]; exact Nat.ne_of_lt itD)]
    exact (f2 b hb).1
  have st3 : s3.heap.IsListIter it a 0 := st2.at fun o e => by rw [e3]; exact Heap.get?_push_of_some _ e
  have I4 := block_start I3 ok hN f3
  obtain ⟨x1, hot⟩ := hotB_blk (scope := scope) (ce := compEnvC scope (cellsFrom (s3.heap.objs.size + 1) scope.names (cloFrom X.env.cells scope.names [])) s3.heap.objs.size X.env) hc I3 fun b hb => (f3 b hb).1
  have pg := hg x1 s3 (upd H1 D (.lst [])) s3.heap.objs.size (cellsFrom (s3.heap.objs.size + 1) scope.names (cloFrom X.env.cells scope.names [])) [it] hot
  have pt := ht s3 (upd H1 D (.lst [])) s3.heap.objs.size (cellsFrom (s3.heap.objs.size + 1) scope.names (cloFrom X.env.cells scope.names [])) [it]
  have pe := he s3 (upd H1 D (.lst [])) s3.heap.objs.size (cellsFrom (s3.heap.objs.size + 1) scope.names (cloFrom X.env.cells scope.names [])) [it]
  (show codeAny _ _ (.compStart (.ListComp elt [⟨tg, iter, ifs, 0⟩] scope pos) 0 (.ref it) (.ref D) (compEnvC scope (cellsFrom (s3.heap.objs.size + 1) scope.names (cloFrom X.env.cells scope.names [])) s3.heap.objs.size X.env)) (compPost (model X.prog X.w) X.A X.xe use Qf (.ref D) s3.heap.objs.size) { s3 with heap := pushCells (s3.heap.push { cls := .type "dict", data := .dict #[] }) scope.names })
  generalize hce : compEnvC scope (cellsFrom (s3.heap.objs.size + 1) scope.names (cloFrom X.env.cells scope.names [])) s3.heap.objs.size X.env = ce at I4 hot pg pt pe ⊢
  have cL : ce.locals = s3.heap.objs.size := by subst hce; rfl
  generalize upd H1 D (.lst []) = H3 at I3 I4 hot pg pt pe w0 f3
  generalize hs4 : ({ s3 with heap := pushCells (s3.heap.push { cls := .type "dict", data := .dict #[] }) scope.names } : Shared) = s4 at I4 ⊢
  have st4 : s4.heap.IsListIter it a 0 := st3.at fun o e => by rw [← hs4]; exact pushCells_keeps _ _ _ _ (Heap.get?_push_of_some _ e)
  have stat : ∀ {σ' : L2.St} {H' : Hp} {s' : Shared}, Inv (X.blk s3 H3 scope ce [it]) [] σ' H' s' → (∀ b ∈ [it], H' b = none) → ∀ b ∈ [it], FpOk (X.blk s3 H3 scope ce [it]) [] H' b := fun I' hn b hb =>
    ⟨hn b hb, (I'.ok.exf b hb).1, I'.ok.exfs b hb, .inl hb, fun x c e => (I'.ok.exf b hb).2 x c e, fun p hp => absurd (show p ∈ ([] : List (Addr × Obj)) from hp) List.not_mem_nil⟩
  have loop : codeAny (model X.prog X.w) X.A (.compLoop (.ListComp elt [⟨tg, iter, ifs, 0⟩] scope pos) 0 (.ref it) (.ref D) ce) (compPost (model X.prog X.w) X.A X.xe use Qf (.ref D) s3.heap.objs.size) s4 := by
    refine compLoop_any (fun n s' => ∃ i H', Inv (X.blk s3 H3 scope ce [it]) [] (wipe σ (own.map (·.2))) H' s' ∧ s'.heap.IsListIter it a i ∧ (∀ b ∈ [it], H' b = none) ∧ W i n H') ?_ m0 ⟨0, H3, I4, st4, fun b hb => (f3 b hb).1.1, w0⟩
    rintro n s5 ⟨i, H5, I5, st5, n5, w5⟩
    rcases turn i n H5 w5 with ⟨stop, qq⟩ | ⟨go, Nx, hNx, step⟩
    · refine thnF (T.done (X.blk s3 H3 scope ce [it]) x1 rfl rfl rfl hot (fun b hb => hb) i [] s5 _ H5 (fun _ _ => False) I5 (stat I5 n5) st5 stop) fun r s6 ⟨hr, I6⟩ => ?_
      subst hr
      have nC : H5 s3.heap.objs.size = none := by have z : H5 ce.locals = none := I6.free; rw [cL] at z; exact z
      obtain ⟨m, hn, _⟩ := I6.loc
      have hn : s6.heap.Ns ce.locals m := hn
      rw [cL] at hn
      exact hRR D s3.heap.objs.size s6 m H5 (I3.call' (ch := [it]) I6.os I6.base I6.hok I6.bare fun b hb => ⟨(f3 b hb).1.2.2.2.1, (f3 b hb).1.2.1, (f3 b hb).1.2.2.2.2.1, (f3 b hb).1.2.2.2.2.2⟩) qq hn (I3.fpOk (Nat.le_refl _) nC)
    · refine thnF (T.item (X.blk s3 H3 scope ce [it]) rfl rfl rfl i [] s5 _ H5 (fun _ _ => False) I5 (stat I5 n5) st5 go) fun r s6 ⟨u, hr, h6⟩ => ?_
      subst hr
      refine thnF h6 fun _ s7 ⟨x, H7, I7, r7, y7, st7, n7⟩ => thnF (pg.run _ s7 _ H7 x u _ (I7.pinned (stat I7 n7) (T.obj _ _ st7)) r7 (step x H7 y7)) fun _ s8 ⟨σ8, H8, I8, hw8, q8⟩ => thnF (pt.run _ s8 σ8 H8 _ I8 q8) fun b s9 ⟨H9, I9, q9⟩ => ?_
      have fin : ∀ {s' : Shared} {H' : Hp}, Inv (X.blk s3 H3 scope ce [it]) ([] ++ pinsAt [it] s7.heap) σ8 H' s' → Nx H' → ∃ m, m < n ∧ ∃ i H', Inv (X.blk s3 H3 scope ce [it]) [] (wipe σ (own.map (·.2))) H' s' ∧ s'.heap.IsListIter it a i ∧ (∀ b ∈ [it], H' b = none) ∧ W i m H' := fun {s' H'} I' nx => by
        obtain ⟨m', hm, w'⟩ := hNx H' nx
        have pin' : ∀ b ∈ [it], ∀ o, s7.heap.get? b = some o → s'.heap.get? b = some o ∧ H' b = none := fun b hb o e => have z := I'.pin (b, o) (List.mem_append_right _ (List.mem_append_right _ (mem_pinsAt hb e))); ⟨z.1, z.2.1⟩
        have ll : (wipe σ (own.map (·.2))).length = σ8.length := by rw [← hw8, wipe_length]
        exact ⟨m', hm, i + 1, H', (I'.unpinned (pins := [])).weak ll (fun j v e => by rw [← hw8] at e; exact (wipe_some e).1), T.keep _ _ _ st7 fun b hb o e => (pin' b hb o e).1, fun b hb => by obtain ⟨o, e, _⟩ := T.obj _ _ st7 b hb; exact (pin' b hb o e).2, w'⟩
      cases b with
      | false => simp only [Bool.false_eq_true, if_false] at q9 ⊢; exact fin I9 q9
      | true =>
        simp only [if_true] at q9 ⊢
        exact thnF (pe.run _ s9 σ8 H9 _ I9 q9) fun z s10 ⟨yv, H10, I10, r10, acc, hD10, hz10, nx⟩ => app_ok (X := X.blk s3 H3 scope ce [it]) I10 hD10 hz10 r10 fun s11 I11 => fin I11 nx
  exact codeAny_compStart_list loop (T.self X.A 0 _ _ _ st4 loop)
/-- as a value -/
theorem pe_lcE {elt tg iter : Expr} {ifs : List Expr} {scope : Scope} {own : List (Str × Nat)} {pos : Pos} {tl : TE} {g : TG} {tt : TT} {te : TE} (hc : L2H.HotC X) (hN : X.N.Nodup) (hi : PE X iter tl) (ok : BlkOk X.N X.env.scope scope own)
    (hg : ∀ (x1 : Addr) (s : Shared) (H : Hp) (C : Addr) (cl : List (Str × Addr)) (fp : List Addr), HotB (X.blk s H scope (compEnvC scope cl C X.env) fp) x1 → PG (X.blk s H scope (compEnvC scope cl C X.env) fp) tg g) (ht : ∀ (s : Shared) (H : Hp) (C : Addr) (cl : List (Str × Addr)) (fp : List Addr), PTs (X.blk s H scope (compEnvC scope cl C X.env) fp) ifs tt) (he : ∀ (s : Shared) (H : Hp) (C : Addr) (cl : List (Str × Addr)) (fp : List Addr), PE (X.blk s H scope (compEnvC scope cl C X.env) fp) elt te) (hs : ∀ x, foldedSetIterable iter X.env x = pure x := by intro _; rfl) :
    PE X (.ListComp elt [⟨tg, iter, ifs, 0⟩] scope pos) (tLc (iList X.K tl) g tt te (own.map (·.2))) := by
  constructor
  intro pins s σ H Q I h
  rw [eval_ListComp]
  refine lc_coreE hc hN I hi ok hg ht he hs h fun D C s' m H' I' q hn f => ⟨m, hn, fun h1 sb => ?_⟩
  obtain ⟨g0, g1, g2, g3, g4, g5⟩ := f
  exact ⟨.ref D, H', I'.turned (t' := s'.toks) (fun b o hb e => (sb.2 b hb).trans e) g0 g1 g3 g4 g5, rfl, q⟩
theorem ps_setLcE {i : Nat} {y : Str} {py : Pos} {elt tg iter : Expr} {ifs : List Expr} {scope : Scope} {own : List (Str × Nat)} {pos spos : Pos} {tl : TE} {g : TG} {tt : TT} {te : TE} (hc : L2H.HotC X) (hN : X.N.Nodup) (hy : X.N[i]? = some y) (loc : X.env.scope.names.lookup y = some .local)
    (sw : swapsWith (.ListComp elt [⟨tg, iter, ifs, 0⟩] scope pos) (some (.Name y py)) spos.line X.env = pure true) (hi : PE X iter tl) (ok : BlkOk X.N X.env.scope scope own)
    (hg : ∀ (x1 : Addr) (s : Shared) (H : Hp) (C : Addr) (cl : List (Str × Addr)) (fp : List Addr), HotB (X.blk s H scope (compEnvC scope cl C X.env) fp) x1 → PG (X.blk s H scope (compEnvC scope cl C X.env) fp) tg g) (ht : ∀ (s : Shared) (H : Hp) (C : Addr) (cl : List (Str × Addr)) (fp : List Addr), PTs (X.blk s H scope (compEnvC scope cl C X.env) fp) ifs tt) (he : ∀ (s : Shared) (H : Hp) (C : Addr) (cl : List (Str × Addr)) (fp : List Addr), PE (X.blk s H scope (compEnvC scope cl C X.env) fp) elt te) (hs : ∀ x, foldedSetIterable iter X.env x = pure x := by intro _; rfl) :
    PS X (.Assign [.Name y py] (.ListComp elt [⟨tg, iter, ifs, 0⟩] scope pos) spos) (tAsg (tLc (iList X.K tl) g tt te (own.map (·.2))) (gName i)) := by
  constructor
  intro pins s σ H D I h
  rw [exec_Assign_Name_used _ _ _ _ sw]
  refine wpAny_bind (wpAny_standAt (wpAny_bind ?_))
  (show wpAny _ X.A (do let _ ← comprehension (.ListComp elt [⟨tg, iter, ifs, 0⟩] scope pos) scope X.env (firstIterPos [⟨tg, iter, ifs, 0⟩] pos) (newList []) false (eval iter X.env) (some (assign (.Name y py) X.env))) _ _ s)
  have h : tLc (iList X.K tl) g tt te (own.map (·.2)) σ H (fun z H1 => gName i z σ H1 D.nx) := h
  refine wpAny_bind (thn (lc_coreE (Qf := fun _ s2 => SP X pins D .next s2) hc hN I hi ok hg ht he hs h fun L C s1 m H' J q hn f => ?_) fun _ s2 hq => wpAny_pure (wpAny_pure hq))
  (show wpAny _ _ (assign (.Name y py) X.env (.ref L)) _ _ _)
  refine wpAny_assign_Name (store_ok2 (v := V.ref L) J hN hy (.inl loc) rfl (fun s2 J2 ⟨a, sb, ha⟩ => ?_) (.inr loc))
  obtain ⟨g0, g1, g2, g3, g4, g5⟩ := f
  have nC : C ≠ a := ha.elim (fun z => by rw [z]; exact g1) fun z e => g4 y a z e.symm
  exact ⟨m, hn.sameBut sb nC, fun h3 sb3 => ⟨_, H', J2.turned (t' := s2.toks) (fun b o hb e => (sb3.2 b hb).trans e) g0 g1 g3 g4 g5, q⟩⟩
theorem ksetE {S : Stmt} {tl : TE} {g : TG} {tt : TT} {te : TE} {vs : List Nat} {g2 : TG} (K : PySem.W.Frag) (p : PS X S (tAsg (tLc (iList X.K tl) g tt te vs) g2)) (h : X.K = K := by rfl) : PS X S (tAsg (tLc (iList K tl) g tt te vs) g2) := h ▸ p
theorem klcE {E : Expr} {tl : TE} {g : TG} {tt : TT} {te : TE} {vs : List Nat} (K : PySem.W.Frag) (p : PE X E (tLc (iList X.K tl) g tt te vs)) (h : X.K = K := by rfl) : PE X E (tLc (iList K tl) g tt te vs) := h ▸ p
theorem hotC_mk {xa : Addr} {oe : Obj} (hh : X.A.handled = some (.ref xa)) (hn : ∀ zs, oe.data = .fields zs → zs[2]? = some .none) (hf : ∃ zs, oe.data = .fields zs) (hp : (xa, oe) ∈ X.pn) : L2H.HotC X := by
  obtain ⟨zs, e⟩ := hf
  exact ⟨(xa, oe), ⟨hh, zs, e, hn zs e⟩, hp⟩
end
end HS
/-! What a run does not wake stays asleep: a generator's state is framed (own rules over PyProof.Runs, PyProof.Wp). -/
namespace HS
open PySem PyProof.Rows
open Sem (wp)
/-- a state that cannot be gone on with -/
def dead : Resume → Sem PySem.Fin := fun _ => .unsupported "asleep"
def kill : GenState → GenState
  | .suspended _ l c p fs cl => .suspended dead l c p fs cl
  | x => x
def Asleep (x : GenState) : Prop := ∃ k l c p fs cl, x = .suspended k l c p fs cl
inductive Pair : GenState → GenState → Prop
  | eq {x : GenState} (h : ∀ k l c p fs cl, x = .suspended k l c p fs cl → splitAtGen fs = none) : Pair x x
  | dead {k : Resume → Sem PySem.Fin} {l : List Value} {c : Code} {p : Pos} {fs : List Frame} {cl : Bool} : Pair (.suspended k l c p fs cl) (.suspended dead l c p fs cl)
def Like (G D : Array GenState) : Prop := G.size = D.size ∧ ∀ (i : Nat) (x y : GenState), G[i]? = some x → D[i]? = some y → Pair x y
def Dead (D : Array GenState) (i : Nat) : Prop := ∃ l c p fs cl, D[i]? = some (.suspended dead l c p fs cl)
theorem Like.at {G D : Array GenState} (h : Like G D) {i : Nat} {y : GenState} (e : D[i]? = some y) : ∃ x, G[i]? = some x ∧ Pair x y := by
  have hi : i < G.size := by rw [h.1]; exact (Array.getElem?_eq_some_iff.mp e).1
  exact ⟨G[i], Array.getElem?_eq_getElem hi, h.2 i _ _ (Array.getElem?_eq_getElem hi) e⟩
theorem no_run0 {M : Model} {Γ : Ctx} {p : Pos} {w : String} {s s' : Shared} {e : End} (h : Runs M Γ p (.unsupported w) [] s e s') : False := by cases h
theorem no_run {M : Model} {Γ : Ctx} {p : Pos} {w : String} {fs : List Frame} {s s' : Shared} {e : End} (h : Runs M Γ p (.unsupported w) fs s e s') : False := by
  cases fs with
  | nil => exact no_run0 h
  | cons F fs =>
    cases h with
    | segRet h _ => exact no_run0 h
    | segGen h _ => exact no_run0 h
    | segSuspOut _ h => exact no_run0 h
    | segSuspGen _ h _ _ => exact no_run0 h
theorem split_app {a b : List Frame} (ha : splitAtGen a = none) (hb : splitAtGen b = none) : splitAtGen (a ++ b) = none := by
  induction a with
  | nil => exact hb
  | cons f r ih =>
    cases f with
    | gen g k l c p => cases ha
    | ret k h g l c p kp =>
      show (splitAtGen (r ++ b)).map _ = none
      rw [ih (Option.map_eq_none_iff.mp ha)]; rfl
theorem split_ret {k h g l c p kp} {fs : List Frame} (e : splitAtGen (.ret k h g l c p kp :: fs) = none) : splitAtGen fs = none := Option.map_eq_none_iff.mp e
def EndOk (e : End) : Prop := ∀ v g l k c p fs, e = .susp v g l k c p fs → splitAtGen fs = none
theorem EndOk.state {e : End} (h : EndOk e) : Pair e.genState e.genState := by
  cases e with
  | ret r => exact .eq fun _ _ _ _ _ _ z => by cases z
  | susp v g l k c p fs => exact .eq fun _ _ _ _ _ _ z => by cases z; exact h _ _ _ _ _ _ _ rfl
theorem get_set {G : Array GenState} {g i : Nat} {x : GenState} (h : i ≠ g) : (G.setIfInBounds g x)[i]? = G[i]? := Array.getElem?_setIfInBounds_ne (Ne.symm h)
theorem Like.set {G D : Array GenState} (h : Like G D) {g : Nat} {x y : GenState} (p : Pair x y) : Like (G.setIfInBounds g x) (D.setIfInBounds g y) := by
  refine ⟨by simp [h.1], fun i a b e1 e2 => ?_⟩
  by_cases hi : i = g
  · subst hi
    rw [Array.getElem?_setIfInBounds_self] at e1 e2
    split at e1
    · split at e2
      · cases e1; cases e2; exact p
      · cases e2
    · cases e1
  · rw [get_set hi] at e1 e2
    exact h.2 i a b e1 e2
theorem Like.push {G D : Array GenState} (h : Like G D) (c : Code) : Like (G.push (.fresh c)) (D.push (.fresh c)) := by
  refine ⟨by simp [h.1], fun i a b e1 e2 => ?_⟩
  rw [Array.getElem?_push] at e1 e2
  rw [h.1] at e1
  split at e1
  · rename_i z
    rw [if_pos z] at e2
    cases e1; cases e2
    exact .eq fun _ _ _ _ _ _ z => by cases z
  · rename_i z
    rw [if_neg z] at e2
    exact h.2 i a b e1 e2
theorem Dead.set {D : Array GenState} {i g : Nat} {x : GenState} (h : Dead D i) (n : i ≠ g) : Dead (D.setIfInBounds g x) i := by
  obtain ⟨l, c, p, fs, cl, e⟩ := h
  exact ⟨l, c, p, fs, cl, by rw [get_set n]; exact e⟩
theorem Dead.of {D D' : Array GenState} {i : Nat} (h : Dead D i) (e : D'[i]? = D[i]?) : Dead D' i := by
  obtain ⟨l, c, p, fs, cl, q⟩ := h
  exact ⟨l, c, p, fs, cl, by rw [e]; exact q⟩
/-- what stays asleep through a run -/
def Stays (D G D' G' : Array GenState) : Prop := ∀ i, Dead D i → D'[i]? = D[i]? ∧ G'[i]? = G[i]?
theorem Stays.refl {D G : Array GenState} : Stays D G D G := fun _ _ => ⟨rfl, rfl⟩
theorem Stays.trans {D G D1 G1 D2 G2 : Array GenState} (a : Stays D G D1 G1) (b : Stays D1 G1 D2 G2) : Stays D G D2 G2 := fun i h => by
  obtain ⟨e1, e2⟩ := a i h
  obtain ⟨e3, e4⟩ := b i (h.of e1)
  exact ⟨e3.trans e1, e4.trans e2⟩
theorem Stays.setR {D G D1 G1 : Array GenState} {g : Nat} {x y x' y' : GenState} (hn : ¬ Dead D g) (a : Stays (D.setIfInBounds g x) (G.setIfInBounds g y) D1 G1) : Stays D G (D1.setIfInBounds g x') (G1.setIfInBounds g y') := fun i h => by
  have n : i ≠ g := fun z => hn (z ▸ h)
  obtain ⟨e1, e2⟩ := a i (h.set n)
  rw [get_set n, get_set n, e1, e2, get_set n, get_set n]
  exact ⟨rfl, rfl⟩
theorem Stays.set {D G : Array GenState} {g : Nat} {x y : GenState} (hn : ¬ Dead D g) : Stays D G (D.setIfInBounds g x) (G.setIfInBounds g y) := fun i h => by
  have n : i ≠ g := fun z => hn (z ▸ h)
  exact ⟨get_set n, get_set n⟩
theorem Stays.push {D G : Array GenState} (hs : G.size = D.size) {c : Code} : Stays D G (D.push (.fresh c)) (G.push (.fresh c)) := fun i h => by
  obtain ⟨l, c', p, fs, cl, e⟩ := h
  have hi := (Array.getElem?_eq_some_iff.mp e).1
  rw [Array.getElem?_push, Array.getElem?_push, if_neg (by omega), if_neg (by omega)]
  exact ⟨rfl, rfl⟩
theorem not_dead {D : Array GenState} {g : Nat} {x : GenState} (e : D[g]? = some x) (h : ∀ l c p fs cl, x ≠ .suspended dead l c p fs cl) : ¬ Dead D g := fun ⟨l, c, p, fs, cl, q⟩ => by
  rw [e] at q
  exact h l c p fs cl (Option.some.inj q)
theorem sim {M : Model} {Γ : Ctx} {p : Pos} {t : Sem PySem.Fin} {fs : List Frame} {s s' : Shared} {e : End} (h : Runs M Γ p t fs s e s') : ∀ G : Array GenState, splitAtGen fs = none → Like G s.gens →
    ∃ G', Runs M Γ p t fs { s with gens := G } e { s' with gens := G' } ∧ Like G' s'.gens ∧ Stays s.gens G s'.gens G' ∧ EndOk e := by
  induction h with
  | done => intro G _ L; exact ⟨G, .done, L, .refl, fun _ _ _ _ _ _ _ z => by cases z⟩
  | raise => intro G _ L; exact ⟨G, .raise, L, .refl, fun _ _ _ _ _ _ _ z => by cases z⟩
  | again hq _ ih => intro G _ L; obtain ⟨G', r, q⟩ := ih G rfl L; exact ⟨G', .again hq r, q⟩
  | rule _ ih => intro G _ L; obtain ⟨G', r, q⟩ := ih G rfl L; exact ⟨G', .rule r, q⟩
  | «at» _ ih => intro G _ L; obtain ⟨G', r, q⟩ := ih G rfl L; exact ⟨G', .at r, q⟩
  | load ho _ ih => intro G _ L; obtain ⟨G', r, q⟩ := ih G rfl L; exact ⟨G', .load ho r, q⟩
  | update ho _ ih => intro G _ L; obtain ⟨G', r, q⟩ := ih G rfl L; exact ⟨G', .update ho r, q⟩
  | loadIfAlive _ ih => intro G _ L; obtain ⟨G', r, q⟩ := ih G rfl L; exact ⟨G', .loadIfAlive r, q⟩
  | point _ ih => intro G _ L; obtain ⟨G', r, q⟩ := ih G rfl L; exact ⟨G', .point r, q⟩
  | alloc _ ih => intro G _ L; obtain ⟨G', r, q⟩ := ih G rfl L; exact ⟨G', .alloc r, q⟩
  | fresh _ ih => intro G _ L; obtain ⟨G', r, q⟩ := ih G rfl L; exact ⟨G', .fresh r, q⟩
  | ask _ ih => intro G _ L; obtain ⟨G', r, q⟩ := ih G rfl L; exact ⟨G', .ask r, q⟩
  | choose hn _ ih => intro G _ L; obtain ⟨G', r, q⟩ := ih G rfl L; exact ⟨G', .choose hn r, q⟩
  | os _ ih => intro G _ L; obtain ⟨G', r, q⟩ := ih G rfl L; exact ⟨G', .os r, q⟩
  | handled _ ih => intro G _ L; obtain ⟨G', r, q⟩ := ih G rfl L; exact ⟨G', .handled r, q⟩
  | stack _ ih => intro G _ L; obtain ⟨G', r, q⟩ := ih G rfl L; exact ⟨G', .stack r, q⟩
  | thread _ ih => intro G _ L; obtain ⟨G', r, q⟩ := ih G rfl L; exact ⟨G', .thread r, q⟩
  | genState hs _ ih =>
    intro G _ L
    obtain ⟨x, hx, pr⟩ := L.at hs
    obtain ⟨G', r, q⟩ := ih G rfl L
    refine ⟨G', .genState (st := x) hx ?_, q⟩
    cases pr with
    | eq _ => exact r
    | dead => exact r
  | @newGen Γ p k s e s' c _ ih =>
    intro G _ L
    obtain ⟨G', r, L', S', E'⟩ := ih (G.push (.fresh c)) rfl (L.push c)
    refine ⟨G', .newGen ?_, L', (Stays.push L.1).trans S', E'⟩
    show Runs M Γ p (k G.size) [] { s with gens := G.push (.fresh c) } e _
    rw [L.1]
    exact r
  | call _ _ ih1 ih2 =>
    intro G _ L
    obtain ⟨G1, r1, L1, S1, _⟩ := ih1 G rfl L
    obtain ⟨G2, r2, L2, S2, E2⟩ := ih2 G1 rfl L1
    exact ⟨G2, .call r1 r2, L2, S1.trans S2, E2⟩
  | callSusp _ ih =>
    intro G _ L
    obtain ⟨G1, r1, L1, S1, E1⟩ := ih G rfl L
    refine ⟨G1, .callSusp r1, L1, S1, fun _ _ _ _ _ _ _ z => ?_⟩
    cases z
    exact split_app (E1 _ _ _ _ _ _ _ rfl) rfl
  | yield => intro G _ L; exact ⟨G, .yield, L, .refl, fun _ _ _ _ _ _ _ z => by cases z; rfl⟩
  | resumeFresh hs _ hq _ ih1 ih2 =>
    intro G _ L
    obtain ⟨x, hx, pr⟩ := L.at hs
    have hd := not_dead hs fun _ _ _ _ _ z => by cases z
    cases pr with
    | eq _ =>
      obtain ⟨G1, r1, L1, S1, E1⟩ := ih1 (G.setIfInBounds _ .running) rfl (L.set (.eq fun _ _ _ _ _ _ z => by cases z))
      obtain ⟨G2, r2, L2, S2, E2⟩ := ih2 (G1.setIfInBounds _ _) rfl (L1.set E1.state)
      exact ⟨G2, .resumeFresh hx r1 hq r2, L2, (Stays.setR hd S1).trans S2, E2⟩
  | @resumeSuspended Γ p g r l k s k₀ l₀ c₀ p₀ fs cl e₁ s₁ e s' hs hr hq _ ih1 ih2 =>
    intro G _ L
    obtain ⟨x, hx, pr⟩ := L.at hs
    cases pr with
    | dead => exact (no_run hr).elim
    | eq hn =>
      have hd : ¬ Dead s.gens g := fun ⟨_, _, _, _, _, q⟩ => by
        rw [hs] at q
        cases q
        exact no_run hr
      obtain ⟨G1, r1, L1, S1, E1⟩ := ih1 (G.setIfInBounds _ .running) (hn _ _ _ _ _ _ rfl) (L.set (.eq fun _ _ _ _ _ _ z => by cases z))
      obtain ⟨G2, r2, L2, S2, E2⟩ := ih2 (G1.setIfInBounds _ _) rfl (L1.set E1.state)
      exact ⟨G2, .resumeSuspended hx r1 hq r2, L2, (Stays.setR hd S1).trans S2, E2⟩
  | resumeJustStarted hs hv _ ih =>
    intro G _ L
    obtain ⟨x, hx, pr⟩ := L.at hs
    obtain ⟨G', r, q⟩ := ih G rfl L
    cases pr with
    | eq _ => exact ⟨G', .resumeJustStarted hx hv r, q⟩
  | resumeThrowFresh hs _ ih =>
    intro G _ L
    obtain ⟨x, hx, pr⟩ := L.at hs
    have hd := not_dead hs fun _ _ _ _ _ z => by cases z
    cases pr with
    | eq _ =>
      obtain ⟨G', r, L', S', E'⟩ := ih (G.setIfInBounds _ .finished) rfl (L.set (.eq fun _ _ _ _ _ _ z => by cases z))
      exact ⟨G', .resumeThrowFresh hx r, L', (Stays.set hd).trans S', E'⟩
  | resumeRunning hs _ ih =>
    intro G _ L
    obtain ⟨x, hx, pr⟩ := L.at hs
    obtain ⟨G', r, q⟩ := ih G rfl L
    cases pr with
    | eq _ => exact ⟨G', .resumeRunning hx r, q⟩
  | resumeFinished hs _ ih =>
    intro G _ L
    obtain ⟨x, hx, pr⟩ := L.at hs
    obtain ⟨G', r, q⟩ := ih G rfl L
    cases pr with
    | eq _ => exact ⟨G', .resumeFinished hx r, q⟩
  | segRet _ _ ih1 ih2 =>
    intro G hf L
    obtain ⟨G1, r1, L1, S1, _⟩ := ih1 G rfl L
    obtain ⟨G2, r2, L2, S2, E2⟩ := ih2 G1 (split_ret hf) L1
    exact ⟨G2, .segRet r1 r2, L2, S1.trans S2, E2⟩
  | segGen _ _ _ _ => intro G hf L; cases hf
  | segSuspOut hsp _ ih =>
    intro G hf L
    obtain ⟨G1, r1, L1, S1, E1⟩ := ih G rfl L
    refine ⟨G1, .segSuspOut hsp r1, L1, S1, fun _ _ _ _ _ _ _ z => ?_⟩
    cases z
    exact split_app (E1 _ _ _ _ _ _ _ rfl) hf
  | segSuspGen hsp _ _ _ _ _ => intro G hf L; rw [hf] at hsp; cases hsp

theorem ret_sim {M : Model} {Γ : Ctx} {p : Pos} {s s' : Shared} {r : Result} (h : Returns M Γ p s r s') (G : Array GenState) (L : Like G s.gens) : ∃ G', Returns M Γ p { s with gens := G } r { s' with gens := G' } ∧ Like G' s'.gens ∧ Stays s.gens G s'.gens G' := by
  obtain ⟨G', r1, L', S', _⟩ := sim h G rfl L
  exact ⟨G', r1, L', S'⟩
theorem wake_sim {M : Model} {Γ : Ctx} {p : Pos} {g : Nat} {r : Resume} {s s' : Shared} {res : GenResult} (h : Wakes M Γ p g r s res s') (G : Array GenState) (L : Like G s.gens) :
    ∃ G', Wakes M Γ p g r { s with gens := G } res { s' with gens := G' } ∧ Like G' s'.gens ∧ Stays s.gens G s'.gens G' := by
  unfold Wakes at h ⊢
  cases e : s.gens[g]? with
  | none => rw [e] at h; exact h.elim
  | some y =>
    obtain ⟨x, hx, pr⟩ := L.at e
    rw [e] at h
    have hx' : ({ s with gens := G } : Shared).gens[g]? = some x := hx
    cases y with
    | fresh c =>
      have hd := not_dead e fun _ _ _ _ _ z => by cases z
      cases pr with
      | eq _ =>
        simp only [hx'] at h ⊢
        cases r with
        | throw x =>
          obtain ⟨h1, rfl⟩ := h
          exact ⟨G.setIfInBounds g .finished, ⟨h1, rfl⟩, L.set (.eq fun _ _ _ _ _ _ z => by cases z), Stays.set hd⟩
        | send v =>
          cases v
          case none =>
            obtain ⟨e₁, s₁, hr, hq, h1, rfl⟩ := h
            obtain ⟨G1, r1, L1, S1, E1⟩ := sim hr (G.setIfInBounds g .running) rfl (L.set (.eq fun _ _ _ _ _ _ z => by cases z))
            exact ⟨G1.setIfInBounds g e₁.genState, ⟨e₁, _, r1, hq, h1, rfl⟩, L1.set E1.state, Stays.setR hd S1⟩
          all_goals
            obtain ⟨h1, rfl⟩ := h
            exact ⟨G, ⟨h1, rfl⟩, L, .refl⟩
    | suspended k₀ l₀ c₀ p₀ fs cl =>
      cases pr with
      | dead =>
        obtain ⟨e₁, s₁, hr, _⟩ := h
        exact (no_run hr).elim
      | eq hn =>
        simp only [hx'] at h ⊢
        obtain ⟨e₁, s₁, hr, hq, h1, rfl⟩ := h
        have hd : ¬ Dead s.gens g := fun ⟨_, _, _, _, _, q⟩ => by
          rw [e] at q
          cases q
          exact no_run hr
        obtain ⟨G1, r1, L1, S1, E1⟩ := sim hr (G.setIfInBounds g .running) (hn _ _ _ _ _ _ rfl) (L.set (.eq fun _ _ _ _ _ _ z => by cases z))
        exact ⟨G1.setIfInBounds g e₁.genState, ⟨e₁, _, r1, hq, h1, rfl⟩, L1.set E1.state, Stays.setR hd S1⟩
    | running =>
      cases pr with
      | eq _ =>
        simp only [hx'] at h ⊢
        obtain ⟨h1, rfl⟩ := h
        exact ⟨G, ⟨h1, rfl⟩, L, .refl⟩
    | finished =>
      cases pr with
      | eq _ =>
        simp only [hx'] at h ⊢
        obtain ⟨h1, rfl⟩ := h
        exact ⟨G, ⟨h1, rfl⟩, L, .refl⟩
/-- behind it: the run was that of the state in which all that sleeps is dead -/
def Back (D G : Array GenState) (Q : Shared → Prop) (s' : Shared) : Prop := ∃ D', Like s'.gens D' ∧ Stays D G D' s'.gens ∧ Q { s' with gens := D' }
theorem Back.trans {D G D1 G1 : Array GenState} {Q : Shared → Prop} {s' : Shared} (a : Stays D G D1 G1) (b : Back D1 G1 Q s') : Back D G Q s' := by
  obtain ⟨D', L, S, q⟩ := b
  exact ⟨D', L, a.trans S, q⟩
theorem wp_sim {α : Type} (M : Model) (Γ : Ctx) (t : Sem α) : ∀ (Q : α → Pos → Shared → Prop) (E : Value → Pos → Shared → Prop) (p : Pos) (s : Shared) (G : Array GenState), Like G s.gens → Sem.wp M Γ t Q E p s →
    Sem.wp M Γ t (fun a p' s' => Back s.gens G (Q a p') s') (fun e p' s' => Back s.gens G (E e p') s') p { s with gens := G } := by
  have weak : ∀ {β : Type} {t : Sem β} {Q Q' : β → Pos → Shared → Prop} {E E' : Value → Pos → Shared → Prop} {p : Pos} {s : Shared}, Sem.wp M Γ t Q E p s → (∀ a p s, Q a p s → Q' a p s) → (∀ a p s, E a p s → E' a p s) → Sem.wp M Γ t Q' E' p s :=
    fun h hQ hE => Sem.wp_mono M Γ _ hQ hE _ _ h
  induction t with
  | pure a => intro Q E p s G L h; exact ⟨s.gens, L, .refl, h⟩
  | raise e => intro Q E p s G L h; exact ⟨s.gens, L, .refl, h⟩
  | unsupported _ => intro Q E p s G L h; exact h
  | finish _ => intro Q E p s G L h; exact h
  | rule _ k ih => intro Q E p s G L h; exact ih () Q E p s G L h
  | «at» p' k ih => intro Q E p s G L h; exact ih () Q E p' s G L h
  | load a _ k ih => intro Q E p s G L h; obtain ⟨o, ho, h⟩ := h; exact ⟨o, ho, ih o Q E p s G L h⟩
  | update a _ f k ih => intro Q E p s G L h; exact ⟨h.1, ih () Q E p { s with heap := s.heap.update a f } G L h.2⟩
  | loadIfAlive a k ih => intro Q E p s G L h; exact ih _ Q E p s G L h
  | point _ k ih => intro Q E p s G L h; exact ih () Q E p s G L h
  | register _ _ => intro Q E p s G L h; exact h
  | alloc o k ih => intro Q E p s G L h; exact ih _ Q E p { s with heap := s.heap.push o } G L h
  | fresh k ih => intro Q E p s G L h; exact ih _ Q E p { s with toks := s.toks + 1 } G L h
  | ask k ih => intro Q E p s G L h; exact ih _ Q E p s G L h
  | choose src m k ih => intro Q E p s G L h; exact ⟨h.1, ih _ Q E p { s with drawn := s.drawn.bump src } G L h.2⟩
  | os q _ k ih => intro Q E p s G L h; exact ih _ Q E p { s with os := (Os.step s.os q).1 } G L h
  | call c hd _ _ k ih =>
    intro Q E p s G L h
    obtain ⟨r, s', hr, h⟩ := h
    obtain ⟨G', r1, L', S'⟩ := ret_sim hr G L
    exact ⟨r, _, r1, weak (ih r Q E p s' G' L' h) (fun _ _ _ => Back.trans S') fun _ _ _ => Back.trans S'⟩
  | handled own k ih => intro Q E p s G L h; exact ih _ Q E p s G L h
  | genState g k ih =>
    intro Q E p s G L h
    obtain ⟨st, hs, h⟩ := h
    obtain ⟨x, hx, pr⟩ := L.at hs
    refine ⟨x, hx, ?_⟩
    cases pr with
    | eq _ => exact ih _ Q E p s G L h
    | dead => exact ih _ Q E p s G L h
  | newGen c k ih =>
    intro Q E p s G L h
    have z := ih s.gens.size Q E p { s with gens := s.gens.push (.fresh c) } (G.push (.fresh c)) (L.push c) h
    show Sem.wp M Γ (k G.size) _ _ p { s with gens := G.push (.fresh c) }
    rw [L.1]
    exact weak z (fun _ _ _ => Back.trans (Stays.push L.1)) fun _ _ _ => Back.trans (Stays.push L.1)
  | resume g r _ k ih =>
    intro Q E p s G L h
    obtain ⟨res, s', hw, h⟩ := h
    obtain ⟨G', r1, L', S'⟩ := wake_sim hw G L
    exact ⟨res, _, r1, weak (ih res Q E p s' G' L' h) (fun _ _ _ => Back.trans S') fun _ _ _ => Back.trans S'⟩
  | yield _ _ _ _ => intro Q E p s G L h; exact h
  | stack k ih => intro Q E p s G L h; exact ih _ Q E p s G L h
  | fork _ _ => intro Q E p s G L h; exact h
  | thread k ih => intro Q E p s G L h; exact ih _ Q E p s G L h
  | await _ _ _ _ _ => intro Q E p s G L h; exact h
/-- all that sleeps, dead -/
def night (s : Shared) : Shared := { s with gens := s.gens.map kill }
theorem like_night (G : Array GenState) : Like G (G.map kill) := by
  refine ⟨by simp, fun i x y e1 e2 => ?_⟩
  rw [Array.getElem?_map, e1] at e2
  have e : kill x = y := Option.some.inj e2
  subst e
  cases x with
  | suspended k l c p fs cl => exact .dead
  | fresh c => exact .eq fun _ _ _ _ _ _ z => by cases z
  | running => exact .eq fun _ _ _ _ _ _ z => by cases z
  | finished => exact .eq fun _ _ _ _ _ _ z => by cases z
theorem pair_bare {x y : GenState} (h : Pair x y) : x.bare = y.bare := by cases h <;> rfl
theorem like_bare {G D : Array GenState} (h : Like G D) (b : AllBare D) : AllBare G := fun x hx => by
  obtain ⟨i, hi, e⟩ := Array.mem_iff_getElem.mp hx
  have hi' : i < D.size := by rw [← h.1]; exact hi
  have p := h.2 i x D[i] (by rw [Array.getElem?_eq_getElem hi, e]) (Array.getElem?_eq_getElem hi')
  rw [pair_bare p]
  exact b _ (Array.getElem_mem hi')
theorem bare_night {G : Array GenState} (h : AllBare G) : AllBare (G.map kill) := fun x hx => by
  obtain ⟨y, hy, rfl⟩ := Array.mem_map.mp hx
  have := h y hy
  cases y <;> exact this
/-- THE FRAME: what is shown of a run by night holds by day, and what sleeps sleeps on -/
theorem by_night {α : Type} {M : Model} {A : Around} {t : Sem α} {Q : α → Shared → Prop} {E : Value → Shared → Prop} {s : Shared} (h : wpAny M A t Q E (night s)) :
    wpAny M A t (fun a s' => (∀ (i : Nat) (x : GenState), s.gens[i]? = some x → Asleep x → s'.gens[i]? = some x) ∧ ∃ D, Like s'.gens D ∧ Q a { s' with gens := D })
      (fun e s' => (∀ (i : Nat) (x : GenState), s.gens[i]? = some x → Asleep x → s'.gens[i]? = some x) ∧ ∃ D, Like s'.gens D ∧ E e { s' with gens := D }) s := by
  have key : ∀ {R : Shared → Prop} {s' : Shared}, Back (night s).gens s.gens R s' → (∀ (i : Nat) (x : GenState), s.gens[i]? = some x → Asleep x → s'.gens[i]? = some x) ∧ ∃ D, Like s'.gens D ∧ R { s' with gens := D } := fun {R s'} b => by
    obtain ⟨D, L, S, q⟩ := b
    refine ⟨fun i x e a => ?_, D, L, q⟩
    obtain ⟨k, l, c, p, fs, cl, rfl⟩ := a
    have d : Dead (night s).gens i := ⟨l, c, p, fs, cl, by show (s.gens.map kill)[i]? = _; rw [Array.getElem?_map, e]; rfl⟩
    rw [(S i d).2, e]
  intro Γ p hΓ
  have z := wp_sim M Γ t (fun a _ s' => Q a s') (fun e _ s' => E e s') p (night s) s.gens (like_night _) (h Γ p hΓ)
  exact Sem.wp_mono M Γ _ (fun a _ s' b => key b) (fun e _ s' b => key b) p _ z
end HS
/-! Generators that are consumed step by step: a def of the shape  pre; for tg in iter: yield e; post  (own rules over HandS.GenCall). -/
namespace HS
open PySem PySem.Spec PyProof.Rows L2 GenW
/-- the heap below L -/
def below (h : Heap) (L : Nat) : Heap := { h with objs := h.objs.extract 0 L }
theorem below_get {h : Heap} {L b : Nat} (hb : b < L) : (below h L).get? b = h.get? b := by
  unfold Heap.get? below
  show (match (h.objs.extract 0 L)[b]? with | some ⟨_, _, .freed, _⟩ => none | o => o) = _
  rw [Array.getElem?_extract]
  by_cases hs : b < h.objs.size
  · rw [if_pos (by omega), Nat.zero_add]; rfl
  · rw [if_neg (by omega), Array.getElem?_eq_none (by omega)]
theorem below_size {h : Heap} {L : Nat} (hL : L ≤ h.objs.size) : (below h L).objs.size = L := by
  show (h.objs.extract 0 L).size = L
  rw [Array.size_extract]; omega
theorem below_le {h : Heap} {L : Nat} : (below h L).objs.size ≤ L := by
  show (h.objs.extract 0 L).size ≤ L
  rw [Array.size_extract]; omega
theorem of_below {h : Heap} {L b : Nat} {o : Obj} (e : (below h L).get? b = some o) : b < L ∧ h.get? b = some o := by
  have hb := Nat.lt_of_lt_of_le (Heap.lt_size e) below_le
  exact ⟨hb, by rw [← below_get hb]; exact e⟩
theorem funs_below {h h0 base : Heap} {L : Nat} (hL : h0.objs.size ≤ L) : ∀ {l : List Env}, h0.FunFrames base l → h.FunFrames base l → (below h L).FunFrames base l
  | [], _, _ => trivial
  | e :: l, ⟨_, ⟨F0, o0, f0, _, e0, _⟩, r0⟩, ⟨k1, ⟨F1, o1, f1, n1, e1, d1⟩, r1⟩ => by
    rw [f0] at f1
    cases f1
    exact ⟨k1, ⟨F0, o1, f0, n1, by rw [below_get (Nat.lt_of_lt_of_le (Heap.lt_size e0) hL)]; exact e1, d1⟩, funs_below hL r0 r1⟩
/-- of these addresses what is untracked -/
def xpins (xa : List Addr) (h : Heap) (H : Hp) : List (Addr × Obj) := (pinsAt xa h).filter fun p => (H p.1).isNone
theorem of_xpins {xa : List Addr} {h : Heap} {H : Hp} {p : Addr × Obj} (hp : p ∈ xpins xa h H) : p.1 ∈ xa ∧ h.get? p.1 = some p.2 ∧ H p.1 = none := by
  obtain ⟨h1, h2⟩ := List.mem_filter.mp hp
  exact ⟨(of_pinsAt h1).1, (of_pinsAt h1).2, Option.isNone_iff_eq_none.mp h2⟩
theorem to_xpins {xa : List Addr} {h : Heap} {H : Hp} {b : Addr} {o : Obj} (hb : b ∈ xa) (e : h.get? b = some o) (n : H b = none) : (b, o) ∈ xpins xa h H :=
  List.mem_filter.mpr ⟨mem_pinsAt hb e, by show (H b).isNone = true; rw [n]; rfl⟩
/-- what the wakes, the items and the end are told by; the consumer's own things that no slice may touch -/
structure GW where
  xa : List Addr
  wk : Nat → Shared → Hp → Prop
  yl : Nat → Hp → V → Hp → Prop
  en : Nat → Hp → Hp → Prop
/-- behind a slice: it began with the call (sc, Hc), or with a wake -/
def From (P : Program) (w : World) (outer : List Env) (sc : Shared) (Hc : Hp) (W : GW) (i : Nat) (s₀ : Shared) (Hw H2 : Hp) (s : Shared) : Prop :=
  s.os = sc.os ∧ AllBare s.gens ∧ HOk P w H2 s.heap ∧
  (∀ p ∈ xpins W.xa s₀.heap Hw, s.heap.get? p.1 = some p.2 ∧ H2 p.1 = none) ∧
  ((i = 0 ∧ Hw = Hc ∧ Un (frs outer) [] Hc H2 sc.heap s.heap) ∨ (1 ≤ i ∧ W.wk i s₀ Hw ∧ Un (frs outer) [] Hw H2 (below s₀.heap sc.heap.objs.size) s.heap))
def YG (P : Program) (w : World) (K : PySem.W.Frag) (mg : Str → Option Value) (base : Heap) (A : Around) (outer : List Env) (sc : Shared) (Hc : Hp) (W : GW) (N0 : Nat) (a : Addr) (g : Nat) : Protocol := fun n s₀ v s kap =>
  ∃ (i : Nat) (Hw : Hp) (x : V) (H2 : Hp) (pv : List (Addr × Obj)) (go : Obj), i + n + 1 = N0 ∧ RelV x v ∧ From P w outer sc Hc W i s₀ Hw H2 s ∧ s.heap.NoLimit ∧ (∀ h : Heap, h.get? a = some go → h.IsGen a g) ∧ (a, go) ∈ pv ∧ W.yl i Hw x H2 ∧
    (∀ p ∈ pv, s.heap.get? p.1 = some p.2 ∧ H2 p.1 = none ∧ sc.heap.objs.size ≤ p.1 ∧ p.1 ∉ W.xa ∧ ∀ v, p.2.data ≠ .cell v) ∧
    (1 ≤ n → ∀ s' H', W.wk (i + 1) s' H' → Env0 P w K mg base A outer s' H' → s'.os = sc.os → (∀ p ∈ pv, s'.heap.get? p.1 = some p.2 ∧ H' p.1 = none) → (∀ b ∈ W.xa, ∀ o, s'.heap.get? b = some o → ∀ v, o.data ≠ .cell v) → kap (.send .none) s')
def RG (Cg : CXT) (P : Program) (w : World) (outer : List Env) (sc : Shared) (Hc : Hp) (W : GW) (E : XK) (N0 : Nat) (a : Addr) (g : Nat) : GenEnd := fun n s₀ r s =>
  ((r = .ok (.ret .none) ∨ r = .ok .next) ∧ ∃ (i : Nat) (Hw H2 : Hp), i + n = N0 ∧ From P w outer sc Hc W i s₀ Hw H2 s ∧ W.en i Hw H2) ∨ ∃ e, r = .error e ∧ Cg outer Hc sc E e s ∧ s.heap.IsGen a g
/-- a generator that has not begun -/
def GMade2 (Cg : CXT) (P : Program) (w : World) (K : PySem.W.Frag) (mg : Str → Option Value) (base : Heap) (k : Nat) (outer : List Env) (H : Hp) (s : Shared) (ry : Nat → Hp → Prop) (yl : Nat → Hp → V → Hp → Prop) (en : Nat → Hp → Hp → Prop) (E : XK) (u : Value) (s' : Shared) : Prop :=
  ∃ (a : Addr) (g : Nat) (c : Code), u = .ref a ∧ s.heap.objs.size ≤ a ∧ a < s'.heap.objs.size ∧ s'.heap.IsGen a g ∧ s'.gens[g]? = some (.fresh c) ∧ s'.os = s.os ∧ AllBare s'.gens ∧ s'.heap.NoLimit ∧ (∀ b o, s.heap.get? b = some o → s'.heap.get? b = some o) ∧
    ∀ (A : Around) (xa : List Addr) (wk : Nat → Shared → Hp → Prop) (N0 : Nat) (s2 : Shared), Room k A → A.frames = some outer → (∀ b ∈ xa, s'.heap.objs.size ≤ b ∧ ∃ o, s2.heap.get? b = some o ∧ ∀ v, o.data ≠ .cell v) → (∀ i s3 H3, wk i s3 H3 → ry i H3) → (∀ b o, s'.heap.get? b = some o → s2.heap.get? b = some o) → s2.os = s.os → AllBare s2.gens → 1 ≤ N0 →
      Seg (model P w) A (RG Cg P w outer s H ⟨xa, wk, yl, en⟩ E N0 a g) (YG P w K mg base A outer s H ⟨xa, wk, yl, en⟩ N0 a g) N0 s2 c ((model P w).den c) [] s2
abbrev SpG2 := List V → Hp → (Nat → Hp → Prop) → (Nat → Hp → V → Hp → Prop) → (Nat → Hp → Hp → Prop) → XK → Prop
structure GFn2 (Cg : CXT) (P : Program) (w : World) (K : PySem.W.Frag) (mg : Str → Option Value) (base : Heap) (k : Nat) (f : Addr) (fd : FuncData) (ps : List Str) (sp : SpG2) : Prop where
  len : ∀ vs H ry yl en E, sp vs H ry yl en E → vs.length = ps.length
  run : ∀ (A : Around) (outer : List Env) (s : Shared) (H : Hp) (args : Args) (us : List Value) (vs : List V) (ry : Nat → Hp → Prop) (yl : Nat → Hp → V → Hp → Prop) (en : Nat → Hp → Hp → Prop) (E : XK), Room k A → Env0 P w K mg base A outer s H → BindsTo s fd args (ps.zip us) → Vals vs us → sp vs H ry yl en E →
    codeAny (model P w) A (.call (.ref f) args) (fun r s' => match r with | .ok (.ret u) => GMade2 Cg P w K mg base k outer H s ry yl en E u s' | _ => False) s
/-- the reading of such a body: Q i σ Hw H: about to ask for the i-th item, in a slice that began with Hw -/
def tGenX (tp : TS) (wi : TI) (g : TG) (te : TE) (tq : TS) (ry : Nat → Hp → Prop) (yl : Nat → Hp → V → Hp → Prop) (en : Nat → Hp → Hp → Prop) (H0 : Hp) : L2.St → Hp → Prop := fun σ H =>
  tp { nx := fun σ1 H1 => wi σ1 H1 fun J H2 => ∃ Q : Nat → L2.St → Hp → Hp → Prop, Q 0 σ1 H0 H2 ∧ ∀ i σ Hw H, Q i σ Hw H →
    (J.stop i H ∧ en i Hw H) ∨ (J.go i H ∧ ∀ x H', J.yld i H x H' → g x σ H' fun σ2 H3 => te σ2 H3 fun y H4 => yl i Hw y H4 ∧ ∀ H5, ry (i + 1) H5 → tq { nx := fun σ6 H6 => Q (i + 1) σ6 H5 H6, rt := fun _ _ => False } σ2 H5), rt := fun _ _ => False } σ H
/-- the context of a slice -/
abbrev slice (X : Cx) (s0 : Shared) (H0 : Hp) : Cx := { X with s_0 := s0, H_0 := H0, xe := fun _ _ => False }
theorem slice_inv {X : Cx} {ip : List (Addr × Obj)} {σ : L2.St} {H : Hp} {s : Shared} (I : Inv X ip σ H s) : Inv (slice X X.s_0 X.H_0) ip σ H s := I.wish fun _ _ => False
/-- woken: from the slice ahead to the next one -/
theorem woken {X : Cx} {sa : Shared} {Ha : Hp} {ip : List (Addr × Obj)} {σ : L2.St} {H H' : Hp} {s s' : Shared} {L : Nat} (hL : X.env.locals = L) (hz : X.s_0.heap.objs.size = L) (X0 : X.Ok) (hcells : ∀ x, X.env.cells.lookup x = none) (hex : X.ex = []) (hst : X.stack = X.env :: X.outer)
    (I : Inv (slice X sa Ha) ip σ H s) {oL : Obj} (eL : s.heap.get? L = some oL) (eL' : s'.heap.get? L = some oL) (nL' : H' L = none) (hfr : X.A.frames = some X.stack) {A' : Around} (e0 : Env0 X.prog X.w X.K X.mg X.base A' X.outer s' H')
    (hp : ∀ p ∈ X.pn ++ ip, s'.heap.get? p.1 = some p.2 ∧ H' p.1 = none) : Inv (slice X { s' with heap := below s'.heap L } H') ip σ H' s' := by
  have lt0 : ∀ b o, X.base.get? b = some o → b < L := fun b o e => by rw [← hz]; exact Heap.lt_size (X0.bs b o e).1
  have ltf : ∀ b ∈ X.fs, b < L := fun b hb => by
    obtain ⟨_, o, e, _⟩ := X0.funs.mem hb
    rw [← hz]; exact Heap.lt_size e
  have noc : ∀ {y c}, X.env.cells.lookup y = some c → False := fun {y c} z => by rw [hcells y] at z; cases z
  refine ⟨⟨X0.mod, X0.kind, X0.glob, X0.blt, ?_, X0.inj, X0.has, fun x c _ h => (noc h).elim, X0.hd, X0.frames, X0.stk, X0.exf, fun b o e => ⟨?_, (e0.bs b o e).2⟩, ?_, X0.noex, X0.exfs, ?_, e0.frf⟩,
    rfl, e0.bare, Un.kept fun b o e => (of_below e).2, ?_, fun x c e => (noc e).elim, ?_, fun x c e => (noc e).elim, fun p hm => ?_, e0.hok, I.len⟩
  · show (below s'.heap L).objs.size ≤ X.env.locals
    rw [hL]; exact below_le
  · show (below s'.heap L).get? b = some o
    rw [below_get (lt0 b o e)]; exact (e0.bs b o e).1
  · show X.base.objs.size ≤ (below s'.heap L).objs.size
    rw [below_size (Nat.le_of_lt (Heap.lt_size eL')), ← hz]
    exact X0.bsz
  · exact funs_below (Nat.le_of_eq hz) X0.funs e0.funs
  · obtain ⟨m, ⟨o, es, ep, ho, r⟩, hl⟩ := I.loc
    have ho : s.heap.get? X.env.locals = some o := ho
    rw [hL, eL] at ho
    cases ho
    refine ⟨m, ⟨oL, es, ep, ?_, r⟩, fun i x v h1 h2 h3 => ?_⟩
    · show s'.heap.get? X.env.locals = _
      rw [hL]; exact eL'
    · obtain ⟨u, r, l⟩ := hl i x v h1 h2 h3
      refine ⟨u, r, l.elim .inl fun z => ?_⟩
      obtain ⟨_, c, e, _⟩ := z
      exact (noc e).elim
  · show H' X.env.locals = none
    rw [hL]; exact nL'
  · obtain ⟨_, _, n1, n2, n3⟩ := I.pin p hm
    obtain ⟨e, n⟩ := hp p hm
    exact ⟨e, n, n1, n2, n3⟩
theorem execs_app {env : Env} {Kf : Flow → Sem PySem.Fin} {J : Value → Sem PySem.Fin} {gd : Bool → Bool} {lv : List Value → List Value} (b : List Stmt) : ∀ a : List Stmt, (execs (a ++ b) env).wrap Kf J gd lv = (execs a env).wrap (fun f => match f with | .next => (execs b env).wrap Kf J gd lv | f => Kf f) J gd lv
  | [] => rfl
  | st :: a => by
    rw [List.cons_append, execs_cons_wrap, execs_cons_wrap]
    refine Sem.wrap_congr _ _ _ (fun f => ?_) fun _ => rfl
    cases f with
    | next => exact execs_app b a
    | _ => rfl
/-- where the loop's code stands -/
theorem over_for {A : Around} {env : Env} {tg : Expr} {it : Value} {body pre : List Stmt} {k : Result → Sem PySem.Fin} {l : List Value} {p : Pos} :
    A.over (.forLoop tg it body [] env) [.ret k none false l (.func pre env) p []] = A.deeper env := (over_loop rfl rfl).trans over_func
section
/-- the context of such a def's body, by the kind of exceptions -/
abbrev gcxC (Cg : CXT) (P : Program) (w : World) (K : PySem.W.Frag) (mg : Str → Option Value) (base : Heap) (N : List Str) (qual : Str) (scope : Scope) (f : Addr) (cd : Value) (A : Around) (outer : List Env) (s : Shared) (H : Hp) (E : XK) (pn : List (Addr × Obj)) : Cx :=
  (gcxOf P w K mg base N qual scope f cd A outer s H E pn).wish fun e s' => wpAny (model P w) (A.deeper (envOfC qual scope s.heap.objs.size f cd)) (leaving (envOfC qual scope s.heap.objs.size f cd) e) (fun _ s'' => Cg outer H s E e s'' ∧ ∀ p ∈ pn, s''.heap.get? p.1 = some p.2) (fun _ _ => False) s'
variable {Cg : CXT} {P : Program} {w : World} {K : PySem.W.Frag} {mg : Str → Option Value} {base : Heap} {N : List Str} {qual : Str} {scope : Scope} {f : Addr} {cd : Value}
/-- the loop, from its i-th turn on -/
theorem turns {X : Cx} {A : Around} {outer : List Env} {sc : Shared} {Hc : Hp} {W : GW} {ry : Nat → Hp → Prop} {E : XK} {N0 : Nat} {a : Addr} {g : Nat} {go : Obj} {tg e : Expr} {post : List Stmt} {yp ep : Pos} {J : It} {fp : List Addr} {it : Addr} {tn : Nat → Heap → Prop} {gt : TG} {te : TE} {tq : TS} {Q : Nat → L2.St → Hp → Hp → Prop}
    {k : Result → Sem PySem.Fin} {l : List Value} {p : Pos} {full : List Stmt}
    (hP : X.prog = P) (hw : X.w = w) (hK : X.K = K) (hm : X.mg = mg) (hb : X.base = base) (hA : X.A = A.deeper X.env) (ho : X.outer = outer) (hfrA : A.frames = some outer) (hc : X.calm = true) (hz : X.s_0 = sc) (hH : X.H_0 = Hc) (hL : X.env.locals = sc.heap.objs.size) (X0 : X.Ok)
    (hcells : ∀ x, X.env.cells.lookup x = none) (hex : X.ex = []) (hst : X.stack = X.env :: X.outer) (hpn : X.pn = [(a, go)]) (hgo : ∀ h : Heap, h.get? a = some go → h.IsGen a g) (hag : sc.heap.objs.size ≤ a) (hgd : ∀ v, go.data ≠ .cell v) (hry : ∀ i s3 H3, W.wk i s3 H3 → ry i H3)
    (T : Turn P w K tg J fp it tn) (hfp : ∀ b ∈ fp, sc.heap.objs.size ≤ b ∧ b ≠ X.env.locals ∧ b ∉ X.fs ∧ b ≠ a ∧ b ∉ W.xa) (hxa : ∀ b ∈ W.xa, b ≠ X.env.locals ∧ b ∉ X.fs) (hax : a ∉ W.xa)
    (hg : ∀ s0 H0, PG (slice X s0 H0) tg gt) (he : ∀ s0 H0, PE (slice X s0 H0) e te) (hq : ∀ s0 H0, PSs (slice X s0 H0) post tq)
    (step : ∀ i σ Hw H, Q i σ Hw H → (J.stop i H ∧ W.en i Hw H) ∨ (J.go i H ∧ ∀ x H', J.yld i H x H' → gt x σ H' fun σ2 H3 => te σ2 H3 fun y H4 => W.yl i Hw y H4 ∧ ∀ H5, ry (i + 1) H5 → tq { nx := fun σ6 H6 => Q (i + 1) σ6 H5 H6, rt := fun _ _ => False } σ2 H5))
    (hk : ∀ r, k (.ok r) = .pure (.done (.ret (match r with | .ret v => v | _ => .none))))
    (hco : X.env.scope.isCoroutine = false) (hi : interactive X.env = false) : ∀ (n i : Nat) (s₀ s sa : Shared) (Ha Hw H : Hp) (σ : L2.St), i + (n + 1) = N0 →
      ((i = 0 ∧ sa = sc ∧ Ha = Hc ∧ Hw = Hc) ∨ (1 ≤ i ∧ W.wk i s₀ Hw ∧ sa = { s₀ with heap := below s₀.heap sc.heap.objs.size } ∧ Ha = Hw ∧ s₀.os = sc.os)) →
      Q i σ Hw H → Inv (slice X sa Ha) (xpins W.xa s₀.heap Hw) σ H s → tn i s.heap → (∀ b ∈ fp, H b = none) →
      Seg (model P w) A (RG Cg P w outer sc Hc W E N0 a g) (YG P w K mg base A outer sc Hc W N0 a g) (n + 1) s₀ (.forLoop tg (.ref it) (.Expr (.Yield (some e) yp) ep :: post) [] X.env)
        ((model P w).den (.forLoop tg (.ref it) (.Expr (.Yield (some e) yp) ep :: post) [] X.env)) [.ret k none false l (.func full X.env) p []] s := by
  subst hP hw hK hm hb ho
  have gd0 : ∀ {kk : Result → Sem PySem.Fin} {c0 : Code}, ([Frame.ret kk none false l c0 p []]).any Frame.guarded = false := rfl
  intro n
  induction n using Nat.strongRecOn with
  | ind n ih =>
    intro i s₀ s sa Ha Hw H σ hN link hQ I st fr
    have size : sa.heap.objs.size ≤ sc.heap.objs.size := by
      rcases link with ⟨_, e, _⟩ | ⟨_, _, e, _⟩
      · rw [e]; exact Nat.le_refl _
      · rw [e]; exact below_le
    have from_ : ∀ {ip : List (Addr × Obj)} {σ' : L2.St} {H' : Hp} {s' : Shared}, Inv (slice X sa Ha) (xpins W.xa s₀.heap Hw ++ ip) σ' H' s' → From X.prog X.w X.outer sc Hc W i s₀ Hw H' s' := fun {ip σ' H' s'} I' => by
      have b : Un X.fs X.ex Ha H' sa.heap s'.heap := I'.base
      have o : s'.os = sa.os := I'.os
      rw [hex] at b
      refine ⟨?_, I'.bare, I'.hok, fun p hp => ?_, ?_⟩
      · rcases link with ⟨_, e, _⟩ | ⟨_, _, e, _, e2⟩
        · rw [o, e]
        · rw [o, e]; exact e2
      · have z := I'.pin p (List.mem_append_right _ (List.mem_append_left _ hp))
        exact ⟨z.1, z.2.1⟩
      · rcases link with ⟨e1, e2, e3, e4⟩ | ⟨e1, e2, e3, e4, _⟩
        · subst e2 e3
          exact .inl ⟨e1, e4, b⟩
        · subst e3 e4
          exact .inr ⟨e1, e2, b⟩
    have fok : ∀ {H' : Hp}, (∀ b ∈ fp, H' b = none) → ∀ b ∈ fp, FpOk (slice X sa Ha) (xpins W.xa s₀.heap Hw) H' b := fun {H'} hn b hb => by
      obtain ⟨z1, z2, z3, z4, z5⟩ := hfp b hb
      refine ⟨hn b hb, z2, z3, .inr (Nat.le_trans size z1), fun x c e => ?_, fun q hq => ?_⟩
      · have e : X.env.cells.lookup x = some c := e
        rw [hcells x] at e; cases e
      · have hq : q ∈ X.pn ++ xpins W.xa s₀.heap Hw := hq
        rw [hpn] at hq
        rcases List.mem_append.mp hq with hq | hq
        · rw [List.mem_singleton.mp hq]; exact Ne.symm z4
        · exact fun z => z5 (z ▸ (of_xpins hq).1)
    show Seg _ A _ _ _ s₀ _ ((forTurn tg (.ref it) (.Expr (.Yield (some e) yp) ep :: post) [] X.env).onRaise (fun x => do noteFrame x X.env; theTreesLotGoes x)) _ s
    unfold forTurn
    rw [Sem.onRaise_eq_wrap]
    refine seg_bind_wrap (wpAny_standAt ?_)
    refine seg_bind_wrap ?_
    rw [over_for, ← hA]
    rcases step i σ Hw H hQ with ⟨stop, hen⟩ | ⟨goes, nxt⟩
    · refine wpAny_onRaise (wpAny_mono (T.done (slice X sa Ha) rfl rfl rfl hc i _ s σ H (fun _ _ => False) I (fok fr) st stop) (fun r' s4 h4 => ?_) fun x s' hx => hx.elim)
      obtain ⟨hr, I4⟩ := h4
      subst hr
      refine seg_again rfl ?_
      show Seg _ A _ _ _ s₀ _ (((execs [] X.env).onRaise (fun x => do noteFrame x X.env; theTreesLotGoes x)) >>= fun f => .pure (Fin.done f)) _ s4
      refine seg_leaf (.ok .next) ?_
      rw [hk]
      exact seg_end (.ok (.ret .none)) (.inl ⟨.inl rfl, i, Hw, H, hN, from_ (ip := []) (by rw [List.append_nil]; exact I4), hen⟩)
    · refine wpAny_onRaise (wpAny_mono (T.item (slice X sa Ha) rfl rfl rfl hc i _ s σ H (fun _ _ => False) I (fok fr) st goes) (fun r' s4 h4 => ?_) fun x s' hx => hx.elim)
      obtain ⟨u, hr, h4⟩ := h4
      subst hr
      refine seg_bind_wrap ?_
      rw [over_for, ← hA]
      refine wpAny_mono h4 (fun _ s5 h5 => ?_) fun x s' hx => hx.elim
      obtain ⟨x, H5, I5, r5, y5, st5, fr5⟩ := h5
      have I5' := I5.pinned (fok fr5) (T.obj _ _ st5)
      refine seg_bind_wrap ?_
      rw [over_for, ← hA]
      refine wpAny_mono ((hg sa Ha).run _ s5 σ H5 x u _ I5' r5 (nxt x H5 y5)) (fun _ s6 h6 => ?_) fun x s' hx => hx.elim
      obtain ⟨σ6, H6, I6, q6⟩ := h6
      rw [Sem.bind_eq_wrap', Sem.wrap_wrap]
      refine seg_execs_cons ?_
      refine seg_Expr_Yield rfl rfl rfl ?_ hco hi
      rw [over_for, ← hA]
      refine wpAny_mono ((he sa Ha).run _ s6 σ6 H6 _ I6 q6) (fun v s7 h7 => ?_) fun x s' hx => hx.elim
      obtain ⟨y, H7, I7, r7, yl7, ry7⟩ := h7
      intro kap hkap
      obtain ⟨m, ⟨oL, es, epp, hoL, hdL, hrL⟩, _⟩ := id I7.loc
      have hoL : s7.heap.get? X.env.locals = some oL := hoL
      have pin5 : ∀ q ∈ pinsAt fp s5.heap, s7.heap.get? q.1 = some q.2 ∧ H7 q.1 = none ∧ ∀ v, q.2.data ≠ .cell v := fun q hq => by
        obtain ⟨p1, p2, _, _, p5⟩ := I7.pin q (List.mem_append_right _ (List.mem_append_right _ hq))
        exact ⟨p1, p2, p5⟩
      have pinG : s7.heap.get? a = some go ∧ H7 a = none := by
        obtain ⟨p1, p2, _⟩ := I7.pin (a, go) (List.mem_append_left _ (by show (a, go) ∈ X.pn; rw [hpn]; exact List.mem_singleton.mpr rfl))
        exact ⟨p1, p2⟩
      refine ⟨i, Hw, y, H7, (X.env.locals, oL) :: (a, go) :: pinsAt fp s5.heap, go, by omega, r7, from_ I7, I7.nolimit, hgo, List.mem_cons_of_mem _ List.mem_cons_self, yl7, fun q hq => ?_, fun hn s' H' hwk e0 os' hp hx => hkap .none s' ?_⟩
      · rcases List.mem_cons.mp hq with hq | hq
        · rw [hq]
          exact ⟨hoL, I7.free, Nat.le_of_eq hL.symm, fun z => (hxa _ z).1 rfl, fun v z => by rw [show oL.data = _ from hdL] at z; cases z⟩
        rcases List.mem_cons.mp hq with hq | hq
        · rw [hq]
          exact ⟨pinG.1, pinG.2, hag, hax, hgd⟩
        · obtain ⟨p1, p2, p3⟩ := pin5 q hq
          exact ⟨p1, p2, (hfp q.1 (of_pinsAt hq).1).1, (hfp q.1 (of_pinsAt hq).1).2.2.2.2, p3⟩
      · obtain ⟨n', rfl⟩ : ∃ n', n = n' + 1 := ⟨n - 1, by omega⟩
        have I7' : Inv (slice X sa Ha) (pinsAt fp s5.heap) σ6 H7 s7 := I7.pins_of fun p hp => I7.pin p (List.mem_append_right _ (List.mem_append_right _ hp))
        have I8' : Inv (slice X { s' with heap := below s'.heap sc.heap.objs.size } H') (pinsAt fp s5.heap) σ6 H' s' := by
          have z := hp (X.env.locals, oL) List.mem_cons_self
          refine woken (L := sc.heap.objs.size) hL (by rw [hz]) X0 hcells hex hst I7' (oL := oL) (by rw [← hL]; exact hoL) (by rw [← hL]; exact z.1) (by rw [← hL]; exact z.2) X0.frames e0 fun q hq => ?_
          rcases List.mem_append.mp hq with hq | hq
          · rw [hpn] at hq
            exact hp q (List.mem_cons_of_mem _ (by rw [List.mem_singleton.mp hq]; exact List.mem_cons_self))
          · exact hp q (List.mem_cons_of_mem _ (List.mem_cons_of_mem _ hq))
        have I8 : Inv (slice X { s' with heap := below s'.heap sc.heap.objs.size } H') (xpins W.xa s'.heap H' ++ pinsAt fp s5.heap) σ6 H' s' := I8'.pins_of fun q hq => (List.mem_append.mp hq).elim (fun z => by
          obtain ⟨z1, z2, z3⟩ := of_xpins z
          exact ⟨z2, z3, (hxa _ z1).1, (hxa _ z1).2, hx _ z1 _ z2⟩) fun z => I8'.pin q (List.mem_append_right _ z)
        refine seg_wrap ?_
        rw [over_for, ← hA]
        refine wpAny_mono ((hq _ _).run _ s' σ6 H' _ I8 (ry7 H' (hry _ _ _ hwk))) (fun fl s9 h9 => ?_) fun x s' hx => hx.elim
        cases fl with
        | next =>
          obtain ⟨σ9, H9, I9, q9⟩ := h9
          have pin9 : ∀ b ∈ fp, ∀ o, s5.heap.get? b = some o → s9.heap.get? b = some o ∧ H9 b = none := fun b hb o eo => by
            have z := I9.pin (b, o) (List.mem_append_right _ (List.mem_append_right _ (mem_pinsAt hb eo)))
            exact ⟨z.1, z.2.1⟩
          refine seg_again rfl (ih n' (by omega) (i + 1) s' s9 _ _ H' H9 σ9 (by omega) (.inr ⟨by omega, hwk, rfl, rfl, os'⟩) q9 I9.unpinned (T.keep _ _ _ st5 fun b hb o eo => (pin9 b hb o eo).1) fun b hb => ?_)
          obtain ⟨o, eo, _⟩ := T.obj _ _ st5 b hb
          exact (pin9 b hb o eo).2
        | brk => obtain ⟨_, _, _, z⟩ := h9; exact z.elim
        | cont => obtain ⟨_, _, _, z⟩ := h9; exact z.elim
        | ret v => obtain ⟨_, _, _, _, _, z⟩ := h9; exact z.elim
theorem no_cells {n : Nat} : ∀ l : List (Str × NameKind), (∀ y ∈ l, y.2 ≠ .cell) → cellsFrom n l [] = []
  | [], _ => rfl
  | (x, kd) :: r, h => by
    have hk : (kd == NameKind.cell) = false := beq_eq_false_iff_ne.mpr (h (x, kd) List.mem_cons_self)
    show (if (kd == NameKind.cell) = true then _ else cellsFrom n r []) = []
    rw [hk, if_neg Bool.false_ne_true]
    exact no_cells r fun y hy => h y (List.mem_cons_of_mem _ hy)
/-- the parts of such a body -/
def lastS (b : List Stmt) : Stmt := b.getLastD (.Pass ⟨0, 0, 0, 0⟩)
def preS (b : List Stmt) : List Stmt := b.dropLast
def tgS (b : List Stmt) : Expr := match lastS b with | .For t _ _ _ _ => t | _ => .Name Str.empty ⟨0, 0, 0, 0⟩
def itS (b : List Stmt) : Expr := match lastS b with | .For _ i _ _ _ => i | _ => .Name Str.empty ⟨0, 0, 0, 0⟩
def yS (b : List Stmt) : Expr := match lastS b with | .For _ _ (.Expr (.Yield (some e) _) _ :: _) _ _ => e | _ => .Name Str.empty ⟨0, 0, 0, 0⟩
def poS (b : List Stmt) : List Stmt := match lastS b with | .For _ _ (_ :: p) _ _ => p | _ => []
/-- THE RULE: such a generator def, by its body -/
theorem gfn2_of {k : Nat} {name : Str} {params : Arguments} {body pre post : List Stmt} {tg iter e : Expr} {yp ep fpos : Pos} {dV kV doc pm ct oc : Value} {an od : Option Addr} {osl : Array (Option Value)} {ps : List Str} {sp : SpG2}
    (lk : K.lookup f = some ⟨oc, od, .func (PySem.W.fnOf name qual params body scope dV kV doc pm an cd ct), osl⟩) (hcd : PySem.W.codeIn K cd qual = true) (S : GScope N ps scope)
    (hbd : body = pre ++ [.For tg iter (.Expr (.Yield (some e) yp) ep :: post) [] fpos]) (nocell : ∀ y ∈ scope.names, y.2 ≠ .cell) (hs : ∀ env x, foldedSetIterable iter env x = pure x)
    (hco : scope.isCoroutine = false) (hin : ∀ L, interactive (envOfC qual scope L f cd) = false)
    (len : ∀ vs H ry yl en E, sp vs H ry yl en E → vs.length = ps.length)
    (hbody : ∀ (A : Around) (outer : List Env) (s : Shared) (H : Hp) (vs : List V) (ry : Nat → Hp → Prop) (yl : Nat → Hp → V → Hp → Prop) (en : Nat → Hp → Hp → Prop) (E : XK) (pn : List (Addr × Obj)), Room k (A.deeper (envOfC qual scope s.heap.objs.size f cd)) → sp vs H ry yl en E →
      ∃ tp wi g te tq, PSs (gcxC Cg P w K mg base N qual scope f cd A outer s H E pn) pre tp ∧ PI (slice (gcxC Cg P w K mg base N qual scope f cd A outer s H E pn) s H) tg iter wi ∧ (∀ s0 H0, PG (slice (gcxC Cg P w K mg base N qual scope f cd A outer s H E pn) s0 H0) tg g) ∧
        (∀ s0 H0, PE (slice (gcxC Cg P w K mg base N qual scope f cd A outer s H E pn) s0 H0) e te) ∧ (∀ s0 H0, PSs (slice (gcxC Cg P w K mg base N qual scope f cd A outer s H E pn) s0 H0) post tq) ∧ tGenX tp wi g te tq ry yl en H (start N vs) H) :
    GFn2 Cg P w K mg base (k + 1) f (PySem.W.fnOf name qual params body scope dV kV doc pm an cd ct) ps sp := by
  subst hbd
  refine ⟨len, fun A outer s H args us vs ry yl en E hr e0 hb r hsp => ?_⟩
  have hl := len _ _ _ _ _ _ hsp
  have kin : K.In s.heap := e0.mod.kin.keeps fun b o q => (e0.bs b o q).1
  have lim : s.heap.NoLimit := e0.mod.nolimit.keeps fun b o q => (e0.bs b o q).1
  have kinds : ∀ y ∈ ps.zip us, scope.names.lookup y.1 = some .local ∨ (scope.names.lookup y.1 = some .cell ∧ ((cellsFrom (s.heap.objs.size + 1) scope.names []).lookup y.1).isSome = true) := fun ⟨n, v⟩ hy => by
    rcases S.par n (List.of_mem_zip hy).1 with z | z
    · exact .inl z
    · exact .inr ⟨z, PySem.W.cellsFrom_some _ _ _ (.inl z)⟩
  refine codeAny_call_generator hr.depth (kin _ _ lk) rfl S.co S.gen rfl (PySem.W.codeRec_of kin hcd) (hb _ _ _ _ ?_)
  refine wpAny_newFunctionEnv_cells S.kind kinds fun env he s1 x => ?_
  subst he
  have lim1 : s1.heap.NoLimit := lim.keeps x.toInCall.keep
  refine ⟨lim1, ?_⟩
  obtain ⟨h1, tk, es1, _⟩ := x.done
  have os1 : s1.os = s.os := by rw [es1]
  have gen1 : s1.gens = s.gens := by rw [es1]
  have lt1 : s.heap.objs.size < s1.heap.objs.size := x.toInCall.ns.lt
  have kp1 : ∀ b o, s.heap.get? b = some o → s1.heap.get? b = some o := x.toInCall.keep
  have main : ∀ (go : Obj) (nm qn : Value) (tk2 : Nat), go.cls = .type "generator" → go.data = .fields #[.int s1.gens.size 0, nm, qn] → go.slots = #[] → (∀ h : Heap, (h.push go).get? h.objs.size = some go) →
      GMade2 Cg P w K mg base (k + 1) outer H s ry yl en E (.ref s1.heap.objs.size) { s1 with gens := s1.gens.push (.fresh (.func (pre ++ [.For tg iter (.Expr (.Yield (some e) yp) ep :: post) [] fpos]) (envOfC qual scope s.heap.objs.size f cd))), toks := tk2, heap := s1.heap.push go } := by
    intro go nm qn tk2 c1 c2 c3 hgp
    have isG : ∀ h : Heap, h.get? s1.heap.objs.size = some go → h.IsGen s1.heap.objs.size s1.gens.size := fun h q => ⟨go, nm, qn, q, c1, c2, c3⟩
    have there : (s1.heap.push go).get? s1.heap.objs.size = some go := hgp _
    refine ⟨s1.heap.objs.size, s1.gens.size, _, rfl, Nat.le_of_lt lt1, ?_, isG _ there, Array.getElem?_push_size .., os1, ?_, lim1.keeps fun b o q => Heap.get?_push_of_some _ q, fun b o q => Heap.get?_push_of_some _ (kp1 b o q), ?_⟩
    · show _ < (s1.heap.push _).objs.size
      rw [Heap.size_push]; exact Nat.lt_succ_self _
    · exact AllBare.push (by rw [gen1]; exact e0.bare) rfl
    intro Aw xa wk N0 s2 hrw hfr hxa hry hk2 hos hba hN0
    have e0w : Env0 P w K mg base Aw outer s H := ⟨hfr, e0.mod, e0.bs, e0.bsz, e0.funs, e0.frf, e0.hok, e0.bare⟩
    obtain ⟨tp, wi, gt, te, tq, hp1, hp2, hp3, hp4, hp5, hq⟩ := hbody Aw outer s H vs ry yl en E [(s1.heap.objs.size, go)] (hrw.deeper _) hsp
    have I1 : Inv (gcxOf P w K mg base N qual scope f cd Aw outer s H E []) [] (start N vs) H s1 := inv_startG S hrw.hd e0w hl r x
    have kp2 : ∀ b o, s1.heap.get? b = some o → s2.heap.get? b = some o := fun b o q => hk2 b o (Heap.get?_push_of_some _ q)
    have I2 : Inv (gcxOf P w K mg base N qual scope f cd Aw outer s H E []) [] (start N vs) H s2 := I1.call' (ch := []) (hos.trans os1.symm) (Un.kept kp2) (I1.hok.kept kp2) hba fun b z => by simp at z
    have hea : s2.heap.get? s1.heap.objs.size = some go := hk2 _ go there
    have hgd : ∀ v, go.data ≠ .cell v := fun v q => by rw [c2] at q; cases q
    have lexa : ∀ b ∈ xa, s1.heap.objs.size < b := fun b hb => by
      have z : (s1.heap.push go).objs.size ≤ b := (hxa b hb).1
      rw [Heap.size_push] at z
      exact z
    have I3 : Inv (gcxOf P w K mg base N qual scope f cd Aw outer s H E [(s1.heap.objs.size, go)]) (xpins xa s2.heap H) (start N vs) H s2 := Inv.pinnedG I2 fun p hp => by
      rcases List.mem_append.mp hp with hp | hp
      rotate_left
      · obtain ⟨z1, z2, z3⟩ := of_xpins hp
        obtain ⟨_, o, eo, co⟩ := hxa _ z1
        rw [z2] at eo
        cases eo
        exact ⟨z2, z3, Nat.ne_of_gt (Nat.lt_trans lt1 (lexa _ z1)), I1.nofs (Nat.le_of_lt (lexa _ z1)), co⟩
      rw [List.mem_singleton] at hp
      rw [hp]
      exact ⟨hea, I1.hok.fresh (Nat.le_refl _), Nat.ne_of_gt lt1, I1.nofs (Nat.le_refl _), hgd⟩
    have noc : ∀ y, (envOfC qual scope s.heap.objs.size f cd).cells.lookup y = none := fun y => by
      show (cellsFrom (s.heap.objs.size + 1) scope.names []).lookup y = none
      rw [no_cells scope.names nocell]
      rfl
    refine seg_func ?_
    rw [execs_app]
    refine seg_wrap ?_
    rw [over_func]
    refine wpAny_mono (hp1.run _ s2 _ H _ (I3.wish _) hq) (fun fl s3 h3 => ?_) fun z s3 hx => ?_
    · cases fl with
      | brk => obtain ⟨_, _, _, z⟩ := h3; exact z.elim
      | cont => obtain ⟨_, _, _, z⟩ := h3; exact z.elim
      | ret v => obtain ⟨_, _, _, _, _, z⟩ := h3; exact z.elim
      | next =>
        obtain ⟨σ3, H3, I3', q3⟩ := h3
        have I4 := slice_inv I3'
        show Seg _ Aw _ _ _ _ _ ((execs [.For tg iter (.Expr (.Yield (some e) yp) ep :: post) [] fpos] _).wrap _ _ _ _) _ _
        refine seg_execs_cons ?_
        rw [exec_For]
        show Seg _ _ _ _ _ _ _ (.at fpos fun _ => (eval iter (envOfC qual scope s.heap.objs.size f cd) >>= fun v => (foldedSetIterable iter (envOfC qual scope s.heap.objs.size f cd) v >>= fun x => (standAt iter.pos >>= fun _ => (holding [x] (pyIter x) >>= fun itv => runOwn (.forLoop tg itv (.Expr (.Yield (some e) yp) ep :: post) [] (envOfC qual scope s.heap.objs.size f cd)) (envOfC qual scope s.heap.objs.size f cd))))).wrap _ _ _ _) _ _
        refine seg_at (seg_bind_wrap ?_)
        rw [over_func]
        refine wpAny_mono (hp2.run _ s3 σ3 H3 _ I4 q3) (fun v s4 h4 => ?_) fun x s' hx => hx.elim
        rw [hs _ v]
        refine seg_bind_wrap (wpAny_pure ?_)
        refine seg_bind_wrap (wpAny_standAt ?_)
        refine seg_bind_wrap ?_
        rw [over_func]
        refine wpAny_holding (wpAny_mono h4 (fun itv s5 h5 => ?_) fun x s' hx => hx.elim)
        obtain ⟨it, fp, tn, Jt, H5, ee, I5, T, st5, f5, Q, q0, turn⟩ := h5
        subst ee
        refine seg_call fun p => ?_
        obtain ⟨n, rfl⟩ : ∃ n, N0 = n + 1 := ⟨N0 - 1, by omega⟩
        refine turns (X := gcxC Cg P w K mg base N qual scope f cd Aw outer s H E [(s1.heap.objs.size, go)]) (W := ⟨xa, wk, yl, en⟩) (Q := Q) rfl rfl rfl rfl rfl rfl rfl hfr rfl rfl rfl rfl (I3.ok.wish _) noc rfl rfl rfl isG (Nat.le_of_lt lt1) hgd hry T (fun b hb => ?_) (fun b hb => ⟨Nat.ne_of_gt (Nat.lt_trans lt1 (lexa _ hb)), I1.nofs (Nat.le_of_lt (lexa _ hb))⟩) (fun hb => Nat.lt_irrefl _ (lexa _ hb)) hp3 hp4 hp5 turn (fun r => by cases r <;> rfl) hco (hin _) n 0 s2 s5 s H H H5 σ3 (by omega) (.inl ⟨rfl, rfl, rfl, rfl⟩) q0 I5 st5 fun b hb => (f5 b hb).1
        obtain ⟨_, z1, z2, z3, _, z4⟩ := f5 b hb
        refine ⟨z3.elim (fun z => ?_) id, z1, z2, fun z => z4 (s1.heap.objs.size, go) (List.mem_append_left _ (List.mem_singleton.mpr rfl)) z.symm, fun z => ?_⟩
        rotate_left
        · obtain ⟨_, o, eo, _⟩ := hxa _ z
          exact z4 (b, o) (List.mem_append_right _ (to_xpins z eo (I1.hok.fresh (Nat.le_of_lt (lexa _ z))))) rfl
        exact absurd (show b ∈ ([] : List Addr) from z) List.not_mem_nil
    · refine seg_wrap ?_
      rw [over_func]
      refine wpAny_mono (show wpAny (model P w) (Aw.deeper (envOfC qual scope s.heap.objs.size f cd)) (leaving (envOfC qual scope s.heap.objs.size f cd) z) (fun _ s'' => Cg outer H s E z s'' ∧ ∀ p ∈ [(s1.heap.objs.size, go)], s''.heap.get? p.1 = some p.2) (fun _ _ => False) s3 from hx) (fun _ s4 q => ?_) fun _ s4 q => q.elim
      exact seg_end (.error z) (.inr ⟨z, rfl, q.1, isG _ (q.2 _ (List.mem_singleton.mpr rfl))⟩)
  exact main _ _ _ _ rfl rfl rfl fun h => Heap.get?_push_size _ rfl
end
end HS
/-! Consuming a generator of genx.lean: next, for with break, a list comprehension over it (own rules over PyProof.Gen, HandS.GenList). -/
namespace HS
open PySem PySem.Spec PyProof.Rows L2 GenW
section
variable {M : Model}
/-- what goes on behind a yield -/
def goOn (M : Model) (A : Around) (R : GenEnd) (Y : Protocol) : Nat → GenState → Resume → Shared → Prop
  | 0 => fun _ _ _ => False
  | m + 1 => fun gs r s => gs.Goes M A R Y m r s
/-- as the kit's resume, but it tells that what a yield leaves is asleep -/
theorem wake_gen {A : Around} {R : GenEnd} {Y : Protocol} {n g : Nat} {E : Value → Shared → Prop} {s : Shared} {gs : GenState} {r : Resume} {lv : List Value} {α : Type} {k : GenResult → Sem α} {Q : α → Shared → Prop}
    (there : s.gens[g]? = some gs) (goes : gs.Goes M A R Y n r (s.setGen g .running)) (ends : ∀ x t, R n (s.setGen g .running) x t → wpAny M A (k (End.ret x).result) Q E (t.setGen g .finished))
    (yields : ∀ v t gs', gs'.bare = true → Asleep gs' → Y (n - 1) (s.setGen g .running) v t (goOn M A R Y n gs') → wpAny M A (k (.yielded v)) Q E (t.setGen g gs')) : wpAny M A (.resume g r lv k) Q E s := by
  intro Γ p hΓ; rw [Sem.wp_resume]
  have woken : ∀ c, (Γ.wake c p).Woken A := fun d => hΓ.wake d p
  have both : ∀ e t, SegEnd R Y n (Seg.next M A R Y n) (s.setGen g .running) e t → e.quiet = true ∧ Sem.wp M Γ (k e.result) (fun a _ s' => Q a s') (fun x _ s' => E x s') p (t.setGen g e.genState) := fun e t h => by
    cases e with
    | ret x => exact ⟨rfl, ends x t h Γ p hΓ⟩
    | susp v g0 l0 k0 c0 p0 f0 => exact ⟨h.1, yields v t _ (End.bare_of_quiet h.1) ⟨_, _, _, _, _, _, rfl⟩ (by cases n with | zero => exact h.2 | succ m => exact h.2) Γ p hΓ⟩
  cases gs with
  | running => exact goes.elim
  | finished => exact goes.elim
  | fresh c =>
    obtain ⟨rfl, seg⟩ := goes
    obtain ⟨e, t, run, fin⟩ := seg_iff.mp seg (Γ.wake c p) p rfl (woken c)
    exact ⟨_, _, by unfold Wakes; rw [there]; exact ⟨e, t, run, (both e t fin).1, rfl, rfl⟩, (both e t fin).2⟩
  | suspended k0 l0 c0 p0 f0 cl =>
    obtain ⟨e, t, run, fin⟩ := seg_iff.mp goes (Γ.wake c0 p) p0 rfl (woken c0)
    exact ⟨_, _, by unfold Wakes; rw [there]; exact ⟨e, t, run, (both e t fin).1, rfl, rfl⟩, (both e t fin).2⟩
end
theorem next_gen {P : Program} {w : World} {A : Around} {E : Value → Shared → Prop} {s : Shared} {a : Addr} {g n : Nat} {gs : GenState} {F : Nat → Shared → Shared → Prop} {Er : Value → Shared → Prop} {Y : Protocol} {Q : Option Value → Shared → Prop}
    (cold : A.handled = none) (lim : s.heap.NoLimit) (room : A.depth < recursionLimit) (isg : s.heap.IsGen a g) (there : s.gens[g]? = some gs)
    (goes : gs.Goes (model P w) A.in1 (fun n s₀ r t => ((r = .ok (.ret .none) ∨ r = .ok .next) ∧ F n s₀ t) ∨ ∃ e, r = .error e ∧ Er e t) Y n (.send .none) (s.setGen g .running))
    (yields : ∀ v t gs', gs'.bare = true → Asleep gs' → Y (n - 1) (s.setGen g .running) v t (goOn (model P w) A.in1 (fun n s₀ r t => ((r = .ok (.ret .none) ∨ r = .ok .next) ∧ F n s₀ t) ∨ ∃ e, r = .error e ∧ Er e t) Y n gs') → Q (some v) (t.setGen g gs'))
    (stops : ∀ t, F n (s.setGen g .running) t → ∀ h', (∀ b o, t.heap.get? b = some o → h'.get? b = some o) → Q none { t.setGen g .finished with heap := h' })
    (fails : ∀ e t, Er e t → t.heap.IsGen a g ∧ NotStop (model P w) e t.heap ∧ E e (t.setGen g .finished)) : wpAny (model P w) A (pyNext (.ref a)) Q E s := by
  unfold pyNext; refine wpAny_bind (wpAny_attempt (wpAny_callSpecial?_slot (name := Str.ofString "__next__") isg.typeIs slot_gen_next (wpAny_call_entry slot_gen_next isg.typeIs entry_gen_next ?_ (args_gen_next _))))
  (show wpAny _ A.in1 (Builtin.Generator.genWake (.ref a) (.send .none)) _ _ s); unfold Builtin.Generator.genWake
  refine wpAny_bind (wpAny_holding (wpAny_genNumber isg (wpAny_bind (wpAny_genState there ?_))))
  cases gs with
  | running => exact goes.elim
  | finished => exact goes.elim
  | _ =>
    refine wpAny_bind (wpAny_roomToWake lim room ?_); show wpAny _ A.in1 (.resume g (.send .none) [] _) _ _ s
    refine wake_gen there goes (fun x t hx => ?_) (fun v t gs' hb ha hv => wpAny_pure ⟨v, rfl, wpAny_pure (yields v t gs' hb ha hv)⟩)
    rcases hx with ⟨hr, hp⟩ | ⟨e, rfl, he⟩
    · have back : End.result (.ret x) = .returned .none := by rcases hr with hr | hr <;> rw [hr] <;> rfl
      (first | rw [back] | simp only [back]); show wpAny _ A.in1 (newExc (.type "StopIteration") [] >>= _) _ _ _
      refine wpAny_bind ?_; simp only [newExc, newTuple]; refine wpAny_bind (wpAny_newObj_type ?_ (by size_fits))
      refine wpAny_bind (m := firstArgMember _ _) (wpAny_of_eq (a := Value.none) (by (first | rfl | (simp only [firstArgMember]; rfl))) ?_); refine wpAny_newObj_type ?_ (by size_fits)
      simp only [raiseNew]; refine wpAny_bind (wpAny_bind (wpAny_handled ?_)); (first | rw [show A.in1.handled = none from cold] | rw [cold])
      refine wpAny_throw ?_; refine wpAny_bind (wpAny_isInstance (T := "StopIteration") (b := true) ⟨_, Heap.get?_push_size _ rfl, rfl⟩ isSubtype_stop ?_)
      exact wpAny_pure (stops t hp _ fun b o e => Heap.get?_push_of_some _ (Heap.get?_push_of_some _ e))
    · obtain ⟨isg1, nst, hq⟩ := fails e t he
      obtain ⟨o, nm, qn, ho, hc, hd, hsl⟩ := isg1
      (show wpAny _ A.in1 (Builtin.Generator.genLeft (.ref a) e) _ _ _); unfold Builtin.Generator.genLeft Builtin.Generator.madeByALambda
      refine wpAny_bind (wpAny_bind (wpAny_load (o := o) ho (wpAny_pure ?_))); refine wpAny_bind (nst _ _ _ _ rfl ?_)
      rw [Bool.and_false, if_neg Bool.false_ne_true]; unfold Builtin.Generator.genEscaped
      (first | refine wpAny_bind (nst _ _ _ _ rfl ?_) | refine wpAny_bind (wpAny_pure (wpAny_bind (nst _ _ _ _ rfl ?_))))
      rw [if_pos (show (!false) = true from rfl)]; (first | refine wpAny_throw ?_ | refine wpAny_bind (wpAny_throw ?_))
      refine wpAny_bind (nst _ _ _ _ rfl ?_); rw [if_neg Bool.false_ne_true]; exact wpAny_throw hq
/-- other generators' states do not matter to what is known -/
theorem Inv_gens {X : Cx} {pins : List (Addr × Obj)} {σ : L2.St} {H : Hp} {s : Shared} {D : Array GenState} (I : Inv X pins σ H s) (hb : AllBare D) : Inv X pins σ H { s with gens := D } :=
  I.call' (ch := []) rfl (Un.kept fun _ _ e => e) I.hok hb fun b z => by simp at z
/-- a run by night -/
theorem nightly {α : Type} {M : Model} {A : Around} {t : Sem α} {Q : α → Shared → Prop} {s : Shared} {g : Nat} {gs : GenState} (ha : Asleep gs) (there : s.gens[g]? = some gs) (h : wpAny M A t Q (fun _ _ => False) (night s)) :
    wpAny M A t (fun a s' => s'.gens[g]? = some gs ∧ ∃ D, Like s'.gens D ∧ Q a { s' with gens := D }) (fun _ _ => False) s :=
  wpAny_mono (by_night h) (fun a s' q => ⟨q.1 g gs there ha, q.2⟩) fun e s' q => by obtain ⟨_, _, _, z⟩ := q; exact z
/-- what the consumer knows when it wakes the generator -/
abbrev wkOf (X : Cx) (pins : List (Addr × Obj)) (Pv : Nat → L2.St → Hp → Prop) : Nat → Shared → Hp → Prop := fun i s H => ∃ σ, Inv X pins σ H s ∧ Pv i σ H
/-- what stood at the call lies below; of what came since, the frame is left as it is -/
theorem un_below {fs xa : List Addr} {H H' : Hp} {h h' : Heap} {L C : Nat} (u : Un fs [] H H' (below h L) h') (hC : C < L ∨ C ∈ xa) (nC : H C = none) (kp : ∀ p ∈ xpins xa h H, h'.get? p.1 = some p.2 ∧ H' p.1 = none) : Un fs ((List.range' L (h.objs.size - L)).filter fun b => decide (b ≠ C)) H H' h h' := by
  have low : ∀ b o, h.get? b = some o → b ∉ (List.range' L (h.objs.size - L)).filter (fun b => decide (b ≠ C)) → (below h L).get? b = some o ∨ (h'.get? b = some o ∧ H' b = none) := fun b o e n => by
    have hb := Heap.lt_size e
    by_cases hL : b < L
    · left; rw [below_get hL]; exact e
    · have hL := Nat.le_of_not_lt hL
      by_cases hbC : b = C
      · right
        subst hbC
        exact kp (b, o) (to_xpins (hC.resolve_left (Nat.not_lt.mpr hL)) e nC)
      · exact absurd (List.mem_filter.mpr ⟨List.mem_range'_1.mpr ⟨hL, by rw [Nat.add_sub_of_le (Nat.le_trans hL (Nat.le_of_lt hb))]; exact hb⟩, decide_eq_true hbC⟩) n
  exact ⟨fun b o e n hf hx => (low b o e hx).elim (fun z => u.keep b o z n hf List.not_mem_nil) fun z => z.1, fun b o e n hf hx => (low b o e hx).elim (fun z => u.slot b o z n hf List.not_mem_nil) fun z => ⟨o.slots, z.1⟩,
    fun b o e n hx => (low b o e hx).elim (fun z => u.free b o z n List.not_mem_nil) fun z => z.2, fun b o e hx => (low b o e hx).elim (fun z => u.there b o z List.not_mem_nil) fun z => ⟨o, z.1⟩, u.tups, u.frzs, u.tbls⟩
section
variable {Cg : CXT} {X : Cx} {pins : List (Addr × Obj)} {Hc : Hp} {sc : Shared} {Pv : Nat → L2.St → Hp → Prop} {yl : Nat → Hp → V → Hp → Prop} {en : Nat → Hp → Hp → Prop} {E : XK} {N0 : Nat} {a : Addr} {g : Nat} {σ0 : L2.St} {xa : List Addr} {lf : Nat → Hp → Hp} {h1 : Heap}
/-- about to ask for the i-th item (h1: the heap at the first asking) -/
structure Asks (Cg : CXT) (X : Cx) (pins : List (Addr × Obj)) (xa : List Addr) (h1 : Heap) (Hc : Hp) (sc : Shared) (Pv : Nat → L2.St → Hp → Prop) (yl : Nat → Hp → V → Hp → Prop) (en : Nat → Hp → Hp → Prop) (E : XK) (N0 : Nat) (a : Addr) (g : Nat) (i : Nat) (s : Shared) : Prop where
  lim : s.heap.NoLimit
  os : s.os = sc.os
  first : i = 0 → s.heap = h1
  isg : s.heap.IsGen a g
  state : ∃ gs, s.gens[g]? = some gs ∧ gs.Goes (model X.prog X.w) X.A.in1 (RG Cg X.prog X.w X.stack sc Hc ⟨xa, wkOf X pins Pv, yl, en⟩ E N0 a g) (YG X.prog X.w X.K X.mg X.base X.A.in1 X.stack sc Hc ⟨xa, wkOf X pins Pv, yl, en⟩ N0 a g) (N0 - i) (.send .none) (s.setGen g .running)
/-- how the consumer stands to what the generator may touch -/
structure Apt (X : Cx) (pins : List (Addr × Obj)) (xa : List Addr) (h1 : Heap) (Hc : Hp) (sc : Shared) (Pv : Nat → L2.St → Hp → Prop) (σ0 : L2.St) (lf : Hp → Hp) : Prop where
  os : sc.os = X.s_0.os
  loc : X.env.locals < sc.heap.objs.size ∨ X.env.locals ∈ xa
  far : ∀ b, sc.heap.objs.size ≤ b → b ≠ X.env.locals → (b ∈ X.ex ∨ X.s_0.heap.objs.size ≤ b) ∧ (∀ x c, X.env.cells.lookup x = some c → c ≠ b) ∧ ∀ p ∈ X.pn ++ pins, p.1 ≠ b
  fs : ∀ b ∈ X.fs, b < sc.heap.objs.size
  nocell : ∀ i σ H s, Inv X pins σ H s → Pv (i + 1) σ H → ∀ b ∈ xa, ∀ o, s.heap.get? b = some o → ∀ v, o.data ≠ .cell v
  start : ∀ H2 t, t.os = sc.os → AllBare t.gens → HOk X.prog X.w H2 t.heap → Un (frs X.stack) [] Hc H2 sc.heap t.heap → (∀ p ∈ xpins xa h1 Hc, t.heap.get? p.1 = some p.2 ∧ H2 p.1 = none) → Inv X pins σ0 (lf H2) t
/-- the heap that is told -/
def lifted (lf : Hp → Hp) (i : Nat) (H : Hp) : Hp := if i = 0 then lf H else H
theorem inv_from {lf : Hp → Hp} (ap : Apt X pins xa h1 Hc sc Pv σ0 lf) {i : Nat} {Hw H2 : Hp} {s t : Shared} (fst : i = 0 → s.heap = h1) (f : From X.prog X.w X.stack sc Hc ⟨xa, wkOf X pins Pv, yl, en⟩ i s Hw H2 t) : ∃ σ', ((i = 0 ∧ σ' = σ0 ∧ Hw = Hc) ∨ (1 ≤ i ∧ Pv i σ' Hw)) ∧ Inv X pins σ' (lifted lf i H2) t := by
  obtain ⟨os, bare, hok, kp, z | z⟩ := f
  · obtain ⟨rfl, rfl, un⟩ := z
    exact ⟨σ0, .inl ⟨rfl, rfl, rfl⟩, ap.start H2 t os bare hok un (by rw [← fst rfl]; exact kp)⟩
  · obtain ⟨hi, ⟨σ', I, pv'⟩, un⟩ := z
    have nz : i ≠ 0 := by omega
    refine ⟨σ', .inr ⟨hi, pv'⟩, ?_⟩
    show Inv X pins σ' (if i = 0 then lf H2 else H2) t
    rw [if_neg nz]
    refine I.call' (ch := (List.range' sc.heap.objs.size (s.heap.objs.size - sc.heap.objs.size)).filter fun b => decide (b ≠ X.env.locals)) (by rw [os, I.os, ap.os]) (un_below un ap.loc I.free kp) hok bare fun b hb => ?_
    obtain ⟨z1, z2⟩ := List.mem_filter.mp hb
    have z2 : b ≠ X.env.locals := of_decide_eq_true z2
    obtain ⟨f1, f2, f3⟩ := ap.far b (List.mem_range'_1.mp z1).1 z2
    exact ⟨f1, z2, f2, f3⟩
/-- what the next one may be -/
def Gives (Cg : CXT) (X : Cx) (pins : List (Addr × Obj)) (xa : List Addr) (h1 : Heap) (Hc : Hp) (sc : Shared) (Pv : Nat → L2.St → Hp → Prop) (yl : Nat → Hp → V → Hp → Prop) (en : Nat → Hp → Hp → Prop) (E : XK) (N0 : Nat) (a : Addr) (g : Nat) (σ0 : L2.St) (lf : Hp → Hp) (i : Nat) (r : Option Value) (s1 : Shared) : Prop :=
  match r with
  | none => ∃ σ' Hw H2, Inv X pins σ' (lifted lf i H2) s1 ∧ ((i = 0 ∧ σ' = σ0 ∧ Hw = Hc) ∨ (1 ≤ i ∧ Pv i σ' Hw)) ∧ en i Hw H2
  | some v => ∃ (σ' : L2.St) (Hw : Hp) (x : V) (H2 : Hp) (pv : List (Addr × Obj)) (gs : GenState), Inv X (pins ++ pv) σ' (lifted lf i H2) s1 ∧ RelV x v ∧ ((i = 0 ∧ σ' = σ0 ∧ Hw = Hc) ∨ (1 ≤ i ∧ Pv i σ' Hw)) ∧ yl i Hw x H2 ∧ Asleep gs ∧ s1.gens[g]? = some gs ∧ s1.heap.IsGen a g ∧
      ∀ (s7 : Shared) (σ7 : L2.St) (H7 : Hp), Inv X (pins ++ pv) σ7 H7 s7 → Pv (i + 1) σ7 H7 → s7.gens[g]? = some gs → Asks Cg X pins xa h1 Hc sc Pv yl en E N0 a g (i + 1) s7
theorem asks_next {lf : Hp → Hp} {i : Nat} {s : Shared} {Er : Value → Shared → Prop} (ap : Apt X pins xa h1 Hc sc Pv σ0 lf) (lfn : ∀ H b, sc.heap.objs.size ≤ b → b ∉ xa → H b = none → lf H b = none) (cold : X.A.handled = none) (room : X.A.depth < recursionLimit) (hi : i + 2 ≤ N0) (h : Asks Cg X pins xa h1 Hc sc Pv yl en E N0 a g i s)
    (hE : ∀ e t, Cg X.stack Hc sc E e t → NotStop (model X.prog X.w) e t.heap ∧ Er e (t.setGen g .finished)) :
    wpAny (model X.prog X.w) X.A (pyNext (.ref a)) (Gives Cg X pins xa h1 Hc sc Pv yl en E N0 a g σ0 lf i) Er s := by
  obtain ⟨gs, there, goes⟩ := h.state
  obtain ⟨m, hm⟩ : ∃ m, N0 - i = m + 1 := ⟨N0 - i - 1, by omega⟩
  rw [hm] at goes
  have hgs : g < s.gens.size := (Array.getElem?_eq_some_iff.mp there).1
  refine wpAny_gsz (n := g + 1) hgs (next_gen (F := fun n s₀ t => ∃ (i : Nat) (Hw H2 : Hp), i + n = N0 ∧ From X.prog X.w X.stack sc Hc ⟨xa, wkOf X pins Pv, yl, en⟩ i s₀ Hw H2 t ∧ en i Hw H2) (Er := fun e t => Cg X.stack Hc sc E e t ∧ t.heap.IsGen a g)
    cold h.lim room h.isg there goes (fun v t gs' hb ha hY hsz => ?_) (fun t hF h' hk hsz => ?_) fun e t he => ?_)
  · obtain ⟨i', Hw, x, H2, pv, go, hn, rx, fr, lim, hgo, hmem, hy, hpv, kap⟩ := hY
    have : i' = i := by omega
    subst this
    obtain ⟨σ', pw, I1⟩ := inv_from (s := s.setGen g .running) (yl := yl) (en := en) ap h.first fr
    have I2 : Inv X (pins ++ pv) σ' (lifted lf i' H2) t := I1.pins_of fun p hp => (List.mem_append.mp hp).elim (fun z => I1.pin p (List.mem_append_right _ z)) fun z => by
      obtain ⟨e, n, l, nx, c⟩ := hpv p z
      refine ⟨e, ?_, fun z => ?_, fun z => absurd (ap.fs _ z) (Nat.not_lt.mpr l), c⟩
      · unfold lifted
        by_cases hz : i' = 0
        · rw [if_pos hz]; exact lfn _ _ l nx n
        · rw [if_neg hz]; exact n
      · rcases ap.loc with q | q
        · rw [z] at l
          exact absurd q (Nat.not_lt.mpr l)
        · exact nx (z ▸ q)
    have hsz' : g < t.gens.size := by
      have q : (t.setGen g gs').gens.size = t.gens.size := setGen_size _ _ _
      rw [← q]; exact hsz
    refine ⟨σ', Hw, x, H2, pv, gs', Inv_gens I2 (allBare_setGen I2.bare hb), rx, pw, hy, ha, setGen_at hsz', hgo _ (hpv _ hmem).1, fun s7 σ7 H7 I7 p7 t7 => ⟨I7.nolimit, by rw [I7.os, ap.os], fun z => by omega, hgo _ (I7.pin _ (List.mem_append_right _ (List.mem_append_right _ hmem))).1, gs', t7, ?_⟩⟩
    have e : N0 - (i' + 1) = m := by omega
    rw [e]
    have I8 : Inv X (pins ++ pv) σ7 H7 (s7.setGen g .running) := Inv_gens I7 (allBare_setGen I7.bare rfl)
    exact kap (by omega) (s7.setGen g .running) H7 ⟨σ7, I8.unpinned, p7⟩ I8.env0.in1 (by rw [I8.os, ap.os]) (fun p hp => by
      have z := I8.pin p (List.mem_append_right _ (List.mem_append_right _ hp))
      exact ⟨z.1, z.2.1⟩) (ap.nocell _ _ _ _ I8.unpinned p7)
  · obtain ⟨i', Hw, H2, hn, fr, hen⟩ := hF
    have : i' = i := by omega
    subst this
    obtain ⟨σ', pw, I1⟩ := inv_from (s := s.setGen g .running) (yl := yl) (en := en) ap h.first fr
    exact ⟨σ', Hw, H2, I1.call' (ch := []) rfl (Un.kept hk) (I1.hok.kept hk) (allBare_setGen I1.bare rfl) fun b z => by simp at z, pw, hen⟩
  · obtain ⟨c, isg⟩ := he
    obtain ⟨z1, z2⟩ := hE e t c
    exact ⟨isg, z1, fun _ => z2⟩
end
end HS
/-! for x in f(..) of such a generator def (behind genfor.lean). -/
namespace HS
open PySem PySem.Spec PyProof.Rows L2 GenW
/-- what a generator def promises for its arguments -/
abbrev Pr2 := (Nat → Hp → Prop) → (Nat → Hp → V → Hp → Prop) → (Nat → Hp → Hp → Prop) → XK → Prop
abbrev TGen2 := L2.St → Hp → (Pr2 → Hp → Prop) → Prop
structure PGen2 (Cg : CXT) (X : Cx) (k : Nat) (e : Expr) (tg : TGen2) : Prop where
  run : ∀ (pins : List (Addr × Obj)) (s : Shared) (σ : L2.St) (H : Hp) (R : Pr2 → Hp → Prop) (R' : Hp → Pr2), (∀ pr H1, R pr H1 → ∃ ry yl en E, pr ry yl en E ∧ R' H1 ry yl en E) → Inv X pins σ H s → tg σ H R →
    wpAny (model X.prog X.w) X.A (eval e X.env) (fun u s' => ∃ H1 sc ry yl en E, Inv X pins σ H1 sc ∧ R' H1 ry yl en E ∧ GMade2 Cg X.prog X.w X.K X.mg X.base k X.stack H1 sc ry yl en E u s') X.xe s
section
variable {Cg : CXT} {X : Cx} {k : Nat} {f C : Addr} {fd : FuncData} {ps : List Str} {sp : SpG2} {dvs : List V} {ds : List Value} {x m : Str} {p pos pos' apos : Pos} {o : Expr} {ta : TE}
theorem run_gfn2 {pins : List (Addr × Obj)} {σ : L2.St} {H : Hp} {s : Shared} {us : List Value} {vs : List V} {ry : Nat → Hp → Prop} {yl : Nat → Hp → V → Hp → Prop} {en : Nat → Hp → Hp → Prop} {E : XK} {E1 : Value → Shared → Prop} (F : GFn2 Cg X.prog X.w X.K X.mg X.base k f fd ps sp) (hr : Room k X.A) (hb : Binds X.K fd ps ds) (hd : Vals dvs ds)
    (I : Inv X pins σ H s) (r : Vals vs us) (h : sp (vs ++ dvs) H ry yl en E) : wpAny (model X.prog X.w) X.A (call (.ref f) us) (fun u s' => GMade2 Cg X.prog X.w X.K X.mg X.base k X.stack H s ry yl en E u s') E1 s := by
  have rr : Vals (vs ++ dvs) (us ++ ds) := r.append hd
  have len : (us ++ ds).length = ps.length := by rw [← rr.length]; exact F.len _ _ _ _ _ _ h
  refine wpAny_call (codeAny_mono (F.run X.A X.stack s H ⟨us, []⟩ (us ++ ds) (vs ++ dvs) ry yl en E hr I.env0 (hb s us I.kIn len) rr h) fun res s' q => ?_)
  rcases res with e | fl
  · exact q.elim
  · cases fl with
    | ret u => exact q
    | _ => exact q.elim
def tCallG2 (sp : SpG2) (dvs : List V) (t : TA) : TGen2 := fun σ H R => t σ H fun vs H1 => R (sp (vs ++ dvs) H1) H1
/-- f(e, ..) -/
theorem pgen2_call {e : Expr} {es : List Expr} {t : TA} (F : GFn2 Cg X.prog X.w X.K X.mg X.base k f fd ps sp) (hr : Room k X.A) (hg : Gl X x) (hm : X.mg x = some (.ref f)) (hk : PySem.W.keepIn X.K (.ref f) = true) (hb : Binds X.K fd ps ds) (hd : Vals dvs ds)
    (ha : PA X (e :: es) t) (hdb : (x == ("__debug__" : Str)) = false := by decide) (he : starEach (e :: es) X.env = (false, eval e X.env) :: starEach es X.env := by rfl) (hpl : (backTo pos' (starEach es X.env)).any (·.1) = false := by rfl) : PGen2 Cg X k (.Call (.Name x p) (e :: es) [] pos') (tCallG2 sp dvs t) := by
  constructor
  intro pins s σ H R R' hRR I h
  refine wpAny_Call_Name_kw (ld_glob I hg hm ?_ hdb); refine PySem.W.callWith_K (h₀ := X.base) I.ok.mod.kin hk (thn (ha.run pos' pins s σ H _ I h) fun us s1 ⟨vs, H1, I1, r, q⟩ => ⟨I1.kIn, ?_⟩) he hpl
  obtain ⟨ry, yl, en, E, hp, hq⟩ := hRR _ _ q
  exact thn (run_gfn2 F hr hb hd I1 r hp) fun u s2 hG => ⟨H1, s1, ry, yl, en, E, I1, hq, hG⟩
/-- what is wanted of the promise -/
def WantG (σ : L2.St) (g : TG) (tb : TS) (D : Ends) (Pv : Nat → L2.St → Hp → Prop) (Ex : XK) (pr : Pr2) : Prop :=
  pr (fun i H2 => ∃ σ', Pv i σ' H2) (fun i Hw x H2 => ∀ σ', Pv i σ' Hw → (i = 0 → σ' = σ) → g x σ' H2 fun σ2 H3 => tb { D with nx := Pv (i + 1), ct := Pv (i + 1), bk := D.nx } σ2 H3) (fun i Hw H2 => ∀ σ', Pv i σ' Hw → (i = 0 → σ' = σ) → D.nx σ' H2) Ex
/-- for target in generator: Pv i: about to ask for the i-th item; up to Mx are asked for -/
def tForG (tg : TGen2) (g : TG) (tb : TS) (Ex : L2.St → XK) : TS := fun D σ H => tg σ H fun pr H1 => ∃ (Mx : Nat) (Pv : Nat → L2.St → Hp → Prop), Pv 0 σ H1 ∧ (∀ i σ H, Pv i σ H → i ≤ Mx) ∧ WantG σ g tb D Pv (Ex σ) pr
theorem apt_def {pins : List (Addr × Obj)} {σ : L2.St} {Hc : Hp} {sc : Shared} {Pv : Nat → L2.St → Hp → Prop} {h1 : Heap} (I : Inv X pins σ Hc sc) : Apt X pins [] h1 Hc sc Pv σ id := by
  obtain ⟨m, ns, _⟩ := I.loc
  have lt : ∀ {c b : Nat} {o : Obj}, sc.heap.objs.size ≤ b → sc.heap.get? c = some o → c ≠ b := fun hb e => Nat.ne_of_lt (Nat.lt_of_lt_of_le (Heap.lt_size e) hb)
  refine ⟨I.os, .inl ns.lt, fun b hb _ => ⟨.inr (Nat.le_trans I.sz hb), fun x c e => ?_, fun p hp => lt hb (I.pin p hp).1⟩, fun b hb => ?_, fun i σ H s _ _ b hb => absurd hb List.not_mem_nil, fun H2 t os bare hok un _ => I.call' (ch := []) os un hok bare fun b z => by simp at z⟩
  · obtain ⟨v, o, ho, _⟩ := I.cell x c e
    exact lt hb ho
  · obtain ⟨_, o, e, _⟩ := I.ok.funs.mem hb
    exact Nat.lt_of_lt_of_le (Heap.lt_size e) I.sz
theorem lifted_id {i : Nat} {H : Hp} : lifted id i H = H := by unfold lifted; split <;> rfl
/-- what a generator may let out is taken -/
def FailsAt (Cg : CXT) (X : Cx) (Ex : L2.St → XK) : Prop := ∀ (pins : List (Addr × Obj)) (σ : L2.St) (H1 : Hp) (sc : Shared) (g : Nat) (e : Value) (t : Shared), Inv X pins σ H1 sc → Cg X.stack H1 sc (Ex σ) e t → NotStop (model X.prog X.w) e t.heap ∧ X.xe e (t.setGen g .finished)
theorem no_fail : Passes (L2.CX X.prog X.w) X fun _ _ _ => False := fun _ _ _ _ _ _ _ c => by obtain ⟨_, _, _, _, _, _, _, _, _, _, _, _, z⟩ := c; exact z.elim
theorem no_stop : NoStop X.K fun _ _ _ => False := fun _ _ _ z => z.elim
theorem failsAt {Ex : L2.St → XK} (hx : ∀ σ, PassesAt (L2.CX X.prog X.w) X σ (Ex σ)) (hns : ∀ σ, NoStop X.K (Ex σ)) : FailsAt (L2.CX X.prog X.w) X Ex := fun pins σ H1 sc g e t I1 c => by
  obtain ⟨a, B, H', cls, d, z1, fl, z2, ub, z3, z4, z5, z6⟩ := id c
  have kin : X.K.In t.heap := I1.ok.mod.kin.keeps fun b o eb => fl.1 b o (ub.keep b o (I1.bs b o eb).1 (I1.bs b o eb).2 fun hm => by
    rcases List.mem_cons.mp (I1.stkSub b hm) with z | z
    · have h1 := Heap.lt_size eb
      rw [z] at h1
      exact absurd (Nat.lt_of_lt_of_le h1 (Nat.le_trans I1.ok.bsz I1.ok.above)) (Nat.lt_irrefl _)
    · exact I1.ok.nofr eb z)
  exact ⟨notStop_of (hns σ) kin c, hx σ pins H1 sc e _ I1 ⟨a, B, H', cls, d, z1, fl, z2, ub, z3, z4, allBare_setGen z5 rfl, z6⟩⟩
theorem no_fails : FailsAt (L2.CX X.prog X.w) X fun _ _ _ _ => False := fun _ _ _ _ _ _ _ _ c => by obtain ⟨_, _, _, _, _, _, _, _, _, _, _, _, z⟩ := c; exact z.elim
theorem ps_forG {e tgt : Expr} {body : List Stmt} {tg : TGen2} {g : TG} {tb : TS} {Ex : L2.St → XK} (hp : PassesOwn (model X.prog X.w) X.A X.env X.xe) (hx : FailsAt Cg X Ex) (hr : Room (k + 1) X.A) (hgen : PGen2 Cg X k e tg) (hgt : PG X.nox tgt g) (hb : PSs X.nox body tb)
    (hs : ∀ x, foldedSetIterable e X.env x = pure x := by intro _; rfl) : PS X (.For tgt e body [] pos) (tForG tg g tb Ex) := by
  constructor
  intro pins s σ H D I h
  refine wpAny_For (thn (hgen.run pins s σ H _ (fun H1 ry yl en E' => ∃ (Mx : Nat) (Pv : Nat → L2.St → Hp → Prop), Pv 0 σ H1 ∧ (∀ i σ H, Pv i σ H → i ≤ Mx) ∧ WantG σ g tb D Pv (Ex σ) fun a b c d => ry = a ∧ yl = b ∧ en = c ∧ E' = d) (fun pr H1 ⟨Mx, Pv, q0, q1, q2⟩ => ⟨_, _, _, _, q2, Mx, Pv, q0, q1, rfl, rfl, rfl, rfl⟩) I h) fun u s1 ⟨H1, sc, ry, yl, en, E', I1, ⟨Mx, Pv, q0, q1, q2⟩, made⟩ => ?_) hs
  obtain ⟨hry, hyl, hen, rfl⟩ := q2
  obtain ⟨a, n, c, rfl, ha1, ha2, isg, fresh, os1, bare1, lim1, kp1, wake⟩ := made
  refine wpAny_pyIter_gen isg ?_
  have fails := fun e t c => hx pins σ H1 sc n e t I1 c
  have ap : Apt X pins [] s1.heap H1 sc Pv σ id := apt_def I1
  refine codeAny_forLoop_any (fun m s' => ∃ i, i + m = Mx + 2 ∧ i ≤ Mx ∧ Asks Cg X pins [] s1.heap H1 sc Pv yl en (Ex σ) (Mx + 2) a n i s') ?_ (Mx + 2) ⟨0, Nat.zero_add _, Nat.zero_le _, lim1, os1, fun _ => rfl, isg, _, fresh, rfl, ?_⟩
  rotate_left
  · exact wake X.A.in1 [] _ (Mx + 2) (s1.setGen n .running) hr.in1 I1.ok.frames (fun b hb => absurd hb List.not_mem_nil) (fun i s3 H3 z => by rw [hry]; obtain ⟨σ', _, z⟩ := z; exact ⟨σ', z⟩) (fun b o e => e) os1 (allBare_setGen bare1 rfl) (by omega)
  rintro m s2 ⟨i, hm, hi, ask⟩
  refine wpAny_passesOwn hp (thn (asks_next ap (fun H b _ _ z => z) hr.hd hr.depth (by omega) ask fails) fun r s3 q => ?_)
  cases r with
  | none =>
    obtain ⟨σ', Hw, H2, I3, pw, z⟩ := q
    rw [lifted_id] at I3
    rw [hen] at z
    refine wpAny_pure ⟨σ', H2, I3, z σ' ?_ ?_⟩
    · rcases pw with ⟨rfl, rfl, rfl⟩ | ⟨_, pw⟩
      · exact q0
      · exact pw
    · rcases pw with ⟨rfl, rfl, rfl⟩ | ⟨hz, pw⟩
      · exact fun _ => rfl
      · exact fun z => by omega
  | some v =>
    obtain ⟨σ', Hw, x, H2, pv, gs, I3, rx, pw, y, slp, there, isg3, again⟩ := q
    rw [lifted_id] at I3
    rw [hyl] at y
    have p1 : Pv i σ' Hw := by
      rcases pw with ⟨rfl, rfl, rfl⟩ | ⟨_, pw⟩
      · exact q0
      · exact pw
    have p2 : i = 0 → σ' = σ := by
      rcases pw with ⟨rfl, rfl, rfl⟩ | ⟨hz, pw⟩
      · exact fun _ => rfl
      · exact fun z => by omega
    obtain ⟨og, _, _, ho, hc, hd, _⟩ := isg3
    refine go_of ho hc hd (by decide) ?_
    refine thnF (nightly slp there (hgt.run (pins ++ pv) (night s3) σ' H2 x v _ ((Inv_gens I3 (bare_night I3.bare)).wish _) rx (y σ' p1 p2))) fun _ s4 ⟨there4, D4, L4, σ4, H4, I4, q4⟩ => ?_
    have J4 : Inv X (pins ++ pv) σ4 H4 s4 := Inv_gens (s := { s4 with gens := D4 }) (D := s4.gens) (Inv.unwish I4) (like_bare L4 I4.bare)
    refine thnF (nightly slp there4 (hb.run (pins ++ pv) (night s4) σ4 H4 _ ((Inv_gens J4 (bare_night J4.bare)).wish _) q4)) fun f s5 ⟨there5, D5, L5, q5⟩ => ?_
    have back : ∀ {σ5 : L2.St} {H5 : Hp}, Inv X.nox (pins ++ pv) σ5 H5 { s5 with gens := D5 } → Inv X (pins ++ pv) σ5 H5 s5 := fun I5 => Inv_gens (s := { s5 with gens := D5 }) (D := s5.gens) (Inv.unwish I5) (like_bare L5 I5.bare)
    have more : ∀ {σ5 : L2.St} {H5 : Hp}, Inv X.nox (pins ++ pv) σ5 H5 { s5 with gens := D5 } → Pv (i + 1) σ5 H5 → ∃ m', m' < m ∧ ∃ i, i + m' = Mx + 2 ∧ i ≤ Mx ∧ Asks Cg X pins [] s1.heap H1 sc Pv yl en (Ex σ) (Mx + 2) a n i s5 := fun I5 p5 =>
      ⟨m - 1, by omega, i + 1, by omega, q1 _ _ _ p5, again s5 _ _ (back I5) p5 there5⟩
    cases f with
    | next => obtain ⟨σ5, H5, I5, p5⟩ := q5; exact more I5 p5
    | cont => obtain ⟨σ5, H5, I5, p5⟩ := q5; exact more I5 p5
    | brk => obtain ⟨σ5, H5, I5, p5⟩ := q5; exact ⟨σ5, H5, (back I5).unpinned, p5⟩
    | ret w => obtain ⟨x5, σ5, H5, I5, r5, p5⟩ := q5; exact ⟨x5, σ5, H5, (back I5).unpinned, r5, p5⟩
end
end HS
/-! [elt for target in f(..)] of such a generator def that raises nothing (behind genfor2.lean). -/
namespace HS
open PySem PySem.Spec PyProof.Rows L2 GenW
theorem cells_none {n : Nat} : ∀ (l : List (Str × NameKind)) (acc : List (Str × Addr)), (∀ y ∈ l, y.2 ≠ .cell) → cellsFrom n l acc = acc
  | [], _, _ => rfl
  | (x, kd) :: r, acc, h => by
    have hk : (kd == NameKind.cell) = false := beq_eq_false_iff_ne.mpr (h (x, kd) List.mem_cons_self)
    show (if (kd == NameKind.cell) = true then _ else cellsFrom n r acc) = acc
    rw [hk, if_neg Bool.false_ne_true]
    exact cells_none r acc fun y hy => h y (List.mem_cons_of_mem _ hy)
/-- the heap tracks the list D too -/
theorem hok_lst {P : Program} {w : World} {H : Hp} {h : Heap} {D : Addr} {cl : Nat} {acc : Array Value} {ys : List V} (hok : HOk P w H h) (n : H D = none) (e : h.get? D = some (lstObj acc cl)) (r : Vals ys acc.toList) (hl : ys.length ≤ sizeLine) : HOk P w (upd H D (.lst ys)) h := fun b u q => by
  by_cases hb : b = D
  · subst hb
    rw [upd_same] at q
    cases q
    exact ⟨hl, acc.toList, cl, r, by rw [e]⟩
  · rw [upd_ne hb] at q
    exact (hok b u q).stay (fun _ _ _ z => z) (fun d z => by rw [upd_ne (ne_of_none z n)]; exact z) fun d xs z => by rw [upd_ne (ne_of_none z n)]; exact z
section
variable {Cg : CXT} {X : Cx} {k : Nat}
def WantC (σ : L2.St) (g : TG) (tt : TT) (te : TE) (vs : List Nat) (Q : VK) (W : Addr → Nat → Hp → Prop) (H1 : Hp) (pr : Pr2) : Prop :=
  pr (fun i H2 => ∃ D, W D i H2) (fun i Hw x H2 => ∀ D, (i = 0 → Hw = H1 ∧ H1 D = none) → (1 ≤ i → W D i Hw) → g x (wipe σ vs) (lifted (fun H => upd H D (.lst [])) i H2) fun σ2 H3 => wipe σ2 vs = wipe σ vs ∧ tt σ2 H3 fun b H4 =>
      if b = true then te σ2 H4 fun y H5 => ∃ acc, H5 D = some (.lst acc) ∧ acc.length < sizeLine ∧ W D (i + 1) (upd H5 D (.lst (acc ++ [y]))) else W D (i + 1) H4)
    (fun i Hw H2 => ∀ D, (i = 0 → Hw = H1 ∧ H1 D = none) → (1 ≤ i → W D i Hw) → Q (.ref D) (lifted (fun H => upd H D (.lst [])) i H2)) fun _ _ _ => False
/-- W D i: the list is D, about to ask for the i-th item (i from 1 on) -/
def tLcG (tg : TGen2) (g : TG) (tt : TT) (te : TE) (vs : List Nat) : TE := fun σ H Q => tg σ H fun pr H1 => ∃ (Mx : Nat) (W : Addr → Nat → Hp → Prop), (∀ D i H, W D i H → i ≤ Mx ∧ ∃ acc, H D = some (.lst acc)) ∧ WantC σ g tt te vs Q W H1 pr
/-- the block, from the call on -/
theorem blk_start {pins : List (Addr × Obj)} {σ : L2.St} {H1 : Hp} {sc s3 : Shared} {scope : Scope} {own : List (Str × Nat)} (I1 : Inv X pins σ H1 sc) (I3 : Inv X pins σ H1 s3) (kp : ∀ b o, sc.heap.get? b = some o → s3.heap.get? b = some o) (le : sc.heap.objs.size ≤ s3.heap.objs.size) (ok : BlkOk X.N X.env.scope scope own) (hN : X.N.Nodup) :
    Inv (X.blk sc H1 scope (compEnvC scope (cellsFrom (s3.heap.objs.size + 1) scope.names (cloFrom X.env.cells scope.names [])) s3.heap.objs.size X.env) []) [] (wipe σ (own.map (·.2))) H1 { s3 with heap := pushCells (s3.heap.push { cls := .type "dict", data := .dict #[] }) scope.names } := by
  have I4 := block_start (fp := []) I3 ok hN fun b hb => absurd hb List.not_mem_nil
  exact ⟨⟨I4.ok.mod, I4.ok.kind, I4.ok.glob, I4.ok.blt, Nat.le_trans le I4.ok.above, I4.ok.inj, I4.ok.has, fun x c hf e => Nat.le_trans le (I4.ok.cab x c hf e), I4.ok.hd, I4.ok.frames, I4.ok.stk, I4.ok.exf, fun b o e => I1.bs b o e, Nat.le_trans I1.ok.bsz I1.sz, I4.ok.noex, I4.ok.exfs, I1.stack, I4.ok.frf⟩,
    by rw [I4.os]; show s3.os = sc.os; rw [I3.os, I1.os], I4.bare, Un.kept fun b o e => pushCells_keeps _ _ _ _ (Heap.get?_push_of_some _ (kp b o e)), I4.loc, I4.cell, I4.free, I4.freeC, I4.pin, I4.hok, I4.len⟩
theorem pe_lcG {elt tgt e : Expr} {ifs : List Expr} {scope : Scope} {own : List (Str × Nat)} {pos : Pos} {tg : TGen2} {g : TG} {tt : TT} {te : TE} (hr : Room (k + 1) X.A) (hN : X.N.Nodup) (hgen : PGen2 Cg X k e tg) (hCg : ∀ o H s e t, ¬ Cg o H s (fun _ _ _ => False) e t) (ok : BlkOk X.N X.env.scope scope own) (noc : ∀ y ∈ scope.names, y.2 ≠ .cell)
    (hg : ∀ (s : Shared) (H : Hp) (C : Addr) (cl : List (Str × Addr)) (fp : List Addr), PG (X.blk s H scope (compEnvC scope cl C X.env) fp) tgt g) (ht : ∀ (s : Shared) (H : Hp) (C : Addr) (cl : List (Str × Addr)) (fp : List Addr), PTs (X.blk s H scope (compEnvC scope cl C X.env) fp) ifs tt) (he : ∀ (s : Shared) (H : Hp) (C : Addr) (cl : List (Str × Addr)) (fp : List Addr), PE (X.blk s H scope (compEnvC scope cl C X.env) fp) elt te) (hs : ∀ x, foldedSetIterable e X.env x = pure x := by intro _; rfl) :
    PE X (.ListComp elt [⟨tgt, e, ifs, 0⟩] scope pos) (tLcG tg g tt te (own.map (·.2))) := by
  constructor
  intro pins s σ H Q I h
  rw [eval_ListComp]
  have fr : ∀ y ∈ scope.names, y.2 = .free → ∃ c, X.env.cells.lookup y.1 = some c := fun y hy z => (ok.free y hy z).elim (fun k => I.ok.has _ (.inl k)) fun k => I.ok.has _ (.inr k)
  refine wpAny_comprehension_free (use := none) rfl hs (closure_ok fr) ok.kind (fun y hy z => by rw [ok.uniq y hy, z]) (thn (hgen.run pins s σ H _ (fun H1 ry yl en E' => ∃ (Mx : Nat) (W : Addr → Nat → Hp → Prop), (∀ D i H, W D i H → i ≤ Mx ∧ ∃ acc, H D = some (.lst acc)) ∧ WantC σ g tt te (own.map (·.2)) Q W H1 fun a b c d => ry = a ∧ yl = b ∧ en = c ∧ E' = d) (fun pr H1 ⟨Mx, W, q0, q1⟩ => ⟨_, _, _, _, q1, Mx, W, q0, rfl, rfl, rfl, rfl⟩) I h) fun u s1 ⟨H1, sc, ry, yl, en, E', I1, ⟨Mx, W, q0, q1⟩, made⟩ => ?_)
  obtain ⟨hry, hyl, hen, rfl⟩ := q1
  obtain ⟨a, n, c, rfl, ha1, ha2, isg, fresh, os1, bare1, lim1, kp1, wake⟩ := made
  have Is : Inv X pins σ H1 s1 := I1.call' (ch := []) os1 (Un.kept kp1) (I1.hok.kept kp1) bare1 fun b z => by simp at z
  refine wpAny_pyIter_gen isg ?_
  refine wpAny_newObj_type (newEnv_comp ?_) (by (show 0 ≤ sizeLine); decide)
  generalize hD : s1.heap.objs.size = D
  have LD : sc.heap.objs.size ≤ D := by rw [← hD]; exact Nat.le_trans ha1 (Nat.le_of_lt ha2)
  generalize hs3 : ({ s1 with heap := s1.heap.push { cls := .type "list", data := .seq ([] : List Value).toArray } } : Shared) = s3
  have e3 : s3.heap = s1.heap.push { cls := .type "list", data := .seq ([] : List Value).toArray } := by rw [← hs3]
  have g3 : s3.gens = s1.gens := by rw [← hs3]
  have o3 : s3.os = s1.os := by rw [← hs3]
  have I3 : Inv X pins σ H1 s3 := by rw [← hs3]; exact Is.kept (t' := s1.toks) fun b o z => Heap.get?_push_of_some _ z
  have k3 : ∀ b o, s1.heap.get? b = some o → s3.heap.get? b = some o := fun b o z => by rw [e3]; exact Heap.get?_push_of_some _ z
  have d3 : s3.heap.get? D = some { cls := .type "list", data := .seq ([] : List Value).toArray } := by rw [e3, ← hD]; exact Heap.get?_push_size _ rfl
  have D3 : D < s3.heap.objs.size := Heap.lt_size d3
  have I4 := blk_start I1 I3 (fun b o z => k3 b o (kp1 b o z)) (Nat.le_trans LD (Nat.le_of_lt D3)) ok hN
  have cellsX : ∀ y cc, (cellsFrom (s3.heap.objs.size + 1) scope.names (cloFrom X.env.cells scope.names [])).lookup y = some cc → X.env.cells.lookup y = some cc := fun y cc z => by
    rw [cells_none _ _ noc] at z
    rcases cloFrom_mem (PySem.mem_of_lookup z) with hm | ⟨z1, rfl⟩
    · cases hm
    · obtain ⟨c', hc'⟩ := fr _ z1 rfl
      rw [hc']
      rfl
  have pg := fun (A0 : Shared) => hg A0 H1 s3.heap.objs.size (cellsFrom (s3.heap.objs.size + 1) scope.names (cloFrom X.env.cells scope.names [])) []
  have pt := fun (A0 : Shared) => ht A0 H1 s3.heap.objs.size (cellsFrom (s3.heap.objs.size + 1) scope.names (cloFrom X.env.cells scope.names [])) []
  have pe := fun (A0 : Shared) => he A0 H1 s3.heap.objs.size (cellsFrom (s3.heap.objs.size + 1) scope.names (cloFrom X.env.cells scope.names [])) []
  (show codeAny _ _ (.compStart (.ListComp elt [⟨tgt, e, ifs, 0⟩] scope pos) 0 (.ref a) (.ref D) (compEnvC scope (cellsFrom (s3.heap.objs.size + 1) scope.names (cloFrom X.env.cells scope.names [])) s3.heap.objs.size X.env)) (compPost (model X.prog X.w) X.A X.xe none (EP X pins σ Q) (.ref D) s3.heap.objs.size) { s3 with heap := pushCells (s3.heap.push { cls := .type "dict", data := .dict #[] }) scope.names })
  generalize hce : compEnvC scope (cellsFrom (s3.heap.objs.size + 1) scope.names (cloFrom X.env.cells scope.names [])) s3.heap.objs.size X.env = ce at I4 pg pt pe ⊢
  have cL : ce.locals = s3.heap.objs.size := by subst hce; rfl
  have cC : ∀ y cc, ce.cells.lookup y = some cc → X.env.cells.lookup y = some cc := by subst hce; exact cellsX
  have k4 : ∀ b o, s3.heap.get? b = some o → (pushCells (s3.heap.push { cls := .type "dict", data := .dict #[] }) scope.names).get? b = some o := fun b o z => pushCells_keeps _ _ _ _ (Heap.get?_push_of_some _ z)
  generalize hs4 : ({ s3 with heap := pushCells (s3.heap.push { cls := .type "dict", data := .dict #[] }) scope.names } : Shared) = s4 at I4 ⊢
  have e4 : s4.heap = pushCells (s3.heap.push { cls := .type "dict", data := .dict #[] }) scope.names := by rw [← hs4]
  have g4 : s4.gens = s1.gens := by rw [← hs4, ← g3]
  have o4 : s4.os = sc.os := by rw [← os1, ← o3, ← hs4]
  have k14 : ∀ b o, s1.heap.get? b = some o → s4.heap.get? b = some o := fun b o z => by rw [e4]; exact k4 b o (k3 b o z)
  have d4 : s4.heap.get? D = some { cls := .type "list", data := .seq ([] : List Value).toArray } := by rw [e4]; exact k4 _ _ d3
  have DC : D ≠ s3.heap.objs.size := Nat.ne_of_lt D3
  generalize hC : s3.heap.objs.size = C at cL DC ⊢
  have LC : sc.heap.objs.size ≤ C := by rw [← hC]; exact Nat.le_trans LD (Nat.le_of_lt D3)
  obtain ⟨m4, ⟨oC, esC, epC, hoC, hdC, hrC⟩, lk4⟩ := id I4.loc
  have hoC : s4.heap.get? ce.locals = some oC := hoC
  rw [cL] at hoC
  have cellL : ∀ y cc, ce.cells.lookup y = some cc → cc < sc.heap.objs.size := fun y cc z => by
    obtain ⟨v, o, ho, _⟩ := I1.cell y cc (cC y cc z)
    exact Heap.lt_size ho
  have stkL : ∀ b ∈ frs X.stack, b < sc.heap.objs.size := fun b hb => by
    obtain ⟨_, o, z, _⟩ := I1.stack.mem hb
    exact Heap.lt_size z
  have ap : Apt (X.blk sc H1 scope ce []) [] [C, D] s4.heap H1 sc (fun i σ'' H => σ'' = wipe σ (own.map (·.2)) ∧ W D i H) (wipe σ (own.map (·.2))) (fun H => upd H D (.lst [])) := by
    refine ⟨rfl, .inr (by show ce.locals ∈ _; rw [cL]; exact List.mem_cons_self), fun b hb _ => ⟨.inr hb, fun x cc z => Nat.ne_of_lt (Nat.lt_of_lt_of_le (cellL x cc z) hb), fun p hp => absurd (show p ∈ ([] : List (Addr × Obj)) from hp) List.not_mem_nil⟩, stkL, fun i σ' H' s' I' w' b hb o ho v z => ?_, fun H2 t ot bt hok un kp => ?_⟩
    · rcases List.mem_cons.mp hb with rfl | hb
      · obtain ⟨m, ⟨o', es, ep, ho', hd', _⟩, _⟩ := I'.loc
        have ho' : s'.heap.get? ce.locals = some o' := ho'
        rw [cL, ho] at ho'
        cases ho'
        rw [hd'] at z; cases z
      · rw [List.mem_singleton.mp hb] at ho
        obtain ⟨acc, hacc⟩ := (q0 _ _ _ w'.2).2
        obtain ⟨_, its, cn, _, z'⟩ := I'.hok D _ hacc
        rw [ho] at z'
        cases z'; cases z
    · have J1 : Inv X pins σ H2 t := I1.call' (ch := []) ot un hok bt fun b z => by simp at z
      obtain ⟨c1, c2⟩ := kp (C, oC) (to_xpins List.mem_cons_self hoC (I1.hok.fresh LC))
      obtain ⟨dd1, dd2⟩ := kp (D, _) (to_xpins (List.mem_cons_of_mem _ (List.mem_singleton.mpr rfl)) d4 (I1.hok.fresh LD))
      have cells : ∀ x cc v, ce.cells.lookup x = some cc → s4.heap.IsCell cc v → t.heap.IsCell cc v := fun x cc v z ⟨o, ho, hd⟩ => by
        obtain ⟨_, o', ho', _⟩ := I1.cell x cc (cC x cc z)
        have z4 := k14 _ _ (kp1 _ _ ho')
        rw [ho] at z4
        cases z4
        obtain ⟨sl, z5⟩ := un.any ho' (I1.freeC x cc (cC x cc z)) List.not_mem_nil
        exact ⟨_, z5, hd⟩
      have J : Inv (X.blk sc H1 scope ce []) [] (wipe σ (own.map (·.2))) H2 t := by
        refine ⟨I4.ok, ot, bt, un, ⟨m4, ⟨oC, esC, epC, by show t.heap.get? ce.locals = _; rw [cL]; exact c1, hdC, hrC⟩, fun i x v h1 h2 h3 => ?_⟩, fun x cc z => ?_, by show H2 ce.locals = none; rw [cL]; exact c2, fun x cc z => J1.freeC x cc (cC x cc z), fun p hp => absurd (show p ∈ ([] : List (Addr × Obj)) from hp) List.not_mem_nil, hok, I4.len⟩
        · obtain ⟨u, r, l⟩ := lk4 i x v h1 h2 h3
          refine ⟨u, r, l.elim .inl fun z => .inr ?_⟩
          obtain ⟨kd, cc, z1, z2⟩ := z
          exact ⟨kd, cc, z1, cells _ _ _ z1 z2⟩
        · obtain ⟨v, z1⟩ := I4.cell x cc z
          exact ⟨v, cells _ _ _ z z1⟩
      refine J.call' (ch := [D]) rfl ⟨fun b o z _ _ _ => z, fun b o z _ _ _ => ⟨o.slots, z⟩, fun b o z n hb => ?_, fun b o z _ => ⟨o, z⟩, fun b xs z => ?_, fun b o u z => ?_, fun b ps z => ⟨#[], ?_⟩⟩ (hok_lst hok dd2 dd1 .nil (Nat.zero_le _)) bt fun b hb => ?_
      · rw [upd_ne (fun z => hb (List.mem_singleton.mpr z))]; exact n
      · rw [upd_ne (ne_of_none z dd2)]; exact z
      · rw [upd_ne (ne_of_none z dd2)]; exact z
      · rw [upd_ne (ne_of_none z dd2), Array.append_empty]; exact z
      · rw [List.mem_singleton.mp hb]
        exact ⟨.inr LD, by show D ≠ ce.locals; rw [cL]; exact DC, fun x cc z => Nat.ne_of_lt (Nat.lt_of_lt_of_le (cellL x cc z) LD), fun p hp => absurd (show p ∈ ([] : List (Addr × Obj)) from hp) List.not_mem_nil⟩
  have isg4 : s4.heap.IsGen a n := by
    obtain ⟨o, nm, qn, z1, z2⟩ := isg
    exact ⟨o, nm, qn, k14 _ _ z1, z2⟩
  have loop : codeAny (model X.prog X.w) X.A (.compLoop (.ListComp elt [⟨tgt, e, ifs, 0⟩] scope pos) 0 (.ref a) (.ref D) ce) (compPost (model X.prog X.w) X.A X.xe none (EP X pins σ Q) (.ref D) C) s4 := by
    refine compLoop_any (fun m s' => ∃ i, i + m = Mx + 2 ∧ i ≤ Mx ∧ Asks Cg (X.blk sc H1 scope ce []) [] [C, D] s4.heap H1 sc (fun i σ'' H => σ'' = wipe σ (own.map (·.2)) ∧ W D i H) yl en (fun _ _ _ => False) (Mx + 2) a n i s') ?_ (Mx + 2) ⟨0, Nat.zero_add _, Nat.zero_le _, I4.nolimit, o4, fun _ => rfl, isg4, .fresh c, by rw [g4]; exact fresh, rfl, ?_⟩
    rotate_left
    · refine wake X.A.in1 [C, D] _ (Mx + 2) (s4.setGen n .running) hr.in1 I1.ok.frames (fun b hb => ?_) (fun i s5 H5 z => by rw [hry]; obtain ⟨σ', _, _, z⟩ := z; exact ⟨D, z⟩) k14 o4 (allBare_setGen (by rw [g4]; exact bare1) rfl) (by omega)
      rcases List.mem_cons.mp hb with rfl | hb
      · exact ⟨by rw [← hC, e3, Heap.size_push]; exact Nat.le_succ _, oC, hoC, fun v z => by rw [hdC] at z; cases z⟩
      · rw [List.mem_singleton.mp hb]
        exact ⟨Nat.le_of_eq hD, _, d4, fun v z => by cases z⟩
    rintro m s5 ⟨i, hm, hi, ask⟩
    refine thnF (asks_next (X := X.blk sc H1 scope ce []) (Er := fun _ _ => False) ap (fun H b _ nx z => by rw [upd_ne (fun w => nx (by rw [w]; exact List.mem_cons_of_mem _ (List.mem_singleton.mpr rfl)))]; exact z) hr.hd hr.depth (by omega) ask fun x t cx => ?_) fun r s6 q => ?_
    · exact (hCg _ _ _ _ _ cx).elim
    cases r with
    | none =>
      obtain ⟨σ', Hw, H2, I6, pw, z⟩ := q
      rw [hen] at z
      have z' : Q (.ref D) (lifted (fun H => upd H D (.lst [])) i H2) := z D (fun hz => by
        rcases pw with ⟨_, _, w1⟩ | ⟨w1, _⟩
        · exact ⟨w1, I1.hok.fresh LD⟩
        · omega) fun hz => by
        rcases pw with ⟨w1, _⟩ | ⟨_, w2⟩
        · omega
        · exact w2.2
      generalize lifted (fun H => upd H D (.lst [])) i H2 = H6 at I6 z'
      have I7 : Inv X pins σ H6 s6 := I1.call' (ch := []) I6.os I6.base I6.hok I6.bare fun b z => by simp at z
      have nC : H6 C = none := by have z : H6 ce.locals = none := I6.free; rw [cL] at z; exact z
      obtain ⟨m6, hn, _⟩ := I6.loc
      have hn : s6.heap.Ns ce.locals m6 := hn
      rw [cL] at hn
      obtain ⟨f0, f1, f2, f3, f4, f5⟩ := I1.fpOk LC nC
      exact ⟨m6, hn, fun h6 sb => ⟨.ref D, H6, I7.turned (t' := s6.toks) (fun b o hb z => (sb.2 b hb).trans z) f0 f1 f3 f4 f5, rfl, z'⟩⟩
    | some v =>
      obtain ⟨σ', Hw, x, H2, pv, gs, I6, rx, pw, y, slp, there, isg6, again⟩ := q
      rw [hyl] at y
      have eσ : σ' = wipe σ (own.map (·.2)) := by
        rcases pw with ⟨_, z, _⟩ | ⟨_, z, _⟩
        · exact z
        · exact z
      subst eσ
      have y := y D (fun hz => by
        rcases pw with ⟨_, _, w1⟩ | ⟨w1, _⟩
        · exact ⟨w1, I1.hok.fresh LD⟩
        · omega) fun hz => by
        rcases pw with ⟨w1, _⟩ | ⟨_, w2⟩
        · omega
        · exact w2.2
      generalize lifted (fun H => upd H D (.lst [])) i H2 = H6 at I6 y
      obtain ⟨og, _, _, ho, hc, hd, _⟩ := isg6
      refine go_of ho hc hd (by decide) ?_
      refine thnF (nightly slp there ((pg sc).run ([] ++ pv) (night s6) _ H6 x v _ (Inv_gens I6 (bare_night I6.bare)) rx y)) fun _ s7 ⟨there7, D7, L7, σ7, H7, I7, hw7, q7⟩ => ?_
      have J7 : Inv (X.blk sc H1 scope ce []) ([] ++ pv) σ7 H7 s7 := Inv_gens (s := { s7 with gens := D7 }) (D := s7.gens) I7 (like_bare L7 I7.bare)
      refine thnF (nightly slp there7 ((pt sc).run ([] ++ pv) (night s7) σ7 H7 _ (Inv_gens J7 (bare_night J7.bare)) q7)) fun b s8 ⟨there8, D8, L8, H8, I8, q8⟩ => ?_
      have J8 : Inv (X.blk sc H1 scope ce []) ([] ++ pv) σ7 H8 s8 := Inv_gens (s := { s8 with gens := D8 }) (D := s8.gens) I8 (like_bare L8 I8.bare)
      have fin : ∀ {s' : Shared} {H' : Hp}, Inv (X.blk sc H1 scope ce []) ([] ++ pv) σ7 H' s' → W D (i + 1) H' → s'.gens[n]? = some gs → ∃ m', m' < m ∧ ∃ i, i + m' = Mx + 2 ∧ i ≤ Mx ∧ Asks Cg (X.blk sc H1 scope ce []) [] [C, D] s4.heap H1 sc (fun i σ'' H => σ'' = wipe σ (own.map (·.2)) ∧ W D i H) yl en (fun _ _ _ => False) (Mx + 2) a n i s' := fun {s' H'} I' w' t' => by
        have ll : (wipe σ (own.map (·.2))).length = σ7.length := by rw [← hw7, wipe_length]
        exact ⟨m - 1, by omega, i + 1, by omega, (q0 _ _ _ w').1, again s' _ H' (I'.weak ll fun j v z => by rw [← hw7] at z; exact (wipe_some z).1) ⟨rfl, w'⟩ t'⟩
      cases b with
      | false =>
        simp only [Bool.false_eq_true, if_false] at q8 ⊢
        exact fin J8 q8 there8
      | true =>
        simp only [if_true] at q8 ⊢
        refine thnF (nightly slp there8 ((pe sc).run ([] ++ pv) (night s8) σ7 H8 _ (Inv_gens J8 (bare_night J8.bare)) q8)) fun z s9 ⟨there9, D9, L9, yv, H9, I9, r9, acc, hD9, hz9, nx⟩ => ?_
        have J9 : Inv (X.blk sc H1 scope ce []) ([] ++ pv) σ7 H9 s9 := Inv_gens (s := { s9 with gens := D9 }) (D := s9.gens) I9 (like_bare L9 I9.bare)
        refine thnF (nightly slp there9 (app_ok (X := X.blk sc H1 scope ce []) (s := night s9) (Q := fun _ s' => Inv (X.blk sc H1 scope ce []) ([] ++ pv) σ7 (upd H9 D (.lst (acc ++ [yv]))) s') (Inv_gens J9 (bare_night J9.bare)) hD9 hz9 r9 fun s' I' => I')) fun _ s10 ⟨there10, D10, L10, I10⟩ => ?_
        exact fin (Inv_gens (s := { s10 with gens := D10 }) (D := s10.gens) I10 (like_bare L10 I10.bare)) nx there10
  refine codeAny_compStart_list loop (wpAny_pyIter_gen isg4 loop)
end
theorem noCX {P : Program} {w : World} : ∀ (o : List Env) (H : Hp) (s : Shared) (e : Value) (t : Shared), ¬ L2.CX P w o H s (fun _ _ _ => False) e t := fun _ _ _ _ _ c => by obtain ⟨_, _, _, _, _, _, _, _, _, _, _, _, z⟩ := c; exact z
end HS
/-! Generator defs that raise: what leaves them is taken (behind genfor2.lean; for both kinds of exceptions). -/
namespace HS
open PySem PySem.Spec PyProof.Rows L2 GenW
/-- the twin of the kit's leaveG for exceptions whose context is None -/
theorem leaveGN {X : Cx} {W : WX} {E : XK} {t : Shared} (st : X.stack = X.env :: X.outer) (fe : X.env.frame = some X.env.locals) (ne : X.ex = []) {F : Value → Shared → Prop} (imp : ∀ cls d σ H, W cls d σ H → E cls d H) {u : Value} (x : L2N.XE X W u t) :
    wpAny (model X.prog X.w) X.A (leaving X.env u) (fun _ t' => L2N.CX X.prog X.w X.outer X.H_0 X.s_0 E u t' ∧ ∀ p ∈ X.pn, t'.heap.get? p.1 = some p.2) F t := by
  obtain ⟨a, G, sI, pins, σ, H, cls, d, rfl, I, keep, ups, sky, free, os, bare, w⟩ := x
  have frames : X.A.frames = some (X.env :: X.outer) := by rw [I.ok.frames, st]
  have noex : ∀ b, b ∉ X.ex := fun b z => by rw [ne] at z; cases z
  have old : ∀ b o, X.s_0.heap.get? b = some o → b ∉ X.fs → b ∉ frs X.stack := fun b o e nf z => (List.mem_cons.mp (I.stkSub b z)).elim (fun z => absurd (Nat.lt_of_lt_of_le (show X.env.locals < _ from z ▸ Heap.lt_size e) I.ok.above) (Nat.lt_irrefl _)) nf
  have pins' : ∀ p ∈ X.pn, G.get? p.1 = some p.2 := fun p hp => by
    obtain ⟨e, _, n1, n2, _⟩ := I.pin p (List.mem_append_left _ hp)
    exact keep p.1 p.2 e fun z => (List.mem_cons.mp (I.stkSub p.1 z)).elim n1 n2
  have ground := I.inGround keep
  have done : ∀ h', HandSPX.FlyingZ G X.outer a (L2N.Zn cls d) h' → t.heap.UpToSlots h' → (L2N.CX X.prog X.w X.outer X.H_0 X.s_0 E (.ref a) { t with heap := h' } ∧ ∀ p ∈ X.pn, ({ t with heap := h' } : Shared).heap.get? p.1 = some p.2) := fun h' fl up => by
    refine ⟨⟨a, G, H, cls, d, rfl, fl, ground, ⟨fun b o e n nf => keep b o (I.base.keep b o e n nf (noex b)) (old b o e nf), fun b o e hb => ?_, fun b o e n => I.base.free b o e n (noex b), fun b o e nf => ?_, I.base.tups, I.base.frzs, I.base.tbls⟩, free, os.trans I.os, bare, imp _ _ _ _ w⟩, fun p hp => fl.1 p.1 p.2 (pins' p hp)⟩
    · obtain ⟨_, o1, e1, fn⟩ := I.ok.funs.mem hb
      rw [e] at e1; cases e1
      obtain ⟨l1, z1⟩ := I.base.slot b o e (I.ok.frf b hb) hb (noex b)
      obtain ⟨l2, z2⟩ := ups b _ z1 fn
      obtain ⟨l3, z3⟩ := up b _ z2 fn
      exact ⟨l3, z3⟩
    · obtain ⟨o1, z1⟩ := I.base.there b o e (noex b)
      exact ⟨o1, keep b o1 z1 (old b o e nf)⟩
  rw [st] at sky
  rcases sky with ⟨hB, hn, hl, oe, vs, he, hz, hd, h1⟩ | fl | held
  · exact PXN.leaving_firstZ L2N.Zn.steady frames hl fe he hB hn hd h1 hz done
  · exact PXN.leaves_onZ L2N.Zn.steady frames fe fl done
  · exact HandSPX.leaves_heldZ fe held done
section
variable {P : Program} {w : World} {K : PySem.W.Frag} {mg : Str → Option Value} {base : Heap} {N : List Str} {qual : Str} {scope : Scope} {f : Addr} {cd : Value} {A : Around} {outer : List Env} {s : Shared} {H : Hp} {E : XK} {pn : List (Addr × Obj)}
theorem takesG : L2.Takes (gcxC (L2.CX P w) P w K mg base N qual scope f cd A outer s H E pn) (fun cls d _ H' => E cls d H') := takes_gcx
theorem takesGN : L2N.Takes (gcxC (L2N.CX P w) P w K mg base N qual scope f cd A outer s H E pn) (fun cls d _ H' => E cls d H') := fun u t x =>
  leaveGN (X := gcxC (L2N.CX P w) P w K mg base N qual scope f cd A outer s H E pn) (W := fun cls d _ H' => E cls d H') (E := E) rfl rfl rfl (fun _ _ _ _ h => h) x
end
section
variable {X : Cx}
theorem notStopN {P : Program} {w : World} {K : PySem.W.Frag} {outer : List Env} {H : Hp} {s t : Shared} {E : XK} {e : Value} (hE : NoStop K E) (kin : K.In t.heap) (c : L2N.CX P w outer H s E e t) : NotStop (model P w) e t.heap := by
  obtain ⟨a, G, H', cls, d, rfl, fl, _, _, _, _, _, q⟩ := c
  obtain ⟨oe, vs, he, hz, hd⟩ := fl.there
  have sub := PySem.W.looks_subIn (M := model P w) kin (hE cls d H' q)
  intro A Q F s2 hs hq
  simp only [isInstance]
  exact wpAny_bind (wpAny_typeOf_ref (o := oe) (by rw [hs]; exact he) (by rw [hz.1]; exact sub A Q F s2 (fun b o z => by rw [hs]; exact z) hq))
theorem failsAtN {Ex : L2.St → XK} (hx : ∀ σ, PassesAt (L2N.CX X.prog X.w) X σ (Ex σ)) (hns : ∀ σ, NoStop X.K (Ex σ)) : FailsAt (L2N.CX X.prog X.w) X Ex := fun pins σ H1 sc g e t I1 c => by
  obtain ⟨a, G, H', cls, d, z1, fl, z2, ub, z3, z4, z5, z6⟩ := id c
  have kin : X.K.In t.heap := I1.ok.mod.kin.keeps fun b o eb => fl.1 b o (ub.keep b o (I1.bs b o eb).1 (I1.bs b o eb).2 fun hm => (List.mem_cons.mp (I1.stkSub b hm)).elim (fun z => absurd (Nat.lt_of_lt_of_le (show X.env.locals < _ from z ▸ Heap.lt_size eb) (Nat.le_trans I1.ok.bsz I1.ok.above)) (Nat.lt_irrefl _)) (I1.ok.nofr eb))
  exact ⟨notStopN (hns σ) kin c, hx σ pins H1 sc e _ I1 ⟨a, G, H', cls, d, z1, fl, z2, ub, z3, z4, allBare_setGen z5 rfl, z6⟩⟩
theorem no_failsN : FailsAt (L2N.CX X.prog X.w) X fun _ _ _ _ => False := fun _ _ _ _ _ _ _ _ c => by obtain ⟨_, _, _, _, _, _, _, _, _, _, _, _, z⟩ := c; exact z.elim
theorem noCXN {P : Program} {w : World} : ∀ (o : List Env) (H : Hp) (s : Shared) (e : Value) (t : Shared), ¬ L2N.CX P w o H s (fun _ _ _ => False) e t := fun _ _ _ _ _ c => by obtain ⟨_, _, _, _, _, _, _, _, _, _, _, _, z⟩ := c; exact z
/-- and it is no StopIteration -/
def NsE (K : PySem.W.Frag) (Ex : L2.St → XK) : L2.St → XK := fun σ cls d H => Ex σ cls d H ∧ PySem.W.subIn K cls (.type "StopIteration") = some false
theorem failsAtS {Ex : L2.St → XK} (K : PySem.W.Frag) (hx : ∀ σ, PassesAt (L2.CX X.prog X.w) X σ (Ex σ)) (hK : X.K = K := by rfl) : FailsAt (L2.CX X.prog X.w) X (NsE K Ex) :=
  failsAt (fun σ pins H s e t I c => hx σ pins H s e t I (by obtain ⟨a, G, H', cls, d, z1, fl, z2, ub, z3, z4, z5, z6⟩ := c; exact ⟨a, G, H', cls, d, z1, fl, z2, ub, z3, z4, z5, z6.1⟩)) fun σ cls d H z => hK ▸ z.2
theorem failsAtSN {Ex : L2.St → XK} (K : PySem.W.Frag) (hx : ∀ σ, PassesAt (L2N.CX X.prog X.w) X σ (Ex σ)) (hK : X.K = K := by rfl) : FailsAt (L2N.CX X.prog X.w) X (NsE K Ex) :=
  failsAtN (fun σ pins H s e t I c => hx σ pins H s e t I (by obtain ⟨a, G, H', cls, d, z1, fl, z2, ub, z3, z4, z5, z6⟩ := c; exact ⟨a, G, H', cls, d, z1, fl, z2, ub, z3, z4, z5, z6.1⟩)) fun σ cls d H z => hK ▸ z.2
end
end HS
/-! range(i, j) of any size, walked. -/
namespace HS
open PySem PySem.Spec PyProof.Rows L2
theorem turn_long {P : Program} {w : World} {K : PySem.W.Frag} {tg : Expr} (it : Addr) (lo : Int) (n : Nat) : Turn P w K tg (Itr lo n) [it] it (fun i h => IsLongIter h it (lo + (i : Nat) * 1) ((n : Int) - (i : Nat)) 1) where
  mem := List.mem_singleton.mpr rfl
  obj := fun i h st b hb => by
    rw [List.mem_singleton.mp hb]
    exact ⟨_, st, fun v z => by cases (show Data.fields _ = Data.cell v from z)⟩
  keep := fun i h h' st kp => kp it (List.mem_singleton.mpr rfl) _ st
  item := by
    intro X hP hw hK hc i pins s σ H E I hf st hg
    subst hP hw hK
    obtain ⟨g0, g1, g2, g3, g4, g5⟩ := hf it (List.mem_singleton.mpr rfl)
    refine (Walks.longrange (prog := X.prog) (w := X.w) (I.ok.hd hc) it lo 1 n).item i s _ _ hg st fun v h' tk hv st' kk => ?_
    obtain ⟨t, rfl⟩ := hv
    refine ⟨_, rfl, go_of (s := { s with heap := h', toks := tk }) (n := "longrange_iterator") st' rfl rfl (by decide) ⟨.int (lo + i), H, I.turned (fun b o hb e => kk b o (fun z => hb (List.mem_singleton.mp z)) e) g0 g1 g3 g4 g5, ⟨t, ?_⟩, ⟨rfl, rfl⟩, st', fun b hb => (hf b hb).1⟩⟩
    rw [Int.mul_one]
  done := by
    intro X hP hw hK hc i pins s σ H E I hf st hg
    subst hP hw hK
    obtain ⟨g0, g1, g2, g3, g4, g5⟩ := hf it (List.mem_singleton.mpr rfl)
    exact wpAny_pyNext_long_end (I.ok.hd hc) st (by have : n ≤ i := hg; omega) fun h1 eb => ⟨rfl, I.turned (t' := s.toks) (fun b o hb e => eb b o hb e) g0 g1 g3 g4 g5⟩
  self := fun _ _ _ _ _ st h => wpAny_pyIter_longiter st h
section
variable {X : Cx} {tg : Expr}
theorem range_any {pins : List (Addr × Obj)} {σ : L2.St} {H : Hp} {s : Shared} {R : It → Hp → Prop} {E : Value → Shared → Prop} {lo hi : Int} {t u v : Tok} {tk : Nat} (I : Inv X pins σ H s)
    (q : R (Itr lo (hi - lo).toNat) H) : wpAny (model X.prog X.w) X.A (pyIter (.ref s.heap.objs.size)) (PIE X pins σ tg R) E { s with heap := s.heap.push { cls := .type "range", data := .fields #[.int lo t, .int hi u, .int 1 v] }, toks := tk } := by
  have e1 : lo + ((0 : Nat) : Int) * 1 = lo := by simp
  have e2 : (((hi - lo).toNat : Nat) : Int) - ((0 : Nat) : Int) = Builtin.Range.rangeSize lo hi 1 := by rw [rangeSize_one]; split <;> omega
  generalize hs1 : ({ s with heap := s.heap.push { cls := .type "range", data := .fields #[.int lo t, .int hi u, .int 1 v] }, toks := tk } : Shared) = s1
  have I1 : Inv X pins σ H s1 := by rw [← hs1]; exact I.kept fun b o e => Heap.get?_push_of_some _ e
  have r1 : IsRange s1.heap s.heap.objs.size lo hi 1 t u v := by rw [← hs1]; exact IsRange.new ..
  have fp : ∀ b ∈ [s1.heap.objs.size], FpOk X pins H b := fun b hb => by
    rw [List.mem_singleton.mp hb]
    exact I1.fpOk (Nat.le_refl _) (I1.hok.fresh (Nat.le_refl _))
  by_cases hsm : Builtin.Range.small lo hi 1 = true
  · refine wpAny_pyIter_range r1 hsm ⟨s1.heap.objs.size, [s1.heap.objs.size], _, _, H, rfl, I1.kept (t' := s1.toks) fun b o e => Heap.get?_push_of_some _ e, turn_range _ lo (hi - lo).toNat, ?_, fp, q⟩
    show IsRangeIter _ _ (lo + ((0 : Nat) : Int) * 1) ((((hi - lo).toNat : Nat) : Int) - ((0 : Nat) : Int)) 1
    rw [e1, e2]; exact Heap.get?_push_size _ rfl
  · refine wpAny_pyIter_longrange r1 (Bool.not_eq_true _ ▸ hsm) ⟨s1.heap.objs.size, [s1.heap.objs.size], _, _, H, rfl, I1.kept (t' := s1.toks) fun b o e => Heap.get?_push_of_some _ e, turn_long _ lo (hi - lo).toNat, ?_, fp, q⟩
    show IsLongIter _ _ (lo + ((0 : Nat) : Int) * 1) ((((hi - lo).toNat : Nat) : Int) - ((0 : Nat) : Int)) 1
    rw [e1, e2]; exact Heap.get?_push_size _ rfl
def iRngA (ta : TA) : TI := fun σ H R => ta σ H fun vs H1 => ∃ i j : Int, vs = [.int i, .int j] ∧ R (Itr i (j - i).toNat) H1
theorem pi_rangeA {a b : Expr} {ta : TA} {p pos : Pos} (hg : Gl X "range") (hm : X.mg "range" = none) (ha : PA X [a, b] ta) (hs : starEach [a, b] X.env = [(false, eval a X.env), (false, eval b X.env)] := by rfl) (hs2 : starEach [b] X.env = [(false, eval b X.env)] := by rfl) : PI X tg (.Call (.Name "range" p) [a, b] [] pos) (iRngA ta) := by
  constructor
  intro pins s σ H R I h
  refine Call_ (ld_blt I hg hm boot_range (callWith_type1 (thn (ha.run pos pins s σ H _ I h) fun us s1 ⟨vs, H1, I1, r1, q1⟩ => ?_) (by rw [hs, hs2]) (by rw [hs2]; rfl)))
  obtain ⟨i, j, rfl, q⟩ := q1
  obtain ⟨u1, u2, rfl, ⟨t, rfl⟩, ⟨t', rfl⟩⟩ : ∃ u1 u2, us = [u1, u2] ∧ RelV (.int i) u1 ∧ RelV (.int j) u2 := by
    cases r1 with
    | cons r rr => cases rr with
      | cons r' rr => cases rr; exact ⟨_, _, rfl, r, r'⟩
  exact call_range_2 (range_any I1 q)
end
end HS
/-! f(a=.., b=..) of a generator def; the readings' steps for generators that are consumed. -/
namespace HS
open PySem PySem.Spec PyProof.Rows L2
section
variable {X : Cx} {k n : Nat} {f : Addr} {x : Str} {spg : SpG} {E : XK} {tk : TA} {p q : Pos} {kws : List Keyword} {ks ps : List Str} {fd : FuncData} {g : List Value → List Value → List Value} {gV : List V → List V → List V}
def tGenF (n k : Nat) (gV : List V → List V → List V) (spg : SpG) (E : XK) (tk : TA) : TGen := fun σ H cont => tk σ H fun zs H2 => n = 0 ∧ zs.length = k ∧ spg (gV [] zs) H2 cont E
theorem pgen_kw0 (F : GFn X.prog X.w X.K X.mg X.base k f fd ps spg) (hr : Room k X.A) (gl : Gl X x) (mf : X.mg x = some (.ref f)) (kf : PySem.W.keepIn X.K (.ref f) = true) (hb : KBX X.K fd ps n ks g gV) (hk : PK X kws tk)
    (h0 : (backToKw q (keywordEach kws X.env)).all (·.1.isSome) = true := by rfl) (hks : (backToKw q (keywordEach kws X.env)).filterMap (·.1) = ks := by rfl) (h1 : (x == ("__debug__" : Str)) = false := by decide)
    (h3 : ((backTo q (starEach [] X.env)).any (·.1) || (backToKw q (keywordEach kws X.env)).any (·.1.isNone)) = false := by rfl) : PGen X k (.Call (.Name x p) [] kws q) (tGenF n ks.length gV spg E tk) E := by
  constructor
  intro pins s σ H cont I hw
  refine wpAny_Call_Name_kw (ld_glob I gl mf (PySem.W.callWith_KW0 (h₀ := X.base) I.ok.mod.kin kf h0 (thn (hk.run q pins s σ H _ I hw) fun ws s2 ⟨zs, H2, I2, rz, e1, l2, y2⟩ => ⟨I2.kIn, ?_⟩) h3) h1)
  rw [hks]
  have l4 : ws.length = ks.length := by rw [← rz.length]; exact l2
  refine wpAny_call (codeAny_mono (F.run X.A X.stack s2 H2 ⟨[], ks.zip ws⟩ (g [] ws) (gV [] zs) cont E hr I2.env0 (hb.to s2 [] ws (by rw [e1]; rfl) l4) (hb.rel .nil rz) y2) fun r s' hq => ?_)
  match r, hq with
  | .error e, hq => exact hq.elim
  | .ok (.ret u), hq => exact ⟨H2, s2, [], I2, .nil, hq⟩
end
section
variable {σ : L2.St} {H : Hp} {cont : List V → Hp → Prop} {Q : VK}
theorem ogenF {n k : Nat} {gV : List V → List V → List V} {spg : SpG} {E : XK} {tk : TA} (h : tk σ H fun zs H2 => n = 0 ∧ zs.length = k ∧ spg (gV [] zs) H2 cont E) : tGenF n k gV spg E tk σ H cont := h
theorem rngA {ta : TA} {R : It → Hp → Prop} (h : ta σ H fun vs H1 => ∃ i j : Int, vs = [.int i, .int j] ∧ R (Itr i (j - i).toNat) H1) : iRngA ta σ H R := h
theorem forG {sp : SpG2} {dvs : List V} {t : TA} {g : TG} {tb : TS} {Ex : L2.St → XK} {D : Ends} (h : t σ H fun vs H1 => ∃ (Mx : Nat) (Pv : Nat → L2.St → Hp → Prop), Pv 0 σ H1 ∧ (∀ i σ H, Pv i σ H → i ≤ Mx) ∧ WantG σ g tb D Pv (Ex σ) (sp (vs ++ dvs) H1)) : tForG (tCallG2 sp dvs t) g tb Ex D σ H := h
theorem lcG {sp : SpG2} {dvs : List V} {t : TA} {g : TG} {tt : TT} {te : TE} {vs : List Nat} (h : t σ H fun us H1 => ∃ (Mx : Nat) (W : Addr → Nat → Hp → Prop), (∀ D i H, W D i H → i ≤ Mx ∧ ∃ acc, H D = some (.lst acc)) ∧ WantC σ g tt te vs Q W H1 (sp (us ++ dvs) H1)) : tLcG (tCallG2 sp dvs t) g tt te vs σ H Q := h
theorem lift_cases {P : Hp → Prop} {i : Nat} {D : Addr} {H2 : Hp} (h0 : i = 0 → P (upd H2 D (.lst []))) (h1 : 1 ≤ i → P H2) : P (lifted (fun H => upd H D (.lst [])) i H2) := by
  unfold lifted
  by_cases h : i = 0
  · rw [if_pos h]; exact h0 h
  · rw [if_neg h]; exact h1 (by omega)
theorem genX {tp : TS} {wi : TI} {g : TG} {te : TE} {tq : TS} {ry : Nat → Hp → Prop} {yl : Nat → Hp → V → Hp → Prop} {en : Nat → Hp → Hp → Prop} {H0 : Hp} (h : tp { nx := fun σ1 H1 => wi σ1 H1 fun J H2 => ∃ Q : Nat → L2.St → Hp → Hp → Prop, Q 0 σ1 H0 H2 ∧ ∀ i σ Hw H, Q i σ Hw H →
    (J.stop i H ∧ en i Hw H) ∨ (J.go i H ∧ ∀ x H', J.yld i H x H' → g x σ H' fun σ2 H3 => te σ2 H3 fun y H4 => yl i Hw y H4 ∧ ∀ H5, ry (i + 1) H5 → tq { nx := fun σ6 H6 => Q (i + 1) σ6 H5 H6, rt := fun _ _ => False } σ2 H5), rt := fun _ _ => False } σ H) : tGenX tp wi g te tq ry yl en H0 σ H := h
end
/-- an expression whose ways are to be joined: the walk stops at it -/
def tStop (te : TE) : TE := te
theorem pe_stop {X : Cx} {e : Expr} {te : TE} (p : PE X e te) : PE X e (tStop te) := p
theorem stopX {te : TE} {σ : L2.St} {H : Hp} {Q : VK} (M : V → Hp → Prop) (h1 : ∀ Q' : VK, (∀ v H', M v H' → Q' v H') → te σ H Q') (h2 : ∀ v H', M v H' → Q v H') : tStop te σ H Q := h1 Q h2
end HS
namespace WK04
open PySem PySem.Spec PyProof.Rows L2
/-- the source of draws at s, its digits at d; n: at most so many mixed draws so far -/
def Src (H : Hp) (s d : Addr) (n : Nat) : Prop := s ≠ d ∧ ∃ (gs : List Int) (l m c : Int), H s = some (.lst [.ref d, .int l, .int m, .int c]) ∧ H d = some (.lst (gs.map V.int)) ∧ (∀ x ∈ gs, 0 ≤ x) ∧ gs.length ≤ 63 ∧ 0 ≤ l ∧ 0 ≤ m ∧ m < 2 ^ 61 ∧ 0 ≤ c ∧ c ≤ n
/-- lengths of chapters -/
def Book (ls : List Int) : Prop := ∀ x ∈ ls, 1 ≤ x ∧ x < 10 ^ 30
theorem Src.keep {H H' : Hp} {s d : Addr} {n : Nat} (h : Src H s d n) (e1 : H' s = H s) (e2 : H' d = H d) : Src H' s d n := by
  obtain ⟨hsd, gs, l, m, c, h1, h2, h3⟩ := h
  exact ⟨hsd, gs, l, m, c, by rw [e1]; exact h1, by rw [e2]; exact h2, h3⟩
theorem Src.new {H : Hp} {s d p : Addr} {n : Nat} {o : HO} (h : Src H s d n) (hp : H p = none) : Src (upd H p o) s d n := by
  obtain ⟨hsd, gs, l, m, c, h1, h2, h3⟩ := h
  exact ⟨hsd, gs, l, m, c, by rw [upd_ne (ne_of_none h1 hp)]; exact h1, by rw [upd_ne (ne_of_none h2 hp)]; exact h2, h3⟩
theorem Src.put {H : Hp} {s d p : Addr} {n : Nat} {o : HO} (h : Src H s d n) (e1 : p ≠ s) (e2 : p ≠ d) : Src (upd H p o) s d n := by
  obtain ⟨hsd, gs, l, m, c, h1, h2, h3⟩ := h
  exact ⟨hsd, gs, l, m, c, by rw [upd_ne e1.symm]; exact h1, by rw [upd_ne e2.symm]; exact h2, h3⟩
theorem Src.ne1 {H : Hp} {s d p : Addr} {n : Nat} (h : Src H s d n) (hp : H p = none) : p ≠ s := by
  obtain ⟨hsd, gs, l, m, c, h1, h2, h3⟩ := h
  exact (ne_of_none h1 hp).symm
theorem Src.ne2 {H : Hp} {s d p : Addr} {n : Nat} (h : Src H s d n) (hp : H p = none) : p ≠ d := by
  obtain ⟨hsd, gs, l, m, c, h1, h2, h3⟩ := h
  exact (ne_of_none h2 hp).symm
theorem Src.up {H : Hp} {s d : Addr} {n m : Nat} (h : Src H s d n) (e : n ≤ m) : Src H s d m := by
  obtain ⟨hsd, gs, l, m', c, h1, h2, h3, h4, h5, h6, h7, h8, h9⟩ := h
  exact ⟨hsd, gs, l, m', c, h1, h2, h3, h4, h5, h6, h7, h8, by omega⟩
/-- the page count of an edition -/
def pcount (ls : List Int) (j : Int) : Int := (ls.map fun x => (x + j - 1) / j).sum
theorem pcount_nil (j : Int) : pcount [] j = 0 := rfl
theorem pcount_cons (x : Int) (ls : List Int) (j : Int) : pcount (x :: ls) j = (x + j - 1) / j + pcount ls j := by unfold pcount; rw [List.map_cons, List.sum_cons]
theorem pcount_append (xs ys : List Int) (j : Int) : pcount (xs ++ ys) j = pcount xs j + pcount ys j := by unfold pcount; rw [List.map_append, List.sum_append]
/-- a page for each chapter, and one more for each full page of its other lines -/
theorem pcount_less1 {j : Int} (hj : 1 ≤ j) : ∀ ls : List Int, (ls.length : Int) + (ls.map fun x => (x - 1) / j).sum = pcount ls j
  | [] => rfl
  | x :: r => by
    have e : (x + j - 1) / j = (x - 1) / j + 1 := by rw [show x + j - 1 = (x - 1) + j * 1 by omega, Int.add_mul_ediv_left _ _ (by omega)]
    rw [pcount_cons, ← pcount_less1 hj r, e, List.length_cons, List.map_cons, List.sum_cons]
    push_cast
    omega
theorem pcount_take {ls : List Int} {i : Nat} {x : Int} (j : Int) (h : ls[i]? = some x) : pcount (ls.take (i + 1)) j = pcount (ls.take i) j + (x + j - 1) / j := by
  obtain ⟨h1, h2⟩ := List.getElem?_eq_some_iff.mp h
  rw [List.take_add_one, h, pcount_append]
  show _ + pcount [x] j = _
  rw [pcount_cons, pcount_nil]; omega
theorem ceil_pos {x j : Int} (hx : 1 ≤ x) (hj : 1 ≤ j) : 1 ≤ (x + j - 1) / j := by
  rw [Int.le_ediv_iff_mul_le (by omega)]; omega
theorem pcount_len {ls : List Int} {j : Int} (hp : ∀ x ∈ ls, 1 ≤ x) (hj : 1 ≤ j) : (ls.length : Int) ≤ pcount ls j := by
  induction ls with
  | nil => exact Int.le_refl 0
  | cons x r ih =>
    rw [pcount_cons, List.length_cons]
    have := ceil_pos (hp x List.mem_cons_self) hj
    have := ih fun y hy => hp y (List.mem_cons_of_mem _ hy)
    omega
theorem pcount_pos {ls : List Int} {j : Int} (hp : ∀ x ∈ ls, 1 ≤ x) (hj : 1 ≤ j) : 0 ≤ pcount ls j := by
  have := pcount_len hp hj; omega
theorem take_all {ls : List Int} {P : Int → Prop} (h : ∀ x ∈ ls, P x) (n : Nat) : ∀ x ∈ ls.take n, P x := fun x hx => h x (List.mem_of_mem_take hx)
theorem Src.same {H H' : Hp} {s d : Addr} {n : Nat} (h : Src H s d n) (k : HS.Keep (fun _ => False) H H') : Src H' s d n := by
  obtain ⟨hsd, gs, l, m, c, h1, h2, h3⟩ := h
  exact ⟨hsd, gs, l, m, c, k _ _ h1 id, k _ _ h2 id, h3⟩
theorem sum_book {ls : List Int} (h : Book ls) : (ls.length : Int) ≤ ls.sum ∧ ls.sum ≤ ls.length * (10 ^ 30) := by
  induction ls with
  | nil => exact ⟨Int.le_refl _, Int.le_refl _⟩
  | cons x r ih =>
    have := ih fun y hy => h y (List.mem_cons_of_mem _ hy)
    have := h x List.mem_cons_self
    rw [List.sum_cons, List.length_cons]
    push_cast
    omega
/-! Sums of ceilings. -/
theorem ceil_le {x j q : Int} (hj : 1 ≤ j) : (x + j - 1) / j ≤ q ↔ x ≤ q * j := by
  rw [← Int.lt_add_one_iff, Int.ediv_lt_iff_lt_mul (by omega), Int.add_mul]
  omega
theorem ceil_up {x j : Int} (hj : 1 ≤ j) : x ≤ (x + j - 1) / j * j := (ceil_le hj).mp (Int.le_refl _)
theorem ceil_dn {x j : Int} (hj : 1 ≤ j) : (x + j - 1) / j * j ≤ x + j - 1 := Int.ediv_mul_le _ (by omega)
theorem ceil_nonneg {x j : Int} (hx : 0 ≤ x) (hj : 1 ≤ j) : 0 ≤ (x + j - 1) / j := Int.ediv_nonneg (by omega) (by omega)
theorem pcount_up (ls : List Int) {j : Int} (hj : 1 ≤ j) : ls.sum ≤ pcount ls j * j := by
  induction ls with
  | nil => rw [pcount_nil]; simp
  | cons x r ih =>
    rw [pcount_cons, List.sum_cons, Int.add_mul]
    have := ceil_up (x := x) hj
    omega
theorem pcount_ceil (ls : List Int) {j : Int} (hj : 1 ≤ j) : (ls.sum + j - 1) / j ≤ pcount ls j := (ceil_le hj).mpr (pcount_up ls hj)
theorem pcount_dn (ls : List Int) {j : Int} (hj : 1 ≤ j) : (pcount ls j - ls.length) * j ≤ ls.sum - ls.length := by
  induction ls with
  | nil => rw [pcount_nil]; simp
  | cons x r ih =>
    rw [pcount_cons, List.sum_cons, List.length_cons]
    have := ceil_dn (x := x) hj
    have e : ((x + j - 1) / j + pcount r j - ((r.length + 1 : Nat) : Int)) * j = (x + j - 1) / j * j - j + (pcount r j - r.length) * j := by
      rw [show ((x + j - 1) / j + pcount r j - ((r.length + 1 : Nat) : Int)) = ((x + j - 1) / j - 1) + (pcount r j - r.length) by push_cast; omega, Int.add_mul, Int.sub_mul, Int.one_mul]
    rw [e]
    push_cast
    omega
theorem pcount_most (ls : List Int) {j : Int} (hj : 1 ≤ j) : pcount ls j ≤ ls.length + (ls.sum - ls.length) / j := by
  have := (Int.le_ediv_iff_mul_le (by omega : 0 < j)).mpr (pcount_dn ls hj)
  omega
theorem pcount_anti {ls : List Int} {j k : Int} (hp : ∀ x ∈ ls, 1 ≤ x) (hj : 1 ≤ j) (hk : j ≤ k) : pcount ls k ≤ pcount ls j := by
  induction ls with
  | nil => exact Int.le_refl _
  | cons x r ih =>
    rw [pcount_cons, pcount_cons]
    have h1 := ih fun y hy => hp y (List.mem_cons_of_mem _ hy)
    have hx := hp x List.mem_cons_self
    have h2 : (x + k - 1) / k ≤ (x + j - 1) / j := (ceil_le (by omega)).mpr (Int.le_trans (ceil_up hj) (Int.mul_le_mul_of_nonneg_left hk (ceil_nonneg (by omega) hj)))
    omega
theorem pcount_mult {ls : List Int} {j m : Int} (hj : 1 ≤ j) (hm : 1 ≤ m) : pcount ls j ≤ m * pcount ls (j * m) := by
  have hjm : 1 ≤ j * m := by have := Int.mul_le_mul hj hm (by omega) (by omega); omega
  induction ls with
  | nil => rw [pcount_nil, pcount_nil, Int.mul_zero]; exact Int.le_refl _
  | cons x r ih =>
    rw [pcount_cons, pcount_cons, Int.mul_add]
    have h2 : (x + j - 1) / j ≤ m * ((x + j * m - 1) / (j * m)) := (ceil_le hj).mpr (by
      have := ceil_up (x := x) hjm
      rw [show m * ((x + j * m - 1) / (j * m)) * j = (x + j * m - 1) / (j * m) * (j * m) by rw [Int.mul_comm m, Int.mul_assoc, Int.mul_comm m j]]
      exact this)
    omega
theorem pcount_reverse (ls : List Int) (j : Int) : pcount ls.reverse j = pcount ls j := by
  induction ls with
  | nil => rfl
  | cons x r ih => rw [List.reverse_cons, pcount_append, ih, pcount_cons, pcount_cons, pcount_nil]; omega
theorem pcount_cut (ls : List Int) (n : Nat) (j : Int) : pcount (ls.take n) j + pcount (ls.drop n) j = pcount ls j := by
  rw [← pcount_append, List.take_append_drop]
theorem ceil_join {x y j : Int} (hj : 1 ≤ j) : (x + y + j - 1) / j ≤ (x + j - 1) / j + (y + j - 1) / j ∧ (x + j - 1) / j + (y + j - 1) / j ≤ (x + y + j - 1) / j + 1 := by
  have a1 := ceil_up (x := x) hj
  have a2 := ceil_dn (x := x) hj
  have b1 := ceil_up (x := y) hj
  have b2 := ceil_dn (x := y) hj
  have c1 := ceil_up (x := x + y) hj
  refine ⟨(ceil_le hj).mpr (by rw [Int.add_mul]; omega), ?_⟩
  generalize (x + j - 1) / j = p at *
  generalize (y + j - 1) / j = q at *
  generalize (x + y + j - 1) / j = r at *
  apply Int.le_of_lt_add_one
  apply Int.lt_of_not_ge
  intro h
  have h1 : (r + 2) * j ≤ (p + q) * j := Int.mul_le_mul_of_nonneg_right (by omega) (by omega)
  rw [Int.add_mul, Int.add_mul] at h1
  omega
theorem pcount_sum {ls : List Int} {j : Int} (hp : ∀ x ∈ ls, 1 ≤ x) (hl : (ls.length : Int) ≤ ls.sum) (hj : 1 ≤ j) : pcount ls j ≤ ls.sum := by
  have := pcount_most ls hj
  have := Int.ediv_le_self j (show 0 ≤ ls.sum - ls.length by omega)
  omega
/-! Steps and lines of a book. -/
def cnt (ls : List Int) (m : Int) : Int := ((ls.filter fun x => decide (x > m)).length : Nat)
theorem cnt_nil (m : Int) : cnt [] m = 0 := rfl
theorem cnt_cons (x : Int) (ls : List Int) (m : Int) : cnt (x :: ls) m = (if m < x then 1 else 0) + cnt ls m := by
  unfold cnt
  rw [List.filter_cons]
  by_cases h : x > m
  · rw [if_pos (decide_eq_true h), if_pos (show m < x from h), List.length_cons]; omega
  · rw [if_neg (fun z => h (of_decide_eq_true z)), if_neg (fun z => h z)]; omega
def steps (ls : List Int) (w : Int) (n : Nat) : Int := ((List.range n).map fun (i : Nat) => cnt ls ((i : Int) * w)).sum
theorem steps_succ (ls : List Int) (w : Int) (n : Nat) : steps ls w (n + 1) = steps ls w n + cnt ls ((n : Int) * w) := by
  unfold steps; rw [List.range_succ, List.map_append, List.sum_append, List.map_singleton, List.sum_singleton]
theorem steps_nil (w : Int) (n : Nat) : steps [] w n = 0 := by
  induction n with
  | zero => rfl
  | succ n ih => rw [steps_succ, ih, cnt_nil]; rfl
theorem step_one {x w : Int} (hw : 1 ≤ w) (n : Nat) : (((n : Int) * w < x) ↔ (n : Int) < (x + w - 1) / w) := by
  have h := ceil_le (x := x) (q := (n : Int)) hw
  omega
theorem steps_cons (x : Int) (ls : List Int) {w : Int} (hw : 1 ≤ w) (hx : 0 ≤ x) (n : Nat) : steps (x :: ls) w n = min (n : Int) ((x + w - 1) / w) + steps ls w n := by
  have c0 := ceil_nonneg hx hw
  induction n with
  | zero => show (0 : Int) = _ + 0; omega
  | succ n ih =>
    rw [steps_succ, steps_succ, ih, cnt_cons]
    have h := step_one (x := x) hw n
    by_cases g : (n : Int) * w < x
    · rw [if_pos g]; have := h.mp g; omega
    · rw [if_neg g]; have : ¬ (n : Int) < (x + w - 1) / w := fun z => g (h.mpr z)
      omega
theorem ceil_anti {x y w : Int} (hw : 1 ≤ w) (h : x ≤ y) : (x + w - 1) / w ≤ (y + w - 1) / w := Int.ediv_le_ediv (by omega) (by omega)
theorem steps_all {ls : List Int} {w m : Int} (hw : 1 ≤ w) (h : ∀ x ∈ ls, 0 ≤ x ∧ x ≤ m) : steps ls w ((m + 1 + w - 1) / w).toNat = pcount ls w := by
  induction ls with
  | nil => rw [steps_nil, pcount_nil]
  | cons x r ih =>
    have hx := h x List.mem_cons_self
    have h1 := ceil_nonneg hx.1 hw
    have h2 := ceil_anti hw (show x ≤ m + 1 by omega)
    rw [steps_cons x r hw hx.1, ih fun y hy => h y (List.mem_cons_of_mem _ hy), pcount_cons]
    omega
/-- the lines of a chapter and of a book -/
def blk (a n : Int) : List (Int × Int) := (List.range n.toNat).map fun (i : Nat) => (a, (i : Int) + 1)
def seg (a f l : Int) : List (Int × Int) := (List.range (l + 1 - f).toNat).map fun (i : Nat) => (a, f + (i : Int))
theorem blk_zero {a n : Int} (h : n ≤ 0) : blk a n = [] := by unfold blk; rw [show n.toNat = 0 by omega]; rfl
theorem blk_seg {a f l : Int} (h0 : 1 ≤ f) (h1 : f ≤ l + 1) : blk a (f - 1) ++ seg a f l = blk a l := by
  unfold blk seg
  obtain ⟨p, hp⟩ := Int.eq_ofNat_of_zero_le (show 0 ≤ f - 1 by omega)
  obtain ⟨q, hq⟩ := Int.eq_ofNat_of_zero_le (show 0 ≤ l + 1 - f by omega)
  rw [show l.toNat = p + q by omega, hp, hq, Int.toNat_natCast, Int.toNat_natCast, List.range_add, List.map_append, List.map_map]
  congr 1
  apply List.map_congr_left
  intro i _
  show (a, f + (i : Int)) = (a, ((p + i : Nat) : Int) + 1)
  congr 1
  omega
def ev : List Int → Int → List (Int × Int)
  | [], _ => []
  | x :: xs, a => blk a x ++ ev xs (a + 1)
def upto (w : Int) : List Int → Int → Int → List (Int × Int)
  | [], _, _ => []
  | x :: xs, a, q => blk a (min (q * w) x) ++ upto w xs (a + 1) (q - (x + w - 1) / w)
theorem upto_none {w : Int} (hw : 1 ≤ w) : ∀ (ls : List Int) (a q : Int), (∀ x ∈ ls, 1 ≤ x) → q ≤ 0 → upto w ls a q = []
  | [], _, _, _, _ => rfl
  | x :: xs, a, q, hp, hq => by
    have hx := hp x List.mem_cons_self
    have c1 := ceil_pos hx hw
    have c2 : q * w ≤ 0 := Int.mul_nonpos_of_nonpos_of_nonneg hq (by omega)
    show blk a (min (q * w) x) ++ upto w xs (a + 1) (q - (x + w - 1) / w) = []
    rw [blk_zero (by omega), upto_none hw xs (a + 1) _ (fun y hy => hp y (List.mem_cons_of_mem _ hy)) (by omega)]
    rfl
theorem ceil_full {x w q : Int} (hw : 1 ≤ w) (h : (x + w - 1) / w ≤ q) : min (q * w) x = x := by
  have := (ceil_le hw).mp h
  omega
theorem upto_every {w : Int} (hw : 1 ≤ w) : ∀ (ls : List Int) (a : Int), (∀ x ∈ ls, 1 ≤ x) → upto w ls a (pcount ls w) = ev ls a
  | [], _, _ => rfl
  | x :: xs, a, hp => by
    have hx := hp x List.mem_cons_self
    have hr : ∀ y ∈ xs, 1 ≤ y := fun y hy => hp y (List.mem_cons_of_mem _ hy)
    have c1 := pcount_pos hr hw
    show blk a (min (pcount (x :: xs) w * w) x) ++ upto w xs (a + 1) (pcount (x :: xs) w - (x + w - 1) / w) = blk a x ++ ev xs (a + 1)
    rw [pcount_cons, ceil_full hw (by omega), show (x + w - 1) / w + pcount xs w - (x + w - 1) / w = pcount xs w by omega, upto_every hw xs (a + 1) hr]
theorem upto_step {w z : Int} (hw : 1 ≤ w) : ∀ (ls : List Int) (c : Nat) (a q : Int), (∀ x ∈ ls, 1 ≤ x) → ls[c]? = some z → pcount (ls.take c) w < q → q ≤ pcount (ls.take (c + 1)) w →
    upto w ls a (q - 1) ++ seg (a + c) ((q - pcount (ls.take c) w - 1) * w + 1) (min ((q - pcount (ls.take c) w - 1) * w + w) z) = upto w ls a q
  | [], c, _, _, _, h, _, _ => by cases c <;> cases h
  | x :: xs, 0, a, q, hp, h, h1, h2 => by
    have hr : ∀ y ∈ xs, 1 ≤ y := fun y hy => hp y (List.mem_cons_of_mem _ hy)
    have ez : x = z := Option.some.inj h
    subst ez
    have e0 : pcount (List.take 0 (x :: xs)) w = 0 := rfl
    have e1 : pcount (List.take (0 + 1) (x :: xs)) w = (x + w - 1) / w := by
      show pcount [x] w = _; rw [pcount_cons, pcount_nil]; omega
    rw [e0] at h1 ⊢
    rw [e1] at h2
    show (blk a (min ((q - 1) * w) x) ++ upto w xs (a + 1) (q - 1 - (x + w - 1) / w)) ++ _ = blk a (min (q * w) x) ++ upto w xs (a + 1) (q - (x + w - 1) / w)
    rw [upto_none hw xs _ _ hr (by omega), upto_none hw xs _ _ hr (by omega), List.append_nil, List.append_nil]
    have lt : (q - 1) * w < x := by
      have hh := ceil_le (x := x) (q := q - 1) hw
      omega
    have ge : 0 ≤ (q - 1) * w := Int.mul_nonneg (by omega) (by omega)
    have eq : q * w = (q - 1) * w + w := by rw [Int.sub_mul]; omega
    rw [show q - 0 - 1 = q - 1 by omega, eq, show min ((q - 1) * w) x = ((q - 1) * w + 1) - 1 by omega, show a + ((0 : Nat) : Int) = a by omega]
    exact blk_seg (by omega) (by omega)
  | x :: xs, c + 1, a, q, hp, h, h1, h2 => by
    have hx := hp x List.mem_cons_self
    have hr : ∀ y ∈ xs, 1 ≤ y := fun y hy => hp y (List.mem_cons_of_mem _ hy)
    have e1 : pcount (List.take (c + 1) (x :: xs)) w = (x + w - 1) / w + pcount (xs.take c) w := by rw [List.take_succ_cons, pcount_cons]
    have e2 : pcount (List.take (c + 1 + 1) (x :: xs)) w = (x + w - 1) / w + pcount (xs.take (c + 1)) w := by rw [List.take_succ_cons, pcount_cons]
    rw [e1] at h1 ⊢
    rw [e2] at h2
    have p0 := pcount_pos (take_all hr c) hw
    have ih := upto_step (z := z) hw xs c (a + 1) (q - (x + w - 1) / w) hr (by rw [List.getElem?_cons_succ] at h; exact h) (by omega) (by omega)
    show (blk a (min ((q - 1) * w) x) ++ upto w xs (a + 1) (q - 1 - (x + w - 1) / w)) ++ _ = blk a (min (q * w) x) ++ upto w xs (a + 1) (q - (x + w - 1) / w)
    rw [ceil_full hw (show (x + w - 1) / w ≤ q by omega), ceil_full hw (show (x + w - 1) / w ≤ q - 1 by omega), List.append_assoc, ← ih]
    rw [show q - 1 - (x + w - 1) / w = q - (x + w - 1) / w - 1 by omega, show a + ((c + 1 : Nat) : Int) = a + 1 + (c : Nat) by omega, show q - ((x + w - 1) / w + pcount (xs.take c) w) - 1 = q - (x + w - 1) / w - pcount (xs.take c) w - 1 by omega]
theorem ev_snoc : ∀ (ls : List Int) (i : Nat) (x a : Int), ls[i]? = some x → ev (ls.take (i + 1)) a = ev (ls.take i) a ++ blk (a + i) x
  | [], i, _, _, h => by cases i <;> cases h
  | y :: ys, 0, x, a, h => by
    have e : y = x := Option.some.inj h
    subst e
    show blk a y ++ [] = [] ++ blk (a + ((0 : Nat) : Int)) y
    rw [List.append_nil, List.nil_append, show a + ((0 : Nat) : Int) = a by omega]
  | y :: ys, i + 1, x, a, h => by
    have ih := ev_snoc ys i x (a + 1) (by rw [List.getElem?_cons_succ] at h; exact h)
    rw [List.take_succ_cons, List.take_succ_cons]
    show blk a y ++ ev (ys.take (i + 1)) (a + 1) = (blk a y ++ ev (ys.take i) (a + 1)) ++ _
    rw [ih, List.append_assoc, show a + ((i + 1 : Nat) : Int) = a + 1 + (i : Nat) by omega]
theorem sum_small {ls : List Int} (h : ∀ x ∈ ls, 1 ≤ x ∧ x ≤ 60) : (ls.length : Int) ≤ ls.sum ∧ ls.sum ≤ 60 * ls.length := by
  induction ls with
  | nil => exact ⟨Int.le_refl _, Int.le_refl _⟩
  | cons x r ih =>
    have h1 := h x List.mem_cons_self
    have h2 := ih fun y hy => h y (List.mem_cons_of_mem _ hy)
    rw [List.sum_cons, List.length_cons]
    omega
/-- the first place of a length below 1 -/
def badAt : List Int → Option Nat
  | [] => none
  | x :: r => if x < 1 then some 0 else (badAt r).map (· + 1)
theorem badAt_none : ∀ {ls : List Int}, (∀ x ∈ ls, 1 ≤ x) → badAt ls = none
  | [], _ => rfl
  | x :: r, h => by
    have h1 := h x List.mem_cons_self
    rw [badAt, if_neg (by omega), badAt_none fun y hy => h y (List.mem_cons_of_mem _ hy)]; rfl
theorem badAt_some : ∀ {ls : List Int}, (∃ x ∈ ls, x < 1) → ∃ i, badAt ls = some i
  | [], h => by obtain ⟨x, hx, _⟩ := h; cases hx
  | x :: r, h => by
    rw [badAt]
    by_cases h1 : x < 1
    · exact ⟨0, by rw [if_pos h1]⟩
    · obtain ⟨y, hy, h2⟩ := h
      rcases List.mem_cons.mp hy with e | hy
      · subst e; exact absurd h2 h1
      · obtain ⟨i, e⟩ := badAt_some ⟨y, hy, h2⟩
        exact ⟨i + 1, by rw [if_neg h1, e]; rfl⟩
/-- the places of the lengths below 1 -/
def badsFrom : Nat → List Int → List Int
  | _, [] => []
  | k, x :: r => if x < 1 then (k : Int) :: badsFrom (k + 1) r else badsFrom (k + 1) r
theorem badsFrom_snoc : ∀ (k : Nat) (ls : List Int) (x : Int), badsFrom k (ls ++ [x]) = badsFrom k ls ++ (if x < 1 then [((k + ls.length : Nat) : Int)] else [])
  | k, [], x => by
    show badsFrom k [x] = _
    rw [badsFrom, badsFrom, badsFrom]
    show _ = if x < 1 then [((k + 0 : Nat) : Int)] else []
    rw [Nat.add_zero]
  | k, y :: r, x => by
    rw [List.cons_append, badsFrom, badsFrom, badsFrom_snoc (k + 1) r x, List.length_cons, show k + 1 + r.length = k + (r.length + 1) by omega]
    split <;> rfl
theorem badsFrom_len (k : Nat) : ∀ ls : List Int, (badsFrom k ls).length ≤ ls.length
  | [] => Nat.le_refl _
  | x :: r => by
    have := badsFrom_len (k + 1) r
    rw [badsFrom]
    split
    · rw [List.length_cons, List.length_cons]; omega
    · rw [List.length_cons]; omega
theorem badsFrom_head : ∀ (k : Nat) (ls : List Int) (i : Nat), badAt ls = some i → (badsFrom k ls)[0]? = some ((k + i : Nat) : Int)
  | k, x :: r, i, h => by
    rw [badAt] at h
    rw [badsFrom]
    by_cases h1 : x < 1
    · rw [if_pos h1] at h ⊢
      injection h with h; subst h; rfl
    · rw [if_neg h1] at h ⊢
      obtain ⟨j, e, rfl⟩ := Option.map_eq_some_iff.mp h
      rw [badsFrom_head (k + 1) r j e, show k + 1 + j = k + (j + 1) by omega]
theorem badsFrom_none : ∀ (k : Nat) (ls : List Int), badAt ls = none → badsFrom k ls = []
  | _, [], _ => rfl
  | k, x :: r, h => by
    rw [badAt] at h
    rw [badsFrom]
    by_cases h1 : x < 1
    · rw [if_pos h1] at h; cases h
    · rw [if_neg h1, Option.map_eq_none_iff] at h
      rw [if_neg h1]
      exact badsFrom_none (k + 1) r h
end WK04
namespace WK04
open PySem PySem.Spec PyProof.Rows L2
local macro_rules | `(tactic| walk_at "ne") => `(tactic| first | assumption | (apply Ne.symm; assumption) | exact ne_of_none (by assumption) (by assumption) | exact (ne_of_none (by assumption) (by assumption)).symm | exact ne_of_none upd_same (by assumption) | exact (ne_of_none upd_same (by assumption)).symm)
local macro_rules | `(tactic| walk_at "hp") => `(tactic| first | assumption | exact upd_same | (rw [upd_ne (by walk_at "ne")]; walk_at "hp"))
local macro_rules | `(tactic| walk_at "side") => `(tactic| first | omega | decide | assumption | exact ⟨by decide, by decide⟩ | exact ⟨by omega, by omega⟩ | exact .inl (by omega) | exact .inr (by omega) | exact .inl (by decide) | exact .inr (by decide) | exact ⟨by decide, by decide, by decide⟩ | exact ⟨by decide, by decide, by omega⟩ | exact .inl ⟨by omega, by omega⟩ | exact .inr ⟨by omega, by omega⟩ | exact .inr ⟨by decide, by decide⟩ | exact .inl ⟨by decide, by decide⟩ | (show _ < _; omega))
local macro_rules | `(tactic| walk_at "len") => `(tactic| ((try simp only [List.length_map, List.length_append, List.length_cons, List.length_nil, List.length_set, List.length_replicate]); omega))
local macro_rules | `(tactic| walk_at "sq") => `(tactic| first | assumption | exact HS.sq (by walk_at "hp"))
local macro_rules | `(tactic| walk_at "st") => `(tactic| first | assumption | exact HS.st (by walk_at "hp"))
local macro_rules | `(tactic| walk_at "h1") => `(tactic| first
  | with_reducible refine HS.seq ?_
  | with_reducible refine HS.asg ?_
  | with_reducible refine HS.nm ?_
  | with_reducible refine HS.var rfl ?_
  | with_reducible refine HS.cst ?_
  | with_reducible refine HS.op ?_
  | with_reducible refine HS.i0 ?_
  | ((with_reducible refine HS.i1 ?_); first | refine ⟨by walk_at "side", ?_⟩ | skip)
  | with_reducible refine HS.u0 ?_
  | with_reducible refine HS.un ?_
  | with_reducible refine HS.eqI ?_
  | with_reducible refine HS.neI ?_
  | with_reducible refine HS.tst ?_
  | with_reducible refine HS.tb1 ?_
  | with_reducible refine HS.bex ?_
  | with_reducible refine HS.ifs ?_
  | with_reducible refine HS.ife ?_
  | with_reducible refine HS.and ?_
  | with_reducible refine HS.or ?_
  | with_reducible refine HS.not ?_
  | with_reducible refine HS.andV ?_
  | with_reducible refine HS.orV ?_
  | with_reducible refine HS.notV ?_
  | with_reducible refine HS.chn ?_
  | with_reducible refine HS.ret ?_
  | with_reducible refine HS.retN ?_
  | with_reducible refine HS.drp ?_
  | with_reducible refine HS.cb ?_
  | with_reducible refine HS.anil ?_
  | with_reducible refine HS.acons ?_
  | with_reducible refine HS.cal ?_
  | with_reducible refine HS.tup ?_
  | with_reducible refine HS.lst ?_
  | with_reducible refine HS.par ?_
  | with_reducible refine HS.ex2 ?_
  | with_reducible refine HS.aug rfl ?_
  | with_reducible refine HS.ipi ?_
  | with_reducible refine HS.addI ?_
  | with_reducible refine HS.nxt ?_
  | with_reducible refine HS.brk ?_
  | with_reducible refine HS.cnt ?_
  | with_reducible refine HS.sub ?_
  | with_reducible refine HS.pnx ?_
  | with_reducible refine HS.prt ?_
  | with_reducible refine HS.pbk ?_
  | with_reducible refine HS.pct ?_
  | with_reducible refine iteF ?_
  | with_reducible refine iteT ?_
  | with_reducible refine HS.ii ?_
  | with_reducible refine HS.bmL ?_
  | with_reducible refine HS.bmL0 ?_
  | ((with_reducible refine' HS.tyL ?e ?_); case e => walk_at "hp")
  | ((with_reducible refine' HS.app ?e ?_); (case e => walk_at "hp"))
  | ((with_reducible refine' HS.setL ?e ?f ?_); (case e => walk_at "hp"); (case f => rfl))
  | ((with_reducible refine' HS.wp ?e ?_); case e => rfl)
  | ((with_reducible refine' HS.szc ?e ?_); case e => walk_at "len")
  | ((with_reducible refine' HS.szd ?e ?_); case e => walk_at "len")
  | with_reducible refine HS.yes ?_
  | with_reducible refine HS.lc ?_
  | with_reducible refine HS.rng1 ?_
  | with_reducible refine HS.rng2 ?_
  | with_reducible refine HS.rng3 ?_
  | with_reducible refine HS.lis ?_
  | with_reducible refine HS.fr ?_
  | with_reducible refine HS.i1e ?_
  | with_reducible refine HS.gthen ?_
  | with_reducible refine HS.g0 ?_
  | with_reducible refine HS.gfr ?_
  | with_reducible refine HS.gpl ?_
  | with_reducible refine HS.gyl ?_
  | with_reducible refine HS.lgn ?_
  | with_reducible refine HS.calg ?_
  | with_reducible refine HS.revL ?_
  | with_reducible refine HS.sl ?_
  | with_reducible refine HS.noP ?_
  | with_reducible refine HS.part ?_
  | with_reducible refine HS.ie ?_
  | ((with_reducible refine' HS.slLs ?e ?_); case e => walk_at "sq")
  | ((with_reducible refine' HS.gtup ?e ?f ?_); (case e => walk_at "st"); (case f => rfl))
  | with_reducible refine HS.gcons ?_
  | with_reducible refine HS.gnil ?_
  | with_reducible refine HS.itup ?_
  | with_reducible refine HS.ienu ?_
  | ((with_reducible refine' HS.cat ?e ?f ?_); (case e => walk_at "hp"); (case f => walk_at "hp"))
  | ((with_reducible refine' HS.ext ?e ?f ?_); (case e => walk_at "hp"); (case f => walk_at "hp"))
  | ((with_reducible refine' HS.sumL ?e ?_); case e => walk_at "sq")
  | ((with_reducible refine' HS.lenL ?e ?_); case e => walk_at "sq")
  | ((with_reducible refine' HS.lenT ?e ?_); case e => walk_at "st")
  | with_reducible refine HS.ra ?_
  | ((with_reducible refine' HS.ixL ?e ?f ?_); (case e => walk_at "sq"); (case f => rfl))
  | ((with_reducible refine' HS.ixT ?e ?f ?_); (case e => walk_at "st"); (case f => rfl)))
local macro_rules | `(tactic| walk_at "hs") => `(tactic| repeat' (walk_at "h1"))
local macro_rules | `(tactic| walk_at "fold") => `(tactic| (walk_at "hs"; assumption))
local macro_rules | `(tactic| walk_at "ns") => `(tactic| first | exact (fun z => z) | assumption | exact HS.nS2 (by walk_at "ne") (by walk_at "ne") | exact HS.nS3 (by walk_at "ne") (by walk_at "ne") (by walk_at "ne"))
local macro_rules | `(tactic| walk_at "kp") => `(tactic| first
  | assumption
  | exact HS.Keep.refl
  | (refine HS.Keep.at ?_ (by first | exact .inl rfl | exact .inr rfl | exact .inr (.inl rfl) | exact .inr (.inr rfl)); walk_at "kp")
  | (refine HS.Keep.put ?_ (by assumption); walk_at "kp")
  | (refine HS.Keep.new' (by assumption) (by first | assumption | exact HS.Keep.refl) (by walk_at "ns") ?_; walk_at "kp"))
local macro_rules | `(tactic| walk_at "ev") => `(tactic| first | assumption | exact HS.Exv.new (by walk_at "ev") (by assumption))
local macro_rules | `(tactic| walk_at "h1") => `(tactic| first
  | with_reducible refine HS.ost ?_
  | with_reducible refine HS.fldV ?_
  | with_reducible refine HS.newV ?_
  | with_reducible refine HS.newK ?_
  | ((with_reducible refine' HS.isV ?T ?he ?hq ?_); (case T => assumption); (case he => walk_at "ev"); (case hq => assumption))
  | ((with_reducible refine' HS.isVt ?T ?he ?hq ?_); (case T => assumption); (case he => walk_at "ev"); (case hq => assumption)))
local macro_rules | `(tactic| walk_at "h1") => `(tactic| first
  | with_reducible refine HS.caln ?_
  | with_reducible refine HS.ckw ?_
  | with_reducible refine HS.izip ?_
  | with_reducible refine HS.orT ?_
  | with_reducible refine HS.srv ?_
  | with_reducible refine HS.nt ?_
  | with_reducible refine HS.nf ?_
  | ((with_reducible refine' HS.lnn ?e ?f ?_); (case e => rfl); (case f => rfl)))
local macro_rules | `(tactic| walk_at "h1") => `(tactic| first
  | with_reducible refine HS.mkO ?_
  | with_reducible refine HS.callS ?_
  | with_reducible refine HS.xf ?_)
local macro_rules | `(tactic| walk_at "h1") => `(tactic| first
  | with_reducible refine HS.par3 ?_
  | with_reducible refine HS.ex3 ?_)
local macro_rules | `(tactic| walk_at "h1") => `(tactic| first
  | with_reducible refine HS.js ?_
  | with_reducible refine HS.jsn ?_
  | with_reducible refine HS.fmt ?_
  | with_reducible refine HS.m1S ?_
  | with_reducible refine HS.m0S ?_
  | with_reducible refine HS.strE ?_)
local macro_rules | `(tactic| walk_at "h1") => `(tactic| first
  | with_reducible refine HS.oenA ?_
  | with_reducible refine HS.omR ?_
  | with_reducible refine HS.fldP ?_
  | ((with_reducible refine' HS.mxd ?e ?_ ?_); case e => walk_at "sq"))
def topS (i : Nat) : Stmt := PySem.Challenge.pw_pagecounts_k04_errors_of_books.main.body.getD i (.Pass ⟨0, 0, 0, 0⟩)
abbrev s_InvalidBook___init__ : Stmt := HS.inS (topS 2) 0
abbrev N_InvalidBook___init__ : List Str := ["self", "value"]
theorem sc_InvalidBook___init__ : FnScope N_InvalidBook___init__ ["self", "value"] (defScope s_InvalidBook___init__) := ⟨rfl, rfl, rfl, by decide +kernel, rfl, by decide +kernel, by decide +kernel⟩
abbrev s_InvalidSize___init__ : Stmt := HS.inS (topS 3) 0
abbrev N_InvalidSize___init__ : List Str := ["self", "value"]
theorem sc_InvalidSize___init__ : FnScope N_InvalidSize___init__ ["self", "value"] (defScope s_InvalidSize___init__) := ⟨rfl, rfl, rfl, by decide +kernel, rfl, by decide +kernel, by decide +kernel⟩
abbrev s_InvalidNumber___init__ : Stmt := HS.inS (topS 6) 0
abbrev N_InvalidNumber___init__ : List Str := ["self", "value"]
theorem sc_InvalidNumber___init__ : FnScope N_InvalidNumber___init__ ["self", "value"] (defScope s_InvalidNumber___init__) := ⟨rfl, rfl, rfl, by decide +kernel, rfl, by decide +kernel, by decide +kernel⟩
abbrev s__law_source : Stmt := topS 23
abbrev N__law_source : List Str := ["script", "mix", "digits", "cell", "span"]
theorem sc__law_source : FnScope N__law_source ["script"] (defScope s__law_source) := ⟨rfl, rfl, rfl, by decide +kernel, rfl, by decide +kernel, by decide +kernel⟩
abbrev s__law_draw : Stmt := topS 24
abbrev N__law_draw : List Str := ["source", "many", "drawn", "mixed"]
theorem sc__law_draw : FnScope N__law_draw ["source", "many"] (defScope s__law_draw) := ⟨rfl, rfl, rfl, by decide +kernel, rfl, by decide +kernel, by decide +kernel⟩
abbrev s__law_lengths : Stmt := topS 26
abbrev N__law_lengths : List Str := ["source", "many", "wide", "part"]
theorem sc__law_lengths : FnScope N__law_lengths ["source", "many"] (defScope s__law_lengths) := ⟨rfl, rfl, rfl, by decide +kernel, rfl, by decide +kernel, by decide +kernel⟩
abbrev s__law_wide : Stmt := topS 27
abbrev N__law_wide : List Str := ["source", "lengths", "one", "some"]
theorem sc__law_wide : FnScope N__law_wide ["source", "lengths"] (defScope s__law_wide) := ⟨rfl, rfl, rfl, by decide +kernel, rfl, by decide +kernel, by decide +kernel⟩
abbrev s__law_sheets : Stmt := topS 28
abbrev N__law_sheets : List Str := ["long", "wide"]
theorem sc__law_sheets : FnScope N__law_sheets ["long", "wide"] (defScope s__law_sheets) := ⟨rfl, rfl, rfl, by decide +kernel, rfl, by decide +kernel, by decide +kernel⟩
abbrev s__law_same : Stmt := topS 25
abbrev N__law_same : List Str := ["found", "wanted", "k"]
theorem sc__law_same : FnScope N__law_same ["found", "wanted"] (defScope s__law_same) := ⟨rfl, rfl, rfl, by decide +kernel, rfl, by decide +kernel, by decide +kernel⟩
abbrev s__law_error : Stmt := topS 30
abbrev N__law_error : List Str := ["e", "held", "names", "name", "is_one"]
theorem sc__law_error : FnScope N__law_error ["e"] (defScope s__law_error) := ⟨rfl, rfl, rfl, by decide +kernel, rfl, by decide +kernel, by decide +kernel⟩
abbrev s__law_total : Stmt := topS 29
abbrev N__law_total : List Str := ["lengths", "wide", "found", "long"]
theorem sc__law_total : FnScope N__law_total ["lengths", "wide"] (defScope s__law_total) := ⟨rfl, rfl, rfl, by decide +kernel, rfl, by decide +kernel, by decide +kernel⟩
abbrev s_check_book : Stmt := topS 10
abbrev N_check_book : List Str := ["book", "index", "length"]
theorem sc_check_book : FnScope N_check_book ["book"] (defScope s_check_book) := ⟨rfl, rfl, rfl, by decide +kernel, rfl, by decide +kernel, by decide +kernel⟩
abbrev s_check_size : Stmt := topS 11
abbrev N_check_size : List Str := ["size"]
theorem sc_check_size : FnScope N_check_size ["size"] (defScope s_check_size) := ⟨rfl, rfl, rfl, by decide +kernel, rfl, by decide +kernel, by decide +kernel⟩
abbrev s_count_pages : Stmt := topS 19
abbrev N_count_pages : List Str := ["book", "size", "length"]
theorem sc_count_pages : FnScope N_count_pages ["book", "size"] (defScope s_count_pages) := ⟨rfl, rfl, rfl, by decide +kernel, rfl, by decide +kernel, by decide +kernel⟩
abbrev s_chapter_pages : Stmt := topS 20
abbrev N_chapter_pages : List Str := ["length", "size"]
theorem sc_chapter_pages : FnScope N_chapter_pages ["length", "size"] (defScope s_chapter_pages) := ⟨rfl, rfl, rfl, by decide +kernel, rfl, by decide +kernel, by decide +kernel⟩
abbrev s_find_chapter : Stmt := topS 21
abbrev N_find_chapter : List Str := ["book", "size", "page", "chapter", "before", "after"]
theorem sc_find_chapter : FnScope N_find_chapter ["book", "size", "page"] (defScope s_find_chapter) := ⟨rfl, rfl, rfl, by decide +kernel, rfl, by decide +kernel, by decide +kernel⟩
abbrev s_check_not_negative : Stmt := topS 13
abbrev N_check_not_negative : List Str := ["number"]
theorem sc_check_not_negative : FnScope N_check_not_negative ["number"] (defScope s_check_not_negative) := ⟨rfl, rfl, rfl, by decide +kernel, rfl, by decide +kernel, by decide +kernel⟩
abbrev s_check_number : Stmt := topS 12
abbrev N_check_number : List Str := ["number", "least", "greatest"]
theorem sc_check_number : FnScope N_check_number ["number", "least", "greatest"] (defScope s_check_number) := ⟨rfl, rfl, rfl, by decide +kernel, rfl, by decide +kernel, by decide +kernel⟩
abbrev s_pages : Stmt := topS 15
abbrev N_pages : List Str := ["book", "size"]
theorem sc_pages : FnScope N_pages ["book", "size"] (defScope s_pages) := ⟨rfl, rfl, rfl, by decide +kernel, rfl, by decide +kernel, by decide +kernel⟩
abbrev s_page_of : Stmt := topS 16
abbrev N_page_of : List Str := ["book", "size", "chapter", "line"]
theorem sc_page_of : FnScope N_page_of ["book", "size", "chapter", "line"] (defScope s_page_of) := ⟨rfl, rfl, rfl, by decide +kernel, rfl, by decide +kernel, by decide +kernel⟩
abbrev s_lines_on : Stmt := topS 17
abbrev N_lines_on : List Str := ["book", "size", "page", "chapter", "before", "first", "last"]
theorem sc_lines_on : FnScope N_lines_on ["book", "size", "page"] (defScope s_lines_on) := ⟨rfl, rfl, rfl, by decide +kernel, rfl, by decide +kernel, by decide +kernel⟩
abbrev s_counts : Stmt := topS 18
abbrev N_counts : List Str := ["book", "limit", "size"]
theorem sc_counts : GScope N_counts ["book", "limit"] (defScope s_counts) := ⟨rfl, rfl, rfl, by decide +kernel, rfl, by decide +kernel, by decide +kernel⟩
abbrev s__law_low : Stmt := topS 34
abbrev N__law_low : List Str := ["source"]
theorem sc__law_low : FnScope N__law_low ["source"] (defScope s__law_low) := ⟨rfl, rfl, rfl, by decide +kernel, rfl, by decide +kernel, by decide +kernel⟩
abbrev s__law_bent : Stmt := topS 31
abbrev N__law_bent : List Str := ["source", "lengths", "found", "time", "low"]
theorem sc__law_bent : FnScope N__law_bent ["source", "lengths"] (defScope s__law_bent) := ⟨rfl, rfl, rfl, by decide +kernel, rfl, by decide +kernel, by decide +kernel⟩
abbrev s__law_dues : Stmt := topS 32
abbrev N__law_dues : List Str := ["lengths", "wide", "some", "at", "long", "part", "spot", "number", "most", "count_due", "place_due", "sheet_due"]
theorem sc__law_dues : FnScope N__law_dues ["lengths", "wide", "some"] (defScope s__law_dues) := ⟨rfl, rfl, rfl, by decide +kernel, rfl, by decide +kernel, by decide +kernel⟩
abbrev s__law_raised : Stmt := topS 33
abbrev N__law_raised : List Str := ["door", "lengths", "wide", "some", "caught", "seen", "number", "e"]
theorem sc__law_raised : FnScope N__law_raised ["door", "lengths", "wide", "some"] (defScope s__law_raised) := ⟨rfl, rfl, rfl, by decide +kernel, rfl, by decide +kernel, by decide +kernel⟩
abbrev s_law : Stmt := topS 35
abbrev N_law : List Str := ["script", "source", "k", "turn", "lengths", "wide", "part", "long", "spot", "total", "number", "some", "saved", "dues", "told", "door"]
theorem sc_law : FnScope N_law ["script"] (defScope s_law) := ⟨rfl, rfl, rfl, by decide +kernel, rfl, by decide +kernel, by decide +kernel⟩
structure Ad where
  a_InvalidBook___init__ : Addr
  d_InvalidBook___init__ : FuncData
  a_InvalidSize___init__ : Addr
  d_InvalidSize___init__ : FuncData
  a_InvalidNumber___init__ : Addr
  d_InvalidNumber___init__ : FuncData
  a__law_source : Addr
  d__law_source : FuncData
  a__law_draw : Addr
  d__law_draw : FuncData
  a__law_lengths : Addr
  d__law_lengths : FuncData
  a__law_wide : Addr
  d__law_wide : FuncData
  a__law_sheets : Addr
  d__law_sheets : FuncData
  a__law_same : Addr
  d__law_same : FuncData
  a__law_error : Addr
  d__law_error : FuncData
  a__law_total : Addr
  d__law_total : FuncData
  a_check_book : Addr
  d_check_book : FuncData
  a_check_size : Addr
  d_check_size : FuncData
  a_count_pages : Addr
  d_count_pages : FuncData
  a_chapter_pages : Addr
  d_chapter_pages : FuncData
  a_find_chapter : Addr
  d_find_chapter : FuncData
  a_check_not_negative : Addr
  d_check_not_negative : FuncData
  a_check_number : Addr
  d_check_number : FuncData
  a_pages : Addr
  d_pages : FuncData
  a_page_of : Addr
  d_page_of : FuncData
  a_lines_on : Addr
  d_lines_on : FuncData
  a_counts : Addr
  d_counts : FuncData
  a__law_low : Addr
  d__law_low : FuncData
  a__law_bent : Addr
  d__law_bent : FuncData
  a__law_dues : Addr
  d__law_dues : FuncData
  a__law_raised : Addr
  d__law_raised : FuncData
  a_law : Addr
  d_law : FuncData
  c_BookError : Addr
  c_InvalidBook : Addr
  c_InvalidSize : Addr
  c_InvalidTable : Addr
  c_InvalidChain : Addr
  c_InvalidNumber : Addr
  c_NothingToUndo : Addr
  c_Unreadable : Addr
structure Txt (K : PySem.W.Frag) (mg : Str → Option Value) (A : Ad) : Prop where
  F_InvalidBook___init__ : Fun K "__init__" "InvalidBook.__init__" s_InvalidBook___init__ A.a_InvalidBook___init__ A.d_InvalidBook___init__
  b_InvalidBook___init__ : Binds K A.d_InvalidBook___init__ ["self", "value"] []
  F_InvalidSize___init__ : Fun K "__init__" "InvalidSize.__init__" s_InvalidSize___init__ A.a_InvalidSize___init__ A.d_InvalidSize___init__
  b_InvalidSize___init__ : Binds K A.d_InvalidSize___init__ ["self", "value"] []
  F_InvalidNumber___init__ : Fun K "__init__" "InvalidNumber.__init__" s_InvalidNumber___init__ A.a_InvalidNumber___init__ A.d_InvalidNumber___init__
  b_InvalidNumber___init__ : Binds K A.d_InvalidNumber___init__ ["self", "value"] []
  F__law_source : Fun K "_law_source" "_law_source" s__law_source A.a__law_source A.d__law_source
  g__law_source : mg "_law_source" = some (.ref A.a__law_source)
  b__law_source : Binds K A.d__law_source ["script"] []
  F__law_draw : Fun K "_law_draw" "_law_draw" s__law_draw A.a__law_draw A.d__law_draw
  g__law_draw : mg "_law_draw" = some (.ref A.a__law_draw)
  b__law_draw : Binds K A.d__law_draw ["source", "many"] []
  F__law_lengths : Fun K "_law_lengths" "_law_lengths" s__law_lengths A.a__law_lengths A.d__law_lengths
  g__law_lengths : mg "_law_lengths" = some (.ref A.a__law_lengths)
  b__law_lengths : Binds K A.d__law_lengths ["source", "many"] []
  F__law_wide : Fun K "_law_wide" "_law_wide" s__law_wide A.a__law_wide A.d__law_wide
  g__law_wide : mg "_law_wide" = some (.ref A.a__law_wide)
  b__law_wide : Binds K A.d__law_wide ["source", "lengths"] []
  F__law_sheets : Fun K "_law_sheets" "_law_sheets" s__law_sheets A.a__law_sheets A.d__law_sheets
  g__law_sheets : mg "_law_sheets" = some (.ref A.a__law_sheets)
  b__law_sheets : Binds K A.d__law_sheets ["long", "wide"] []
  F__law_same : Fun K "_law_same" "_law_same" s__law_same A.a__law_same A.d__law_same
  g__law_same : mg "_law_same" = some (.ref A.a__law_same)
  b__law_same : Binds K A.d__law_same ["found", "wanted"] []
  F__law_error : Fun K "_law_error" "_law_error" s__law_error A.a__law_error A.d__law_error
  g__law_error : mg "_law_error" = some (.ref A.a__law_error)
  b__law_error : Binds K A.d__law_error ["e"] []
  F__law_total : Fun K "_law_total" "_law_total" s__law_total A.a__law_total A.d__law_total
  g__law_total : mg "_law_total" = some (.ref A.a__law_total)
  b__law_total : Binds K A.d__law_total ["lengths", "wide"] []
  F_check_book : Fun K "check_book" "check_book" s_check_book A.a_check_book A.d_check_book
  g_check_book : mg "check_book" = some (.ref A.a_check_book)
  b_check_book : Binds K A.d_check_book ["book"] []
  F_check_size : Fun K "check_size" "check_size" s_check_size A.a_check_size A.d_check_size
  g_check_size : mg "check_size" = some (.ref A.a_check_size)
  b_check_size : Binds K A.d_check_size ["size"] []
  F_count_pages : Fun K "count_pages" "count_pages" s_count_pages A.a_count_pages A.d_count_pages
  g_count_pages : mg "count_pages" = some (.ref A.a_count_pages)
  b_count_pages : Binds K A.d_count_pages ["book", "size"] []
  F_chapter_pages : Fun K "chapter_pages" "chapter_pages" s_chapter_pages A.a_chapter_pages A.d_chapter_pages
  g_chapter_pages : mg "chapter_pages" = some (.ref A.a_chapter_pages)
  b_chapter_pages : Binds K A.d_chapter_pages ["length", "size"] []
  F_find_chapter : Fun K "find_chapter" "find_chapter" s_find_chapter A.a_find_chapter A.d_find_chapter
  g_find_chapter : mg "find_chapter" = some (.ref A.a_find_chapter)
  b_find_chapter : Binds K A.d_find_chapter ["book", "size", "page"] []
  F_check_not_negative : Fun K "check_not_negative" "check_not_negative" s_check_not_negative A.a_check_not_negative A.d_check_not_negative
  g_check_not_negative : mg "check_not_negative" = some (.ref A.a_check_not_negative)
  b_check_not_negative : Binds K A.d_check_not_negative ["number"] []
  F_check_number : Fun K "check_number" "check_number" s_check_number A.a_check_number A.d_check_number
  g_check_number : mg "check_number" = some (.ref A.a_check_number)
  b_check_number : Binds K A.d_check_number ["number", "least", "greatest"] []
  F_pages : Fun K "pages" "pages" s_pages A.a_pages A.d_pages
  g_pages : mg "pages" = some (.ref A.a_pages)
  b_pages : Binds K A.d_pages ["book", "size"] []
  F_page_of : Fun K "page_of" "page_of" s_page_of A.a_page_of A.d_page_of
  g_page_of : mg "page_of" = some (.ref A.a_page_of)
  b_page_of : Binds K A.d_page_of ["book", "size", "chapter", "line"] []
  F_lines_on : Fun K "lines_on" "lines_on" s_lines_on A.a_lines_on A.d_lines_on
  g_lines_on : mg "lines_on" = some (.ref A.a_lines_on)
  b_lines_on : Binds K A.d_lines_on ["book", "size", "page"] []
  F_counts : Fun K "counts" "counts" s_counts A.a_counts A.d_counts
  g_counts : mg "counts" = some (.ref A.a_counts)
  b_counts : Binds K A.d_counts ["book", "limit"] []
  F__law_low : Fun K "_law_low" "_law_low" s__law_low A.a__law_low A.d__law_low
  g__law_low : mg "_law_low" = some (.ref A.a__law_low)
  b__law_low : Binds K A.d__law_low ["source"] []
  F__law_bent : Fun K "_law_bent" "_law_bent" s__law_bent A.a__law_bent A.d__law_bent
  g__law_bent : mg "_law_bent" = some (.ref A.a__law_bent)
  b__law_bent : Binds K A.d__law_bent ["source", "lengths"] []
  F__law_dues : Fun K "_law_dues" "_law_dues" s__law_dues A.a__law_dues A.d__law_dues
  g__law_dues : mg "_law_dues" = some (.ref A.a__law_dues)
  b__law_dues : Binds K A.d__law_dues ["lengths", "wide", "some"] []
  F__law_raised : Fun K "_law_raised" "_law_raised" s__law_raised A.a__law_raised A.d__law_raised
  g__law_raised : mg "_law_raised" = some (.ref A.a__law_raised)
  b__law_raised : Binds K A.d__law_raised ["door", "lengths", "wide", "some"] []
  F_law : Fun K "law" "law" s_law A.a_law A.d_law
  g_law : mg "law" = some (.ref A.a_law)
  b_law : Binds K A.d_law ["script"] []
  z_ValueError : mg "ValueError" = none
  z_bool : mg "bool" = none
  z_enumerate : mg "enumerate" = none
  z_int : mg "int" = none
  z_isinstance : mg "isinstance" = none
  z_len : mg "len" = none
  z_list : mg "list" = none
  z_max : mg "max" = none
  z_min : mg "min" = none
  z_range : mg "range" = none
  z_repr : mg "repr" = none
  z_str : mg "str" = none
  z_sum : mg "sum" = none
  z_tuple : mg "tuple" = none
  m_BookError : mg "BookError" = some (.ref A.c_BookError)
  m_InvalidBook : mg "InvalidBook" = some (.ref A.c_InvalidBook)
  m_InvalidSize : mg "InvalidSize" = some (.ref A.c_InvalidSize)
  m_InvalidTable : mg "InvalidTable" = some (.ref A.c_InvalidTable)
  m_InvalidChain : mg "InvalidChain" = some (.ref A.c_InvalidChain)
  m_InvalidNumber : mg "InvalidNumber" = some (.ref A.c_InvalidNumber)
  m_NothingToUndo : mg "NothingToUndo" = some (.ref A.c_NothingToUndo)
  m_Unreadable : mg "Unreadable" = some (.ref A.c_Unreadable)
  C_InvalidBook : OexC K A.c_InvalidBook
  V_InvalidBook : ExcC K A.c_InvalidBook
  X_InvalidBook : XfC K A.c_InvalidBook
  n_InvalidBook : PySem.W.findIn K (.ref A.c_InvalidBook) "value" = some none
  i_InvalidBook : PySem.W.findIn K (.ref A.c_InvalidBook) "__init__" = some (some (.ref A.a_InvalidBook___init__))
  t_InvalidBook : PySem.W.typeIn K (.ref A.a_InvalidBook___init__) = some (.type "function")
  k_InvalidBook : KBn K A.d_InvalidBook___init__ ["self", "value"] 1 ["value"] (fun us ws => us ++ ws) (fun vs zs => vs ++ zs)
  q_InvalidBook_BookError : PySem.W.kitOne K (.ref A.c_InvalidBook) (.ref A.c_BookError) = some true
  q_InvalidBook_InvalidBook : PySem.W.kitOne K (.ref A.c_InvalidBook) (.ref A.c_InvalidBook) = some true
  q_InvalidBook_InvalidSize : PySem.W.kitOne K (.ref A.c_InvalidBook) (.ref A.c_InvalidSize) = some false
  q_InvalidBook_InvalidTable : PySem.W.kitOne K (.ref A.c_InvalidBook) (.ref A.c_InvalidTable) = some false
  q_InvalidBook_InvalidChain : PySem.W.kitOne K (.ref A.c_InvalidBook) (.ref A.c_InvalidChain) = some false
  q_InvalidBook_InvalidNumber : PySem.W.kitOne K (.ref A.c_InvalidBook) (.ref A.c_InvalidNumber) = some false
  q_InvalidBook_NothingToUndo : PySem.W.kitOne K (.ref A.c_InvalidBook) (.ref A.c_NothingToUndo) = some false
  q_InvalidBook_Unreadable : PySem.W.kitOne K (.ref A.c_InvalidBook) (.ref A.c_Unreadable) = some false
  q_InvalidBook_ValueError : PySem.W.kitOne K (.ref A.c_InvalidBook) (.type "ValueError") = some true
  C_InvalidSize : OexC K A.c_InvalidSize
  V_InvalidSize : ExcC K A.c_InvalidSize
  X_InvalidSize : XfC K A.c_InvalidSize
  n_InvalidSize : PySem.W.findIn K (.ref A.c_InvalidSize) "value" = some none
  i_InvalidSize : PySem.W.findIn K (.ref A.c_InvalidSize) "__init__" = some (some (.ref A.a_InvalidSize___init__))
  t_InvalidSize : PySem.W.typeIn K (.ref A.a_InvalidSize___init__) = some (.type "function")
  k_InvalidSize : KBn K A.d_InvalidSize___init__ ["self", "value"] 1 ["value"] (fun us ws => us ++ ws) (fun vs zs => vs ++ zs)
  q_InvalidSize_BookError : PySem.W.kitOne K (.ref A.c_InvalidSize) (.ref A.c_BookError) = some true
  q_InvalidSize_InvalidBook : PySem.W.kitOne K (.ref A.c_InvalidSize) (.ref A.c_InvalidBook) = some false
  q_InvalidSize_InvalidSize : PySem.W.kitOne K (.ref A.c_InvalidSize) (.ref A.c_InvalidSize) = some true
  q_InvalidSize_InvalidTable : PySem.W.kitOne K (.ref A.c_InvalidSize) (.ref A.c_InvalidTable) = some false
  q_InvalidSize_InvalidChain : PySem.W.kitOne K (.ref A.c_InvalidSize) (.ref A.c_InvalidChain) = some false
  q_InvalidSize_InvalidNumber : PySem.W.kitOne K (.ref A.c_InvalidSize) (.ref A.c_InvalidNumber) = some false
  q_InvalidSize_NothingToUndo : PySem.W.kitOne K (.ref A.c_InvalidSize) (.ref A.c_NothingToUndo) = some false
  q_InvalidSize_Unreadable : PySem.W.kitOne K (.ref A.c_InvalidSize) (.ref A.c_Unreadable) = some false
  q_InvalidSize_ValueError : PySem.W.kitOne K (.ref A.c_InvalidSize) (.type "ValueError") = some true
  C_InvalidNumber : OexC K A.c_InvalidNumber
  V_InvalidNumber : ExcC K A.c_InvalidNumber
  X_InvalidNumber : XfC K A.c_InvalidNumber
  n_InvalidNumber : PySem.W.findIn K (.ref A.c_InvalidNumber) "value" = some none
  i_InvalidNumber : PySem.W.findIn K (.ref A.c_InvalidNumber) "__init__" = some (some (.ref A.a_InvalidNumber___init__))
  t_InvalidNumber : PySem.W.typeIn K (.ref A.a_InvalidNumber___init__) = some (.type "function")
  k_InvalidNumber : KBn K A.d_InvalidNumber___init__ ["self", "value"] 1 ["value"] (fun us ws => us ++ ws) (fun vs zs => vs ++ zs)
  q_InvalidNumber_BookError : PySem.W.kitOne K (.ref A.c_InvalidNumber) (.ref A.c_BookError) = some true
  q_InvalidNumber_InvalidBook : PySem.W.kitOne K (.ref A.c_InvalidNumber) (.ref A.c_InvalidBook) = some false
  q_InvalidNumber_InvalidSize : PySem.W.kitOne K (.ref A.c_InvalidNumber) (.ref A.c_InvalidSize) = some false
  q_InvalidNumber_InvalidTable : PySem.W.kitOne K (.ref A.c_InvalidNumber) (.ref A.c_InvalidTable) = some false
  q_InvalidNumber_InvalidChain : PySem.W.kitOne K (.ref A.c_InvalidNumber) (.ref A.c_InvalidChain) = some false
  q_InvalidNumber_InvalidNumber : PySem.W.kitOne K (.ref A.c_InvalidNumber) (.ref A.c_InvalidNumber) = some true
  q_InvalidNumber_NothingToUndo : PySem.W.kitOne K (.ref A.c_InvalidNumber) (.ref A.c_NothingToUndo) = some false
  q_InvalidNumber_Unreadable : PySem.W.kitOne K (.ref A.c_InvalidNumber) (.ref A.c_Unreadable) = some false
  q_InvalidNumber_ValueError : PySem.W.kitOne K (.ref A.c_InvalidNumber) (.type "ValueError") = some true
  e_InvalidBook_BookError : PySem.W.exmOne K (.ref A.c_InvalidBook) (.ref A.c_BookError) = some true
  e_InvalidSize_BookError : PySem.W.exmOne K (.ref A.c_InvalidSize) (.ref A.c_BookError) = some true
  e_InvalidNumber_BookError : PySem.W.exmOne K (.ref A.c_InvalidNumber) (.ref A.c_BookError) = some true
  s_InvalidBook : PySem.W.subIn K (.ref A.c_InvalidBook) (.type "StopIteration") = some false
  s_InvalidNumber : PySem.W.subIn K (.ref A.c_InvalidNumber) (.type "StopIteration") = some false
/-- an exception of this class with this value is taken -/
def ErrIs (E : XK) (H : Hp) (c : Addr) (v : Int) : Prop := ∀ H' d, HS.Keep (fun _ => False) H H' → H d = none → H' d = some (.xd [("value", .int v)]) → E (.ref c) (some d) H'
theorem ErrIs.mono {E : XK} {H H1 : Hp} {c : Addr} {v : Int} (K1 : HS.Keep (fun _ => False) H H1) (h : ErrIs E H c v) : ErrIs E H1 c v := fun H' d K2 hd e => h H' d (K1.trans K2) (K1.free hd id) e
def clsD (A : Ad) : Nat → Addr
  | 0 => A.c_InvalidBook
  | 1 => A.c_InvalidSize
  | _ => A.c_InvalidNumber
/-- what is due: the class's number, the value -/
def bookD (ls : List Int) : Option (Nat × Int) := (badAt ls).map fun i => (0, (i : Int))
def pagesD (ls : List Int) (j : Int) : Option (Nat × Int) := match bookD ls with | some e => some e | none => if j < 1 then some (1, j) else none
def pageOfD (ls : List Int) (j c i : Int) : Option (Nat × Int) := match pagesD ls j with | some e => some e | none => if ¬ (1 ≤ c ∧ c ≤ ls.length) then some (2, c) else if ¬ (1 ≤ i ∧ i ≤ ls.getD (c - 1).toNat 0) then some (2, i) else none
def linesD (ls : List Int) (j q : Int) : Option (Nat × Int) := match pagesD ls j with | some e => some e | none => if ¬ (1 ≤ q ∧ q ≤ pcount ls j) then some (2, q) else none
def countsD (ls : List Int) (m : Int) : Option (Nat × Int) := match bookD ls with | some e => some e | none => if m < 0 then some (2, m) else none
theorem badAt_pos {ls : List Int} (h : badAt ls = none) : ∀ x ∈ ls, 1 ≤ x := fun x hx => by
  by_cases hx1 : x < 1
  · obtain ⟨i, e⟩ := badAt_some ⟨x, hx, hx1⟩
    rw [h] at e; cases e
  · omega
/-- none further from 0 than 10 ** 30 -/
def Near (ls : List Int) : Prop := ∀ x ∈ ls, -(10 ^ 30) < x ∧ x < 10 ^ 30
def nameD : Nat → Str
  | 0 => "InvalidBook"
  | 1 => "InvalidSize"
  | _ => "InvalidNumber"
/-- what is told of an error, or None -/
def ResD (e : Option (Nat × Int)) (H : Hp) (v : V) : Prop := match e with
  | none => v = .non
  | some (c, x) => ∃ p, v = .ref p ∧ H p = some (.lst [.str (nameD c), .int x, .bl true])
theorem ResD.keep {e : Option (Nat × Int)} {H H' : Hp} {v : V} (K1 : HS.Keep (fun _ => False) H H') (h : ResD e H v) : ResD e H' v := by
  cases e with
  | none => exact h
  | some e => obtain ⟨p, q, z⟩ := h; exact ⟨p, q, K1 _ _ z id⟩
theorem ResD.same {K : PySem.W.Frag} {e : Option (Nat × Int)} {H : Hp} {v w : V} {n : Nat} (h : ResD e H v) (g : ResD e H w) : HS.SmV K H (n + 1) v w := by
  cases e with
  | none =>
    have h : v = .non := h
    have g : w = .non := g
    rw [h, g]; exact .non
  | some e =>
    obtain ⟨p, rfl, z⟩ := h
    obtain ⟨q, rfl, y⟩ := g
    refine .lst z y rfl (show 3 ≤ 1000 by decide) fun i x y g1 g2 => ?_
    rw [g1] at g2
    cases g2
    match i, g1 with
    | 0, g1 => cases g1; exact .str _
    | 1, g1 => cases g1; exact .int _
    | 2, g1 => cases g1; exact .bl _
    | _ + 3, g1 => cases g1
/-- the error of a door -/
def dueD (ls : List Int) (dr j c i q m : Int) : Option (Nat × Int) := if dr = 0 then pagesD ls j else if dr = 1 then pageOfD ls j c i else if dr = 2 then linesD ls j q else countsD ls m
theorem countsD_cls {ls : List Int} {m : Int} {c : Nat} {v : Int} (h : countsD ls m = some (c, v)) : c = 0 ∨ c = 2 := by
  unfold countsD bookD at h
  cases e : badAt ls with
  | some i => rw [e] at h; cases h; exact .inl rfl
  | none =>
    rw [e] at h
    have h : (if m < 0 then some (2, m) else none) = some (c, v) := h
    by_cases hm : m < 0
    · rw [if_pos hm] at h; cases h; exact .inr rfl
    · rw [if_neg hm] at h; cases h
theorem ResD.put {e : Option (Nat × Int)} {H : Hp} {D : Addr} {us : List V} {o : HO} {w : V} (hD : H D = some (.lst us)) (all : ∀ (n : Nat) v, us[n]? = some v → ∃ e', ResD e' H v) (h : ResD e H w) : ResD e (upd H D o) w := by
  cases e with
  | none => exact h
  | some e =>
    obtain ⟨p, rfl, z⟩ := h
    have ne : p ≠ D := fun z2 => by
      subst z2
      rw [hD] at z
      cases z
      obtain ⟨e', r⟩ := all 0 _ rfl
      cases e' with
      | none => cases r
      | some e' => obtain ⟨_, z3, _⟩ := r; cases z3
    exact ⟨p, rfl, by rw [upd_ne ne]; exact z⟩

section
variable {P : Program} {w : World} {K : PySem.W.Frag} {mg : Str → Option Value} {base : Heap} {A : Ad}
def sp_InvalidBook___init__ (K : PySem.W.Frag) : Sp := fun vs H Q _ => ∃ (a C : Addr) (w : V), vs = [.ref a, w] ∧ (OexC K C ∧ PySem.W.findIn K (.ref C) "value" = some none ∧ H a = some (exo a C none) ∧ ∀ H' d, HS.Keep (fun x => x = a) H H' → H d = none → d ≠ a → H' a = some (exo a C (some d)) → H' d = some (exd d [("value", w)]) → Q .non H')
theorem ok_InvalidBook___init__ (T : Txt K mg A) : FnOk P w K mg base CX0 1 A.a_InvalidBook___init__ A.d_InvalidBook___init__ ["self", "value"] (sp_InvalidBook___init__ K) := by
  refine T.F_InvalidBook___init__.ok sc_InvalidBook___init__ (fun vs H Q E h => ?_) (fun cdv A0 outer s H vs Q E hr h => ?_)
  · obtain ⟨a, C, w, rfl, hw⟩ := h
    rfl
  · obtain ⟨a, C, w, rfl, hw⟩ := h
    refine ⟨_, (pss_one (ps_ost (pv 0) (pv 1))), ?_⟩
    obtain ⟨T1, hv, ha, k⟩ := hw
    walk_at "hs"
    refine ⟨a, C, rfl, T1, hv, .inl ⟨ha, fun d hd hne => ?_⟩⟩
    walk_at "hs"
    exact k _ d ((HS.Keep.new hd).at rfl) hd (by first | exact hne | exact Ne.symm hne) upd_same (by rw [upd_ne hne]; exact upd_same)
def sp_InvalidSize___init__ (K : PySem.W.Frag) : Sp := fun vs H Q _ => ∃ (a C : Addr) (w : V), vs = [.ref a, w] ∧ (OexC K C ∧ PySem.W.findIn K (.ref C) "value" = some none ∧ H a = some (exo a C none) ∧ ∀ H' d, HS.Keep (fun x => x = a) H H' → H d = none → d ≠ a → H' a = some (exo a C (some d)) → H' d = some (exd d [("value", w)]) → Q .non H')
theorem ok_InvalidSize___init__ (T : Txt K mg A) : FnOk P w K mg base CX0 1 A.a_InvalidSize___init__ A.d_InvalidSize___init__ ["self", "value"] (sp_InvalidSize___init__ K) := by
  refine T.F_InvalidSize___init__.ok sc_InvalidSize___init__ (fun vs H Q E h => ?_) (fun cdv A0 outer s H vs Q E hr h => ?_)
  · obtain ⟨a, C, w, rfl, hw⟩ := h
    rfl
  · obtain ⟨a, C, w, rfl, hw⟩ := h
    refine ⟨_, (pss_one (ps_ost (pv 0) (pv 1))), ?_⟩
    obtain ⟨T1, hv, ha, k⟩ := hw
    walk_at "hs"
    refine ⟨a, C, rfl, T1, hv, .inl ⟨ha, fun d hd hne => ?_⟩⟩
    walk_at "hs"
    exact k _ d ((HS.Keep.new hd).at rfl) hd (by first | exact hne | exact Ne.symm hne) upd_same (by rw [upd_ne hne]; exact upd_same)
def sp_InvalidNumber___init__ (K : PySem.W.Frag) : Sp := fun vs H Q _ => ∃ (a C : Addr) (w : V), vs = [.ref a, w] ∧ (OexC K C ∧ PySem.W.findIn K (.ref C) "value" = some none ∧ H a = some (exo a C none) ∧ ∀ H' d, HS.Keep (fun x => x = a) H H' → H d = none → d ≠ a → H' a = some (exo a C (some d)) → H' d = some (exd d [("value", w)]) → Q .non H')
theorem ok_InvalidNumber___init__ (T : Txt K mg A) : FnOk P w K mg base CX0 1 A.a_InvalidNumber___init__ A.d_InvalidNumber___init__ ["self", "value"] (sp_InvalidNumber___init__ K) := by
  refine T.F_InvalidNumber___init__.ok sc_InvalidNumber___init__ (fun vs H Q E h => ?_) (fun cdv A0 outer s H vs Q E hr h => ?_)
  · obtain ⟨a, C, w, rfl, hw⟩ := h
    rfl
  · obtain ⟨a, C, w, rfl, hw⟩ := h
    refine ⟨_, (pss_one (ps_ost (pv 0) (pv 1))), ?_⟩
    obtain ⟨T1, hv, ha, k⟩ := hw
    walk_at "hs"
    refine ⟨a, C, rfl, T1, hv, .inl ⟨ha, fun d hd hne => ?_⟩⟩
    walk_at "hs"
    exact k _ d ((HS.Keep.new hd).at rfl) hd (by first | exact hne | exact Ne.symm hne) upd_same (by rw [upd_ne hne]; exact upd_same)
def sp__law_source (K : PySem.W.Frag) : Sp := fun vs H Q _ => ∃ (a : Addr) (ns : List Int), vs = [.ref a] ∧ (SqL K H a (ns.map V.int) ∧ ns.length ≤ 63 ∧ ∀ H' s d, HS.Keep (fun _ => False) H H' → H s = none → H d = none → Src H' s d 0 → Q (.ref s) H')
theorem ok__law_source (T : Txt K mg A) : FnOk P w K mg base CX0 1 A.a__law_source A.d__law_source ["script"] (sp__law_source K) := by
  refine T.F__law_source.ok sc__law_source (fun vs H Q E h => ?_) (fun cdv A0 outer s H vs Q E hr h => ?_)
  · obtain ⟨a, ns, rfl, hw⟩ := h
    rfl
  · obtain ⟨a, ns, rfl, hw⟩ := h
    refine ⟨_, (pss_cons (ps_set (i := 1) sc__law_source.nd rfl (.inl rfl) pe_int)
    (pss_cons (ps_set (i := 2) sc__law_source.nd rfl (.inl rfl) (pe_lst pa_nil))
    (pss_cons (ps_for PassesOwn.never rfl (HS.kil K (pi_list (pv 0))) (pg_name (i := 3) sc__law_source.nd rfl (.inl rfl))
      (pss_cons (ps_set (i := 1) sc__law_source.nd rfl (.inl rfl) (pe_op op_mod (pe_op op_add (pe_op op_mul (pv 1) pe_int) (pv 3)) (HS.pe_fold (2305843009213693951) (pe_op op_sub (pe_op op_pow pe_int pe_int) pe_int) (by intro σ H Q q; walk_at "fold"))))
    (pss_cons (ps_set (i := 4) sc__law_source.nd rfl (.inl rfl) (pe_callB (call_max2 rfl) (by rfl) T.z_max (by decide +kernel) (pa_cons (pv 3) (pa_cons (pe_op op_sub pe_int (pv 3)) pa_nil))))
    (pss_one (ps_if (pt_cmpR op_ge (pv 4) (HS.pe_fold (1000000000000000000) (pe_op op_pow pe_int pe_int) (by intro σ H Q q; walk_at "fold")) (nomark _))
      (pss_one (ps_expr (HS.kbm K (pe_bm PySem.F.plainAttrs_list PySem.F.slot_list_append PySem.F.type_list_append mt_append (pv 2) (pa_cons (pe_op op_sub (pv 4) (HS.pe_fold (1000000000000000000) (pe_op op_pow pe_int pe_int) (by intro σ H Q q; walk_at "fold"))) pa_nil)))))
      pss_nil)))))
    (pss_one (ps_ret (pe_lst (pa_cons (pv 2) (pa_cons pe_int (pa_cons (pv 1) (pa_cons pe_int pa_nil)))))))))), ?_⟩
    obtain ⟨hS, hl, k⟩ := hw
    walk_at "hs"
    intro d hd
    walk_at "hs"
    refine ⟨⟨_, HS.Keep.sq (S := fun _ => False) (HS.Keep.new hd) hS id⟩, for_list (xs := ns.map V.int) (fun i σ H1 => HS.Keep (fun _ => False) H H1 ∧ ∃ (gs : List Int) (m : Int) (x3 x4 : Option V), σ = [some (.ref a), some (.int m), some (.ref d), x3, x4] ∧ H1 d = some (.lst (gs.map V.int)) ∧ (∀ x ∈ gs, 0 ≤ x) ∧ gs.length ≤ i ∧ 0 ≤ m ∧ m < 2 ^ 61) ?_ ?_ ?_ ?_⟩
    · exact ⟨.new hd, [], _, _, _, rfl, upd_same, by simp, Nat.le_refl _, by decide, by decide⟩
    · rintro i σ H1 _ ⟨K1, _⟩
      exact K1.sq hS id
    · rintro i x σ H1 hi ⟨K1, gs, m, x3, x4, rfl, hgd, hg0, hgl, hm0, hm1⟩
      obtain ⟨z, rfl, _, hil⟩ := HS.get_int hi
      walk_at "hs"
      have b0 : 0 ≤ (m * 1000033 + z) % 2305843009213693951 := Int.emod_nonneg _ (by decide)
      have b1 : (m * 1000033 + z) % 2305843009213693951 < 2 ^ 61 := Int.lt_trans (Int.emod_lt_of_pos _ (by decide)) (by decide)
      generalize hz : (if 0 - z > z then 0 - z else z) = y
      refine HS.itd (fun hy => ?_) (fun hy => ?_)
      · walk_at "hs"
        refine ⟨K1.put hd, gs ++ [y - 1000000000000000000], _, _, _, rfl, ?_, ?_, by simp; omega, b0, b1⟩
        · rw [upd_same, List.map_append]; rfl
        · intro x hx
          rcases List.mem_append.mp hx with hx | hx
          · exact hg0 x hx
          · rw [List.mem_singleton] at hx; omega
      · walk_at "hs"
        exact ⟨K1, gs, _, _, _, rfl, hgd, hg0, by omega, b0, b1⟩
    · rintro σ H1 ⟨K1, gs, m, x3, x4, rfl, hgd, hg0, hgl, hm0, hm1⟩
      walk_at "hs"
      intro s hs
      rw [List.length_map] at hgl
      refine k _ s d (K1.trans (.new hs)) (K1.free hs id) hd ⟨(ne_of_none hgd hs).symm, gs, 0, m, 0, upd_same, by walk_at "hp", hg0, by omega, by decide, hm0, hm1, by decide, by decide⟩
def sp__law_draw (K : PySem.W.Frag) : Sp := fun vs H Q _ => ∃ (s d : Addr) (many : Int) (n : Nat), vs = [.ref s, .int many] ∧ (Src H s d n ∧ 0 < many ∧ many < 2 ^ 200 ∧ n < 2 ^ 40 ∧ ∀ H' v, HS.Keep (fun a => a = s ∨ a = d) H H' → Src H' s d (n + 1) → 0 ≤ v → v < many → Q (.int v) H')
theorem ok__law_draw (T : Txt K mg A) : FnOk P w K mg base CX0 1 A.a__law_draw A.d__law_draw ["source", "many"] (sp__law_draw K) := by
  refine T.F__law_draw.ok sc__law_draw (fun vs H Q E h => ?_) (fun cdv A0 outer s H vs Q E hr h => ?_)
  · obtain ⟨s, d, many, n, rfl, hw⟩ := h
    rfl
  · obtain ⟨s, d, many, n, rfl, hw⟩ := h
    refine ⟨_, (Evl.pss_cut (ps_while PassesOwn.never (PW.pt (pw_and (pt_cmpR op_lt (pe_ix (HS.ixl K) (pv 0) pe_int (fun _ _ => rfl)) pe_int (nomark _)) (pw_and1 (pt_cmpR (HS.kne K (hu64 hr)) (pe_ix (HS.ixl K) (pv 0) pe_int (fun _ _ => rfl)) (pe_lst pa_nil) (nomark _)))))
      (pss_one (ps_asg (HS.kbm K (pe_bm PySem.F.plainAttrs_list PySem.F.slot_list_pop PySem.F.type_list_pop mt_popAt (pe_ix (HS.ixl K) (pv 0) pe_int (fun _ _ => rfl)) (pa_cons pe_int pa_nil))) (pg_sub (pv 0) pe_int set_list))))
    (pss_cons (ps_if (pt_cmpR op_ge (pe_ix (HS.ixl K) (pv 0) pe_int (fun _ _ => rfl)) pe_int (nomark _))
      (pss_cons (ps_set (i := 2) sc__law_draw.nd rfl (.inl rfl) (pe_op op_mod (pe_ix (HS.ixl K) (pv 0) pe_int (fun _ _ => rfl)) (pv 1)))
    (pss_cons (ps_asg (pe_op op_fdivW (pe_ix (HS.ixl K) (pv 0) pe_int (fun _ _ => rfl)) (pv 1)) (pg_sub (pv 0) pe_int set_list))
    (pss_one (ps_ret (pv 2)))))
      pss_nil)
    (pss_cons (ps_asg (pe_op op_add (pe_ix (HS.ixl K) (pv 0) pe_int (fun _ _ => rfl)) pe_int) (pg_sub (pv 0) pe_int set_list))
    (pss_cons (ps_set (i := 3) sc__law_draw.nd rfl (.inl rfl) (pe_op op_mulW (pe_op op_add (pe_ix (HS.ixl K) (pv 0) pe_int (fun _ _ => rfl)) pe_int) (pe_op op_pow (pe_op op_add (pe_ix (HS.ixl K) (pv 0) pe_int (fun _ _ => rfl)) pe_int) pe_int)))
    (pss_cons (ps_set (i := 3) sc__law_draw.nd rfl (.inl rfl) (pe_op op_mod (pe_op op_add (pv 3) (pe_op op_mul pe_int (pe_ix (HS.ixl K) (pv 0) pe_int (fun _ _ => rfl)))) (HS.pe_fold (2305843009213693951) (pe_op op_sub (pe_op op_pow pe_int pe_int) pe_int) (by intro σ H Q q; walk_at "fold"))))
    (pss_one (ps_ret (pe_op op_mod (pe_op op_fdivW (pe_op op_mod (pe_op op_pow (pv 3) pe_int) (HS.pe_fold (1000000000000000009) (pe_op op_add (pe_op op_pow pe_int pe_int) pe_int) (by intro σ H Q q; walk_at "fold"))) pe_int) (pv 1))))))))), ?_⟩
    obtain ⟨S0, hm0, hm1, hn, k⟩ := hw
    obtain ⟨hsd, gs0, l0, m0, c0, hs0, hd0, hg0, hgl0, hl0, hm00, hm01, hc0, hc1⟩ := S0
    refine HS.cut (fun σ H1 => σ = [some (.ref s), some (.int many), none, none] ∧ HS.Keep (fun a => a = s ∨ a = d) H H1 ∧ ∃ (gs : List Int) (l : Int), H1 s = some (.lst [.ref d, .int l, .int m0, .int c0]) ∧ H1 d = some (.lst (gs.map V.int)) ∧ (∀ x ∈ gs, 0 ≤ x) ∧ gs.length ≤ 63 ∧ 0 ≤ l) ?_ ?_
    · refine ⟨fun j σ H1 => σ = [some (.ref s), some (.int many), none, none] ∧ HS.Keep (fun a => a = s ∨ a = d) H H1 ∧ ∃ (gs : List Int) (l : Int), gs.length = j ∧ H1 s = some (.lst [.ref d, .int l, .int m0, .int c0]) ∧ H1 d = some (.lst (gs.map V.int)) ∧ (∀ x ∈ gs, 0 ≤ x) ∧ gs.length ≤ 63 ∧ 0 ≤ l, ⟨_, rfl, .refl, gs0, l0, rfl, hs0, hd0, hg0, hgl0, hl0⟩, ?_⟩
      rintro j σ H1 ⟨rfl, K1, gs, l, rfl, hs1, hd1, hg1, hgl1, hl1⟩
      walk_at "hs"
      refine HS.itd (fun hl => ?_) (fun hl => ?_)
      · walk_at "hs"
        intro p hp
        refine HS.neL (ys := []) (HS.sq (by walk_at "hp")) (HS.sq upd_same) ?_
        walk_at "hs"
        refine HS.itn (fun hgs => ?_) (fun hgs => ?_)
        · cases gs with
          | nil => exact absurd rfl hgs
          | cons y ys =>
            refine ⟨fun σ' H' => σ' = [some (.ref s), some (.int many), none, none] ∧ HS.Keep (fun a => a = s ∨ a = d) H H' ∧ ∃ (l : Int), H' s = some (.lst [.ref d, .int l, .int m0, .int c0]) ∧ H' d = some (.lst (ys.map V.int)) ∧ 0 ≤ l, fun σ' H' ⟨e, K', l', h1, h2, h3⟩ => ⟨ys.length, Nat.lt_succ_self _, e, K', ys, l', rfl, h1, h2, fun x hx => hg1 x (List.mem_cons_of_mem _ hx), Nat.le_of_succ_le hgl1, h3⟩, ?_⟩
            walk_at "hs"
            refine HS.pop0 (y := .int y) (ys := ys.map V.int) (by walk_at "hp") ?_
            walk_at "hs"
            exact ⟨rfl, by walk_at "kp", y, by walk_at "hp", by walk_at "hp", hg1 y List.mem_cons_self⟩
        · walk_at "hs"
          exact ⟨rfl, by walk_at "kp", gs, l, by walk_at "hp", by walk_at "hp", hg1, hgl1, hl1⟩
      · walk_at "hs"
        exact ⟨rfl, K1, gs, l, hs1, hd1, hg1, hgl1, hl1⟩
    · rintro σ H1 ⟨rfl, K1, gs, l, hs1, hd1, hg1, hgl1, hl1⟩
      walk_at "hs"
      refine HS.itd (fun hl => ?_) (fun hl => ?_)
      · walk_at "hs"
        refine ⟨HS.divW 200 hm0 hm1 (by decide) (by decide), ?_⟩
        walk_at "hs"
        exact k _ _ (by walk_at "kp") ⟨hsd, gs, l / many, m0, c0, upd_same, by walk_at "hp", hg1, hgl1, Int.ediv_nonneg hl1 (by omega), hm00, hm01, hc0, by omega⟩ (Int.emod_nonneg _ (by omega)) (Int.emod_lt_of_pos _ hm0)
      · walk_at "hs"
        obtain ⟨p0, p1⟩ := HS.pow_lt (i := c0 + 1 + 3) (a := 50) 3 (by omega) (by omega)
        have p2 : (c0 + 1 + 3) ^ Int.toNat 3 < 2 ^ 150 := by
          rcases p1 with h | h
          · exact h
          · exact absurd h (by decide)
        have p0' : 0 ≤ (c0 + 1 + 3) ^ Int.toNat 3 := p0
        generalize (c0 + 1 + 3) ^ Int.toNat 3 = cu at p2 p0' ⊢
        refine ⟨HS.mulW 62 150 (by omega) (by omega) p0' p2 (by decide) (by decide) (by decide), ?_⟩
        walk_at "hs"
        exact k _ _ (by walk_at "kp") ⟨hsd, gs, l, m0, c0 + 1, upd_same, by walk_at "hp", hg1, hgl1, hl1, hm00, hm01, by omega, by omega⟩ (Int.emod_nonneg _ (by omega)) (Int.emod_lt_of_pos _ hm0)
def sp__law_lengths (K : PySem.W.Frag) : Sp := fun vs H Q _ => ∃ (s d : Addr) (many : Int) (n : Nat), vs = [.ref s, .int many] ∧ (Src H s d n ∧ 0 ≤ many ∧ many ≤ 1000 ∧ n < 2 ^ 39 ∧ ∀ H' p (ls : List Int), HS.Keep (fun a => a = s ∨ a = d) H H' → H p = none → H' p = some (.lst (ls.map V.int)) → ls.length ≤ many → Book ls → Src H' s d (n + 2 + 2 * ls.length) → Q (.ref p) H')
theorem ok__law_lengths (T : Txt K mg A) : FnOk P w K mg base CX0 2 A.a__law_lengths A.d__law_lengths ["source", "many"] (sp__law_lengths K) := by
  have G__law_draw : FnOk P w K mg base CX0 1 A.a__law_draw A.d__law_draw ["source", "many"] (sp__law_draw K) := ok__law_draw T
  refine T.F__law_lengths.ok sc__law_lengths (fun vs H Q E h => ?_) (fun cdv A0 outer s H vs Q E hr h => ?_)
  · obtain ⟨s, d, many, n, rfl, hw⟩ := h
    rfl
  · obtain ⟨s, d, many, n, rfl, hw⟩ := h
    refine ⟨_, (pss_cons (ps_set (i := 2) sc__law_lengths.nd rfl (.inr rfl) (pe_ix (HS.ixl K) (pe_lst (pa_cons pe_int (pa_cons pe_int (pa_cons pe_int (pa_cons pe_int (pa_cons (HS.pe_fold (999999999999999999999999999999) (pe_op op_sub (pe_op op_pow pe_int pe_int) pe_int) (by intro σ H Q q; walk_at "fold")) pa_nil)))))) (pe_call G__law_draw hr (by rfl) T.g__law_draw T.F__law_draw.kp T.b__law_draw .nil pass0 (pa_cons (pv 0) (pa_cons pe_int pa_nil))) (fun _ _ => rfl)))
    (pss_one (ps_ret (pe_lc (own := [("part", 3)]) (g := gName 3) (tt := tYes) rfl sc__law_lengths.nd (pi_range1 (by rfl) T.z_range (pa_cons (pe_call G__law_draw hr (by rfl) T.g__law_draw T.F__law_draw.kp T.b__law_draw .nil pass0 (pa_cons (pv 0) (pa_cons (pe_op op_add (pv 1) pe_int) pa_nil))) pa_nil)) (blkOk_by (own := [("part", 3)]) (N := N__law_lengths) (sc := defScope s__law_lengths) (by decide +kernel)) (fun _ _ _ _ _ => pg_name (i := 3) sc__law_lengths.nd rfl (by first | exact .inl rfl | exact .inr rfl)) (fun _ _ _ _ _ => pts_nil) (fun _ _ _ _ _ => (pe_op op_add pe_int (pe_call G__law_draw hr (by rfl) T.g__law_draw T.F__law_draw.kp T.b__law_draw .nil pass0 (pa_cons (pv 0) (pa_cons (pe_ix (HS.ixl K) (pe_lst (pa_cons (pv 2) (pa_cons (pv 2) (pa_cons pe_int pa_nil)))) (pe_call G__law_draw hr (by rfl) T.g__law_draw T.F__law_draw.kp T.b__law_draw .nil pass0 (pa_cons (pv 0) (pa_cons pe_int pa_nil))) (fun _ _ => rfl)) pa_nil))))))))), ?_⟩
    obtain ⟨S0, hm0, hm1, hn, k⟩ := hw
    walk_at "hs"
    intro p1 hp1
    have e1 := S0.ne1 hp1
    have e2 := S0.ne2 hp1
    walk_at "hs"
    refine ⟨s, d, 5, n, rfl, S0.new hp1, by decide, by decide, by omega, fun H2 v K2 S2 v0 v1 => ?_⟩
    refine HS.ixI [1, 3, 9, 300, 999999999999999999999999999999] (K2.sq (HS.sq upd_same) (by walk_at "ns")) v0 v1 fun wd _ hw => ?_
    have hwd : 1 ≤ wd ∧ wd < 10 ^ 30 := by
      simp only [List.mem_cons, List.not_mem_nil, or_false] at hw
      omega
    have K2' : HS.Keep (fun a => a = s ∨ a = d) H H2 := HS.Keep.trans (HS.Keep.new hp1) K2
    walk_at "hs"
    refine ⟨s, d, many + 1, n + 1, rfl, S2, by omega, by omega, by omega, fun H3 cnt K3 S3 c0 c1 => ?_⟩
    walk_at "hs"
    refine ⟨by omega, by omega, fun D hD => ?_⟩
    have e3 := S3.ne1 hD
    have e4 := S3.ne2 hD
    have hD0 : H D = none := (K2'.trans K3).free hD (by walk_at "ns")
    refine lc_range (lo := 0) (n := cnt.toNat) (fun i H' => HS.Keep (fun a => a = s ∨ a = d) H H' ∧ ∃ ls : List Int, H' D = some (.lst (ls.map V.int)) ∧ ls.length = i ∧ Book ls ∧ Src H' s d (n + 2 + 2 * i)) ?_ ?_ ?_
    · exact ⟨(K2'.trans K3).put hD0, [], upd_same, rfl, fun x hx => absurd hx List.not_mem_nil, S3.new hD⟩
    · rintro i H4 hi ⟨K4, ls, hl, hll, hb, S4⟩
      walk_at "hs"
      intro p2 hp2
      have e5 := S4.ne1 hp2
      have e6 := S4.ne2 hp2
      walk_at "hs"
      refine ⟨s, d, 3, _, rfl, S4.new hp2, by decide, by decide, by omega, fun H5 v K5 S5 v0 v1 => ?_⟩
      refine HS.ixI [wd, wd, 4] (K5.sq (HS.sq upd_same) (by walk_at "ns")) v0 v1 fun wx _ hw => ?_
      have hwx : 1 ≤ wx ∧ wx < 10 ^ 30 := by
        simp only [List.mem_cons, List.not_mem_nil, or_false] at hw
        omega
      walk_at "hs"
      refine ⟨s, d, wx, _, rfl, S5, by omega, by omega, by omega, fun H6 u K6 S6 u0 u1 => ?_⟩
      walk_at "hs"
      have K46 : HS.Keep (fun a => a = s ∨ a = d) H4 H6 := (HS.Keep.new hp2).trans (K5.trans K6)
      have hl6 := K46 _ _ hl (by walk_at "ns")
      refine ⟨_, hl6, HS.sz (by walk_at "len"), (K4.trans K46).put hD0, ls ++ [1 + u], by rw [upd_same, List.map_append]; rfl, by walk_at "len", ?_, (S6.put e3 e4).up (by omega)⟩
      intro x hx
      rcases List.mem_append.mp hx with hx | hx
      · exact hb x hx
      · rw [List.mem_singleton] at hx; omega
    · rintro H4 ⟨K4, ls, hl, hll, hb, S4⟩
      refine k _ _ _ K4 hD0 hl (by omega) hb (S4.up (by omega))
def sp__law_wide (K : PySem.W.Frag) : Sp := fun vs H Q _ => ∃ (s d b : Addr) (ls : List Int) (n : Nat), vs = [.ref s, .ref b] ∧ (Src H s d n ∧ SqL K H b (ls.map V.int) ∧ b ≠ s ∧ b ≠ d ∧ ls.length ≤ 1000 ∧ Book ls ∧ n < 2 ^ 39 ∧ ∀ H' v, HS.Keep (fun a => a = s ∨ a = d) H H' → Src H' s d (n + 6) → 1 ≤ v → v < 10 ^ 30 → Q (.int v) H')
theorem ok__law_wide (T : Txt K mg A) : FnOk P w K mg base CX0 2 A.a__law_wide A.d__law_wide ["source", "lengths"] (sp__law_wide K) := by
  have G__law_draw : FnOk P w K mg base CX0 1 A.a__law_draw A.d__law_draw ["source", "many"] (sp__law_draw K) := ok__law_draw T
  refine T.F__law_wide.ok sc__law_wide (fun vs H Q E h => ?_) (fun cdv A0 outer s H vs Q E hr h => ?_)
  · obtain ⟨s, d, b, ls, n, rfl, hw⟩ := h
    rfl
  · obtain ⟨s, d, b, ls, n, rfl, hw⟩ := h
    refine ⟨_, (pss_cons (ps_set (i := 2) sc__law_wide.nd rfl (.inl rfl) (pe_ifExp (pt_cmpR (HS.kne K (hu64 hr)) (pv 1) (pe_lst pa_nil) (nomark _)) (pe_ix (HS.ixl K) (pv 1) (pe_call G__law_draw hr (by rfl) T.g__law_draw T.F__law_draw.kp T.b__law_draw .nil pass0 (pa_cons (pv 0) (pa_cons (pe_callB (HS.klen K) (by rfl) T.z_len PySem.boot_len (pa_cons (pv 1) pa_nil)) pa_nil))) (fun _ _ => rfl)) pe_int))
    (pss_cons (ps_set (i := 3) sc__law_wide.nd rfl (.inl rfl) (pe_lst (pa_cons (pe_op op_add pe_int (pe_call G__law_draw hr (by rfl) T.g__law_draw T.F__law_draw.kp T.b__law_draw .nil pass0 (pa_cons (pv 0) (pa_cons pe_int pa_nil)))) (pa_cons (pe_op op_sub (pe_op op_add (pv 2) (pe_call G__law_draw hr (by rfl) T.g__law_draw T.F__law_draw.kp T.b__law_draw .nil pass0 (pa_cons (pv 0) (pa_cons pe_int pa_nil)))) pe_int) (pa_cons (pe_op op_add (pe_op op_fdivW (pv 2) (pe_op op_add pe_int (pe_call G__law_draw hr (by rfl) T.g__law_draw T.F__law_draw.kp T.b__law_draw .nil pass0 (pa_cons (pv 0) (pa_cons pe_int pa_nil))))) pe_int) pa_nil)))))
    (pss_one (ps_ret (pe_callB (call_max2 rfl) (by rfl) T.z_max (by decide +kernel) (pa_cons pe_int (pa_cons (pe_callB (call_min2 rfl) (by rfl) T.z_min (by decide +kernel) (pa_cons (HS.pe_fold (999999999999999999999999999999) (pe_op op_sub (pe_op op_pow pe_int pe_int) pe_int) (by intro σ H Q q; walk_at "fold")) (pa_cons (pe_ix (HS.ixl K) (pe_op op_cat (pv 3) (pe_lst (pa_cons (pe_op op_add pe_int (pe_call G__law_draw hr (by rfl) T.g__law_draw T.F__law_draw.kp T.b__law_draw .nil pass0 (pa_cons (pv 0) (pa_cons (HS.pe_fold (999999999999999999999999999999) (pe_op op_sub (pe_op op_pow pe_int pe_int) pe_int) (by intro σ H Q q; walk_at "fold")) pa_nil)))) pa_nil))) (pe_call G__law_draw hr (by rfl) T.g__law_draw T.F__law_draw.kp T.b__law_draw .nil pass0 (pa_cons (pv 0) (pa_cons pe_int pa_nil))) (fun _ _ => rfl)) pa_nil))) pa_nil))))))), ?_⟩
    obtain ⟨S0, hb, bs, bd, hbl, hB, hn, k⟩ := hw
    walk_at "hs"
    intro p1 hp1
    have e1 := S0.ne1 hp1
    have e2 := S0.ne2 hp1
    refine HS.neL (ys := []) (HS.Keep.sq (S := fun a => a = s ∨ a = d) (HS.Keep.new hp1) hb (by walk_at "ns")) (HS.sq upd_same) ?_
    walk_at "hs"
    refine HS.iteM (fun v H' => ∃ one, v = .int one ∧ HS.Keep (fun a => a = s ∨ a = d) H H' ∧ Src H' s d (n + 1) ∧ 1 ≤ one ∧ one < 10 ^ 30) (fun hc Q' k' => ?_) (fun hc Q' k' => ?_) ?_
    · have hne : ls ≠ [] := fun z => by rw [z] at hc; exact absurd hc (by decide)
      have hpos : 0 < ls.length := List.length_pos_iff.mpr hne
      have hb' : SqL K (upd H p1 (.lst [])) b (ls.map V.int) := HS.Keep.sq (S := fun a => a = s ∨ a = d) (HS.Keep.new hp1) hb (by walk_at "ns")
      walk_at "hs"
      refine ⟨s, d, _, n, rfl, S0.new hp1, by rw [List.length_map]; omega, by rw [List.length_map]; omega, by omega, fun H2 v K2 S2 v0 v1 => ?_⟩
      rw [List.length_map] at v1
      refine HS.ixI ls (K2.sq hb' (by walk_at "ns")) v0 v1 fun z _ hz => ?_
      exact k' _ _ ⟨z, rfl, HS.Keep.trans (HS.Keep.new hp1) K2, S2, hB z hz⟩
    · exact k' _ _ ⟨7, rfl, HS.Keep.new hp1, (S0.new hp1).up (by omega), by decide, by decide⟩
    · rintro v H2 ⟨one, rfl, K2, S2, o0, o1⟩
      walk_at "hs"
      refine ⟨s, d, _, _, rfl, S2, by decide, by decide, by omega, fun H3 v3 K3 S3 v30 v31 => ?_⟩
      walk_at "hs"
      refine ⟨s, d, _, _, rfl, S3, by decide, by decide, by omega, fun H4 v4 K4 S4 v40 v41 => ?_⟩
      walk_at "hs"
      refine ⟨s, d, _, _, rfl, S4, by decide, by decide, by omega, fun H5 v5 K5 S5 v50 v51 => ?_⟩
      walk_at "hs"
      refine ⟨HS.divW 200 (by omega) (by omega) (by decide) (by decide), ?_⟩
      walk_at "hs"
      intro p2 hp2
      have e3 := S5.ne1 hp2
      have e4 := S5.ne2 hp2
      walk_at "hs"
      refine ⟨s, d, _, _, rfl, S5.new hp2, by decide, by decide, by omega, fun H6 v6 K6 S6 v60 v61 => ?_⟩
      have hp26 := K6 _ _ (upd_same (H := H5) (a := p2)) (by walk_at "ns")
      walk_at "hs"
      intro p3 hp3
      have e5 := S6.ne1 hp3
      have e6 := S6.ne2 hp3
      walk_at "hs"
      intro p4 hp4
      have S7 := (S6.new (o := .lst [.int (1 + v6)]) hp3)
      have e7 := S7.ne1 hp4
      have e8 := S7.ne2 hp4
      walk_at "hs"
      refine ⟨s, d, _, _, rfl, S7.new hp4, by decide, by decide, by omega, fun H8 v8 K8 S8 v80 v81 => ?_⟩
      have hp48 := K8 _ _ upd_same (show ¬ (p4 = s ∨ p4 = d) by walk_at "ns")
      refine HS.ixI [1 + v3, one + v4 - 1, one / (1 + v5) + 1, 1 + v6] (HS.sq hp48) v80 v81 fun z _ _ => ?_
      walk_at "hs"
      have KK : HS.Keep (fun a => a = s ∨ a = d) H H8 := K2.trans (K3.trans (K4.trans (K5.trans ((HS.Keep.new hp2).trans (K6.trans ((HS.Keep.new hp3).trans ((HS.Keep.new hp4).trans K8)))))))
      refine k _ _ KK (S8.up (by omega)) ?_ ?_
      · split <;> omega
      · split <;> split at * <;> omega
def sp__law_sheets (K : PySem.W.Frag) : Sp := fun vs H Q _ => ∃ (i j : Int), vs = [.int i, .int j] ∧ (1 ≤ j ∧ j < 2 ^ 200 ∧ Q (.int ((i + j - 1) / j)) H)
theorem ok__law_sheets (T : Txt K mg A) : FnOk P w K mg base CX0 1 A.a__law_sheets A.d__law_sheets ["long", "wide"] (sp__law_sheets K) := by
  refine T.F__law_sheets.ok sc__law_sheets (fun vs H Q E h => ?_) (fun cdv A0 outer s H vs Q E hr h => ?_)
  · obtain ⟨i, j, rfl, hw⟩ := h
    rfl
  · obtain ⟨i, j, rfl, hw⟩ := h
    refine ⟨_, (pss_one (ps_ret (pe_op op_add (pe_op op_fdivW (pv 0) (pv 1)) (pe_callTy call_int1 (by rfl) T.z_int (by decide +kernel) (pa_cons (pe_cmpR op_gt (pe_op op_mod (pv 0) (pv 1)) pe_int (nomark _)) pa_nil))))), ?_⟩
    obtain ⟨h2, h3, k⟩ := hw
    walk_at "hs"
    refine ⟨HS.divW 200 (by omega) h3 (by decide) (by decide), ?_⟩
    walk_at "hs"
    refine .inr ⟨_, rfl, ?_⟩
    walk_at "hs"
    simp only [decide_eq_true_eq]
    rw [← HS.ceil_eq h2]
    exact k
def sp__law_same : Nat → PySem.W.Frag → Sp
  | 0, _ => fun _ _ _ _ => False
  | n + 1, K => fun vs H Q _ => ∃ (x y : V), vs = [x, y] ∧ (HS.SmV K H n x y ∧ ∀ H', HS.Keep (fun _ => False) H H' → Q (.bl true) H')
theorem ok__law_same (T : Txt K mg A) (n : Nat) : FnOk P w K mg base CX0 (n + 1) A.a__law_same A.d__law_same ["found", "wanted"] (sp__law_same n K) := by
  induction n with
  | zero => exact T.F__law_same.ok sc__law_same (fun _ _ _ _ h => h.elim) (fun _ _ _ _ _ _ _ _ _ h => h.elim)
  | succ n G__law_same =>
  refine T.F__law_same.ok sc__law_same (fun vs H Q E h => ?_) (fun cdv A0 outer s H vs Q E hr h => ?_)
  · obtain ⟨x, y, rfl, hw⟩ := h
    rfl
  · obtain ⟨x, y, rfl, hw⟩ := h
    refine ⟨_, (pss_cons (ps_if (pt_cmpR op_isN (pv 1) pe_non (nomark _))
      (pss_one (ps_ret (pe_cmpR op_isN (pv 0) pe_non (nomark _))))
      pss_nil)
    (pss_cons (ps_if (pt_val (pe_callB (HS.kisi K) (by rfl) T.z_isinstance (by decide +kernel) (pa_cons (pv 1) (pa_cons (pe_bltn (v := .ty "bool") (by rfl) T.z_bool (by decide +kernel) rfl) pa_nil))))
      (pss_one (ps_ret (pe_and (pe_callB (HS.kisi K) (by rfl) T.z_isinstance (by decide +kernel) (pa_cons (pv 0) (pa_cons (pe_bltn (v := .ty "bool") (by rfl) T.z_bool (by decide +kernel) rfl) pa_nil))) (pe_one (pe_cmpR op_eq (pv 0) (pv 1) (nomark _))))))
      pss_nil)
    (pss_cons (ps_if (pt_val (pe_callB (HS.kisi K) (by rfl) T.z_isinstance (by decide +kernel) (pa_cons (pv 1) (pa_cons (pe_bltn (v := .ty "int") (by rfl) T.z_int (by decide +kernel) rfl) pa_nil))))
      (pss_one (ps_ret (pe_and (pe_callB (HS.kisi K) (by rfl) T.z_isinstance (by decide +kernel) (pa_cons (pv 0) (pa_cons (pe_bltn (v := .ty "int") (by rfl) T.z_int (by decide +kernel) rfl) pa_nil))) (pe_and (pe_not (pe_callB (HS.kisi K) (by rfl) T.z_isinstance (by decide +kernel) (pa_cons (pv 0) (pa_cons (pe_bltn (v := .ty "bool") (by rfl) T.z_bool (by decide +kernel) rfl) pa_nil)))) (pe_one (pe_cmpR op_eq (pv 0) (pv 1) (nomark _)))))))
      pss_nil)
    (pss_cons (ps_if (pt_val (pe_callB (HS.kisi K) (by rfl) T.z_isinstance (by decide +kernel) (pa_cons (pv 1) (pa_cons (pe_bltn (v := .ty "str") (by rfl) T.z_str (by decide +kernel) rfl) pa_nil))))
      (pss_one (ps_ret (pe_and (pe_callB (HS.kisi K) (by rfl) T.z_isinstance (by decide +kernel) (pa_cons (pv 0) (pa_cons (pe_bltn (v := .ty "str") (by rfl) T.z_str (by decide +kernel) rfl) pa_nil))) (pe_one (pe_cmpR op_eq (pv 0) (pv 1) (nomark _))))))
      pss_nil)
    (pss_cons (ps_if (pt_cmpR op_ne (pe_callB (HS.kisi K) (by rfl) T.z_isinstance (by decide +kernel) (pa_cons (pv 0) (pa_cons (pe_bltn (v := .ty "list") (by rfl) T.z_list (by decide +kernel) rfl) pa_nil))) (pe_callB (HS.kisi K) (by rfl) T.z_isinstance (by decide +kernel) (pa_cons (pv 1) (pa_cons (pe_bltn (v := .ty "list") (by rfl) T.z_list (by decide +kernel) rfl) pa_nil))) (nomark _))
      (pss_one (ps_ret pe_bl))
      pss_nil)
    (pss_cons (ps_if (PW.pt (pw_or (pt_cmpR op_ne (pe_callB (HS.kisi K) (by rfl) T.z_isinstance (by decide +kernel) (pa_cons (pv 0) (pa_cons (pe_bltn (v := .ty "tuple") (by rfl) T.z_tuple (by decide +kernel) rfl) pa_nil))) (pe_callB (HS.kisi K) (by rfl) T.z_isinstance (by decide +kernel) (pa_cons (pv 1) (pa_cons (pe_bltn (v := .ty "tuple") (by rfl) T.z_tuple (by decide +kernel) rfl) pa_nil))) (nomark _)) (pw_or1 (pt_cmpR op_ne (pe_callB (HS.klen K) (by rfl) T.z_len PySem.boot_len (pa_cons (pv 0) pa_nil)) (pe_callB (HS.klen K) (by rfl) T.z_len PySem.boot_len (pa_cons (pv 1) pa_nil)) (nomark _)))))
      (pss_one (ps_ret pe_bl))
      pss_nil)
    (pss_one (ps_ret (pe_cmpR (HS.keq K (hu64 hr)) (pe_lc (own := [("k", 2)]) (g := gName 2) rfl sc__law_same.nd (pi_range1 (by rfl) T.z_range (pa_cons (pe_callB (HS.klen K) (by rfl) T.z_len PySem.boot_len (pa_cons (pv 1) pa_nil)) pa_nil)) (blkOk_by (own := [("k", 2)]) (N := N__law_same) (sc := defScope s__law_same) (by decide +kernel)) (fun _ _ _ _ _ => pg_name (i := 2) sc__law_same.nd rfl (by first | exact .inl rfl | exact .inr rfl)) (fun _ _ _ _ _ => (pts_one (pt_not (pt_val (pe_call G__law_same hr (by rfl) T.g__law_same T.F__law_same.kp T.b__law_same .nil pass0 (pa_cons (pe_ix (HS.ixa K) (pv 0) (pv 2) (fun _ _ => rfl)) (pa_cons (pe_ix (HS.ixa K) (pv 1) (pv 2) (fun _ _ => rfl)) pa_nil))))))) (fun _ _ _ _ _ => (pv 2))) (pe_lst pa_nil) (nomark _)))))))))), ?_⟩
    obtain ⟨hs, k⟩ := hw
    walk_at "hs"
    refine ⟨rfl, ?_⟩
    walk_at "hs"
    cases hs with
    | non =>
      refine HS.it1 rfl ?_
      walk_at "hs"
      refine ⟨rfl, ?_⟩
      rw [decide_eq_true rfl]
      exact k _ .refl
    | bl b =>
      refine HS.it0 (fun z => nomatch z) ?_
      walk_at "hs"
      refine HS.isi true (.base (.bl b)) HS.kb_bb ?_
      walk_at "hs"
      refine HS.isi true (.base (.bl b)) HS.kb_bb ?_
      walk_at "hs"
      refine ⟨rfl, ?_⟩
      rw [decide_eq_true rfl]
      exact k _ .refl
    | int i =>
      refine HS.it0 (fun z => nomatch z) ?_
      walk_at "hs"
      refine HS.isi false (.base (.int i)) HS.kb_ib ?_
      walk_at "hs"
      refine HS.isi true (.base (.int i)) HS.kb_ii ?_
      walk_at "hs"
      refine HS.isi true (.base (.int i)) HS.kb_ii ?_
      walk_at "hs"
      refine HS.isi false (.base (.int i)) HS.kb_ib ?_
      walk_at "hs"
      try rw [if_pos (show (!false) = true from rfl)]
      walk_at "hs"
      rw [decide_eq_true rfl]
      exact k _ .refl
    | str x =>
      refine HS.it0 (fun z => nomatch z) ?_
      walk_at "hs"
      refine HS.isi false (.base (.str x)) HS.kb_sb ?_
      walk_at "hs"
      refine HS.isi false (.base (.str x)) HS.kb_si ?_
      walk_at "hs"
      refine HS.isi true (.base (.str x)) HS.kb_ss ?_
      walk_at "hs"
      refine HS.isi true (.base (.str x)) HS.kb_ss ?_
      walk_at "hs"
      refine ⟨by simp [scal], ?_⟩
      rw [decide_eq_true rfl]
      exact k _ .refl
    | lst h1 h2 h3 h4 h =>
      rename_i m pa pb xs ys
      refine HS.it0 (fun z => nomatch z) ?_
      walk_at "hs"
      refine HS.isi false (.base (.lst h2)) HS.kb_lb ?_
      walk_at "hs"
      refine HS.isi false (.base (.lst h2)) HS.kb_li ?_
      walk_at "hs"
      refine HS.isi false (.base (.lst h2)) HS.kb_ls ?_
      walk_at "hs"
      refine HS.isi true (.base (.lst h1)) HS.kb_ll ?_
      walk_at "hs"
      refine HS.isi true (.base (.lst h2)) HS.kb_ll ?_
      walk_at "hs"
      refine HS.neB ?_
      walk_at "hs"
      refine HS.in0 rfl ?_
      walk_at "hs"
      refine HS.isi false (.base (.lst h1)) HS.kb_lt ?_
      walk_at "hs"
      refine HS.isi false (.base (.lst h2)) HS.kb_lt ?_
      walk_at "hs"
      refine HS.neB ?_
      walk_at "hs"
      refine HS.in0 rfl ?_
      walk_at "hs"
      rw [h3]
      refine HS.in0 rfl ?_
      walk_at "hs"
      have h5 : ys.length ≤ 1000 := by omega
      refine ⟨by omega, by omega, fun D hD => ?_⟩
      refine lc_range (lo := 0) (n := (ys.length : Int).toNat) (fun i H' => HS.Keep (fun _ => False) H H' ∧ H' D = some (.lst [])) ⟨.new hD, upd_same⟩ ?_ ?_
      · rintro i H2 hi ⟨K2, e2⟩
        have hi2 : i < ys.length := by omega
        walk_at "hs"
        rw [Int.zero_add]
        refine .inl ⟨pa, xs, _, xs[i], rfl, rfl, HS.sq (K2 _ _ h1 id), at_of (j := i) (by omega) (List.getElem?_eq_getElem (by omega)), ?_⟩
        walk_at "hs"
        refine .inl ⟨pb, ys, _, ys[i], rfl, rfl, HS.sq (K2 _ _ h2 id), at_of (j := i) (by omega) (List.getElem?_eq_getElem hi2), ?_⟩
        walk_at "hs"
        · refine ⟨xs[i], ys[i], rfl, (h i _ _ (List.getElem?_eq_getElem (by omega)) (List.getElem?_eq_getElem hi2)).same K2, fun H3 K3 => ?_⟩
          walk_at "hs"
          exact ⟨K2.trans K3, K3 _ _ e2 id⟩
      · rintro H2 ⟨K2, e2⟩
        walk_at "hs"
        intro p hp
        refine HS.eqL (xs := []) (ys := []) (HS.Keep.sq (S := fun _ => False) (.new hp) (HS.sq e2) id) (HS.sq upd_same) ?_
        exact k _ (K2.trans (.new hp))
    | tup h1 h2 h3 h4 h =>
      rename_i m pa pb xs ys
      refine HS.it0 (fun z => nomatch z) ?_
      walk_at "hs"
      refine HS.isi false (.base (.tup h2)) HS.kb_tb ?_
      walk_at "hs"
      refine HS.isi false (.base (.tup h2)) HS.kb_ti ?_
      walk_at "hs"
      refine HS.isi false (.base (.tup h2)) HS.kb_ts ?_
      walk_at "hs"
      refine HS.isi false (.base (.tup h1)) HS.kb_tl ?_
      walk_at "hs"
      refine HS.isi false (.base (.tup h2)) HS.kb_tl ?_
      walk_at "hs"
      refine HS.neB ?_
      walk_at "hs"
      refine HS.in0 rfl ?_
      walk_at "hs"
      refine HS.isi true (.base (.tup h1)) HS.kb_tt ?_
      walk_at "hs"
      refine HS.isi true (.base (.tup h2)) HS.kb_tt ?_
      walk_at "hs"
      refine HS.neB ?_
      walk_at "hs"
      refine HS.in0 rfl ?_
      walk_at "hs"
      rw [h3]
      refine HS.in0 rfl ?_
      walk_at "hs"
      have h5 : ys.length ≤ 1000 := by omega
      refine ⟨by omega, by omega, fun D hD => ?_⟩
      refine lc_range (lo := 0) (n := (ys.length : Int).toNat) (fun i H' => HS.Keep (fun _ => False) H H' ∧ H' D = some (.lst [])) ⟨.new hD, upd_same⟩ ?_ ?_
      · rintro i H2 hi ⟨K2, e2⟩
        have hi2 : i < ys.length := by omega
        walk_at "hs"
        rw [Int.zero_add]
        refine .inr ⟨pa, xs, _, xs[i], rfl, rfl, HS.st (K2 _ _ h1 id), at_of (j := i) (by omega) (List.getElem?_eq_getElem (by omega)), ?_⟩
        walk_at "hs"
        refine .inr ⟨pb, ys, _, ys[i], rfl, rfl, HS.st (K2 _ _ h2 id), at_of (j := i) (by omega) (List.getElem?_eq_getElem hi2), ?_⟩
        walk_at "hs"
        · refine ⟨xs[i], ys[i], rfl, (h i _ _ (List.getElem?_eq_getElem (by omega)) (List.getElem?_eq_getElem hi2)).same K2, fun H3 K3 => ?_⟩
          walk_at "hs"
          exact ⟨K2.trans K3, K3 _ _ e2 id⟩
      · rintro H2 ⟨K2, e2⟩
        walk_at "hs"
        intro p hp
        refine HS.eqL (xs := []) (ys := []) (HS.Keep.sq (S := fun _ => False) (.new hp) (HS.sq e2) id) (HS.sq upd_same) ?_
        exact k _ (K2.trans (.new hp))
structure Kits7 (K : PySem.W.Frag) (A : Ad) (D : Addr) (b0 b1 b2 b3 b4 b5 b6 : Bool) : Prop where
  x : ExcC K D
  f : XfC K D
  n : PySem.W.findIn K (.ref D) "value" = some none
  e0 : PySem.W.kitOne K (.ref D) (.ref A.c_InvalidBook) = some b0
  e1 : PySem.W.kitOne K (.ref D) (.ref A.c_InvalidSize) = some b1
  e2 : PySem.W.kitOne K (.ref D) (.ref A.c_InvalidTable) = some b2
  e3 : PySem.W.kitOne K (.ref D) (.ref A.c_InvalidChain) = some b3
  e4 : PySem.W.kitOne K (.ref D) (.ref A.c_InvalidNumber) = some b4
  e5 : PySem.W.kitOne K (.ref D) (.ref A.c_NothingToUndo) = some b5
  e6 : PySem.W.kitOne K (.ref D) (.ref A.c_Unreadable) = some b6
  e7 : PySem.W.kitOne K (.ref D) (.ref A.c_BookError) = some true
  ev : PySem.W.kitOne K (.ref D) (.type "ValueError") = some true
def pick7 (b0 b1 b2 b3 b4 b5 b6 : Bool) : List (Str × Bool) := [("InvalidBook", b0), ("InvalidSize", b1), ("InvalidTable", b2), ("InvalidChain", b3), ("InvalidNumber", b4), ("NothingToUndo", b5), ("Unreadable", b6)]
def picked (ps : List (Str × Bool)) : List V := ps.filterMap fun p => if p.2 then some (.str p.1) else none
def sp__law_error (K : PySem.W.Frag) (A : Ad) : HS.SpE := fun xa xc xd vs H Q _ => ∃ (D_ d : Addr) (fs : List (Str × V)) (nm : Str) (w : V) (b0 b1 b2 b3 b4 b5 b6 : Bool), vs = [.ref xa] ∧ (xc = .ref D_ ∧ xd = some d ∧ H d = some (.xd fs) ∧ Kits7 K A D_ b0 b1 b2 b3 b4 b5 b6 ∧ picked (pick7 b0 b1 b2 b3 b4 b5 b6) = [.str nm] ∧ fs.lookup ("value" : Str) = some w ∧ ∀ H' p, HS.Keep (fun _ => False) H H' → H p = none → H' p = some (.lst [.str nm, w, .bl true]) → Q (.ref p) H')
theorem ok__law_error (T : Txt K mg A) : HS.FnE P w K mg base 1 A.a__law_error A.d__law_error ["e"] (sp__law_error K A) := by
  refine HS.Fun.okE T.F__law_error sc__law_error (fun xa xc xd vs H Q E h => ?_) (fun cdv A0 outer s H vs Q E xa oe xc xd hh hz hf hr h => ?_)
  · obtain ⟨D_, d, fs, nm, w, b0, b1, b2, b3, b4, b5, b6, rfl, hw⟩ := h
    rfl
  · obtain ⟨D_, d, fs, nm, w, b0, b1, b2, b3, b4, b5, b6, rfl, hw⟩ := h
    refine ⟨_, (pss_cons (ps_set (i := 1) sc__law_error.nd rfl (.inl rfl) (pe_lst (pa_cons (pe_tup (pa_cons pe_str (pa_cons (pe_callB (HS.call_isG K hz.zc hf List.mem_cons_self) (by rfl) T.z_isinstance (by decide +kernel) (pa_cons (pv 0) (pa_cons (pe_glob (v := .ref A.c_InvalidBook) (by rfl) T.m_InvalidBook rfl) pa_nil))) pa_nil))) (pa_cons (pe_tup (pa_cons pe_str (pa_cons (pe_callB (HS.call_isG K hz.zc hf List.mem_cons_self) (by rfl) T.z_isinstance (by decide +kernel) (pa_cons (pv 0) (pa_cons (pe_glob (v := .ref A.c_InvalidSize) (by rfl) T.m_InvalidSize rfl) pa_nil))) pa_nil))) pa_nil))))
    (pss_cons (ps_set (i := 1) sc__law_error.nd rfl (.inl rfl) (pe_op op_cat (pv 1) (pe_lst (pa_cons (pe_tup (pa_cons pe_str (pa_cons (pe_callB (HS.call_isG K hz.zc hf List.mem_cons_self) (by rfl) T.z_isinstance (by decide +kernel) (pa_cons (pv 0) (pa_cons (pe_glob (v := .ref A.c_InvalidTable) (by rfl) T.m_InvalidTable rfl) pa_nil))) pa_nil))) (pa_cons (pe_tup (pa_cons pe_str (pa_cons (pe_callB (HS.call_isG K hz.zc hf List.mem_cons_self) (by rfl) T.z_isinstance (by decide +kernel) (pa_cons (pv 0) (pa_cons (pe_glob (v := .ref A.c_InvalidChain) (by rfl) T.m_InvalidChain rfl) pa_nil))) pa_nil))) pa_nil)))))
    (pss_cons (ps_set (i := 1) sc__law_error.nd rfl (.inl rfl) (pe_op op_cat (pv 1) (pe_lst (pa_cons (pe_tup (pa_cons pe_str (pa_cons (pe_callB (HS.call_isG K hz.zc hf List.mem_cons_self) (by rfl) T.z_isinstance (by decide +kernel) (pa_cons (pv 0) (pa_cons (pe_glob (v := .ref A.c_InvalidNumber) (by rfl) T.m_InvalidNumber rfl) pa_nil))) pa_nil))) (pa_cons (pe_tup (pa_cons pe_str (pa_cons (pe_callB (HS.call_isG K hz.zc hf List.mem_cons_self) (by rfl) T.z_isinstance (by decide +kernel) (pa_cons (pv 0) (pa_cons (pe_glob (v := .ref A.c_NothingToUndo) (by rfl) T.m_NothingToUndo rfl) pa_nil))) pa_nil))) pa_nil)))))
    (pss_cons (HS.ksetE K (HS.ps_setLcE (i := 2) (own := [("name", 3), ("is_one", 4)]) (g := gTup K 2 (gCons (gName 3) (gCons (gName 4) gNil))) (HS.hotC_mk hh hz.2.2 hf List.mem_cons_self) sc__law_error.nd rfl rfl (sw_true rfl rfl rfl (by decide +kernel)) (pe_op op_cat (pv 1) (pe_lst (pa_cons (pe_tup (pa_cons pe_str (pa_cons (pe_callB (HS.call_isG K hz.zc hf List.mem_cons_self) (by rfl) T.z_isinstance (by decide +kernel) (pa_cons (pv 0) (pa_cons (pe_glob (v := .ref A.c_Unreadable) (by rfl) T.m_Unreadable rfl) pa_nil))) pa_nil))) pa_nil))) (blkOk_by (own := [("name", 3), ("is_one", 4)]) (N := N__law_error) (sc := defScope s__law_error) (by decide +kernel)) (fun _ _ _ _ _ _ hb => HS.kgt K (HS.pg_tupE hb (pgs_cons (pg_name (i := 3) sc__law_error.nd rfl (by first | exact .inl rfl | exact .inr rfl)) (pgs_cons (pg_name (i := 4) sc__law_error.nd rfl (by first | exact .inl rfl | exact .inr rfl)) pgs_nil)))) (fun _ _ _ _ _ => (pts_one (pt_val (pv 4)))) (fun _ _ _ _ _ => (pv 3))))
    (pss_one (ps_ret (pe_op op_cat (pv 2) (pe_lst (pa_cons (HS.pe_fldG K hz.zc hf List.mem_cons_self (pv 0)) (pa_cons (pe_and (pe_callB (HS.call_isG K hz.zc hf List.mem_cons_self) (by rfl) T.z_isinstance (by decide +kernel) (pa_cons (pv 0) (pa_cons (pe_glob (v := .ref A.c_BookError) (by rfl) T.m_BookError rfl) pa_nil))) (pe_one (pe_callB (HS.call_isG K hz.zc hf List.mem_cons_self) (by rfl) T.z_isinstance (by decide +kernel) (pa_cons (pv 0) (pa_cons (pe_bltn (v := .ty "ValueError") (by rfl) T.z_ValueError (by decide +kernel) rfl) pa_nil))))) pa_nil)))))))))), ?_⟩
    obtain ⟨rfl, rfl, hd, ⟨T1, T2, T3, q0, q1, q2, q3, q4, q5, q6, q7, qv⟩, hpk, hl, k⟩ := hw
    have W := HS.Wd.nil (H := H) (S := fun _ => False)
    walk_at "hs"
    refine HS.isP T1 hd q0 ?_
    walk_at "hs"
    intro t0 g0
    generalize hG_t0 : upd _ t0 _ = H0
    have Kn_t0 := HS.upgK hG_t0 g0
    replace W := W.newG hG_t0 g0
    clear hG_t0 g0
    try dsimp only [List.set, List.cons_append, List.nil_append] at W
    walk_at "hs"
    refine HS.isP T1 (W.kp _ _ hd id) q1 ?_
    walk_at "hs"
    intro t1 g1
    generalize hG_t1 : upd _ t1 _ = H1
    have Kn_t1 := HS.upgK hG_t1 g1
    replace W := W.newG hG_t1 g1
    clear hG_t1 g1
    try dsimp only [List.set, List.cons_append, List.nil_append] at W
    walk_at "hs"
    intro l1 gl1
    generalize hG_l1 : upd _ l1 _ = H2
    have Kn_l1 := HS.upgK hG_l1 gl1
    replace W := W.newG hG_l1 gl1
    clear hG_l1 gl1
    try dsimp only [List.set, List.cons_append, List.nil_append] at W
    walk_at "hs"
    refine HS.isP T1 (W.kp _ _ hd id) q2 ?_
    walk_at "hs"
    intro t2 g2
    generalize hG_t2 : upd _ t2 _ = H3
    have Kn_t2 := HS.upgK hG_t2 g2
    replace W := W.newG hG_t2 g2
    clear hG_t2 g2
    try dsimp only [List.set, List.cons_append, List.nil_append] at W
    walk_at "hs"
    refine HS.isP T1 (W.kp _ _ hd id) q3 ?_
    walk_at "hs"
    intro t3 g3
    generalize hG_t3 : upd _ t3 _ = H4
    have Kn_t3 := HS.upgK hG_t3 g3
    replace W := W.newG hG_t3 g3
    clear hG_t3 g3
    try dsimp only [List.set, List.cons_append, List.nil_append] at W
    walk_at "hs"
    intro l2 gl2
    generalize hG_l2 : upd _ l2 _ = H5
    have Kn_l2 := HS.upgK hG_l2 gl2
    replace W := W.newG hG_l2 gl2
    clear hG_l2 gl2
    try dsimp only [List.set, List.cons_append, List.nil_append] at W
    walk_at "hs"
    refine HS.cat (W.at 2 rfl) (W.at 5 rfl) ?_
    walk_at "hs"
    intro c1 gc1
    generalize hG_c1 : upd _ c1 _ = H6
    have Kn_c1 := HS.upgK hG_c1 gc1
    replace W := W.newG hG_c1 gc1
    clear hG_c1 gc1
    try dsimp only [List.set, List.cons_append, List.nil_append] at W
    walk_at "hs"
    refine HS.isP T1 (W.kp _ _ hd id) q4 ?_
    walk_at "hs"
    intro t4 g4
    generalize hG_t4 : upd _ t4 _ = H7
    have Kn_t4 := HS.upgK hG_t4 g4
    replace W := W.newG hG_t4 g4
    clear hG_t4 g4
    try dsimp only [List.set, List.cons_append, List.nil_append] at W
    walk_at "hs"
    refine HS.isP T1 (W.kp _ _ hd id) q5 ?_
    walk_at "hs"
    intro t5 g5
    generalize hG_t5 : upd _ t5 _ = H8
    have Kn_t5 := HS.upgK hG_t5 g5
    replace W := W.newG hG_t5 g5
    clear hG_t5 g5
    try dsimp only [List.set, List.cons_append, List.nil_append] at W
    walk_at "hs"
    intro l3 gl3
    generalize hG_l3 : upd _ l3 _ = H9
    have Kn_l3 := HS.upgK hG_l3 gl3
    replace W := W.newG hG_l3 gl3
    clear hG_l3 gl3
    try dsimp only [List.set, List.cons_append, List.nil_append] at W
    walk_at "hs"
    refine HS.cat (W.at 6 rfl) (W.at 9 rfl) ?_
    walk_at "hs"
    intro c2 gc2
    generalize hG_c2 : upd _ c2 _ = H10
    have Kn_c2 := HS.upgK hG_c2 gc2
    replace W := W.newG hG_c2 gc2
    clear hG_c2 gc2
    try dsimp only [List.set, List.cons_append, List.nil_append] at W
    walk_at "hs"
    refine HS.isP T1 (W.kp _ _ hd id) q6 ?_
    walk_at "hs"
    intro t6 g6
    generalize hG_t6 : upd _ t6 _ = H11
    have Kn_t6 := HS.upgK hG_t6 g6
    replace W := W.newG hG_t6 g6
    clear hG_t6 g6
    try dsimp only [List.set, List.cons_append, List.nil_append] at W
    walk_at "hs"
    intro l4 gl4
    generalize hG_l4 : upd _ l4 _ = H12
    have Kn_l4 := HS.upgK hG_l4 gl4
    replace W := W.newG hG_l4 gl4
    clear hG_l4 gl4
    try dsimp only [List.set, List.cons_append, List.nil_append] at W
    walk_at "hs"
    refine HS.cat (W.at 10 rfl) (W.at 12 rfl) ?_
    walk_at "hs"
    intro c3 gc3
    generalize hG_c3 : upd _ c3 _ = H13
    have Kn_c3 := HS.upgK hG_c3 gc3
    replace W := W.newG hG_c3 gc3
    clear hG_c3 gc3
    try dsimp only [List.set, List.cons_append, List.nil_append] at W
    have L7 := W.at 13 rfl
    have P7 : HS.PrV H13 ([V.ref t0, .ref t1] ++ [.ref t2, .ref t3] ++ [.ref t4, .ref t5] ++ [.ref t6]) ((pick7 b0 b1 b2 b3 b4 b5 b6).map fun q => (V.str q.1, V.bl q.2)) :=
      ⟨⟨t0, rfl, W.at 0 rfl⟩, ⟨t1, rfl, W.at 1 rfl⟩, ⟨t2, rfl, W.at 3 rfl⟩, ⟨t3, rfl, W.at 4 rfl⟩, ⟨t4, rfl, W.at 7 rfl⟩, ⟨t5, rfl, W.at 8 rfl⟩, ⟨t6, rfl, W.at 11 rfl⟩, trivial⟩
    have KA := W.kp
    clear W
    rw [show [V.ref t0, V.ref t1] ++ [.ref t2, .ref t3] ++ [.ref t4, .ref t5] ++ [.ref t6] = [V.ref t0, V.ref t1, V.ref t2, V.ref t3, V.ref t4, V.ref t5, V.ref t6] from rfl] at P7
    try dsimp only [List.cons_append, List.nil_append] at L7
    try dsimp only [List.cons_append, List.nil_append]
    generalize [V.ref t0, V.ref t1, V.ref t2, V.ref t3, V.ref t4, V.ref t5, V.ref t6] = tv at P7 L7 ⊢
    walk_at "hs"
    refine ⟨⟨_, HS.sq L7⟩, fun D hD => ?_⟩
    refine lc_list (xs := tv) (fun i H' => HS.Keep (fun _ => False) H13 H' ∧ H' D = some (.lst (picked ((pick7 b0 b1 b2 b3 b4 b5 b6).take i)))) ?_ ?_ ?_ ?_
    · exact ⟨HS.Keep.new hD, upd_same⟩
    · rintro i H' _ ⟨K', _⟩
      exact HS.sq (K' _ _ L7 id)
    · rintro i x H' hi ⟨K', hD'⟩
      obtain ⟨t, p, rfl, hp, ht⟩ := P7.at hi
      rw [List.getElem?_map] at hp
      obtain ⟨q, hq, rfl⟩ := Option.map_eq_some_iff.mp hp
      have ht' := K' t _ ht id
      have hlen : (picked ((pick7 b0 b1 b2 b3 b4 b5 b6).take i)).length ≤ 7 := Nat.le_trans (List.length_filterMap_le _ _) (by rw [List.length_take]; exact Nat.min_le_right _ _)
      have hnx : (pick7 b0 b1 b2 b3 b4 b5 b6).take (i + 1) = (pick7 b0 b1 b2 b3 b4 b5 b6).take i ++ [q] := by rw [List.take_add_one, hq]; rfl
      walk_at "hs"
      cases hb : q.2 with
      | true =>
        walk_at "hs"
        refine ⟨_, hD', HS.sz (by omega), K'.put hD, ?_⟩
        rw [upd_same, hnx]
        show _ = some (HO.lst (List.filterMap _ (_ ++ _)))
        rw [List.filterMap_append]
        show _ = some (HO.lst (_ ++ List.filterMap _ [q]))
        rw [List.filterMap_cons, hb]
        rfl
      | false =>
        walk_at "hs"
        refine ⟨K', ?_⟩
        rw [hD', hnx]
        show some (HO.lst (List.filterMap _ _)) = some (HO.lst (List.filterMap _ (_ ++ _)))
        rw [List.filterMap_append, List.filterMap_cons, hb]
        simp
    · rintro H14 ⟨K8, hD8⟩
      have h7 : tv.length = 7 := by rw [P7.len]; rfl
      rw [h7, show (pick7 b0 b1 b2 b3 b4 b5 b6).take 7 = pick7 b0 b1 b2 b3 b4 b5 b6 from rfl, hpk] at hD8
      have KB := KA.trans K8
      walk_at "hs"
      refine ⟨rfl, D_, d, fs, w, rfl, rfl, T2, T3, KB _ _ hd id, hl, ?_⟩
      walk_at "hs"
      refine HS.isP T1 (KB _ _ hd id) q7 ?_
      walk_at "hs"
      refine HS.isPt T1 (KB _ _ hd id) qv ?_
      walk_at "hs"
      intro l8 hl8
      have KC := KB.trans (HS.Keep.new (o := .lst [w, .bl true]) hl8)
      walk_at "hs"
      intro p8 hp8
      exact k _ p8 (KC.trans (HS.Keep.new hp8)) (KC.free hp8 id) upd_same
def sp__law_total (K : PySem.W.Frag) : Sp := fun vs H Q _ => ∃ (b : Addr) (ls : List Int) (j : Int), vs = [.ref b, .int j] ∧ (SqL K H b (ls.map V.int) ∧ 1 ≤ j ∧ j < 2 ^ 200 ∧ Q (.int (pcount ls j)) H)
theorem ok__law_total (T : Txt K mg A) : FnOk P w K mg base CX0 2 A.a__law_total A.d__law_total ["lengths", "wide"] (sp__law_total K) := by
  have G__law_sheets : FnOk P w K mg base CX0 1 A.a__law_sheets A.d__law_sheets ["long", "wide"] (sp__law_sheets K) := ok__law_sheets T
  refine T.F__law_total.ok sc__law_total (fun vs H Q E h => ?_) (fun cdv A0 outer s H vs Q E hr h => ?_)
  · obtain ⟨b, ls, j, rfl, hw⟩ := h
    rfl
  · obtain ⟨b, ls, j, rfl, hw⟩ := h
    refine ⟨_, (pss_cons (ps_set (i := 2) sc__law_total.nd rfl (.inl rfl) pe_int)
    (pss_cons (ps_for PassesOwn.never rfl (HS.kil K (pi_list (pv 0))) (pg_name (i := 3) sc__law_total.nd rfl (.inl rfl))
      (pss_one (ps_set (i := 2) sc__law_total.nd rfl (.inl rfl) (pe_op op_add (pv 2) (pe_call G__law_sheets hr (by rfl) T.g__law_sheets T.F__law_sheets.kp T.b__law_sheets .nil pass0 (pa_cons (pv 3) (pa_cons (pv 1) pa_nil)))))))
    (pss_one (ps_ret (pv 2))))), ?_⟩
    obtain ⟨h1, h3, h4, k⟩ := hw
    walk_at "hs"
    refine ⟨⟨_, h1⟩, for_list (xs := ls.map V.int) (fun i σ H' => H' = H ∧ ∃ x3, σ = [some (.ref b), some (.int j), some (.int (pcount (ls.take i) j)), x3]) ⟨rfl, _, rfl⟩ (fun i σ H' _ ⟨e, _⟩ => e ▸ h1) ?_ ?_⟩
    · rintro i x σ H' hi ⟨rfl, x3, rfl⟩
      obtain ⟨z, rfl, hz, hil⟩ := HS.get_int hi
      walk_at "hs"
      refine ⟨z, j, rfl, h3, h4, ?_⟩
      walk_at "hs"
      exact ⟨rfl, some (.int z), by rw [pcount_take j hz]; rfl⟩
    · rintro σ H' ⟨rfl, x3, rfl⟩
      walk_at "hs"
      rw [List.length_map, List.take_length]
      exact k
def sp_check_book (K : PySem.W.Frag) (A : Ad) : Sp := fun vs H Q E => ∃ (b : Addr) (ls : List Int), vs = [.ref b] ∧ (SqL K H b (ls.map V.int) ∧ (∀ i, badAt ls = some i → ∀ H' d, HS.Keep (fun _ => False) H H' → H d = none → H' d = some (.xd [("value", .int (i : Nat))]) → E (.ref A.c_InvalidBook) (some d) H') ∧
  (badAt ls = none → ∀ H', HS.Keep (fun _ => False) H H' → Q .non H'))
theorem ok_check_book (T : Txt K mg A) : FnOk P w K mg base (L2N.CX P w) 3 A.a_check_book A.d_check_book ["book"] (sp_check_book K A) := by
  have G_InvalidBook___init__ : FnOk P w K mg base CX0 1 A.a_InvalidBook___init__ A.d_InvalidBook___init__ ["self", "value"] (sp_InvalidBook___init__ K) := ok_InvalidBook___init__ T
  refine HS.Fun.okN T.F_check_book sc_check_book (fun vs H Q E h => ?_) (fun cdv A0 outer s H vs Q E hr h => ?_)
  · obtain ⟨b, ls, rfl, hw⟩ := h
    rfl
  · obtain ⟨b, ls, rfl, hw⟩ := h
    refine ⟨_, (pss_one (ps_for (passes_of rfl) rfl (HS.kien K (pi_enum (by rfl) T.z_enumerate (pa_cons (pv 0) pa_nil))) (HS.kgt K (pg_tup rfl (pgs_cons (pg_name (i := 1) sc_check_book.nd rfl (.inl rfl)) (pgs_cons (pg_name (i := 2) sc_check_book.nd rfl (.inl rfl)) pgs_nil))))
      (pss_one (ps_if (pt_cmpR op_lt (pv 2) pe_int (nomark _))
      (pss_one (L2N.ps_raise rfl (L2N.takes_of rfl rfl rfl rfl) (HS.pmk_oexN T.C_InvalidBook T.i_InvalidBook T.t_InvalidBook G_InvalidBook___init__ hr T.b_InvalidBook___init__ .nil pass0 (by rfl) T.m_InvalidBook (pa_cons (pv 1) pa_nil))))
      pss_nil)))), ?_⟩
    obtain ⟨hb, kE, k⟩ := hw
    walk_at "hs"
    refine ⟨b, ls.map V.int, rfl, hb, for_it walk_enum (fun i σ H' => HS.Keep (fun _ => False) H H' ∧ badAt ls = (badAt (ls.drop i)).map (· + i) ∧ ∃ x1 x2, σ = [some (.ref b), x1, x2]) ⟨.refl, by rw [List.drop_zero]; cases badAt ls <;> rfl, _, _, rfl⟩ (fun i σ H' _ ⟨K', _⟩ => K'.sq hb id) ?_ ?_⟩
    · rintro i x σ H1 H2 hi ⟨K1, hd, x1, x2, rfl⟩ ⟨T1, u, v, rfl, hT, rfl, e1, e2⟩
      cases e1
      obtain ⟨z, rfl, hz, hil⟩ := HS.get_int e2
      have ez : ls.drop i = z :: ls.drop (i + 1) := by rw [List.drop_eq_getElem_cons hil]; rw [List.getElem?_eq_getElem hil] at hz; injection hz with hz; rw [hz]
      rw [ez, badAt] at hd
      have K2 := K1.put (o := .tup [V.int (i : Nat), V.int z]) (K1.free hT id)
      walk_at "hs"
      refine HS.itd (fun h1 => ?_) (fun h1 => ?_)
      · rw [if_pos h1] at hd
        have e0 : badAt ls = some i := by rw [hd, Option.map_some, Nat.zero_add]
        walk_at "hs"
        exact HS.mk1 (fun H' Q' E' b h1 h2 h3 h4 => ⟨b, _, _, rfl, h1, h2, h3, h4⟩) T.C_InvalidBook T.n_InvalidBook fun H' d k' hd' e => kE i e0 H' d (K2.trans k') (K2.free hd' id) e
      · rw [if_neg h1, Option.map_map] at hd
        walk_at "hs"
        refine ⟨K2, ?_, _, _, rfl⟩
        rw [hd]
        congr 1
        funext y
        show y + 1 + i = y + (i + 1)
        omega
    · rintro σ H1 ⟨K1, hd, x1, x2, rfl⟩
      rw [List.length_map, List.drop_length] at hd
      walk_at "hs"
      exact k hd _ K1
def sp_check_size (K : PySem.W.Frag) (A : Ad) : Sp := fun vs H Q E => ∃ (j : Int), vs = [.int j] ∧ ((j < 1 → ∀ H' d, HS.Keep (fun _ => False) H H' → H d = none → H' d = some (.xd [("value", .int j)]) → E (.ref A.c_InvalidSize) (some d) H') ∧ (1 ≤ j → Q .non H))
theorem ok_check_size (T : Txt K mg A) : FnOk P w K mg base (L2N.CX P w) 3 A.a_check_size A.d_check_size ["size"] (sp_check_size K A) := by
  have G_InvalidSize___init__ : FnOk P w K mg base CX0 1 A.a_InvalidSize___init__ A.d_InvalidSize___init__ ["self", "value"] (sp_InvalidSize___init__ K) := ok_InvalidSize___init__ T
  refine HS.Fun.okN T.F_check_size sc_check_size (fun vs H Q E h => ?_) (fun cdv A0 outer s H vs Q E hr h => ?_)
  · obtain ⟨j, rfl, hw⟩ := h
    rfl
  · obtain ⟨j, rfl, hw⟩ := h
    refine ⟨_, (pss_one (ps_if (pt_cmpR op_lt (pv 0) pe_int (nomark _))
      (pss_one (L2N.ps_raise rfl (L2N.takes_of rfl rfl rfl rfl) (HS.pmk_oexN T.C_InvalidSize T.i_InvalidSize T.t_InvalidSize G_InvalidSize___init__ hr T.b_InvalidSize___init__ .nil pass0 (by rfl) T.m_InvalidSize (pa_cons (pv 0) pa_nil))))
      pss_nil)), ?_⟩
    obtain ⟨kE, k⟩ := hw
    walk_at "hs"
    refine HS.itd (fun h1 => ?_) (fun h1 => ?_)
    · walk_at "hs"
      exact HS.mk1 (fun H' Q' E' b h1 h2 h3 h4 => ⟨b, _, _, rfl, h1, h2, h3, h4⟩) T.C_InvalidSize T.n_InvalidSize fun H' d k' hd' e => kE h1 H' d k' hd' e
    · walk_at "hs"
      exact k (by omega)
def sp_count_pages (K : PySem.W.Frag) : Sp := fun vs H Q _ => ∃ (b : Addr) (ls : List Int) (j : Int), vs = [.ref b, .int j] ∧ (SqL K H b (ls.map V.int) ∧ ls.length ≤ 50000 ∧ 1 ≤ j ∧ j < 2 ^ 200 ∧ ∀ H', HS.Keep (fun _ => False) H H' → Q (.int (pcount ls j)) H')
theorem ok_count_pages (T : Txt K mg A) : FnOk P w K mg base CX0 2 A.a_count_pages A.d_count_pages ["book", "size"] (sp_count_pages K) := by
  refine T.F_count_pages.ok sc_count_pages (fun vs H Q E h => ?_) (fun cdv A0 outer s H vs Q E hr h => ?_)
  · obtain ⟨b, ls, j, rfl, hw⟩ := h
    rfl
  · obtain ⟨b, ls, j, rfl, hw⟩ := h
    refine ⟨_, (pss_one (ps_ret (pe_op op_add (pe_callB (HS.klen K) (by rfl) T.z_len PySem.boot_len (pa_cons (pv 0) pa_nil)) (pe_callB (HS.ksum K rfl) (by rfl) T.z_sum (by decide +kernel) (pa_cons (pe_lc (own := [("length", 2)]) (g := gName 2) (tt := tYes) rfl sc_count_pages.nd (HS.kil K (pi_list (pv 0))) (blkOk_by (own := [("length", 2)]) (N := N_count_pages) (sc := defScope s_count_pages) (by decide +kernel)) (fun _ _ _ _ _ => pg_name (i := 2) sc_count_pages.nd rfl (by first | exact .inl rfl | exact .inr rfl)) (fun _ _ _ _ _ => pts_nil) (fun _ _ _ _ _ => (pe_op op_fdivW (pe_op op_sub (pv 2) pe_int) (pv 1)))) pa_nil))))), ?_⟩
    obtain ⟨hb, hl, h1, h2, k⟩ := hw
    walk_at "hs"
    rw [List.length_map]
    refine ⟨⟨_, hb⟩, fun D hD => lc_list (xs := ls.map V.int) (fun i H' => HS.Keep (fun _ => False) H H' ∧ H' D = some (.lst (((ls.take i).map fun x => (x - 1) / j).map V.int))) ⟨.new hD, upd_same⟩ (fun i H' _ ⟨K', _⟩ => K'.sq hb id) ?_ ?_⟩
    · rintro i x H1 hi ⟨K1, h3⟩
      obtain ⟨z, rfl, hz, hil⟩ := HS.get_int hi
      walk_at "hs"
      refine ⟨HS.divW 200 (by omega) h2 (by decide) (by decide), ?_⟩
      refine ⟨_, h3, HS.sz (by simp; omega), K1.put hD, ?_⟩
      rw [upd_same, List.take_add_one, hz, List.map_append, List.map_append]
      rfl
    · rintro H1 ⟨K1, h3⟩
      rw [List.length_map, List.take_length] at h3
      walk_at "hs"
      rw [pcount_less1 h1]
      exact k _ K1
def sp_chapter_pages (K : PySem.W.Frag) : Sp := fun vs H Q _ => ∃ (i j : Int), vs = [.int i, .int j] ∧ (1 ≤ j ∧ j < 2 ^ 200 ∧ Q (.int ((i + j - 1) / j)) H)
theorem ok_chapter_pages (T : Txt K mg A) : FnOk P w K mg base CX0 1 A.a_chapter_pages A.d_chapter_pages ["length", "size"] (sp_chapter_pages K) := by
  refine T.F_chapter_pages.ok sc_chapter_pages (fun vs H Q E h => ?_) (fun cdv A0 outer s H vs Q E hr h => ?_)
  · obtain ⟨i, j, rfl, hw⟩ := h
    rfl
  · obtain ⟨i, j, rfl, hw⟩ := h
    refine ⟨_, (pss_one (ps_ret (pe_op op_fdivW (pe_op op_sub (pe_op op_add (pv 0) (pv 1)) pe_int) (pv 1)))), ?_⟩
    obtain ⟨h1, h2, k⟩ := hw
    walk_at "hs"
    refine ⟨HS.divW 200 (by omega) h2 (by decide) (by decide), ?_⟩
    exact k
def sp_find_chapter (K : PySem.W.Frag) : Sp := fun vs H Q _ => ∃ (b : Addr) (ls : List Int) (j q : Int), vs = [.ref b, .int j, .int q] ∧ (SqL K H b (ls.map V.int) ∧ 1 ≤ j ∧ j < 2 ^ 200 ∧ 1 ≤ q ∧ q ≤ pcount ls j ∧ ∀ H' t c, HS.Keep (fun _ => False) H H' → H t = none → H' t = some (.tup [.int ((c + 1 : Nat) : Int), .int (pcount (ls.take c) j)]) → c < ls.length → pcount (ls.take c) j < q → q ≤ pcount (ls.take (c + 1)) j → Q (.ref t) H')
theorem ok_find_chapter (T : Txt K mg A) : FnOk P w K mg base CX0 2 A.a_find_chapter A.d_find_chapter ["book", "size", "page"] (sp_find_chapter K) := by
  have G_chapter_pages : FnOk P w K mg base CX0 1 A.a_chapter_pages A.d_chapter_pages ["length", "size"] (sp_chapter_pages K) := ok_chapter_pages T
  refine T.F_find_chapter.ok sc_find_chapter (fun vs H Q E h => ?_) (fun cdv A0 outer s H vs Q E hr h => ?_)
  · obtain ⟨b, ls, j, q, rfl, hw⟩ := h
    rfl
  · obtain ⟨b, ls, j, q, rfl, hw⟩ := h
    refine ⟨_, (pss_cons (ps_set (i := 3) sc_find_chapter.nd rfl (.inl rfl) pe_int)
    (pss_cons (ps_set (i := 4) sc_find_chapter.nd rfl (.inl rfl) pe_int)
    (pss_cons (ps_set (i := 5) sc_find_chapter.nd rfl (.inl rfl) (pe_call G_chapter_pages hr (by rfl) T.g_chapter_pages T.F_chapter_pages.kp T.b_chapter_pages .nil pass0 (pa_cons (pe_ix (HS.ixl K) (pv 0) pe_int (fun _ _ => rfl)) (pa_cons (pv 1) pa_nil))))
    (pss_cons (ps_while PassesOwn.never (pt_cmpR op_lt (pv 5) (pv 2) (nomark _))
      (pss_cons (ps_set (i := 4) sc_find_chapter.nd rfl (.inl rfl) (pv 5))
    (pss_cons (ps_set (i := 5) sc_find_chapter.nd rfl (.inl rfl) (pe_op op_add (pv 4) (pe_call G_chapter_pages hr (by rfl) T.g_chapter_pages T.F_chapter_pages.kp T.b_chapter_pages .nil pass0 (pa_cons (pe_ix (HS.ixl K) (pv 0) (pv 3) (fun _ _ => rfl)) (pa_cons (pv 1) pa_nil)))))
    (pss_one (ps_set (i := 3) sc_find_chapter.nd rfl (.inl rfl) (pe_op op_add (pv 3) pe_int))))))
    (pss_one (ps_ret (pe_tup (pa_cons (pv 3) (pa_cons (pv 4) pa_nil))))))))), ?_⟩
    obtain ⟨hb, h1, h2, hq, hql, k⟩ := hw
    walk_at "hs"
    have h0 : 0 < ls.length := by
      cases ls with
      | nil => rw [pcount_nil] at hql; omega
      | cons x r => exact Nat.succ_pos _
    have e0 : ls[0]? = some ls[0] := List.getElem?_eq_getElem h0
    refine HS.ixZ hb (Int.le_refl 0) e0 ?_
    walk_at "hs"
    refine ⟨_, j, rfl, h1, h2, ?_⟩
    walk_at "hs"
    refine ⟨fun m σ H' => H' = H ∧ ∃ c : Nat, m = ls.length - c ∧ c < ls.length ∧ pcount (ls.take c) j < q ∧ σ = [some (.ref b), some (.int j), some (.int q), some (.int ((c + 1 : Nat) : Int)), some (.int (pcount (ls.take c) j)), some (.int (pcount (ls.take (c + 1)) j))], ⟨_, rfl, 0, rfl, h0, by rw [List.take_zero, pcount_nil]; omega, ?_⟩, ?_⟩
    · rw [pcount_take j e0, List.take_zero, pcount_nil, Int.zero_add]
      rfl
    · rintro m σ H' ⟨rfl, c, rfl, hc, hcq, rfl⟩
      walk_at "hs"
      refine HS.itd (fun hlt => ?_) (fun hge => ?_)
      · have hc1 : c + 1 < ls.length := by
          rcases Nat.lt_or_ge (c + 1) ls.length with h | h
          · exact h
          · rw [List.take_of_length_le h] at hlt; omega
        have e1 : ls[c + 1]? = some ls[c + 1] := List.getElem?_eq_getElem hc1
        refine ⟨fun σ' H'' => H'' = H' ∧ σ' = [some (.ref b), some (.int j), some (.int q), some (.int ((c + 1 + 1 : Nat) : Int)), some (.int (pcount (ls.take (c + 1)) j)), some (.int (pcount (ls.take (c + 1 + 1)) j))], fun σ' H'' ⟨e, e'⟩ => ⟨ls.length - (c + 1), by omega, e, c + 1, rfl, hc1, hlt, e'⟩, ?_⟩
        walk_at "hs"
        refine HS.ixZ hb (by omega) (show ls[(((c + 1 : Nat) : Int)).toNat]? = some ls[c + 1] from e1) ?_
        walk_at "hs"
        refine ⟨_, j, rfl, h1, h2, ?_⟩
        walk_at "hs"
        refine ⟨rfl, ?_⟩
        rw [pcount_take j e1]
        rfl
      · walk_at "hs"
        intro t ht
        walk_at "hs"
        exact k _ t c (.new ht) ht upd_same hc hcq (by omega)
def sp_check_not_negative (K : PySem.W.Frag) (A : Ad) : Sp := fun vs H Q E => ∃ (j : Int), vs = [.int j] ∧ ((j < 0 → ErrIs E H A.c_InvalidNumber j) ∧ (0 ≤ j → Q .non H))
theorem ok_check_not_negative (T : Txt K mg A) : FnOk P w K mg base (L2N.CX P w) 3 A.a_check_not_negative A.d_check_not_negative ["number"] (sp_check_not_negative K A) := by
  have G_InvalidNumber___init__ : FnOk P w K mg base CX0 1 A.a_InvalidNumber___init__ A.d_InvalidNumber___init__ ["self", "value"] (sp_InvalidNumber___init__ K) := ok_InvalidNumber___init__ T
  refine HS.Fun.okN T.F_check_not_negative sc_check_not_negative (fun vs H Q E h => ?_) (fun cdv A0 outer s H vs Q E hr h => ?_)
  · obtain ⟨j, rfl, hw⟩ := h
    rfl
  · obtain ⟨j, rfl, hw⟩ := h
    refine ⟨_, (pss_one (ps_if (pt_cmpR op_lt (pv 0) pe_int (nomark _))
      (pss_one (L2N.ps_raise rfl (L2N.takes_of rfl rfl rfl rfl) (HS.pmk_oexN T.C_InvalidNumber T.i_InvalidNumber T.t_InvalidNumber G_InvalidNumber___init__ hr T.b_InvalidNumber___init__ .nil pass0 (by rfl) T.m_InvalidNumber (pa_cons (pv 0) pa_nil))))
      pss_nil)), ?_⟩
    obtain ⟨kE, k⟩ := hw
    walk_at "hs"
    refine HS.itd (fun h1 => ?_) (fun h1 => ?_)
    · walk_at "hs"
      exact HS.mk1 (fun H' Q' E' b h1 h2 h3 h4 => ⟨b, _, _, rfl, h1, h2, h3, h4⟩) T.C_InvalidNumber T.n_InvalidNumber fun H' d k' hd' e => kE h1 H' d k' hd' e
    · walk_at "hs"
      exact k (by omega)
def sp_check_number (K : PySem.W.Frag) (A : Ad) : Sp := fun vs H Q E => ∃ (i lo hi : Int), vs = [.int i, .int lo, .int hi] ∧ ((¬ (lo ≤ i ∧ i ≤ hi) → ErrIs E H A.c_InvalidNumber i) ∧ (lo ≤ i ∧ i ≤ hi → Q .non H))
theorem ok_check_number (T : Txt K mg A) : FnOk P w K mg base (L2N.CX P w) 3 A.a_check_number A.d_check_number ["number", "least", "greatest"] (sp_check_number K A) := by
  have G_InvalidNumber___init__ : FnOk P w K mg base CX0 1 A.a_InvalidNumber___init__ A.d_InvalidNumber___init__ ["self", "value"] (sp_InvalidNumber___init__ K) := ok_InvalidNumber___init__ T
  refine HS.Fun.okN T.F_check_number sc_check_number (fun vs H Q E h => ?_) (fun cdv A0 outer s H vs Q E hr h => ?_)
  · obtain ⟨i, lo, hi, rfl, hw⟩ := h
    rfl
  · obtain ⟨i, lo, hi, rfl, hw⟩ := h
    refine ⟨_, (pss_one (ps_if (PW.pt (pw_or (pt_cmpR op_lt (pv 0) (pv 1) (nomark _)) (pw_or1 (pt_cmpR op_gt (pv 0) (pv 2) (nomark _)))))
      (pss_one (L2N.ps_raise rfl (L2N.takes_of rfl rfl rfl rfl) (HS.pmk_oexN T.C_InvalidNumber T.i_InvalidNumber T.t_InvalidNumber G_InvalidNumber___init__ hr T.b_InvalidNumber___init__ .nil pass0 (by rfl) T.m_InvalidNumber (pa_cons (pv 0) pa_nil))))
      pss_nil)), ?_⟩
    obtain ⟨kE, k⟩ := hw
    walk_at "hs"
    refine HS.itd (fun h1 => ?_) (fun h1 => ?_)
    · walk_at "hs"
      exact HS.mk1 (fun H' Q' E' b h1 h2 h3 h4 => ⟨b, _, _, rfl, h1, h2, h3, h4⟩) T.C_InvalidNumber T.n_InvalidNumber fun H' d k' hd' e => kE (by omega) H' d k' hd' e
    · walk_at "hs"
      refine HS.itd (fun h2 => ?_) (fun h2 => ?_)
      · walk_at "hs"
        exact HS.mk1 (fun H' Q' E' b h1 h2 h3 h4 => ⟨b, _, _, rfl, h1, h2, h3, h4⟩) T.C_InvalidNumber T.n_InvalidNumber fun H' d k' hd' e => kE (by omega) H' d k' hd' e
      · walk_at "hs"
        exact k (by omega)
def sp_pages (K : PySem.W.Frag) (A : Ad) : Sp := fun vs H Q E => ∃ (b : Addr) (ls : List Int) (j : Int), vs = [.ref b, .int j] ∧ (SqL K H b (ls.map V.int) ∧ ls.length ≤ 50000 ∧ j < 2 ^ 200 ∧ (∀ c v, pagesD ls j = some (c, v) → ErrIs E H (clsD A c) v) ∧ (pagesD ls j = none → ∀ H' x, HS.Keep (fun _ => False) H H' → Q x H'))
theorem ok_pages (T : Txt K mg A) : FnOk P w K mg base (L2N.CX P w) 4 A.a_pages A.d_pages ["book", "size"] (sp_pages K A) := by
  have G_check_book : FnOk P w K mg base (L2N.CX P w) 3 A.a_check_book A.d_check_book ["book"] (sp_check_book K A) := ok_check_book T
  have G_check_size : FnOk P w K mg base (L2N.CX P w) 3 A.a_check_size A.d_check_size ["size"] (sp_check_size K A) := ok_check_size T
  have G_count_pages : FnOk P w K mg base CX0 2 A.a_count_pages A.d_count_pages ["book", "size"] (sp_count_pages K) := ok_count_pages T
  refine HS.Fun.okN T.F_pages sc_pages (fun vs H Q E h => ?_) (fun cdv A0 outer s H vs Q E hr h => ?_)
  · obtain ⟨b, ls, j, rfl, hw⟩ := h
    rfl
  · obtain ⟨b, ls, j, rfl, hw⟩ := h
    refine ⟨_, (pss_cons (ps_expr (pe_call G_check_book hr (by rfl) T.g_check_book T.F_check_book.kp T.b_check_book .nil (L2N.passes_call (L2N.takes_of rfl rfl rfl rfl) (fun _ _ _ _ h => h)) (pa_cons (pv 0) pa_nil)))
    (pss_cons (ps_expr (pe_call G_check_size hr (by rfl) T.g_check_size T.F_check_size.kp T.b_check_size .nil (L2N.passes_call (L2N.takes_of rfl rfl rfl rfl) (fun _ _ _ _ h => h)) (pa_cons (pv 1) pa_nil)))
    (pss_one (ps_ret (pe_call G_count_pages (hr.mono (by decide)) (by rfl) T.g_count_pages T.F_count_pages.kp T.b_count_pages .nil pass0 (pa_cons (pv 0) (pa_cons (pv 1) pa_nil))))))), ?_⟩
    obtain ⟨hb, hl, h2, kE, k⟩ := hw
    walk_at "hs"
    refine ⟨b, ls, rfl, hb, fun i hi => kE 0 i (by unfold pagesD bookD; rw [hi]; rfl), fun hn H1 K1 => ?_⟩
    have hb1 := K1.sq hb id
    walk_at "hs"
    refine ⟨j, rfl, fun hj => ErrIs.mono K1 (kE 1 j (by unfold pagesD bookD; rw [hn]; exact if_pos hj)), fun hj => ?_⟩
    walk_at "hs"
    exact ⟨b, ls, j, rfl, hb1, hl, hj, h2, fun H2 K2 => k (by unfold pagesD bookD; rw [hn]; exact if_neg (by omega)) _ _ (K1.trans K2)⟩
def sp_page_of (K : PySem.W.Frag) (A : Ad) : Sp := fun vs H Q E => ∃ (b : Addr) (ls : List Int) (j c i : Int), vs = [.ref b, .int j, .int c, .int i] ∧ (SqL K H b (ls.map V.int) ∧ ls.length ≤ 50000 ∧ j < 2 ^ 200 ∧ (∀ x v, pageOfD ls j c i = some (x, v) → ErrIs E H (clsD A x) v) ∧ (pageOfD ls j c i = none → ∀ H' x, HS.Keep (fun _ => False) H H' → Q x H'))
theorem ok_page_of (T : Txt K mg A) : FnOk P w K mg base (L2N.CX P w) 4 A.a_page_of A.d_page_of ["book", "size", "chapter", "line"] (sp_page_of K A) := by
  have G_check_book : FnOk P w K mg base (L2N.CX P w) 3 A.a_check_book A.d_check_book ["book"] (sp_check_book K A) := ok_check_book T
  have G_check_size : FnOk P w K mg base (L2N.CX P w) 3 A.a_check_size A.d_check_size ["size"] (sp_check_size K A) := ok_check_size T
  have G_check_number : FnOk P w K mg base (L2N.CX P w) 3 A.a_check_number A.d_check_number ["number", "least", "greatest"] (sp_check_number K A) := ok_check_number T
  have G_count_pages : FnOk P w K mg base CX0 2 A.a_count_pages A.d_count_pages ["book", "size"] (sp_count_pages K) := ok_count_pages T
  have G_chapter_pages : FnOk P w K mg base CX0 1 A.a_chapter_pages A.d_chapter_pages ["length", "size"] (sp_chapter_pages K) := ok_chapter_pages T
  refine HS.Fun.okN T.F_page_of sc_page_of (fun vs H Q E h => ?_) (fun cdv A0 outer s H vs Q E hr h => ?_)
  · obtain ⟨b, ls, j, c, i, rfl, hw⟩ := h
    rfl
  · obtain ⟨b, ls, j, c, i, rfl, hw⟩ := h
    refine ⟨_, (pss_cons (ps_expr (pe_call G_check_book hr (by rfl) T.g_check_book T.F_check_book.kp T.b_check_book .nil (L2N.passes_call (L2N.takes_of rfl rfl rfl rfl) (fun _ _ _ _ h => h)) (pa_cons (pv 0) pa_nil)))
    (pss_cons (ps_expr (pe_call G_check_size hr (by rfl) T.g_check_size T.F_check_size.kp T.b_check_size .nil (L2N.passes_call (L2N.takes_of rfl rfl rfl rfl) (fun _ _ _ _ h => h)) (pa_cons (pv 1) pa_nil)))
    (pss_cons (ps_expr (pe_call G_check_number hr (by rfl) T.g_check_number T.F_check_number.kp T.b_check_number .nil (L2N.passes_call (L2N.takes_of rfl rfl rfl rfl) (fun _ _ _ _ h => h)) (pa_cons (pv 2) (pa_cons pe_int (pa_cons (pe_callB (HS.klen K) (by rfl) T.z_len PySem.boot_len (pa_cons (pv 0) pa_nil)) pa_nil)))))
    (pss_cons (ps_expr (pe_call G_check_number hr (by rfl) T.g_check_number T.F_check_number.kp T.b_check_number .nil (L2N.passes_call (L2N.takes_of rfl rfl rfl rfl) (fun _ _ _ _ h => h)) (pa_cons (pv 3) (pa_cons pe_int (pa_cons (pe_ix (HS.ixl K) (pv 0) (pe_op op_sub (pv 2) pe_int) (fun _ _ => rfl)) pa_nil)))))
    (pss_one (ps_ret (pe_op op_add (pe_call G_count_pages (hr.mono (by decide)) (by rfl) T.g_count_pages T.F_count_pages.kp T.b_count_pages .nil pass0 (pa_cons (pe_slice (HS.sll K) (pv 0) po_none (po_some (pe_op op_sub (pv 2) pe_int))) (pa_cons (pv 1) pa_nil))) (pe_call G_chapter_pages (hr.mono (by decide)) (by rfl) T.g_chapter_pages T.F_chapter_pages.kp T.b_chapter_pages .nil pass0 (pa_cons (pv 3) (pa_cons (pv 1) pa_nil)))))))))), ?_⟩
    obtain ⟨hb, hl, h2, kE, k⟩ := hw
    walk_at "hs"
    refine ⟨b, ls, rfl, hb, fun i hi => kE 0 i (by unfold pageOfD pagesD bookD; rw [hi]; rfl), fun hn H1 K1 => ?_⟩
    have hb1 := K1.sq hb id
    walk_at "hs"
    refine ⟨j, rfl, fun hj => ErrIs.mono K1 (kE 1 j (by unfold pageOfD pagesD bookD; rw [hn]; simp [hj])), fun hj => ?_⟩
    have e0 : pagesD ls j = none := by unfold pagesD bookD; rw [hn]; exact if_neg (by omega)
    walk_at "hs"
    rw [List.length_map]
    refine ⟨c, 1, _, rfl, fun hc => ErrIs.mono K1 (kE 2 c (by unfold pageOfD; rw [e0]; exact if_pos hc)), fun hc => ?_⟩
    have hz : ls[(c - 1).toNat]? = some (ls.getD (c - 1).toNat 0) := by
      have hlt : (c - 1).toNat < ls.length := by omega
      rw [List.getD_eq_getElem?_getD, List.getElem?_eq_getElem hlt]; rfl
    walk_at "hs"
    refine HS.ixZ hb1 (by omega) hz ?_
    walk_at "hs"
    refine ⟨i, 1, _, rfl, fun hi => ErrIs.mono K1 (kE 2 i (by unfold pageOfD; rw [e0]; show (if _ then _ else _) = _; rw [if_neg (fun z => z hc)]; exact if_pos hi)), fun hi => ?_⟩
    have e1 : pageOfD ls j c i = none := by unfold pageOfD; rw [e0]; show (if _ then _ else _) = _; rw [if_neg (fun z => z hc)]; exact if_neg (fun z => z hi)
    walk_at "hs"
    intro p1 hp1
    have K2 : HS.Keep (fun _ => False) H (upd H1 p1 (.lst ((ls.take (c - 1).toNat).map V.int))) := K1.put (K1.free hp1 id)
    have ec : cutV (ls.map V.int) none (some (c - 1)) = (ls.take (c - 1).toNat).map V.int := by
      rw [show c - 1 = (((c - 1).toNat : Nat) : Int) by omega, HS.cut_to, List.map_take]; simp
    rw [ec]
    walk_at "hs"
    refine ⟨p1, _, j, rfl, HS.sq upd_same, by rw [List.length_take]; omega, hj, h2, fun H3 K3 => ?_⟩
    walk_at "hs"
    refine ⟨i, j, rfl, hj, h2, ?_⟩
    walk_at "hs"
    exact k e1 _ _ (K2.trans K3)
def sp_lines_on (K : PySem.W.Frag) (A : Ad) : Sp := fun vs H Q E => ∃ (b : Addr) (ls : List Int) (j q : Int), vs = [.ref b, .int j, .int q] ∧ (SqL K H b (ls.map V.int) ∧ ls.length ≤ 50000 ∧ j < 2 ^ 200 ∧ q < 2 ^ 200 ∧ (∀ x v, linesD ls j q = some (x, v) → ErrIs E H (clsD A x) v) ∧ (linesD ls j q = none → ∀ H' x, HS.Keep (fun _ => False) H H' → Q x H'))
theorem ok_lines_on (T : Txt K mg A) : FnOk P w K mg base (L2N.CX P w) 4 A.a_lines_on A.d_lines_on ["book", "size", "page"] (sp_lines_on K A) := by
  have G_check_book : FnOk P w K mg base (L2N.CX P w) 3 A.a_check_book A.d_check_book ["book"] (sp_check_book K A) := ok_check_book T
  have G_check_size : FnOk P w K mg base (L2N.CX P w) 3 A.a_check_size A.d_check_size ["size"] (sp_check_size K A) := ok_check_size T
  have G_check_number : FnOk P w K mg base (L2N.CX P w) 3 A.a_check_number A.d_check_number ["number", "least", "greatest"] (sp_check_number K A) := ok_check_number T
  have G_count_pages : FnOk P w K mg base CX0 2 A.a_count_pages A.d_count_pages ["book", "size"] (sp_count_pages K) := ok_count_pages T
  have G_find_chapter : FnOk P w K mg base CX0 2 A.a_find_chapter A.d_find_chapter ["book", "size", "page"] (sp_find_chapter K) := ok_find_chapter T
  refine HS.Fun.okN T.F_lines_on sc_lines_on (fun vs H Q E h => ?_) (fun cdv A0 outer s H vs Q E hr h => ?_)
  · obtain ⟨b, ls, j, q, rfl, hw⟩ := h
    rfl
  · obtain ⟨b, ls, j, q, rfl, hw⟩ := h
    refine ⟨_, (pss_cons (ps_expr (pe_call G_check_book hr (by rfl) T.g_check_book T.F_check_book.kp T.b_check_book .nil (L2N.passes_call (L2N.takes_of rfl rfl rfl rfl) (fun _ _ _ _ h => h)) (pa_cons (pv 0) pa_nil)))
    (pss_cons (ps_expr (pe_call G_check_size hr (by rfl) T.g_check_size T.F_check_size.kp T.b_check_size .nil (L2N.passes_call (L2N.takes_of rfl rfl rfl rfl) (fun _ _ _ _ h => h)) (pa_cons (pv 1) pa_nil)))
    (pss_cons (ps_expr (pe_call G_check_number hr (by rfl) T.g_check_number T.F_check_number.kp T.b_check_number .nil (L2N.passes_call (L2N.takes_of rfl rfl rfl rfl) (fun _ _ _ _ h => h)) (pa_cons (pv 2) (pa_cons pe_int (pa_cons (pe_call G_count_pages (hr.mono (by decide)) (by rfl) T.g_count_pages T.F_count_pages.kp T.b_count_pages .nil pass0 (pa_cons (pv 0) (pa_cons (pv 1) pa_nil))) pa_nil)))))
    (pss_cons (ps_asg (pe_call G_find_chapter (hr.mono (by decide)) (by rfl) T.g_find_chapter T.F_find_chapter.kp T.b_find_chapter .nil pass0 (pa_cons (pv 0) (pa_cons (pv 1) (pa_cons (pv 2) pa_nil)))) (HS.kgt K (pg_tup rfl (pgs_cons (pg_name (i := 3) sc_lines_on.nd rfl (.inl rfl)) (pgs_cons (pg_name (i := 4) sc_lines_on.nd rfl (.inl rfl)) pgs_nil)))))
    (pss_cons (ps_set (i := 5) sc_lines_on.nd rfl (.inl rfl) (pe_op op_add (pe_op op_mulW (pe_op op_sub (pe_op op_sub (pv 2) (pv 4)) pe_int) (pv 1)) pe_int))
    (pss_cons (ps_set (i := 6) sc_lines_on.nd rfl (.inl rfl) (pe_callB (call_min2 rfl) (by rfl) T.z_min (by decide +kernel) (pa_cons (pe_op op_sub (pe_op op_add (pv 5) (pv 1)) pe_int) (pa_cons (pe_ix (HS.ixl K) (pv 0) (pe_op op_sub (pv 3) pe_int) (fun _ _ => rfl)) pa_nil))))
    (pss_one (ps_ret (pe_tup (pa_cons (pv 3) (pa_cons (pv 5) (pa_cons (pv 6) pa_nil)))))))))))), ?_⟩
    obtain ⟨hb, hl, h2, hq2, kE, k⟩ := hw
    walk_at "hs"
    refine ⟨b, ls, rfl, hb, fun i hi => kE 0 i (by unfold linesD pagesD bookD; rw [hi]; rfl), fun hn H1 K1 => ?_⟩
    have hb1 := K1.sq hb id
    have hp := badAt_pos hn
    walk_at "hs"
    refine ⟨j, rfl, fun hj => ErrIs.mono K1 (kE 1 j (by unfold linesD pagesD bookD; rw [hn]; simp [hj])), fun h1 => ?_⟩
    have e0 : pagesD ls j = none := by unfold pagesD bookD; rw [hn]; exact if_neg (by omega)
    walk_at "hs"
    refine ⟨b, ls, j, rfl, hb1, hl, h1, h2, fun H2 K2 => ?_⟩
    have hb2 := K2.sq hb1 id
    walk_at "hs"
    refine ⟨q, 1, _, rfl, fun hq => ErrIs.mono (K1.trans K2) (kE 2 q (by unfold linesD; rw [e0]; exact if_pos hq)), fun hq => ?_⟩
    have e1 : linesD ls j q = none := by unfold linesD; rw [e0]; exact if_neg (fun z => z hq)
    walk_at "hs"
    refine ⟨b, ls, j, q, rfl, hb2, h1, h2, hq.1, hq.2, fun H3 t c K3 ht et hc hcq hcq2 => ?_⟩
    walk_at "hs"
    have p0 := pcount_pos (take_all hp c) h1
    refine ⟨HS.mulW 200 200 (by omega) (by omega) (by omega) (by omega) (by decide) (by decide) (by decide), ?_⟩
    have hz : ls[c]? = some ls[c] := List.getElem?_eq_getElem hc
    walk_at "hs"
    refine HS.ixZ (K3.sq hb2 id) (by omega) (show ls[((((c + 1 : Nat) : Int)) - 1).toNat]? = some ls[c] by rw [show (((c + 1 : Nat) : Int) - 1).toNat = c by omega]; exact hz) ?_
    walk_at "hs"
    intro p1 hp1
    exact k e1 _ _ ((K1.trans (K2.trans K3)).put ((K1.trans (K2.trans K3)).free hp1 id))

def sp2_counts (K : PySem.W.Frag) (A : Ad) : HS.SpG2 := fun vs H ry yl en E => ∃ (b : Addr) (ls : List Int) (m : Int), vs = [.ref b, .int m] ∧ (SqL K H b (ls.map V.int) ∧ ls.length ≤ 50000 ∧ m < 2 ^ 190 ∧ (∀ c v, countsD ls m = some (c, v) → ErrIs E H (clsD A c) v) ∧ (countsD ls m = none → (∀ i H', ry i H' → SqL K H' b (ls.map V.int)) ∧
  (∀ (i : Nat) Hw H', (i = 0 → Hw = H) → (1 ≤ i → ry i Hw) → HS.Keep (fun _ => False) Hw H' → (i : Int) < m → yl i Hw (.int (pcount ls ((i : Int) + 1))) H') ∧
  (∀ (i : Nat) Hw H', (i = 0 → Hw = H) → (1 ≤ i → ry i Hw) → HS.Keep (fun _ => False) Hw H' → (i : Int) = m → en i Hw H')))
theorem ok2_counts (T : Txt K mg A) : HS.GFn2 (L2N.CX P w) P w K mg base 4 A.a_counts A.d_counts ["book", "limit"] (sp2_counts K A) := by
  have G_check_book : FnOk P w K mg base (L2N.CX P w) 3 A.a_check_book A.d_check_book ["book"] (sp_check_book K A) := ok_check_book T
  have G_check_not_negative : FnOk P w K mg base (L2N.CX P w) 3 A.a_check_not_negative A.d_check_not_negative ["number"] (sp_check_not_negative K A) := ok_check_not_negative T
  have G_count_pages : FnOk P w K mg base CX0 2 A.a_count_pages A.d_count_pages ["book", "size"] (sp_count_pages K) := ok_count_pages T
  obtain ⟨oc, od, kV, doc, pm, an, cdv, ct, osl, hfd, lk, hcd⟩ := T.F_counts.ex
  rw [hfd] at lk ⊢
  refine HS.gfn2_of (pre := HS.preS (defBody s_counts)) (tg := HS.tgS (defBody s_counts)) (iter := HS.itS (defBody s_counts)) (e := HS.yS (defBody s_counts)) (post := HS.poS (defBody s_counts)) lk hcd sc_counts rfl (by decide +kernel) (fun _ _ => rfl) rfl (fun _ => rfl) (fun vs H ry yl en E h => ?_) (fun A0 outer s H vs ry yl en E pn hr h => ?_)
  · obtain ⟨b, ls, m, rfl, hw⟩ := h
    rfl
  · obtain ⟨b, ls, m, rfl, hw⟩ := h
    refine ⟨_, _, _, _, _, (pss_cons (ps_expr (pe_call G_check_book hr (by rfl) T.g_check_book T.F_check_book.kp T.b_check_book .nil (L2N.passes_call HS.takesGN (fun _ _ _ _ h => h)) (pa_cons (pv 0) pa_nil)))
    (pss_one (ps_expr (pe_call G_check_not_negative hr (by rfl) T.g_check_not_negative T.F_check_not_negative.kp T.b_check_not_negative .nil (L2N.passes_call HS.takesGN (fun _ _ _ _ h => h)) (pa_cons (pv 1) pa_nil))))), (HS.pi_rangeA (by rfl) T.z_range (pa_cons pe_int (pa_cons (pe_op op_add (pv 1) pe_int) pa_nil))), fun _ _ => (pg_name (i := 2) sc_counts.nd rfl (.inl rfl)), fun _ _ => (pe_call G_count_pages (hr.mono (by decide)) (by rfl) T.g_count_pages T.F_count_pages.kp T.b_count_pages .nil pass0 (pa_cons (pv 0) (pa_cons (pv 2) pa_nil))), fun _ _ => pss_nil, ?_⟩
    obtain ⟨hb, hl, h2, kE, k⟩ := hw
    refine HS.genX ?_
    walk_at "hs"
    refine ⟨b, ls, rfl, hb, fun i hi => kE 0 i (by unfold countsD bookD; rw [hi]; rfl), fun hn H1 K1 => ?_⟩
    have hb1 := K1.sq hb id
    walk_at "hs"
    refine ⟨m, rfl, fun hj => ErrIs.mono K1 (kE 2 m (by unfold countsD bookD; rw [hn]; exact if_pos hj)), fun h1 => ?_⟩
    obtain ⟨hr0, hy, he⟩ := k (by unfold countsD bookD; rw [hn]; exact if_neg (by omega))
    walk_at "hs"
    refine HS.rngA ?_
    walk_at "hs"
    rw [show (m + 1 - 1).toNat = m.toNat by omega]
    refine ⟨fun i σ Hw H' => (i = 0 → Hw = H) ∧ (1 ≤ i → ry i Hw) ∧ HS.Keep (fun _ => False) Hw H' ∧ SqL K H' b (ls.map V.int) ∧ (i : Int) ≤ m ∧ ∃ x2, σ = [some (.ref b), some (.int m), x2], ⟨fun _ => rfl, fun z => by omega, K1, hb1, h1, _, rfl⟩, ?_⟩
    rintro i σ Hw H' ⟨q1, q2, q3, q4, q5, x2, rfl⟩
    by_cases hi : (i : Int) = m
    · left
      exact ⟨show m.toNat ≤ i by omega, he i Hw H' q1 q2 q3 hi⟩
    · right
      refine ⟨show i < m.toNat by omega, fun x H3 hx => ?_⟩
      obtain ⟨rfl, rfl⟩ := hx
      walk_at "hs"
      refine ⟨b, ls, _, rfl, q4, hl, by omega, by omega, fun H4 K4 => ?_⟩
      rw [show (1 : Int) + i = i + 1 by omega]
      refine ⟨hy i Hw H4 q1 q2 (q3.trans K4) (by omega), fun H5 r5 => ?_⟩
      walk_at "hs"
      exact ⟨fun z => by omega, fun _ => r5, .refl, hr0 _ _ r5, by push_cast; omega, _, rfl⟩
def sp__law_low (K : PySem.W.Frag) : Sp := fun vs H Q _ => ∃ (s d : Addr) (n : Nat), vs = [.ref s] ∧ (Src H s d n ∧ n < 2 ^ 39 ∧ ∀ H' v, HS.Keep (fun a => a = s ∨ a = d) H H' → Src H' s d (n + 2) → -(10 ^ 29) ≤ v → v ≤ 10 ^ 29 → Q (.int v) H')
theorem ok__law_low (T : Txt K mg A) : FnOk P w K mg base CX0 2 A.a__law_low A.d__law_low ["source"] (sp__law_low K) := by
  have G__law_draw : FnOk P w K mg base CX0 1 A.a__law_draw A.d__law_draw ["source", "many"] (sp__law_draw K) := ok__law_draw T
  refine T.F__law_low.ok sc__law_low (fun vs H Q E h => ?_) (fun cdv A0 outer s H vs Q E hr h => ?_)
  · obtain ⟨s, d, n, rfl, hw⟩ := h
    rfl
  · obtain ⟨s, d, n, rfl, hw⟩ := h
    refine ⟨_, (pss_one (ps_ret (pe_ix (HS.ixl K) (pe_lst (pa_cons pe_int (pa_cons (pe_un un_neg pe_int) (pa_cons (pe_op op_sub pe_int (pe_call G__law_draw hr (by rfl) T.g__law_draw T.F__law_draw.kp T.b__law_draw .nil pass0 (pa_cons (pv 0) (pa_cons (HS.pe_fold (100000000000000000000000000000) (pe_op op_pow pe_int pe_int) (by intro σ H Q q; walk_at "fold")) pa_nil)))) (pa_cons (HS.pe_fold (100000000000000000000000000000) (pe_op op_pow pe_int pe_int) (by intro σ H Q q; walk_at "fold")) pa_nil))))) (pe_call G__law_draw hr (by rfl) T.g__law_draw T.F__law_draw.kp T.b__law_draw .nil pass0 (pa_cons (pv 0) (pa_cons pe_int pa_nil))) (fun _ _ => rfl)))), ?_⟩
    obtain ⟨S0, hn, k⟩ := hw
    walk_at "hs"
    refine ⟨s, d, _, n, rfl, S0, by decide, by decide, by omega, fun H1 v K1 S1 v0 v1 => ?_⟩
    walk_at "hs"
    intro p1 hp1
    generalize hG_p1 : upd _ p1 _ = H2
    have at_p1 := HS.upgs hG_p1
    have Kn_p1 := HS.upgK hG_p1 hp1
    clear hG_p1
    have e1 := S1.ne1 hp1
    have e2 := S1.ne2 hp1
    walk_at "hs"
    refine ⟨s, d, 4, _, rfl, S1.same Kn_p1, by decide, by decide, by omega, fun H3 u K3 S3 u0 u1 => ?_⟩
    refine HS.ixI [0, -1, 0 - v, 100000000000000000000000000000] (K3.sq (HS.sq at_p1) (by walk_at "ns")) u0 u1 fun x _ hx => ?_
    simp only [List.mem_cons, List.not_mem_nil, or_false] at hx
    exact k _ _ ((K1.trans Kn_p1.any).trans K3) S3 (by omega) (by omega)
def sp__law_bent (K : PySem.W.Frag) : Sp := fun vs H Q _ => ∃ (s d b : Addr) (ls : List Int) (n : Nat), vs = [.ref s, .ref b] ∧ (Src H s d n ∧ SqL K H b (ls.map V.int) ∧ b ≠ s ∧ b ≠ d ∧ ls.length ≤ 40 ∧ Near ls ∧ n < 2 ^ 38 ∧ ∀ H' p (ls' : List Int), HS.Keep (fun a => a = s ∨ a = d) H H' → H p = none → H' p = some (.lst (ls'.map V.int)) → ls'.length ≤ 42 → Near ls' → Src H' s d (n + 10) → Q (.ref p) H')
theorem ok__law_bent (T : Txt K mg A) : FnOk P w K mg base CX0 2 A.a__law_bent A.d__law_bent ["source", "lengths"] (sp__law_bent K) := by
  have G__law_draw : FnOk P w K mg base CX0 1 A.a__law_draw A.d__law_draw ["source", "many"] (sp__law_draw K) := ok__law_draw T
  refine T.F__law_bent.ok sc__law_bent (fun vs H Q E h => ?_) (fun cdv A0 outer s H vs Q E hr h => ?_)
  · obtain ⟨s, d, b, ls, n, rfl, hw⟩ := h
    rfl
  · obtain ⟨s, d, b, ls, n, rfl, hw⟩ := h
    refine ⟨_, (pss_cons (ps_set (i := 2) sc__law_bent.nd rfl (.inl rfl) (pe_callTy (HS.klst K) (by rfl) T.z_list (by decide +kernel) (pa_cons (pv 1) pa_nil)))
    (pss_cons (ps_for PassesOwn.never rfl (pi_range1 (by rfl) T.z_range (pa_cons (pe_ix (HS.ixl K) (pe_lst (pa_cons pe_int (pa_cons pe_int (pa_cons pe_int (pa_cons pe_int (pa_cons pe_int pa_nil)))))) (pe_call G__law_draw hr (by rfl) T.g__law_draw T.F__law_draw.kp T.b__law_draw .nil pass0 (pa_cons (pv 0) (pa_cons pe_int pa_nil))) (fun _ _ => rfl)) pa_nil)) (pg_name (i := 3) sc__law_bent.nd rfl (.inl rfl))
      (pss_cons (ps_set (i := 4) sc__law_bent.nd rfl (.inl rfl) (pe_ix (HS.ixl K) (pe_lst (pa_cons pe_int (pa_cons (pe_un un_neg pe_int) (pa_cons (pe_op op_sub pe_int (pe_call G__law_draw hr (by rfl) T.g__law_draw T.F__law_draw.kp T.b__law_draw .nil pass0 (pa_cons (pv 0) (pa_cons (HS.pe_fold (100000000000000000000000000000) (pe_op op_pow pe_int pe_int) (by intro σ H Q q; walk_at "fold")) pa_nil)))) pa_nil)))) (pe_call G__law_draw hr (by rfl) T.g__law_draw T.F__law_draw.kp T.b__law_draw .nil pass0 (pa_cons (pv 0) (pa_cons pe_int pa_nil))) (fun _ _ => rfl)))
    (pss_one (ps_expr (HS.kbm K (pe_bm PySem.F.plainAttrs_list PySem.F.slot_list_insert PySem.F.type_list_insert mt_insert (pv 2) (pa_cons (pe_call G__law_draw hr (by rfl) T.g__law_draw T.F__law_draw.kp T.b__law_draw .nil pass0 (pa_cons (pv 0) (pa_cons (pe_op op_add (pe_callB (HS.klen K) (by rfl) T.z_len PySem.boot_len (pa_cons (pv 2) pa_nil)) pe_int) pa_nil))) (pa_cons (pv 4) pa_nil))))))))
    (pss_one (ps_ret (pv 2))))), ?_⟩
    obtain ⟨S0, hb, bs, bd, hl, hN, hn, k⟩ := hw
    walk_at "hs"
    refine ⟨b, ls.map V.int, rfl, .inl hb, ?_⟩
    intro F hF
    generalize hG_F : upd _ F _ = H1
    have at_F := HS.upgs hG_F
    have Kn_F := HS.upgK hG_F hF
    clear hG_F
    have f1 := S0.ne1 hF
    have f2 := S0.ne2 hF
    have S1 := S0.same Kn_F
    walk_at "hs"
    intro p1 hp1
    generalize hG_p1 : upd _ p1 _ = H2
    have at_p1 := HS.upgs hG_p1
    have Kn_p1 := HS.upgK hG_p1 hp1
    clear hG_p1
    have at_F := Kn_p1 _ _ at_F id
    have e1 := S1.ne1 hp1
    have e2 := S1.ne2 hp1
    walk_at "hs"
    refine ⟨s, d, 5, n, rfl, S1.same Kn_p1, by decide, by decide, by omega, fun H3 v K3 S3 v0 v1 => ?_⟩
    refine HS.ixI [0, 0, 0, 1, 2] (K3.sq (HS.sq at_p1) (by walk_at "ns")) v0 v1 fun w _ hw => ?_
    have hw' : 0 ≤ w ∧ w ≤ 2 := by
      simp only [List.mem_cons, List.not_mem_nil, or_false] at hw
      omega
    clear hw
    have at_F := K3 _ _ at_F (by walk_at "ns")
    have K03 : HS.Keep (fun a => a = s ∨ a = d) H H3 := (Kn_F.trans Kn_p1).any.trans K3
    walk_at "hs"
    refine ⟨by omega, by omega, for_range (n := w.toNat) (fun i σ H' => HS.Keep (fun a => a = s ∨ a = d) H H' ∧ Src H' s d (n + 1 + 4 * i) ∧ ∃ (fs : List Int) (x3 x4 : Option V), H' F = some (.lst (fs.map V.int)) ∧ fs.length ≤ 40 + i ∧ Near fs ∧ σ = [some (.ref s), some (.ref b), some (.ref F), x3, x4]) ⟨K03, S3, ls, _, _, at_F, by omega, hN, rfl⟩ ?_ ?_⟩
    · rintro i σ H4 hi ⟨K4, S4, fs, x3, x4, hF4, hfl, hfN, rfl⟩
      walk_at "hs"
      refine ⟨s, d, _, _, rfl, S4, by decide, by decide, by omega, fun H5 u K5 S5 u0 u1 => ?_⟩
      have hF5 := K5 _ _ hF4 (by walk_at "ns")
      walk_at "hs"
      intro p2 hp2
      generalize hG_p2 : upd _ p2 _ = H6
      have at_p2 := HS.upgs hG_p2
      have Kn_p2 := HS.upgK hG_p2 hp2
      clear hG_p2
      have hF5 := Kn_p2 _ _ hF5 id
      have e3 := S5.ne1 hp2
      have e4 := S5.ne2 hp2
      walk_at "hs"
      refine ⟨s, d, 3, _, rfl, S5.same Kn_p2, by decide, by decide, by omega, fun H7 t K7 S7 t0 t1 => ?_⟩
      refine HS.ixI [0, -1, 0 - u] (K7.sq (HS.sq at_p2) (by walk_at "ns")) t0 t1 fun y _ hy => ?_
      simp only [List.mem_cons, List.not_mem_nil, or_false] at hy
      have hy' : -(10 ^ 30) < y ∧ y < 10 ^ 30 := by omega
      clear hy
      have hF7 := K7 _ _ hF5 (by walk_at "ns")
      have K47 := K4.trans (K5.trans (Kn_p2.any.trans K7))
      walk_at "hs"
      rw [List.length_map]
      refine ⟨s, d, _, _, rfl, S7, by omega, by omega, by omega, fun H8 g K8 S8 g0 g1 => ?_⟩
      have hF8 := K8 _ _ hF7 (by walk_at "ns")
      walk_at "hs"
      refine ⟨F, _, g, _, rfl, rfl, hF8, HS.sz (by simp; omega), g0, by omega, ?_⟩
      rw [← List.map_take, ← List.map_drop, show [V.int y] = [y].map V.int from rfl, ← List.map_append, ← List.map_append]
      have nN : Near (fs.take g.toNat ++ [y] ++ fs.drop g.toNat) := fun x hx => by
        rcases List.mem_append.mp hx with hx | hx
        · rcases List.mem_append.mp hx with hx | hx
          · exact hfN x (List.mem_of_mem_take hx)
          · rw [List.mem_singleton] at hx; rw [hx]; exact hy'
        · exact hfN x (List.mem_of_mem_drop hx)
      have nL : (fs.take g.toNat ++ [y] ++ fs.drop g.toNat).length ≤ 40 + (i + 1) := by
        simp only [List.length_append, List.length_take, List.length_drop, List.length_cons, List.length_nil]
        omega
      generalize fs.take g.toNat ++ [y] ++ fs.drop g.toNat = nl at nN nL ⊢
      walk_at "hs"
      exact ⟨(K47.trans K8).put hF, (S8.put f1 f2).up (by omega), nl, _, _, upd_same, nL, nN, rfl⟩
    · rintro σ H4 ⟨K4, S4, fs, x3, x4, hF4, hfl, hfN, rfl⟩
      walk_at "hs"
      exact k _ F fs K4 hF hF4 (by omega) hfN (S4.up (by omega))
def sp__law_dues (K : PySem.W.Frag) : Sp := fun vs H Q _ => ∃ (b o : Addr) (ls : List Int) (j c i q m : Int), vs = [.ref b, .int j, .ref o] ∧ (SqL K H b (ls.map V.int) ∧ SqL K H o [.int c, .int i, .int q, .int m] ∧ j < 2 ^ 200 ∧ ∀ H' p v0 v1 v2 v3, HS.Keep (fun _ => False) H H' → H p = none → H' p = some (.lst [v0, v1, v2, v3]) → ResD (pagesD ls j) H' v0 → ResD (pageOfD ls j c i) H' v1 → ResD (linesD ls j q) H' v2 → ResD (countsD ls m) H' v3 → Q (.ref p) H')
theorem ok__law_dues (T : Txt K mg A) : FnOk P w K mg base CX0 3 A.a__law_dues A.d__law_dues ["lengths", "wide", "some"] (sp__law_dues K) := by
  have G__law_total : FnOk P w K mg base CX0 2 A.a__law_total A.d__law_total ["lengths", "wide"] (sp__law_total K) := ok__law_total T
  refine T.F__law_dues.ok sc__law_dues (fun vs H Q E h => ?_) (fun cdv A0 outer s H vs Q E hr h => ?_)
  · obtain ⟨b, o, ls, j, c, i, q, m, rfl, hw⟩ := h
    rfl
  · obtain ⟨b, o, ls, j, c, i, q, m, rfl, hw⟩ := h
    refine ⟨_, (pss_cons (ps_for PassesOwn.never rfl (HS.kien K (pi_enum (by rfl) T.z_enumerate (pa_cons (pv 0) pa_nil))) (HS.kgt K (pg_tup rfl (pgs_cons (pg_name (i := 3) sc__law_dues.nd rfl (.inl rfl)) (pgs_cons (pg_name (i := 4) sc__law_dues.nd rfl (.inl rfl)) pgs_nil))))
      (pss_one (ps_if (pt_cmpR op_lt (pv 4) pe_int (nomark _))
      (pss_one (ps_ret (pe_op op_rep (pe_lst (pa_cons (pe_lst (pa_cons pe_str (pa_cons (pv 3) (pa_cons pe_bl pa_nil)))) pa_nil)) pe_int)))
      pss_nil)))
    (pss_cons (ps_asg (pv 2) (HS.kunl K (pg_unl rfl (pgs_cons (pg_name (i := 5) sc__law_dues.nd rfl (.inl rfl)) (pgs_cons (pg_name (i := 6) sc__law_dues.nd rfl (.inl rfl)) (pgs_cons (pg_name (i := 7) sc__law_dues.nd rfl (.inl rfl)) (pgs_cons (pg_name (i := 8) sc__law_dues.nd rfl (.inl rfl)) pgs_nil)))))))
    (pss_cons (ps_set (i := 9) sc__law_dues.nd rfl (.inl rfl) (pe_ifExp (pt_cmpR op_lt (pv 8) pe_int (nomark _)) (pe_lst (pa_cons pe_str (pa_cons (pv 8) (pa_cons pe_bl pa_nil)))) pe_non))
    (pss_cons (ps_if (pt_cmpR op_lt (pv 1) pe_int (nomark _))
      (pss_one (ps_ret (pe_op op_cat (pe_op op_rep (pe_lst (pa_cons (pe_lst (pa_cons pe_str (pa_cons (pv 1) (pa_cons pe_bl pa_nil)))) pa_nil)) pe_int) (pe_lst (pa_cons (pv 9) pa_nil)))))
      pss_nil)
    (pss_cons (ps_asg (pe_tup (pa_cons pe_non (pa_cons pe_non pa_nil))) (HS.kgt K (pg_tup rfl (pgs_cons (pg_name (i := 10) sc__law_dues.nd rfl (.inl rfl)) (pgs_cons (pg_name (i := 11) sc__law_dues.nd rfl (.inl rfl)) pgs_nil)))))
    (Evl.pss_cut (ps_if (pt_not (pt_chain op_le op_le pe_int (pv 5) (pe_callB (HS.klen K) (by rfl) T.z_len PySem.boot_len (pa_cons (pv 0) pa_nil))))
      (pss_one (ps_set (i := 10) sc__law_dues.nd rfl (.inl rfl) (pe_lst (pa_cons pe_str (pa_cons (pv 5) (pa_cons pe_bl pa_nil))))))
      (pss_one (ps_if (pt_not (pt_chain op_le op_le pe_int (pv 6) (pe_ix (HS.ixl K) (pv 0) (pe_op op_sub (pv 5) pe_int) (fun _ _ => rfl))))
      (pss_one (ps_set (i := 10) sc__law_dues.nd rfl (.inl rfl) (pe_lst (pa_cons pe_str (pa_cons (pv 6) (pa_cons pe_bl pa_nil))))))
      pss_nil)))
    (Evl.pss_cut (ps_if (pt_not (pt_chain op_le op_le pe_int (pv 7) (pe_call G__law_total hr (by rfl) T.g__law_total T.F__law_total.kp T.b__law_total .nil pass0 (pa_cons (pv 0) (pa_cons (pv 1) pa_nil)))))
      (pss_one (ps_set (i := 11) sc__law_dues.nd rfl (.inl rfl) (pe_lst (pa_cons pe_str (pa_cons (pv 7) (pa_cons pe_bl pa_nil))))))
      pss_nil)
    (pss_one (ps_ret (pe_lst (pa_cons pe_non (pa_cons (pv 10) (pa_cons (pv 11) (pa_cons (pv 9) pa_nil)))))))))))))), ?_⟩
    obtain ⟨hb, ho, hj, k⟩ := hw
    walk_at "hs"
    refine ⟨b, ls.map V.int, rfl, hb, for_it walk_enum (fun i σ H' => HS.Keep (fun _ => False) H H' ∧ badAt ls = (badAt (ls.drop i)).map (· + i) ∧ ∃ x3 x4, σ = [some (.ref b), some (.int j), some (.ref o), x3, x4, none, none, none, none, none, none, none]) ⟨.refl, by rw [List.drop_zero]; cases badAt ls <;> rfl, _, _, rfl⟩ (fun i σ H' _ ⟨K', _⟩ => K'.sq hb id) ?_ ?_⟩
    · rintro i x σ H1 H2 hi ⟨K1, hd, x3, x4, rfl⟩ ⟨T1, u, v, rfl, hT, rfl, e1, e2⟩
      cases e1
      obtain ⟨z, rfl, hz, hil⟩ := HS.get_int e2
      have ez : ls.drop i = z :: ls.drop (i + 1) := by rw [List.drop_eq_getElem_cons hil]; rw [List.getElem?_eq_getElem hil] at hz; injection hz with hz; rw [hz]
      rw [ez, badAt] at hd
      have K2 := K1.put (o := .tup [V.int (i : Nat), V.int z]) (K1.free hT id)
      walk_at "hs"
      generalize upd H1 T1 (.tup [V.int (i : Nat), V.int z]) = H2 at K2 ⊢
      refine HS.itd (fun h1 => ?_) (fun h1 => ?_)
      · rw [if_pos h1] at hd
        have e0 : badAt ls = some i := by rw [hd, Option.map_some, Nat.zero_add]
        walk_at "hs"
        intro L1 hL1
        generalize hG_L1 : upd _ L1 _ = H3
        have at_L1 := HS.upgs hG_L1
        have Kn_L1 := HS.upgK hG_L1 hL1
        clear hG_L1
        walk_at "hs"
        intro M2 hM2
        generalize hG_M2 : upd _ M2 _ = H4
        have at_M2 := HS.upgs hG_M2
        have Kn_M2 := HS.upgK hG_M2 hM2
        clear hG_M2
        have at_L1 := Kn_M2 _ _ at_L1 id
        walk_at "hs"
        refine HS.rep1 at_M2 (by omega) (by omega) ?_
        intro M3 hM3
        generalize hG_M3 : upd _ M3 _ = H5
        have at_M3 := HS.upgs hG_M3
        have Kn_M3 := HS.upgK hG_M3 hM3
        clear hG_M3
        have at_L1 := Kn_M3 _ _ at_L1 id
        have at_M3 : H5 M3 = some (.lst [.ref L1, .ref L1, .ref L1, .ref L1]) := at_M3
        have KA := K2.trans (Kn_L1.trans (Kn_M2.trans Kn_M3))
        walk_at "hs"
        exact k _ M3 _ _ _ _ KA ((K2.trans (Kn_L1.trans Kn_M2)).free hM3 id) at_M3 (by unfold pagesD bookD; rw [e0]; exact ⟨L1, rfl, at_L1⟩) (by unfold pageOfD pagesD bookD; rw [e0]; exact ⟨L1, rfl, at_L1⟩) (by unfold linesD pagesD bookD; rw [e0]; exact ⟨L1, rfl, at_L1⟩) (by unfold countsD bookD; rw [e0]; exact ⟨L1, rfl, at_L1⟩)
      · rw [if_neg h1, Option.map_map] at hd
        walk_at "hs"
        refine ⟨K2, ?_, _, _, rfl⟩
        rw [hd]
        congr 1
        funext y
        show y + 1 + i = y + (i + 1)
        omega
    · rintro σ H1 ⟨K1, hd, x3, x4, rfl⟩
      rw [List.length_map, List.drop_length] at hd
      have hd : badAt ls = none := hd
      have hb1 := K1.sq hb id
      walk_at "hs"
      refine HS.gunl (K1.sq ho id) rfl ?_
      walk_at "hs"
      have eb : bookD ls = none := by unfold bookD; rw [hd]; rfl
      refine HS.iteM (fun v H' => HS.Keep (fun _ => False) H H' ∧ ResD (countsD ls m) H' v) (fun hc Q' k' => ?_) (fun hc Q' k' => ?_) ?_
      · have hc := of_decide_eq_true hc
        walk_at "hs"
        intro L1 hL1
        generalize hG_L1 : upd _ L1 _ = H3
        have at_L1 := HS.upgs hG_L1
        have Kn_L1 := HS.upgK hG_L1 hL1
        clear hG_L1
        walk_at "hs"
        exact k' _ _ ⟨K1.trans Kn_L1, by unfold countsD; rw [eb]; show ResD (if m < 0 then _ else _) _ _; rw [if_pos hc]; exact ⟨L1, rfl, at_L1⟩⟩
      · have hc := of_decide_eq_false hc
        walk_at "hs"
        exact k' _ _ ⟨K1, by unfold countsD; rw [eb]; show ResD (if m < 0 then _ else _) _ _; rw [if_neg hc]; exact rfl⟩
      rintro cv H2 ⟨K2, rc⟩
      clear K1 hb1
      have hb2 := K2.sq hb id
      walk_at "hs"
      refine HS.itd (fun h1 => ?_) (fun h1 => ?_)
      · have ep : pagesD ls j = some (1, j) := by unfold pagesD; rw [eb]; exact if_pos h1
        walk_at "hs"
        intro L1 hL1
        generalize hG_L1 : upd _ L1 _ = H3
        have at_L1 := HS.upgs hG_L1
        have Kn_L1 := HS.upgK hG_L1 hL1
        clear hG_L1
        walk_at "hs"
        intro M2 hM2
        generalize hG_M2 : upd _ M2 _ = H4
        have at_M2 := HS.upgs hG_M2
        have Kn_M2 := HS.upgK hG_M2 hM2
        clear hG_M2
        have at_L1 := Kn_M2 _ _ at_L1 id
        walk_at "hs"
        refine HS.rep1 at_M2 (by omega) (by omega) ?_
        intro M3 hM3
        generalize hG_M3 : upd _ M3 _ = H5
        have at_M3 := HS.upgs hG_M3
        have Kn_M3 := HS.upgK hG_M3 hM3
        clear hG_M3
        have at_L1 := Kn_M3 _ _ at_L1 id
        have at_M3 : H5 M3 = some (.lst [.ref L1, .ref L1, .ref L1]) := at_M3
        walk_at "hs"
        intro M4 hM4
        generalize hG_M4 : upd _ M4 _ = H6
        have at_M4 := HS.upgs hG_M4
        have Kn_M4 := HS.upgK hG_M4 hM4
        clear hG_M4
        have at_L1 := Kn_M4 _ _ at_L1 id
        have at_M3 := Kn_M4 _ _ at_M3 id
        walk_at "hs"
        intro M5 hM5
        generalize hG_M5 : upd _ M5 _ = H7
        have at_M5 := HS.upgs hG_M5
        have Kn_M5 := HS.upgK hG_M5 hM5
        clear hG_M5
        have at_L1 := Kn_M5 _ _ at_L1 id
        have KB := Kn_L1.trans (Kn_M2.trans (Kn_M3.trans (Kn_M4.trans Kn_M5)))
        have KA := K2.trans (Kn_L1.trans (Kn_M2.trans (Kn_M3.trans Kn_M4)))
        walk_at "hs"
        exact k _ M5 _ _ _ _ (K2.trans KB) (KA.free hM5 id) at_M5 (by rw [ep]; exact ⟨L1, rfl, at_L1⟩) (by unfold pageOfD; rw [ep]; exact ⟨L1, rfl, at_L1⟩) (by unfold linesD; rw [ep]; exact ⟨L1, rfl, at_L1⟩) (rc.keep KB)
      have ep : pagesD ls j = none := by unfold pagesD; rw [eb]; exact if_neg h1
      walk_at "hs"
      intro p0 hp0
      generalize hG_p0 : upd _ p0 _ = H3
      have at_p0 := HS.upgs hG_p0
      have Kn_p0 := HS.upgK hG_p0 hp0
      clear hG_p0
      have rc := rc.keep Kn_p0
      have K3 := K2.trans Kn_p0
      clear hb2 K2
      walk_at "hs"
      refine HS.cut (fun σ H' => HS.Keep (fun _ => False) H H' ∧ ∃ pv, ResD (pageOfD ls j c i) H' pv ∧ ResD (countsD ls m) H' cv ∧ σ = [some (.ref b), some (.int j), some (.ref o), x3, x4, some (.int c), some (.int i), some (.int q), some (.int m), some cv, some pv, some .non]) ?_ ?_
      · have hb3 := K3.sq hb id
        have fA : ¬ (1 ≤ c ∧ c ≤ ls.length) → pageOfD ls j c i = some (2, c) := fun h => by unfold pageOfD; rw [ep]; exact if_pos h
        have fB : (1 ≤ c ∧ c ≤ ls.length) → ¬ (1 ≤ i ∧ i ≤ ls.getD (c - 1).toNat 0) → pageOfD ls j c i = some (2, i) := fun h h' => by unfold pageOfD; rw [ep]; show (if _ then _ else _) = _; rw [if_neg (fun z => z h)]; exact if_pos h'
        have fC : (1 ≤ c ∧ c ≤ ls.length) → (1 ≤ i ∧ i ≤ ls.getD (c - 1).toNat 0) → pageOfD ls j c i = none := fun h h' => by unfold pageOfD; rw [ep]; show (if _ then _ else _) = _; rw [if_neg (fun z => z h)]; exact if_neg (fun z => z h')
        walk_at "hs"
        refine HS.itd (fun hc1 => ?_) (fun hc1 => ?_)
        · walk_at "hs"
          rw [List.length_map]
          by_cases hc2 : c ≤ ls.length
          · rw [decide_eq_true hc2]
            have hz : ls[(c - 1).toNat]? = some (ls.getD (c - 1).toNat 0) := by
              have hlt : (c - 1).toNat < ls.length := by omega
              rw [List.getD_eq_getElem?_getD, List.getElem?_eq_getElem hlt]; rfl
            walk_at "hs"
            refine HS.itd (fun hi1 => ?_) (fun hi1 => ?_)
            · walk_at "hs"
              refine HS.ixZ hb3 (by omega) hz ?_
              walk_at "hs"
              by_cases hi2 : i ≤ ls.getD (c - 1).toNat 0
              · rw [decide_eq_true hi2]
                walk_at "hs"
                exact ⟨K3, .non, by rw [fC ⟨hc1, hc2⟩ ⟨hi1, hi2⟩]; exact rfl, rc, rfl⟩
              · rw [decide_eq_false hi2]
                walk_at "hs"
                intro L1 hL1
                generalize hG_L1 : upd _ L1 _ = H4
                have at_L1 := HS.upgs hG_L1
                have Kn_L1 := HS.upgK hG_L1 hL1
                clear hG_L1
                walk_at "hs"
                exact ⟨K3.trans Kn_L1, .ref L1, by rw [fB ⟨hc1, hc2⟩ (fun z => hi2 z.2)]; exact ⟨L1, rfl, at_L1⟩, rc.keep Kn_L1, rfl⟩
            · walk_at "hs"
              intro L1 hL1
              generalize hG_L1 : upd _ L1 _ = H4
              have at_L1 := HS.upgs hG_L1
              have Kn_L1 := HS.upgK hG_L1 hL1
              clear hG_L1
              walk_at "hs"
              exact ⟨K3.trans Kn_L1, .ref L1, by rw [fB ⟨hc1, hc2⟩ (fun z => hi1 z.1)]; exact ⟨L1, rfl, at_L1⟩, rc.keep Kn_L1, rfl⟩
          · rw [decide_eq_false hc2]
            walk_at "hs"
            intro L1 hL1
            generalize hG_L1 : upd _ L1 _ = H4
            have at_L1 := HS.upgs hG_L1
            have Kn_L1 := HS.upgK hG_L1 hL1
            clear hG_L1
            walk_at "hs"
            exact ⟨K3.trans Kn_L1, .ref L1, by rw [fA (fun z => hc2 z.2)]; exact ⟨L1, rfl, at_L1⟩, rc.keep Kn_L1, rfl⟩
        · walk_at "hs"
          intro L1 hL1
          generalize hG_L1 : upd _ L1 _ = H4
          have at_L1 := HS.upgs hG_L1
          have Kn_L1 := HS.upgK hG_L1 hL1
          clear hG_L1
          walk_at "hs"
          exact ⟨K3.trans Kn_L1, .ref L1, by rw [fA (fun z => hc1 z.1)]; exact ⟨L1, rfl, at_L1⟩, rc.keep Kn_L1, rfl⟩
      rintro σ H4 ⟨K4, pv, rp, rc, rfl⟩
      have hb4 := K4.sq hb id
      walk_at "hs"
      refine HS.cut (fun σ H' => HS.Keep (fun _ => False) H H' ∧ ∃ sv, ResD (pageOfD ls j c i) H' pv ∧ ResD (linesD ls j q) H' sv ∧ ResD (countsD ls m) H' cv ∧ σ = [some (.ref b), some (.int j), some (.ref o), x3, x4, some (.int c), some (.int i), some (.int q), some (.int m), some cv, some pv, some sv]) ?_ ?_
      · have fA : ¬ (1 ≤ q ∧ q ≤ pcount ls j) → linesD ls j q = some (2, q) := fun h => by unfold linesD; rw [ep]; exact if_pos h
        have fB : (1 ≤ q ∧ q ≤ pcount ls j) → linesD ls j q = none := fun h => by unfold linesD; rw [ep]; exact if_neg (fun z => z h)
        walk_at "hs"
        refine HS.itd (fun hc1 => ?_) (fun hc1 => ?_)
        · walk_at "hs"
          refine ⟨b, ls, j, rfl, hb4, by omega, hj, ?_⟩
          walk_at "hs"
          by_cases hc2 : q ≤ pcount ls j
          · rw [decide_eq_true hc2]
            walk_at "hs"
            exact ⟨K4, .non, rp, by rw [fB ⟨hc1, hc2⟩]; exact rfl, rc, rfl⟩
          · rw [decide_eq_false hc2]
            walk_at "hs"
            intro L1 hL1
            generalize hG_L1 : upd _ L1 _ = H5
            have at_L1 := HS.upgs hG_L1
            have Kn_L1 := HS.upgK hG_L1 hL1
            clear hG_L1
            walk_at "hs"
            exact ⟨K4.trans Kn_L1, .ref L1, rp.keep Kn_L1, by rw [fA (fun z => hc2 z.2)]; exact ⟨L1, rfl, at_L1⟩, rc.keep Kn_L1, rfl⟩
        · walk_at "hs"
          intro L1 hL1
          generalize hG_L1 : upd _ L1 _ = H5
          have at_L1 := HS.upgs hG_L1
          have Kn_L1 := HS.upgK hG_L1 hL1
          clear hG_L1
          walk_at "hs"
          exact ⟨K4.trans Kn_L1, .ref L1, rp.keep Kn_L1, by rw [fA (fun z => hc1 z.1)]; exact ⟨L1, rfl, at_L1⟩, rc.keep Kn_L1, rfl⟩
      rintro σ H5 ⟨K5, sv, rp, rs, rc, rfl⟩
      walk_at "hs"
      intro M6 hM6
      generalize hG_M6 : upd _ M6 _ = H6
      have at_M6 := HS.upgs hG_M6
      have Kn_M6 := HS.upgK hG_M6 hM6
      clear hG_M6
      exact k _ M6 _ _ _ _ (K5.trans Kn_M6) (K5.free hM6 id) at_M6 (by rw [ep]; exact rfl) (rp.keep Kn_M6) (rs.keep Kn_M6) (rc.keep Kn_M6)
theorem kits_of (T : Txt K mg A) : ∀ c : Nat, ∃ b0 b1 b2 b3 b4 b5 b6, Kits7 K A (clsD A c) b0 b1 b2 b3 b4 b5 b6 ∧ picked (pick7 b0 b1 b2 b3 b4 b5 b6) = [.str (nameD c)] ∧ PySem.W.exmOne K (.ref (clsD A c)) (.ref A.c_BookError) = some true
  | 0 => ⟨_, _, _, _, _, _, _, ⟨T.V_InvalidBook, T.X_InvalidBook, T.n_InvalidBook, T.q_InvalidBook_InvalidBook, T.q_InvalidBook_InvalidSize, T.q_InvalidBook_InvalidTable, T.q_InvalidBook_InvalidChain, T.q_InvalidBook_InvalidNumber, T.q_InvalidBook_NothingToUndo, T.q_InvalidBook_Unreadable, T.q_InvalidBook_BookError, T.q_InvalidBook_ValueError⟩, rfl, T.e_InvalidBook_BookError⟩
  | 1 => ⟨_, _, _, _, _, _, _, ⟨T.V_InvalidSize, T.X_InvalidSize, T.n_InvalidSize, T.q_InvalidSize_InvalidBook, T.q_InvalidSize_InvalidSize, T.q_InvalidSize_InvalidTable, T.q_InvalidSize_InvalidChain, T.q_InvalidSize_InvalidNumber, T.q_InvalidSize_NothingToUndo, T.q_InvalidSize_Unreadable, T.q_InvalidSize_BookError, T.q_InvalidSize_ValueError⟩, rfl, T.e_InvalidSize_BookError⟩
  | _ + 2 => ⟨_, _, _, _, _, _, _, ⟨T.V_InvalidNumber, T.X_InvalidNumber, T.n_InvalidNumber, T.q_InvalidNumber_InvalidBook, T.q_InvalidNumber_InvalidSize, T.q_InvalidNumber_InvalidTable, T.q_InvalidNumber_InvalidChain, T.q_InvalidNumber_InvalidNumber, T.q_InvalidNumber_NothingToUndo, T.q_InvalidNumber_Unreadable, T.q_InvalidNumber_BookError, T.q_InvalidNumber_ValueError⟩, rfl, T.e_InvalidNumber_BookError⟩
theorem raised_hand (T : Txt K mg A) {c : Nat} {v dr j : Int} {b o F : Addr} {H : Hp} {D : Ends} (hF : H F = some (.lst [])) (k : ∀ H' p, HS.Keep (fun _ => False) H H' → H' p = some (.lst [.str (nameD c), .int v, .bl true]) → D.nx [some (.int dr), some (.ref b), some (.int j), some (.ref o), some (.ref p), some (.ref F), none, none] H') :
    ErrIs (WE (wAs K (.ref A.c_BookError) 7 (fun a cls d => tAsg (tOp rCat (HS.tCallE (sp__law_error K A) a cls d (tCons (tVar 7) tNil)) (tVar 5)) (gName 4)) (fun _ _ _ _ => False) D) [some (.int dr), some (.ref b), some (.int j), some (.ref o), some .non, some (.ref F), none, none]) H (clsD A c) v := by
  intro H2 d K2 hd e
  obtain ⟨b0, b1, b2, b3, b4, b5, b6, kt, pk, em⟩ := kits_of T c
  have hF2 := K2 _ _ hF id
  refine ⟨true, em, fun _ a ha => ?_, fun z => by cases z⟩
  walk_at "hs"
  refine HS.ocle ?_
  walk_at "hs"
  refine ⟨clsD A c, d, _, nameD c, .int v, _, _, _, _, _, _, _, rfl, rfl, rfl, e, kt, pk, rfl, fun H3 p K3 hp0 hp => ?_⟩
  have hF3 := K3 _ _ hF2 id
  walk_at "hs"
  intro r hr
  generalize hG_r : upd _ r _ = H4
  have at_r := HS.upgs hG_r
  have Kn_r := HS.upgK hG_r hr
  clear hG_r
  have at_r : H4 r = some (.lst [.str (nameD c), .int v, .bl true]) := at_r
  have K4 := K2.trans (K3.trans Kn_r)
  exact HS.nm (k H4 r K4 at_r)
def sp__law_raised (K : PySem.W.Frag) (A : Ad) : Sp := fun vs H Q _ => ∃ (b o : Addr) (ls : List Int) (dr j c i q m : Int), vs = [.int dr, .ref b, .int j, .ref o] ∧ (SqL K H b (ls.map V.int) ∧ SqL K H o [.int c, .int i, .int q, .int m] ∧ ls.length ≤ 50000 ∧ j < 2 ^ 200 ∧ q < 2 ^ 200 ∧ m < 2 ^ 190 ∧ ∀ H' v, HS.Keep (fun _ => False) H H' → ResD (dueD ls dr j c i q m) H' v → Q v H')
theorem ok__law_raised (T : Txt K mg A) : FnOk P w K mg base CX0 7 A.a__law_raised A.d__law_raised ["door", "lengths", "wide", "some"] (sp__law_raised K A) := by
  have G_pages : FnOk P w K mg base (L2N.CX P w) 4 A.a_pages A.d_pages ["book", "size"] (sp_pages K A) := ok_pages T
  have G_page_of : FnOk P w K mg base (L2N.CX P w) 4 A.a_page_of A.d_page_of ["book", "size", "chapter", "line"] (sp_page_of K A) := ok_page_of T
  have G_lines_on : FnOk P w K mg base (L2N.CX P w) 4 A.a_lines_on A.d_lines_on ["book", "size", "page"] (sp_lines_on K A) := ok_lines_on T
  have G2_counts : HS.GFn2 (L2N.CX P w) P w K mg base 4 A.a_counts A.d_counts ["book", "limit"] (sp2_counts K A) := ok2_counts T
  have G__law_error : HS.FnE P w K mg base 1 A.a__law_error A.d__law_error ["e"] (sp__law_error K A) := ok__law_error T
  refine T.F__law_raised.ok sc__law_raised (fun vs H Q E h => ?_) (fun cdv A0 outer s H vs Q E hr h => ?_)
  · obtain ⟨b, o, ls, dr, j, c, i, q, m, rfl, hw⟩ := h
    rfl
  · obtain ⟨b, o, ls, dr, j, c, i, q, m, rfl, hw⟩ := h
    refine ⟨_, (pss_cons (ps_par (i := 4) (j := 5) rfl sc__law_raised.nd rfl rfl (by decide) rfl rfl (pa_cons pe_non (pa_cons (pe_lst pa_nil) pa_nil)) (by rfl))
    (pss_cons (L2N.ps_try_as (i := 7) rfl rfl sc__law_raised.nd rfl rfl ⟨rfl, by decide, Or.inl T.m_BookError⟩ HS.takesN0
      (fun W pn xe tk po => (pss_one (ps_if (pt_cmpR op_eq (pv 0) pe_int (nomark _))
      (pss_one (ps_expr (pe_callS G_pages (hr.mono (by decide)) (by rfl) T.g_pages T.F_pages.kp T.b_pages (fun σ => HS.passAtN tk σ) (pa_cons (pv 1) (pa_cons (pv 2) pa_nil)))))
      (pss_one (ps_if (pt_cmpR op_eq (pv 0) pe_int (nomark _))
      (pss_one (ps_expr (pe_callS G_page_of (hr.mono (by decide)) (by rfl) T.g_page_of T.F_page_of.kp T.b_page_of (fun σ => HS.passAtN tk σ) (pa_cons (pv 1) (pa_cons (pv 2) (pa_cons (pe_ix (HS.ixl K) (pv 3) pe_int (fun _ _ => rfl)) (pa_cons (pe_ix (HS.ixl K) (pv 3) pe_int (fun _ _ => rfl)) pa_nil)))))))
      (pss_one (ps_if (pt_cmpR op_eq (pv 0) pe_int (nomark _))
      (pss_one (ps_expr (pe_callS G_lines_on (hr.mono (by decide)) (by rfl) T.g_lines_on T.F_lines_on.kp T.b_lines_on (fun σ => HS.passAtN tk σ) (pa_cons (pv 1) (pa_cons (pv 2) (pa_cons (pe_ix (HS.ixl K) (pv 3) pe_int (fun _ _ => rfl)) pa_nil))))))
      (pss_one (HS.ps_forG po (HS.failsAtSN K (fun σ => HS.passAtN tk σ)) (hr.mono (by decide)) (HS.pgen2_call G2_counts (hr.mono (by decide)) (by rfl) T.g_counts T.F_counts.kp T.b_counts .nil (pa_cons (pv 1) (pa_cons (pe_ix (HS.ixl K) (pv 3) pe_int (fun _ _ => rfl)) pa_nil))) (pg_name (i := 6) sc__law_raised.nd rfl (.inl rfl))
      (pss_cons (ps_expr (HS.kbm K (pe_bm PySem.F.plainAttrs_list PySem.F.slot_list_append PySem.F.type_list_append mt_append (pv 5) (pa_cons (pv 6) pa_nil))))
    (pss_one (ps_if (pt_cmpR op_eq (pe_callB (HS.klen K) (by rfl) T.z_len PySem.boot_len (pa_cons (pv 5) pa_nil)) pe_int (nomark _))
      (pss_one ps_break)
      pss_nil))))))))))))
      (fun a oe cls d pn hz hf => (pss_one (ps_set (i := 4) sc__law_raised.nd rfl (.inl rfl) (pe_op op_cat (HS.pe_callE G__law_error ⟨(show L2.Room 1 _ from (hr.mono (by decide))).dp, (show L2.Room 1 _ from (hr.mono (by decide))).un⟩ rfl hz hf List.mem_cons_self (by rfl) T.g__law_error T.F__law_error.kp T.b__law_error (pa_cons (pv 7) pa_nil)) (pv 5))))))
    (pss_one (ps_ret (pv 4))))), ?_⟩
    obtain ⟨hb, ho, hl, hj, hq, hm, k⟩ := hw
    walk_at "hs"
    intro F hF
    generalize hG_F : upd _ F _ = H1
    have at_F := HS.upgs hG_F
    have Kn_F := HS.upgK hG_F hF
    clear hG_F
    have hF0 := hF
    have hb1 := Kn_F.sq hb id
    have ho1 := Kn_F.sq ho id
    walk_at "hs"
    refine HS.itd (fun d0 => ?_) (fun d0 => ?_)
    · have ed : dueD ls dr j c i q m = pagesD ls j := if_pos d0
      rw [ed] at k
      walk_at "hs"
      refine ⟨b, ls, j, rfl, hb1, hl, hj, fun x v hx => raised_hand T at_F fun H2 p K2 hp => ?_, fun hn H2 x K2 => ?_⟩
      · walk_at "hs"
        exact k _ _ (Kn_F.trans K2) (by rw [hx]; exact ⟨p, rfl, hp⟩)
      · refine HS.ret ?_
        walk_at "hs"
        exact k _ _ (Kn_F.trans K2) (by rw [hn]; exact rfl)
    walk_at "hs"
    refine HS.itd (fun d1 => ?_) (fun d1 => ?_)
    · have ed : dueD ls dr j c i q m = pageOfD ls j c i := by unfold dueD; rw [if_neg d0, if_pos d1]
      rw [ed] at k
      walk_at "hs"
      refine ⟨b, ls, j, c, i, rfl, hb1, hl, hj, fun x v hx => raised_hand T at_F fun H2 p K2 hp => ?_, fun hn H2 x K2 => ?_⟩
      · walk_at "hs"
        exact k _ _ (Kn_F.trans K2) (by rw [hx]; exact ⟨p, rfl, hp⟩)
      · refine HS.ret ?_
        walk_at "hs"
        exact k _ _ (Kn_F.trans K2) (by rw [hn]; exact rfl)
    walk_at "hs"
    refine HS.itd (fun d2 => ?_) (fun d2 => ?_)
    · have ed : dueD ls dr j c i q m = linesD ls j q := by unfold dueD; rw [if_neg d0, if_neg d1, if_pos d2]
      rw [ed] at k
      walk_at "hs"
      refine ⟨b, ls, j, q, rfl, hb1, hl, hj, hq, fun x v hx => raised_hand T at_F fun H2 p K2 hp => ?_, fun hn H2 x K2 => ?_⟩
      · walk_at "hs"
        exact k _ _ (Kn_F.trans K2) (by rw [hx]; exact ⟨p, rfl, hp⟩)
      · refine HS.ret ?_
        walk_at "hs"
        exact k _ _ (Kn_F.trans K2) (by rw [hn]; exact rfl)
    have ed : dueD ls dr j c i q m = countsD ls m := by unfold dueD; rw [if_neg d0, if_neg d1, if_neg d2]
    rw [ed] at k
    refine HS.forG ?_
    walk_at "hs"
    refine ⟨2, fun n σ H' => n ≤ 2 ∧ HS.Keep (fun _ => False) H H' ∧ ∃ (fs : List V) (x6 : Option V), H' F = some (.lst fs) ∧ fs.length = n ∧ σ = [some (.int dr), some (.ref b), some (.int j), some (.ref o), some .non, some (.ref F), x6, none], ⟨by omega, Kn_F, [], _, at_F, rfl, rfl⟩, fun n σ H' z => z.1, ?_⟩
    unfold HS.WantG sp2_counts
    refine ⟨b, ls, m, rfl, hb1, hl, hm, fun x v hx H2 d K2 hd e => ⟨raised_hand T at_F (fun H3 p K3 hp => ?_) H2 d K2 hd e, ?_⟩, fun hn => ⟨fun n H' ⟨σ', z⟩ => z.2.1.sq hb id, ?_, ?_⟩⟩
    · walk_at "hs"
      exact k _ _ (Kn_F.trans K3) (by rw [hx]; exact ⟨p, rfl, hp⟩)
    · rcases countsD_cls hx with rfl | rfl
      · exact T.s_InvalidBook
      · exact T.s_InvalidNumber
    · rintro n Hw H' _ _ K3 hi σ' ⟨p1, K2, fs, x6, hF, hfl, rfl⟩ _
      have hF := K3 _ _ hF id
      have K2 := K2.trans K3
      walk_at "hs"
      have KF := K2.put (o := .lst (fs ++ [.int (pcount ls ((n : Int) + 1))])) hF0
      refine HS.itd (fun h3 => ?_) (fun h3 => ?_)
      · walk_at "hs"
        exact k _ _ KF (by rw [hn]; exact rfl)
      · rw [List.length_append, List.length_cons, List.length_nil] at h3
        walk_at "hs"
        exact ⟨by omega, KF, _, _, upd_same, by rw [List.length_append, hfl]; rfl, rfl⟩
    · rintro n Hw H' _ _ K3 hi σ' ⟨p1, K2, fs, x6, hF, hfl, rfl⟩ _
      walk_at "hs"
      exact k _ _ (K2.trans K3) (by rw [hn]; exact rfl)
def sp_law (K : PySem.W.Frag) : Sp := fun vs H Q _ => ∃ (a : Addr) (ns : List Int), vs = [.ref a] ∧ (SqL K H a (ns.map V.int) ∧ ns.length ≤ 63 ∧ ∀ H', Q (.bl true) H')
theorem ok_law (T : Txt K mg A) : HS.FnG P w K mg base CX0 8 A.a_law A.d_law ["script"] (sp_law K) := by
  have G__law_source : FnOk P w K mg base CX0 1 A.a__law_source A.d__law_source ["script"] (sp__law_source K) := ok__law_source T
  have G__law_bent : FnOk P w K mg base CX0 2 A.a__law_bent A.d__law_bent ["source", "lengths"] (sp__law_bent K) := ok__law_bent T
  have G__law_lengths : FnOk P w K mg base CX0 2 A.a__law_lengths A.d__law_lengths ["source", "many"] (sp__law_lengths K) := ok__law_lengths T
  have G__law_draw : FnOk P w K mg base CX0 1 A.a__law_draw A.d__law_draw ["source", "many"] (sp__law_draw K) := ok__law_draw T
  have G__law_wide : FnOk P w K mg base CX0 2 A.a__law_wide A.d__law_wide ["source", "lengths"] (sp__law_wide K) := ok__law_wide T
  have G__law_low : FnOk P w K mg base CX0 2 A.a__law_low A.d__law_low ["source"] (sp__law_low K) := ok__law_low T
  have G__law_total : FnOk P w K mg base CX0 2 A.a__law_total A.d__law_total ["lengths", "wide"] (sp__law_total K) := ok__law_total T
  have G__law_dues : FnOk P w K mg base CX0 3 A.a__law_dues A.d__law_dues ["lengths", "wide", "some"] (sp__law_dues K) := ok__law_dues T
  have G__law_raised : FnOk P w K mg base CX0 7 A.a__law_raised A.d__law_raised ["door", "lengths", "wide", "some"] (sp__law_raised K A) := ok__law_raised T
  have G__law_same : FnOk P w K mg base CX0 4 A.a__law_same A.d__law_same ["found", "wanted"] (sp__law_same 3 K) := ok__law_same T 3
  refine HS.Fun.okG T.F_law sc_law (fun vs H Q E h => ?_) (fun cdv A0 outer s H vs Q E hg hr h => ?_)
  · obtain ⟨a, ns, rfl, hw⟩ := h
    rfl
  · obtain ⟨a, ns, rfl, hw⟩ := h
    refine ⟨_, (pss_cons (ps_set (i := 1) sc_law.nd rfl (.inl rfl) (pe_call G__law_source (hr.mono (by decide)) (by rfl) T.g__law_source T.F__law_source.kp T.b__law_source .nil pass0 (pa_cons (pv 0) pa_nil)))
    (pss_cons (ps_for PassesOwn.never rfl (pi_range1 (by rfl) T.z_range (pa_cons (pe_op op_add pe_int (pe_callB (call_min2 rfl) (by rfl) T.z_min (by decide +kernel) (pa_cons pe_int (pa_cons (pe_callB (HS.klen K) (by rfl) T.z_len PySem.boot_len (pa_cons (pv 0) pa_nil)) pa_nil)))) pa_nil)) (pg_name (i := 2) sc_law.nd rfl (.inl rfl))
      (pss_one (ps_for PassesOwn.never rfl (pi_range1 (by rfl) T.z_range (pa_cons pe_int pa_nil)) (pg_name (i := 3) sc_law.nd rfl (.inl rfl))
      (pss_cons (ps_set (i := 4) sc_law.nd rfl (.inr rfl) (pe_call G__law_bent (hr.mono (by decide)) (by rfl) T.g__law_bent T.F__law_bent.kp T.b__law_bent .nil pass0 (pa_cons (pv 1) (pa_cons (pe_call G__law_lengths (hr.mono (by decide)) (by rfl) T.g__law_lengths T.F__law_lengths.kp T.b__law_lengths .nil pass0 (pa_cons (pv 1) (pa_cons (pe_ix (HS.ixl K) (pe_lst (pa_cons pe_int (pa_cons pe_int pa_nil))) (pe_call G__law_draw (hr.mono (by decide)) (by rfl) T.g__law_draw T.F__law_draw.kp T.b__law_draw .nil pass0 (pa_cons (pv 1) (pa_cons pe_int pa_nil))) (fun _ _ => rfl)) pa_nil))) pa_nil))))
    (pss_cons (ps_set (i := 5) sc_law.nd rfl (.inr rfl) (pe_ix (HS.ixl K) (pe_lst (pa_cons (pe_call G__law_wide (hr.mono (by decide)) (by rfl) T.g__law_wide T.F__law_wide.kp T.b__law_wide .nil pass0 (pa_cons (pv 1) (pa_cons (pe_lst (pa_cons pe_int (pa_cons pe_int pa_nil))) pa_nil))) (pa_cons pe_int (pa_cons (pe_un un_neg pe_int) (pa_cons (pe_op op_sub pe_int (pe_call G__law_draw (hr.mono (by decide)) (by rfl) T.g__law_draw T.F__law_draw.kp T.b__law_draw .nil pass0 (pa_cons (pv 1) (pa_cons (HS.pe_fold (100000000000000000000000000000) (pe_op op_pow pe_int pe_int) (by intro σ H Q q; walk_at "fold")) pa_nil)))) (pa_cons pe_int (pa_cons pe_int pa_nil))))))) (pe_call G__law_draw (hr.mono (by decide)) (by rfl) T.g__law_draw T.F__law_draw.kp T.b__law_draw .nil pass0 (pa_cons (pv 1) (pa_cons pe_int pa_nil))) (fun _ _ => rfl)))
    (pss_cons (ps_set (i := 6) sc_law.nd rfl (.inl rfl) (pe_ix (HS.ixl K) (pe_lst (pa_cons (pe_op op_add pe_int (pe_call G__law_draw (hr.mono (by decide)) (by rfl) T.g__law_draw T.F__law_draw.kp T.b__law_draw .nil pass0 (pa_cons (pv 1) (pa_cons pe_int pa_nil)))) (pa_cons (pe_callB (HS.klen K) (by rfl) T.z_len PySem.boot_len (pa_cons (pv 4) pa_nil)) (pa_cons (pe_op op_add (pe_callB (HS.klen K) (by rfl) T.z_len PySem.boot_len (pa_cons (pv 4) pa_nil)) pe_int) (pa_cons (pe_call G__law_low (hr.mono (by decide)) (by rfl) T.g__law_low T.F__law_low.kp T.b__law_low .nil pass0 (pa_cons (pv 1) pa_nil)) pa_nil))))) (pe_call G__law_draw (hr.mono (by decide)) (by rfl) T.g__law_draw T.F__law_draw.kp T.b__law_draw .nil pass0 (pa_cons (pv 1) (pa_cons pe_int pa_nil))) (fun _ _ => rfl)))
    (pss_cons (ps_set (i := 7) sc_law.nd rfl (.inl rfl) (HS.pe_stop (pe_ifExp (pt_chain op_le op_le pe_int (pv 6) (pe_callB (HS.klen K) (by rfl) T.z_len PySem.boot_len (pa_cons (pv 4) pa_nil))) (pe_ix (HS.ixl K) (pv 4) (pe_op op_sub (pv 6) pe_int) (fun _ _ => rfl)) pe_int)))
    (pss_cons (ps_set (i := 8) sc_law.nd rfl (.inl rfl) (pe_ix (HS.ixl K) (pe_lst (pa_cons pe_int (pa_cons (pv 7) (pa_cons (pe_callB (call_min2 rfl) (by rfl) T.z_min (by decide +kernel) (pa_cons (HS.pe_fold (999999999999999999999999999999) (pe_op op_sub (pe_op op_pow pe_int pe_int) pe_int) (by intro σ H Q q; walk_at "fold")) (pa_cons (pe_op op_add (pv 7) pe_int) pa_nil))) (pa_cons (pe_call G__law_low (hr.mono (by decide)) (by rfl) T.g__law_low T.F__law_low.kp T.b__law_low .nil pass0 (pa_cons (pv 1) pa_nil)) pa_nil))))) (pe_call G__law_draw (hr.mono (by decide)) (by rfl) T.g__law_draw T.F__law_draw.kp T.b__law_draw .nil pass0 (pa_cons (pv 1) (pa_cons pe_int pa_nil))) (fun _ _ => rfl)))
    (pss_cons (ps_set (i := 9) sc_law.nd rfl (.inl rfl) (pe_call G__law_total (hr.mono (by decide)) (by rfl) T.g__law_total T.F__law_total.kp T.b__law_total .nil pass0 (pa_cons (pv 4) (pa_cons (pe_callB (call_max2 rfl) (by rfl) T.z_max (by decide +kernel) (pa_cons pe_int (pa_cons (pv 5) pa_nil))) pa_nil))))
    (pss_cons (ps_set (i := 10) sc_law.nd rfl (.inl rfl) (pe_ix (HS.ixl K) (pe_lst (pa_cons pe_int (pa_cons (pe_callB (call_min2 rfl) (by rfl) T.z_min (by decide +kernel) (pa_cons (HS.pe_fold (100000000000000000000000000000) (pe_op op_pow pe_int pe_int) (by intro σ H Q q; walk_at "fold")) (pa_cons (pv 9) pa_nil))) (pa_cons (pe_callB (call_min2 rfl) (by rfl) T.z_min (by decide +kernel) (pa_cons (HS.pe_fold (100000000000000000000000000000) (pe_op op_pow pe_int pe_int) (by intro σ H Q q; walk_at "fold")) (pa_cons (pe_op op_add (pv 9) pe_int) pa_nil))) (pa_cons (pe_call G__law_low (hr.mono (by decide)) (by rfl) T.g__law_low T.F__law_low.kp T.b__law_low .nil pass0 (pa_cons (pv 1) pa_nil)) pa_nil))))) (pe_call G__law_draw (hr.mono (by decide)) (by rfl) T.g__law_draw T.F__law_draw.kp T.b__law_draw .nil pass0 (pa_cons (pv 1) (pa_cons pe_int pa_nil))) (fun _ _ => rfl)))
    (pss_cons (ps_set (i := 11) sc_law.nd rfl (.inr rfl) (pe_lst (pa_cons (pv 6) (pa_cons (pv 8) (pa_cons (pv 10) (pa_cons (pe_ix (HS.ixl K) (pe_lst (pa_cons (pe_call G__law_draw (hr.mono (by decide)) (by rfl) T.g__law_draw T.F__law_draw.kp T.b__law_draw .nil pass0 (pa_cons (pv 1) (pa_cons pe_int pa_nil))) (pa_cons (pe_call G__law_low (hr.mono (by decide)) (by rfl) T.g__law_low T.F__law_low.kp T.b__law_low .nil pass0 (pa_cons (pv 1) pa_nil)) pa_nil))) (pe_call G__law_draw (hr.mono (by decide)) (by rfl) T.g__law_draw T.F__law_draw.kp T.b__law_draw .nil pass0 (pa_cons (pv 1) (pa_cons pe_int pa_nil))) (fun _ _ => rfl)) pa_nil))))))
    (pss_cons (ps_par (i := 12) (j := 13) rfl sc_law.nd rfl rfl (by decide) rfl rfl (pa_cons (pe_callB (HS.krepr K hg hr) (by rfl) T.z_repr (by decide +kernel) (pa_cons (pv 4) pa_nil)) (pa_cons (pe_call G__law_dues (hr.mono (by decide)) (by rfl) T.g__law_dues T.F__law_dues.kp T.b__law_dues .nil pass0 (pa_cons (pv 4) (pa_cons (pv 5) (pa_cons (pv 11) pa_nil)))) pa_nil)) (by rfl))
    (pss_cons (ps_setLc (i := 14) (own := [("door", 15)]) (g := gName 15) (tt := tYes) rfl sc_law.nd rfl rfl (sw_true rfl rfl rfl (by decide +kernel)) (pi_range1 (by rfl) T.z_range (pa_cons pe_int pa_nil)) (blkOk_by (own := [("door", 15)]) (N := N_law) (sc := defScope s_law) (by decide +kernel)) (fun _ _ _ _ _ => pg_name (i := 15) sc_law.nd rfl (by first | exact .inl rfl | exact .inr rfl)) (fun _ _ _ _ _ => pts_nil) (fun _ _ _ _ _ => (pe_call G__law_raised hr (by rfl) T.g__law_raised T.F__law_raised.kp T.b__law_raised .nil pass0 (pa_cons (pv 15) (pa_cons (pv 4) (pa_cons (pv 5) (pa_cons (pv 11) pa_nil)))))))
    (pss_one (ps_if (PW.pt (pw_or (pt_not (pt_val (pe_call G__law_same (hr.mono (by decide)) (by rfl) T.g__law_same T.F__law_same.kp T.b__law_same .nil pass0 (pa_cons (pv 14) (pa_cons (pv 13) pa_nil))))) (pw_or1 (pt_cmpR op_ne (pe_callB (HS.krepr K hg hr) (by rfl) T.z_repr (by decide +kernel) (pa_cons (pv 4) pa_nil)) (pv 12) (nomark _)))))
      (pss_one (ps_ret pe_bl))
      pss_nil)))))))))))))))
    (pss_one (ps_ret (pe_call G__law_same (hr.mono (by decide)) (by rfl) T.g__law_same T.F__law_same.kp T.b__law_same .nil pass0 (pa_cons (pe_call G__law_raised hr (by rfl) T.g__law_raised T.F__law_raised.kp T.b__law_raised .nil pass0 (pa_cons pe_int (pa_cons (pe_lst (pa_cons pe_int (pa_cons pe_int pa_nil))) (pa_cons pe_int (pa_cons (pe_lst (pa_cons pe_int (pa_cons pe_int (pa_cons pe_int (pa_cons pe_int pa_nil))))) pa_nil))))) (pa_cons (pe_lst (pa_cons pe_str (pa_cons pe_int (pa_cons pe_bl pa_nil)))) pa_nil))))))), ?_⟩
    obtain ⟨hS, hl, k⟩ := hw
    walk_at "hs"
    refine ⟨a, ns, rfl, hS, hl, fun H1 s d K1 hs hd S1 => ?_⟩
    have hS1 := K1.sq hS id
    walk_at "hs"
    rw [List.length_map]
    refine ⟨by split <;> omega, by split <;> omega, for_range (n := _) (fun i σ H' => Src H' s d (1200 * i) ∧ ∃ x2 x3 x4 x5 x6 x7 x8 x9 x10 x11 x12 x13 x14, σ = [some (.ref a), some (.ref s), x2, x3, x4, x5, x6, x7, x8, x9, x10, x11, x12, x13, x14, none]) ⟨S1, _, _, _, _, _, _, _, _, _, _, _, _, _, rfl⟩ ?_ ?_⟩
    · rintro i σ H2 hi ⟨S2, x2, x3, x4, x5, x6, x7, x8, x9, x10, x11, x12, x13, x14, rfl⟩
      have hi' : i < 11 := by split at hi <;> omega
      clear hS hS1 K1 S1 hs hd
      walk_at "hs"
      refine ⟨by decide, by decide, for_range (n := 8) (fun t σ H' => Src H' s d (1200 * i + 150 * t) ∧ ∃ x3 x4 x5 x6 x7 x8 x9 x10 x11 x12 x13 x14, σ = [some (.ref a), some (.ref s), some (.int (0 + (i : Int))), x3, x4, x5, x6, x7, x8, x9, x10, x11, x12, x13, x14, none]) ⟨S2.up (by omega), _, _, _, _, _, _, _, _, _, _, _, _, rfl⟩ ?_ ?_⟩
      · clear S2
        rintro t σ H3 ht ⟨S3, x3, x4, x5, x6, x7, x8, x9, x10, x11, x12, x13, x14, rfl⟩
        walk_at "hs"
        intro p1 hp1
        generalize hG_p1 : upd _ p1 _ = H4
        have at_p1 := HS.upgs hG_p1
        have Kn_p1 := HS.upgK hG_p1 hp1
        clear hG_p1
        have e1 := S3.ne1 hp1
        have e2 := S3.ne2 hp1
        walk_at "hs"
        refine ⟨s, d, 2, _, rfl, S3.same Kn_p1, by decide, by decide, by omega, fun H5 v K5 S5 v0 v1 => ?_⟩
        refine HS.ixI [3, 38] (K5.sq (HS.sq at_p1) (by walk_at "ns")) v0 v1 fun wd _ hw => ?_
        have hwd : 3 ≤ wd ∧ wd ≤ 38 := by
          simp only [List.mem_cons, List.not_mem_nil, or_false] at hw
          omega
        clear hw K5 at_p1 Kn_p1 S3
        walk_at "hs"
        refine ⟨s, d, wd, _, rfl, S5, by omega, by omega, by omega, fun H6 b0 ls0 K6 hb0 hb hbl hB S6 => ?_⟩
        have S6 := S6.up (show _ ≤ 1200 * i + 150 * t + 80 by omega)
        walk_at "hs"
        refine ⟨s, d, b0, ls0, _, rfl, S6, HS.sq hb, S5.ne1 hb0, S5.ne2 hb0, by omega, fun x hx => by have := hB x hx; omega, by omega, fun H7 b ls K7 hb0' hb7 hl7 hN S7 => ?_⟩
        have b1 : b ≠ s := S6.ne1 hb0'
        have b2 : b ≠ d := S6.ne2 hb0'
        clear K6 K7 hb0 hb hbl hB hb0' S5 S6
        walk_at "hs"
        intro p2 hp2
        generalize hG_p2 : upd _ p2 _ = H8
        have at_p2 := HS.upgs hG_p2
        have Kn_p2 := HS.upgK hG_p2 hp2
        clear hG_p2
        have hb7 := Kn_p2 _ _ hb7 id
        have S8 := S7.same Kn_p2
        have e3 := S7.ne1 hp2
        have e4 := S7.ne2 hp2
        clear Kn_p2 S7
        walk_at "hs"
        refine ⟨s, d, p2, [9, 30], _, rfl, S8, HS.sq at_p2, e3, e4, show 2 ≤ 1000 by decide, fun x hx => by simp only [List.mem_cons, List.not_mem_nil, or_false] at hx; omega, by omega, fun H9 w1 K9 S9 w10 w11 => ?_⟩
        have hb9 := K9 _ _ hb7 (by walk_at "ns")
        clear K9 S8 at_p2 hb7
        walk_at "hs"
        refine ⟨s, d, _, _, rfl, S9, by decide, by decide, by omega, fun Ha w2 Ka Sa w20 w21 => ?_⟩
        have hba := Ka _ _ hb9 (by walk_at "ns")
        clear Ka S9 hb9
        walk_at "hs"
        intro p3 hp3
        generalize hG_p3 : upd _ p3 _ = Hb
        have at_p3 := HS.upgs hG_p3
        have Kn_p3 := HS.upgK hG_p3 hp3
        clear hG_p3
        have hba := Kn_p3 _ _ hba id
        have Sb := Sa.same Kn_p3
        have e5 := Sa.ne1 hp3
        have e6 := Sa.ne2 hp3
        clear Kn_p3 Sa
        walk_at "hs"
        refine ⟨s, d, 6, _, rfl, Sb, by decide, by decide, by omega, fun Hc v2 Kc Sc v20 v21 => ?_⟩
        refine HS.ixI [w1, 0, -1, 0 - w2, 1, 3] (Kc.sq (HS.sq at_p3) (by walk_at "ns")) v20 v21 fun j _ hj => ?_
        have hj' : j < 10 ^ 30 := by
          simp only [List.mem_cons, List.not_mem_nil, or_false] at hj
          omega
        have hbc := Kc _ _ hba (by walk_at "ns")
        clear hj Kc Sb at_p3 hba
        walk_at "hs"
        refine ⟨s, d, 3, _, rfl, Sc, by decide, by decide, by omega, fun Hd w3 Kd Sd w30 w31 => ?_⟩
        have hbd := Kd _ _ hbc (by walk_at "ns")
        clear Kd Sc hbc
        walk_at "hs"
        rw [List.length_map]
        refine ⟨s, d, _, rfl, Sd, by omega, fun He w4 Ke Se w40 w41 => ?_⟩
        have hbe := Ke _ _ hbd (by walk_at "ns")
        clear Ke Sd hbd
        walk_at "hs"
        intro p4 hp4
        generalize hG_p4 : upd _ p4 _ = Hf
        have at_p4 := HS.upgs hG_p4
        have Kn_p4 := HS.upgK hG_p4 hp4
        clear hG_p4
        have hbe := Kn_p4 _ _ hbe id
        have Sf := Se.same Kn_p4
        have e7 := Se.ne1 hp4
        have e8 := Se.ne2 hp4
        clear Kn_p4 Se
        walk_at "hs"
        refine ⟨s, d, 4, _, rfl, Sf, by decide, by decide, by omega, fun Hg v4 Kg Sg v40 v41 => ?_⟩
        refine HS.ixI [1 + w3, (ls.length : Int), (ls.length : Int) + 1, w4] (Kg.sq (HS.sq at_p4) (by walk_at "ns")) v40 v41 fun c _ _ => ?_
        have hbg := Kg _ _ hbe (by walk_at "ns")
        clear Kg Sf at_p4 hbe
        walk_at "hs"
        refine HS.stopX (fun v H' => Hg = H' ∧ ∃ z, v = .int z ∧ z < 10 ^ 30) (fun Q' k' => ?_) ?_
        · walk_at "hs"
          refine HS.itd (fun hc1 => ?_) (fun hc1 => ?_)
          · walk_at "hs"
            rw [List.length_map]
            by_cases hc2 : c ≤ ls.length
            · rw [decide_eq_true hc2]
              walk_at "hs"
              refine HS.ixI ls (HS.sq hbg) (by omega) (by omega) fun z _ hz => ?_
              exact k' _ _ ⟨rfl, z, rfl, (hN z hz).2⟩
            · rw [decide_eq_false hc2]
              walk_at "hs"
              exact k' _ _ ⟨rfl, 5, rfl, by decide⟩
          · walk_at "hs"
            exact k' _ _ ⟨rfl, 5, rfl, by decide⟩
        rintro v H' ⟨rfl, z, rfl, hz⟩
        walk_at "hs"
        refine ⟨s, d, _, rfl, Sg, by omega, fun I1 y1 J1 R1 y10 y11 => ?_⟩
        have hb1 := J1 _ _ hbg (by walk_at "ns")
        clear J1 Sg hbg
        walk_at "hs"
        intro p5 hp5
        generalize hG_p5 : upd _ p5 _ = I2
        have at_p5 := HS.upgs hG_p5
        have Kn_p5 := HS.upgK hG_p5 hp5
        clear hG_p5
        have hb1 := Kn_p5 _ _ hb1 id
        have R2 := R1.same Kn_p5
        have g1 := R1.ne1 hp5
        have g2 := R1.ne2 hp5
        clear Kn_p5 R1
        walk_at "hs"
        refine ⟨s, d, 4, _, rfl, R2, by decide, by decide, by omega, fun I3 y2 J3 R3 y20 y21 => ?_⟩
        refine HS.ixI [1, z, (if z + 1 < 999999999999999999999999999999 then z + 1 else 999999999999999999999999999999), y1] (J3.sq (HS.sq at_p5) (by walk_at "ns")) y20 y21 fun l _ _ => ?_
        have hb3 := J3 _ _ hb1 (by walk_at "ns")
        clear J3 R2 at_p5 hb1
        walk_at "hs"
        refine ⟨b, ls, _, rfl, HS.sq hb3, by split <;> omega, by split <;> omega, ?_⟩
        walk_at "hs"
        refine ⟨s, d, _, rfl, R3, by omega, fun I4 y3 J4 R4 y30 y31 => ?_⟩
        have hb4 := J4 _ _ hb3 (by walk_at "ns")
        clear J4 R3 hb3
        generalize pcount ls (if j > 1 then j else 1) = tot
        walk_at "hs"
        intro p6 hp6
        generalize hG_p6 : upd _ p6 _ = I5
        have at_p6 := HS.upgs hG_p6
        have Kn_p6 := HS.upgK hG_p6 hp6
        clear hG_p6
        have hb4 := Kn_p6 _ _ hb4 id
        have R5 := R4.same Kn_p6
        have g3 := R4.ne1 hp6
        have g4 := R4.ne2 hp6
        clear Kn_p6 R4
        walk_at "hs"
        refine ⟨s, d, 4, _, rfl, R5, by decide, by decide, by omega, fun I6 y4 J6 R6 y40 y41 => ?_⟩
        refine HS.ixI [1, (if tot < 100000000000000000000000000000 then tot else 100000000000000000000000000000), (if tot + 1 < 100000000000000000000000000000 then tot + 1 else 100000000000000000000000000000), y3] (J6.sq (HS.sq at_p6) (by walk_at "ns")) y40 y41 fun q _ hq => ?_
        have hq' : q < 2 ^ 200 := by
          simp only [List.mem_cons, List.not_mem_nil, or_false] at hq
          rcases hq with hq | hq | hq | hq
          · omega
          · rw [hq]; split <;> omega
          · rw [hq]; split <;> omega
          · omega
        have hb6 := J6 _ _ hb4 (by walk_at "ns")
        clear J6 R5 at_p6 hb4 hq
        walk_at "hs"
        refine ⟨s, d, 9, _, rfl, R6, by decide, by decide, by omega, fun I7 y5 J7 R7 y50 y51 => ?_⟩
        have hb7 := J7 _ _ hb6 (by walk_at "ns")
        clear J7 R6 hb6
        walk_at "hs"
        refine ⟨s, d, _, rfl, R7, by omega, fun I8 y6 J8 R8 y60 y61 => ?_⟩
        have hb8 := J8 _ _ hb7 (by walk_at "ns")
        clear J8 R7 hb7
        walk_at "hs"
        intro p7 hp7
        generalize hG_p7 : upd _ p7 _ = I9
        have at_p7 := HS.upgs hG_p7
        have Kn_p7 := HS.upgK hG_p7 hp7
        clear hG_p7
        have hb8 := Kn_p7 _ _ hb8 id
        have R9 := R8.same Kn_p7
        have g5 := R8.ne1 hp7
        have g6 := R8.ne2 hp7
        clear Kn_p7 R8
        walk_at "hs"
        refine ⟨s, d, 2, _, rfl, R9, by decide, by decide, by omega, fun Ia y7 Ja Ra y70 y71 => ?_⟩
        refine HS.ixI [y5, y6] (Ja.sq (HS.sq at_p7) (by walk_at "ns")) y70 y71 fun m _ hm => ?_
        have hm' : m < 2 ^ 190 := by
          simp only [List.mem_cons, List.not_mem_nil, or_false] at hm
          omega
        have hba := Ja _ _ hb8 (by walk_at "ns")
        clear Ja R9 at_p7 hb8 hm
        walk_at "hs"
        intro p8 hp8
        generalize hG_p8 : upd _ p8 _ = Ib
        have at_p8 := HS.upgs hG_p8
        have Kn_p8 := HS.upgK hG_p8 hp8
        clear hG_p8
        have hba := Kn_p8 _ _ hba id
        have Rb := Ra.same Kn_p8
        clear Kn_p8 Ra
        have tm : HS.Tm ls := ⟨fun x hx => by have := hN x hx; omega, by omega⟩
        walk_at "hs"
        refine HS.repI (HS.sq hba) tm ?_
        walk_at "hs"
        refine ⟨b, p8, ls, j, c, l, q, m, rfl, HS.sq hba, HS.sq at_p8, by omega, fun Ic p9 v0 v1 v2 v3 Jc hp9 at_p9 r0 r1 r2 r3 => ?_⟩
        have hbc := Jc _ _ hba id
        have at_p8 := Jc _ _ at_p8 id
        have Rc := Rb.same Jc
        clear Jc Rb hba
        walk_at "hs"
        refine ⟨by decide, by decide, fun D hD => lc_range (lo := 0) (n := 4) (fun u H' => HS.Keep (fun _ => False) Ic H' ∧ ∃ us : List V, H' D = some (.lst us) ∧ us.length = u ∧ ∀ (n : Nat) v, us[n]? = some v → ResD (dueD ls (n : Int) j c l q m) H' v) ⟨.new hD, [], upd_same, rfl, fun n v h => by simp at h⟩ ?_ ?_⟩
        · rintro u H' hu ⟨KD, us, hD', hul, hus⟩
          walk_at "hs"
          refine ⟨b, p8, ls, _, j, c, l, q, m, rfl, HS.sq (KD _ _ hbc id), HS.sq (KD _ _ at_p8 id), by omega, by omega, hq', hm', fun H2' v KE r => ?_⟩
          have hD2 := KE _ _ hD' id
          have all : ∀ (n : Nat) w, (us ++ [v])[n]? = some w → ResD (dueD ls (n : Int) j c l q m) H2' w := fun n w hw => by
            by_cases hn : n < us.length
            · rw [List.getElem?_append_left hn] at hw
              exact (hus n w hw).keep KE
            · rw [List.getElem?_append_right (by omega)] at hw
              have hn2 : n - us.length = 0 := by
                by_cases h0 : n - us.length = 0
                · exact h0
                · rw [show n - us.length = (n - us.length - 1) + 1 by omega] at hw
                  simp at hw
              rw [hn2] at hw
              have ew : v = w := by simpa using hw
              subst ew
              rw [show (0 : Int) + u = n by omega] at r
              exact r
          refine ⟨us, hD2, HS.sz (by omega), (KD.trans KE).put hD, us ++ [v], upd_same, by rw [List.length_append, hul]; rfl, fun n w hw => ?_⟩
          exact ResD.put hD2 (fun n w h => ⟨_, (hus n w h).keep KE⟩) (all n w hw)
        rintro H' ⟨KD, us, hD', hul, hus⟩
        have hbz := KD _ _ hbc id
        walk_at "hs"
        refine ⟨.ref D, .ref p9, rfl, .lst hD' (KD _ _ at_p9 id) (by rw [hul]; rfl) (by omega) fun n x y g1 g2 => ?_, fun Hz Kz => ?_⟩
        · have hx := hus n x g1
          match n, g2, hx with
          | 0, g2, hx => cases g2; exact hx.same (by rw [show dueD ls ((0 : Nat) : Int) j c l q m = pagesD ls j from rfl]; exact r0.keep KD)
          | 1, g2, hx => cases g2; exact hx.same (by rw [show dueD ls ((1 : Nat) : Int) j c l q m = pageOfD ls j c l from rfl]; exact r1.keep KD)
          | 2, g2, hx => cases g2; exact hx.same (by rw [show dueD ls ((2 : Nat) : Int) j c l q m = linesD ls j q from rfl]; exact r2.keep KD)
          | 3, g2, hx => cases g2; exact hx.same (by rw [show dueD ls ((3 : Nat) : Int) j c l q m = countsD ls m from rfl]; exact r3.keep KD)
          | _ + 4, g2, hx => cases g2
        · have Rz := (Rc.same KD).same Kz
          walk_at "hs"
          refine HS.repI (HS.sq (Kz _ _ hbz id)) tm ?_
          walk_at "hs"
          refine HS.neSS ?_
          walk_at "hs"
          exact ⟨Rz.up (by omega), _, _, _, _, _, _, _, _, _, _, _, _, rfl⟩
      · rintro σ H3 ⟨S3, x3, x4, x5, x6, x7, x8, x9, x10, x11, x12, x13, x14, rfl⟩
        exact ⟨S3.up (by omega), _, _, _, _, _, _, _, _, _, _, _, _, _, rfl⟩
    · rintro σ H2 ⟨S2, x2, x3, x4, x5, x6, x7, x8, x9, x10, x11, x12, x13, x14, rfl⟩
      walk_at "hs"
      intro p1 hp1
      generalize hG_p1 : upd _ p1 _ = H3
      have at_p1 := HS.upgs hG_p1
      have Kn_p1 := HS.upgK hG_p1 hp1
      clear hG_p1
      walk_at "hs"
      intro p2 hp2
      generalize hG_p2 : upd _ p2 _ = H4
      have at_p2 := HS.upgs hG_p2
      have Kn_p2 := HS.upgK hG_p2 hp2
      clear hG_p2
      have at_p1 := Kn_p2 _ _ at_p1 id
      walk_at "hs"
      refine ⟨p1, p2, [5, 3], 1, 0, 9, 9, 9, 9, rfl, HS.sq at_p1, HS.sq at_p2, by decide, by decide, by decide, by decide, fun H5 v K5 r => ?_⟩
      walk_at "hs"
      intro p3 hp3
      generalize hG_p3 : upd _ p3 _ = H6
      have at_p3 := HS.upgs hG_p3
      have Kn_p3 := HS.upgK hG_p3 hp3
      clear hG_p3
      walk_at "hs"
      refine ⟨v, .ref p3, rfl, ResD.same (e := some (1, 0)) (r.keep Kn_p3) ⟨p3, rfl, at_p3⟩, fun H7 K7 => ?_⟩
      exact k _
end
theorem all_mk {l : PySem.W.OpenLaw} {w : World} {K : PySem.W.Frag} {h : Heap} {mg : Str → Option Value} {fa f0 f1 f2 f3 f4 f5 f6 f7 f8 f9 f10 f11 f12 f13 f14 f15 f16 f17 f18 f19 f20 f21 f22 f23 f24 f25 f26 c_BookError c_InvalidBook c_InvalidSize c_InvalidTable c_InvalidChain c_InvalidNumber c_NothingToUndo c_Unreadable : Addr} (X : K.In h) (G : h.Ns mainGlobals mg) (hfa : mg "law" = some (.ref fa))
    {od0 an0 od1 an1 od2 an2 od3 an3 od4 an4 od5 an5 od6 an6 od7 an7 od8 an8 od9 an9 od10 an10 od11 an11 od12 an12 od13 an13 od14 an14 od15 an15 od16 an16 od17 an17 od18 an18 od19 an19 od20 an20 od21 an21 od22 an22 od23 an23 od24 an24 od25 an25 od26 an26 : Option Addr} {sl0 sl1 sl2 sl3 sl4 sl5 sl6 sl7 sl8 sl9 sl10 sl11 sl12 sl13 sl14 sl15 sl16 sl17 sl18 sl19 sl20 sl21 sl22 sl23 sl24 sl25 sl26 : Array (Option Value)} {oc0 kV0 dc0 pm0 cd0 ct0 oc1 kV1 dc1 pm1 cd1 ct1 oc2 kV2 dc2 pm2 cd2 ct2 oc3 kV3 dc3 pm3 cd3 ct3 oc4 kV4 dc4 pm4 cd4 ct4 oc5 kV5 dc5 pm5 cd5 ct5 oc6 kV6 dc6 pm6 cd6 ct6 oc7 kV7 dc7 pm7 cd7 ct7 oc8 kV8 dc8 pm8 cd8 ct8 oc9 kV9 dc9 pm9 cd9 ct9 oc10 kV10 dc10 pm10 cd10 ct10 oc11 kV11 dc11 pm11 cd11 ct11 oc12 kV12 dc12 pm12 cd12 ct12 oc13 kV13 dc13 pm13 cd13 ct13 oc14 kV14 dc14 pm14 cd14 ct14 oc15 kV15 dc15 pm15 cd15 ct15 oc16 kV16 dc16 pm16 cd16 ct16 oc17 kV17 dc17 pm17 cd17 ct17 oc18 kV18 dc18 pm18 cd18 ct18 oc19 kV19 dc19 pm19 cd19 ct19 oc20 kV20 dc20 pm20 cd20 ct20 oc21 kV21 dc21 pm21 cd21 ct21 oc22 kV22 dc22 pm22 cd22 ct22 oc23 kV23 dc23 pm23 cd23 ct23 oc24 kV24 dc24 pm24 cd24 ct24 oc25 kV25 dc25 pm25 cd25 ct25 oc26 kV26 dc26 pm26 cd26 ct26 : Value}
    (m_BookError : PySem.W.nsIn K mainGlobals "BookError" = some (some (.ref c_BookError)))
    (m_InvalidBook : PySem.W.nsIn K mainGlobals "InvalidBook" = some (some (.ref c_InvalidBook)))
    (m_InvalidSize : PySem.W.nsIn K mainGlobals "InvalidSize" = some (some (.ref c_InvalidSize)))
    (m_InvalidTable : PySem.W.nsIn K mainGlobals "InvalidTable" = some (some (.ref c_InvalidTable)))
    (m_InvalidChain : PySem.W.nsIn K mainGlobals "InvalidChain" = some (some (.ref c_InvalidChain)))
    (m_InvalidNumber : PySem.W.nsIn K mainGlobals "InvalidNumber" = some (some (.ref c_InvalidNumber)))
    (m_NothingToUndo : PySem.W.nsIn K mainGlobals "NothingToUndo" = some (some (.ref c_NothingToUndo)))
    (m_Unreadable : PySem.W.nsIn K mainGlobals "Unreadable" = some (some (.ref c_Unreadable)))
    (in_InvalidBook : PySem.W.findIn K (.ref c_InvalidBook) "__init__" = some (some (.ref f0)))
    (l0 : K.lookup f0 = some ⟨oc0, od0, .func (PySem.W.fnOf "__init__" "InvalidBook.__init__" (defArgs s_InvalidBook___init__) (defBody s_InvalidBook___init__) (defScope s_InvalidBook___init__) .none kV0 dc0 pm0 an0 cd0 ct0), sl0⟩) (c0 : PySem.W.codeIn K cd0 "InvalidBook.__init__" = true) (k0 : PySem.W.keepIn K (.ref f0) = true)
    (in_InvalidSize : PySem.W.findIn K (.ref c_InvalidSize) "__init__" = some (some (.ref f1)))
    (l1 : K.lookup f1 = some ⟨oc1, od1, .func (PySem.W.fnOf "__init__" "InvalidSize.__init__" (defArgs s_InvalidSize___init__) (defBody s_InvalidSize___init__) (defScope s_InvalidSize___init__) .none kV1 dc1 pm1 an1 cd1 ct1), sl1⟩) (c1 : PySem.W.codeIn K cd1 "InvalidSize.__init__" = true) (k1 : PySem.W.keepIn K (.ref f1) = true)
    (in_InvalidNumber : PySem.W.findIn K (.ref c_InvalidNumber) "__init__" = some (some (.ref f2)))
    (l2 : K.lookup f2 = some ⟨oc2, od2, .func (PySem.W.fnOf "__init__" "InvalidNumber.__init__" (defArgs s_InvalidNumber___init__) (defBody s_InvalidNumber___init__) (defScope s_InvalidNumber___init__) .none kV2 dc2 pm2 an2 cd2 ct2), sl2⟩) (c2 : PySem.W.codeIn K cd2 "InvalidNumber.__init__" = true) (k2 : PySem.W.keepIn K (.ref f2) = true)
    (a3 : PySem.W.nsIn K mainGlobals "_law_source" = some (some (.ref f3)))
    (l3 : K.lookup f3 = some ⟨oc3, od3, .func (PySem.W.fnOf "_law_source" "_law_source" (defArgs s__law_source) (defBody s__law_source) (defScope s__law_source) .none kV3 dc3 pm3 an3 cd3 ct3), sl3⟩) (c3 : PySem.W.codeIn K cd3 "_law_source" = true) (k3 : PySem.W.keepIn K (.ref f3) = true)
    (a4 : PySem.W.nsIn K mainGlobals "_law_draw" = some (some (.ref f4)))
    (l4 : K.lookup f4 = some ⟨oc4, od4, .func (PySem.W.fnOf "_law_draw" "_law_draw" (defArgs s__law_draw) (defBody s__law_draw) (defScope s__law_draw) .none kV4 dc4 pm4 an4 cd4 ct4), sl4⟩) (c4 : PySem.W.codeIn K cd4 "_law_draw" = true) (k4 : PySem.W.keepIn K (.ref f4) = true)
    (a5 : PySem.W.nsIn K mainGlobals "_law_lengths" = some (some (.ref f5)))
    (l5 : K.lookup f5 = some ⟨oc5, od5, .func (PySem.W.fnOf "_law_lengths" "_law_lengths" (defArgs s__law_lengths) (defBody s__law_lengths) (defScope s__law_lengths) .none kV5 dc5 pm5 an5 cd5 ct5), sl5⟩) (c5 : PySem.W.codeIn K cd5 "_law_lengths" = true) (k5 : PySem.W.keepIn K (.ref f5) = true)
    (a6 : PySem.W.nsIn K mainGlobals "_law_wide" = some (some (.ref f6)))
    (l6 : K.lookup f6 = some ⟨oc6, od6, .func (PySem.W.fnOf "_law_wide" "_law_wide" (defArgs s__law_wide) (defBody s__law_wide) (defScope s__law_wide) .none kV6 dc6 pm6 an6 cd6 ct6), sl6⟩) (c6 : PySem.W.codeIn K cd6 "_law_wide" = true) (k6 : PySem.W.keepIn K (.ref f6) = true)
    (a7 : PySem.W.nsIn K mainGlobals "_law_sheets" = some (some (.ref f7)))
    (l7 : K.lookup f7 = some ⟨oc7, od7, .func (PySem.W.fnOf "_law_sheets" "_law_sheets" (defArgs s__law_sheets) (defBody s__law_sheets) (defScope s__law_sheets) .none kV7 dc7 pm7 an7 cd7 ct7), sl7⟩) (c7 : PySem.W.codeIn K cd7 "_law_sheets" = true) (k7 : PySem.W.keepIn K (.ref f7) = true)
    (a8 : PySem.W.nsIn K mainGlobals "_law_same" = some (some (.ref f8)))
    (l8 : K.lookup f8 = some ⟨oc8, od8, .func (PySem.W.fnOf "_law_same" "_law_same" (defArgs s__law_same) (defBody s__law_same) (defScope s__law_same) .none kV8 dc8 pm8 an8 cd8 ct8), sl8⟩) (c8 : PySem.W.codeIn K cd8 "_law_same" = true) (k8 : PySem.W.keepIn K (.ref f8) = true)
    (a9 : PySem.W.nsIn K mainGlobals "_law_error" = some (some (.ref f9)))
    (l9 : K.lookup f9 = some ⟨oc9, od9, .func (PySem.W.fnOf "_law_error" "_law_error" (defArgs s__law_error) (defBody s__law_error) (defScope s__law_error) .none kV9 dc9 pm9 an9 cd9 ct9), sl9⟩) (c9 : PySem.W.codeIn K cd9 "_law_error" = true) (k9 : PySem.W.keepIn K (.ref f9) = true)
    (a10 : PySem.W.nsIn K mainGlobals "_law_total" = some (some (.ref f10)))
    (l10 : K.lookup f10 = some ⟨oc10, od10, .func (PySem.W.fnOf "_law_total" "_law_total" (defArgs s__law_total) (defBody s__law_total) (defScope s__law_total) .none kV10 dc10 pm10 an10 cd10 ct10), sl10⟩) (c10 : PySem.W.codeIn K cd10 "_law_total" = true) (k10 : PySem.W.keepIn K (.ref f10) = true)
    (a11 : PySem.W.nsIn K mainGlobals "check_book" = some (some (.ref f11)))
    (l11 : K.lookup f11 = some ⟨oc11, od11, .func (PySem.W.fnOf "check_book" "check_book" (defArgs s_check_book) (defBody s_check_book) (defScope s_check_book) .none kV11 dc11 pm11 an11 cd11 ct11), sl11⟩) (c11 : PySem.W.codeIn K cd11 "check_book" = true) (k11 : PySem.W.keepIn K (.ref f11) = true)
    (a12 : PySem.W.nsIn K mainGlobals "check_size" = some (some (.ref f12)))
    (l12 : K.lookup f12 = some ⟨oc12, od12, .func (PySem.W.fnOf "check_size" "check_size" (defArgs s_check_size) (defBody s_check_size) (defScope s_check_size) .none kV12 dc12 pm12 an12 cd12 ct12), sl12⟩) (c12 : PySem.W.codeIn K cd12 "check_size" = true) (k12 : PySem.W.keepIn K (.ref f12) = true)
    (a13 : PySem.W.nsIn K mainGlobals "count_pages" = some (some (.ref f13)))
    (l13 : K.lookup f13 = some ⟨oc13, od13, .func (PySem.W.fnOf "count_pages" "count_pages" (defArgs s_count_pages) (defBody s_count_pages) (defScope s_count_pages) .none kV13 dc13 pm13 an13 cd13 ct13), sl13⟩) (c13 : PySem.W.codeIn K cd13 "count_pages" = true) (k13 : PySem.W.keepIn K (.ref f13) = true)
    (a14 : PySem.W.nsIn K mainGlobals "chapter_pages" = some (some (.ref f14)))
    (l14 : K.lookup f14 = some ⟨oc14, od14, .func (PySem.W.fnOf "chapter_pages" "chapter_pages" (defArgs s_chapter_pages) (defBody s_chapter_pages) (defScope s_chapter_pages) .none kV14 dc14 pm14 an14 cd14 ct14), sl14⟩) (c14 : PySem.W.codeIn K cd14 "chapter_pages" = true) (k14 : PySem.W.keepIn K (.ref f14) = true)
    (a15 : PySem.W.nsIn K mainGlobals "find_chapter" = some (some (.ref f15)))
    (l15 : K.lookup f15 = some ⟨oc15, od15, .func (PySem.W.fnOf "find_chapter" "find_chapter" (defArgs s_find_chapter) (defBody s_find_chapter) (defScope s_find_chapter) .none kV15 dc15 pm15 an15 cd15 ct15), sl15⟩) (c15 : PySem.W.codeIn K cd15 "find_chapter" = true) (k15 : PySem.W.keepIn K (.ref f15) = true)
    (a16 : PySem.W.nsIn K mainGlobals "check_not_negative" = some (some (.ref f16)))
    (l16 : K.lookup f16 = some ⟨oc16, od16, .func (PySem.W.fnOf "check_not_negative" "check_not_negative" (defArgs s_check_not_negative) (defBody s_check_not_negative) (defScope s_check_not_negative) .none kV16 dc16 pm16 an16 cd16 ct16), sl16⟩) (c16 : PySem.W.codeIn K cd16 "check_not_negative" = true) (k16 : PySem.W.keepIn K (.ref f16) = true)
    (a17 : PySem.W.nsIn K mainGlobals "check_number" = some (some (.ref f17)))
    (l17 : K.lookup f17 = some ⟨oc17, od17, .func (PySem.W.fnOf "check_number" "check_number" (defArgs s_check_number) (defBody s_check_number) (defScope s_check_number) .none kV17 dc17 pm17 an17 cd17 ct17), sl17⟩) (c17 : PySem.W.codeIn K cd17 "check_number" = true) (k17 : PySem.W.keepIn K (.ref f17) = true)
    (a18 : PySem.W.nsIn K mainGlobals "pages" = some (some (.ref f18)))
    (l18 : K.lookup f18 = some ⟨oc18, od18, .func (PySem.W.fnOf "pages" "pages" (defArgs s_pages) (defBody s_pages) (defScope s_pages) .none kV18 dc18 pm18 an18 cd18 ct18), sl18⟩) (c18 : PySem.W.codeIn K cd18 "pages" = true) (k18 : PySem.W.keepIn K (.ref f18) = true)
    (a19 : PySem.W.nsIn K mainGlobals "page_of" = some (some (.ref f19)))
    (l19 : K.lookup f19 = some ⟨oc19, od19, .func (PySem.W.fnOf "page_of" "page_of" (defArgs s_page_of) (defBody s_page_of) (defScope s_page_of) .none kV19 dc19 pm19 an19 cd19 ct19), sl19⟩) (c19 : PySem.W.codeIn K cd19 "page_of" = true) (k19 : PySem.W.keepIn K (.ref f19) = true)
    (a20 : PySem.W.nsIn K mainGlobals "lines_on" = some (some (.ref f20)))
    (l20 : K.lookup f20 = some ⟨oc20, od20, .func (PySem.W.fnOf "lines_on" "lines_on" (defArgs s_lines_on) (defBody s_lines_on) (defScope s_lines_on) .none kV20 dc20 pm20 an20 cd20 ct20), sl20⟩) (c20 : PySem.W.codeIn K cd20 "lines_on" = true) (k20 : PySem.W.keepIn K (.ref f20) = true)
    (a21 : PySem.W.nsIn K mainGlobals "counts" = some (some (.ref f21)))
    (l21 : K.lookup f21 = some ⟨oc21, od21, .func (PySem.W.fnOf "counts" "counts" (defArgs s_counts) (defBody s_counts) (defScope s_counts) .none kV21 dc21 pm21 an21 cd21 ct21), sl21⟩) (c21 : PySem.W.codeIn K cd21 "counts" = true) (k21 : PySem.W.keepIn K (.ref f21) = true)
    (a22 : PySem.W.nsIn K mainGlobals "_law_low" = some (some (.ref f22)))
    (l22 : K.lookup f22 = some ⟨oc22, od22, .func (PySem.W.fnOf "_law_low" "_law_low" (defArgs s__law_low) (defBody s__law_low) (defScope s__law_low) .none kV22 dc22 pm22 an22 cd22 ct22), sl22⟩) (c22 : PySem.W.codeIn K cd22 "_law_low" = true) (k22 : PySem.W.keepIn K (.ref f22) = true)
    (a23 : PySem.W.nsIn K mainGlobals "_law_bent" = some (some (.ref f23)))
    (l23 : K.lookup f23 = some ⟨oc23, od23, .func (PySem.W.fnOf "_law_bent" "_law_bent" (defArgs s__law_bent) (defBody s__law_bent) (defScope s__law_bent) .none kV23 dc23 pm23 an23 cd23 ct23), sl23⟩) (c23 : PySem.W.codeIn K cd23 "_law_bent" = true) (k23 : PySem.W.keepIn K (.ref f23) = true)
    (a24 : PySem.W.nsIn K mainGlobals "_law_dues" = some (some (.ref f24)))
    (l24 : K.lookup f24 = some ⟨oc24, od24, .func (PySem.W.fnOf "_law_dues" "_law_dues" (defArgs s__law_dues) (defBody s__law_dues) (defScope s__law_dues) .none kV24 dc24 pm24 an24 cd24 ct24), sl24⟩) (c24 : PySem.W.codeIn K cd24 "_law_dues" = true) (k24 : PySem.W.keepIn K (.ref f24) = true)
    (a25 : PySem.W.nsIn K mainGlobals "_law_raised" = some (some (.ref f25)))
    (l25 : K.lookup f25 = some ⟨oc25, od25, .func (PySem.W.fnOf "_law_raised" "_law_raised" (defArgs s__law_raised) (defBody s__law_raised) (defScope s__law_raised) .none kV25 dc25 pm25 an25 cd25 ct25), sl25⟩) (c25 : PySem.W.codeIn K cd25 "_law_raised" = true) (k25 : PySem.W.keepIn K (.ref f25) = true)
    (a26 : PySem.W.nsIn K mainGlobals "law" = some (some (.ref f26)))
    (l26 : K.lookup f26 = some ⟨oc26, od26, .func (PySem.W.fnOf "law" "law" (defArgs s_law) (defBody s_law) (defScope s_law) .none kV26 dc26 pm26 an26 cd26 ct26), sl26⟩) (c26 : PySem.W.codeIn K cd26 "law" = true) (k26 : PySem.W.keepIn K (.ref f26) = true)
    (z0 : PySem.W.nsIn K mainGlobals "ValueError" = some none)
    (z1 : PySem.W.nsIn K mainGlobals "bool" = some none)
    (z2 : PySem.W.nsIn K mainGlobals "enumerate" = some none)
    (z3 : PySem.W.nsIn K mainGlobals "int" = some none)
    (z4 : PySem.W.nsIn K mainGlobals "isinstance" = some none)
    (z5 : PySem.W.nsIn K mainGlobals "len" = some none)
    (z6 : PySem.W.nsIn K mainGlobals "list" = some none)
    (z7 : PySem.W.nsIn K mainGlobals "max" = some none)
    (z8 : PySem.W.nsIn K mainGlobals "min" = some none)
    (z9 : PySem.W.nsIn K mainGlobals "range" = some none)
    (z10 : PySem.W.nsIn K mainGlobals "repr" = some none)
    (z11 : PySem.W.nsIn K mainGlobals "str" = some none)
    (z12 : PySem.W.nsIn K mainGlobals "sum" = some none)
    (z13 : PySem.W.nsIn K mainGlobals "tuple" = some none)
    (st_InvalidBook : PySem.W.subIn K (.ref c_InvalidBook) (.type "StopIteration") = some false)
    (st_InvalidNumber : PySem.W.subIn K (.ref c_InvalidNumber) (.type "StopIteration") = some false)
    {nm_InvalidBook qn_InvalidBook : Str} {N_InvalidBook : Addr} {bs_InvalidBook bm_InvalidBook : List Value} {sn_InvalidBook : List Str} {sub_InvalidBook : List Value} {ab_InvalidBook : Bool} {col_InvalidBook : Option Bool} {dd_InvalidBook : Option Addr} {k0_InvalidBook k1_InvalidBook k2_InvalidBook k3_InvalidBook k5_InvalidBook : Option Value}
    (l_InvalidBook : K.lookup c_InvalidBook = some (excClassObj nm_InvalidBook qn_InvalidBook c_InvalidBook N_InvalidBook bs_InvalidBook bm_InvalidBook true sn_InvalidBook sub_InvalidBook ab_InvalidBook col_InvalidBook dd_InvalidBook k0_InvalidBook k1_InvalidBook k2_InvalidBook k3_InvalidBook k5_InvalidBook "ValueError.__new__"))
    (r_InvalidBook : PySem.HandSPX.refsVE bm_InvalidBook = true)
    (sa_InvalidBook : PySem.W.findIn K (.ref c_InvalidBook) "__setattr__" = some (some (.builtin "object.__setattr__")))
    (ex_InvalidBook : PySem.W.subIn K (.ref c_InvalidBook) (.type "BaseException") = some true)
    (ty_InvalidBook : PySem.W.typeIn K (.ref c_InvalidBook) = some (.type "type"))
    (kc_InvalidBook : PySem.W.keepIn K (.ref c_InvalidBook) = true)
    (ga_InvalidBook : PySem.W.findIn K (.ref c_InvalidBook) "__getattribute__" = some (some (.builtin "BaseException.__getattribute__")))
    (gg_InvalidBook : PySem.W.findIn K (.ref c_InvalidBook) "__getattr__" = some none)
    (hd_InvalidBook : PySem.W.hasDictIn K c_InvalidBook = true)
    (ha_InvalidBook : PySem.W.findIn K (.ref c_InvalidBook) "__class__" = some (some (.builtin "object.__class__")))
    (hn_InvalidBook : PySem.W.specialIn K (.builtin "object.__class__") "__get__" = some (some (.builtin "getset_descriptor.__get__")))
    (ht_InvalidBook : PySem.W.takesIn K (.builtin "object.__class__") = some true)
    (hm_InvalidBook : PySem.W.mroIn K c_InvalidBook (.type "object") = some true)
    (nv_InvalidBook : PySem.W.findIn K (.ref c_InvalidBook) "value" = some none)
    (ti_InvalidBook : PySem.W.typeIn K (.ref f0) = some (.type "function"))
    (kq_InvalidBook_BookError : PySem.W.kitOne K (.ref c_InvalidBook) (.ref c_BookError) = some true)
    (kq_InvalidBook_InvalidBook : PySem.W.kitOne K (.ref c_InvalidBook) (.ref c_InvalidBook) = some true)
    (kq_InvalidBook_InvalidSize : PySem.W.kitOne K (.ref c_InvalidBook) (.ref c_InvalidSize) = some false)
    (kq_InvalidBook_InvalidTable : PySem.W.kitOne K (.ref c_InvalidBook) (.ref c_InvalidTable) = some false)
    (kq_InvalidBook_InvalidChain : PySem.W.kitOne K (.ref c_InvalidBook) (.ref c_InvalidChain) = some false)
    (kq_InvalidBook_InvalidNumber : PySem.W.kitOne K (.ref c_InvalidBook) (.ref c_InvalidNumber) = some false)
    (kq_InvalidBook_NothingToUndo : PySem.W.kitOne K (.ref c_InvalidBook) (.ref c_NothingToUndo) = some false)
    (kq_InvalidBook_Unreadable : PySem.W.kitOne K (.ref c_InvalidBook) (.ref c_Unreadable) = some false)
    (kq_InvalidBook_ValueError : PySem.W.kitOne K (.ref c_InvalidBook) (.type "ValueError") = some true)
    {nm_InvalidSize qn_InvalidSize : Str} {N_InvalidSize : Addr} {bs_InvalidSize bm_InvalidSize : List Value} {sn_InvalidSize : List Str} {sub_InvalidSize : List Value} {ab_InvalidSize : Bool} {col_InvalidSize : Option Bool} {dd_InvalidSize : Option Addr} {k0_InvalidSize k1_InvalidSize k2_InvalidSize k3_InvalidSize k5_InvalidSize : Option Value}
    (l_InvalidSize : K.lookup c_InvalidSize = some (excClassObj nm_InvalidSize qn_InvalidSize c_InvalidSize N_InvalidSize bs_InvalidSize bm_InvalidSize true sn_InvalidSize sub_InvalidSize ab_InvalidSize col_InvalidSize dd_InvalidSize k0_InvalidSize k1_InvalidSize k2_InvalidSize k3_InvalidSize k5_InvalidSize "ValueError.__new__"))
    (r_InvalidSize : PySem.HandSPX.refsVE bm_InvalidSize = true)
    (sa_InvalidSize : PySem.W.findIn K (.ref c_InvalidSize) "__setattr__" = some (some (.builtin "object.__setattr__")))
    (ex_InvalidSize : PySem.W.subIn K (.ref c_InvalidSize) (.type "BaseException") = some true)
    (ty_InvalidSize : PySem.W.typeIn K (.ref c_InvalidSize) = some (.type "type"))
    (kc_InvalidSize : PySem.W.keepIn K (.ref c_InvalidSize) = true)
    (ga_InvalidSize : PySem.W.findIn K (.ref c_InvalidSize) "__getattribute__" = some (some (.builtin "BaseException.__getattribute__")))
    (gg_InvalidSize : PySem.W.findIn K (.ref c_InvalidSize) "__getattr__" = some none)
    (hd_InvalidSize : PySem.W.hasDictIn K c_InvalidSize = true)
    (ha_InvalidSize : PySem.W.findIn K (.ref c_InvalidSize) "__class__" = some (some (.builtin "object.__class__")))
    (hn_InvalidSize : PySem.W.specialIn K (.builtin "object.__class__") "__get__" = some (some (.builtin "getset_descriptor.__get__")))
    (ht_InvalidSize : PySem.W.takesIn K (.builtin "object.__class__") = some true)
    (hm_InvalidSize : PySem.W.mroIn K c_InvalidSize (.type "object") = some true)
    (nv_InvalidSize : PySem.W.findIn K (.ref c_InvalidSize) "value" = some none)
    (ti_InvalidSize : PySem.W.typeIn K (.ref f1) = some (.type "function"))
    (kq_InvalidSize_BookError : PySem.W.kitOne K (.ref c_InvalidSize) (.ref c_BookError) = some true)
    (kq_InvalidSize_InvalidBook : PySem.W.kitOne K (.ref c_InvalidSize) (.ref c_InvalidBook) = some false)
    (kq_InvalidSize_InvalidSize : PySem.W.kitOne K (.ref c_InvalidSize) (.ref c_InvalidSize) = some true)
    (kq_InvalidSize_InvalidTable : PySem.W.kitOne K (.ref c_InvalidSize) (.ref c_InvalidTable) = some false)
    (kq_InvalidSize_InvalidChain : PySem.W.kitOne K (.ref c_InvalidSize) (.ref c_InvalidChain) = some false)
    (kq_InvalidSize_InvalidNumber : PySem.W.kitOne K (.ref c_InvalidSize) (.ref c_InvalidNumber) = some false)
    (kq_InvalidSize_NothingToUndo : PySem.W.kitOne K (.ref c_InvalidSize) (.ref c_NothingToUndo) = some false)
    (kq_InvalidSize_Unreadable : PySem.W.kitOne K (.ref c_InvalidSize) (.ref c_Unreadable) = some false)
    (kq_InvalidSize_ValueError : PySem.W.kitOne K (.ref c_InvalidSize) (.type "ValueError") = some true)
    {nm_InvalidNumber qn_InvalidNumber : Str} {N_InvalidNumber : Addr} {bs_InvalidNumber bm_InvalidNumber : List Value} {sn_InvalidNumber : List Str} {sub_InvalidNumber : List Value} {ab_InvalidNumber : Bool} {col_InvalidNumber : Option Bool} {dd_InvalidNumber : Option Addr} {k0_InvalidNumber k1_InvalidNumber k2_InvalidNumber k3_InvalidNumber k5_InvalidNumber : Option Value}
    (l_InvalidNumber : K.lookup c_InvalidNumber = some (excClassObj nm_InvalidNumber qn_InvalidNumber c_InvalidNumber N_InvalidNumber bs_InvalidNumber bm_InvalidNumber true sn_InvalidNumber sub_InvalidNumber ab_InvalidNumber col_InvalidNumber dd_InvalidNumber k0_InvalidNumber k1_InvalidNumber k2_InvalidNumber k3_InvalidNumber k5_InvalidNumber "ValueError.__new__"))
    (r_InvalidNumber : PySem.HandSPX.refsVE bm_InvalidNumber = true)
    (sa_InvalidNumber : PySem.W.findIn K (.ref c_InvalidNumber) "__setattr__" = some (some (.builtin "object.__setattr__")))
    (ex_InvalidNumber : PySem.W.subIn K (.ref c_InvalidNumber) (.type "BaseException") = some true)
    (ty_InvalidNumber : PySem.W.typeIn K (.ref c_InvalidNumber) = some (.type "type"))
    (kc_InvalidNumber : PySem.W.keepIn K (.ref c_InvalidNumber) = true)
    (ga_InvalidNumber : PySem.W.findIn K (.ref c_InvalidNumber) "__getattribute__" = some (some (.builtin "BaseException.__getattribute__")))
    (gg_InvalidNumber : PySem.W.findIn K (.ref c_InvalidNumber) "__getattr__" = some none)
    (hd_InvalidNumber : PySem.W.hasDictIn K c_InvalidNumber = true)
    (ha_InvalidNumber : PySem.W.findIn K (.ref c_InvalidNumber) "__class__" = some (some (.builtin "object.__class__")))
    (hn_InvalidNumber : PySem.W.specialIn K (.builtin "object.__class__") "__get__" = some (some (.builtin "getset_descriptor.__get__")))
    (ht_InvalidNumber : PySem.W.takesIn K (.builtin "object.__class__") = some true)
    (hm_InvalidNumber : PySem.W.mroIn K c_InvalidNumber (.type "object") = some true)
    (nv_InvalidNumber : PySem.W.findIn K (.ref c_InvalidNumber) "value" = some none)
    (ti_InvalidNumber : PySem.W.typeIn K (.ref f2) = some (.type "function"))
    (kq_InvalidNumber_BookError : PySem.W.kitOne K (.ref c_InvalidNumber) (.ref c_BookError) = some true)
    (kq_InvalidNumber_InvalidBook : PySem.W.kitOne K (.ref c_InvalidNumber) (.ref c_InvalidBook) = some false)
    (kq_InvalidNumber_InvalidSize : PySem.W.kitOne K (.ref c_InvalidNumber) (.ref c_InvalidSize) = some false)
    (kq_InvalidNumber_InvalidTable : PySem.W.kitOne K (.ref c_InvalidNumber) (.ref c_InvalidTable) = some false)
    (kq_InvalidNumber_InvalidChain : PySem.W.kitOne K (.ref c_InvalidNumber) (.ref c_InvalidChain) = some false)
    (kq_InvalidNumber_InvalidNumber : PySem.W.kitOne K (.ref c_InvalidNumber) (.ref c_InvalidNumber) = some true)
    (kq_InvalidNumber_NothingToUndo : PySem.W.kitOne K (.ref c_InvalidNumber) (.ref c_NothingToUndo) = some false)
    (kq_InvalidNumber_Unreadable : PySem.W.kitOne K (.ref c_InvalidNumber) (.ref c_Unreadable) = some false)
    (kq_InvalidNumber_ValueError : PySem.W.kitOne K (.ref c_InvalidNumber) (.type "ValueError") = some true)
    (ks_InvalidBook_BookError : PySem.W.subIn K (.ref c_InvalidBook) (.ref c_BookError) = some true)
    (ex_BookError : PySem.W.subIn K (.ref c_BookError) (.type "BaseException") = some true)
    (ty_BookError : PySem.W.typeIn K (.ref c_BookError) = some (.type "type"))
    (hd_BookError : PySem.W.hasDictIn K c_BookError = true)
    (ks_InvalidSize_BookError : PySem.W.subIn K (.ref c_InvalidSize) (.ref c_BookError) = some true)
    (ks_InvalidNumber_BookError : PySem.W.subIn K (.ref c_InvalidNumber) (.ref c_BookError) = some true)
    : ∃ fd : FuncData, (∀ (s : Shared) (v : Value), BindsTo s fd ⟨[v], []⟩ [("script", v)]) ∧ ∀ base : Heap, K.In base → base.Ns mainGlobals mg → HS.FnG l.prog w K mg base CX0 8 fa fd ["script"] (sp_law K) := by
  have e := hfa.symm.trans (PySem.W.mg_of X G a26)
  cases e
  have F0 := fun_mk (st := s_InvalidBook___init__) l0 c0 k0
  have F1 := fun_mk (st := s_InvalidSize___init__) l1 c1 k1
  have F2 := fun_mk (st := s_InvalidNumber___init__) l2 c2 k2
  have F3 := fun_mk (st := s__law_source) l3 c3 k3
  have F4 := fun_mk (st := s__law_draw) l4 c4 k4
  have F5 := fun_mk (st := s__law_lengths) l5 c5 k5
  have F6 := fun_mk (st := s__law_wide) l6 c6 k6
  have F7 := fun_mk (st := s__law_sheets) l7 c7 k7
  have F8 := fun_mk (st := s__law_same) l8 c8 k8
  have F9 := fun_mk (st := s__law_error) l9 c9 k9
  have F10 := fun_mk (st := s__law_total) l10 c10 k10
  have F11 := fun_mk (st := s_check_book) l11 c11 k11
  have F12 := fun_mk (st := s_check_size) l12 c12 k12
  have F13 := fun_mk (st := s_count_pages) l13 c13 k13
  have F14 := fun_mk (st := s_chapter_pages) l14 c14 k14
  have F15 := fun_mk (st := s_find_chapter) l15 c15 k15
  have F16 := fun_mk (st := s_check_not_negative) l16 c16 k16
  have F17 := fun_mk (st := s_check_number) l17 c17 k17
  have F18 := fun_mk (st := s_pages) l18 c18 k18
  have F19 := fun_mk (st := s_page_of) l19 c19 k19
  have F20 := fun_mk (st := s_lines_on) l20 c20 k20
  have F21 := fun_mk (st := s_counts) l21 c21 k21
  have F22 := fun_mk (st := s__law_low) l22 c22 k22
  have F23 := fun_mk (st := s__law_bent) l23 c23 k23
  have F24 := fun_mk (st := s__law_dues) l24 c24 k24
  have F25 := fun_mk (st := s__law_raised) l25 c25 k25
  have F26 := fun_mk (st := s_law) l26 c26 k26
  have T : Txt K mg ⟨f0, PySem.W.fnOf "__init__" "InvalidBook.__init__" (defArgs s_InvalidBook___init__) (defBody s_InvalidBook___init__) (defScope s_InvalidBook___init__) .none kV0 dc0 pm0 an0 cd0 ct0, f1, PySem.W.fnOf "__init__" "InvalidSize.__init__" (defArgs s_InvalidSize___init__) (defBody s_InvalidSize___init__) (defScope s_InvalidSize___init__) .none kV1 dc1 pm1 an1 cd1 ct1, f2, PySem.W.fnOf "__init__" "InvalidNumber.__init__" (defArgs s_InvalidNumber___init__) (defBody s_InvalidNumber___init__) (defScope s_InvalidNumber___init__) .none kV2 dc2 pm2 an2 cd2 ct2, f3, PySem.W.fnOf "_law_source" "_law_source" (defArgs s__law_source) (defBody s__law_source) (defScope s__law_source) .none kV3 dc3 pm3 an3 cd3 ct3, f4, PySem.W.fnOf "_law_draw" "_law_draw" (defArgs s__law_draw) (defBody s__law_draw) (defScope s__law_draw) .none kV4 dc4 pm4 an4 cd4 ct4, f5, PySem.W.fnOf "_law_lengths" "_law_lengths" (defArgs s__law_lengths) (defBody s__law_lengths) (defScope s__law_lengths) .none kV5 dc5 pm5 an5 cd5 ct5, f6, PySem.W.fnOf "_law_wide" "_law_wide" (defArgs s__law_wide) (defBody s__law_wide) (defScope s__law_wide) .none kV6 dc6 pm6 an6 cd6 ct6, f7, PySem.W.fnOf "_law_sheets" "_law_sheets" (defArgs s__law_sheets) (defBody s__law_sheets) (defScope s__law_sheets) .none kV7 dc7 pm7 an7 cd7 ct7, f8, PySem.W.fnOf "_law_same" "_law_same" (defArgs s__law_same) (defBody s__law_same) (defScope s__law_same) .none kV8 dc8 pm8 an8 cd8 ct8, f9, PySem.W.fnOf "_law_error" "_law_error" (defArgs s__law_error) (defBody s__law_error) (defScope s__law_error) .none kV9 dc9 pm9 an9 cd9 ct9, f10, PySem.W.fnOf "_law_total" "_law_total" (defArgs s__law_total) (defBody s__law_total) (defScope s__law_total) .none kV10 dc10 pm10 an10 cd10 ct10, f11, PySem.W.fnOf "check_book" "check_book" (defArgs s_check_book) (defBody s_check_book) (defScope s_check_book) .none kV11 dc11 pm11 an11 cd11 ct11, f12, PySem.W.fnOf "check_size" "check_size" (defArgs s_check_size) (defBody s_check_size) (defScope s_check_size) .none kV12 dc12 pm12 an12 cd12 ct12, f13, PySem.W.fnOf "count_pages" "count_pages" (defArgs s_count_pages) (defBody s_count_pages) (defScope s_count_pages) .none kV13 dc13 pm13 an13 cd13 ct13, f14, PySem.W.fnOf "chapter_pages" "chapter_pages" (defArgs s_chapter_pages) (defBody s_chapter_pages) (defScope s_chapter_pages) .none kV14 dc14 pm14 an14 cd14 ct14, f15, PySem.W.fnOf "find_chapter" "find_chapter" (defArgs s_find_chapter) (defBody s_find_chapter) (defScope s_find_chapter) .none kV15 dc15 pm15 an15 cd15 ct15, f16, PySem.W.fnOf "check_not_negative" "check_not_negative" (defArgs s_check_not_negative) (defBody s_check_not_negative) (defScope s_check_not_negative) .none kV16 dc16 pm16 an16 cd16 ct16, f17, PySem.W.fnOf "check_number" "check_number" (defArgs s_check_number) (defBody s_check_number) (defScope s_check_number) .none kV17 dc17 pm17 an17 cd17 ct17, f18, PySem.W.fnOf "pages" "pages" (defArgs s_pages) (defBody s_pages) (defScope s_pages) .none kV18 dc18 pm18 an18 cd18 ct18, f19, PySem.W.fnOf "page_of" "page_of" (defArgs s_page_of) (defBody s_page_of) (defScope s_page_of) .none kV19 dc19 pm19 an19 cd19 ct19, f20, PySem.W.fnOf "lines_on" "lines_on" (defArgs s_lines_on) (defBody s_lines_on) (defScope s_lines_on) .none kV20 dc20 pm20 an20 cd20 ct20, f21, PySem.W.fnOf "counts" "counts" (defArgs s_counts) (defBody s_counts) (defScope s_counts) .none kV21 dc21 pm21 an21 cd21 ct21, f22, PySem.W.fnOf "_law_low" "_law_low" (defArgs s__law_low) (defBody s__law_low) (defScope s__law_low) .none kV22 dc22 pm22 an22 cd22 ct22, f23, PySem.W.fnOf "_law_bent" "_law_bent" (defArgs s__law_bent) (defBody s__law_bent) (defScope s__law_bent) .none kV23 dc23 pm23 an23 cd23 ct23, f24, PySem.W.fnOf "_law_dues" "_law_dues" (defArgs s__law_dues) (defBody s__law_dues) (defScope s__law_dues) .none kV24 dc24 pm24 an24 cd24 ct24, f25, PySem.W.fnOf "_law_raised" "_law_raised" (defArgs s__law_raised) (defBody s__law_raised) (defScope s__law_raised) .none kV25 dc25 pm25 an25 cd25 ct25, fa, PySem.W.fnOf "law" "law" (defArgs s_law) (defBody s_law) (defScope s_law) .none kV26 dc26 pm26 an26 cd26 ct26, c_BookError, c_InvalidBook, c_InvalidSize, c_InvalidTable, c_InvalidChain, c_InvalidNumber, c_NothingToUndo, c_Unreadable⟩ :=
    { F_InvalidBook___init__ := F0,
      b_InvalidBook___init__ := F0.binds (ps := ["self", "value"]) fun _ _ _ _ _ _ us hl => match us, hl with | [_, _], _ => rfl,
      F_InvalidSize___init__ := F1,
      b_InvalidSize___init__ := F1.binds (ps := ["self", "value"]) fun _ _ _ _ _ _ us hl => match us, hl with | [_, _], _ => rfl,
      F_InvalidNumber___init__ := F2,
      b_InvalidNumber___init__ := F2.binds (ps := ["self", "value"]) fun _ _ _ _ _ _ us hl => match us, hl with | [_, _], _ => rfl,
      F__law_source := F3,
      g__law_source := PySem.W.mg_of X G a3,
      b__law_source := F3.binds (ps := ["script"]) fun _ _ _ _ _ _ us hl => match us, hl with | [_], _ => rfl,
      F__law_draw := F4,
      g__law_draw := PySem.W.mg_of X G a4,
      b__law_draw := F4.binds (ps := ["source", "many"]) fun _ _ _ _ _ _ us hl => match us, hl with | [_, _], _ => rfl,
      F__law_lengths := F5,
      g__law_lengths := PySem.W.mg_of X G a5,
      b__law_lengths := F5.binds (ps := ["source", "many"]) fun _ _ _ _ _ _ us hl => match us, hl with | [_, _], _ => rfl,
      F__law_wide := F6,
      g__law_wide := PySem.W.mg_of X G a6,
      b__law_wide := F6.binds (ps := ["source", "lengths"]) fun _ _ _ _ _ _ us hl => match us, hl with | [_, _], _ => rfl,
      F__law_sheets := F7,
      g__law_sheets := PySem.W.mg_of X G a7,
      b__law_sheets := F7.binds (ps := ["long", "wide"]) fun _ _ _ _ _ _ us hl => match us, hl with | [_, _], _ => rfl,
      F__law_same := F8,
      g__law_same := PySem.W.mg_of X G a8,
      b__law_same := F8.binds (ps := ["found", "wanted"]) fun _ _ _ _ _ _ us hl => match us, hl with | [_, _], _ => rfl,
      F__law_error := F9,
      g__law_error := PySem.W.mg_of X G a9,
      b__law_error := F9.binds (ps := ["e"]) fun _ _ _ _ _ _ us hl => match us, hl with | [_], _ => rfl,
      F__law_total := F10,
      g__law_total := PySem.W.mg_of X G a10,
      b__law_total := F10.binds (ps := ["lengths", "wide"]) fun _ _ _ _ _ _ us hl => match us, hl with | [_, _], _ => rfl,
      F_check_book := F11,
      g_check_book := PySem.W.mg_of X G a11,
      b_check_book := F11.binds (ps := ["book"]) fun _ _ _ _ _ _ us hl => match us, hl with | [_], _ => rfl,
      F_check_size := F12,
      g_check_size := PySem.W.mg_of X G a12,
      b_check_size := F12.binds (ps := ["size"]) fun _ _ _ _ _ _ us hl => match us, hl with | [_], _ => rfl,
      F_count_pages := F13,
      g_count_pages := PySem.W.mg_of X G a13,
      b_count_pages := F13.binds (ps := ["book", "size"]) fun _ _ _ _ _ _ us hl => match us, hl with | [_, _], _ => rfl,
      F_chapter_pages := F14,
      g_chapter_pages := PySem.W.mg_of X G a14,
      b_chapter_pages := F14.binds (ps := ["length", "size"]) fun _ _ _ _ _ _ us hl => match us, hl with | [_, _], _ => rfl,
      F_find_chapter := F15,
      g_find_chapter := PySem.W.mg_of X G a15,
      b_find_chapter := F15.binds (ps := ["book", "size", "page"]) fun _ _ _ _ _ _ us hl => match us, hl with | [_, _, _], _ => rfl,
      F_check_not_negative := F16,
      g_check_not_negative := PySem.W.mg_of X G a16,
      b_check_not_negative := F16.binds (ps := ["number"]) fun _ _ _ _ _ _ us hl => match us, hl with | [_], _ => rfl,
      F_check_number := F17,
      g_check_number := PySem.W.mg_of X G a17,
      b_check_number := F17.binds (ps := ["number", "least", "greatest"]) fun _ _ _ _ _ _ us hl => match us, hl with | [_, _, _], _ => rfl,
      F_pages := F18,
      g_pages := PySem.W.mg_of X G a18,
      b_pages := F18.binds (ps := ["book", "size"]) fun _ _ _ _ _ _ us hl => match us, hl with | [_, _], _ => rfl,
      F_page_of := F19,
      g_page_of := PySem.W.mg_of X G a19,
      b_page_of := F19.binds (ps := ["book", "size", "chapter", "line"]) fun _ _ _ _ _ _ us hl => match us, hl with | [_, _, _, _], _ => rfl,
      F_lines_on := F20,
      g_lines_on := PySem.W.mg_of X G a20,
      b_lines_on := F20.binds (ps := ["book", "size", "page"]) fun _ _ _ _ _ _ us hl => match us, hl with | [_, _, _], _ => rfl,
      F_counts := F21,
      g_counts := PySem.W.mg_of X G a21,
      b_counts := F21.binds (ps := ["book", "limit"]) fun _ _ _ _ _ _ us hl => match us, hl with | [_, _], _ => rfl,
      F__law_low := F22,
      g__law_low := PySem.W.mg_of X G a22,
      b__law_low := F22.binds (ps := ["source"]) fun _ _ _ _ _ _ us hl => match us, hl with | [_], _ => rfl,
      F__law_bent := F23,
      g__law_bent := PySem.W.mg_of X G a23,
      b__law_bent := F23.binds (ps := ["source", "lengths"]) fun _ _ _ _ _ _ us hl => match us, hl with | [_, _], _ => rfl,
      F__law_dues := F24,
      g__law_dues := PySem.W.mg_of X G a24,
      b__law_dues := F24.binds (ps := ["lengths", "wide", "some"]) fun _ _ _ _ _ _ us hl => match us, hl with | [_, _, _], _ => rfl,
      F__law_raised := F25,
      g__law_raised := PySem.W.mg_of X G a25,
      b__law_raised := F25.binds (ps := ["door", "lengths", "wide", "some"]) fun _ _ _ _ _ _ us hl => match us, hl with | [_, _, _, _], _ => rfl,
      F_law := F26,
      g_law := PySem.W.mg_of X G a26,
      b_law := F26.binds (ps := ["script"]) fun _ _ _ _ _ _ us hl => match us, hl with | [_], _ => rfl,
      z_ValueError := PySem.W.mg_none_of X G z0,
      z_bool := PySem.W.mg_none_of X G z1,
      z_enumerate := PySem.W.mg_none_of X G z2,
      z_int := PySem.W.mg_none_of X G z3,
      z_isinstance := PySem.W.mg_none_of X G z4,
      z_len := PySem.W.mg_none_of X G z5,
      z_list := PySem.W.mg_none_of X G z6,
      z_max := PySem.W.mg_none_of X G z7,
      z_min := PySem.W.mg_none_of X G z8,
      z_range := PySem.W.mg_none_of X G z9,
      z_repr := PySem.W.mg_none_of X G z10,
      z_str := PySem.W.mg_none_of X G z11,
      z_sum := PySem.W.mg_none_of X G z12,
      z_tuple := PySem.W.mg_none_of X G z13,
      m_BookError := PySem.W.mg_of X G m_BookError,
      m_InvalidBook := PySem.W.mg_of X G m_InvalidBook,
      m_InvalidSize := PySem.W.mg_of X G m_InvalidSize,
      m_InvalidTable := PySem.W.mg_of X G m_InvalidTable,
      m_InvalidChain := PySem.W.mg_of X G m_InvalidChain,
      m_InvalidNumber := PySem.W.mg_of X G m_InvalidNumber,
      m_NothingToUndo := PySem.W.mg_of X G m_NothingToUndo,
      m_Unreadable := PySem.W.mg_of X G m_Unreadable,
      C_InvalidBook := ⟨⟨_, _, _, _, _, _, _, _, _, _, _, _, _, _, _, l_InvalidBook, r_InvalidBook⟩, sa_InvalidBook, ex_InvalidBook, ty_InvalidBook, kc_InvalidBook⟩,
      V_InvalidBook := ⟨ga_InvalidBook, gg_InvalidBook, ex_InvalidBook, hd_InvalidBook, ha_InvalidBook, hn_InvalidBook, ht_InvalidBook, hm_InvalidBook⟩,
      X_InvalidBook := ⟨ga_InvalidBook, gg_InvalidBook, ex_InvalidBook, hd_InvalidBook⟩,
      n_InvalidBook := nv_InvalidBook,
      i_InvalidBook := in_InvalidBook,
      t_InvalidBook := ti_InvalidBook,
      k_InvalidBook := ⟨fun s us ws _ h1 h2 => match us, ws, h1, h2 with | [_], [_], _, _ => .of_eq rfl, fun r1 r2 => r1.append r2⟩,
      q_InvalidBook_BookError := kq_InvalidBook_BookError,
      q_InvalidBook_InvalidBook := kq_InvalidBook_InvalidBook,
      q_InvalidBook_InvalidSize := kq_InvalidBook_InvalidSize,
      q_InvalidBook_InvalidTable := kq_InvalidBook_InvalidTable,
      q_InvalidBook_InvalidChain := kq_InvalidBook_InvalidChain,
      q_InvalidBook_InvalidNumber := kq_InvalidBook_InvalidNumber,
      q_InvalidBook_NothingToUndo := kq_InvalidBook_NothingToUndo,
      q_InvalidBook_Unreadable := kq_InvalidBook_Unreadable,
      q_InvalidBook_ValueError := kq_InvalidBook_ValueError,
      C_InvalidSize := ⟨⟨_, _, _, _, _, _, _, _, _, _, _, _, _, _, _, l_InvalidSize, r_InvalidSize⟩, sa_InvalidSize, ex_InvalidSize, ty_InvalidSize, kc_InvalidSize⟩,
      V_InvalidSize := ⟨ga_InvalidSize, gg_InvalidSize, ex_InvalidSize, hd_InvalidSize, ha_InvalidSize, hn_InvalidSize, ht_InvalidSize, hm_InvalidSize⟩,
      X_InvalidSize := ⟨ga_InvalidSize, gg_InvalidSize, ex_InvalidSize, hd_InvalidSize⟩,
      n_InvalidSize := nv_InvalidSize,
      i_InvalidSize := in_InvalidSize,
      t_InvalidSize := ti_InvalidSize,
      k_InvalidSize := ⟨fun s us ws _ h1 h2 => match us, ws, h1, h2 with | [_], [_], _, _ => .of_eq rfl, fun r1 r2 => r1.append r2⟩,
      q_InvalidSize_BookError := kq_InvalidSize_BookError,
      q_InvalidSize_InvalidBook := kq_InvalidSize_InvalidBook,
      q_InvalidSize_InvalidSize := kq_InvalidSize_InvalidSize,
      q_InvalidSize_InvalidTable := kq_InvalidSize_InvalidTable,
      q_InvalidSize_InvalidChain := kq_InvalidSize_InvalidChain,
      q_InvalidSize_InvalidNumber := kq_InvalidSize_InvalidNumber,
      q_InvalidSize_NothingToUndo := kq_InvalidSize_NothingToUndo,
      q_InvalidSize_Unreadable := kq_InvalidSize_Unreadable,
      q_InvalidSize_ValueError := kq_InvalidSize_ValueError,
      C_InvalidNumber := ⟨⟨_, _, _, _, _, _, _, _, _, _, _, _, _, _, _, l_InvalidNumber, r_InvalidNumber⟩, sa_InvalidNumber, ex_InvalidNumber, ty_InvalidNumber, kc_InvalidNumber⟩,
      V_InvalidNumber := ⟨ga_InvalidNumber, gg_InvalidNumber, ex_InvalidNumber, hd_InvalidNumber, ha_InvalidNumber, hn_InvalidNumber, ht_InvalidNumber, hm_InvalidNumber⟩,
      X_InvalidNumber := ⟨ga_InvalidNumber, gg_InvalidNumber, ex_InvalidNumber, hd_InvalidNumber⟩,
      n_InvalidNumber := nv_InvalidNumber,
      i_InvalidNumber := in_InvalidNumber,
      t_InvalidNumber := ti_InvalidNumber,
      k_InvalidNumber := ⟨fun s us ws _ h1 h2 => match us, ws, h1, h2 with | [_], [_], _, _ => .of_eq rfl, fun r1 r2 => r1.append r2⟩,
      q_InvalidNumber_BookError := kq_InvalidNumber_BookError,
      q_InvalidNumber_InvalidBook := kq_InvalidNumber_InvalidBook,
      q_InvalidNumber_InvalidSize := kq_InvalidNumber_InvalidSize,
      q_InvalidNumber_InvalidTable := kq_InvalidNumber_InvalidTable,
      q_InvalidNumber_InvalidChain := kq_InvalidNumber_InvalidChain,
      q_InvalidNumber_InvalidNumber := kq_InvalidNumber_InvalidNumber,
      q_InvalidNumber_NothingToUndo := kq_InvalidNumber_NothingToUndo,
      q_InvalidNumber_Unreadable := kq_InvalidNumber_Unreadable,
      q_InvalidNumber_ValueError := kq_InvalidNumber_ValueError,
      e_InvalidBook_BookError := PySem.W.exm_ref ex_BookError hd_BookError ty_BookError ks_InvalidBook_BookError,
      e_InvalidSize_BookError := PySem.W.exm_ref ex_BookError hd_BookError ty_BookError ks_InvalidSize_BookError,
      e_InvalidNumber_BookError := PySem.W.exm_ref ex_BookError hd_BookError ty_BookError ks_InvalidNumber_BookError,
      s_InvalidBook := st_InvalidBook,
      s_InvalidNumber := st_InvalidNumber }
  exact ⟨_, fun s v => .of_eq rfl, fun base _ _ => ok_law T⟩
end WK04
open PySem PySem.W PyProof.Rows
set_option maxHeartbeats 0 in
theorem PySem.Challenge.cw_pagecounts_k04_errors_of_books_holds : PySem.Challenge.rw_pagecounts_k04_errors_of_books.Holds := by
  w_on; o_law; k_head; (case hw => w_witness2)
  k_fill
  refine HS.walk_ofG (l := PySem.Challenge.rw_pagecounts_k04_errors_of_books) (n := 63) (k := 8) (x := "script") (CX := fun _ => L2.CX0) (sp := fun w => WK04.sp_law _) rfl (by decide) rfl ⟨rfl, by decide, by decide⟩ (fun w h Y => PySem.W.kIn_of Y) ?F (fun _ _ a ns hl _ hS => ⟨a, ns, rfl, hS, hl, fun _ => rfl⟩) (fun _ _ _ _ _ h => h)
  case F =>
    intro w mg fa h KX G hmg
    refine' WK04.all_mk KX G hmg ?m_BookError ?m_InvalidBook ?m_InvalidSize ?m_InvalidTable ?m_InvalidChain ?m_InvalidNumber ?m_NothingToUndo ?m_Unreadable ?in_InvalidBook ?l0 ?c0 ?k0 ?in_InvalidSize ?l1 ?c1 ?k1 ?in_InvalidNumber ?l2 ?c2 ?k2 ?a3 ?l3 ?c3 ?k3 ?a4 ?l4 ?c4 ?k4 ?a5 ?l5 ?c5 ?k5 ?a6 ?l6 ?c6 ?k6 ?a7 ?l7 ?c7 ?k7 ?a8 ?l8 ?c8 ?k8 ?a9 ?l9 ?c9 ?k9 ?a10 ?l10 ?c10 ?k10 ?a11 ?l11 ?c11 ?k11 ?a12 ?l12 ?c12 ?k12 ?a13 ?l13 ?c13 ?k13 ?a14 ?l14 ?c14 ?k14 ?a15 ?l15 ?c15 ?k15 ?a16 ?l16 ?c16 ?k16 ?a17 ?l17 ?c17 ?k17 ?a18 ?l18 ?c18 ?k18 ?a19 ?l19 ?c19 ?k19 ?a20 ?l20 ?c20 ?k20 ?a21 ?l21 ?c21 ?k21 ?a22 ?l22 ?c22 ?k22 ?a23 ?l23 ?c23 ?k23 ?a24 ?l24 ?c24 ?k24 ?a25 ?l25 ?c25 ?k25 ?a26 ?l26 ?c26 ?k26 ?z0 ?z1 ?z2 ?z3 ?z4 ?z5 ?z6 ?z7 ?z8 ?z9 ?z10 ?z11 ?z12 ?z13 ?st_InvalidBook ?st_InvalidNumber ?l_InvalidBook ?r_InvalidBook ?sa_InvalidBook ?ex_InvalidBook ?ty_InvalidBook ?kc_InvalidBook ?ga_InvalidBook ?gg_InvalidBook ?hd_InvalidBook ?ha_InvalidBook ?hn_InvalidBook ?ht_InvalidBook ?hm_InvalidBook ?nv_InvalidBook ?ti_InvalidBook ?kq_InvalidBook_BookError ?kq_InvalidBook_InvalidBook ?kq_InvalidBook_InvalidSize ?kq_InvalidBook_InvalidTable ?kq_InvalidBook_InvalidChain ?kq_InvalidBook_InvalidNumber ?kq_InvalidBook_NothingToUndo ?kq_InvalidBook_Unreadable ?kq_InvalidBook_ValueError ?l_InvalidSize ?r_InvalidSize ?sa_InvalidSize ?ex_InvalidSize ?ty_InvalidSize ?kc_InvalidSize ?ga_InvalidSize ?gg_InvalidSize ?hd_InvalidSize ?ha_InvalidSize ?hn_InvalidSize ?ht_InvalidSize ?hm_InvalidSize ?nv_InvalidSize ?ti_InvalidSize ?kq_InvalidSize_BookError ?kq_InvalidSize_InvalidBook ?kq_InvalidSize_InvalidSize ?kq_InvalidSize_InvalidTable ?kq_InvalidSize_InvalidChain ?kq_InvalidSize_InvalidNumber ?kq_InvalidSize_NothingToUndo ?kq_InvalidSize_Unreadable ?kq_InvalidSize_ValueError ?l_InvalidNumber ?r_InvalidNumber ?sa_InvalidNumber ?ex_InvalidNumber ?ty_InvalidNumber ?kc_InvalidNumber ?ga_InvalidNumber ?gg_InvalidNumber ?hd_InvalidNumber ?ha_InvalidNumber ?hn_InvalidNumber ?ht_InvalidNumber ?hm_InvalidNumber ?nv_InvalidNumber ?ti_InvalidNumber ?kq_InvalidNumber_BookError ?kq_InvalidNumber_InvalidBook ?kq_InvalidNumber_InvalidSize ?kq_InvalidNumber_InvalidTable ?kq_InvalidNumber_InvalidChain ?kq_InvalidNumber_InvalidNumber ?kq_InvalidNumber_NothingToUndo ?kq_InvalidNumber_Unreadable ?kq_InvalidNumber_ValueError ?ks_InvalidBook_BookError ?ex_BookError ?ty_BookError ?hd_BookError ?ks_InvalidSize_BookError ?ks_InvalidNumber_BookError
    (case m_BookError => k_is); (case m_InvalidBook => k_is); (case m_InvalidSize => k_is); (case m_InvalidTable => k_is); (case m_InvalidChain => k_is); (case m_InvalidNumber => k_is); (case m_NothingToUndo => k_is); (case m_Unreadable => k_is); (case in_InvalidBook => k_is); (case l0 => k_is); (case c0 => k_is); (case k0 => k_is); (case in_InvalidSize => k_is); (case l1 => k_is); (case c1 => k_is); (case k1 => k_is); (case in_InvalidNumber => k_is); (case l2 => k_is); (case c2 => k_is); (case k2 => k_is); (case a3 => k_is); (case l3 => k_is); (case c3 => k_is); (case k3 => k_is); (case a4 => k_is); (case l4 => k_is); (case c4 => k_is); (case k4 => k_is); (case a5 => k_is); (case l5 => k_is); (case c5 => k_is); (case k5 => k_is); (case a6 => k_is); (case l6 => k_is); (case c6 => k_is); (case k6 => k_is); (case a7 => k_is); (case l7 => k_is); (case c7 => k_is); (case k7 => k_is); (case a8 => k_is); (case l8 => k_is); (case c8 => k_is); (case k8 => k_is); (case a9 => k_is); (case l9 => k_is); (case c9 => k_is); (case k9 => k_is); (case a10 => k_is); (case l10 => k_is); (case c10 => k_is); (case k10 => k_is); (case a11 => k_is); (case l11 => k_is); (case c11 => k_is); (case k11 => k_is); (case a12 => k_is); (case l12 => k_is); (case c12 => k_is); (case k12 => k_is); (case a13 => k_is); (case l13 => k_is); (case c13 => k_is); (case k13 => k_is); (case a14 => k_is); (case l14 => k_is); (case c14 => k_is); (case k14 => k_is); (case a15 => k_is); (case l15 => k_is); (case c15 => k_is); (case k15 => k_is); (case a16 => k_is); (case l16 => k_is); (case c16 => k_is); (case k16 => k_is); (case a17 => k_is); (case l17 => k_is); (case c17 => k_is); (case k17 => k_is); (case a18 => k_is); (case l18 => k_is); (case c18 => k_is); (case k18 => k_is); (case a19 => k_is); (case l19 => k_is); (case c19 => k_is); (case k19 => k_is); (case a20 => k_is); (case l20 => k_is); (case c20 => k_is); (case k20 => k_is); (case a21 => k_is); (case l21 => k_is); (case c21 => k_is); (case k21 => k_is); (case a22 => k_is); (case l22 => k_is); (case c22 => k_is); (case k22 => k_is); (case a23 => k_is); (case l23 => k_is); (case c23 => k_is); (case k23 => k_is); (case a24 => k_is); (case l24 => k_is); (case c24 => k_is); (case k24 => k_is); (case a25 => k_is); (case l25 => k_is); (case c25 => k_is); (case k25 => k_is); (case a26 => k_is); (case l26 => k_is); (case c26 => k_is); (case k26 => k_is); (case z0 => k_is); (case z1 => k_is); (case z2 => k_is); (case z3 => k_is); (case z4 => k_is); (case z5 => k_is); (case z6 => k_is); (case z7 => k_is); (case z8 => k_is); (case z9 => k_is); (case z10 => k_is); (case z11 => k_is); (case z12 => k_is); (case z13 => k_is); (case st_InvalidBook => k_is); (case st_InvalidNumber => k_is); (case l_InvalidBook => k_is); (case r_InvalidBook => rfl); (case sa_InvalidBook => k_is); (case ex_InvalidBook => k_is); (case ty_InvalidBook => k_is); (case kc_InvalidBook => k_is); (case ga_InvalidBook => k_is); (case gg_InvalidBook => k_is); (case hd_InvalidBook => k_is); (case ha_InvalidBook => k_is); (case hn_InvalidBook => k_is); (case ht_InvalidBook => k_is); (case hm_InvalidBook => k_is); (case nv_InvalidBook => k_is); (case ti_InvalidBook => k_is); (case kq_InvalidBook_BookError => kit_is); (case kq_InvalidBook_InvalidBook => kit_is); (case kq_InvalidBook_InvalidSize => kit_is); (case kq_InvalidBook_InvalidTable => kit_is); (case kq_InvalidBook_InvalidChain => kit_is); (case kq_InvalidBook_InvalidNumber => kit_is); (case kq_InvalidBook_NothingToUndo => kit_is); (case kq_InvalidBook_Unreadable => kit_is); (case kq_InvalidBook_ValueError => kit_is); (case l_InvalidSize => k_is); (case r_InvalidSize => rfl); (case sa_InvalidSize => k_is); (case ex_InvalidSize => k_is); (case ty_InvalidSize => k_is); (case kc_InvalidSize => k_is); (case ga_InvalidSize => k_is); (case gg_InvalidSize => k_is); (case hd_InvalidSize => k_is); (case ha_InvalidSize => k_is); (case hn_InvalidSize => k_is); (case ht_InvalidSize => k_is); (case hm_InvalidSize => k_is); (case nv_InvalidSize => k_is); (case ti_InvalidSize => k_is); (case kq_InvalidSize_BookError => kit_is); (case kq_InvalidSize_InvalidBook => kit_is); (case kq_InvalidSize_InvalidSize => kit_is); (case kq_InvalidSize_InvalidTable => kit_is); (case kq_InvalidSize_InvalidChain => kit_is); (case kq_InvalidSize_InvalidNumber => kit_is); (case kq_InvalidSize_NothingToUndo => kit_is); (case kq_InvalidSize_Unreadable => kit_is); (case kq_InvalidSize_ValueError => kit_is); (case l_InvalidNumber => k_is); (case r_InvalidNumber => rfl); (case sa_InvalidNumber => k_is); (case ex_InvalidNumber => k_is); (case ty_InvalidNumber => k_is); (case kc_InvalidNumber => k_is); (case ga_InvalidNumber => k_is); (case gg_InvalidNumber => k_is); (case hd_InvalidNumber => k_is); (case ha_InvalidNumber => k_is); (case hn_InvalidNumber => k_is); (case ht_InvalidNumber => k_is); (case hm_InvalidNumber => k_is); (case nv_InvalidNumber => k_is); (case ti_InvalidNumber => k_is); (case kq_InvalidNumber_BookError => kit_is); (case kq_InvalidNumber_InvalidBook => kit_is); (case kq_InvalidNumber_InvalidSize => kit_is); (case kq_InvalidNumber_InvalidTable => kit_is); (case kq_InvalidNumber_InvalidChain => kit_is); (case kq_InvalidNumber_InvalidNumber => kit_is); (case kq_InvalidNumber_NothingToUndo => kit_is); (case kq_InvalidNumber_Unreadable => kit_is); (case kq_InvalidNumber_ValueError => kit_is); (case ks_InvalidBook_BookError => k_is); (case ex_BookError => k_is); (case ty_BookError => k_is); (case hd_BookError => k_is); (case ks_InvalidSize_BookError => k_is); (case ks_InvalidNumber_BookError => k_is)

import PyProof.Rows.All
import Wide.All
import OpenK.AllK
import Wide.FinOn
import HandS.Evl
import HandS.GenList
import HandS.Walk
import HandS.WordsExc
import HandS.ForMost
import HandS.Wide
import HandS.Style
import HandS.ExcInit
import HandS.ExcIs
import HandS.ExcField
import HandS.IsInst
import HandS.Defaults
import HandS.Text
import HandS.FStr
import HandS.StrMore
import HandS.RaiseMore
import HandS.SetFor
import HandS.Flow
import HandS.Deep
import HandS.NoneIn
import HandS.ExcOwn
import HandS.ExcCtx
import HandS.HotCalls
import HandS.Replace
import HandS.Star
import HandS.Conv
import PyProof.Rows.TupIter
import KE.KExcIs
import KE.KIsAll
import PyProof.ReprRoads
import PyProof.ReprBulk
import PyProof.FitsInt
import PySem.Challenge.RW_pagecounts_k42_long_texts
set_option Elab.async false
set_option linter.all false
set_option maxRecDepth 100000
set_option maxHeartbeats 4000000
/-! Readings, step by step, from their heads (own lemmas over HandS). -/
namespace HS
open PySem PySem.Spec PyProof.Rows L2
section
variable {σ : L2.St} {H : Hp} {Q : VK} {t u : TS} {te ta tb tx : TE} {tt tv : TT} {n bk ct : L2.St → Hp → Prop} {rt : VK} {K : PySem.W.Frag}
theorem seq (h : t ⟨u ⟨n, rt, bk, ct⟩, rt, bk, ct⟩ σ H) : tSeq t u ⟨n, rt, bk, ct⟩ σ H := h
theorem nxt (h : n σ H) : tNext ⟨n, rt, bk, ct⟩ σ H := h
theorem brk (h : bk σ H) : tBreak ⟨n, rt, bk, ct⟩ σ H := h
theorem cnt (h : ct σ H) : tCont ⟨n, rt, bk, ct⟩ σ H := h
theorem asg {g : TG} (h : te σ H fun x H1 => g x σ H1 n) : tAsg te g ⟨n, rt, bk, ct⟩ σ H := h
theorem nm {v : V} {i : Nat} {q : L2.St → Hp → Prop} (h : q (σ.set i (some v)) H) : gName i v σ H q := h
theorem sub {to ti : TE} {ts : TSet} {v : V} {q : L2.St → Hp → Prop} (h : to σ H fun o H1 => ti σ H1 fun i H2 => ts o i v H2 fun H3 => q σ H3) : gSub to ti ts v σ H q := h
theorem var {i : Nat} {v : V} (h : σ[i]? = some (some v)) (q : Q v H) : tVar i σ H Q := ⟨v, h, q⟩
theorem cst {v : V} (q : Q v H) : tC v σ H Q := q
theorem op {r : R2} (h : ta σ H fun x H1 => tb σ H1 fun y H2 => r x y H2 Q) : tOp r ta tb σ H Q := h
theorem un {r : V → Hp → VK → Prop} (h : ta σ H fun x H1 => r x H1 Q) : tUn r ta σ H Q := h
theorem i0 {g : Int → Int → V} {i j : Int} (q : Q (g i j) H) : rI0 g (.int i) (.int j) H Q := ⟨i, j, rfl, rfl, q⟩
theorem i1 {C : Int → Int → Prop} {g : Int → Int → V} {i j : Int} (q : C i j ∧ Q (g i j) H) : rI C g (.int i) (.int j) H Q := ⟨i, j, rfl, rfl, q⟩
theorem u0 {g : Int → V} {i : Int} (q : Q (g i) H) : rU g (.int i) H Q := ⟨i, rfl, q⟩
theorem eqI {i j : Int} (q : Q (.bl (decide (i = j))) H) : rEq (.int i) (.int j) H Q := ⟨rfl, by
  have e : decide ((V.int i) = V.int j) = decide (i = j) := by
    by_cases h : i = j
    · rw [h]; simp
    · have h2 : ¬ (V.int i = V.int j) := fun z => h (V.int.inj z)
      rw [decide_eq_false h, decide_eq_false h2]
  rw [e]; exact q⟩
theorem neI {i j : Int} (q : Q (.bl (!decide (i = j))) H) : rNe (.int i) (.int j) H Q := ⟨rfl, by
  have e : decide ((V.int i) = V.int j) = decide (i = j) := by
    by_cases h : i = j
    · rw [h]; simp
    · have h2 : ¬ (V.int i = V.int j) := fun z => h (V.int.inj z)
      rw [decide_eq_false h, decide_eq_false h2]
  rw [e]; exact q⟩
theorem tst {q : Bool → Hp → Prop} (h : te σ H fun x H' => ∃ k, x = .bl k ∧ q k H') : tTest te σ H q := h
theorem tb1 {q : Bool → Hp → Prop} (h : te σ H fun x H' => ∃ k, x = .bl k ∧ q k H') : tB te σ H q := h
theorem bex {b : Bool} {q : Bool → Prop} (h : q b) : ∃ k, V.bl b = V.bl k ∧ q k := ⟨b, rfl, h⟩
theorem ifs (h : tt σ H fun b H1 => if b = true then t ⟨n, rt, bk, ct⟩ σ H1 else u ⟨n, rt, bk, ct⟩ σ H1) : tIfS tt t u ⟨n, rt, bk, ct⟩ σ H := h
theorem ife (h : tt σ H fun b H1 => if b = true then ta σ H1 Q else tb σ H1 Q) : tIf tt ta tb σ H Q := h
theorem and {q : Bool → Hp → Prop} (h : tt σ H fun c H1 => if c = true then tv σ H1 q else q false H1) : tAnd tt tv σ H q := h
theorem or {q : Bool → Hp → Prop} (h : tt σ H fun c H1 => if c = true then q true H1 else tv σ H1 q) : tOr tt tv σ H q := h
theorem not {q : Bool → Hp → Prop} (h : tt σ H fun c H1 => q (!c) H1) : tNot tt σ H q := h
theorem andV (h : ta σ H fun x H1 => ∃ c, x = .bl c ∧ if c = true then tb σ H1 Q else Q (.bl false) H1) : tAndV ta tb σ H Q := h
theorem orV (h : ta σ H fun x H1 => ∃ c, x = .bl c ∧ if c = true then Q (.bl true) H1 else tb σ H1 Q) : tOrV ta tb σ H Q := h
theorem notV (h : ta σ H fun x H1 => ∃ c, x = .bl c ∧ Q (.bl (!c)) H1) : tNotV ta σ H Q := h
theorem chn {r r' : R2} {tc : TE} (h : ta σ H fun x H1 => tb σ H1 fun y H2 => r x y H2 fun z H3 => ∃ k, z = .bl k ∧ if k = true then tc σ H3 fun w H4 => r' y w H4 Q else Q (.bl false) H3) : tChain r r' ta tb tc σ H Q := h
theorem ret (h : te σ H rt) : tRet te ⟨n, rt, bk, ct⟩ σ H := h
theorem retN (h : rt .non H) : tRetN ⟨n, rt, bk, ct⟩ σ H := h
theorem drp (h : te σ H fun _ H1 => n σ H1) : tDrop te ⟨n, rt, bk, ct⟩ σ H := h
theorem cb {r : List V → Hp → VK → Prop} {tl : TA} (h : tl σ H fun vs H1 => r vs H1 Q) : tCB r tl σ H Q := h
theorem anil {q : List V → Hp → Prop} (h : q [] H) : tNil σ H q := h
theorem acons {tl : TA} {q : List V → Hp → Prop} (h : te σ H fun x H1 => tl σ H1 fun xs H2 => q (x :: xs) H2) : tCons te tl σ H q := h
theorem cal {sp : Sp} {E : XK} {tl : TA} (h : tl σ H fun vs H1 => sp vs H1 Q E) : tCall sp [] E tl σ H Q := by
  show tl σ H fun vs H1 => sp (vs ++ []) H1 Q E
  simp only [List.append_nil]; exact h
theorem tup {tl : TA} (h : tl σ H fun xs H1 => xs.length ≤ sizeLine ∧ ∀ p, H1 p = none → Q (.ref p) (upd H1 p (.tup xs))) : tTup tl σ H Q := h
theorem lst {tl : TA} (h : tl σ H fun xs H1 => xs.length ≤ sizeLine ∧ ∀ p, H1 p = none → Q (.ref p) (upd H1 p (.lst xs))) : tLst tl σ H Q := h
theorem par {i j : Nat} {tl : TA} (h : tl σ H fun vs H1 => ∃ v w, vs = [v, w] ∧ n ((σ.set i (some v)).set j (some w)) H1) : tPar i j tl ⟨n, rt, bk, ct⟩ σ H := h
theorem ex2 {v w : V} {q : V → V → Prop} (h : q v w) : ∃ a b, [v, w] = [a, b] ∧ q a b := ⟨v, w, rfl, h⟩
theorem aug {i : Nat} {ti : TIp} {x : V} (e : σ[i]? = some (some x)) (h : te σ H fun y H1 => ti x y H1 fun z H2 => n (σ.set i (some z)) H2) : tAug i te ti ⟨n, rt, bk, ct⟩ σ H := ⟨x, e, h⟩
theorem ipi {f : Int → Int → Int} {i j : Int} (q : Q (.int (f i j)) H) : ipI f (.int i) (.int j) H Q := ⟨i, j, rfl, rfl, q⟩
theorem addI {i j : Int} (q : Q (.int (i + j)) H) : rAdd (.int i) (.int j) H Q := ⟨i, j, rfl, rfl, q⟩
theorem ixL {p : Addr} {xs : List V} {i : Int} {v : V} (h : SqL K H p xs) (e : atI xs i = some v) (q : Q v H) : rIxL K (.ref p) (.int i) H Q := ⟨p, xs, i, v, rfl, rfl, h, e, q⟩
theorem ixT {p : Addr} {xs : List V} {i : Int} {v : V} (h : SqT K H p xs) (e : atI xs i = some v) (q : Q v H) : rIxT K (.ref p) (.int i) H Q := ⟨p, xs, i, v, rfl, rfl, h, e, q⟩
/-- an if over a decided thing -/
theorem itd {c A B : Prop} [Decidable c] (h1 : c → A) (h2 : ¬ c → B) : if decide c = true then A else B := by
  by_cases h : c
  · rw [decide_eq_true h, if_pos rfl]; exact h1 h
  · rw [decide_eq_false h, if_neg Bool.false_ne_true]; exact h2 h
theorem itn {c A B : Prop} [Decidable c] (h1 : ¬ c → A) (h2 : c → B) : if (!decide c) = true then A else B := by
  by_cases h : c
  · rw [decide_eq_true h]; exact iteF (h2 h)
  · rw [decide_eq_false h]; exact iteT (h1 h)
theorem it1 {c A B : Prop} [Decidable c] (hc : c) (h : A) : if decide c = true then A else B := itd (fun _ => h) fun z => absurd hc z
theorem it0 {c A B : Prop} [Decidable c] (hc : ¬ c) (h : B) : if decide c = true then A else B := itd (fun z => absurd z hc) fun _ => h
theorem in1 {c A B : Prop} [Decidable c] (hc : ¬ c) (h : A) : if (!decide c) = true then A else B := itn (fun _ => h) fun z => absurd z hc
theorem in0 {c A B : Prop} [Decidable c] (hc : c) (h : B) : if (!decide c) = true then A else B := itn (fun z => absurd hc z) fun _ => h
end
/-! ### heaps: all but S stands -/
def Keep (S : Addr → Prop) (H H' : Hp) : Prop := ∀ a o, H a = some o → ¬ S a → H' a = some o
section
variable {S : Addr → Prop} {H H1 H2 : Hp} {p q : Addr} {o u : HO}
theorem Keep.refl : Keep S H H := fun _ _ h _ => h
theorem Keep.trans (a : Keep S H H1) (b : Keep S H1 H2) : Keep S H H2 := fun x o h n => b x o (a x o h n) n
theorem Keep.new (h : H p = none) : Keep S H (upd H p o) := fun a u e _ => by rw [upd_ne (ne_of_none e h)]; exact e
theorem Keep.put (k : Keep S H H1) (h : H p = none) : Keep S H (upd H1 p o) := fun a u e n => by rw [upd_ne (ne_of_none e h)]; exact k a u e n
theorem Keep.at (k : Keep S H H1) (h : S p) : Keep S H (upd H1 p o) := fun a u e n => by rw [upd_ne (fun z => n (by rw [z]; exact h))]; exact k a u e n
theorem Keep.free (k : Keep S H H1) (h : H1 p = none) (n : ¬ S p) : H p = none := by
  cases e : H p with
  | none => rfl
  | some o => have z := k p o e n; rw [h] at z; cases z
theorem Keep.sq {K : PySem.W.Frag} {xs : List V} (k : Keep S H H1) (h : SqL K H p xs) (n : ¬ S p) : SqL K H1 p xs := by
  rcases h with (h | ⟨o, h⟩) | h
  · exact .inl (.inl (k _ _ h n))
  · exact .inl (.inr ⟨o, k _ _ h n⟩)
  · exact .inr h
theorem Keep.st {K : PySem.W.Frag} {xs : List V} (k : Keep S H H1) (h : SqT K H p xs) (n : ¬ S p) : SqT K H1 p xs := by
  rcases h with (h | ⟨o, h⟩) | h
  · exact .inl (.inl (k _ _ h n))
  · exact .inl (.inr ⟨o, k _ _ h n⟩)
  · exact .inr h
theorem sq {K : PySem.W.Frag} {xs : List V} (h : H p = some (.lst xs)) : SqL K H p xs := .inl (.inl h)
theorem st {K : PySem.W.Frag} {xs : List V} (h : H p = some (.tup xs)) : SqT K H p xs := .inl (.inl h)
end
end HS
theorem hu64 {A : PySem.Around} {k : Nat} (hr : L2.Room k A) : A.units + 64 < PySem.cLine := hr.units
namespace HS
open PySem PySem.Spec PyProof.Rows L2
section
variable {σ : L2.St} {H : Hp} {Q : VK} {te ta tb tx : TE} {K : PySem.W.Frag} {X : Cx}
theorem sz {n : Nat} (h : n ≤ 100000) : n < sizeLine := Nat.lt_of_le_of_lt h (by decide)
theorem szl {n : Nat} (h : n ≤ 100000) : n ≤ sizeLine := Nat.le_of_lt (sz h)
theorem pe_fold {e : Expr} {t : TE} (z : Int) (h : PE X e t) (k : ∀ (σ : L2.St) (H : Hp) (Q : VK), Q (.int z) H → t σ H Q) : PE X e (tC (.int z)) :=
  ⟨fun pins s σ H Q I q => h.run pins s σ H Q I (k σ H Q q)⟩
theorem ii {a b : Int} {q : Int → Int → Prop} (h : q a b) : ∃ i j, [V.int a, V.int b] = [V.int i, V.int j] ∧ q i j := ⟨a, b, rfl, h⟩
theorem bmL {r : V → List V → Hp → VK → Prop} {tl : TA} (h : ta σ H fun x H1 => tyV K "list" x H1 ∧ tl σ H1 fun xs H2 => r x xs H2 Q) : tBM K "list" r ta tl σ H Q := h
theorem bmL0 {r : V → List V → Hp → VK → Prop} (h : ta σ H fun x H1 => tyV K "list" x H1 ∧ r x [] H1 Q) : tBM0 K "list" r ta σ H Q := h
theorem tyL {p : Addr} {xs : List V} {A : Prop} (h : H p = some (.lst xs)) (q : A) : tyV K "list" (.ref p) H ∧ A := ⟨.inl ⟨rfl, _, .inl (.inl h)⟩, q⟩
theorem app {l : Addr} {xs : List V} {y : V} (h : H l = some (.lst xs)) (q : xs.length < sizeLine ∧ Q .non (upd H l (.lst (xs ++ [y])))) : rAppend (.ref l) [y] H Q := ⟨l, xs, y, rfl, rfl, h, q⟩
theorem pop0 {l : Addr} {y : V} {ys : List V} (h : H l = some (.lst (y :: ys))) (q : Q y (upd H l (.lst ys))) : rPopAt (.ref l) [.int 0] H Q := ⟨l, y :: ys, 0, 0, y, rfl, rfl, h, by decide, by decide, by simp [seqIndex?], rfl, q⟩
theorem setL {p : Addr} {xs : List V} {k : Int} {j : Nat} {v : V} {q : Hp → Prop} (h : H p = some (.lst xs)) (e : ixN xs.length k = some j) (g : q (upd H p (.lst (xs.set j v)))) : rSetL (.ref p) (.int k) v H q := ⟨p, xs, _, j, rfl, rfl, h, e, g⟩
theorem mulW {i j : Int} (a b : Nat) (h0 : 0 ≤ i) (h1 : i < 2 ^ a) (g0 : 0 ≤ j) (g1 : j < 2 ^ b) (ha : 0 < a) (hb : 0 < b) (h : a + b ≤ 1000000) : CMulW i j := by
  refine wide_mul (a := a) (b := b) ?_ ?_ ha hb h
  · have : ((i.natAbs : Nat) : Int) < ((2 ^ a : Nat) : Int) := by rw [Int.natAbs_of_nonneg h0]; simpa using h1
    exact Int.ofNat_lt.mp this
  · have : ((j.natAbs : Nat) : Int) < ((2 ^ b : Nat) : Int) := by rw [Int.natAbs_of_nonneg g0]; simpa using g1
    exact Int.ofNat_lt.mp this
theorem divW {i j : Int} (b : Nat) (h : 0 < j) (h1 : j < 2 ^ b) (hb : 0 < b) (h9 : b ≤ 9000) : CDivW i j := by
  refine wide_div (b := b) h ?_ hb h9
  have : ((j.natAbs : Nat) : Int) < ((2 ^ b : Nat) : Int) := by rw [Int.natAbs_of_nonneg (by omega)]; simpa using h1
  exact Int.ofNat_lt.mp this
theorem get_int {ns : List Int} {i : Nat} {x : V} (hi : (ns.map V.int)[i]? = some x) : ∃ z, x = .int z ∧ ns[i]? = some z ∧ i < ns.length := by
  rw [List.getElem?_map] at hi
  cases e : ns[i]? with
  | none => rw [e] at hi; cases hi
  | some z => rw [e] at hi; exact ⟨z, (Option.some.inj hi).symm, rfl, (List.getElem?_eq_some_iff.mp e).1⟩
end
end HS
namespace HS
open PySem PySem.Spec PyProof.Rows L2
theorem Keep.new' {S : Addr → Prop} {H H0 H1 : Hp} {p : Addr} {o : HO} (h : H0 p = none) (k0 : Keep S H H0) (n : ¬ S p) (k : Keep S H H1) : Keep S H (upd H1 p o) := k.put (k0.free h n)
theorem nS2 {p a b : Addr} (h1 : p ≠ a) (h2 : p ≠ b) : ¬ (p = a ∨ p = b) := fun z => z.elim h1 h2
theorem nS3 {p a b c : Addr} (h1 : p ≠ a) (h2 : p ≠ b) (h3 : p ≠ c) : ¬ (p = a ∨ p = b ∨ p = c) := fun z => z.elim h1 fun z => z.elim h2 h3
end HS
namespace HS
open PySem PySem.Spec PyProof.Rows L2
section
variable {σ : L2.St} {H : Hp} {t u : TS} {n bk ct : L2.St → Hp → Prop} {rt : VK}
theorem pnx (h : n σ H) : Ends.nx ⟨n, rt, bk, ct⟩ σ H := h
theorem pbk (h : bk σ H) : Ends.bk ⟨n, rt, bk, ct⟩ σ H := h
theorem pct (h : ct σ H) : Ends.ct ⟨n, rt, bk, ct⟩ σ H := h
theorem prt {v : V} (h : rt v H) : Ends.rt ⟨n, rt, bk, ct⟩ v H := h
theorem cut (M : L2.St → Hp → Prop) (h : t ⟨M, rt, bk, ct⟩ σ H) (k : ∀ σ' H', M σ' H' → u ⟨n, rt, bk, ct⟩ σ' H') : Evl.tCut t u ⟨n, rt, bk, ct⟩ σ H := ⟨M, h, k⟩
theorem pow_lt {i : Int} {a : Nat} (k : Nat) (h0 : 0 ≤ i) (h : i < 2 ^ a) : 0 ≤ i ^ k ∧ (i ^ k < 2 ^ (a * k) ∨ k = 0) := by
  refine ⟨Int.pow_nonneg h0, ?_⟩
  cases k with
  | zero => exact .inr rfl
  | succ k =>
    refine .inl ?_
    obtain ⟨m, rfl⟩ := Int.eq_ofNat_of_zero_le h0
    have h' : m < 2 ^ a := by have : ((m : Nat) : Int) < ((2 ^ a : Nat) : Int) := by simpa using h
                              exact Int.ofNat_lt.mp this
    have := Nat.pow_lt_pow_left h' (Nat.succ_ne_zero k)
    rw [← Nat.pow_mul] at this
    have z : ((m ^ (k + 1) : Nat) : Int) < ((2 ^ (a * (k + 1)) : Nat) : Int) := Int.ofNat_lt.mpr this
    simpa using z
end
end HS
namespace HS
open PySem PySem.Spec PyProof.Rows L2
section
variable {σ : L2.St} {H : Hp} {Q : VK} {ta tb te : TE} {K : PySem.W.Frag}
theorem szc {n : Nat} {A : Prop} (h : n ≤ 100000) (q : A) : n ≤ sizeLine ∧ A := ⟨szl h, q⟩
theorem szd {n : Nat} {A : Prop} (h : n ≤ 100000) (q : A) : n < sizeLine ∧ A := ⟨sz h, q⟩
theorem wp {σ1 σ2 : L2.St} {vs : List Nat} {A : Prop} (e : wipe σ2 vs = wipe σ1 vs) (q : A) : wipe σ2 vs = wipe σ1 vs ∧ A := ⟨e, q⟩
theorem yes {q : Bool → Hp → Prop} (h : q true H) : tYes σ H q := h
theorem ixI {p : Addr} {i : Int} (ns : List Int) (h : SqL K H p (ns.map V.int)) (h0 : 0 ≤ i) (h1 : i < ns.length) (q : ∀ z, ns[i.toNat]? = some z → z ∈ ns → Q (.int z) H) : rIxL K (.ref p) (.int i) H Q := by
  have hi : i.toNat < ns.length := by omega
  have e : ns[i.toNat]? = some ns[i.toNat] := List.getElem?_eq_getElem hi
  refine ⟨p, ns.map V.int, i, .int ns[i.toNat], rfl, rfl, h, ?_, q _ e (List.getElem_mem hi)⟩
  exact at_of (j := i.toNat) (by omega) (by rw [List.getElem?_map, e]; rfl)
theorem ixV {p : Addr} {i : Int} {xs : List V} (h : SqL K H p xs) (h0 : 0 ≤ i) (h1 : i < xs.length) (q : ∀ v, xs[i.toNat]? = some v → v ∈ xs → Q v H) : rIxL K (.ref p) (.int i) H Q := by
  have hi : i.toNat < xs.length := by omega
  have e : xs[i.toNat]? = some xs[i.toNat] := List.getElem?_eq_getElem hi
  refine ⟨p, xs, i, xs[i.toNat], rfl, rfl, h, ?_, q _ e (List.getElem_mem hi)⟩
  exact at_of (j := i.toNat) (by omega) e
theorem ixVT {p : Addr} {i : Int} {xs : List V} (h : SqT K H p xs) (h0 : 0 ≤ i) (h1 : i < xs.length) (q : ∀ v, xs[i.toNat]? = some v → v ∈ xs → Q v H) : rIxT K (.ref p) (.int i) H Q := by
  have hi : i.toNat < xs.length := by omega
  have e : xs[i.toNat]? = some xs[i.toNat] := List.getElem?_eq_getElem hi
  refine ⟨p, xs, i, xs[i.toNat], rfl, rfl, h, ?_, q _ e (List.getElem_mem hi)⟩
  exact at_of (j := i.toNat) (by omega) e
theorem lc {wi : TI} {g : TG} {tt : TT} {vs : List Nat} (h : wi σ H fun J H1 => ∀ D, H1 D = none → ∃ W : Nat → Nat → Hp → Prop, (∃ m, W 0 m (upd H1 D (.lst []))) ∧ ∀ i m H, W i m H → (J.stop i H ∧ Q (.ref D) H) ∨ (J.go i H ∧ ∃ Nx : Hp → Prop, (∀ H', Nx H' → ∃ m', m' < m ∧ W (i + 1) m' H') ∧ ∀ x H', J.yld i H x H' → g x (wipe σ vs) H' fun σ2 H2 => wipe σ2 vs = wipe σ vs ∧ tt σ2 H2 fun b H3 => if b = true then te σ2 H3 fun y H4 => ∃ acc, H4 D = some (.lst acc) ∧ acc.length < sizeLine ∧ Nx (upd H4 D (.lst (acc ++ [y]))) else Nx H3)) : tLc wi g tt te vs σ H Q := h
theorem rng1 {tl : TA} {R : It → Hp → Prop} (h : tl σ H fun vs H1 => ∃ j : Int, vs = [.int j] ∧ -(2 ^ 62) ≤ j ∧ j < 2 ^ 62 ∧ R (Itr 0 j.toNat) H1) : iRng1 tl σ H R := h
theorem rng2 {tl : TA} {R : It → Hp → Prop} (h : tl σ H fun vs H1 => ∃ i j : Int, vs = [.int i, .int j] ∧ (-(2 ^ 62) ≤ i ∧ i < 2 ^ 62 ∧ -(2 ^ 62) ≤ j ∧ j < 2 ^ 62) ∧ R (Itr i (j - i).toNat) H1) : iRng2 tl σ H R := h
theorem lis {tl : TE} {R : It → Hp → Prop} (h : tl σ H fun x H1 => ∃ a, x = .ref a ∧ (∃ xs, SqL K H1 a xs) ∧ R (Itl K a) H1) : iList K tl σ H R := h
theorem ra {a : Addr} {q : Addr → Prop} (h : q a) : ∃ b, V.ref a = V.ref b ∧ q b := ⟨a, rfl, h⟩
theorem i1e {a : Int} {q : Int → Prop} (h : q a) : ∃ i, [V.int a] = [V.int i] ∧ q i := ⟨a, rfl, h⟩
theorem fr {wi : TI} {g : TG} {tb : TS} {D : Ends} (h : wi σ H fun J H1 => ∃ W : Nat → Nat → L2.St → Hp → Prop, (∃ m, W 0 m σ H1) ∧ ∀ i m σ H, W i m σ H →
    (J.stop i H ∧ D.nx σ H) ∨ (J.go i H ∧ ∃ N : L2.St → Hp → Prop, (∀ σ' H', N σ' H' → ∃ m', m' < m ∧ W (i + 1) m' σ' H') ∧ ∀ x H', J.yld i H x H' → g x σ H' fun σ2 H2 => tb { D with nx := N, ct := N, bk := D.nx } σ2 H2)) : tFor wi g tb D σ H := h
end
end HS
namespace HS
open PySem PySem.Spec PyProof.Rows L2
theorem iteM {c : Bool} {ta tb : TE} {σ : L2.St} {H1 : Hp} {Q : VK} (M : VK) (h : c = true → ∀ Q' : VK, (∀ v H', M v H' → Q' v H') → ta σ H1 Q') (g : c = false → ∀ Q' : VK, (∀ v H', M v H' → Q' v H') → tb σ H1 Q') (k : ∀ v H', M v H' → Q v H') :
    if c = true then ta σ H1 Q else tb σ H1 Q := by
  cases c with
  | true => rw [if_pos rfl]; exact h rfl Q k
  | false => rw [if_neg Bool.false_ne_true]; exact g rfl Q k
/-- ceilings -/
theorem ceil_eq {i j : Int} (hj : 1 ≤ j) : (i + j - 1) / j = i / j + (if 0 < i % j then 1 else 0) := by
  have h0 := Int.emod_nonneg i (by omega : j ≠ 0)
  have h1 := Int.emod_lt_of_pos i (by omega : 0 < j)
  have e := Int.mul_ediv_add_emod i j
  generalize i / j = q at e ⊢
  generalize i % j = r at e h0 h1 ⊢
  subst e
  split
  · rename_i h
    rw [show j * q + r + j - 1 = (r - 1) + j * (q + 1) by rw [Int.mul_add]; omega, Int.add_mul_ediv_left _ _ (by omega), Int.ediv_eq_zero_of_lt (by omega) (by omega)]
    omega
  · rename_i h
    rw [show j * q + r + j - 1 = (j - 1) + j * q by omega, Int.add_mul_ediv_left _ _ (by omega), Int.ediv_eq_zero_of_lt (by omega) (by omega)]
    omega
end HS
namespace HS
open PySem PySem.Spec PyProof.Rows L2
section
variable {σ : L2.St} {H : Hp} {te : TE} {t : TS} {tg ug : TGn} {n bk ct : List V → L2.St → Hp → Prop} {rt : List V → VK} {ys : List V} {Q : VK}
theorem gthen (h : tg ⟨fun ys' σ' H' => ug ⟨n, rt, bk, ct⟩ ys' σ' H', rt, bk, ct⟩ ys σ H) : tGThen tg ug ⟨n, rt, bk, ct⟩ ys σ H := h
theorem g0 (h : n ys σ H) : tG0 ⟨n, rt, bk, ct⟩ ys σ H := h
theorem gpl (h : t ⟨n ys, rt ys, bk ys, ct ys⟩ σ H) : tPlain t ⟨n, rt, bk, ct⟩ ys σ H := h
theorem gyl (h : ys.length < sizeLine ∧ te σ H fun x H1 => n (ys ++ [x]) σ H1) : tGYield te ⟨n, rt, bk, ct⟩ ys σ H := h
theorem lgn {tg : TGen} (h : tg σ H fun out H2 => ∀ p, H2 p = none → Q (.ref p) (upd H2 p (.lst out))) : tListG tg σ H Q := h
theorem calg {sp : SpG} {E : XK} {tl : TA} {q : List V → Hp → Prop} (h : tl σ H fun vs H1 => sp vs H1 q E) : tCallG sp [] E tl σ H q := by
  show tl σ H fun vs H1 => sp (vs ++ []) H1 q E
  simp only [List.append_nil]; exact h
end
end HS
namespace HS
open PySem PySem.Spec PyProof.Rows L2
section
variable {H : Hp} {Q : VK} {K : PySem.W.Frag}
theorem ixZ {p : Addr} {i z : Int} {ns : List Int} (h : SqL K H p (ns.map V.int)) (h0 : 0 ≤ i) (e : ns[i.toNat]? = some z) (q : Q (.int z) H) : rIxL K (.ref p) (.int i) H Q :=
  ⟨p, ns.map V.int, i, .int z, rfl, rfl, h, at_of (j := i.toNat) (by omega) (by rw [List.getElem?_map, e]; rfl), q⟩
theorem cut_to (xs : List V) (n : Nat) : cutV xs none (some (n : Int)) = xs.take n := by
  unfold cutV
  rw [HT.sIx_none, HT.sIx_nat, List.drop_zero, Nat.sub_zero]
  rw [List.take_eq_take_iff]
  omega
theorem cut_from (xs : List V) (n : Nat) : cutV xs (some (n : Int)) none = xs.drop n := by
  unfold cutV
  rw [HT.sIx_none, HT.sIx_nat]
  rw [List.take_of_length_le (by rw [List.length_drop]; omega)]
  by_cases h : n ≤ xs.length
  · rw [Nat.min_eq_left h]
  · rw [Nat.min_eq_right (by omega), List.drop_eq_nil_of_le (Nat.le_refl _), List.drop_eq_nil_of_le (by omega)]
end
end HS
namespace HS
open PySem PySem.Spec PyProof.Rows L2
theorem Keep.any {S : Addr → Prop} {H H1 : Hp} (k : Keep (fun _ => False) H H1) : Keep S H H1 := fun a o e _ => k a o e id
theorem Keep.mono {S T : Addr → Prop} {H H1 : Hp} (k : Keep S H H1) (h : ∀ a, S a → T a) : Keep T H H1 := fun a o e n => k a o e fun z => n (h a z)
end HS
namespace HS
open PySem PySem.Spec PyProof.Rows L2
theorem cut_toI {i : Int} (ls : List Int) (h : 0 ≤ i) : cutV (ls.map V.int) none (some i) = (ls.take i.toNat).map V.int := by
  obtain ⟨n, rfl⟩ := Int.eq_ofNat_of_zero_le h
  rw [cut_to, List.map_take]; simp
theorem cut_fromI {i : Int} (ls : List Int) (h : 0 ≤ i) : cutV (ls.map V.int) (some i) none = (ls.drop i.toNat).map V.int := by
  obtain ⟨n, rfl⟩ := Int.eq_ofNat_of_zero_le h
  rw [cut_from, List.map_drop]; simp
end HS
namespace HS
theorem ifT {c : Bool} {A B : Prop} (e : c = true) (h : A) : if c = true then A else B := by rw [if_pos e]; exact h
theorem ifF {c : Bool} {A B : Prop} (e : c = false) (h : B) : if c = true then A else B := by rw [if_neg (by rw [e]; exact Bool.false_ne_true)]; exact h
end HS
namespace HS
open PySem PySem.Spec PyProof.Rows L2
/-- a new object behind what stands -/
theorem Keep.nw {H H1 : Hp} {p : Addr} {o : HO} (k : Keep (fun _ => False) H H1) (h : H1 p = none) : Keep (fun _ => False) H (upd H1 p o) := k.put (k.free h id)
theorem Keep.nwS {S : Addr → Prop} {H H1 : Hp} {p : Addr} {o : HO} (k : Keep S H H1) (h : H1 p = none) (n : ¬ S p) : Keep S H (upd H1 p o) := k.put (k.free h n)
end HS
namespace HS
theorem nt {A B : Prop} (h : B) : if (!true) = true then A else B := by rw [if_neg (show ¬ ((!true) = true) from Bool.false_ne_true)]; exact h
theorem nf {A B : Prop} (h : A) : if (!false) = true then A else B := by rw [if_pos (show (!false) = true from rfl)]; exact h
end HS
namespace HS
open PySem PySem.Spec PyProof.Rows L2
section
variable {H H' : Hp} {p x : Addr} {o u : HO}
theorem upgs (e : upd H p o = H') : H' p = some o := by rw [← e]; exact upd_same
theorem upgK (e : upd H p o = H') (h : H p = none) : Keep (fun _ => False) H H' := by rw [← e]; exact Keep.new h
end
end HS
/-! Data of ints, lists and tuples, and == of such. -/
namespace HS
open PySem PySem.Spec PyProof.Rows L2
def dInts (ns : List Int) : PyData := .list (ns.map .int)
section
variable {K : PySem.W.Frag} {H : Hp}
theorem dpAll_ints : ∀ ns : List Int, DpAll K H (ns.map V.int) (ns.map .int)
  | [] => .nil
  | n :: r => .cons (.int n) (dpAll_ints r)
theorem dp_ints {a : Addr} {ns : List Int} (h : SqL K H a (ns.map V.int)) : Dp K H (.ref a) (dInts ns) := .lst h (dpAll_ints ns)
theorem lay_ints : ∀ ns : List Int, PyData.canLayAll0 (ns.map .int) = true
  | [] => rfl
  | n :: r => by rw [List.map_cons, PyData.canLayAll0, lay_ints r]; rfl
theorem dep_ints : ∀ ns : List Int, PyData.depthAll (ns.map .int) = 0
  | [] => rfl
  | n :: r => by rw [List.map_cons, PyData.depthAll, dep_ints r]; rfl
theorem sh_ints (ns : List Int) : SeqAt.shaped (dInts ns) = true := by
  unfold SeqAt.shaped dInts
  rw [PyData.canLay0, PyData.depth, lay_ints, dep_ints]; rfl
theorem eqv_int (i j : Int) : PyData.eqv (.int i) (.int j) = decide (i = j) := by
  rw [PyData.eqv]; exact Bool.beq_eq_decide_eq i j
theorem eqvAll_ints : ∀ xs ys : List Int, PyData.eqvAll (xs.map .int) (ys.map .int) = decide (xs = ys)
  | [], [] => rfl
  | [], y :: ys => rfl
  | x :: xs, [] => rfl
  | x :: xs, y :: ys => by
    rw [List.map_cons, List.map_cons, PyData.eqvAll, eqv_int, eqvAll_ints xs ys]
    by_cases h : x = y <;> by_cases g : xs = ys <;> simp [h, g]
theorem eqv_ints (xs ys : List Int) : PyData.eqv (dInts xs) (dInts ys) = decide (xs = ys) := by
  unfold dInts; rw [PyData.eqv]; exact eqvAll_ints xs ys
/-- == and != of two lists of ints -/
theorem eqL {a b : Addr} {xs ys : List Int} {Q : VK} (h1 : SqL K H a (xs.map V.int)) (h2 : SqL K H b (ys.map V.int)) (q : Q (.bl (decide (xs = ys))) H) : rEqD K (.ref a) (.ref b) H Q :=
  ⟨_, _, dp_ints h1, dp_ints h2, sh_ints _, sh_ints _, by rw [eqv_ints]; exact q⟩
theorem neL {a b : Addr} {xs ys : List Int} {Q : VK} (h1 : SqL K H a (xs.map V.int)) (h2 : SqL K H b (ys.map V.int)) (q : Q (.bl (!decide (xs = ys))) H) : rNeD K (.ref a) (.ref b) H Q :=
  ⟨_, _, dp_ints h1, dp_ints h2, sh_ints _, sh_ints _, by rw [eqv_ints]; exact q⟩
end
end HS
/-! Rules told with the written part K by its own letter. -/
namespace HS
open PySem PySem.Spec PyProof.Rows L2
section
variable {X : Cx} (K : PySem.W.Frag)
theorem ixl (h : X.K = K := by rfl) : IxR X (rIxL K) := h ▸ ix_list
theorem ixt (h : X.K = K := by rfl) : IxR X (rIxT K) := h ▸ ix_tup
theorem sll (h : X.K = K := by rfl) : SlR X (rSlL K) := h ▸ sl_list
theorem slt (h : X.K = K := by rfl) : SlR X (rSlT K) := h ▸ sl_tup
theorem kbm {E : Expr} {T : String} {r : V → List V → Hp → VK → Prop} {to : TE} {t : TA} (p : PE X E (tBM X.K T r to t)) (h : X.K = K := by rfl) : PE X E (tBM K T r to t) := h ▸ p
theorem kbm0 {E : Expr} {T : String} {r : V → List V → Hp → VK → Prop} {to : TE} (p : PE X E (tBM0 X.K T r to)) (h : X.K = K := by rfl) : PE X E (tBM0 K T r to) := h ▸ p
theorem kil {tg l : Expr} {tl : TE} (p : PI X tg l (iList X.K tl)) (h : X.K = K := by rfl) : PI X tg l (iList K tl) := h ▸ p
theorem kit {tg l : Expr} {tl : TE} (p : PI X tg l (iTup X.K tl)) (h : X.K = K := by rfl) : PI X tg l (iTup K tl) := h ▸ p
theorem kien {tg l : Expr} {tl : TA} (p : PI X tg l (iEnum X.K tl)) (h : X.K = K := by rfl) : PI X tg l (iEnum K tl) := h ▸ p
theorem kgt {tg : Expr} {n : Nat} {t : TGs} (p : PG X tg (gTup X.K n t)) (h : X.K = K := by rfl) : PG X tg (gTup K n t) := h ▸ p
theorem keq (hu : X.A.units + 64 < cLine) (h : X.K = K := by rfl) : OpR X (compareOp .Eq) (rEqD K) := h ▸ op_eqD hu
theorem kne (hu : X.A.units + 64 < cLine) (h : X.K = K := by rfl) : OpR X (compareOp .NotEq) (rNeD K) := h ▸ op_neD hu
theorem kin (h : X.K = K := by rfl) : OpR X (compareOp .In) (rIn K false) := h ▸ op_in_seq
theorem knin (h : X.K = K := by rfl) : OpR X (compareOp .NotIn) (rIn K true) := h ▸ op_notIn_seq
theorem kcatT (h : X.K = K := by rfl) : OpR X (binaryOp .Add) (rCatT K) := h ▸ op_catT
def rLen : List V → Hp → VK → Prop := fun xs H Q => ∃ p ys, xs = [.ref p] ∧ (SqL K H p ys ∨ SqT K H p ys) ∧ Q (.int ys.length) H
def rLst : List V → Hp → VK → Prop := fun xs H Q => ∃ p ys, xs = [.ref p] ∧ (SqL K H p ys ∨ SqT K H p ys) ∧ ∀ l, H l = none → Q (.ref l) (upd H l (.lst ys))
theorem klen (h : X.K = K := by rfl) : CallR X (.builtin "len") (rLen K) := h ▸ call_len_seq
theorem klst (h : X.K = K := by rfl) : CallR X (.type "list") (rLst K) := h ▸ call_list_of
theorem ksum (hc : X.calm = true) (h : X.K = K := by rfl) : CallR X (.builtin "sum") (rSum K) := h ▸ cr_sum hc
theorem kmax (hc : X.calm = true) (h : X.K = K := by rfl) : CallR X (.builtin "max") (rMax K) := h ▸ cr_max hc
theorem kmin (hc : X.calm = true) (h : X.K = K := by rfl) : CallR X (.builtin "min") (rMin K) := h ▸ cr_min hc
theorem krev {E : Expr} {te : TE} (p : PE X E (tRevL X.K te)) (h : X.K = K := by rfl) : PE X E (tRevL K te) := h ▸ p
/-- the names of a block within a block -/
def relab (scO sc : Scope) : Scope := { scO with names := scO.names.map fun (n, k) => if (k == .free && sc.kind == .function && sc.names.lookup n == some .cell) then (n, .cell) else (n, k) }
/-- a list comprehension within a comprehension's block -/
theorem pe_lcIn {X : Cx} {s0 : Shared} {H0 : Hp} {C0 : Addr} {cl0 : List (Str × Addr)} {fp0 : List Addr} {scO : Scope} {elt tg iter : Expr} {ifs : List Expr} {scope : Scope} {own : List (Str × Nat)} {pos : Pos} {wi : TI} {g : TG} {tt : TT} {te : TE} (hc : X.calm = true) (hN : X.N.Nodup) (hi : PI (X.blk s0 H0 scO (compEnvC scO cl0 C0 X.env) fp0) tg iter wi) (sc : Scope) (hsc : X.env.scope = sc) (ok : BlkOk X.N (relab scO sc) scope own)
    (hg : ∀ (s : Shared) (H : Hp) (C : Addr) (cl : List (Str × Addr)) (fp : List Addr), PG ((X.blk s0 H0 scO (compEnvC scO cl0 C0 X.env) fp0).blk s H scope (compEnvC scope cl C (compEnvC scO cl0 C0 X.env)) fp) tg g) (ht : ∀ (s : Shared) (H : Hp) (C : Addr) (cl : List (Str × Addr)) (fp : List Addr), PTs ((X.blk s0 H0 scO (compEnvC scO cl0 C0 X.env) fp0).blk s H scope (compEnvC scope cl C (compEnvC scO cl0 C0 X.env)) fp) ifs tt)
    (he : ∀ (s : Shared) (H : Hp) (C : Addr) (cl : List (Str × Addr)) (fp : List Addr), PE ((X.blk s0 H0 scO (compEnvC scO cl0 C0 X.env) fp0).blk s H scope (compEnvC scope cl C (compEnvC scO cl0 C0 X.env)) fp) elt te) (hs : ∀ x, foldedSetIterable iter (compEnvC scO cl0 C0 X.env) x = pure x := by intro _; rfl) :
    PE (X.blk s0 H0 scO (compEnvC scO cl0 C0 X.env) fp0) (.ListComp elt [⟨tg, iter, ifs, 0⟩] scope pos) (tLc wi g tt te (own.map (·.2))) :=
  by subst hsc; exact pe_lc (X := X.blk s0 H0 scO (compEnvC scO cl0 C0 X.env) fp0) hc hN hi ok hg ht he hs
end
section
variable {σ : L2.St} {H : Hp} {Q : VK} {te : TE} {K : PySem.W.Frag}
theorem lenL {p : Addr} {ys : List V} (h : SqL K H p ys) (q : Q (.int ys.length) H) : rLen K [.ref p] H Q := ⟨p, ys, rfl, .inl h, q⟩
theorem lenT {p : Addr} {ys : List V} (h : SqT K H p ys) (q : Q (.int ys.length) H) : rLen K [.ref p] H Q := ⟨p, ys, rfl, .inr h, q⟩
theorem sumL {p : Addr} {ns : List Int} (h : SqL K H p (ns.map V.int)) (q : Q (.int ns.sum) H) : rSum K [.ref p] H Q := ⟨p, ns, rfl, h, q⟩
theorem revL (h : te σ H fun x H1 => ∃ a xs, x = .ref a ∧ SqL K H1 a xs ∧ ∀ p, H1 p = none → Q (.ref p) (upd H1 p (.lst xs.reverse))) : tRevL K te σ H Q := h
theorem sl {r : V → Option Int → Option Int → Hp → VK → Prop} {tl th : TO} (h : te σ H fun x H1 => tl σ H1 fun l H2 => th σ H2 fun u H3 => r x l u H3 Q) : tSl r te tl th σ H Q := h
theorem noP {q : Option Int → Hp → Prop} (h : q none H) : tNoPart σ H q := h
theorem part {q : Option Int → Hp → Prop} (h : te σ H fun x H1 => ∃ i, x = .int i ∧ q (some i) H1) : tPart te σ H q := h
theorem ie {a : Int} {q : Int → Prop} (h : q a) : ∃ i, V.int a = V.int i ∧ q i := ⟨a, rfl, h⟩
theorem slLs {p : Addr} {xs : List V} {lo hi : Option Int} (h : SqL K H p xs) (q : ∀ p, H p = none → Q (.ref p) (upd H p (.lst (cutV xs lo hi)))) : rSlL K (.ref p) lo hi H Q := ⟨p, xs, rfl, h, q⟩
theorem gtup {n : Nat} {t : TGs} {a : Addr} {xs : List V} {q : L2.St → Hp → Prop} (h : SqT K H a xs) (e : xs.length = n) (k : t xs σ H q) : gTup K n t (.ref a) σ H q := ⟨a, xs, rfl, h, e, k⟩
theorem gcons {t : TG} {u : TGs} {v : V} {r : List V} {q : L2.St → Hp → Prop} (h : t v σ H fun σ' H' => u r σ' H' q) : gCons t u (v :: r) σ H q := ⟨v, r, rfl, h⟩
theorem gnil {q : L2.St → Hp → Prop} (h : q σ H) : gNil [] σ H q := ⟨rfl, h⟩
theorem itup {R : It → Hp → Prop} (h : te σ H fun x H1 => ∃ a, x = .ref a ∧ (∃ xs, SqT K H1 a xs) ∧ R (Itt K a) H1) : iTup K te σ H R := h
theorem ienu {tl : TA} {R : It → Hp → Prop} (h : tl σ H fun vs H1 => ∃ a xs, vs = [.ref a] ∧ SqL K H1 a xs ∧ R (Ite K a) H1) : iEnum K tl σ H R := h
theorem cat {l b : Addr} {xs zs : List V} (h1 : H l = some (.lst xs)) (h2 : H b = some (.lst zs)) (q : xs.length + zs.length ≤ sizeLine ∧ ∀ p, H p = none → Q (.ref p) (upd H p (.lst (xs ++ zs)))) : rCat (.ref l) (.ref b) H Q := ⟨l, b, xs, zs, rfl, rfl, h1, h2, q⟩
theorem ext {l b : Addr} {xs zs : List V} (h1 : H l = some (.lst xs)) (h2 : H b = some (.lst zs)) (q : xs.length + zs.length ≤ sizeLine ∧ Q .non (upd H l (.lst (xs ++ zs)))) : rExtend (.ref l) [.ref b] H Q := ⟨l, b, xs, zs, rfl, rfl, h1, h2, q⟩
end
end HS
/-! Lists of new pairs of ints, and == of such; ranges by steps. -/
namespace HS
open PySem PySem.Spec PyProof.Rows L2
/-- the refs of vs are tuples of these pairs -/
def Prs (H : Hp) : List V → List (Int × Int) → Prop
  | [], [] => True
  | v :: vs, p :: ps => (∃ t, v = .ref t ∧ H t = some (.tup [.int p.1, .int p.2])) ∧ Prs H vs ps
  | _, _ => False
theorem Prs.keep {S : Addr → Prop} {H H' : Hp} (k : Keep S H H') : ∀ {vs : List V} {ps : List (Int × Int)}, Prs H vs ps → (∀ v ∈ vs, ∀ t, v = .ref t → ¬ S t) → Prs H' vs ps
  | [], [], h, _ => h
  | _ :: _, _ :: _, ⟨⟨t, e, o⟩, h⟩, n => ⟨⟨t, e, k t _ o (n _ List.mem_cons_self t e)⟩, h.keep k fun v hv => n v (List.mem_cons_of_mem _ hv)⟩
theorem Prs.app {H : Hp} : ∀ {vs ws : List V} {ps qs : List (Int × Int)}, Prs H vs ps → Prs H ws qs → Prs H (vs ++ ws) (ps ++ qs)
  | [], _, [], _, _, g => g
  | _ :: _, _, _ :: _, _, ⟨a, h⟩, g => ⟨a, h.app g⟩
theorem Prs.len {H : Hp} : ∀ {vs : List V} {ps : List (Int × Int)}, Prs H vs ps → vs.length = ps.length
  | [], [], _ => rfl
  | _ :: _, _ :: _, ⟨_, h⟩ => by rw [List.length_cons, List.length_cons, h.len]
def dPr (p : Int × Int) : PyData := .tuple [.int p.1, .int p.2]
def dPrs (ps : List (Int × Int)) : PyData := .list (ps.map dPr)
section
variable {K : PySem.W.Frag} {H : Hp}
theorem dpAll_prs : ∀ {vs : List V} {ps : List (Int × Int)}, Prs H vs ps → DpAll K H vs (ps.map dPr)
  | [], [], _ => .nil
  | _ :: _, p :: _, ⟨⟨t, e, o⟩, h⟩ => .cons (by rw [e]; exact .tup (st o) (.cons (.int p.1) (.cons (.int p.2) .nil))) (dpAll_prs h)
theorem lay_prs : ∀ ps : List (Int × Int), PyData.canLayAll0 (ps.map dPr) = true
  | [] => rfl
  | p :: r => by rw [List.map_cons, PyData.canLayAll0, lay_prs r]; rfl
theorem dep_prs : ∀ ps : List (Int × Int), PyData.depthAll (ps.map dPr) ≤ 2
  | [] => by simp [PyData.depthAll]
  | p :: r => by
    have h := dep_prs r
    have h2 : (dPr p).depth ≤ 2 := by simp [dPr, PyData.depth, PyData.depthAll]
    rw [List.map_cons, PyData.depthAll]; omega
theorem sh_prs (ps : List (Int × Int)) : SeqAt.shaped (dPrs ps) = true := by
  have h1 := dep_prs ps
  have h2 : PyData.depth (dPrs ps) ≤ 64 := by unfold dPrs; rw [PyData.depth]; omega
  show (PyData.canLay0 (dPrs ps) && decide (PyData.depth (dPrs ps) ≤ 64)) = true
  rw [Bool.and_eq_true]
  exact ⟨by unfold dPrs; rw [PyData.canLay0]; exact lay_prs ps, decide_eq_true h2⟩
theorem eqv_pr (p q : Int × Int) : PyData.eqv (dPr p) (dPr q) = decide (p = q) := by
  unfold dPr
  rw [PyData.eqv, PyData.eqvAll, PyData.eqvAll, PyData.eqvAll, eqv_int, eqv_int]
  obtain ⟨a, b⟩ := p
  obtain ⟨c, d⟩ := q
  by_cases h : a = c <;> by_cases g : b = d <;> simp [h, g]
theorem eqvAll_prs : ∀ xs ys : List (Int × Int), PyData.eqvAll (xs.map dPr) (ys.map dPr) = decide (xs = ys)
  | [], [] => rfl
  | [], y :: ys => rfl
  | x :: xs, [] => rfl
  | x :: xs, y :: ys => by
    rw [List.map_cons, List.map_cons, PyData.eqvAll, eqv_pr, eqvAll_prs xs ys]
    by_cases h : x = y <;> by_cases g : xs = ys <;> simp [h, g]
/-- == of two lists of pairs of ints -/
theorem eqP {a b : Addr} {vs ws : List V} {xs ys : List (Int × Int)} {Q : VK} (h1 : SqL K H a vs) (g1 : Prs H vs xs) (h2 : SqL K H b ws) (g2 : Prs H ws ys) (q : Q (.bl (decide (xs = ys))) H) : rEqD K (.ref a) (.ref b) H Q := by
  refine ⟨dPrs xs, dPrs ys, .lst h1 (dpAll_prs g1), .lst h2 (dpAll_prs g2), sh_prs _, sh_prs _, ?_⟩
  rw [show PyData.eqv (dPrs xs) (dPrs ys) = decide (xs = ys) by unfold dPrs; rw [PyData.eqv]; exact eqvAll_prs xs ys]
  exact q
end
theorem RgC.up {j c : Int} (hc : 1 ≤ c) (hc2 : c < 2 ^ 30) (h0 : 0 ≤ j) (h1 : j < 2 ^ 61) : RgC 0 j c ((j + c - 1) / c).toNat := by
  have hn : 0 ≤ (j + c - 1) / c := Int.ediv_nonneg (by omega) (by omega)
  have e : Builtin.Range.rangeSize 0 j c = (j + c - 1) / c := by
    unfold Builtin.Range.rangeSize
    rw [if_pos (by omega)]
    split
    · rw [show j + c - 1 = (j - 0 - 1) + c * 1 by omega, Int.add_mul_ediv_left _ _ (by omega)]
    · rw [show j = 0 by omega, Int.ediv_eq_zero_of_lt (by omega) (by omega)]
  have hl : (j + c - 1) / c ≤ j + c := Int.le_trans (Int.ediv_le_self _ (by omega)) (by omega)
  refine ⟨by omega, by omega, ?_, by rw [e]; omega⟩
  unfold Builtin.Range.small
  rw [e]
  simp only [Builtin.Range.rangeFitsLong, Bool.and_eq_true, Bool.or_eq_true, decide_eq_true_eq, beq_iff_eq]
  rw [if_pos (show c > 0 by omega)]
  simp only [Bool.and_eq_true, decide_eq_true_eq]
  omega
end HS
namespace HS
open PySem PySem.Spec PyProof.Rows L2
section
variable {σ : L2.St} {H : Hp}
theorem rng3 {tl : TA} {R : It → Hp → Prop} (h : tl σ H fun vs H1 => ∃ (i j c : Int) (n : Nat), vs = [.int i, .int j, .int c] ∧ RgC i j c n ∧ R (Itc i c n) H1) : iRng3 tl σ H R := h
end
end HS
namespace HS
open PySem PySem.Spec PyProof.Rows L2
theorem Prs.new {H : Hp} {p : Addr} {o : HO} (hp : H p = none) {vs : List V} {ps : List (Int × Int)} (h : Prs H vs ps) : Prs (upd H p o) vs ps :=
  h.keep (S := fun _ => False) (Keep.new hp) fun _ _ _ _ z => z
theorem Prs.same {H H' : Hp} {vs : List V} {ps : List (Int × Int)} (h : Prs H vs ps) (k : Keep (fun _ => False) H H') : Prs H' vs ps :=
  h.keep (S := fun _ => False) k fun _ _ _ _ z => z
theorem Prs.lst {H : Hp} {L : Addr} {ws : List V} (hL : H L = some (.lst ws)) : ∀ {vs : List V} {ps : List (Int × Int)}, Prs H vs ps → ∀ v ∈ vs, ∀ t, v = .ref t → t ≠ L
  | [], [], _, _, hv, _, _ => absurd hv List.not_mem_nil
  | _ :: _, _ :: _, ⟨⟨t', e', o'⟩, h⟩, v, hv, t, e => by
    rcases List.mem_cons.mp hv with hv | hv
    · subst hv
      rw [e'] at e
      have := V.ref.inj e
      subst this
      intro z
      rw [z, hL] at o'
      cases o'
    · exact h.lst hL v hv t e
theorem Prs.put {H : Hp} {L : Addr} {ws : List V} {o : HO} (hL : H L = some (.lst ws)) {vs : List V} {ps : List (Int × Int)} (h : Prs H vs ps) : Prs (upd H L o) vs ps :=
  h.keep (S := fun a => a = L) (Keep.at Keep.refl rfl) (h.lst hL)
theorem Prs.snoc {H : Hp} {vs : List V} {ps : List (Int × Int)} {t : Addr} {a b : Int} (h : Prs H vs ps) (e : H t = some (.tup [.int a, .int b])) : Prs H (vs ++ [.ref t]) (ps ++ [(a, b)]) :=
  h.app ⟨⟨t, rfl, e⟩, trivial⟩
end HS
/-! Exceptions of own classes as values: made, asked, read (own rules over HandS). -/
namespace HS
open PySem PySem.Spec PyProof.Rows L2
/-- the j-th row of a class's block -/
def inS (s : Stmt) (j : Nat) : Stmt := match s with
  | .ClassDef _ _ _ body _ _ _ _ _ _ _ => body.getD j (.Pass ⟨0, 0, 0, 0⟩)
  | s => s
/-- an own exception that stands in the heap, with its fields -/
def Exv (H : Hp) (a C : Addr) (fs : List (Str × V)) : Prop := ∃ d, H a = some (exo a C (some d)) ∧ H d = some (exd d fs)
def rIsV (K : PySem.W.Frag) : List V → Hp → VK → Prop := fun xs H Q => ∃ (a D : Addr) (fs : List (Str × V)) (c : V) (cv : Value) (b : Bool), xs = [.ref a, c] ∧ ExcC K D ∧ Exv H a D fs ∧ ClsV c cv ∧ PySem.W.kitOne K (.ref D) cv = some b ∧ Q (.bl b) H
theorem call_isV {X : Cx} : CallR X (.builtin "isinstance") (rIsV X.K) := by
  intro pins s σ H xs us Q I r hw
  obtain ⟨a, D, fs, c, cv, b, e0, T, ⟨d, ea, ed⟩, hcv, hb, q⟩ := hw
  subst e0
  match us, r with
  | [_, _], .cons rx (.cons rt .nil) =>
    cases rx
    have e1 := hcv.eq rt
    subst e1
    obtain ⟨t1, ho⟩ := exo_at I.hok ea
    obtain ⟨mA, hns, _⟩ := exd_at I.hok ed
    obtain ⟨od, hod, _⟩ := lookIn_ns hns
    obtain ⟨cd, hcd, _⟩ := PySem.W.any_some T.hd
    have here : PySem.W.InstAt s.heap a _ D (some od) := ⟨ho, rfl, rfl, hod⟩
    exact PySem.W.kia_one (PySem.W.kitx_exc (by rw [hcd]; rfl) T.hg T.hk T.hs T.ha T.hn T.ht T.hm) I.kIn here hb (fun z => nomatch z) fun tk => ⟨.bl b, H, I.kept (t' := tk) fun _ _ z => z, rfl, q⟩
/-- e.f of such an exception -/
def tFldV (K : PySem.W.Frag) (f : Str) (te : TE) : TE := fun σ H Q => te σ H fun x H1 => ∃ (a C : Addr) (fs : List (Str × V)) (v : V), x = .ref a ∧ XfC K C ∧ PySem.W.findIn K (.ref C) f = some none ∧ Exv H1 a C fs ∧ fs.lookup f = some v ∧ Q v H1
theorem pe_fldV {X : Cx} {e : Expr} {te : TE} {pos : Pos} {f : Str} (he : PE X e te) (hb : attributeBase e f X.env (eval e X.env) = eval e X.env := by rfl) : PE X (.Attribute e f pos) (tFldV X.K f te) := by
  refine ⟨fun pins s σ H Q I hw => attr_of hb (thn (he.run pins s σ H _ I hw) fun u s1 ⟨x, H1, I1, rx, a, C, fs, v, e0, T, hno, ⟨d, ea, ed⟩, l, q⟩ => ?_)⟩
  subst e0
  cases rx
  obtain ⟨t1, ho⟩ := exo_at I1.hok ea
  obtain ⟨mA, hns, hr⟩ := exd_at I1.hok ed
  obtain ⟨od, hod, hl⟩ := lookIn_ns hns
  obtain ⟨w, hw, rw'⟩ := RelO.some_of (v := v) (o := mA f) (by rw [← l]; exact hr f)
  have here : PySem.W.InstAt s1.heap a _ C (some od) := ⟨ho, rfl, rfl, hod⟩
  exact HandSPX.exc_get I1.kIn here T.ga T.gg T.exC (PySem.W.findObj_own T.hdC hno rfl (by rw [hl, hw])) (handed_of rw') ⟨v, H1, I1.tok _, rw', q⟩
/-- C(e, ..) as a value -/
def tNewV (C : Addr) (sp : Sp) (ta : TA) : TE := fun σ H Q => ta σ H fun vs H1 => vs.length ≤ 1000 ∧ ∀ a, H1 a = none → sp (.ref a :: vs) (upd H1 a (exo a C none)) (fun v H2 => v = .non ∧ Q (.ref a) H2) (fun _ _ _ => False)
section
variable {X : Cx} {CX : CXT} {x : Str} {C fI : Addr} {k : Nat} {fd : FuncData} {ps : List Str} {sp : Sp} {e : Expr} {es : List Expr} {ta : TA} {p pos : Pos}
theorem pe_newV (T : OexC X.K C) (iC : PySem.W.findIn X.K (.ref C) "__init__" = some (some (.ref fI))) (tI : PySem.W.typeIn X.K (.ref fI) = some (.type "function"))
    (F1 : FnOk X.prog X.w X.K X.mg X.base CX k fI fd ps sp) (hr : Room (k + 1) X.A) (hb : Binds X.K fd ps []) (hx : Passes CX X (fun _ _ _ => False)) (hg : Gl X x) (hm : X.mg x = some (.ref C)) (ha : PA X (e :: es) ta)
    (hdb : (x == ("__debug__" : Str)) = false := by decide) (he : starEach (e :: es) X.env = (false, eval e X.env) :: starEach es X.env := by rfl) (hpl : (backTo pos (starEach es X.env)).any (·.1) = false := by rfl) :
    PE X (.Call (.Name x p) (e :: es) [] pos) (tNewV C sp ta) := by
  refine ⟨fun pins s σ H Q I hw => wpAny_Call_Name_kw (ld_glob I hg hm ?_ hdb)⟩
  obtain ⟨nm, qn, N, bs, bm, sn, sub, ab, col, dd, k0, k1, k2, k3, k5, hC, hbm⟩ := T.cls
  refine PySem.W.callWith_K (h₀ := X.base) I.ok.mod.kin T.kC (thn (ha.run pos pins s σ H _ I hw) fun us s1 ⟨vs, H1, I1, r1, hz, q1⟩ => ⟨I1.kIn, ?_⟩) he hpl
  show wpAny _ _ (call (.ref C) us) _ _ _
  obtain ⟨hp, g, dr, tk, os⟩ := s1
  have le1 : hp.objs.size ≤ hp.objs.size + 1 := by omega
  have kept : ∀ b o, hp.get? b = some o → ((hp.push (PySem.W.kdv_tup us)).push (PySem.HandSPX.excO C hp.objs.size)).get? b = some o := fun _ _ z => Heap.get?_push_of_some _ (Heap.get?_push_of_some _ z)
  have at1 : ((hp.push (PySem.W.kdv_tup us)).push (PySem.HandSPX.excO C hp.objs.size)).get? (hp.objs.size + 1) = some (PySem.HandSPX.excO C hp.objs.size) := by heap_get
  have J : Inv X pins σ (upd H1 (hp.objs.size + 1) (exo (hp.objs.size + 1) C none)) ⟨(hp.push (PySem.W.kdv_tup us)).push (PySem.HandSPX.excO C hp.objs.size), g, dr, tk, os⟩ := I1.laid (t' := tk) kept le1 (exo_ok at1)
  have q2 := q1 (hp.objs.size + 1) (I1.hok.fresh le1)
  have r2 : Vals (V.ref (hp.objs.size + 1) :: vs) (Value.ref (hp.objs.size + 1) :: us) := .cons rfl r1
  have len2 : (Value.ref (hp.objs.size + 1) :: us).length = ps.length := r2.length.symm.trans (F1.len _ _ _ _ q2)
  have small : us.length ≤ sizeLine := by have := Paired.length r1; rw [sizeLine_eq]; omega
  have bnd := hb _ (Value.ref (hp.objs.size + 1) :: us) J.kIn (by simpa using len2)
  refine wpAny_call (PySem.HandSPX.call_own F.excBase_ValueError (fun Y => PySem.HandSPX.refsVE_contains Y bm hbm) (I1.kIn _ _ hC) (PySem.W.looks_findIn I1.kIn iC) (fun self => PySem.W.bind_fn I1.kIn self tI) small
    (codeAny_mono (F1.run _ X.stack _ _ ⟨Value.ref (hp.objs.size + 1) :: us, []⟩ _ _ _ _ (hr.make C us []) (J.env0.make C us []) bnd (by simpa using r2) q2) fun r s' back => ?_))
  match r, back with
  | .error er, back => exact hx pins σ _ _ er s' J back
  | .ok (.ret u), back =>
    obtain ⟨v, H', J', rv, ev, q3⟩ := J.after back
    subst ev
    exact ⟨rv, ⟨V.ref (hp.objs.size + 1), H', J', rfl, q3⟩⟩
end
section
variable {σ : L2.St} {H : Hp} {Q : VK} {te to : TE} {ta : TA} {K : PySem.W.Frag} {n bk ct : L2.St → Hp → Prop} {rt : VK} {f : Str} {C : Addr} {sp : Sp}
theorem ost (h : te σ H fun y H1 => to σ H1 fun x H2 => ∃ a C : Addr, x = .ref a ∧ OexC K C ∧ PySem.W.findIn K (.ref C) f = some none ∧
  ((H2 a = some (exo a C none) ∧ ∀ dx, H2 dx = none → dx ≠ a → n σ (upd (upd H2 dx (exd dx [(f, y)])) a (exo a C (some dx)))) ∨
    ∃ (dx : Addr) (fs : List (Str × V)), H2 a = some (exo a C (some dx)) ∧ H2 dx = some (exd dx fs) ∧ fs.length ≤ 900 ∧ n σ (upd H2 dx (exd dx ((f, y) :: fs))))) : tOst K f to te ⟨n, rt, bk, ct⟩ σ H := h
theorem fldV (h : te σ H fun x H1 => ∃ (a C : Addr) (fs : List (Str × V)) (v : V), x = .ref a ∧ XfC K C ∧ PySem.W.findIn K (.ref C) f = some none ∧ Exv H1 a C fs ∧ fs.lookup f = some v ∧ Q v H1) : tFldV K f te σ H Q := h
theorem newV (h : ta σ H fun vs H1 => vs.length ≤ 1000 ∧ ∀ a, H1 a = none → sp (.ref a :: vs) (upd H1 a (exo a C none)) (fun v H2 => v = .non ∧ Q (.ref a) H2) (fun _ _ _ => False)) : tNewV C sp ta σ H Q := h
end
end HS
namespace HS
open PySem PySem.Spec PyProof.Rows L2
/-- the refs of vs are tuples of these two values -/
def PrV (H : Hp) : List V → List (V × V) → Prop
  | [], [] => True
  | v :: vs, p :: ps => (∃ t, v = .ref t ∧ H t = some (.tup [p.1, p.2])) ∧ PrV H vs ps
  | _, _ => False
theorem PrV.keep {S : Addr → Prop} {H H' : Hp} (k : Keep S H H') : ∀ {vs : List V} {ps : List (V × V)}, PrV H vs ps → (∀ v ∈ vs, ∀ t, v = .ref t → ¬ S t) → PrV H' vs ps
  | [], [], h, _ => h
  | _ :: _, _ :: _, ⟨⟨t, e, o⟩, h⟩, n => ⟨⟨t, e, k t _ o (n _ List.mem_cons_self t e)⟩, h.keep k fun v hv => n v (List.mem_cons_of_mem _ hv)⟩
theorem PrV.same {H H' : Hp} {vs : List V} {ps : List (V × V)} (h : PrV H vs ps) (k : Keep (fun _ => False) H H') : PrV H' vs ps :=
  h.keep k fun _ _ _ _ z => z
theorem PrV.len {H : Hp} : ∀ {vs : List V} {ps : List (V × V)}, PrV H vs ps → vs.length = ps.length
  | [], [], _ => rfl
  | _ :: _, _ :: _, ⟨_, h⟩ => by rw [List.length_cons, List.length_cons, h.len]
theorem PrV.at {H : Hp} : ∀ {vs : List V} {ps : List (V × V)} {i : Nat} {v : V}, PrV H vs ps → vs[i]? = some v → ∃ t p, v = .ref t ∧ ps[i]? = some p ∧ H t = some (.tup [p.1, p.2])
  | [], [], i, _, _, e => by cases i <;> cases e
  | x :: _, p :: _, 0, v, ⟨⟨t, e', o⟩, _⟩, e => ⟨t, p, by rw [← Option.some.inj e]; exact e', rfl, o⟩
  | _ :: vs, _ :: ps, i + 1, v, ⟨_, h⟩, e => h.at (i := i) (by rw [List.getElem?_cons_succ] at e; exact e)
end HS
namespace HS
open PySem PySem.Spec PyProof.Rows L2
theorem kisV {X : Cx} (K : PySem.W.Frag) (h : X.K = K := by rfl) : CallR X (.builtin "isinstance") (rIsV K) := h ▸ call_isV
theorem kisi {X : Cx} (K : PySem.W.Frag) (h : X.K = K := by rfl) : CallR X (.builtin "isinstance") (rIsi K) := h ▸ call_isi
section
variable {K : PySem.W.Frag} {H H' : Hp} {Q : VK} {a D C p : Addr} {fs : List (Str × V)} {b : Bool} {o : HO}
theorem Exv.same (h : Exv H a C fs) (k : Keep (fun _ => False) H H') : Exv H' a C fs := by
  obtain ⟨d, e1, e2⟩ := h
  exact ⟨d, k _ _ e1 id, k _ _ e2 id⟩
theorem Exv.new (h : Exv H a C fs) (hp : H p = none) : Exv (upd H p o) a C fs := h.same (Keep.new hp)
theorem isV (T : ExcC K D) (he : Exv H a D fs) (hq : PySem.W.kitOne K (.ref D) (.ref C) = some b) (q : Q (.bl b) H) : rIsV K [.ref a, .ref C] H Q := ⟨a, D, fs, _, _, b, rfl, T, he, .own C, hq, q⟩
theorem isVt {n : String} (T : ExcC K D) (he : Exv H a D fs) (hq : PySem.W.kitOne K (.ref D) (.type n) = some b) (q : Q (.bl b) H) : rIsV K [.ref a, .ty n] H Q := ⟨a, D, fs, _, _, b, rfl, T, he, .ty n, hq, q⟩
end
end HS
namespace HS
open PySem PySem.Spec PyProof.Rows L2
theorem PrV.app {H : Hp} : ∀ {vs ws : List V} {ps qs : List (V × V)}, PrV H vs ps → PrV H ws qs → PrV H (vs ++ ws) (ps ++ qs)
  | [], _, [], _, _, g => g
  | _ :: _, _, _ :: _, _, ⟨a, h⟩, g => ⟨a, h.app g⟩
theorem PrV.new {H : Hp} {p : Addr} {o : HO} {vs : List V} {ps : List (V × V)} (h : PrV H vs ps) (hp : H p = none) : PrV (upd H p o) vs ps := h.same (Keep.new hp)
section
variable {H : Hp} {t0 t1 l : Addr} {x0 y0 x1 y1 : V}
theorem pair2 (h0 : H t0 = none) (h1 : upd H t0 (.tup [x0, y0]) t1 = none) (h2 : upd (upd H t0 (.tup [x0, y0])) t1 (.tup [x1, y1]) l = none) :
    ∃ H1, upd (upd (upd H t0 (.tup [x0, y0])) t1 (.tup [x1, y1])) l (.lst [.ref t0, .ref t1]) = H1 ∧ Keep (fun _ => False) H H1 ∧ PrV H1 [.ref t0, .ref t1] [(x0, y0), (x1, y1)] ∧ H1 l = some (.lst [.ref t0, .ref t1]) := by
  have n1 : t0 ≠ t1 := ne_of_none upd_same h1
  have e0 : upd (upd H t0 (.tup [x0, y0])) t1 (.tup [x1, y1]) t0 = some (.tup [x0, y0]) := by rw [upd_ne n1]; exact upd_same
  have e1 : upd (upd H t0 (.tup [x0, y0])) t1 (.tup [x1, y1]) t1 = some (.tup [x1, y1]) := upd_same
  refine ⟨_, rfl, (Keep.new h0).trans ((Keep.new h1).trans (Keep.new h2)), ⟨⟨t0, rfl, ?_⟩, ⟨t1, rfl, ?_⟩, trivial⟩, upd_same⟩
  · rw [upd_ne (ne_of_none e0 h2)]; exact e0
  · rw [upd_ne (ne_of_none e1 h2)]; exact e1
theorem pair1 (h0 : H t0 = none) (h2 : upd H t0 (.tup [x0, y0]) l = none) :
    ∃ H1, upd (upd H t0 (.tup [x0, y0])) l (.lst [.ref t0]) = H1 ∧ Keep (fun _ => False) H H1 ∧ PrV H1 [.ref t0] [(x0, y0)] ∧ H1 l = some (.lst [.ref t0]) := by
  refine ⟨_, rfl, (Keep.new h0).trans (Keep.new h2), ⟨⟨t0, rfl, ?_⟩, trivial⟩, upd_same⟩
  rw [upd_ne (ne_of_none upd_same h2)]; exact upd_same
end
end HS
namespace HS
open PySem PySem.Spec PyProof.Rows L2
theorem Keep.over {H H' : Hp} {a : Addr} {o : HO} (k : Keep (fun x => x = a) (upd H a o) H') (h : H a = none) : Keep (fun _ => False) H H' := fun p u e _ => by
  have n := ne_of_none e h
  exact k p u (by rw [upd_ne n]; exact e) n
end HS
namespace HS
open PySem PySem.Spec PyProof.Rows L2
/-- the same by the law's own look: leaves, lists and tuples of such -/
inductive SmV (K : PySem.W.Frag) (H : Hp) : Nat → V → V → Prop
  | non {n : Nat} : SmV K H n .non .non
  | bl {n : Nat} (b : Bool) : SmV K H n (.bl b) (.bl b)
  | int {n : Nat} (i : Int) : SmV K H n (.int i) (.int i)
  | str {n : Nat} (x : Str) : SmV K H n (.str x) (.str x)
  | lst {n : Nat} {a b : Addr} {xs ys : List V} : H a = some (.lst xs) → H b = some (.lst ys) → xs.length = ys.length → xs.length ≤ 1000 → (∀ (i : Nat) (x y : V), xs[i]? = some x → ys[i]? = some y → SmV K H n x y) → SmV K H (n + 1) (.ref a) (.ref b)
  | tup {n : Nat} {a b : Addr} {xs ys : List V} : H a = some (.tup xs) → H b = some (.tup ys) → xs.length = ys.length → xs.length ≤ 1000 → (∀ (i : Nat) (x y : V), xs[i]? = some x → ys[i]? = some y → SmV K H n x y) → SmV K H (n + 1) (.ref a) (.ref b)
theorem SmV.same {K : PySem.W.Frag} {H H' : Hp} (k : Keep (fun _ => False) H H') : ∀ {n : Nat} {x y : V}, SmV K H n x y → SmV K H' n x y
  | _, _, _, .non => .non
  | _, _, _, .bl b => .bl b
  | _, _, _, .int i => .int i
  | _, _, _, .str x => .str x
  | _, _, _, .lst h1 h2 h3 h4 h => .lst (k _ _ h1 id) (k _ _ h2 id) h3 h4 fun i x y e1 e2 => (h i x y e1 e2).same k
  | _, _, _, .tup h1 h2 h3 h4 h => .tup (k _ _ h1 id) (k _ _ h2 id) h3 h4 fun i x y e1 e2 => (h i x y e1 e2).same k
/-- x[i] of a list or a tuple -/
def rIxA (K : PySem.W.Frag) : R2 := fun x y H Q => rIxL K x y H Q ∨ rIxT K x y H Q
theorem ixa {X : Cx} (K : PySem.W.Frag) (h : X.K = K := by rfl) : IxR X (rIxA K) := fun value slice pins s σ H x y v u Q I rx ry r =>
  r.elim (fun r => ixl K h value slice pins s σ H x y v u Q I rx ry r) fun r => ixt K h value slice pins s σ H x y v u Q I rx ry r
section
variable {K : PySem.W.Frag} {H : Hp} {Q : VK}
theorem isi {x : V} {m n : String} (b : Bool) (ty : TyX K H x (.type m)) (hq : kitB m n = some b) (q : Q (.bl b) H) : rIsi K [x, .ty n] H Q := ⟨x, _, _, _, b, rfl, .ty n, ty, kit_ty hq, q⟩
theorem isN {x : V} (q : Q (.bl (decide (x = .non))) H) : (fun x y H Q => y = V.non ∧ Q (.bl (decide (x = .non))) H : R2) x .non H Q := ⟨rfl, q⟩
theorem eqS {x y : V} (hs : scal x y = true) (e : x = y) (q : Q (.bl true) H) : rEq x y H Q := ⟨hs, by rw [decide_eq_true e]; exact q⟩
theorem neB {b c : Bool} (q : Q (.bl (!decide (b = c))) H) : rNe (.bl b) (.bl c) H Q := ⟨rfl, by
  have e : decide (V.bl b = V.bl c) = decide (b = c) := by cases b <;> cases c <;> rfl
  rw [e]; exact q⟩
theorem kb_bb : kitB "bool" "bool" = some true := by decide +kernel
theorem kb_ib : kitB "int" "bool" = some false := by decide +kernel
theorem kb_ii : kitB "int" "int" = some true := by decide +kernel
theorem kb_sb : kitB "str" "bool" = some false := by decide +kernel
theorem kb_si : kitB "str" "int" = some false := by decide +kernel
theorem kb_ss : kitB "str" "str" = some true := by decide +kernel
theorem kb_lb : kitB "list" "bool" = some false := by decide +kernel
theorem kb_li : kitB "list" "int" = some false := by decide +kernel
theorem kb_ls : kitB "list" "str" = some false := by decide +kernel
theorem kb_ll : kitB "list" "list" = some true := by decide +kernel
theorem kb_lt : kitB "list" "tuple" = some false := by decide +kernel
theorem kb_tb : kitB "tuple" "bool" = some false := by decide +kernel
theorem kb_ti : kitB "tuple" "int" = some false := by decide +kernel
theorem kb_ts : kitB "tuple" "str" = some false := by decide +kernel
theorem kb_tl : kitB "tuple" "list" = some false := by decide +kernel
theorem kb_tt : kitB "tuple" "tuple" = some true := by decide +kernel
end
end HS
/-! An own exception class called with keywords. -/
namespace PySem
namespace HSK
open HandSPX Builtin Builtin.ObjectAttr
section
variable {prog : Program} {w : World} {A : Around} {E : Value → Shared → Prop} {R : Result → Shared → Prop} {h : Heap} {g : Array GenState} {d : Drawn} {t : Nat} {os : OsState} {kw : List (Str × Value)} {fI : Addr}
variable {nm q : Str} {C N : Addr} {bs bm bmB : List Value} {hdct : Bool} {sn : List Str} {sub : List Value} {ab : Bool} {col : Option Bool} {dd : Option Addr} {k0 k1 k2 k3 k5 : Option Value} {B newId initId : String}
theorem kw_check_new {M : Model} (F : ExcBaseFacts B newId initId bmB) (hT : ∀ X : String, bm.contains (.type X) = bmB.contains (.type X)) {Q : Unit → Shared → Prop} (hC : h.get? C = some (excClassObj nm q C N bs bm hdct sn sub ab col dd k0 k1 k2 k3 k5 newId)) (z : Q () ⟨h, g, d, t, os⟩) :
    wpAny M A (checkBuiltinCall newId ⟨[.ref C], kw⟩) Q E ⟨h, g, d, t, os⟩ := by
  have inB : (Value.ref C :: bm).contains (.type B) = true := by rw [List.contains_cons, hT, F.hasB, Bool.or_true]
  have star := F.noStar
  simp only [checkBuiltinCall, F.newKind, F.newSplit, F.newRow]
  repeat (first | refine wpAny_loadPart_at hC ?_ | (refine wpAny_isSubtype_exc hC ?_; rw [inB]) | refine wpAny_staticBase_exc hC ?_ | refine wpAny_madeBy_exc hC ?_ | simp only [bne_self_eq_false, Bool.false_eq_true, if_false] | wp_step)
  exact z
theorem kw_new (F : ExcBaseFacts B newId initId bmB) (hT : ∀ X : String, bm.contains (.type X) = bmB.contains (.type X)) (hC : h.get? C = some (excClassObj nm q C N bs bm hdct sn sub ab col dd k0 k1 k2 k3 k5 newId))
    (z : R (.ok (.ret (.ref (h.objs.size + 1)))) ⟨(h.push (W.kdv_tup [])).push (excO C h.objs.size), g, d, t, os⟩) : codeAny (model prog w) A (.builtin newId ⟨[.ref C], kw⟩) R ⟨h, g, d, t, os⟩ := by
  have ends := F.ends
  have inB : (Value.ref C :: bm).contains (.type B) = true := by rw [List.contains_cons, hT, F.hasB, Bool.or_true]
  have noA : (Value.ref C :: bm).contains (.type "AttributeError") = false := by rw [List.contains_cons, hT, F.noAttr]; rfl
  have noN : (Value.ref C :: bm).contains (.type "NameError") = false := by rw [List.contains_cons, hT, F.noName]; rfl
  have tiny : ([] : List Value).length ≤ sizeLine := Nat.zero_le _
  refine codeAny_builtinAt F.entry ?_
  unfold Builtin.«BaseException.__new__»
  refine wpAt_bind ?_
  show wpAt _ _ _ (stack >>= _) _ _ _
  refine wpAt_bind (wpAt_stack fun p below => wpAt_of_wpAny ?_)
  wp_walk
  refine wpAt_of_wpAny ?_
  rw [F.owner]
  repeat (first | with_reducible refine wpAny_madeHere_exc F.canon hC ?_ | with_reducible refine wpAny_loadPart_at hC ?_ | (with_reducible refine wpAny_isSubtype_exc hC ?_; first | rw [inB] | rw [noA] | rw [noN]) | wp_step)
  show R _ _
  rw [Heap.size_push]
  exact z
theorem kw_type_call (F : ExcBaseFacts B newId initId bmB) (hT : ∀ X : String, bm.contains (.type X) = bmB.contains (.type X)) {Q : Fin → Shared → Prop} (hC : h.get? C = some (excClassObj nm q C N bs bm hdct sn sub ab col dd k0 k1 k2 k3 k5 newId))
    (li : W.Looks (model prog w) h (typeLookup (.ref C) "__init__") (some (.ref fI))) (lb : ∀ self, W.Looks (model prog w) h (bindSpecial (.ref fI) self) (.ref fI, [self]))
    (run : codeAny (model prog w) A (.call (.ref fI) ⟨[.ref (h.objs.size + 1)], kw⟩) (fun r s' => match r with | .ok (.ret v) => v = .none ∧ Q (.done (.ret (.ref (h.objs.size + 1)))) s' | .ok _ => False | .error e => E e s')
      ⟨(h.push (W.kdv_tup [])).push (excO C h.objs.size), g, d, t, os⟩) : wpAny (model prog w) A (Builtin.«type.__call__» ⟨[.ref C], kw⟩) Q E ⟨h, g, d, t, os⟩ := by
  repeat (first | with_reducible refine wpAny_loadPart_at hC ?_ | with_reducible refine wpAny_madeBy_exc hC ?_ | wp_step)
  refine codeAny_call_builtin_code (Code.quiet_builtin _ F.quiet) (kw_check_new F hT hC (kw_new F hT hC ?_))
  have up : ∀ b o, h.get? b = some o → ((h.push (W.kdv_tup [])).push (excO C h.objs.size)).get? b = some o := fun _ _ y => Heap.get?_push_of_some _ (Heap.get?_push_of_some _ y)
  have hC2 := up _ _ hC
  have hE : ((h.push (W.kdv_tup [])).push (excO C h.objs.size)).get? (h.objs.size + 1) = some (excO C h.objs.size) := by heap_get
  have isC : (Value.ref C :: bm).contains (.ref C) = true := by simp
  have li2 := li.keeps up
  have lb2 := (lb (.ref (h.objs.size + 1))).keeps up
  show wpAny _ _ _ _ _ _
  unfold isInstance
  repeat (first | with_reducible refine wpAny_loadPart_at hE ?_ | (with_reducible refine wpAny_isSubtype_exc hC2 ?_; rw [isC]) | wp_step)
  show wpAny _ _ (typeLookup (.ref C) _) _ _ _
  refine li2.at (wpAny_holding (wpAny_bind (lb2.at (wpAny_bind (wpAny_call (codeAny_mono run fun r s' y => ?_))))))
  rcases r with e | (v | _ | _ | _) <;> first | exact y | exact y.elim | skip
  obtain ⟨y0, y⟩ := y
  subst y0
  first
    | exact wpAny_pure (wpAny_pure y)
    | (wp_walk; exact y)
theorem kw_call (F : ExcBaseFacts B newId initId bmB) (hT : ∀ X : String, bm.contains (.type X) = bmB.contains (.type X)) (hC : h.get? C = some (excClassObj nm q C N bs bm hdct sn sub ab col dd k0 k1 k2 k3 k5 newId))
    (li : W.Looks (model prog w) h (typeLookup (.ref C) "__init__") (some (.ref fI))) (lb : ∀ self, W.Looks (model prog w) h (bindSpecial (.ref fI) self) (.ref fI, [self]))
    (run : codeAny (model prog w) (A.under (.builtin "type.__call__" ⟨[.ref C], kw⟩)) (.call (.ref fI) ⟨[.ref (h.objs.size + 1)], kw⟩) (W.InitBack (h.objs.size + 1) R) ⟨(h.push (W.kdv_tup [])).push (excO C h.objs.size), g, d, t, os⟩) :
    codeAny (model prog w) A (.call (.ref C) ⟨[], kw⟩) R ⟨h, g, d, t, os⟩ := by
  have c1 := tc_lookup
  have c2 := tc_bind (.ref C)
  have ty : (⟨h, g, d, t, os⟩ : Shared).TypeIs (.ref C) "type" := ⟨_, hC, rfl⟩
  refine codeAny_of_tree ?_
  show wpAny _ _ (callAny (.ref C) _) _ _ _
  repeat (any_goals (first | assumption | with_reducible refine wpAny_loadPart_at hC ?_ | wp_step))
  refine ⟨rfl, codeAny_call_builtin_at (Code.quiet_builtin _ (by decide +kernel)) entry_typeCall (wpAny_check_type_call_sub hC (kw_type_call F hT hC li lb ?_))⟩
  refine codeAny_mono run fun r s' y => ?_
  rcases r with e | (v | _ | _ | _) <;> exact y
end
end HSK
end PySem
namespace HS
open PySem PySem.Spec PyProof.Rows L2
/-- C(k = v) as a value -/
def tNewK (C : Addr) (n : Nat) (sp : Sp) (gV : List V → List V → List V) (tk : TA) : TE := fun σ H Q => tk σ H fun zs H1 => zs.length = n ∧ ∀ a, H1 a = none → sp (gV [.ref a] zs) (upd H1 a (exo a C none)) (fun v H2 => v = .non ∧ Q (.ref a) H2) (fun _ _ _ => False)
section
variable {X : Cx} {CX : CXT} {x : Str} {C fI : Addr} {k : Nat} {fd : FuncData} {ps ks : List Str} {sp : Sp} {kws : List Keyword} {tk : TA} {p pos : Pos} {g : List Value → List Value → List Value} {gV : List V → List V → List V}
theorem pe_newK (T : OexC X.K C) (iC : PySem.W.findIn X.K (.ref C) "__init__" = some (some (.ref fI))) (tI : PySem.W.typeIn X.K (.ref fI) = some (.type "function"))
    (F1 : FnOk X.prog X.w X.K X.mg X.base CX k fI fd ps sp) (hr : Room (k + 1) X.A) (hb : KBn X.K fd ps 1 ks g gV) (hx : Passes CX X (fun _ _ _ => False)) (hg : Gl X x) (hm : X.mg x = some (.ref C)) (hkw : PK X kws tk)
    (hall : (backToKw pos (keywordEach kws X.env)).all (·.1.isSome) = true := by rfl) (hks : (backToKw pos (keywordEach kws X.env)).filterMap (·.1) = ks := by rfl) (hdb : (x == ("__debug__" : Str)) = false := by decide)
    (hpl : ((backTo pos (starEach [] X.env)).any (·.1) || (backToKw pos (keywordEach kws X.env)).any (·.1.isNone)) = false := by rfl) : PE X (.Call (.Name x p) [] kws pos) (tNewK C ks.length sp gV tk) := by
  refine ⟨fun pins s σ H Q I hw => wpAny_Call_Name_kw (ld_glob I hg hm (PySem.W.callWith_KW0 (h₀ := X.base) I.ok.mod.kin T.kC hall (thn (hkw.run pos pins s σ H _ I hw) fun ws s1 ⟨zs, H1, I1, rz, lz, q1⟩ => ⟨I1.kIn, ?_⟩) hpl) hdb)⟩
  obtain ⟨nm, qn, N, bs, bm, sn, sub, ab, col, dd, k0, k1, k2, k3, k5, hC, hbm⟩ := T.cls
  rw [hks]
  obtain ⟨hp, g0, dr, t, os⟩ := s1
  have le1 : hp.objs.size ≤ hp.objs.size + 1 := by omega
  have kept : ∀ b o, hp.get? b = some o → ((hp.push (PySem.W.kdv_tup [])).push (PySem.HandSPX.excO C hp.objs.size)).get? b = some o := fun _ _ z => Heap.get?_push_of_some _ (Heap.get?_push_of_some _ z)
  have at1 : ((hp.push (PySem.W.kdv_tup [])).push (PySem.HandSPX.excO C hp.objs.size)).get? (hp.objs.size + 1) = some (PySem.HandSPX.excO C hp.objs.size) := by heap_get
  have J : Inv X pins σ (upd H1 (hp.objs.size + 1) (exo (hp.objs.size + 1) C none)) ⟨(hp.push (PySem.W.kdv_tup [])).push (PySem.HandSPX.excO C hp.objs.size), g0, dr, t, os⟩ := I1.laid (t' := t) kept le1 (exo_ok at1)
  have q2 := q1 (hp.objs.size + 1) (I1.hok.fresh le1)
  have r1 : Vals [V.ref (hp.objs.size + 1)] [Value.ref (hp.objs.size + 1)] := .cons rfl .nil
  have bnd := hb.to _ [Value.ref (hp.objs.size + 1)] ws J.kIn rfl (rz.length.symm.trans lz)
  refine wpAny_call (PySem.HSK.kw_call F.excBase_ValueError (fun Y => PySem.HandSPX.refsVE_contains Y bm hbm) (I1.kIn _ _ hC) (PySem.W.looks_findIn I1.kIn iC) (fun self => PySem.W.bind_fn I1.kIn self tI)
    (codeAny_mono (F1.run _ X.stack _ _ ⟨[Value.ref (hp.objs.size + 1)], ks.zip ws⟩ _ _ _ _ (hr.make C [] (ks.zip ws)) (J.env0.make C [] (ks.zip ws)) bnd (hb.rel r1 rz) q2) fun r s' back => ?_))
  match r, back with
  | .error er, back => exact hx pins σ _ _ er s' J back
  | .ok (.ret u), back =>
    obtain ⟨v, H', J', rv, ev, q3⟩ := J.after back
    subst ev
    exact ⟨rv, ⟨V.ref (hp.objs.size + 1), H', J', rfl, q3⟩⟩
end
section
variable {σ : L2.St} {H : Hp} {Q : VK} {C : Addr} {sp : Sp} {m : Nat} {gV : List V → List V → List V} {tk : TA}
theorem newK (h : tk σ H fun zs H1 => zs.length = m ∧ ∀ a, H1 a = none → sp (gV [.ref a] zs) (upd H1 a (exo a C none)) (fun v H2 => v = .non ∧ Q (.ref a) H2) (fun _ _ _ => False)) : tNewK C m sp gV tk σ H Q := h
end
end HS
namespace HS
open PySem PySem.Spec PyProof.Rows L2
/-! ### own exceptions that are raised and caught -/
section
variable {C a : Addr} {sp : Sp} {dvs : List V} {ta : TA} {te : TE} {σ : L2.St} {H H1 H2 : Hp} {R : XK} {Q : VK} {d : Addr} {u o : HO}
theorem mkO (h : ta σ H fun vs H1 => vs.length ≤ 1000 ∧ ∀ a, H1 a = none → sp (.ref a :: (vs ++ dvs)) (upd H1 a (exo a C none))
    (fun v H2 => v = .non ∧ ∃ (d : Addr) (fs : List (Str × V)), H2 a = some (exo a C (some d)) ∧ H2 d = some (exd d fs) ∧ H1 d = none ∧ R (.ref C) (some d) (upd (del H2 a) d (.xd fs))) (fun _ _ _ => False)) : tMkO C sp dvs ta σ H R := h
theorem callS {E : L2.St → XK} (h : ta σ H fun vs H1 => sp vs H1 Q (E σ)) : tCallS sp E ta σ H Q := h
theorem xf {cls : Value} {dx : Option Addr} {f : Str} (h : te σ H fun x H1 => x = .ref a ∧ cls = .ref C ∧ ∃ (dd : Addr) (fs : List (Str × V)) (v : V), dx = some dd ∧ H1 dd = some (.xd fs) ∧ fs.lookup f = some v ∧ Q v H1) : tXf a cls dx C f te σ H Q := h
/-- what stood ahead of the new exception a stands, and its dict at d besides -/
theorem Keep.exc (k : Keep (fun x => x = a) (upd H a o) H2) (ha : H a = none) (hd : H d = none) : Keep (fun _ => False) H (upd (del H2 a) d u) := fun b q e _ => by
  have hba : b ≠ a := ne_of_none e ha
  rw [upd_ne (ne_of_none e hd)]
  show (if b = a then none else H2 b) = some q
  rw [if_neg hba]
  exact k b q (by rw [upd_ne hba]; exact e) hba
/-- one value, put into a new exception whose maker holds the usual promise -/
theorem mk1 {K : PySem.W.Frag} {w : V}
    (hsp : ∀ (H' : Hp) (Q' : VK) (E' : XK) (b : Addr), OexC K C → PySem.W.findIn K (.ref C) "value" = some none → H' b = some (exo b C none) →
      (∀ H3 d, HS.Keep (fun x => x = b) H' H3 → H' d = none → d ≠ b → H3 b = some (exo b C (some d)) → H3 d = some (exd d [("value", w)]) → Q' .non H3) → sp [.ref b, w] H' Q' E')
    (T1 : OexC K C) (hv : PySem.W.findIn K (.ref C) "value" = some none)
    (h : ∀ H' d, Keep (fun _ => False) H H' → H d = none → H' d = some (.xd [("value", w)]) → R (.ref C) (some d) H') :
    [w].length ≤ 1000 ∧ ∀ a, H a = none → sp (.ref a :: ([w] ++ [])) (upd H a (exo a C none))
      (fun v H2 => v = .non ∧ ∃ (d : Addr) (fs : List (Str × V)), H2 a = some (exo a C (some d)) ∧ H2 d = some (exd d fs) ∧ H d = none ∧ R (.ref C) (some d) (upd (del H2 a) d (.xd fs))) (fun _ _ _ => False) :=
  ⟨show 1 ≤ 1000 by decide, fun a ha => hsp _ _ _ a T1 hv upd_same fun H3 d k hd hne e1 e2 =>
    have hd' : H d = none := by rw [upd_ne hne] at hd; exact hd
    ⟨rfl, d, _, e1, e2, hd', h _ d (k.exc ha hd') hd' upd_same⟩⟩
end
end HS
/-! A for whose body hands out (own rule over HandS.GenBody). -/
namespace HS
open PySem PySem.Spec PyProof.Rows L2
def tGFor (wi : TI) (g : TG) (tb : TGn) : TGn := fun D ys σ H => wi σ H fun J H1 => ∃ W : Nat → Nat → List V → L2.St → Hp → Prop, (∃ m, W 0 m ys σ H1) ∧ ∀ i m ys σ H, W i m ys σ H →
  (J.stop i H ∧ D.nx ys σ H) ∨ (J.go i H ∧ ∃ N : List V → L2.St → Hp → Prop, (∀ ys' σ' H', N ys' σ' H' → ∃ m', m' < m ∧ W (i + 1) m' ys' σ' H') ∧ ∀ x H', J.yld i H x H' → g x σ H' fun σ2 H2 => tb { D with nx := N, ct := N, bk := D.nx } ys σ2 H2)
section
variable {X : Cx}
theorem gs_for {tg iter : Expr} {body : List Stmt} {wi : TI} {g : TG} {tb : TGn} {pos : Pos} (hp : PassesOwn (model X.prog X.w) X.A X.env X.xe) (hc : X.calm = true) (hi : PI X tg iter wi) (hg : PG X tg g) (hb : GSs X body tb)
    (hs : ∀ x, foldedSetIterable iter X.env x = pure x := by intro _; rfl) : GS X (.For tg iter body [] pos) (tGFor wi g tb) := by
  refine ⟨fun A S ip R n ys s₀ c fs K J gd lv s σ H D gc hn k hI ht => ?_⟩
  obtain ⟨acc0, cc0, r0, I0⟩ := hI
  rw [exec_For]
  show Seg _ _ _ _ _ _ _ (.at pos fun _ => (eval iter X.env >>= fun v => (foldedSetIterable iter X.env v >>= fun x => (standAt iter.pos >>= fun _ => (holding [x] (pyIter x) >>= fun itv => runOwn (.forLoop tg itv body [] X.env) X.env)))).wrap K J gd lv) _ _
  refine seg_at (seg_bind_wrap ?_)
  rw [gc.over]
  refine wpAny_mono (hi.run _ s σ H _ I0 ht) (fun v s1 h1 => ?_) fun x s' hx => k.exc n s₀ x s' hx
  rw [hs v]
  refine seg_bind_wrap (wpAny_pure ?_)
  refine seg_bind_wrap (wpAny_standAt ?_)
  refine seg_bind_wrap ?_
  rw [gc.over]
  refine wpAny_holding (wpAny_mono h1 (fun itv s2 h2 => ?_) fun x s' hx => k.exc n s₀ x s' hx)
  obtain ⟨it, fp, tn, Jt, H2, e, I2, T, st2, f2, W, ⟨m0, w0⟩, turn⟩ := h2
  subst e
  have stat : ∀ {H' : Hp} (acc : Array Value) (cc : Nat), (∀ b ∈ fp, H' b = none) → ∀ b ∈ fp, FpOk X ((S, lstObj acc cc) :: ip) H' b := fun {H'} acc cc hn b hb => by
    obtain ⟨_, q1, q2, q3, q4, q5⟩ := f2 b hb
    refine ⟨hn b hb, q1, q2, q3, q4, fun p hp => ?_⟩
    rcases List.mem_append.mp hp with z | z
    · exact q5 p (List.mem_append_left _ z)
    · rcases List.mem_cons.mp z with z | z
      · rw [z]; exact q5 (S, lstObj acc0 cc0) (List.mem_append_right _ List.mem_cons_self)
      · exact q5 p (List.mem_append_right _ (List.mem_cons_of_mem _ z))
  have neS : ∀ b ∈ fp, b ≠ S := fun b hb z => (f2 b hb).2.2.2.2.2 (S, lstObj acc0 cc0) (List.mem_append_right _ List.mem_cons_self) z.symm
  refine seg_call fun p => ?_
  have gl := fun (kk : Result → Sem PySem.Fin) => gc_loop (k := kk) (c' := .forLoop tg (.ref it) body [] X.env) (l := lv []) (kp := []) (p := p) gc rfl rfl
  have loop : ∀ (m i n : Nat) (ys : List V) (s₀ s : Shared) (σ : L2.St) (H : Hp), n + ys.length = sizeLine → W i m ys σ H → GI X S ip ys σ H s → tn i s.heap → (∀ b ∈ fp, H b = none) →
      Seg (model X.prog X.w) A R (GY X S) n s₀ (.forLoop tg (.ref it) body [] X.env) ((model X.prog X.w).den (.forLoop tg (.ref it) body [] X.env))
        (.ret (fun r => ((match r with | .ok f => (.pure f : Sem Flow) | .error e => .raise e).onRaise (cameBack X.env)).wrap K J gd lv) none (gd false) (lv []) c p [] :: fs) s := by
    intro m
    induction m using Nat.strongRecOn with
    | ind m ih =>
      intro i n ys s₀ s σ H hn w hI st fr
      have ee : ∀ (n : Nat) (s₀ : Shared) (x : Value) (s' : Shared), X.xe x s' → Seg (model X.prog X.w) A R (GY X S) n s₀ (.forLoop tg (.ref it) body [] X.env)
          ((do noteFrame x X.env; theTreesLotGoes x : Sem Unit).bind (fun _ => .raise x))
          (.ret (fun r => ((match r with | .ok f => (.pure f : Sem Flow) | .error e => .raise e).onRaise (cameBack X.env)).wrap K J gd lv) none (gd false) (lv []) c p [] :: fs) s' := fun n s₀ x s' hx => by
        rw [Sem.bind_eq_wrap]
        refine seg_wrap ?_
        rw [(gl _).over]
        refine wpAny_bind (wpAny_mono (hp x s' hx) (fun _ s'' hcb => wpAny_theTreesLotGoes ?_) fun y s'' hcb => ?_)
        · exact seg_leaf (.error x) (seg_cameBack gc k hcb)
        · exact seg_leaf (.error y) (seg_cameBack gc k hcb)
      show Seg _ A R (GY X S) n s₀ _ ((forTurn tg (.ref it) body [] X.env).onRaise (fun x => do noteFrame x X.env; theTreesLotGoes x)) _ s
      unfold forTurn
      rw [Sem.onRaise_eq_wrap]
      refine seg_bind_wrap (wpAny_standAt ?_)
      refine seg_bind_wrap ?_
      rw [(gl _).over]
      obtain ⟨acc, cc, r, I⟩ := hI
      rcases turn i m ys σ H w with ⟨stop, qn⟩ | ⟨go, N, hN, step⟩
      · refine wpAny_onRaise (wpAny_mono (T.done X rfl rfl rfl hc i _ s σ H X.xe I (stat acc cc fr) st stop) (fun r' s4 h4 => ?_) fun x s' hx => wpAny_standAt (ee n s₀ x s' hx))
        obtain ⟨hr, I4⟩ := h4
        subst hr
        refine seg_again rfl ?_
        show Seg _ A R (GY X S) n s₀ _ (((execs [] X.env).onRaise (fun x => do noteFrame x X.env; theTreesLotGoes x)) >>= fun f => .pure (Fin.done f)) _ s4
        exact seg_leaf (.ok .next) (k.ok n ys s₀ s4 .next hn ⟨σ, H, ⟨acc, cc, r, I4⟩, qn⟩)
      · refine wpAny_onRaise (wpAny_mono (T.item X rfl rfl rfl hc i _ s σ H X.xe I (stat acc cc fr) st go) (fun r' s4 h4 => ?_) fun x s' hx => wpAny_standAt (ee n s₀ x s' hx))
        obtain ⟨u, hr, h4⟩ := h4
        subst hr
        refine seg_bind_wrap ?_
        rw [(gl _).over]
        refine wpAny_mono h4 (fun _ s5 h5 => ?_) fun x s' hx => ee n s₀ x s' hx
        obtain ⟨x, H5, I5, r5, y5, st5, fr5⟩ := h5
        have I5' := I5.pinned (stat acc cc fr5) (T.obj _ _ st5)
        refine seg_bind_wrap ?_
        rw [(gl _).over]
        refine wpAny_mono (hg.run _ s5 σ H5 x u _ I5' r5 (step x H5 y5)) (fun _ s6 h6 => ?_) fun x s' hx => ee n s₀ x s' hx
        obtain ⟨σ6, H6, I6, q6⟩ := h6
        rw [Sem.bind_eq_wrap', Sem.wrap_wrap]
        refine hb.run A S (ip ++ pinsAt fp s5.heap) R n ys s₀ _ _ _ _ _ _ s6 σ6 H6 { D with nx := N, ct := N, bk := D.nx } ⟨gc.pn, fun p hp => ?_, gc.apart, (gl _).over, (gl _).split, (gl _).guard, rfl⟩ hn ⟨fun n' ys' s₀' s7 f hn' hs => ?_, fun n' s₀' x s3 hx => ee n' s₀' x s3 hx⟩ ⟨acc, cc, r, I6⟩ q6
        · rcases List.mem_append.mp hp with z | z
          · exact gc.ip p z
          · exact neS _ (of_pinsAt z).1
        · have again : ∀ {σ7 : L2.St} {H7 : Hp}, GI X S (ip ++ pinsAt fp s5.heap) ys' σ7 H7 s7 → GI X S ip ys' σ7 H7 s7 ∧ tn (i + 1) s7.heap ∧ ∀ b ∈ fp, H7 b = none := fun {σ7 H7} hI => by
            obtain ⟨acc7, cc7, r7, I7⟩ := hI
            have pin : ∀ b ∈ fp, ∀ o, s5.heap.get? b = some o → s7.heap.get? b = some o ∧ H7 b = none := fun b hb o e => by
              have z := I7.pin (b, o) (List.mem_append_right _ (List.mem_cons_of_mem _ (List.mem_append_right _ (mem_pinsAt hb e))))
              exact ⟨z.1, z.2.1⟩
            have I7' : Inv X ((S, lstObj acc7 cc7) :: ip) σ7 H7 s7 := Inv.unpinned (pins := (S, lstObj acc7 cc7) :: ip) (pl := pinsAt fp s5.heap) I7
            refine ⟨⟨acc7, cc7, r7, I7'⟩, T.keep _ _ _ st5 fun b hb o e => (pin b hb o e).1, fun b hb => ?_⟩
            obtain ⟨o, e, _⟩ := T.obj _ _ st5 b hb
            exact (pin b hb o e).2
          cases f with
          | next =>
            obtain ⟨σ7, H7, I7, n7⟩ := hs
            obtain ⟨m', hm, w7⟩ := hN ys' σ7 H7 n7
            obtain ⟨g1, g2, g3⟩ := again I7
            exact seg_again rfl (ih m' hm (i + 1) n' ys' s₀' s7 σ7 H7 hn' w7 g1 g2 g3)
          | cont =>
            obtain ⟨σ7, H7, I7, n7⟩ := hs
            obtain ⟨m', hm, w7⟩ := hN ys' σ7 H7 n7
            obtain ⟨g1, g2, g3⟩ := again I7
            exact seg_again rfl (ih m' hm (i + 1) n' ys' s₀' s7 σ7 H7 hn' w7 g1 g2 g3)
          | brk =>
            obtain ⟨σ7, H7, I7, q7⟩ := hs
            exact seg_leaf (.ok .next) (k.ok n' ys' s₀' s7 .next hn' ⟨σ7, H7, (again I7).1, q7⟩)
          | ret v =>
            obtain ⟨x7, σ7, H7, I7, r7, q7⟩ := hs
            exact seg_leaf (.ok (.ret v)) (k.ok n' ys' s₀' s7 (.ret v) hn' ⟨x7, σ7, H7, (again I7).1, r7, q7⟩)
  exact loop m0 0 n ys s₀ s2 σ H2 hn w0 ⟨acc0, cc0, r0, I2⟩ st2 fun b hb => (f2 b hb).1
end
end HS
namespace HS
open PySem PySem.Spec PyProof.Rows L2
section
variable {σ : L2.St} {H : Hp} {g : TG} {tb : TGn} {n bk ct : List V → L2.St → Hp → Prop} {rt : List V → VK} {ys : List V}
theorem gfr {wi : TI} (h : wi σ H fun J H1 => ∃ W : Nat → Nat → List V → L2.St → Hp → Prop, (∃ m, W 0 m ys σ H1) ∧ ∀ i m ys σ H, W i m ys σ H →
  (J.stop i H ∧ n ys σ H) ∨ (J.go i H ∧ ∃ N : List V → L2.St → Hp → Prop, (∀ ys' σ' H', N ys' σ' H' → ∃ m', m' < m ∧ W (i + 1) m' ys' σ' H') ∧ ∀ x H', J.yld i H x H' → g x σ H' fun σ2 H2 => tb ⟨N, rt, n, N⟩ ys σ2 H2)) : tGFor wi g tb ⟨n, rt, bk, ct⟩ ys σ H := h
theorem gfor_range {lo : Int} {m : Nat} (Pv : Nat → List V → L2.St → Hp → Prop) (h0 : Pv 0 ys σ H)
    (hs : ∀ i ys σ H, i < m → Pv i ys σ H → g (.int (lo + i)) σ H fun σ2 H2 => tb ⟨Pv (i + 1), rt, n, Pv (i + 1)⟩ ys σ2 H2) (hd : ∀ ys σ H, Pv m ys σ H → n ys σ H) :
    ∃ W : Nat → Nat → List V → L2.St → Hp → Prop, (∃ m, W 0 m ys σ H) ∧ ∀ i m' ys σ H, W i m' ys σ H →
      ((Itr lo m).stop i H ∧ n ys σ H) ∨ ((Itr lo m).go i H ∧ ∃ N : List V → L2.St → Hp → Prop, (∀ ys' σ' H', N ys' σ' H' → ∃ m'', m'' < m' ∧ W (i + 1) m'' ys' σ' H') ∧ ∀ x H', (Itr lo m).yld i H x H' → g x σ H' fun σ2 H2 => tb ⟨N, rt, n, N⟩ ys σ2 H2) := by
  refine ⟨fun i k ys σ H => k = m - i ∧ i ≤ m ∧ Pv i ys σ H, ⟨m, by simp, Nat.zero_le _, h0⟩, ?_⟩
  rintro i k ys σ H ⟨rfl, hi, p⟩
  by_cases hlt : i < m
  · refine .inr ⟨hlt, Pv (i + 1), fun ys' σ' H' p' => ⟨m - (i + 1), by omega, rfl, hlt, p'⟩, fun x H' y => ?_⟩
    obtain ⟨rfl, rfl⟩ := y
    exact hs i ys σ _ hlt p
  · have e : i = m := by omega
    subst e
    exact .inl ⟨Nat.le_refl _, hd ys σ H p⟩
end
end HS
/-! Powers of great numbers, [x] * n. -/
namespace HS
open PySem PySem.Spec PyProof.Rows L2
def CPowW (i j : Int) : Prop := 0 ≤ j ∧ (Builtin.Int.intBits i : Int) * j ≤ 2 ^ 27
section
variable {X : Cx} {σ : L2.St} {H : Hp} {Q : VK}
theorem op_powW : OpR X (binaryOp .Pow) (rI CPowW fun i j => .int (i ^ j.toNat)) := opI fun _ _ _ _ _ _ _ hc q => pow_int hc.1 hc.2 q
theorem bits_le {i : Int} (k : Nat) (h0 : 0 ≤ i) (h : i < 2 ^ k) : Builtin.Int.intBits i ≤ k := by
  unfold Builtin.Int.intBits
  by_cases z : i = 0
  · subst z; exact Nat.zero_le _
  · rw [if_neg (by simpa using z)]
    have z' : i.natAbs ≠ 0 := by omega
    have : i.natAbs.log2 < k := (Nat.log2_lt z').mpr (by
      have : ((i.natAbs : Nat) : Int) < ((2 ^ k : Nat) : Int) := by rw [Int.natAbs_of_nonneg h0]; simpa using h
      exact Int.ofNat_lt.mp this)
    omega
theorem powW {i : Int} (k : Nat) {j : Int} (h0 : 0 ≤ i) (h : i < 2 ^ k) (hj : 0 ≤ j) (hk : (k : Int) * j ≤ 2 ^ 27) : CPowW i j := by
  refine ⟨hj, Int.le_trans (Int.mul_le_mul_of_nonneg_right ?_ hj) hk⟩
  exact Int.ofNat_le.mpr (bits_le k h0 h)
theorem flat_one {v : V} : ∀ n : Nat, (List.replicate n [v]).flatten = List.replicate n v
  | 0 => rfl
  | n + 1 => by rw [List.replicate_succ, List.flatten_cons, flat_one n]; rfl
theorem rep1 {p : Addr} {v : V} {k : Int} (h : H p = some (.lst [v])) (hk : k ≤ 1000000) (h0 : 0 ≤ k) (q : ∀ p, H p = none → Q (.ref p) (upd H p (.lst (List.replicate k.toNat v)))) : rRep (.ref p) (.int k) H Q := by
  refine ⟨p, k, _, rfl, rfl, h, by omega, by omega, ?_, fun p hp => ?_⟩
  · rw [List.length_singleton, sizeLine_eq]; omega
  · rw [flat_one]; exact q p hp
end
end HS
/-! Texts: joined, shown ints, ==. -/
namespace HS
open PySem PySem.Spec PyProof.Rows L2
section
variable {σ : L2.St} {H : Hp} {Q : VK} {te to : TE} {K : PySem.W.Frag}
theorem js {t : TE} {ts : List TE} {acc : Str} {q : Str → Hp → Prop} (h : t σ H fun x H1 => ∃ y : Str, x = .str y ∧ (acc ++ y).length ≤ sizeLine ∧ tJs ts (acc ++ y) σ H1 q) : tJs (t :: ts) acc σ H q := h
theorem jsn {acc : Str} {q : Str → Hp → Prop} (h : q acc H) : tJs [] acc σ H q := h
theorem fmt (h : te σ H fun x H1 => (∃ y : Str, x = .str y ∧ y.length ≤ sizeLine ∧ Q (.str y) H1) ∨ ∃ i : Int, x = .int i ∧ i.natAbs.log2 < 1920 ∧ Q (.str (toString i)) H1) : tFmt te σ H Q := h
theorem fmtI {i : Int} (h : i.natAbs.log2 < 1920 ∧ Q (.str (toString i)) H) : (∃ y : Str, V.int i = .str y ∧ y.length ≤ sizeLine ∧ Q (.str y) H) ∨ ∃ j : Int, V.int i = .int j ∧ j.natAbs.log2 < 1920 ∧ Q (.str (toString j)) H := .inr ⟨i, rfl, h⟩
theorem m1S {r : V → List V → Hp → VK → Prop} (h : to σ H fun x H1 => (∃ a, x = .str a) ∧ te σ H1 fun y H2 => r x [y] H2 Q) : tM1 r to te σ H Q := h
theorem m0S {r : V → List V → Hp → VK → Prop} (h : to σ H fun x H1 => (∃ a, x = .str a) ∧ r x [] H1 Q) : tM0 r to σ H Q := h
theorem strE {x : Str} {A : Prop} (h : A) : (∃ a, V.str x = .str a) ∧ A := ⟨⟨x, rfl⟩, h⟩
theorem atN {α : Type} {xs : List α} {i : Int} {v : α} (j : Nat) (e : i = j) (h : xs[j]? = some v) : atI xs i = some v := by
  subst e
  have hj := (List.getElem?_eq_some_iff.mp h).1
  unfold atI ixN
  rw [if_pos (by omega), if_pos (by omega)]
  exact h
theorem lg {z : Int} (h : z.natAbs < 2 ^ 200) : z.natAbs.log2 < 1920 := by
  by_cases e : z.natAbs = 0
  · rw [e]; decide
  · exact Nat.lt_of_lt_of_le ((Nat.log2_lt e).mpr h) (by decide)
theorem eqStr {x y : Str} (q : Q (.bl (decide (x = y))) H) : rEq (.str x) (.str y) H Q := ⟨rfl, by
  have e : decide ((V.str x) = V.str y) = decide (x = y) := by
    by_cases h : x = y
    · rw [h]; simp
    · have h2 : ¬ (V.str x = V.str y) := fun z => h (V.str.inj z)
      rw [decide_eq_false h, decide_eq_false h2]
  rw [e]; exact q⟩
theorem neStr {x y : Str} (q : Q (.bl (!decide (x = y))) H) : rNe (.str x) (.str y) H Q := ⟨rfl, by
  have e : decide ((V.str x) = V.str y) = decide (x = y) := by
    by_cases h : x = y
    · rw [h]; simp
    · have h2 : ¬ (V.str x = V.str y) := fun z => h (V.str.inj z)
      rw [decide_eq_false h, decide_eq_false h2]
  rw [e]; exact q⟩
theorem addS {x y : Str} (q : x.length + y.length ≤ sizeLine ∧ Q (.str (x ++ y)) H) : ∃ i j : Str, V.str x = V.str i ∧ V.str y = .str j ∧ i.length + j.length ≤ sizeLine ∧ Q (.str (i ++ j)) H := ⟨x, y, rfl, rfl, q⟩
end
theorem cutS_to (z : Str) (n : Nat) : (cutS z none (some (n : Int))).cps.toList = z.cps.toList.take n := by
  unfold cutS
  rw [HT.sIx_none, HT.sIx_nat, List.drop_zero, Nat.sub_zero]
  show List.take (min n z.length) z.cps.toList = _
  rw [List.take_eq_take_iff]
  have : z.length = z.cps.toList.length := by rw [Array.length_toList]; rfl
  omega
theorem cutS_from (z : Str) (n : Nat) : (cutS z (some (n : Int)) none).cps.toList = z.cps.toList.drop n := by
  have hl : z.length = z.cps.toList.length := by rw [Array.length_toList]; rfl
  unfold cutS
  rw [HT.sIx_none, HT.sIx_nat]
  show List.take (z.length - min n z.length) (List.drop (min n z.length) z.cps.toList) = _
  rw [List.take_of_length_le (by rw [List.length_drop]; omega)]
  by_cases h : n ≤ z.length
  · rw [Nat.min_eq_left h]
  · rw [Nat.min_eq_right (by omega), List.drop_eq_nil_of_le (by omega), List.drop_eq_nil_of_le (by omega)]
end HS
/-! Lists of new triples of ints. -/
namespace HS
open PySem PySem.Spec PyProof.Rows L2
/-- the refs of vs are tuples of these triples -/
def Tri (H : Hp) : List V → List (Int × Int × Int) → Prop
  | [], [] => True
  | v :: vs, p :: ps => (∃ t, v = .ref t ∧ H t = some (.tup [.int p.1, .int p.2.1, .int p.2.2])) ∧ Tri H vs ps
  | _, _ => False
theorem Tri.keep {S : Addr → Prop} {H H' : Hp} (k : Keep S H H') : ∀ {vs : List V} {ps : List (Int × Int × Int)}, Tri H vs ps → (∀ v ∈ vs, ∀ t, v = .ref t → ¬ S t) → Tri H' vs ps
  | [], [], h, _ => h
  | _ :: _, _ :: _, ⟨⟨t, e, o⟩, h⟩, n => ⟨⟨t, e, k t _ o (n _ List.mem_cons_self t e)⟩, h.keep k fun v hv => n v (List.mem_cons_of_mem _ hv)⟩
theorem Tri.same {H H' : Hp} {vs : List V} {ps : List (Int × Int × Int)} (h : Tri H vs ps) (k : Keep (fun _ => False) H H') : Tri H' vs ps := h.keep k fun _ _ _ _ z => z
theorem Tri.app {H : Hp} : ∀ {vs ws : List V} {ps qs : List (Int × Int × Int)}, Tri H vs ps → Tri H ws qs → Tri H (vs ++ ws) (ps ++ qs)
  | [], _, [], _, _, g => g
  | _ :: _, _, _ :: _, _, ⟨a, h⟩, g => ⟨a, h.app g⟩
theorem Tri.len {H : Hp} : ∀ {vs : List V} {ps : List (Int × Int × Int)}, Tri H vs ps → vs.length = ps.length
  | [], [], _ => rfl
  | _ :: _, _ :: _, ⟨_, h⟩ => by rw [List.length_cons, List.length_cons, h.len]
theorem Tri.at {H : Hp} : ∀ {vs : List V} {ps : List (Int × Int × Int)}, Tri H vs ps → ∀ {i : Nat} {v : V}, vs[i]? = some v → ∃ t p, v = .ref t ∧ ps[i]? = some p ∧ H t = some (.tup [.int p.1, .int p.2.1, .int p.2.2])
  | [], [], _, i, v, hv => by simp at hv
  | _ :: _, p :: _, ⟨⟨t, e, o⟩, _⟩, 0, v, hv => by
    cases hv
    exact ⟨t, p, e, rfl, o⟩
  | _ :: _, _ :: _, ⟨_, h⟩, i + 1, v, hv => h.at (i := i) hv
theorem Tri.split {H : Hp} : ∀ {vs : List V} {ps : List (Int × Int × Int)} {p : Int × Int × Int}, Tri H vs (ps ++ [p]) → ∃ us t, vs = us ++ [.ref t] ∧ Tri H us ps ∧ H t = some (.tup [.int p.1, .int p.2.1, .int p.2.2])
  | [], ps, p, h => by cases ps <;> exact h.elim
  | v :: vs, [], p, ⟨⟨t, e, o⟩, h⟩ => by
    cases vs with
    | nil => exact ⟨[], t, by rw [e]; rfl, trivial, o⟩
    | cons _ _ => exact h.elim
  | v :: vs, q :: ps, p, ⟨a, h⟩ => by
    obtain ⟨us, t, e, g, o⟩ := h.split
    exact ⟨v :: us, t, by rw [e]; rfl, ⟨a, g⟩, o⟩
theorem Tri.lst {H : Hp} {L : Addr} {ws : List V} (hL : H L = some (.lst ws)) : ∀ {vs : List V} {ps : List (Int × Int × Int)}, Tri H vs ps → ∀ v ∈ vs, ∀ t, v = .ref t → t ≠ L
  | [], [], _, v, hv => by cases hv
  | w :: vs, p :: ps, ⟨⟨t, e, o⟩, h⟩, v, hv => fun u eu z => by
    rcases List.mem_cons.mp hv with hv | hv
    · subst hv
      rw [e] at eu
      cases eu
      rw [z, hL] at o
      cases o
    · exact h.lst hL v hv u eu z
theorem Tri.put {H : Hp} {L : Addr} {ws : List V} {o : HO} (hL : H L = some (.lst ws)) {vs : List V} {ps : List (Int × Int × Int)} (h : Tri H vs ps) : Tri (upd H L o) vs ps :=
  h.keep (S := fun a => a = L) (HS.Keep.at HS.Keep.refl rfl) (Tri.lst hL h)
theorem atLst {xs ys : List V} {v : V} (h : xs = ys ++ [v]) : atI xs (-1) = some v := by
  subst h
  unfold atI ixN
  rw [if_neg (by decide), if_pos (by rw [List.length_append, List.length_singleton]; omega)]
  show (ys ++ [v])[((-1 : Int) + (ys ++ [v]).length).toNat]? = some v
  rw [List.length_append, List.length_singleton, show ((-1 : Int) + ((ys.length + 1 : Nat) : Int)).toNat = ys.length by omega, List.getElem?_append_right (Nat.le_refl _), Nat.sub_self]
  rfl
theorem setLst {p : Addr} {ys : List V} {v w : V} {H : Hp} {q : Hp → Prop} (h : H p = some (.lst (ys ++ [v]))) (g : q (upd H p (.lst (ys ++ [w])))) : rSetL (.ref p) (.int (-1)) w H q := by
  refine HS.setL h (j := ys.length) ?_ ?_
  · unfold ixN
    rw [if_neg (by decide), if_pos (by rw [List.length_append, List.length_singleton]; omega)]
    congr 1
    rw [List.length_append, List.length_singleton]
    omega
  · rw [List.set_append_right _ _ (Nat.le_refl _), Nat.sub_self]
    exact g
end HS
/-! What _law_same looks at: pairs, triples. -/
namespace HS
open PySem PySem.Spec PyProof.Rows L2
section
variable {K : PySem.W.Frag} {H : Hp} {n : Nat} {a b : Addr}
theorem smI {i j : Int} (h : i = j) : SmV K H n (.int i) (.int j) := by rw [h]; exact .int j
theorem smT3 {x y z x' y' z' : Int} (h1 : H a = some (.tup [.int x, .int y, .int z])) (h2 : H b = some (.tup [.int x', .int y', .int z'])) (e1 : x = x') (e2 : y = y') (e3 : z = z') : SmV K H (n + 1) (.ref a) (.ref b) := by
  subst e1 e2 e3
  refine .tup h1 h2 rfl (show 3 ≤ 1000 by decide) fun i u v g1 g2 => ?_
  rw [g1] at g2
  cases g2
  match i, g1 with
  | 0, g1 => cases g1; exact .int _
  | 1, g1 => cases g1; exact .int _
  | 2, g1 => cases g1; exact .int _
  | _ + 3, g1 => cases g1
theorem sm2 {x y x' y' : V} (h1 : H a = some (.lst [x, y])) (h2 : H b = some (.lst [x', y'])) (s1 : SmV K H n x x') (s2 : SmV K H n y y') : SmV K H (n + 1) (.ref a) (.ref b) := by
  refine .lst h1 h2 rfl (show 2 ≤ 1000 by decide) fun i u v g1 g2 => ?_
  match i, g1, g2 with
  | 0, g1, g2 => cases g1; cases g2; exact s1
  | 1, g1, g2 => cases g1; cases g2; exact s2
  | _ + 2, g1, g2 => cases g1
theorem smL {xs : List Int} (h1 : H a = some (.lst (xs.map V.int))) (h2 : H b = some (.lst (xs.map V.int))) (hl : xs.length ≤ 1000) : SmV K H (n + 1) (.ref a) (.ref b) := by
  refine .lst h1 h2 rfl (by rw [List.length_map]; exact hl) fun i u v g1 g2 => ?_
  rw [g1] at g2
  cases g2
  rw [List.getElem?_map] at g1
  cases e : xs[i]? with
  | none => rw [e] at g1; cases g1
  | some z => rw [e] at g1; cases g1; exact .int _
/-- == of two tuples of ints -/
theorem sh_tints (ns : List Int) : SeqAt.shaped (.tuple (ns.map .int)) = true := by
  unfold SeqAt.shaped
  rw [PyData.canLay0, PyData.depth, lay_ints, dep_ints]; rfl
theorem eqT {xs ys : List Int} {Q : VK} (h1 : SqT K H a (xs.map V.int)) (h2 : SqT K H b (ys.map V.int)) (q : Q (.bl (decide (xs = ys))) H) : rEqD K (.ref a) (.ref b) H Q :=
  ⟨.tuple (xs.map .int), .tuple (ys.map .int), .tup h1 (dpAll_ints xs), .tup h2 (dpAll_ints ys), sh_tints _, sh_tints _, by rw [PyData.eqv, eqvAll_ints]; exact q⟩
end
end HS
/-! What stands in a heap, told as one list: addresses that differ, each with what is known of its object. -/
namespace HS
open PySem PySem.Spec PyProof.Rows L2
abbrev WdL := List (Addr × (HO → Prop))
/-- H0: the heap at the entry; S: what may have changed there; l: what is known now -/
structure Wd (H0 H : Hp) (S : Addr → Prop) (l : WdL) : Prop where
  nd : (l.map (·.1)).Nodup
  at_ : ∀ x ∈ l, ∃ o, H x.1 = some o ∧ x.2 o
  kp : Keep S H0 H
  fr : ∀ x ∈ l, S x.1 ∨ H0 x.1 = none
section
variable {H0 H H' : Hp} {S : Addr → Prop} {l l' : WdL} {p q : Addr} {o : HO} {P P' : HO → Prop} {i j : Nat}
theorem Wd.nil : Wd H H S [] := ⟨.nil, fun _ h => absurd h List.not_mem_nil, .refl, fun _ h => absurd h List.not_mem_nil⟩
theorem nd_snoc {l : WdL} {P : HO → Prop} (nd : (l.map (·.1)).Nodup) (n : ∀ x ∈ l, x.1 ≠ p) : ((l ++ [(p, P)]).map (·.1)).Nodup := by
  rw [List.map_append, List.nodup_append]
  refine ⟨nd, List.nodup_cons.mpr ⟨List.not_mem_nil, .nil⟩, fun a ha b hb e => ?_⟩
  obtain ⟨x, hx, rfl⟩ := List.mem_map.mp ha
  have hb' : b = p := List.mem_singleton.mp hb
  exact n x hx (e.trans hb')
theorem mem_snoc {l : WdL} {x y : Addr × (HO → Prop)} (h : x ∈ l ++ [y]) : x ∈ l ∨ x = y := by
  rcases List.mem_append.mp h with h | h
  · exact .inl h
  · exact .inr (List.mem_singleton.mp h)
/-- what stood at the entry and may change -/
theorem Wd.old (W : Wd H0 H S l) (h : H p = some o) (hp : P o) (s : S p) (n : ∀ x ∈ l, x.1 ≠ p) : Wd H0 H S (l ++ [(p, P)]) := by
  refine ⟨nd_snoc W.nd n, fun x hx => ?_, W.kp, fun x hx => ?_⟩
  · rcases mem_snoc hx with hx | e
    · exact W.at_ x hx
    · subst e; exact ⟨o, h, hp⟩
  · rcases mem_snoc hx with hx | e
    · exact W.fr x hx
    · subst e; exact .inl s
theorem Wd.one (h : H p = some o) (hp : P o) (s : S p) : Wd H H S [(p, P)] := Wd.nil.old h hp s fun _ h => absurd h List.not_mem_nil
theorem Wd.get (W : Wd H0 H S l) (i : Nat) (e : l[i]? = some (p, P)) : ∃ o, H p = some o ∧ P o := W.at_ _ (List.mem_of_getElem? e)
theorem Wd.at (W : Wd H0 H S l) (i : Nat) (e : l[i]? = some (p, Eq o)) : H p = some o := by
  obtain ⟨o', h, e'⟩ := W.get i e
  cases e'; exact h
theorem Wd.sq {K : PySem.W.Frag} {xs : List V} (W : Wd H0 H S l) (i : Nat) (e : l[i]? = some (p, Eq (.lst xs))) : SqL K H p xs := HS.sq (W.at i e)
theorem Wd.same (W : Wd H0 H S l) (k : Keep (fun _ => False) H H') : Wd H0 H' S l :=
  ⟨W.nd, fun x hx => let ⟨o, h, z⟩ := W.at_ x hx; ⟨o, k _ _ h id, z⟩, W.kp.trans k.any, W.fr⟩
theorem Wd.miss (W : Wd H0 H S l) (h : H p = none) : ∀ x ∈ l, x.1 ≠ p := fun x hx e => by
  obtain ⟨o', h', _⟩ := W.at_ x hx
  rw [e, h] at h'; cases h'
/-- an object that some call has made: it was not there before the call -/
theorem Wd.made (W : Wd H0 H S l) {H1 : Hp} (k : Keep (fun _ => False) H H1) (h0 : H p = none) (h : H1 p = some o) (z : P o) : Wd H0 H1 S (l ++ [(p, P)]) := by
  have W1 := W.same k
  refine ⟨nd_snoc W.nd (W.miss h0), fun x hx => ?_, W1.kp, fun x hx => ?_⟩
  · rcases mem_snoc hx with hx | e
    · exact W1.at_ x hx
    · subst e; exact ⟨o, h, z⟩
  · rcases mem_snoc hx with hx | e
    · exact W.fr x hx
    · subst e
      by_cases s : S p
      · exact .inl s
      · exact .inr (W.kp.free h0 s)
theorem Wd.new (W : Wd H0 H S l) (h : H p = none) (z : P o) : Wd H0 (upd H p o) S (l ++ [(p, P)]) := W.made (Keep.new h) h upd_same z
/-- the same, the new heap by its name -/
theorem Wd.newG (W : Wd H0 H S l) (e : upd H p o = H') (h : H p = none) : Wd H0 H' S (l ++ [(p, Eq o)]) := e ▸ W.new h rfl
theorem nd_ne {l : WdL} (nd : (l.map (·.1)).Nodup) (e1 : l[i]? = some (p, P)) (e2 : l[j]? = some (q, P')) (h : i ≠ j) : p ≠ q := fun z => by
  have f1 : (l.map (·.1))[i]? = some p := by rw [List.getElem?_map, e1]; rfl
  have f2 : (l.map (·.1))[j]? = some q := by rw [List.getElem?_map, e2]; rfl
  have hl : i < (l.map (·.1)).length := (List.getElem?_eq_some_iff.mp f1).1
  exact h ((List.getElem?_inj hl nd).mp (by rw [f1, f2, z]))
theorem Wd.ne (W : Wd H0 H S l) (i j : Nat) (e1 : l[i]? = some (p, P)) (e2 : l[j]? = some (q, P')) (h : i ≠ j := by decide) : p ≠ q := nd_ne W.nd e1 e2 h
theorem Wd.no (W : Wd H0 H S l) (i : Nat) (e : l[i]? = some (p, P)) (h : H q = none) : q ≠ p := fun z => by
  obtain ⟨o, h', _⟩ := W.get i e
  rw [z, h'] at h; cases h
/-- the i-th object changes, all else stands -/
theorem Wd.chg (W : Wd H0 H S l) (i : Nat) (e : l[i]? = some (p, P)) (k : Keep (fun a => a = p) H H') (h : H' p = some o) (z : P' o) : Wd H0 H' S (l.set i (p, P')) := by
  have hi : i < l.length := (List.getElem?_eq_some_iff.mp e).1
  have em : (l.set i (p, P')).map (·.1) = l.map (·.1) := by
    apply List.ext_getElem?
    intro j
    rw [List.getElem?_map, List.getElem?_map, List.getElem?_set]
    by_cases hj : i = j
    · subst hj; rw [if_pos rfl, if_pos hi, e]; rfl
    · rw [if_neg hj]
  have hm : ∀ x ∈ l.set i (p, P'), x = (p, P') ∨ (x ∈ l ∧ x.1 ≠ p) := fun x hx => by
    obtain ⟨j, hj⟩ := List.getElem?_of_mem hx
    rw [List.getElem?_set] at hj
    by_cases hij : i = j
    · rw [if_pos hij, if_pos hi] at hj
      exact .inl (Option.some.inj hj).symm
    · rw [if_neg hij] at hj
      exact .inr ⟨List.mem_of_getElem? hj, fun y => nd_ne W.nd e (show l[j]? = some (x.1, x.2) from hj) hij y.symm⟩
  have sp := W.fr _ (List.mem_of_getElem? e)
  refine ⟨by rw [em]; exact W.nd, fun x hx => ?_, fun a u ha n => ?_, fun x hx => ?_⟩
  · rcases hm x hx with rfl | ⟨hx, n⟩
    · exact ⟨o, h, z⟩
    · obtain ⟨u, hu, y⟩ := W.at_ x hx
      exact ⟨u, k _ _ hu n, y⟩
  · refine k _ _ (W.kp _ _ ha n) fun y => ?_
    subst y
    rcases sp with sp | sp
    · exact n sp
    · rw [sp] at ha; cases ha
  · rcases hm x hx with rfl | ⟨hx, n⟩
    · exact sp
    · exact W.fr x hx
theorem Wd.chgE (W : Wd H0 H S l) (i : Nat) (e : l[i]? = some (p, P)) (k : Keep (fun a => a = p) H H') (h : H' p = some o) : Wd H0 H' S (l.set i (p, Eq o)) := W.chg i e k h rfl
theorem Wd.put (W : Wd H0 H S l) (i : Nat) (e : l[i]? = some (p, P)) (z : P' o) : Wd H0 (upd H p o) S (l.set i (p, P')) := W.chg i e (Keep.refl.at rfl) upd_same z
theorem Wd.putG (W : Wd H0 H S l) (i : Nat) (e : l[i]? = some (p, P)) (g : upd H p o = H') : Wd H0 H' S (l.set i (p, Eq o)) := g ▸ W.put i e rfl
/-- only some of it is told further -/
theorem Wd.sub (W : Wd H0 H S l) (h : l'.Sublist l) : Wd H0 H S l' := ⟨W.nd.sublist (h.map _), fun x hx => W.at_ x (h.subset hx), W.kp, fun x hx => W.fr x (h.subset hx)⟩
theorem Wd.take (W : Wd H0 H S l) (n : Nat) : Wd H0 H S (l.take n) := W.sub (List.take_sublist n l)
theorem Wd.weak (W : Wd H0 H S l) (i : Nat) (e : l[i]? = some (p, P)) (z : ∀ o, P o → P' o) : Wd H0 H S (l.set i (p, P')) := by
  obtain ⟨o, h, y⟩ := W.get i e
  exact W.chg i e .refl h (z o y)
/-- an object that a call has made which changed told objects besides: W before it, W' behind it -/
theorem Wd.madeT {H1 : Hp} (W : Wd H0 H S l) (W' : Wd H0 H1 S l') (e : l'.map (·.1) = l.map (·.1)) (h0 : H p = none) (h : H1 p = some o) (z : P o) : Wd H0 H1 S (l' ++ [(p, P)]) := by
  have n : ∀ x ∈ l', x.1 ≠ p := fun x hx y => by
    have hm : p ∈ l.map (·.1) := by rw [← e, ← y]; exact List.mem_map_of_mem hx
    obtain ⟨u, hu, eu⟩ := List.mem_map.mp hm
    exact W.miss h0 u hu eu
  refine ⟨nd_snoc W'.nd n, fun x hx => ?_, W'.kp, fun x hx => ?_⟩
  · rcases mem_snoc hx with hx | e
    · exact W'.at_ x hx
    · subst e; exact ⟨o, h, z⟩
  · rcases mem_snoc hx with hx | e
    · exact W'.fr x hx
    · subst e
      by_cases s : S p
      · exact .inl s
      · exact .inr (W.kp.free h0 s)
theorem Wd.keep (W : Wd H0 H S l) : Keep S H0 H := W.kp
/-- a change of several told objects and of nothing else -/
theorem Wd.chgs {T : Addr → Prop} (W : Wd H0 H S l) (k : Keep T H H') (hT : ∀ a, T a → S a ∨ H0 a = none) (f : ∀ x ∈ l, ¬ T x.1 ∨ ∃ o, H' x.1 = some o ∧ x.2 o) : Wd H0 H' S l := by
  refine ⟨W.nd, fun x hx => ?_, fun a u ha n => k _ _ (W.kp _ _ ha n) fun y => ?_, W.fr⟩
  · rcases f x hx with n | y
    · obtain ⟨u, hu, y⟩ := W.at_ x hx
      exact ⟨u, k _ _ hu n, y⟩
    · exact y
  · rcases hT a y with z | z
    · exact n z
    · rw [z] at ha; cases ha
theorem Wd.chgO (W : Wd H0 H S l) (k : Keep (fun a => a = p) H H') (hp : ∀ x ∈ l, x.1 ≠ p) (s : S p ∨ H0 p = none) : Wd H0 H' S l :=
  W.chgs k (fun a e => by cases (show a = p from e); exact s) fun x hx => .inl (hp x hx)
end
end HS
namespace HS
open PySem PySem.Spec PyProof.Rows L2
theorem Prs.at {H : Hp} : ∀ {vs : List V} {ps : List (Int × Int)}, Prs H vs ps → ∀ {i : Nat} {v : V}, vs[i]? = some v → ∃ t p, v = .ref t ∧ ps[i]? = some p ∧ H t = some (.tup [.int p.1, .int p.2])
  | [], [], _, i, v, hv => by simp at hv
  | _ :: _, p :: _, ⟨⟨t, e, o⟩, _⟩, 0, v, hv => by
    cases hv
    exact ⟨t, p, e, rfl, o⟩
  | _ :: _, _ :: _, ⟨_, h⟩, i + 1, v, hv => Prs.at h (i := i) hv
theorem Prs.setAt {H : Hp} {q : Addr} {p : Int × Int} (hq : H q = some (.tup [.int p.1, .int p.2])) : ∀ {vs : List V} {ps : List (Int × Int)} {i : Nat}, Prs H vs ps → Prs H (vs.set i (.ref q)) (ps.set i p)
  | [], [], _, _ => trivial
  | _ :: _, _ :: _, 0, ⟨_, h⟩ => ⟨⟨q, rfl, hq⟩, h⟩
  | _ :: _, _ :: _, i + 1, ⟨a, h⟩ => ⟨a, Prs.setAt hq (i := i) h⟩
theorem neP {K : PySem.W.Frag} {H : Hp} {a b : Addr} {vs ws : List V} {xs ys : List (Int × Int)} {Q : VK} (h1 : SqL K H a vs) (g1 : Prs H vs xs) (h2 : SqL K H b ws) (g2 : Prs H ws ys) (q : Q (.bl (!decide (xs = ys))) H) : rNeD K (.ref a) (.ref b) H Q := by
  refine ⟨dPrs xs, dPrs ys, .lst h1 (dpAll_prs g1), .lst h2 (dpAll_prs g2), sh_prs _, sh_prs _, ?_⟩
  rw [show PyData.eqv (dPrs xs) (dPrs ys) = decide (xs = ys) by unfold dPrs; rw [PyData.eqv]; exact eqvAll_prs xs ys]
  exact q
section
variable {σ : L2.St} {H : Hp} {n bk ct : L2.St → Hp → Prop} {rt : VK}
theorem par3 {i j l : Nat} {tl : TA} (h : tl σ H fun vs H1 => ∃ u v w, vs = [u, v, w] ∧ n (((σ.set i (some u)).set j (some v)).set l (some w)) H1) : tPar3 i j l tl ⟨n, rt, bk, ct⟩ σ H := h
theorem ex3 {u v w : V} {q : V → V → V → Prop} (h : q u v w) : ∃ a b c, [u, v, w] = [a, b, c] ∧ q a b c := ⟨u, v, w, rfl, h⟩
end
end HS
/-! In a suite of a base class: isinstance of the exception, also by a tuple of classes, and its value. -/
namespace HS
open PySem PySem.Spec PyProof.Rows L2
theorem exc_here {X : Cx} {a D d : Addr} {oe : Obj} {pn pins : List (Addr × Obj)} {σ : L2.St} {H : Hp} {s : Shared} {fs : List (Str × V)} (I : Inv (X.suite a ((a, oe) :: pn)) pins σ H s) (hz : Zc (.ref D) (some d) oe) (hf : ∃ vs, oe.data = .fields vs) (hd : H d = some (.xd fs)) :
    ∃ (od : Obj) (mA : Str → Option Value), PySem.W.InstAt s.heap a oe D (some od) ∧ (∀ f, RelO (fs.lookup f) (mA f)) ∧ ∀ f, PySem.W.lookIn f od = some (mA f) := by
  obtain ⟨hget, _⟩ := I.pin (a, oe) (List.mem_append.mpr (.inl List.mem_cons_self))
  obtain ⟨vs, hv⟩ := hf
  have x2 : ObjOk X.prog X.w H s.heap d (.xd fs) := I.hok d _ hd
  obtain ⟨mA, hns, hr⟩ := x2
  obtain ⟨od, hod, hl⟩ := lookIn_ns hns
  exact ⟨od, mA, ⟨hget, hz.1, by unfold PySem.W.notCls; rw [hv] <;> rfl, by rw [hz.2]; exact hod⟩, hr, hl⟩
/-- what is asked of isinstance: a class, or a tuple of own classes -/
def AskB (K : PySem.W.Frag) (H : Hp) (D : Addr) (c : V) (b : Bool) : Prop := (∃ cv, ClsV c cv ∧ PySem.W.kitOne K (.ref D) cv = some b) ∨ ∃ (t : Addr) (cs : List Addr), c = .ref t ∧ SqT K H t (cs.map V.ref) ∧ PySem.W.kitAny K (.ref D) (cs.map Value.ref) = some b
def rIsP (K : PySem.W.Frag) (a : Addr) (cls : Value) (dx : Option Addr) : List V → Hp → VK → Prop := fun xs H Q => ∃ (D d : Addr) (fs : List (Str × V)) (c : V) (b : Bool), xs = [.ref a, c] ∧ cls = .ref D ∧ dx = some d ∧ H d = some (.xd fs) ∧ ExcC K D ∧ AskB K H D c b ∧ Q (.bl b) H
theorem vals_refs : ∀ {cs : List Addr} {its : List Value}, Vals (cs.map V.ref) its → its = cs.map Value.ref
  | [], _, .nil => rfl
  | c :: cs, _, .cons r rr => by cases r; rw [vals_refs rr]; rfl
theorem call_isP {X : Cx} {a : Addr} {oe : Obj} {cls : Value} {dx : Option Addr} {pn : List (Addr × Obj)} (K : PySem.W.Frag) (hz : Zc cls dx oe) (hf : ∃ vs, oe.data = .fields vs) (hK : X.K = K := by rfl) : CallR (X.suite a ((a, oe) :: pn)) (.builtin "isinstance") (rIsP K a cls dx) := by
  subst hK
  intro pins s σ H xs us Q I r hw
  obtain ⟨D, d, fs, c, b, e0, ec, ed, hd, T, ask, q⟩ := hw
  subst e0 ec ed
  match us, r with
  | [_, _], .cons rx (.cons rt .nil) =>
    cases rx
    obtain ⟨od, mA, here, _, _⟩ := exc_here I hz hf hd
    obtain ⟨cd, hcd, _⟩ := PySem.W.any_some T.hd
    rcases ask with ⟨cv, hcv, hb⟩ | ⟨t, cs, e1, ht, hb⟩
    · have e1 := hcv.eq rt
      subst e1
      exact PySem.W.kia_one (PySem.W.kitx_exc (by rw [hcd]; rfl) T.hg T.hk T.hs T.ha T.hn T.ht T.hm) I.kIn here hb (fun z => nomatch z) fun tk => ⟨.bl b, H, I.kept (t' := tk) fun _ _ z => z, rfl, q⟩
    · subst e1
      cases rt
      obtain ⟨its, rv, ⟨⟨oc, od', odt, osl⟩, ho, hc, n, hdt⟩, _⟩ := I.tuple ht
      dsimp only at hc hdt
      subst hc hdt
      rw [← vals_refs rv] at hb
      exact PySem.W.kia_tup (PySem.W.kitx_exc (by rw [hcd]; rfl) T.hg T.hk T.hs T.ha T.hn T.ht T.hm) I.kIn here ho hb (fun z => nomatch z) fun tk => ⟨.bl b, H, I.kept (t' := tk) fun _ _ z => z, rfl, q⟩
def tFldP (K : PySem.W.Frag) (a : Addr) (cls : Value) (dx : Option Addr) (f : Str) (te : TE) : TE := fun σ H Q => te σ H fun x H1 => x = .ref a ∧ ∃ (C d : Addr) (fs : List (Str × V)) (v : V), cls = .ref C ∧ dx = some d ∧ XfC K C ∧ PySem.W.findIn K (.ref C) f = some none ∧ H1 d = some (.xd fs) ∧ fs.lookup f = some v ∧ Q v H1
theorem pe_fldP {X : Cx} {a : Addr} {oe : Obj} {cls : Value} {dx : Option Addr} {pn : List (Addr × Obj)} {e : Expr} {te : TE} {pos : Pos} {f : Str} (K : PySem.W.Frag) (hz : Zc cls dx oe) (hf : ∃ vs, oe.data = .fields vs) (he : PE (X.suite a ((a, oe) :: pn)) e te)
    (hK : X.K = K := by rfl) (hb : attributeBase e f X.env (eval e X.env) = eval e X.env := by rfl) : PE (X.suite a ((a, oe) :: pn)) (.Attribute e f pos) (tFldP K a cls dx f te) := by
  subst hK
  refine ⟨fun pins s σ H Q I hw => attr_of hb (thn (he.run pins s σ H _ I hw) fun u s1 ⟨x, H1, I1, rx, e0, C, d, fs, v, ec, ed, T, hno, hd, l, q⟩ => ?_)⟩
  subst e0 ec ed
  cases rx
  obtain ⟨od, mA, here, hr, hl⟩ := exc_here I1 hz hf hd
  obtain ⟨w, hw, rw'⟩ := RelO.some_of (v := v) (o := mA f) (by rw [← l]; exact hr f)
  exact HandSPX.exc_get I1.kIn here T.ga T.gg T.exC (PySem.W.findObj_own T.hdC hno rfl (by rw [hl, hw])) (handed_of rw') ⟨v, H1, I1.tok _, rw', q⟩
section
variable {K : PySem.W.Frag} {σ : L2.St} {H : Hp} {Q : VK} {a D C d t : Addr} {fs : List (Str × V)} {b : Bool} {te : TE} {f : Str} {v : V}
theorem isP (T : ExcC K D) (hd : H d = some (.xd fs)) (hq : PySem.W.kitOne K (.ref D) (.ref C) = some b) (q : Q (.bl b) H) : rIsP K a (.ref D) (some d) [.ref a, .ref C] H Q := ⟨D, d, fs, _, b, rfl, rfl, rfl, hd, T, .inl ⟨_, .own C, hq⟩, q⟩
theorem isPt {n : String} (T : ExcC K D) (hd : H d = some (.xd fs)) (hq : PySem.W.kitOne K (.ref D) (.type n) = some b) (q : Q (.bl b) H) : rIsP K a (.ref D) (some d) [.ref a, .ty n] H Q := ⟨D, d, fs, _, b, rfl, rfl, rfl, hd, T, .inl ⟨_, .ty n, hq⟩, q⟩
theorem isPs {cs : List Addr} (T : ExcC K D) (hd : H d = some (.xd fs)) (ht : SqT K H t (cs.map V.ref)) (hq : PySem.W.kitAny K (.ref D) (cs.map Value.ref) = some b) (q : Q (.bl b) H) : rIsP K a (.ref D) (some d) [.ref a, .ref t] H Q := ⟨D, d, fs, _, b, rfl, rfl, rfl, hd, T, .inr ⟨t, cs, rfl, ht, hq⟩, q⟩
theorem fldP (h : te σ H fun x H1 => x = .ref a ∧ ∃ (C' d' : Addr) (fs : List (Str × V)) (v : V), Value.ref C = .ref C' ∧ some d = some d' ∧ XfC K C' ∧ PySem.W.findIn K (.ref C') f = some none ∧ H1 d' = some (.xd fs) ∧ fs.lookup f = some v ∧ Q v H1) : tFldP K a (.ref C) (some d) f te σ H Q := h
theorem kany_no {D : Addr} : ∀ {cs : List Addr}, (∀ c ∈ cs, PySem.W.kitOne K (.ref D) (.ref c) = some false) → PySem.W.kitAny K (.ref D) (cs.map Value.ref) = some false
  | [], _ => rfl
  | c :: cs, h => by
    unfold PySem.W.kitAny
    rw [List.map_cons]
    dsimp only
    rw [h c List.mem_cons_self]
    exact kany_no fun x hx => h x (List.mem_cons_of_mem _ hx)
end
end HS
/-! Defs that are called while nothing is being shown (no repr stands on the stack), so that they may call repr of a list. -/
namespace HS
open PySem PySem.Spec PyProof.Rows L2
/-- a def's promise where no repr is under way -/
structure FnG (Pg : Program) (wd : World) (K : PySem.W.Frag) (mg : Str → Option Value) (base : Heap) (C : CXT) (n : Nat) (f : Addr) (fd : FuncData) (ps : List Str) (sp : Sp) : Prop where
  len : ∀ vs H Q E, sp vs H Q E → vs.length = ps.length
  go : ∀ (B : Around) (o : List Env) (s : Shared) (H : Hp) (ar : Args) (us : List Value) (vs : List V) (Q : VK) (E : XK), B.guards = some [] → Room n B → Env0 Pg wd K mg base B o s H →
    BindsTo s fd ar (ps.zip us) → Vals vs us → sp vs H Q E → codeAny (model Pg wd) B (.call (.ref f) ar) (CR C o Pg wd H s Q E) s
section
variable {Pg : Program} {wd : World} {K : PySem.W.Frag} {mg : Str → Option Value} {base : Heap} {C : CXT} {n : Nat} {f : Addr} {fd : FuncData} {ps : List Str} {sp : Sp}
/-- a finished body's end is the call's end -/
theorem g_end {N : List Str} {q : Str} {sc : Scope} {cd : Value} {B : Around} {o : List Env} {s : Shared} {H : Hp} {E : XK} {Q : VK} {x : Cx} (hx : x = cxOf C Pg wd K mg base N q sc f cd B o s H E) (fl : Flow) {s' : Shared} :
    SP x [] { nx := fun _ H' => Q .non H', rt := Q } fl s' → CR C o Pg wd H s Q E (.ok (.ret (match fl with | .ret v => v | _ => .none))) s' := by
  subst hx
  intro h
  cases fl
  case ret u => obtain ⟨v, st, H', J, rv, y⟩ := h; exact ⟨v, H', J.os, J.bare, J.base, J.hok, rv, y⟩
  case next => obtain ⟨st, H', J, y⟩ := h; exact ⟨.non, H', J.os, J.bare, J.base, J.hok, rfl, y⟩
  all_goals exact h.elim fun _ z => z.elim fun _ z => z.2.elim
theorem Fun.okG {x qn : Str} {st : Stmt} {N : List Str} (F : L2.Fun K x qn st f fd) (S : FnScope N ps (defScope st)) (len : ∀ vs H Q E, sp vs H Q E → vs.length = ps.length)
    (hb : ∀ (cd : Value) (B : Around) (o : List Env) (s : Shared) (H : Hp) (vs : List V) (Q : VK) (E : XK), B.guards = some [] → Room n (B.deeper (envOfC qn (defScope st) s.heap.objs.size f cd)) → sp vs H Q E →
      ∃ t, PSs (cxOf L2.CX0 Pg wd K mg base N qn (defScope st) f cd B o s H E).nox (defBody st) t ∧ t { nx := fun _ H' => Q .non H', rt := Q } (start N vs) H) : FnG Pg wd K mg base L2.CX0 (n + 1) f fd ps sp := by
  obtain ⟨_, _, _, _, _, _, cd, _, _, rfl, lk, hcd⟩ := F.ex
  refine ⟨len, fun B o s H ar us vs Q E hg hr e0 bd rv hs => ?_⟩
  have kin : K.In s.heap := e0.mod.kin.keeps fun b u e => (e0.bs b u e).1
  have kinds : ∀ y ∈ ps.zip us, (defScope st).names.lookup y.1 = some .local ∨ ((defScope st).names.lookup y.1 = some .cell ∧ ((cellsFrom (s.heap.objs.size + 1) (defScope st).names []).lookup y.1).isSome = true) := by
    rintro ⟨z, v⟩ hy
    exact (S.par z (List.of_mem_zip hy).1).elim .inl fun c => .inr ⟨c, PySem.W.cellsFrom_some _ _ _ (.inl c)⟩
  refine codeAny_call_function hr.depth (kin _ _ lk) rfl S.co S.gen rfl (PySem.W.codeRec_of kin hcd) (bd _ _ _ _ (wpAny_newFunctionEnv_cells S.kind kinds fun _ he s1 made => ?_))
  subst he
  obtain ⟨t, ht, hq⟩ := hb cd B o s H vs Q E hg (hr.deeper _) hs
  have start0 := inv_start (CX := L2.CX0) (E := E) (qual := qn) (cd := cd) (f := f) S hr.hd e0 (len _ _ _ _ hs) rv made
  exact ⟨(e0.mod.nolimit.keeps fun b u e => (e0.bs b u e).1).keeps made.toInCall.keep, codeAny_func (wpAny_mono (ht.nox.run [] s1 _ H _ start0 hq) (fun fl s' => g_end rfl fl) fun _ _ h => h)⟩
end
/-! ### calls -/
/-- the call of a def, whichever way its arguments come -/
theorem after_call {X : Cx} {C : CXT} {E : XK} {pins : List (Addr × Obj)} {σ : L2.St} {H : Hp} {s : Shared} {Q : VK} {f : Addr} {us : List Value} {kw : List (Str × Value)} (hx : Passes C X E) (I : Inv X pins σ H s)
    (h : codeAny (model X.prog X.w) X.A (.call (.ref f) ⟨us, kw⟩) (CR C X.stack X.prog X.w H s Q E) s) : wpAny (model X.prog X.w) X.A (call (.ref f) us kw) (EP X pins σ Q) X.xe s :=
  wpAny_call (codeAny_mono h fun r s' y => match r, y with
    | .error e, y => hx pins σ H s e s' I y
    | .ok (.ret _), y => I.after y)
/-- how a call with keywords binds, where the numbers of its arguments are written -/
structure KBX (K : PySem.W.Frag) (fd : FuncData) (ps : List Str) (n : Nat) (ks : List Str) (g : List Value → List Value → List Value) (gV : List V → List V → List V) : Prop where
  to : ∀ (s : Shared) (us ws : List Value), us.length = n → ws.length = ks.length → BindsTo s fd ⟨us, ks.zip ws⟩ (ps.zip (g us ws))
  rel : ∀ {vs : List V} {us : List Value} {zs : List V} {ws : List Value}, Vals vs us → Vals zs ws → Vals (gV vs zs) (g us ws)
def tCallN (n m : Nat) (sp : Sp) (gV : List V → List V → List V) (E : XK) (t tk : TA) : TE := fun σ H Q => t σ H fun vs H1 => tk σ H1 fun zs H2 => vs.length = n ∧ zs.length = m ∧ sp (gV vs zs) H2 Q E
theorem relAt : ∀ {vs : List V} {us : List Value} (_ : Vals vs us) (i : Nat), RelV (vs.getD i .non) (us.getD i .none)
  | [], _, r, i => by cases r; exact rfl
  | _ :: _, _, r, 0 => by cases r with | cons a _ => exact a
  | _ :: _, _, r, i + 1 => by cases r with | cons _ b => exact relAt b i
section
variable {X : Cx} {C : CXT} {n m : Nat} {f : Addr} {fd : FuncData} {ps ks : List Str} {sp : Sp} {E : XK} {x : Str} {p q : Pos} {e : Expr} {es : List Expr} {kws : List Keyword} {t tk : TA} {g : List Value → List Value → List Value} {gV : List V → List V → List V}
theorem pe_callG (hG : X.A.guards = some []) (F : FnG X.prog X.w X.K X.mg X.base C n f fd ps sp) (hr : Room n X.A) (gl : Gl X x) (mf : X.mg x = some (.ref f)) (kf : PySem.W.keepIn X.K (.ref f) = true) (bd : Binds X.K fd ps []) (hx : Passes C X E) (ha : PA X (e :: es) t)
    (h1 : (x == ("__debug__" : Str)) = false := by decide) (h2 : starEach (e :: es) X.env = (false, eval e X.env) :: starEach es X.env := by rfl) (h3 : (backTo q (starEach es X.env)).any (·.1) = false := by rfl) :
    PE X (.Call (.Name x p) (e :: es) [] q) (tCall sp [] E t) := by
  constructor
  intro pins s σ H Q I h
  refine wpAny_Call_Name_kw (ld_glob I gl mf (PySem.W.callWith_K (h₀ := X.base) I.ok.mod.kin kf (thn (ha.run q pins s σ H _ I h) fun us s1 ⟨vs, H1, I1, r, y⟩ => ⟨I1.kIn, ?_⟩) h2 h3) h1)
  have y : sp (vs ++ []) H1 Q E := y
  rw [List.append_nil] at y
  have hl : (us ++ []).length = ps.length := by rw [List.append_nil, ← r.length]; exact F.len _ _ _ _ y
  exact after_call hx I1 (F.go X.A X.stack s1 H1 _ (us ++ []) vs Q E hG hr I1.env0 (bd s1 us I1.kIn hl) (by rw [List.append_nil]; exact r) y)
/-- f(e, .., k = v, ..), f(k = v, ..) -/
theorem kw_to (hb : KBX X.K fd ps n ks g gV) {pins : List (Addr × Obj)} {σ : L2.St} {H : Hp} {s : Shared} {Q : VK} {vs zs : List V} {us ws : List Value}
    (run : ∀ (bs : List Value) (bv : List V), BindsTo s fd ⟨us, ks.zip ws⟩ (ps.zip bs) → Vals bv bs → sp bv H Q E → codeAny (model X.prog X.w) X.A (.call (.ref f) ⟨us, ks.zip ws⟩) (CR C X.stack X.prog X.w H s Q E) s)
    (hx : Passes C X E) (I : Inv X pins σ H s) (r : Vals vs us) (rz : Vals zs ws) (l1 : vs.length = n) (l2 : zs.length = ks.length) (y : sp (gV vs zs) H Q E) : wpAny (model X.prog X.w) X.A (call (.ref f) us (ks.zip ws)) (EP X pins σ Q) X.xe s :=
  after_call hx I (run _ _ (hb.to s us ws (by rw [← r.length]; exact l1) (by rw [← rz.length]; exact l2)) (hb.rel r rz) y)
theorem pe_kwG (hG : X.A.guards = some []) (F : FnG X.prog X.w X.K X.mg X.base C m f fd ps sp) (hr : Room m X.A) (gl : Gl X x) (mf : X.mg x = some (.ref f)) (kf : PySem.W.keepIn X.K (.ref f) = true) (hb : KBX X.K fd ps n ks g gV) (hx : Passes C X E) (ha : PA X (e :: es) t) (hk : PK X kws tk)
    (h0 : (backToKw q (keywordEach kws X.env)).all (·.1.isSome) = true := by rfl) (hks : (backToKw q (keywordEach kws X.env)).filterMap (·.1) = ks := by rfl) (h1 : (x == ("__debug__" : Str)) = false := by decide) (h2 : starEach (e :: es) X.env = (false, eval e X.env) :: starEach es X.env := by rfl)
    (h3 : ((backTo q (starEach (e :: es) X.env)).any (·.1) || (backToKw q (keywordEach kws X.env)).any (·.1.isNone)) = false := by rfl) : PE X (.Call (.Name x p) (e :: es) kws q) (tCallN n ks.length sp gV E t tk) := by
  constructor
  intro pins s σ H Q I h
  refine wpAny_Call_Name_kw (ld_glob I gl mf (PySem.W.callWith_KW (h₀ := X.base) I.ok.mod.kin kf h0 (thn (ha.run q pins s σ H _ I h) fun us s1 ⟨vs, H1, I1, r, y⟩ => thn (hk.run q pins s1 σ H1 _ I1 y) fun ws s2 ⟨zs, H2, I2, rz, l1, l2, y2⟩ => ⟨I2.kIn, ?_⟩) h3 h2) h1)
  rw [hks]
  exact kw_to hb (fun bs bv b1 b2 b3 => F.go X.A X.stack s2 H2 _ bs bv Q E hG hr I2.env0 b1 b2 b3) hx I2 r rz l1 l2 y2
theorem pe_kwG0 (hG : X.A.guards = some []) (F : FnG X.prog X.w X.K X.mg X.base C m f fd ps sp) (hr : Room m X.A) (gl : Gl X x) (mf : X.mg x = some (.ref f)) (kf : PySem.W.keepIn X.K (.ref f) = true) (hb : KBX X.K fd ps 0 ks g gV) (hx : Passes C X E) (hk : PK X kws tk)
    (h0 : (backToKw q (keywordEach kws X.env)).all (·.1.isSome) = true := by rfl) (hks : (backToKw q (keywordEach kws X.env)).filterMap (·.1) = ks := by rfl) (h1 : (x == ("__debug__" : Str)) = false := by decide)
    (h3 : ((backTo q (starEach [] X.env)).any (·.1) || (backToKw q (keywordEach kws X.env)).any (·.1.isNone)) = false := by rfl) : PE X (.Call (.Name x p) [] kws q) (tCallN 0 ks.length sp gV E tNil tk) := by
  constructor
  intro pins s σ H Q I h
  refine wpAny_Call_Name_kw (ld_glob I gl mf (PySem.W.callWith_KW0 (h₀ := X.base) I.ok.mod.kin kf h0 (thn (hk.run q pins s σ H _ I h) fun ws s2 ⟨zs, H2, I2, rz, l1, l2, y2⟩ => ⟨I2.kIn, ?_⟩) h3) h1)
  rw [hks]
  exact kw_to hb (fun bs bv b1 b2 b3 => F.go X.A X.stack s2 H2 _ bs bv Q E hG hr I2.env0 b1 b2 b3) hx I2 .nil rz rfl l2 y2
/-- the same of a def that may be called anywhere -/
theorem pe_kw (F : FnOk X.prog X.w X.K X.mg X.base C m f fd ps sp) (hr : Room m X.A) (gl : Gl X x) (mf : X.mg x = some (.ref f)) (kf : PySem.W.keepIn X.K (.ref f) = true) (hb : KBX X.K fd ps n ks g gV) (hx : Passes C X E) (ha : PA X (e :: es) t) (hk : PK X kws tk)
    (h0 : (backToKw q (keywordEach kws X.env)).all (·.1.isSome) = true := by rfl) (hks : (backToKw q (keywordEach kws X.env)).filterMap (·.1) = ks := by rfl) (h1 : (x == ("__debug__" : Str)) = false := by decide) (h2 : starEach (e :: es) X.env = (false, eval e X.env) :: starEach es X.env := by rfl)
    (h3 : ((backTo q (starEach (e :: es) X.env)).any (·.1) || (backToKw q (keywordEach kws X.env)).any (·.1.isNone)) = false := by rfl) : PE X (.Call (.Name x p) (e :: es) kws q) (tCallN n ks.length sp gV E t tk) := by
  constructor
  intro pins s σ H Q I h
  refine wpAny_Call_Name_kw (ld_glob I gl mf (PySem.W.callWith_KW (h₀ := X.base) I.ok.mod.kin kf h0 (thn (ha.run q pins s σ H _ I h) fun us s1 ⟨vs, H1, I1, r, y⟩ => thn (hk.run q pins s1 σ H1 _ I1 y) fun ws s2 ⟨zs, H2, I2, rz, l1, l2, y2⟩ => ⟨I2.kIn, ?_⟩) h3 h2) h1)
  rw [hks]
  exact kw_to hb (fun bs bv b1 b2 b3 => F.run X.A X.stack s2 H2 _ bs bv Q E hr I2.env0 b1 b2 b3) hx I2 r rz l1 l2 y2
theorem pe_kw0 (F : FnOk X.prog X.w X.K X.mg X.base C m f fd ps sp) (hr : Room m X.A) (gl : Gl X x) (mf : X.mg x = some (.ref f)) (kf : PySem.W.keepIn X.K (.ref f) = true) (hb : KBX X.K fd ps 0 ks g gV) (hx : Passes C X E) (hk : PK X kws tk)
    (h0 : (backToKw q (keywordEach kws X.env)).all (·.1.isSome) = true := by rfl) (hks : (backToKw q (keywordEach kws X.env)).filterMap (·.1) = ks := by rfl) (h1 : (x == ("__debug__" : Str)) = false := by decide)
    (h3 : ((backTo q (starEach [] X.env)).any (·.1) || (backToKw q (keywordEach kws X.env)).any (·.1.isNone)) = false := by rfl) : PE X (.Call (.Name x p) [] kws q) (tCallN 0 ks.length sp gV E tNil tk) := by
  constructor
  intro pins s σ H Q I h
  refine wpAny_Call_Name_kw (ld_glob I gl mf (PySem.W.callWith_KW0 (h₀ := X.base) I.ok.mod.kin kf h0 (thn (hk.run q pins s σ H _ I h) fun ws s2 ⟨zs, H2, I2, rz, l1, l2, y2⟩ => ⟨I2.kIn, ?_⟩) h3) h1)
  rw [hks]
  exact kw_to hb (fun bs bv b1 b2 b3 => F.run X.A X.stack s2 H2 _ bs bv Q E hr I2.env0 b1 b2 b3) hx I2 .nil rz rfl l2 y2
end
section
variable {σ : L2.St} {H : Hp} {Q : VK} {t tk : TA} {sp : Sp} {gV : List V → List V → List V} {E : XK} {n m : Nat}
theorem caln (h : t σ H fun vs H1 => tk σ H1 fun zs H2 => vs.length = n ∧ zs.length = m ∧ sp (gV vs zs) H2 Q E) : tCallN n m sp gV E t tk σ H Q := h
theorem lnn {a b c d : Nat} {A : Prop} (e : a = c) (f : b = d) (h : A) : a = c ∧ b = d ∧ A := ⟨e, f, h⟩
end
/-! ### repr -/
mutual
/-- data of ints below 2 ^ 200, bools, None, in lists and tuples -/
def tame : PyData → Bool
  | .none | .bool _ => true
  | .int i => decide (i.natAbs < 2 ^ 200)
  | .list ds | .tuple ds => tameAll ds
  | .str x => PyData.showable (.str x) && PyData.leavesShort 201 (.str x)
  | _ => false
def tameAll : List PyData → Bool
  | [] => true
  | d :: ds => tame d && tameAll ds
end
theorem tame_int {i : Int} (h : i.natAbs < 2 ^ 200) : i.natAbs.log2 < 200 := by
  by_cases z : i.natAbs = 0
  · rw [z]; decide
  · exact (Nat.log2_lt z).mpr h
mutual
theorem tame_ok : ∀ d : PyData, tame d = true → d.showable = true ∧ d.hasDict = false ∧ d.leavesShort 201 = true
  | .none, _ => ⟨rfl, rfl, rfl⟩
  | .bool _, _ => ⟨rfl, rfl, rfl⟩
  | .int i, h => by
    have h' := tame_int (of_decide_eq_true (by simpa only [tame] using h))
    refine ⟨by simp only [PyData.showable]; exact decide_eq_true (by omega), rfl, ?_⟩
    simp only [PyData.leavesShort]
    exact decide_eq_true (by show (Str.ofString (toString i)).length ≤ 201; rw [PySem.ofString_length]; exact PySem.int_text_length_le (by decide) h')
  | .str x, h => by
    have h' : PyData.showable (.str x) = true ∧ PyData.leavesShort 201 (.str x) = true := by simpa only [tame, Bool.and_eq_true] using h
    exact ⟨h'.1, rfl, h'.2⟩
  | .dict _, h => by simp [tame] at h
  | .list ds, h => by
    have := tame_okAll ds (by simpa only [tame] using h)
    simpa only [PyData.showable, PyData.hasDict, PyData.leavesShort] using this
  | .tuple ds, h => by
    have := tame_okAll ds (by simpa only [tame] using h)
    simpa only [PyData.showable, PyData.hasDict, PyData.leavesShort] using this
theorem tame_okAll : ∀ ds : List PyData, tameAll ds = true → PyData.showableAll ds = true ∧ PyData.hasDictAll ds = false ∧ PyData.leavesShortAll 201 ds = true
  | [], _ => ⟨rfl, rfl, rfl⟩
  | d :: ds, h => by
    have h' : tame d = true ∧ tameAll ds = true := by simpa only [tameAll, Bool.and_eq_true] using h
    obtain ⟨a, b, c⟩ := tame_ok d h'.1
    obtain ⟨a', b', c'⟩ := tame_okAll ds h'.2
    simp only [PyData.showableAll, PyData.hasDictAll, PyData.leavesShortAll, a, b, c, a', b', c']
    decide
end
/-- repr of a list or a tuple -/
def rRepr (K : PySem.W.Frag) : List V → Hp → VK → Prop := fun vs H Q => ∃ a d, vs = [.ref a] ∧ Dp K H (.ref a) d ∧ tame d = true ∧ d.depth ≤ 60 ∧ d.bulk ≤ 60000 ∧ Q (.str d.shown) H
theorem krepr (K : PySem.W.Frag) {X : Cx} {k : Nat} (hG : X.A.guards = some []) (hr : Room k X.A) (h : X.K = K := by rfl) : CallR X (.builtin "repr") (rRepr K) := by
  subst h
  intro pins s σ H xs us Q I r hq
  obtain ⟨a, d, rfl, hd, ht, hdp, hb, q⟩ := hq
  obtain ⟨u, rfl, ru⟩ := vals1 r
  obtain rfl : u = Value.ref a := ru
  obtain ⟨as, rd⟩ := Dp.reads I d _ _ hd rfl
  obtain ⟨o1, o2, o3⟩ := tame_ok d ht
  have fits := PyData.shown_le_bulk 201 (by decide) d o3
  have un := hr.units
  refine repr_of_reads' rd o1 (PyData.noDict_hsm o2) hG (by omega) (fun _ _ e => e) (fun h' u tk hk => ⟨.str d.shown, H, ?_, ⟨u, rfl⟩, q⟩) (by rw [sizeLine_eq]; omega)
  exact I.kept hk
end HS
/-! Exceptions of own classes whose context is None: made, let out by a call in a try, kept by a def (the twins of pmk_oex, passAt, okX ..). -/
namespace HS
open PySem PySem.Spec PyProof.Rows L2
section
variable {X : Cx}
theorem made_n {pn : List (Addr × Obj)} {σ : L2.St} {Ha Hb : Hp} {W : XK} {h0 h1 h2 : Heap} {ga gb : Array GenState} {da db : Drawn} {ta tb : Nat} {oa ob : OsState} {x C d : Addr} {fs : List (Str × V)} (T : Raises X (.ref C)) (J : Inv X pn σ Ha ⟨h0, ga, da, ta, oa⟩)
    (hx : h0.objs.size ≤ x) (k : ∀ b o, h0.get? b = some o → h1.get? b = some o) (un : Un (frs X.stack) [] (upd Ha x (exo x C none)) Hb h1 h2) (ok : HOk X.prog X.w Hb h2) (eo : ob = oa) (bb : AllBare gb)
    (ex : Hb x = some (exo x C (some d))) (ed : Hb d = some (exd d fs)) (nd : Ha d = none) (q : W (.ref C) (some d) (upd (del Hb x) d (.xd fs))) : L2N.MkP X pn σ W (.ref x) ⟨h2, gb, db, tb, ob⟩ := by
  obtain ⟨tt, G, I, kG, ng, he, nx⟩ := mk_end0 (d2 := db) (t2 := tb) J hx k un ok eo bb ex ed nd
  exact ⟨x, _, _, ⟨G, gb, db, tb, ob⟩, _, .ref C, some d, rfl, I, kG, ng, he, ⟨rfl, rfl, fun vs e => by cases e; rfl⟩, rfl, rfl, nx, rfl, bb, T, q⟩
theorem pmk_oexN {CX : CXT} {x : Str} {C g : Addr} {k : Nat} {fd : FuncData} {ps : List Str} {sp : Sp} {ds : List Value} {dvs : List V} {p pos : Pos} {e : Expr} {es : List Expr} {ta : TA} (T : OexC X.K C)
    (iC : PySem.W.findIn X.K (.ref C) "__init__" = some (some (.ref g))) (tI : PySem.W.typeIn X.K (.ref g) = some (.type "function"))
    (Fi : FnOk X.prog X.w X.K X.mg X.base CX k g fd ps sp) (hr : Room (k + 1) X.A) (hb : Binds X.K fd ps ds) (hd : Vals dvs ds) (hx : Passes CX X (fun _ _ _ => False)) (hg : Gl X x) (hm : X.mg x = some (.ref C)) (ha : PA X (e :: es) ta)
    (n1 : (x == ("__debug__" : Str)) = false := by decide) (n2 : starEach (e :: es) X.env = (false, eval e X.env) :: starEach es X.env := by rfl) (n3 : (backTo pos (starEach es X.env)).any (·.1) = false := by rfl) :
    L2N.PMk X (.Call (.Name x p) (e :: es) [] pos) (tMkO C sp dvs ta) := by
  intro pn s σ H Q I h
  obtain ⟨nm, q, N, bs, bm, sn, sub, ab, col, dd, k0, k1, k2, k3, k5, hC, hbm⟩ := T.cls
  refine wpAny_Call_Name_kw (ld_glob I hg hm ?_ n1)
  refine PySem.W.callWith_K (h₀ := X.base) I.ok.mod.kin T.kC (thn (ha.run pos pn s σ H _ I h) fun us s1 ⟨vs, H1, J, rv, le, q1⟩ => ⟨J.kIn, ?_⟩) n2 n3
  (show wpAny _ _ (call (.ref C) us) _ _ _)
  obtain ⟨hp, gs, dr, tk, os⟩ := s1
  have s01 : hp.objs.size ≤ hp.objs.size + 1 := Nat.le_succ _
  have free := J.hok.fresh s01
  have hq := q1 (hp.objs.size + 1) free
  have old : ∀ b o, hp.get? b = some o → ((hp.push (PySem.W.kdv_tup us)).push (PySem.HandSPX.excO C hp.objs.size)).get? b = some o := fun b o z => Heap.get?_push_of_some _ (Heap.get?_push_of_some _ z)
  have own : ((hp.push (PySem.W.kdv_tup us)).push (PySem.HandSPX.excO C hp.objs.size)).get? (hp.objs.size + 1) = some (PySem.HandSPX.excO C hp.objs.size) := by heap_get
  have J2 : Inv X pn σ (upd H1 (hp.objs.size + 1) (exo (hp.objs.size + 1) C none)) ⟨(hp.push (PySem.W.kdv_tup us)).push (PySem.HandSPX.excO C hp.objs.size), gs, dr, tk, os⟩ :=
    J.laid (t' := tk) (a := hp.objs.size + 1) (o := exo (hp.objs.size + 1) C none) (h' := (hp.push (PySem.W.kdv_tup us)).push (PySem.HandSPX.excO C hp.objs.size)) old s01 (exo_ok own)
  have rv2 : Vals (V.ref (hp.objs.size + 1) :: (vs ++ dvs)) (Value.ref (hp.objs.size + 1) :: (us ++ ds)) := .cons rfl (rv.append hd)
  have len : (Value.ref (hp.objs.size + 1) :: us ++ ds).length = ps.length := by
    have z := rv2.length
    rw [Fi.len _ _ _ _ hq] at z
    exact z.symm
  have small : us.length ≤ sizeLine := by
    rw [← Paired.length rv, sizeLine_eq]
    omega
  refine wpAny_call (PySem.HandSPX.call_own F.excBase_ValueError (fun Y => PySem.HandSPX.refsVE_contains Y bm hbm) (J.kIn _ _ hC) (PySem.W.looks_findIn J.kIn iC) (fun self => PySem.W.bind_fn J.kIn self tI) small
    (codeAny_mono (Fi.run _ X.stack _ _ ⟨Value.ref (hp.objs.size + 1) :: us, []⟩ (Value.ref (hp.objs.size + 1) :: (us ++ ds)) _ _ (fun _ _ _ => False) (hr.make C us []) (J2.env0.make C us []) (hb _ (Value.ref (hp.objs.size + 1) :: us) J2.kIn len) rv2 hq) fun r s2 y => ?_))
  cases r with
  | error er => exact hx pn σ _ _ er s2 J2 y
  | ok fl =>
    cases fl
    case ret u =>
      obtain ⟨v, H2, os2, bare2, un2, hok2, rv, ev, d, fs, ea, ed, hd1, q2⟩ := y
      subst ev
      obtain ⟨h2, g2, d2, t2, os'⟩ := s2
      exact ⟨rv, made_n (raises_own T.exC T.tyC) J s01 old un2 hok2 os2 bare2 ea ed hd1 q2⟩
    all_goals exact False.elim y
theorem passAtN {W : WX} (tk : L2N.Takes X W) (σ : L2.St) : PassesAt (L2N.CX X.prog X.w) X σ (WE W σ) := fun _ _ _ e s' I c => tk e s' (L2N.XE.of_call I (fun _ _ _ h => h) c)
theorem passLN : Passes (L2N.CX X.prog X.w) X E0 := fun _ _ _ _ _ _ _ h => by
  obtain ⟨_, _, _, _, _, _, _, _, _, _, _, _, z⟩ := h
  exact False.elim z
theorem takesN0 : L2N.Takes X (fun _ _ _ _ => False) := fun _ _ x => by
  obtain ⟨_, _, _, _, _, _, _, _, _, _, _, _, _, _, _, _, z⟩ := x
  exact False.elim z
end
section
variable {P : Program} {w : World} {K : PySem.W.Frag} {mg : Str → Option Value} {base : Heap}
theorem Fun.okN {x qual : Str} {st : Stmt} {f : Addr} {fd : FuncData} {N ps : List Str} {k : Nat} {sp : Sp} (F : Fun K x qual st f fd) (S : FnScope N ps (defScope st)) (len : ∀ vs H Q E, sp vs H Q E → vs.length = ps.length)
    (hb : ∀ (cdv : Value) (A : Around) (outer : List Env) (s : Shared) (H : Hp) (vs : List V) (Q : VK) (E : XK), Room k (A.deeper (envOfC qual (defScope st) s.heap.objs.size f cdv)) → sp vs H Q E →
      ∃ t, PSs (cxOf (L2N.CX P w) P w K mg base N qual (defScope st) f cdv A outer s H E) (defBody st) t ∧ t { nx := fun _ H' => Q .non H', rt := Q } (start N vs) H) : FnOk P w K mg base (L2N.CX P w) (k + 1) f fd ps sp := by
  obtain ⟨_, _, _, _, _, _, cdv, _, _, rfl, lk, hcd⟩ := F.ex
  exact fn_of lk hcd S len fun A outer s H vs Q E hr y => hb cdv A outer s H vs Q E hr y
end
end HS
/-! A def that is called within an except suite and handed the exception that is handled. -/
namespace HS
open PySem PySem.Spec PyProof.Rows L2
/-- a promise that knows the exception: its place, its class, its dict -/
abbrev SpE := Addr → Value → Option Addr → Sp
structure FnE (Pg : Program) (wd : World) (K : PySem.W.Frag) (mg : Str → Option Value) (base : Heap) (n : Nat) (f : Addr) (fd : FuncData) (ps : List Str) (sp : SpE) : Prop where
  len : ∀ xa xc xd vs H Q E, sp xa xc xd vs H Q E → vs.length = ps.length
  go : ∀ (B : Around) (o : List Env) (s : Shared) (H : Hp) (ar : Args) (us : List Value) (vs : List V) (Q : VK) (E : XK) (xa : Addr) (oe : Obj) (xc : Value) (xd : Option Addr), L2H.RoomH n B → B.handled = some (.ref xa) → L2N.Zn xc xd oe → (∃ zs, oe.data = .fields zs) → L2H.PinOk o H s (xa, oe) →
    Env0 Pg wd K mg base B o s H → BindsTo s fd ar (ps.zip us) → Vals vs us → sp xa xc xd vs H Q E → codeAny (model Pg wd) B (.call (.ref f) ar) (CR L2.CX0 o Pg wd H s Q E) s
section
variable {Pg : Program} {wd : World} {K : PySem.W.Frag} {mg : Str → Option Value} {base : Heap} {n : Nat} {f : Addr} {fd : FuncData} {ps : List Str} {sp : SpE}
theorem e_end {N : List Str} {q : Str} {sc : Scope} {cd : Value} {B : Around} {o : List Env} {s : Shared} {H : Hp} {E : XK} {Q : VK} {r : Addr × Obj} {x : Cx} (hx : x = L2H.cxH L2.CX0 Pg wd K mg base N q sc f cd B o s H E r) (fl : Flow) {s' : Shared} :
    SP x [] { nx := fun _ H' => Q .non H', rt := Q } fl s' → CR L2.CX0 o Pg wd H s Q E (.ok (.ret (match fl with | .ret v => v | _ => .none))) s' := by
  subst hx
  intro h
  cases fl
  case ret u => obtain ⟨v, st, H', J, rv, y⟩ := h; exact ⟨v, H', J.os, J.bare, J.base, J.hok, rv, y⟩
  case next => obtain ⟨st, H', J, y⟩ := h; exact ⟨.non, H', J.os, J.bare, J.base, J.hok, rfl, y⟩
  all_goals exact h.elim fun _ z => z.elim fun _ z => z.2.elim
theorem Fun.okE {x qn : Str} {st : Stmt} {N : List Str} (F : L2.Fun K x qn st f fd) (S : FnScope N ps (defScope st)) (len : ∀ xa xc xd vs H Q E, sp xa xc xd vs H Q E → vs.length = ps.length)
    (hb : ∀ (cd : Value) (B : Around) (o : List Env) (s : Shared) (H : Hp) (vs : List V) (Q : VK) (E : XK) (xa : Addr) (oe : Obj) (xc : Value) (xd : Option Addr), B.handled = some (.ref xa) → L2N.Zn xc xd oe → (∃ zs, oe.data = .fields zs) → L2H.RoomH n (B.deeper (envOfC qn (defScope st) s.heap.objs.size f cd)) → sp xa xc xd vs H Q E →
      ∃ t, PSs (L2H.cxH L2.CX0 Pg wd K mg base N qn (defScope st) f cd B o s H E (xa, oe)).nox (defBody st) t ∧ t { nx := fun _ H' => Q .non H', rt := Q } (start N vs) H) : FnE Pg wd K mg base (n + 1) f fd ps sp := by
  obtain ⟨_, _, _, _, _, _, cd, _, _, rfl, lk, hcd⟩ := F.ex
  refine ⟨len, fun B o s H ar us vs Q E xa oe xc xd hr hh hz hf pin e0 bd rv hs => ?_⟩
  have kin : K.In s.heap := e0.mod.kin.keeps fun b u e => (e0.bs b u e).1
  have kinds : ∀ y ∈ ps.zip us, (defScope st).names.lookup y.1 = some .local ∨ ((defScope st).names.lookup y.1 = some .cell ∧ ((cellsFrom (s.heap.objs.size + 1) (defScope st).names []).lookup y.1).isSome = true) := by
    rintro ⟨z, v⟩ hy
    exact (S.par z (List.of_mem_zip hy).1).elim .inl fun c => .inr ⟨c, PySem.W.cellsFrom_some _ _ _ (.inl c)⟩
  refine codeAny_call_function hr.depth (kin _ _ lk) rfl S.co S.gen rfl (PySem.W.codeRec_of kin hcd) (bd _ _ _ _ (wpAny_newFunctionEnv_cells S.kind kinds fun _ he s1 made => ?_))
  subst he
  obtain ⟨t, ht, hq⟩ := hb cd B o s H vs Q E xa oe xc xd hh hz hf (hr.deeper _) hs
  have start0 := L2H.inv_startH (CX := L2.CX0) (E := E) (qual := qn) (cd := cd) (f := f) (A := B) S pin e0 (len _ _ _ _ _ _ _ hs) rv made
  exact ⟨(e0.mod.nolimit.keeps fun b u e => (e0.bs b u e).1).keeps made.toInCall.keep, codeAny_func (wpAny_mono (ht.nox.run [] s1 _ H _ start0 hq) (fun fl s' => e_end rfl fl) fun _ _ h => h)⟩
end
/-! ### the call -/
def tCallE (sp : SpE) (xa : Addr) (xc : Value) (xd : Option Addr) (t : TA) : TE := fun σ H Q => t σ H fun vs H1 => sp xa xc xd vs H1 Q (fun _ _ _ => False)
section
variable {X : Cx} {n : Nat} {f : Addr} {fd : FuncData} {ps : List Str} {sp : SpE} {x : Str} {p q : Pos} {e : Expr} {es : List Expr} {t : TA} {xa : Addr} {oe : Obj} {xc : Value} {xd : Option Addr}
theorem pe_callE (F : FnE X.prog X.w X.K X.mg X.base n f fd ps sp) (hr : L2H.RoomH n X.A) (hh : X.A.handled = some (.ref xa)) (hz : L2N.Zn xc xd oe) (hf : ∃ zs, oe.data = .fields zs) (hp : (xa, oe) ∈ X.pn) (gl : Gl X x) (mf : X.mg x = some (.ref f)) (kf : PySem.W.keepIn X.K (.ref f) = true) (bd : Binds X.K fd ps []) (ha : PA X (e :: es) t)
    (h1 : (x == ("__debug__" : Str)) = false := by decide) (h2 : starEach (e :: es) X.env = (false, eval e X.env) :: starEach es X.env := by rfl) (h3 : (backTo q (starEach es X.env)).any (·.1) = false := by rfl) :
    PE X (.Call (.Name x p) (e :: es) [] q) (tCallE sp xa xc xd t) := by
  constructor
  intro pins s σ H Q I h
  refine wpAny_Call_Name_kw (ld_glob I gl mf (PySem.W.callWith_K (h₀ := X.base) I.ok.mod.kin kf (thn (ha.run q pins s σ H _ I h) fun us s1 ⟨vs, H1, I1, r, y⟩ => ⟨I1.kIn, ?_⟩) h2 h3) h1)
  have hl : (us ++ []).length = ps.length := by rw [List.append_nil, ← r.length]; exact F.len _ _ _ _ _ _ _ y
  have P1 := I1.pin (xa, oe) (List.mem_append_left _ hp)
  have pin : L2H.PinOk X.stack H1 s1 (xa, oe) := ⟨P1.1, P1.2.1, fun hm => (List.mem_cons.mp (I1.stkSub xa hm)).elim P1.2.2.1 P1.2.2.2.1, P1.2.2.2.2⟩
  exact after_call (E := fun _ _ _ => False) pass0 I1 (F.go X.A X.stack s1 H1 _ (us ++ []) vs Q _ xa oe xc xd hr hh hz hf pin I1.env0 (bd s1 us I1.kIn hl) (by rw [List.append_nil]; exact r) y)
end
section
variable {σ : L2.St} {H : Hp} {Q : VK} {sp : SpE} {xa : Addr} {xc : Value} {xd : Option Addr} {t : TA}
theorem ocle (h : t σ H fun vs H1 => sp xa xc xd vs H1 Q (fun _ _ _ => False)) : tCallE sp xa xc xd t σ H Q := h
theorem hu64H {A : Around} {k : Nat} (hr : L2H.RoomH k A) : A.units + 64 < cLine := by have := hr.un; omega
theorem hu65H {A : Around} {k : Nat} (hr : L2H.RoomH k A) : A.units + 65 < cLine := by have := hr.un; omega
end
/-! ### isinstance of it, its value -/
theorem exc_hereG {X : Cx} {a D d : Addr} {oe : Obj} {pins : List (Addr × Obj)} {σ : L2.St} {H : Hp} {s : Shared} {fs : List (Str × V)} (I : Inv X pins σ H s) (hp : (a, oe) ∈ X.pn) (hz : Zc (.ref D) (some d) oe) (hf : ∃ zs, oe.data = .fields zs) (hd : H d = some (.xd fs)) :
    ∃ (od : Obj) (mA : Str → Option Value), PySem.W.InstAt s.heap a oe D (some od) ∧ (∀ f, RelO (fs.lookup f) (mA f)) ∧ ∀ f, PySem.W.lookIn f od = some (mA f) := by
  obtain ⟨hget, _⟩ := I.pin (a, oe) (List.mem_append_left _ hp)
  obtain ⟨zs, hv⟩ := hf
  have x2 : ObjOk X.prog X.w H s.heap d (.xd fs) := I.hok d _ hd
  obtain ⟨mA, hns, hr⟩ := x2
  obtain ⟨od, hod, hl⟩ := lookIn_ns hns
  exact ⟨od, mA, ⟨hget, hz.1, by unfold PySem.W.notCls; rw [hv] <;> rfl, by rw [hz.2]; exact hod⟩, hr, hl⟩
theorem call_isG {X : Cx} {a : Addr} {oe : Obj} {cls : Value} {dx : Option Addr} (K : PySem.W.Frag) (hz : Zc cls dx oe) (hf : ∃ zs, oe.data = .fields zs) (hp : (a, oe) ∈ X.pn) (hK : X.K = K := by rfl) : CallR X (.builtin "isinstance") (rIsP K a cls dx) := by
  subst hK
  intro pins s σ H xs us Q I r hw
  obtain ⟨D, d, fs, c, b, e0, ec, ed, hd, T, ask, q⟩ := hw
  subst e0 ec ed
  match us, r with
  | [_, _], .cons rx (.cons rt .nil) =>
    cases rx
    obtain ⟨od, mA, here, _, _⟩ := exc_hereG I hp hz hf hd
    obtain ⟨cd, hcd, _⟩ := PySem.W.any_some T.hd
    rcases ask with ⟨cv, hcv, hb⟩ | ⟨t, cs, e1, ht, hb⟩
    · have e1 := hcv.eq rt
      subst e1
      exact PySem.W.kia_one (PySem.W.kitx_exc (by rw [hcd]; rfl) T.hg T.hk T.hs T.ha T.hn T.ht T.hm) I.kIn here hb (fun z => nomatch z) fun tk => ⟨.bl b, H, I.kept (t' := tk) fun _ _ z => z, rfl, q⟩
    · subst e1
      cases rt
      obtain ⟨its, rv, ⟨⟨oc, od', odt, osl⟩, ho, hc, n, hdt⟩, _⟩ := I.tuple ht
      dsimp only at hc hdt
      subst hc hdt
      rw [← vals_refs rv] at hb
      exact PySem.W.kia_tup (PySem.W.kitx_exc (by rw [hcd]; rfl) T.hg T.hk T.hs T.ha T.hn T.ht T.hm) I.kIn here ho hb (fun z => nomatch z) fun tk => ⟨.bl b, H, I.kept (t' := tk) fun _ _ z => z, rfl, q⟩
theorem pe_fldG {X : Cx} {a : Addr} {oe : Obj} {cls : Value} {dx : Option Addr} {e : Expr} {te : TE} {pos : Pos} {f : Str} (K : PySem.W.Frag) (hz : Zc cls dx oe) (hf : ∃ zs, oe.data = .fields zs) (hp : (a, oe) ∈ X.pn) (he : PE X e te)
    (hK : X.K = K := by rfl) (hb : attributeBase e f X.env (eval e X.env) = eval e X.env := by rfl) : PE X (.Attribute e f pos) (tFldP K a cls dx f te) := by
  subst hK
  refine ⟨fun pins s σ H Q I hw => attr_of hb (thn (he.run pins s σ H _ I hw) fun u s1 ⟨x, H1, I1, rx, e0, C, d, fs, v, ec, ed, T, hno, hd, l, q⟩ => ?_)⟩
  subst e0 ec ed
  cases rx
  obtain ⟨od, mA, here, hr, hl⟩ := exc_hereG I1 hp hz hf hd
  obtain ⟨w, hw, rw'⟩ := RelO.some_of (v := v) (o := mA f) (by rw [← l]; exact hr f)
  exact HandSPX.exc_get I1.kIn here T.ga T.gg T.exC (PySem.W.findObj_own T.hdC hno rfl (by rw [hl, hw])) (handed_of rw') ⟨v, H1, I1.tok _, rw', q⟩
end HS
/-! While an exception is handled: a tuple's iterator and a list's iterator at their ends, and the unpacking of a tuple. -/
namespace HS
open PySem PySem.Spec PyProof.Rows L2
section
variable {prog : Program} {w : World} {A : Around} {E : Value → Shared → Prop} {s : Shared} {it t x1 : Addr} {i : Nat} {items : Array Value}
theorem tup_stop {Q : Option Value → Shared → Prop} (hot : HotX.HotAt A x1 s.heap) (n1 : x1 ≠ it) (hit : s.heap.IsTupleIter it t i) (ht : s.heap.IsTuple t items) (hx : items[i]? = none) (hQ : ∀ h', Heap.ExtBut it s.heap h' → Q none { s with heap := h' }) :
    wpAny (model prog w) A (pyNext (.ref it)) Q E s := by
  obtain ⟨o, ho, hc, hd⟩ := id hit; obtain ⟨ol, hol, _, nl, hdl⟩ := ht; obtain ⟨hh, o1, zs, h1, d1, c1⟩ := hot
  unfold pyNext
  refine wpAny_bind (wpAny_attempt (wpAny_callSpecial?_slot (name := Str.ofString "__next__") hit.typeIs F.slot_tuple_iterator_next (wpAny_call_entry F.slot_tuple_iterator_next hit.typeIs F.entry_tuple_iterator_next ?_ (F.args_tuple_iterator_next_1 _))))
  (show wpAny _ _ (field (.ref it) 0 >>= _) _ _ s); refine wpAny_bind (wpAny_field ho hd (x := .ref t) rfl ?_)
  (show wpAny _ _ (if (Value.ref t == Value.none) = true then _ else _) _ _ s); rw [if_neg (fun z : (Value.ref t == Value.none) = true => Bool.false_ne_true z)]
  (show wpAny _ _ (field (.ref it) 1 >>= _) _ _ s); refine wpAny_bind (wpAny_field ho hd (x := .int i 0) rfl ?_)
  (show wpAny _ _ (seqItems? (.ref t) >>= _) _ _ s); refine wpAny_bind (wpAny_seqItems hol hdl ?_); simp only [Int.toNat_natCast, hx]
  refine wpAny_bind (wpAny_rule (wpAny_bind (wpAny_setField ho hd (by simp) ?_)))
  (show wpAny _ _ (newExc (.type "StopIteration") [] >>= _) _ _ _); refine wpAny_bind ?_; simp only [newExc, newTuple]
  refine wpAny_bind (wpAny_newObj_type ?_ (by size_fits)); refine wpAny_bind (m := firstArgMember _ _) (wpAny_of_eq (a := Value.none) (by first | rfl | (simp only [firstArgMember]; rfl)) ?_); refine wpAny_newObj_type ?_ (by size_fits)
  have up : ∀ b o, b ≠ it → s.heap.get? b = some o → ((s.heap.update it (Obj.mapFields fun x => x.setIfInBounds 0 Value.none)).push { cls := .type "tuple", data := .seq #[] }).get? b = some o := fun b o hb e => Heap.get?_push_of_some _ ((Heap.get?_update_other _ _ (Ne.symm hb)).trans e)
  refine HotX.raiseNew_hot ⟨hh, o1, zs, Heap.get?_push_of_some _ (up _ _ n1 h1), d1, c1⟩ (Nat.ne_of_lt (Heap.lt_size (up _ _ n1 h1))) (Heap.get?_push_size _ rfl) rfl (by first | (simp; done) | (simp; omega) | (simp only [Array.size_append]; simp; omega)) ?_
  refine wpAny_bind (wpAny_isInstance (T := "StopIteration") (b := true) ⟨_, Heap.get?_update_self _ (Heap.get?_push_size _ rfl) rfl, rfl⟩ isSubtype_stop (wpAny_pure (hQ _ fun b o hb e => ?_)))
  exact (Heap.get?_update_other _ _ (Nat.ne_of_gt (Heap.lt_size (up b o hb e)))).trans (Heap.get?_push_of_some _ (up b o hb e))
theorem lst_stop {Q : Option Value → Shared → Prop} (hot : HotX.HotAt A x1 s.heap) (n1 : x1 ≠ it) (hit : s.heap.IsListIter it t i) (ht : s.heap.IsList t items) (hx : items[i]? = none) (hQ : ∀ h', Heap.ExtBut it s.heap h' → Q none { s with heap := h' }) :
    wpAny (model prog w) A (pyNext (.ref it)) Q E s := by
  obtain ⟨o, ho, hc, hd⟩ := id hit; obtain ⟨ol, hol, _, nl, hdl⟩ := ht; obtain ⟨hh, o1, zs, h1, d1, c1⟩ := hot
  unfold pyNext
  refine wpAny_bind (wpAny_attempt (wpAny_callSpecial?_slot (name := Str.ofString "__next__") hit.typeIs slot_listiter_next (wpAny_call_entry slot_listiter_next hit.typeIs entry_listiter_next ?_ (args_listiter_next _))))
  (show wpAny _ _ (field (.ref it) 0 >>= _) _ _ s); refine wpAny_bind (wpAny_field ho hd (x := .ref t) rfl ?_)
  (show wpAny _ _ (if (Value.ref t == Value.none) = true then _ else _) _ _ s); rw [if_neg (fun z : (Value.ref t == Value.none) = true => Bool.false_ne_true z)]
  (show wpAny _ _ (field (.ref it) 1 >>= _) _ _ s); refine wpAny_bind (wpAny_field ho hd (x := .int i 0) rfl ?_)
  (show wpAny _ _ (seqItems? (.ref t) >>= _) _ _ s); refine wpAny_bind (wpAny_seqItems hol hdl ?_); simp only [Int.toNat_natCast, hx]
  refine wpAny_bind (wpAny_rule (wpAny_bind (wpAny_setField ho hd (by simp) ?_)))
  (show wpAny _ _ (newExc (.type "StopIteration") [] >>= _) _ _ _); refine wpAny_bind ?_; simp only [newExc, newTuple]
  refine wpAny_bind (wpAny_newObj_type ?_ (by size_fits)); refine wpAny_bind (m := firstArgMember _ _) (wpAny_of_eq (a := Value.none) (by first | rfl | (simp only [firstArgMember]; rfl)) ?_); refine wpAny_newObj_type ?_ (by size_fits)
  have up : ∀ b o, b ≠ it → s.heap.get? b = some o → ((s.heap.update it (Obj.mapFields fun x => x.setIfInBounds 0 Value.none)).push { cls := .type "tuple", data := .seq #[] }).get? b = some o := fun b o hb e => Heap.get?_push_of_some _ ((Heap.get?_update_other _ _ (Ne.symm hb)).trans e)
  refine HotX.raiseNew_hot ⟨hh, o1, zs, Heap.get?_push_of_some _ (up _ _ n1 h1), d1, c1⟩ (Nat.ne_of_lt (Heap.lt_size (up _ _ n1 h1))) (Heap.get?_push_size _ rfl) rfl (by first | (simp; done) | (simp; omega) | (simp only [Array.size_append]; simp; omega)) ?_
  refine wpAny_bind (wpAny_isInstance (T := "StopIteration") (b := true) ⟨_, Heap.get?_update_self _ (Heap.get?_push_size _ rfl) rfl, rfl⟩ isSubtype_stop (wpAny_pure (hQ _ fun b o hb e => ?_)))
  exact (Heap.get?_update_other _ _ (Nat.ne_of_gt (Heap.lt_size (up b o hb e)))).trans (Heap.get?_push_of_some _ (up b o hb e))
/-- (a, b, ..) = t -/
theorem set_tup_hot {env : Env} {elts : List Expr} {k} {pos : Pos} {Q : Unit → Shared → Prop} (hot : HotX.HotAt A x1 s.heap) (ht : PyProof.Rows.IsTup s.heap t items) (hn : (assignEach elts env).length = items.size) (hstar : (assignEach elts env).findIdx? (·.1) = none)
    (h : ∀ h', Heap.ExtBut s.heap.objs.size s.heap h' → wpAny (model prog w) A (assignInOrder ((assignEach elts env).map (·.2)) items.toList) Q E { s with heap := h' }) : wpAny (model prog w) A (assign (.Tuple elts k pos) env (.ref t)) Q E s := by
  have tl : t < s.heap.objs.size := by obtain ⟨o, ho, _⟩ := ht; exact Heap.lt_size ho
  have xl : x1 < s.heap.objs.size := by obtain ⟨_, o, _, ho, _⟩ := hot; exact Heap.lt_size ho
  obtain ⟨hh, o1, zs, h1, d1, c1⟩ := hot
  rw [assign_Tuple]
  refine wpAny_bind (wpAny_standAt ?_)
  unfold unpack; rw [hn, hstar]
  refine wpAny_bind (wpAny_holding ?_)
  unfold unpackItems
  refine wpAny_bind ?_
  unfold notIterableAtAll
  refine wpAny_bind (wpAny_specialOf ht.typeIs slot_tuple_iter.lookup (wpAny_pure ?_))
  simp only [Bool.false_eq_true, if_false]
  refine wpAny_bind (wpAny_holding (iter_tuple ht (wpAny_bind (wpAny_holding (draw_tuple (Nat.ne_of_lt tl) items.size 0 _ _ ⟨_, Heap.get?_push_size _ rfl, rfl, rfl⟩ (ht.push _) (by omega) fun h₁ hit₁ hs₁ => ?_)))))
  rw [show List.take items.size (List.drop 0 items.toList) = items.toList by rw [List.drop_zero]; exact List.take_of_length_le (by simp)]
  rw [if_neg (by simp)]
  have old : ∀ b o, s.heap.get? b = some o → h₁.get? b = some o := fun b o e => hs₁.extBut b o (Nat.ne_of_lt (Heap.lt_size e)) (Heap.get?_push_of_some _ e)
  refine wpAny_bind (wpAny_holding (tup_stop (x1 := x1) ⟨hh, o1, zs, old _ _ h1, d1, c1⟩ (Nat.ne_of_lt xl) hit₁ ((ht.push _).extBut hs₁.extBut (Nat.ne_of_lt tl)) (by simp) fun h₂ he₂ => ?_))
  simp only [Option.isSome_none, Bool.false_eq_true, if_false]
  exact wpAny_pure (h h₂ fun b o hb e => he₂ b o hb (old b o e))
end
end HS
/-! A list comprehension over a list while an exception is handled. -/
namespace HS
open PySem PySem.Spec PyProof.Rows L2
/-- the handled exception stood at this context's start, untold, and is none of its own things -/
def HotB (X : Cx) (x1 : Addr) : Prop := X.A.handled = some (.ref x1) ∧ ∃ (o : Obj) (zs : Array Value), X.s_0.heap.get? x1 = some o ∧ o.data = .fields zs ∧ zs[2]? = some .none ∧ X.H_0 x1 = none ∧ x1 ∉ X.fs ∧ x1 ∉ X.ex
theorem HotB.at {X : Cx} {pins : List (Addr × Obj)} {σ : L2.St} {H : Hp} {s : Shared} {x1 : Addr} (h : HotB X x1) (I : Inv X pins σ H s) : HotX.HotAt X.A x1 s.heap := by
  obtain ⟨hh, o, zs, e, d, c, n, nf, ne⟩ := h
  exact ⟨hh, o, zs, I.base.keep x1 o e n nf ne, d, c⟩
/-- (a, b, ..) = t there -/
theorem pg_tupE {X : Cx} {x1 : Addr} {es : List Expr} {k : Nat} {t : TGs} {n : Nat} {pos : Pos} (hot : HotB X x1) (h : PGs X es t) (hn : (assignEach es X.env).length = n := by rfl) (hst : (assignEach es X.env).findIdx? (·.1) = none := by rfl) : PG X (.Tuple es k pos) (gTup X.K n t) := by
  constructor
  rintro pins s σ H v u Q I r ⟨a, xs, ev, hq, hl, hw⟩
  subst ev; cases r
  obtain ⟨its, rv, ht, hz⟩ := I.tuple hq
  refine set_tup_hot (hot.at I) ht (by simp [hn, ← hl, rv.length]) hst fun h1 hx => h.run pins _ σ H xs _ Q (I.kept (t' := s.toks) fun b o e => hx b o (Nat.ne_of_lt (Heap.lt_size e)) e) (by simpa using rv) hw
/-- what a list's iterator does there -/
structure TurnE (P : Program) (w : World) (K : PySem.W.Frag) (tg : Expr) (J : It) (fp : List Addr) (it : Addr) (tn : Nat → Heap → Prop) : Prop where
  obj : ∀ i h, tn i h → ∀ b ∈ fp, ∃ o, h.get? b = some o ∧ ∀ v, o.data ≠ .cell v
  keep : ∀ i h h', tn i h → (∀ b ∈ fp, ∀ o, h.get? b = some o → h'.get? b = some o) → tn i h'
  item : ∀ (X : Cx), X.prog = P → X.w = w → X.K = K → ∀ (i : Nat) (pins : List (Addr × Obj)) (s : Shared) (σ : L2.St) (H : Hp) (E : Value → Shared → Prop), Inv X pins σ H s → (∀ b ∈ fp, FpOk X pins H b) → tn i s.heap → J.go i H →
    wpAny (model P w) X.A (pyNext (.ref it)) (fun r s1 => ∃ u, r = some u ∧ wpAny (model P w) X.A (letOwnedTupleGo tg (.ref it) u) (fun _ s2 => ∃ x H', Inv X pins σ H' s2 ∧ RelV x u ∧ J.yld i H x H' ∧ tn (i + 1) s2.heap ∧ ∀ b ∈ fp, H' b = none) E s1) E s
  done : ∀ (X : Cx) (x1 : Addr), X.prog = P → X.w = w → X.K = K → HotB X x1 → (∀ b ∈ fp, b ∈ X.ex) → ∀ (i : Nat) (pins : List (Addr × Obj)) (s : Shared) (σ : L2.St) (H : Hp) (E : Value → Shared → Prop), Inv X pins σ H s → (∀ b ∈ fp, FpOk X pins H b) → tn i s.heap → J.stop i H →
    wpAny (model P w) X.A (pyNext (.ref it)) (fun r s1 => r = none ∧ Inv X pins σ H s1) E s
  self : ∀ (A : Around) (i : Nat) (s : Shared) (Q : Value → Shared → Prop) (E : Value → Shared → Prop), tn i s.heap → Q (.ref it) s → wpAny (model P w) A (pyIter (.ref it)) Q E s
theorem turn_listE {P : Program} {w : World} {K : PySem.W.Frag} {tg : Expr} (a it : Addr) : TurnE P w K tg (Itl K a) [it] it (fun i h => h.IsListIter it a i) where
  obj := (turn_list (P := P) (w := w) (K := K) (tg := tg) a it).obj
  keep := (turn_list (P := P) (w := w) (K := K) (tg := tg) a it).keep
  item := by
    rintro X hP hw hK i pins s σ H E I hf st ⟨xs, x, hq, hx⟩
    subst hP hw hK
    obtain ⟨its, rv, p, _⟩ := I.list hq; obtain ⟨u, hu, ru⟩ := rv.get hx; obtain ⟨g0, g1, g2, g3, g4, g5⟩ := hf it (by simp)
    refine wpAny_pyNext_list_item st p.isList (x := u) (by simpa using hu) fun h1 st1 sb => ?_
    obtain ⟨o, e, c, d⟩ := id st1
    exact ⟨u, rfl, go_of (s := { s with heap := h1 }) e c d (by decide) ⟨x, H, I.turned (t' := s.toks) (fun b o hb e => (sb.2 b hb).trans e) g0 g1 g3 g4 g5, ru, ⟨rfl, fun ys hy => by rw [I.list_inj hy hq]; exact hx⟩, st1, fun b hb => (hf b hb).1⟩⟩
  done := by
    rintro X x1 hP hw hK hot hex i pins s σ H E I hf st ⟨xs, hq, hx⟩
    subst hP hw hK
    obtain ⟨its, rv, p, _⟩ := I.list hq; obtain ⟨g0, g1, g2, g3, g4, g5⟩ := hf it (by simp)
    have hl := rv.length
    have ne : x1 ≠ it := fun z => by obtain ⟨_, _, _, _, _, _, _, _, n⟩ := hot; exact n (z ▸ hex it (by simp))
    exact lst_stop (hot.at I) ne st p.isList (by simp; omega) fun h1 eb => ⟨rfl, I.turned (t' := s.toks) (fun b o hb e => eb b o hb e) g0 g1 g3 g4 g5⟩
  self := (turn_list (P := P) (w := w) (K := K) (tg := tg) a it).self
end HS
namespace HS
open PySem PySem.Spec PyProof.Rows L2
section
variable {X : Cx}
theorem hotB_blk {pins : List (Addr × Obj)} {σ : L2.St} {H : Hp} {s : Shared} {scope : Scope} {ce : Env} {fp : List Addr} (c : L2H.HotC X) (I : Inv X pins σ H s) (f : ∀ b ∈ fp, FpOk X pins H b) : ∃ x1, HotB (X.blk s H scope ce fp) x1 := by
  obtain ⟨p, ⟨hh, zs, e, c1⟩, hp⟩ := c
  have P := I.pin p (List.mem_append_left _ hp)
  refine ⟨p.1, hh, p.2, zs, P.1, e, c1, P.2.1, fun hm => (List.mem_cons.mp (I.stkSub p.1 hm)).elim P.2.2.1 P.2.2.2.1, fun hm => ?_⟩
  exact (f p.1 hm).2.2.2.2.2 p (List.mem_append_left _ hp) rfl
theorem lc_coreE {pins : List (Addr × Obj)} {s : Shared} {σ : L2.St} {H : Hp} {Q : VK} {elt tg iter : Expr} {ifs : List Expr} {scope : Scope} {own : List (Str × Nat)} {pos pos' : Pos} {tl : TE} {g : TG} {tt : TT} {te : TE} {use : Option (Value → Sem Unit)} {Qf : Value → Shared → Prop} (hc : L2H.HotC X) (hN : X.N.Nodup) (I : Inv X pins σ H s) (hi : PE X iter tl) (ok : BlkOk X.N X.env.scope scope own)
    (hg : ∀ (x1 : Addr) (s : Shared) (H : Hp) (C : Addr) (cl : List (Str × Addr)) (fp : List Addr), HotB (X.blk s H scope (compEnvC scope cl C X.env) fp) x1 → PG (X.blk s H scope (compEnvC scope cl C X.env) fp) tg g) (ht : ∀ (s : Shared) (H : Hp) (C : Addr) (cl : List (Str × Addr)) (fp : List Addr), PTs (X.blk s H scope (compEnvC scope cl C X.env) fp) ifs tt) (he : ∀ (s : Shared) (H : Hp) (C : Addr) (cl : List (Str × Addr)) (fp : List Addr), PE (X.blk s H scope (compEnvC scope cl C X.env) fp) elt te) (hs : ∀ x, foldedSetIterable iter X.env x = pure x) (h : tLc (iList X.K tl) g tt te (own.map (·.2)) σ H Q)
    (hRR : ∀ D C s' m H', Inv X pins σ H' s' → Q (.ref D) H' → s'.heap.Ns C m → FpOk X pins H' C → compPost (model X.prog X.w) X.A X.xe use Qf (.ref D) C (.ok .next) s') : wpAny (model X.prog X.w) X.A (comprehension (.ListComp elt [⟨tg, iter, ifs, 0⟩] scope pos) scope X.env pos' (newList []) false (eval iter X.env) use) Qf X.xe s := by
  have fr : ∀ y ∈ scope.names, y.2 = .free → ∃ c, X.env.cells.lookup y.1 = some c := fun y hy e => (ok.free y hy e).elim (fun k => I.ok.has _ (.inl k)) fun k => I.ok.has _ (.inr k)
  refine wpAny_comprehension_free (use := use) rfl hs (closure_ok fr) ok.kind (fun y hy e => by rw [ok.uniq y hy, e]) (thn (hi.run pins s σ H _ I h) fun v s1 ⟨x, H1, I1, r1, a, ex, ⟨xs, hq⟩, q⟩ => ?_)
  subst ex; cases r1
  obtain ⟨its, rv, pl, _⟩ := I1.list hq
  refine wpAny_pyIter_list pl.isList ?_
  have f2 : ∀ b ∈ [s1.heap.objs.size], FpOk X pins H1 b := fun b hb => by
    rw [List.mem_singleton.mp hb]
    exact I1.fpOk (Nat.le_refl _) (I1.hok.fresh (Nat.le_refl _))
  have T := turn_listE (P := X.prog) (w := X.w) (K := X.K) (tg := tg) a s1.heap.objs.size
  generalize hs2 : ({ s1 with heap := s1.heap.push { cls := Value.type "list_iterator", data := Data.fields #[Value.ref a, Value.int 0 0] } } : Shared) = s2
  have I2 : Inv X pins σ H1 s2 := by rw [← hs2]; exact I1.kept (t' := s1.toks) fun b o e => Heap.get?_push_of_some _ e
  have st2 : s2.heap.IsListIter s1.heap.objs.size a 0 := by rw [← hs2]; exact ⟨_, Heap.get?_push_size _ rfl, rfl, rfl⟩
  generalize s1.heap.objs.size = it at T f2 st2 ⊢
  refine wpAny_newObj_type (newEnv_comp ?_) (by (show 0 ≤ sizeLine); decide)
  generalize hD : s2.heap.objs.size = D
  have nD : H1 D = none := I2.hok.fresh (Nat.le_of_eq hD)
  obtain ⟨W, ⟨m0, w0⟩, turn⟩ := q D nD
  generalize hs3 : ({ s2 with heap := s2.heap.push { cls := .type "list", data := .seq ([] : List Value).toArray } } : Shared) = s3
  have e3 : s3.heap = s2.heap.push { cls := .type "list", data := .seq ([] : List Value).toArray } := by rw [← hs3]
  have I3 : Inv X pins σ (upd H1 D (.lst [])) s3 := by
    rw [← hs3]
    exact I2.laid (t' := s2.toks) (fun b o e => Heap.get?_push_of_some _ e) (Nat.le_of_eq hD) ⟨Nat.zero_le _, [], 0, .nil, by rw [← hD]; exact Heap.get?_push_size _ rfl⟩
  have itD : it < s2.heap.objs.size := by obtain ⟨o, e, _⟩ := st2; exact Heap.lt_size e
  have f3 : ∀ b ∈ [it], FpOk X pins (upd H1 D (.lst [])) b ∧ b < s3.heap.objs.size := fun b hb => by
    have eb := List.mem_singleton.mp hb
    refine ⟨⟨?_, (f2 b hb).2⟩, by rw [e3, Heap.size_push, eb]; exact Nat.lt_succ_of_lt itD⟩
    rw [upd_ne (by rw [← hD, eb]; exact Nat.ne_of_lt itD)]
    exact (f2 b hb).1
  have st3 : s3.heap.IsListIter it a 0 := st2.at fun o e => by rw [e3]; exact Heap.get?_push_of_some _ e
  have I4 := block_start I3 ok hN f3
  obtain ⟨x1, hot⟩ := hotB_blk (scope := scope) (ce := compEnvC scope (cellsFrom (s3.heap.objs.size + 1) scope.names (cloFrom X.env.cells scope.names [])) s3.heap.objs.size X.env) hc I3 fun b hb => (f3 b hb).1
  have pg := hg x1 s3 (upd H1 D (.lst [])) s3.heap.objs.size (cellsFrom (s3.heap.objs.size + 1) scope.names (cloFrom X.env.cells scope.names [])) [it] hot
  have pt := ht s3 (upd H1 D (.lst [])) s3.heap.objs.size (cellsFrom (s3.heap.objs.size + 1) scope.names (cloFrom X.env.cells scope.names [])) [it]
  have pe := he s3 (upd H1 D (.lst [])) s3.heap.objs.size (cellsFrom (s3.heap.objs.size + 1) scope.names (cloFrom X.env.cells scope.names [])) [it]
  (show codeAny _ _ (.compStart (.ListComp elt [⟨tg, iter, ifs, 0⟩] scope pos) 0 (.ref it) (.ref D) (compEnvC scope (cellsFrom (s3.heap.objs.size + 1) scope.names (cloFrom X.env.cells scope.names [])) s3.heap.objs.size X.env)) (compPost (model X.prog X.w) X.A X.xe use Qf (.ref D) s3.heap.objs.size) { s3 with heap := pushCells (s3.heap.push { cls := .type "dict", data := .dict #[] }) scope.names })
  generalize hce : compEnvC scope (cellsFrom (s3.heap.objs.size + 1) scope.names (cloFrom X.env.cells scope.names [])) s3.heap.objs.size X.env = ce at I4 hot pg pt pe ⊢
  have cL : ce.locals = s3.heap.objs.size := by subst hce; rfl
  generalize upd H1 D (.lst []) = H3 at I3 I4 hot pg pt pe w0 f3
  generalize hs4 : ({ s3 with heap := pushCells (s3.heap.push { cls := .type "dict", data := .dict #[] }) scope.names } : Shared) = s4 at I4 ⊢
  have st4 : s4.heap.IsListIter it a 0 := st3.at fun o e => by rw [← hs4]; exact pushCells_keeps _ _ _ _ (Heap.get?_push_of_some _ e)
  have stat : ∀ {σ' : L2.St} {H' : Hp} {s' : Shared}, Inv (X.blk s3 H3 scope ce [it]) [] σ' H' s' → (∀ b ∈ [it], H' b = none) → ∀ b ∈ [it], FpOk (X.blk s3 H3 scope ce [it]) [] H' b := fun I' hn b hb =>
    ⟨hn b hb, (I'.ok.exf b hb).1, I'.ok.exfs b hb, .inl hb, fun x c e => (I'.ok.exf b hb).2 x c e, fun p hp => absurd (show p ∈ ([] : List (Addr × Obj)) from hp) List.not_mem_nil⟩
  have loop : codeAny (model X.prog X.w) X.A (.compLoop (.ListComp elt [⟨tg, iter, ifs, 0⟩] scope pos) 0 (.ref it) (.ref D) ce) (compPost (model X.prog X.w) X.A X.xe use Qf (.ref D) s3.heap.objs.size) s4 := by
    refine compLoop_any (fun n s' => ∃ i H', Inv (X.blk s3 H3 scope ce [it]) [] (wipe σ (own.map (·.2))) H' s' ∧ s'.heap.IsListIter it a i ∧ (∀ b ∈ [it], H' b = none) ∧ W i n H') ?_ m0 ⟨0, H3, I4, st4, fun b hb => (f3 b hb).1.1, w0⟩
    rintro n s5 ⟨i, H5, I5, st5, n5, w5⟩
    rcases turn i n H5 w5 with ⟨stop, qq⟩ | ⟨go, Nx, hNx, step⟩
    · refine thnF (T.done (X.blk s3 H3 scope ce [it]) x1 rfl rfl rfl hot (fun b hb => hb) i [] s5 _ H5 (fun _ _ => False) I5 (stat I5 n5) st5 stop) fun r s6 ⟨hr, I6⟩ => ?_
      subst hr
      have nC : H5 s3.heap.objs.size = none := by have z : H5 ce.locals = none := I6.free; rw [cL] at z; exact z
      obtain ⟨m, hn, _⟩ := I6.loc
      have hn : s6.heap.Ns ce.locals m := hn
      rw [cL] at hn
      exact hRR D s3.heap.objs.size s6 m H5 (I3.call' (ch := [it]) I6.os I6.base I6.hok I6.bare fun b hb => ⟨(f3 b hb).1.2.2.2.1, (f3 b hb).1.2.1, (f3 b hb).1.2.2.2.2.1, (f3 b hb).1.2.2.2.2.2⟩) qq hn (I3.fpOk (Nat.le_refl _) nC)
    · refine thnF (T.item (X.blk s3 H3 scope ce [it]) rfl rfl rfl i [] s5 _ H5 (fun _ _ => False) I5 (stat I5 n5) st5 go) fun r s6 ⟨u, hr, h6⟩ => ?_
      subst hr
      refine thnF h6 fun _ s7 ⟨x, H7, I7, r7, y7, st7, n7⟩ => thnF (pg.run _ s7 _ H7 x u _ (I7.pinned (stat I7 n7) (T.obj _ _ st7)) r7 (step x H7 y7)) fun _ s8 ⟨σ8, H8, I8, hw8, q8⟩ => thnF (pt.run _ s8 σ8 H8 _ I8 q8) fun b s9 ⟨H9, I9, q9⟩ => ?_
      have fin : ∀ {s' : Shared} {H' : Hp}, Inv (X.blk s3 H3 scope ce [it]) ([] ++ pinsAt [it] s7.heap) σ8 H' s' → Nx H' → ∃ m, m < n ∧ ∃ i H', Inv (X.blk s3 H3 scope ce [it]) [] (wipe σ (own.map (·.2))) H' s' ∧ s'.heap.IsListIter it a i ∧ (∀ b ∈ [it], H' b = none) ∧ W i m H' := fun {s' H'} I' nx => by
        obtain ⟨m', hm, w'⟩ := hNx H' nx
        have pin' : ∀ b ∈ [it], ∀ o, s7.heap.get? b = some o → s'.heap.get? b = some o ∧ H' b = none := fun b hb o e => have z := I'.pin (b, o) (List.mem_append_right _ (List.mem_append_right _ (mem_pinsAt hb e))); ⟨z.1, z.2.1⟩
        have ll : (wipe σ (own.map (·.2))).length = σ8.length := by rw [← hw8, wipe_length]
        exact ⟨m', hm, i + 1, H', (I'.unpinned (pins := [])).weak ll (fun j v e => by rw [← hw8] at e; exact (wipe_some e).1), T.keep _ _ _ st7 fun b hb o e => (pin' b hb o e).1, fun b hb => by obtain ⟨o, e, _⟩ := T.obj _ _ st7 b hb; exact (pin' b hb o e).2, w'⟩
      cases b with
      | false => simp only [Bool.false_eq_true, if_false] at q9 ⊢; exact fin I9 q9
      | true =>
        simp only [if_true] at q9 ⊢
        exact thnF (pe.run _ s9 σ8 H9 _ I9 q9) fun z s10 ⟨yv, H10, I10, r10, acc, hD10, hz10, nx⟩ => app_ok (X := X.blk s3 H3 scope ce [it]) I10 hD10 hz10 r10 fun s11 I11 => fin I11 nx
  exact codeAny_compStart_list loop (T.self X.A 0 _ _ _ st4 loop)
/-- as a value -/
theorem pe_lcE {elt tg iter : Expr} {ifs : List Expr} {scope : Scope} {own : List (Str × Nat)} {pos : Pos} {tl : TE} {g : TG} {tt : TT} {te : TE} (hc : L2H.HotC X) (hN : X.N.Nodup) (hi : PE X iter tl) (ok : BlkOk X.N X.env.scope scope own)
    (hg : ∀ (x1 : Addr) (s : Shared) (H : Hp) (C : Addr) (cl : List (Str × Addr)) (fp : List Addr), HotB (X.blk s H scope (compEnvC scope cl C X.env) fp) x1 → PG (X.blk s H scope (compEnvC scope cl C X.env) fp) tg g) (ht : ∀ (s : Shared) (H : Hp) (C : Addr) (cl : List (Str × Addr)) (fp : List Addr), PTs (X.blk s H scope (compEnvC scope cl C X.env) fp) ifs tt) (he : ∀ (s : Shared) (H : Hp) (C : Addr) (cl : List (Str × Addr)) (fp : List Addr), PE (X.blk s H scope (compEnvC scope cl C X.env) fp) elt te) (hs : ∀ x, foldedSetIterable iter X.env x = pure x := by intro _; rfl) :
    PE X (.ListComp elt [⟨tg, iter, ifs, 0⟩] scope pos) (tLc (iList X.K tl) g tt te (own.map (·.2))) := by
  constructor
  intro pins s σ H Q I h
  rw [eval_ListComp]
  refine lc_coreE hc hN I hi ok hg ht he hs h fun D C s' m H' I' q hn f => ⟨m, hn, fun h1 sb => ?_⟩
  obtain ⟨g0, g1, g2, g3, g4, g5⟩ := f
  exact ⟨.ref D, H', I'.turned (t' := s'.toks) (fun b o hb e => (sb.2 b hb).trans e) g0 g1 g3 g4 g5, rfl, q⟩
theorem ps_setLcE {i : Nat} {y : Str} {py : Pos} {elt tg iter : Expr} {ifs : List Expr} {scope : Scope} {own : List (Str × Nat)} {pos spos : Pos} {tl : TE} {g : TG} {tt : TT} {te : TE} (hc : L2H.HotC X) (hN : X.N.Nodup) (hy : X.N[i]? = some y) (loc : X.env.scope.names.lookup y = some .local)
    (sw : swapsWith (.ListComp elt [⟨tg, iter, ifs, 0⟩] scope pos) (some (.Name y py)) spos.line X.env = pure true) (hi : PE X iter tl) (ok : BlkOk X.N X.env.scope scope own)
    (hg : ∀ (x1 : Addr) (s : Shared) (H : Hp) (C : Addr) (cl : List (Str × Addr)) (fp : List Addr), HotB (X.blk s H scope (compEnvC scope cl C X.env) fp) x1 → PG (X.blk s H scope (compEnvC scope cl C X.env) fp) tg g) (ht : ∀ (s : Shared) (H : Hp) (C : Addr) (cl : List (Str × Addr)) (fp : List Addr), PTs (X.blk s H scope (compEnvC scope cl C X.env) fp) ifs tt) (he : ∀ (s : Shared) (H : Hp) (C : Addr) (cl : List (Str × Addr)) (fp : List Addr), PE (X.blk s H scope (compEnvC scope cl C X.env) fp) elt te) (hs : ∀ x, foldedSetIterable iter X.env x = pure x := by intro _; rfl) :
    PS X (.Assign [.Name y py] (.ListComp elt [⟨tg, iter, ifs, 0⟩] scope pos) spos) (tAsg (tLc (iList X.K tl) g tt te (own.map (·.2))) (gName i)) := by
  constructor
  intro pins s σ H D I h
  rw [exec_Assign_Name_used _ _ _ _ sw]
  refine wpAny_bind (wpAny_standAt (wpAny_bind ?_))
  (show wpAny _ X.A (do let _ ← comprehension (.ListComp elt [⟨tg, iter, ifs, 0⟩] scope pos) scope X.env (firstIterPos [⟨tg, iter, ifs, 0⟩] pos) (newList []) false (eval iter X.env) (some (assign (.Name y py) X.env))) _ _ s)
  have h : tLc (iList X.K tl) g tt te (own.map (·.2)) σ H (fun z H1 => gName i z σ H1 D.nx) := h
  refine wpAny_bind (thn (lc_coreE (Qf := fun _ s2 => SP X pins D .next s2) hc hN I hi ok hg ht he hs h fun L C s1 m H' J q hn f => ?_) fun _ s2 hq => wpAny_pure (wpAny_pure hq))
  (show wpAny _ _ (assign (.Name y py) X.env (.ref L)) _ _ _)
  refine wpAny_assign_Name (store_ok2 (v := V.ref L) J hN hy (.inl loc) rfl (fun s2 J2 ⟨a, sb, ha⟩ => ?_) (.inr loc))
  obtain ⟨g0, g1, g2, g3, g4, g5⟩ := f
  have nC : C ≠ a := ha.elim (fun z => by rw [z]; exact g1) fun z e => g4 y a z e.symm
  exact ⟨m, hn.sameBut sb nC, fun h3 sb3 => ⟨_, H', J2.turned (t' := s2.toks) (fun b o hb e => (sb3.2 b hb).trans e) g0 g1 g3 g4 g5, q⟩⟩
theorem ksetE {S : Stmt} {tl : TE} {g : TG} {tt : TT} {te : TE} {vs : List Nat} {g2 : TG} (K : PySem.W.Frag) (p : PS X S (tAsg (tLc (iList X.K tl) g tt te vs) g2)) (h : X.K = K := by rfl) : PS X S (tAsg (tLc (iList K tl) g tt te vs) g2) := h ▸ p
theorem klcE {E : Expr} {tl : TE} {g : TG} {tt : TT} {te : TE} {vs : List Nat} (K : PySem.W.Frag) (p : PE X E (tLc (iList X.K tl) g tt te vs)) (h : X.K = K := by rfl) : PE X E (tLc (iList K tl) g tt te vs) := h ▸ p
theorem hotC_mk {xa : Addr} {oe : Obj} (hh : X.A.handled = some (.ref xa)) (hn : ∀ zs, oe.data = .fields zs → zs[2]? = some .none) (hf : ∃ zs, oe.data = .fields zs) (hp : (xa, oe) ∈ X.pn) : L2H.HotC X := by
  obtain ⟨zs, e⟩ := hf
  exact ⟨(xa, oe), ⟨hh, zs, e, hn zs e⟩, hp⟩
end
end HS
/-! Texts: one sign in a text, a text repeated, index, signs one by one, lists of texts against [], tuple(list). -/
namespace HS
open PySem PySem.Spec PyProof.Rows L2
def repS (x : Str) (n : Nat) : Str := ⟨(List.replicate n x.cps).foldl (· ++ ·) #[]⟩
theorem repS_tl (x : Str) (n : Nat) : TL.tl (repS x n) = (List.replicate n (TL.tl x)).flatten := by
  have h : ∀ (m : Nat) (acc : Array Nat), ((List.replicate m x.cps).foldl (· ++ ·) acc).toList = acc.toList ++ (List.replicate m (TL.tl x)).flatten := by
    intro m
    induction m with
    | zero => intro acc; simp
    | succ m ih => intro acc; rw [List.replicate_succ, List.foldl_cons, ih, List.replicate_succ, List.flatten_cons, Array.toList_append, List.append_assoc]
  exact h n #[]
theorem repS_len (x : Str) (n : Nat) : (repS x n).length = n * x.length := by
  rw [TL.len_tl, repS_tl, TL.len_tl, PyProof.Rows.lm_len_rep_flat]
theorem repS_one (x : Str) : repS x 1 = x := TL.ext_tl (by rw [repS_tl]; simp)
def rRepS : R2 := fun x y H Q => ∃ (z : Str) (k : Int), x = .str z ∧ y = .int k ∧ 0 ≤ k ∧ k ≤ 5000 ∧ z.length ≤ 300 ∧ Q (.str (repS z k.toNat)) H
theorem op_repS {X : Cx} : OpR X (binaryOp .Mult) rRepS := by
  intro pins s σ H x y v u Q I rx ry h
  obtain ⟨z, k, rfl, rfl, k0, k1, zl, q⟩ := h
  obtain ⟨t, rfl⟩ := rx
  obtain ⟨t', rfl⟩ := ry
  have hm : z.length * k.toNat ≤ 1500000 := Nat.le_trans (Nat.mul_le_mul zl (show k.toNat ≤ 5000 by omega)) (by decide)
  refine PySem.P.mul_str ?_ (fun a _ => ?_) (fun _ _ => ?_) ?_
  · rw [decide_eq_false (by omega), decide_eq_false (by omega)]; rfl
  · have : (300 : Int) ≤ (2 ^ 63 - 1) / k := by
      rw [Int.le_ediv_iff_mul_le (by omega)]
      omega
    omega
  · unfold Builtin.Str.tooLong
    rw [sizeLine_eq]
    exact decide_eq_false (by omega)
  · by_cases h0 : k < 1
    · rw [if_pos h0]
      have e : k.toNat = 0 := by omega
      rw [e] at q
      exact ⟨by decide, ⟨.str (repS z 0), H, I.tok _, ⟨_, rfl⟩, q⟩⟩
    · rw [if_neg h0]
      by_cases h1 : (k == 1 || z.length == 0) = true
      · rw [if_pos h1]
        have e : repS z k.toNat = z := by
          rw [Bool.or_eq_true, beq_iff_eq, beq_iff_eq] at h1
          rcases h1 with h1 | h1
          · rw [h1]; exact repS_one z
          · refine TL.ext_tl ?_
            have e0 : TL.tl z = [] := List.eq_nil_of_length_eq_zero (by rw [← TL.len_tl]; exact h1)
            rw [repS_tl, e0]
            simp
        rw [e] at q
        exact ⟨.str z, H, I, ⟨t, rfl⟩, q⟩
      · rw [if_neg h1]
        exact ⟨by show (repS z k.toNat).length ≤ sizeLine; rw [repS_len, sizeLine_eq, Nat.mul_comm]; omega, ⟨.str (repS z k.toNat), H, I.tok _, ⟨_, rfl⟩, q⟩⟩
section
variable {σ : L2.St} {H : Hp} {Q : VK} {te : TE} {K : PySem.W.Frag}
theorem mulS {z : Str} {k : Int} (h0 : 0 ≤ k) (h1 : k ≤ 5000) (h2 : z.length ≤ 300) (q : Q (.str (repS z k.toNat)) H) : rRepS (.str z) (.int k) H Q := ⟨z, k, rfl, rfl, h0, h1, h2, q⟩
theorem istr {R : It → Hp → Prop} (h : te σ H fun v H1 => ∃ x, v = .str x ∧ R (Its x) H1) : iStr te σ H R := h
theorem strV {x : Str} {q : Str → Prop} (h : q x) : ∃ y, V.str x = .str y ∧ q y := ⟨x, rfl, h⟩
theorem ltr {x : Str} {i : Nat} {c : Nat} (h : x.cps[i]? = some c) : (TL.tl x)[i]? = some c := by
  show x.cps.toList[i]? = some c
  rw [Array.getElem?_toList]; exact h
/-- texts of plain signs -/
def dStrs (xs : List Str) : PyData := .list (xs.map .str)
theorem dpAll_strs {H : Hp} : ∀ xs : List Str, DpAll K H (xs.map V.str) (xs.map .str)
  | [] => .nil
  | x :: r => .cons (.str x) (dpAll_strs r)
theorem lay_strs : ∀ xs : List Str, (∀ x ∈ xs, PyData.strOk x = true) → PyData.canLayAll0 (xs.map .str) = true
  | [], _ => rfl
  | x :: r, h => by
    rw [List.map_cons, PyData.canLayAll0, lay_strs r fun y hy => h y (List.mem_cons_of_mem _ hy), PyData.canLay0, h x List.mem_cons_self]; rfl
theorem dep_strs : ∀ xs : List Str, PyData.depthAll (xs.map .str) = 0
  | [] => rfl
  | x :: r => by rw [List.map_cons, PyData.depthAll, dep_strs r]; rfl
theorem ok_of {x : Str} (h : ∀ c ∈ TL.tl x, c < 128) : PyData.strOk x = true := by
  unfold PyData.strOk
  rw [← Array.all_toList, List.all_eq_true]
  intro c hc
  have := h c hc
  exact decide_eq_true (by omega)
theorem strs_nil {a b : Addr} {xs : List Str} (hx : ∀ x ∈ xs, PyData.strOk x = true) (h1 : SqL K H a (xs.map V.str)) (h2 : SqL K H b []) :
    ∃ d e, Dp K H (.ref a) d ∧ Dp K H (.ref b) e ∧ SeqAt.shaped d = true ∧ SeqAt.shaped e = true ∧ PyData.eqv d e = decide (xs = []) := by
  refine ⟨dStrs xs, dStrs [], .lst h1 (dpAll_strs xs), .lst h2 .nil, ?_, by decide +kernel, ?_⟩
  · unfold SeqAt.shaped dStrs
    rw [PyData.canLay0, PyData.depth, lay_strs xs hx, dep_strs]; rfl
  · unfold dStrs
    rw [PyData.eqv]
    cases xs with
    | nil => rfl
    | cons x r => rfl
theorem neSt {a b : Addr} {xs : List Str} (hx : ∀ x ∈ xs, PyData.strOk x = true) (h1 : SqL K H a (xs.map V.str)) (h2 : SqL K H b []) (q : Q (.bl (!decide (xs = []))) H) : rNeD K (.ref a) (.ref b) H Q := by
  obtain ⟨d, e, h3, h4, h5, h6, h7⟩ := strs_nil hx h1 h2
  exact ⟨d, e, h3, h4, h5, h6, by rw [h7]; exact q⟩
theorem eqSt {a b : Addr} {xs : List Str} (hx : ∀ x ∈ xs, PyData.strOk x = true) (h1 : SqL K H a (xs.map V.str)) (h2 : SqL K H b []) (q : Q (.bl (decide (xs = []))) H) : rEqD K (.ref a) (.ref b) H Q := by
  obtain ⟨d, e, h3, h4, h5, h6, h7⟩ := strs_nil hx h1 h2
  exact ⟨d, e, h3, h4, h5, h6, by rw [h7]; exact q⟩
end
def rTup (K : PySem.W.Frag) : List V → Hp → VK → Prop := fun xs H Q => ∃ p ys, xs = [.ref p] ∧ ((SqL K H p ys ∧ ∀ l, H l = none → Q (.ref l) (upd H l (.tup ys))) ∨ (SqT K H p ys ∧ Q (.ref p) H))
theorem ktup {X : Cx} (K : PySem.W.Frag) (h : X.K = K := by rfl) : CallR X (.type "tuple") (rTup K) := h ▸ call_tuple_of
theorem tupL {K : PySem.W.Frag} {H : Hp} {Q : VK} {p : Addr} {ys : List V} (h : SqL K H p ys) (q : ∀ l, H l = none → Q (.ref l) (upd H l (.tup ys))) : rTup K [.ref p] H Q := ⟨p, ys, rfl, .inl ⟨h, q⟩⟩
end HS
namespace WK42
open PySem PySem.Spec PyProof.Rows L2
theorem same3 {K : PySem.W.Frag} {H : Hp} {n : Nat} {a b : Addr} {x y : Str} {c : Bool} (h1 : H a = some (.tup [.str x, .str y, .bl c])) (h2 : H b = some (.tup [.str x, .str y, .bl c])) : HS.SmV K H (n + 1) (.ref a) (.ref b) := by
  refine .tup h1 h2 rfl (show 3 ≤ 1000 by decide) fun i u v g1 g2 => ?_
  rw [g1] at g2
  cases g2
  match i, g1 with
  | 0, g1 => cases g1; exact .str _
  | 1, g1 => cases g1; exact .str _
  | 2, g1 => cases g1; exact .bl _
  | _ + 3, g1 => cases g1
/-- the source of draws at s, its digits at d; n: at most so many mixed draws so far -/
def Src (H : Hp) (s d : Addr) (n : Nat) : Prop := s ≠ d ∧ ∃ (gs : List Int) (l m c : Int), H s = some (.lst [.ref d, .int l, .int m, .int c]) ∧ H d = some (.lst (gs.map V.int)) ∧ (∀ x ∈ gs, 0 ≤ x) ∧ gs.length ≤ 63 ∧ 0 ≤ l ∧ 0 ≤ m ∧ m < 2 ^ 61 ∧ 0 ≤ c ∧ c ≤ n
/-- lengths of chapters -/
def Book (ls : List Int) : Prop := ∀ x ∈ ls, 1 ≤ x ∧ x < 10 ^ 30
theorem Src.keep {H H' : Hp} {s d : Addr} {n : Nat} (h : Src H s d n) (e1 : H' s = H s) (e2 : H' d = H d) : Src H' s d n := by
  obtain ⟨hsd, gs, l, m, c, h1, h2, h3⟩ := h
  exact ⟨hsd, gs, l, m, c, by rw [e1]; exact h1, by rw [e2]; exact h2, h3⟩
theorem Src.new {H : Hp} {s d p : Addr} {n : Nat} {o : HO} (h : Src H s d n) (hp : H p = none) : Src (upd H p o) s d n := by
  obtain ⟨hsd, gs, l, m, c, h1, h2, h3⟩ := h
  exact ⟨hsd, gs, l, m, c, by rw [upd_ne (ne_of_none h1 hp)]; exact h1, by rw [upd_ne (ne_of_none h2 hp)]; exact h2, h3⟩
theorem Src.put {H : Hp} {s d p : Addr} {n : Nat} {o : HO} (h : Src H s d n) (e1 : p ≠ s) (e2 : p ≠ d) : Src (upd H p o) s d n := by
  obtain ⟨hsd, gs, l, m, c, h1, h2, h3⟩ := h
  exact ⟨hsd, gs, l, m, c, by rw [upd_ne e1.symm]; exact h1, by rw [upd_ne e2.symm]; exact h2, h3⟩
theorem Src.ne1 {H : Hp} {s d p : Addr} {n : Nat} (h : Src H s d n) (hp : H p = none) : p ≠ s := by
  obtain ⟨hsd, gs, l, m, c, h1, h2, h3⟩ := h
  exact (ne_of_none h1 hp).symm
theorem Src.ne2 {H : Hp} {s d p : Addr} {n : Nat} (h : Src H s d n) (hp : H p = none) : p ≠ d := by
  obtain ⟨hsd, gs, l, m, c, h1, h2, h3⟩ := h
  exact (ne_of_none h2 hp).symm
theorem Src.up {H : Hp} {s d : Addr} {n m : Nat} (h : Src H s d n) (e : n ≤ m) : Src H s d m := by
  obtain ⟨hsd, gs, l, m', c, h1, h2, h3, h4, h5, h6, h7, h8, h9⟩ := h
  exact ⟨hsd, gs, l, m', c, h1, h2, h3, h4, h5, h6, h7, h8, by omega⟩
/-- the page count of an edition -/
def pcount (ls : List Int) (j : Int) : Int := (ls.map fun x => (x + j - 1) / j).sum
theorem pcount_nil (j : Int) : pcount [] j = 0 := rfl
theorem pcount_cons (x : Int) (ls : List Int) (j : Int) : pcount (x :: ls) j = (x + j - 1) / j + pcount ls j := by unfold pcount; rw [List.map_cons, List.sum_cons]
theorem pcount_append (xs ys : List Int) (j : Int) : pcount (xs ++ ys) j = pcount xs j + pcount ys j := by unfold pcount; rw [List.map_append, List.sum_append]
/-- a page for each chapter, and one more for each full page of its other lines -/
theorem pcount_less1 {j : Int} (hj : 1 ≤ j) : ∀ ls : List Int, (ls.length : Int) + (ls.map fun x => (x - 1) / j).sum = pcount ls j
  | [] => rfl
  | x :: r => by
    have e : (x + j - 1) / j = (x - 1) / j + 1 := by rw [show x + j - 1 = (x - 1) + j * 1 by omega, Int.add_mul_ediv_left _ _ (by omega)]
    rw [pcount_cons, ← pcount_less1 hj r, e, List.length_cons, List.map_cons, List.sum_cons]
    push_cast
    omega
theorem pcount_take {ls : List Int} {i : Nat} {x : Int} (j : Int) (h : ls[i]? = some x) : pcount (ls.take (i + 1)) j = pcount (ls.take i) j + (x + j - 1) / j := by
  obtain ⟨h1, h2⟩ := List.getElem?_eq_some_iff.mp h
  rw [List.take_add_one, h, pcount_append]
  show _ + pcount [x] j = _
  rw [pcount_cons, pcount_nil]; omega
theorem ceil_pos {x j : Int} (hx : 1 ≤ x) (hj : 1 ≤ j) : 1 ≤ (x + j - 1) / j := by
  rw [Int.le_ediv_iff_mul_le (by omega)]; omega
theorem pcount_len {ls : List Int} {j : Int} (hp : ∀ x ∈ ls, 1 ≤ x) (hj : 1 ≤ j) : (ls.length : Int) ≤ pcount ls j := by
  induction ls with
  | nil => exact Int.le_refl 0
  | cons x r ih =>
    rw [pcount_cons, List.length_cons]
    have := ceil_pos (hp x List.mem_cons_self) hj
    have := ih fun y hy => hp y (List.mem_cons_of_mem _ hy)
    omega
theorem pcount_pos {ls : List Int} {j : Int} (hp : ∀ x ∈ ls, 1 ≤ x) (hj : 1 ≤ j) : 0 ≤ pcount ls j := by
  have := pcount_len hp hj; omega
theorem take_all {ls : List Int} {P : Int → Prop} (h : ∀ x ∈ ls, P x) (n : Nat) : ∀ x ∈ ls.take n, P x := fun x hx => h x (List.mem_of_mem_take hx)
theorem Src.same {H H' : Hp} {s d : Addr} {n : Nat} (h : Src H s d n) (k : HS.Keep (fun _ => False) H H') : Src H' s d n := by
  obtain ⟨hsd, gs, l, m, c, h1, h2, h3⟩ := h
  exact ⟨hsd, gs, l, m, c, k _ _ h1 id, k _ _ h2 id, h3⟩
theorem sum_book {ls : List Int} (h : Book ls) : (ls.length : Int) ≤ ls.sum ∧ ls.sum ≤ ls.length * (10 ^ 30) := by
  induction ls with
  | nil => exact ⟨Int.le_refl _, Int.le_refl _⟩
  | cons x r ih =>
    have := ih fun y hy => h y (List.mem_cons_of_mem _ hy)
    have := h x List.mem_cons_self
    rw [List.sum_cons, List.length_cons]
    push_cast
    omega
/-! Sums of ceilings. -/
theorem ceil_le {x j q : Int} (hj : 1 ≤ j) : (x + j - 1) / j ≤ q ↔ x ≤ q * j := by
  rw [← Int.lt_add_one_iff, Int.ediv_lt_iff_lt_mul (by omega), Int.add_mul]
  omega
theorem ceil_up {x j : Int} (hj : 1 ≤ j) : x ≤ (x + j - 1) / j * j := (ceil_le hj).mp (Int.le_refl _)
theorem ceil_dn {x j : Int} (hj : 1 ≤ j) : (x + j - 1) / j * j ≤ x + j - 1 := Int.ediv_mul_le _ (by omega)
theorem ceil_nonneg {x j : Int} (hx : 0 ≤ x) (hj : 1 ≤ j) : 0 ≤ (x + j - 1) / j := Int.ediv_nonneg (by omega) (by omega)
theorem pcount_up (ls : List Int) {j : Int} (hj : 1 ≤ j) : ls.sum ≤ pcount ls j * j := by
  induction ls with
  | nil => rw [pcount_nil]; simp
  | cons x r ih =>
    rw [pcount_cons, List.sum_cons, Int.add_mul]
    have := ceil_up (x := x) hj
    omega
theorem pcount_ceil (ls : List Int) {j : Int} (hj : 1 ≤ j) : (ls.sum + j - 1) / j ≤ pcount ls j := (ceil_le hj).mpr (pcount_up ls hj)
theorem pcount_dn (ls : List Int) {j : Int} (hj : 1 ≤ j) : (pcount ls j - ls.length) * j ≤ ls.sum - ls.length := by
  induction ls with
  | nil => rw [pcount_nil]; simp
  | cons x r ih =>
    rw [pcount_cons, List.sum_cons, List.length_cons]
    have := ceil_dn (x := x) hj
    have e : ((x + j - 1) / j + pcount r j - ((r.length + 1 : Nat) : Int)) * j = (x + j - 1) / j * j - j + (pcount r j - r.length) * j := by
      rw [show ((x + j - 1) / j + pcount r j - ((r.length + 1 : Nat) : Int)) = ((x + j - 1) / j - 1) + (pcount r j - r.length) by push_cast; omega, Int.add_mul, Int.sub_mul, Int.one_mul]
    rw [e]
    push_cast
    omega
theorem pcount_most (ls : List Int) {j : Int} (hj : 1 ≤ j) : pcount ls j ≤ ls.length + (ls.sum - ls.length) / j := by
  have := (Int.le_ediv_iff_mul_le (by omega : 0 < j)).mpr (pcount_dn ls hj)
  omega
theorem pcount_anti {ls : List Int} {j k : Int} (hp : ∀ x ∈ ls, 1 ≤ x) (hj : 1 ≤ j) (hk : j ≤ k) : pcount ls k ≤ pcount ls j := by
  induction ls with
  | nil => exact Int.le_refl _
  | cons x r ih =>
    rw [pcount_cons, pcount_cons]
    have h1 := ih fun y hy => hp y (List.mem_cons_of_mem _ hy)
    have hx := hp x List.mem_cons_self
    have h2 : (x + k - 1) / k ≤ (x + j - 1) / j := (ceil_le (by omega)).mpr (Int.le_trans (ceil_up hj) (Int.mul_le_mul_of_nonneg_left hk (ceil_nonneg (by omega) hj)))
    omega
theorem pcount_mult {ls : List Int} {j m : Int} (hj : 1 ≤ j) (hm : 1 ≤ m) : pcount ls j ≤ m * pcount ls (j * m) := by
  have hjm : 1 ≤ j * m := by have := Int.mul_le_mul hj hm (by omega) (by omega); omega
  induction ls with
  | nil => rw [pcount_nil, pcount_nil, Int.mul_zero]; exact Int.le_refl _
  | cons x r ih =>
    rw [pcount_cons, pcount_cons, Int.mul_add]
    have h2 : (x + j - 1) / j ≤ m * ((x + j * m - 1) / (j * m)) := (ceil_le hj).mpr (by
      have := ceil_up (x := x) hjm
      rw [show m * ((x + j * m - 1) / (j * m)) * j = (x + j * m - 1) / (j * m) * (j * m) by rw [Int.mul_comm m, Int.mul_assoc, Int.mul_comm m j]]
      exact this)
    omega
theorem pcount_reverse (ls : List Int) (j : Int) : pcount ls.reverse j = pcount ls j := by
  induction ls with
  | nil => rfl
  | cons x r ih => rw [List.reverse_cons, pcount_append, ih, pcount_cons, pcount_cons, pcount_nil]; omega
theorem pcount_cut (ls : List Int) (n : Nat) (j : Int) : pcount (ls.take n) j + pcount (ls.drop n) j = pcount ls j := by
  rw [← pcount_append, List.take_append_drop]
theorem ceil_join {x y j : Int} (hj : 1 ≤ j) : (x + y + j - 1) / j ≤ (x + j - 1) / j + (y + j - 1) / j ∧ (x + j - 1) / j + (y + j - 1) / j ≤ (x + y + j - 1) / j + 1 := by
  have a1 := ceil_up (x := x) hj
  have a2 := ceil_dn (x := x) hj
  have b1 := ceil_up (x := y) hj
  have b2 := ceil_dn (x := y) hj
  have c1 := ceil_up (x := x + y) hj
  refine ⟨(ceil_le hj).mpr (by rw [Int.add_mul]; omega), ?_⟩
  generalize (x + j - 1) / j = p at *
  generalize (y + j - 1) / j = q at *
  generalize (x + y + j - 1) / j = r at *
  apply Int.le_of_lt_add_one
  apply Int.lt_of_not_ge
  intro h
  have h1 : (r + 2) * j ≤ (p + q) * j := Int.mul_le_mul_of_nonneg_right (by omega) (by omega)
  rw [Int.add_mul, Int.add_mul] at h1
  omega
theorem pcount_sum {ls : List Int} {j : Int} (hp : ∀ x ∈ ls, 1 ≤ x) (hl : (ls.length : Int) ≤ ls.sum) (hj : 1 ≤ j) : pcount ls j ≤ ls.sum := by
  have := pcount_most ls hj
  have := Int.ediv_le_self j (show 0 ≤ ls.sum - ls.length by omega)
  omega
/-! The text of a book. -/
open PySem in
def numS (z : Int) : Str := Str.ofString (toString z)
open PySem in
def partS (m z : Int) : Str := if m = 1 then numS z else numS m ++ "x" ++ numS z
section
open PySem
theorem numS_tl {z : Int} (h : 0 ≤ z) : TL.tl (numS z) = TL.numL z.toNat := by
  obtain ⟨n, rfl⟩ := Int.eq_ofNat_of_zero_le h
  unfold numS
  rw [TL.tl_num]
  rfl
theorem numS_free {k : Nat} (hk : k < 48 ∨ 57 < k) {z : Int} (h : 0 ≤ z) : ¬ k ∈ TL.tl (numS z) := by
  rw [numS_tl h]
  exact TL.numL_free hk
theorem numS_inj {z w : Int} (hz : 0 ≤ z) (hw : 0 ≤ w) (e : numS z = numS w) : z = w := by
  have := congrArg TL.tl e
  rw [numS_tl hz, numS_tl hw] at this
  have := TL.numL_inj this
  omega
theorem numS_len {z : Int} (h : 0 ≤ z) (h1 : z < 2 ^ 200) : (numS z).length ≤ 61 := PyProof.Rows.toString_length_le h (by decide) (by omega)
theorem x_tl : TL.tl ("x" : Str) = [120] := by rw [TL.tl_ofString]; rfl
theorem sep_tl : TL.tl (" + " : Str) = [32, 43, 32] := by rw [TL.tl_ofString]; rfl
theorem empty_tl : TL.tl ("empty" : Str) = [101, 109, 112, 116, 121] := by rw [TL.tl_ofString]; rfl
theorem partS_free {m z : Int} (hm : 0 ≤ m) (hz : 0 ≤ z) : ¬ 32 ∈ TL.tl (partS m z) := by
  unfold partS
  split
  · exact numS_free (.inl (by decide)) hz
  · rw [TL.tl_append, TL.tl_append, x_tl, List.mem_append, List.mem_append]
    rintro ((h | h) | h)
    · exact numS_free (.inl (by decide)) hm h
    · simp at h
    · exact numS_free (.inl (by decide)) hz h
theorem partS_len {m z : Int} (hm : 0 ≤ m) (hm1 : m < 2 ^ 200) (hz : 0 ≤ z) (hz1 : z < 2 ^ 200) : (partS m z).length ≤ 123 := by
  have a := numS_len hm hm1
  have b := numS_len hz hz1
  unfold partS
  split
  · omega
  · rw [TL.len_tl] at a b ⊢
    rw [TL.tl_append, TL.tl_append, x_tl, List.length_append, List.length_append]
    simp only [List.length_cons, List.length_nil]
    omega
theorem part_one {z : Int} (hz : 0 ≤ z) : Txt.partition (numS z) "x" = (numS z, Str.empty, Str.empty) := TL.partition_none x_tl (numS_free (.inr (by decide)) hz)
theorem part_more {m z : Int} (hm : 0 ≤ m) : Txt.partition (numS m ++ "x" ++ numS z) "x" = (numS m, ("x" : Str), numS z) := TL.partition_app x_tl (numS_free (.inr (by decide)) hm)
theorem x_ne : ("x" : Str) ≠ Str.empty := fun h => by
  have := congrArg TL.tl h
  rw [x_tl] at this
  cases this
theorem partS_inj {m z n w : Int} (hm : 0 ≤ m) (hz : 0 ≤ z) (hn : 0 ≤ n) (hw : 0 ≤ w) (e : partS m z = partS n w) : m = n ∧ z = w := by
  have p := congrArg (fun t => Txt.partition t "x") e
  unfold partS at e p
  by_cases h1 : m = 1 <;> by_cases h2 : n = 1
  · rw [if_pos h1, if_pos h2] at e
    exact ⟨by omega, numS_inj hz hw e⟩
  · rw [if_pos h1, if_neg h2] at p
    have p' : Txt.partition (numS z) "x" = Txt.partition (numS n ++ "x" ++ numS w) "x" := p
    rw [part_one hz, part_more hn] at p'
    exact absurd (Prod.mk.inj (Prod.mk.inj p').2).1.symm x_ne
  · rw [if_neg h1, if_pos h2] at p
    have p' : Txt.partition (numS m ++ "x" ++ numS z) "x" = Txt.partition (numS w) "x" := p
    rw [part_one hw, part_more hm] at p'
    exact absurd (Prod.mk.inj (Prod.mk.inj p').2).1 x_ne
  · rw [if_neg h1, if_neg h2] at p
    have p' : Txt.partition (numS m ++ "x" ++ numS z) "x" = Txt.partition (numS n ++ "x" ++ numS w) "x" := p
    rw [part_more hm, part_more hn] at p'
    exact ⟨numS_inj hm hn (Prod.mk.inj p').1, numS_inj hz hw (Prod.mk.inj (Prod.mk.inj p').2).2⟩
/-- stretches of equal numbers, behind k of the first that were seen before -/
def runs (k : Nat) : List Int → List (Int × Int)
  | [] => []
  | x :: r => if r.head? = some x then runs (k + 1) r else ((k : Int) + 1, x) :: runs 0 r
def spread (ps : List (Int × Int)) : List Int := ps.flatMap fun p => List.replicate p.1.toNat p.2
theorem runs_spread : ∀ {k : Nat} {x : Int} {r : List Int}, spread (runs k (x :: r)) = List.replicate k x ++ x :: r
  | k, x, [] => by
    rw [runs, if_neg (by simp)]
    show List.replicate ((k : Int) + 1).toNat x ++ [] = _
    rw [show ((k : Int) + 1).toNat = k + 1 by omega, List.append_nil, List.replicate_succ', ]
  | k, x, y :: r => by
    rw [runs]
    split
    · rename_i h
      have e : y = x := by simpa using h
      subst e
      rw [runs_spread, List.replicate_succ', List.append_assoc]
      rfl
    · show List.replicate ((k : Int) + 1).toNat x ++ spread (runs 0 (y :: r)) = _
      rw [runs_spread, show ((k : Int) + 1).toNat = k + 1 by omega, List.replicate_succ', List.append_assoc]
      rfl
theorem runs_mem : ∀ {ls : List Int} {k : Nat} {p : Int × Int}, p ∈ runs k ls → 1 ≤ p.1 ∧ p.1 ≤ (k : Int) + ls.length ∧ p.2 ∈ ls
  | [], _, _, h => by cases h
  | x :: r, k, p, h => by
    rw [runs] at h
    split at h
    · have := runs_mem h
      rw [List.length_cons]
      exact ⟨this.1, by push_cast; omega, List.mem_cons_of_mem _ this.2.2⟩
    · rw [List.length_cons]
      rcases List.mem_cons.mp h with h | h
      · subst h
        exact ⟨by show 1 ≤ (k : Int) + 1; omega, by show (k : Int) + 1 ≤ _; push_cast; omega, List.mem_cons_self⟩
      · have := runs_mem h
        exact ⟨this.1, by push_cast; omega, List.mem_cons_of_mem _ this.2.2⟩
theorem runs_len : ∀ (ls : List Int) (k : Nat), (runs k ls).length ≤ ls.length
  | [], _ => Nat.le_refl _
  | x :: r, k => by
    rw [runs]
    split
    · exact Nat.le_succ_of_le (runs_len r _)
    · exact Nat.succ_le_succ (runs_len r _)
theorem runs_ne {x : Int} {r : List Int} {k : Nat} : runs k (x :: r) ≠ [] := fun z => by
  have := runs_spread (k := k) (x := x) (r := r)
  rw [z] at this
  have := congrArg List.length this
  rw [List.length_append, List.length_cons] at this
  have : (0 : Nat) = _ := this
  omega
def partsOf (ls : List Int) : List Str := (runs 0 ls).map fun p => partS p.1 p.2
def textOf (ls : List Int) : Str := if ls = [] then "empty" else Txt.join " + " (partsOf ls)
theorem partsOf_free {ls : List Int} (h : ∀ x ∈ ls, 0 ≤ x) : ∀ p ∈ partsOf ls, ¬ 32 ∈ TL.tl p := fun p hp => by
  obtain ⟨q, hq, rfl⟩ := List.mem_map.mp hp
  have := runs_mem hq
  exact partS_free (by omega) (h _ this.2.2)
theorem split_parts {ps : List Str} (hn : ps ≠ []) (h : ∀ p ∈ ps, ¬ 32 ∈ TL.tl p) : Txt.split (Txt.join " + " ps) " + " = ps := TL.split_join sep_tl (by decide +kernel) hn h
theorem map_inj {α β : Type} {f : α → β} : ∀ {xs ys : List α}, (∀ x ∈ xs, ∀ y ∈ ys, f x = f y → x = y) → xs.map f = ys.map f → xs = ys
  | [], [], _, _ => rfl
  | [], _ :: _, _, e => by cases e
  | _ :: _, [], _, e => by cases e
  | x :: xs, y :: ys, h, e => by
    rw [List.map_cons, List.map_cons] at e
    injection e with e1 e2
    rw [h x List.mem_cons_self y List.mem_cons_self e1, map_inj (fun a ha b hb => h a (List.mem_cons_of_mem _ ha) b (List.mem_cons_of_mem _ hb)) e2]
theorem partsOf_inj {xs ys : List Int} (hx : ∀ x ∈ xs, 0 ≤ x) (hy : ∀ x ∈ ys, 0 ≤ x) (nx : xs ≠ []) (ny : ys ≠ []) (e : partsOf xs = partsOf ys) : xs = ys := by
  have e2 : runs 0 xs = runs 0 ys := map_inj (fun p hp q hq e => by
    have a := runs_mem hp
    have b := runs_mem hq
    obtain ⟨c, d⟩ := partS_inj (by omega) (hx _ a.2.2) (by omega) (hy _ b.2.2) e
    exact Prod.ext c d) e
  cases xs with
  | nil => exact absurd rfl nx
  | cons x r =>
    cases ys with
    | nil => exact absurd rfl ny
    | cons y s =>
      have := congrArg spread e2
      rw [runs_spread, runs_spread] at this
      exact this
theorem textOf_not_empty {x : Int} {r : List Int} (h : ∀ y ∈ x :: r, 0 ≤ y) : textOf (x :: r) ≠ ("empty" : Str) := fun e => by
  unfold textOf at e
  rw [if_neg (by simp)] at e
  have ne : partsOf (x :: r) ≠ [] := fun z => runs_ne (List.map_eq_nil_iff.mp z)
  have s := congrArg (fun t => Txt.split t " + ") e
  have s' : Txt.split (Txt.join " + " (partsOf (x :: r))) " + " = Txt.split "empty" " + " := s
  have j : Txt.join " + " [("empty" : Str)] = ("empty" : Str) := by
    rw [TL.join_eq]
    apply TL.ext_tl
    rw [TL.tl_join]
    decide +kernel
  have f : ∀ p ∈ [("empty" : Str)], ¬ 32 ∈ TL.tl p := fun p hp => by rw [List.mem_singleton.mp hp, empty_tl]; decide
  rw [split_parts ne (partsOf_free h), ← j, split_parts (by simp) f] at s'
  have m : ("empty" : Str) ∈ partsOf (x :: r) := by rw [s']; exact List.mem_singleton.mpr rfl
  obtain ⟨q, hq, eq⟩ := List.mem_map.mp m
  have hq := runs_mem hq
  have t := congrArg TL.tl eq
  rw [empty_tl] at t
  have mem : 101 ∈ TL.tl (partS q.1 q.2) := by rw [t]; exact List.mem_cons_self
  unfold partS at mem
  split at mem
  · exact numS_free (.inr (by decide)) (h _ hq.2.2) mem
  · rw [TL.tl_append, TL.tl_append, x_tl, List.mem_append, List.mem_append] at mem
    rcases mem with (g | g) | g
    · exact numS_free (.inr (by decide)) (by omega) g
    · simp at g
    · exact numS_free (.inr (by decide)) (h _ hq.2.2) g
theorem textOf_inj {xs ys : List Int} (hx : ∀ x ∈ xs, 0 ≤ x) (hy : ∀ x ∈ ys, 0 ≤ x) : textOf xs = textOf ys ↔ xs = ys := by
  refine ⟨fun e => ?_, fun e => by rw [e]⟩
  cases xs with
  | nil =>
    cases ys with
    | nil => rfl
    | cons y s => exact absurd e.symm (textOf_not_empty hy)
  | cons x r =>
    cases ys with
    | nil => exact absurd e (textOf_not_empty hx)
    | cons y s =>
      refine partsOf_inj hx hy (by simp) (by simp) ?_
      unfold textOf at e
      rw [if_neg (by simp), if_neg (by simp)] at e
      have s' := congrArg (fun t => Txt.split t " + ") e
      have s'' : Txt.split (Txt.join " + " (partsOf (x :: r))) " + " = Txt.split (Txt.join " + " (partsOf (y :: s))) " + " := s'
      have nx : partsOf (x :: r) ≠ [] := fun z => runs_ne (List.map_eq_nil_iff.mp z)
      have ny : partsOf (y :: s) ≠ [] := fun z => runs_ne (List.map_eq_nil_iff.mp z)
      rw [split_parts nx (partsOf_free hx), split_parts ny (partsOf_free hy)] at s''
      exact s''
theorem parts_bound {ls : List Int} (h : ∀ x ∈ ls, 0 ≤ x ∧ x < 2 ^ 200) (hl : ls.length ≤ 99999) : ((partsOf ls).map fun p => p.length).sum + (partsOf ls).length * (" + " : Str).length ≤ 16777216 := by
  have a : (" + " : Str).length = 3 := by rw [TL.len_tl, sep_tl]; rfl
  have b : (partsOf ls).length ≤ 99999 := by unfold partsOf; rw [List.length_map]; exact Nat.le_trans (runs_len ls 0) hl
  have c : ∀ ps : List Str, (∀ p ∈ ps, p.length ≤ 123) → (ps.map fun p => p.length).sum ≤ ps.length * 123 := fun ps => by
    induction ps with
    | nil => intro _; exact Nat.le_refl _
    | cons p r ih =>
      intro h
      rw [List.map_cons, List.sum_cons, List.length_cons]
      have := h p List.mem_cons_self
      have := ih fun q hq => h q (List.mem_cons_of_mem _ hq)
      omega
  have d := c (partsOf ls) fun p hp => by
    obtain ⟨q, hq, rfl⟩ := List.mem_map.mp hp
    have m := runs_mem hq
    have := h _ m.2.2
    exact partS_len (by omega) (by omega) (by omega) (by omega)
  rw [a]
  omega
theorem emp_app (x : Str) : Str.empty ++ x = x := TL.ext_tl (by rw [TL.tl_append]; rfl)
theorem lenA (x y : Str) : (x ++ y).length = x.length + y.length := by rw [TL.len_tl, TL.tl_append, List.length_append, ← TL.len_tl, ← TL.len_tl]
theorem x_len : ("x" : Str).length = 1 := by rw [TL.len_tl, x_tl]; rfl
theorem numS_one {z : Int} (h : 0 ≤ z) (h1 : z < 10) : TL.tl (numS z) = [48 + z.toNat] := by rw [numS_tl h, TL.numL_lt (by omega)]
theorem text_5335 : textOf [5, 3, 3, 5] = ("5 + 2x3 + 5" : Str) := by
  have r : partsOf [5, 3, 3, 5] = [numS 5, numS 2 ++ "x" ++ numS 3, numS 5] := rfl
  show Txt.join " + " (partsOf [5, 3, 3, 5]) = _
  rw [r, TL.join_eq]
  apply TL.ext_tl
  rw [TL.tl_join, sep_tl, TL.tl_ofString, List.map_cons, List.map_cons, List.map_cons, List.map_nil, TL.tl_append, TL.tl_append, x_tl, numS_one (by decide) (by decide), numS_one (by decide) (by decide), numS_one (by decide) (by decide)]
  decide +kernel
theorem glue_len (y : Str) : ∀ ps : List Str, (TL.joinL (TL.tl y) (ps.map TL.tl)).length ≤ (ps.map fun p => p.length).sum + ps.length * y.length
  | [] => by rw [List.map_nil, TL.joinL]; simp
  | [p] => by
    rw [List.map_cons, List.map_nil, TL.joinL, ← TL.len_tl]
    simp
  | p :: q :: r => by
    have ih := glue_len y (q :: r)
    rw [List.map_cons, List.map_cons, TL.joinL, List.length_append, List.length_append, ← TL.len_tl, ← TL.len_tl]
    have e : ((p :: q :: r).map fun p => p.length).sum = p.length + ((q :: r).map fun p => p.length).sum := by rw [List.map_cons, List.sum_cons]
    rw [e, show (p :: q :: r).length = (q :: r).length + 1 from rfl, Nat.add_mul, Nat.one_mul]
    rw [List.map_cons] at ih
    omega
theorem textOf_len {ls : List Int} (h : ∀ x ∈ ls, 0 ≤ x ∧ x < 2 ^ 200) (hl : ls.length ≤ 40) : (textOf ls).length ≤ 5100 := by
  by_cases e : ls = []
  · subst e
    rw [show textOf [] = ("empty" : Str) from if_pos rfl, TL.len_tl, empty_tl]
    decide
  · rw [show textOf ls = Txt.join " + " (partsOf ls) from if_neg e, TL.join_eq, TL.len_tl, TL.tl_join]
    have g := glue_len " + " (partsOf ls)
    have a : (" + " : Str).length = 3 := by rw [TL.len_tl, sep_tl]; rfl
    have b : (partsOf ls).length ≤ 40 := by unfold partsOf; rw [List.length_map]; exact Nat.le_trans (runs_len ls 0) hl
    have c : ∀ ps : List Str, (∀ p ∈ ps, p.length ≤ 123) → (ps.map fun p => p.length).sum ≤ ps.length * 123 := fun ps => by
      induction ps with
      | nil => intro _; exact Nat.le_refl _
      | cons p r ih =>
        intro h
        rw [List.map_cons, List.sum_cons, List.length_cons]
        have := h p List.mem_cons_self
        have := ih fun q hq => h q (List.mem_cons_of_mem _ hq)
        omega
    have d := c (partsOf ls) fun p hp => by
      obtain ⟨q, hq, rfl⟩ := List.mem_map.mp hp
      have m := runs_mem hq
      have := h _ m.2.2
      exact partS_len (by omega) (by omega) (by omega) (by omega)
    rw [a] at g
    omega
end
/-! Books read from texts. -/
section
open PySem
def isNumL (L : List Nat) : Bool := (decide (L ≠ []) && L.all fun c => decide (48 ≤ c ∧ c ≤ 57)) && (decide (L.head? ≠ some 48) && decide (L.length ≤ 40))
def numR (w : Str) : Int := if isNumL (TL.tl w) then (NumText.digitsVal (TL.tl w) : Nat) else 0
def chR (p : Str) : Int × Int :=
  if (Txt.partition p "x").2.1 = Str.empty then (1, numR p)
  else if numR (Txt.partition p "x").1 = 1 then (0, 0)
  else (numR (Txt.partition p "x").1, numR (Txt.partition p "x").2.2)
def goR : List Str → Int → Option (List (Int × Int))
  | [], _ => some []
  | p :: ps, b => if (chR p).1 = 0 ∨ (chR p).2 = 0 ∨ (chR p).2 = b then none else (goR ps (chR p).2).map fun r => chR p :: r
def readR (t : Str) : Option (List Int) := if t = "empty" then some [] else (goR (Txt.split t " + ") 0).map spread
theorem digit_nat {c : Nat} (h : c < 128) : Unicode.isDigit c = decide (48 ≤ c ∧ c ≤ 57) := by
  have : ∀ c < 128, Unicode.isDigit c = decide (48 ≤ c ∧ c ≤ 57) := by decide +kernel
  exact this c h
theorem asc_dig (w : Str) : (Txt.isascii w && Txt.isdigit w) = (decide (TL.tl w ≠ []) && (TL.tl w).all fun c => decide (48 ≤ c ∧ c ≤ 57)) := by
  unfold Txt.isascii Txt.isdigit
  rw [← Array.all_toList, ← Array.all_toList, TL.len_tl, show w.cps.toList = TL.tl w from rfl]
  generalize TL.tl w = l
  have e0 : decide (l.length > 0) = decide (l ≠ []) := by cases l <;> simp
  rw [e0, ← Bool.and_assoc, Bool.and_comm (l.all _) (decide _), Bool.and_assoc]
  congr 1
  induction l with
  | nil => rfl
  | cons c r ih =>
    rw [List.all_cons, List.all_cons, List.all_cons]
    by_cases h : c < 128
    · rw [digit_nat h, decide_eq_true h, Bool.true_and, ← ih (by cases r <;> simp)]
      cases decide (48 ≤ c ∧ c ≤ 57) <;> cases r.all (fun x => decide (x < 128)) <;> rfl
    · rw [decide_eq_false h, Bool.false_and, Bool.false_and, decide_eq_false (by omega), Bool.false_and]
theorem numL_head : ∀ {n : Nat}, 1 ≤ n → (TL.numL n).head? ≠ some 48 := by
  intro n
  induction n using Nat.strongRecOn with
  | _ n ih =>
    intro h1
    rcases Nat.lt_or_ge n 10 with h | h
    · rw [TL.numL_lt h]
      intro z
      have := Option.some.inj z
      omega
    · rw [TL.numL_step h]
      have i := ih (n / 10) (Nat.div_lt_self (by omega) (by decide)) (by omega)
      have ne := TL.numL_ne (n / 10)
      cases hL : TL.numL (n / 10) with
      | nil => exact absurd hL ne
      | cons c r => rw [hL] at i; exact i
theorem numL_of : ∀ {L : List Nat}, L ≠ [] → NumText.AllDigits L → L.head? ≠ some 48 → 1 ≤ NumText.digitsVal L ∧ TL.numL (NumText.digitsVal L) = L := by
  intro L
  induction hn : L.length generalizing L with
  | zero => intro h; exact absurd (List.length_eq_zero_iff.mp hn) h
  | succ n ih =>
    intro hne hd hh
    obtain ⟨M, d, rfl⟩ : ∃ M d, L = M ++ [d] := ⟨L.dropLast, L.getLast hne, (List.dropLast_concat_getLast hne).symm⟩
    have hv : NumText.digitsVal (M ++ [d]) = NumText.digitsVal M * 10 + (d - 48) := by unfold NumText.digitsVal; rw [List.foldl_append]; rfl
    have hdd := hd d (by simp)
    by_cases e : M = []
    · subst e
      have hd48 : d ≠ 48 := fun z => hh (by rw [z]; rfl)
      rw [hv, show NumText.digitsVal [] = 0 from rfl, show 0 * 10 + (d - 48) = d - 48 by omega, TL.numL_lt (by omega)]
      exact ⟨by omega, by rw [show 48 + (d - 48) = d by omega]; rfl⟩
    · have hl : M.length = n := by rw [List.length_append] at hn; simpa using hn
      obtain ⟨a, b⟩ := ih hl e (fun c hc => hd c (by simp [hc])) (by
        cases M with
        | nil => exact absurd rfl e
        | cons c r => exact hh)
      rw [hv, TL.numL_step (by omega), show (NumText.digitsVal M * 10 + (d - 48)) / 10 = NumText.digitsVal M by omega, show (NumText.digitsVal M * 10 + (d - 48)) % 10 = d - 48 by omega, b, show 48 + (d - 48) = d by omega]
      exact ⟨by omega, rfl⟩
theorem isNum_digits {L : List Nat} (h : isNumL L = true) : L ≠ [] ∧ NumText.AllDigits L ∧ L.head? ≠ some 48 ∧ L.length ≤ 40 := by
  unfold isNumL at h
  simp only [Bool.and_eq_true, decide_eq_true_eq, List.all_eq_true] at h
  exact ⟨h.1.1, h.1.2, h.2.1, h.2.2⟩
theorem numR_nn (w : Str) : 0 ≤ numR w := by unfold numR; split <;> omega
/-- a number is written in one way -/
theorem numR_canon {w : Str} (h : numR w ≠ 0) : w = numS (numR w) ∧ 1 ≤ numR w := by
  unfold numR at h ⊢
  split at h
  · rename_i g
    rw [if_pos g]
    obtain ⟨a, b, c, _⟩ := isNum_digits g
    obtain ⟨d, e⟩ := numL_of a b c
    refine ⟨TL.ext_tl ?_, by omega⟩
    rw [numS_tl (by omega), Int.toNat_natCast, e]
  · exact absurd rfl h
theorem numR_numS {z : Int} (h1 : 1 ≤ z) (h2 : z < 10 ^ 40) : numR (numS z) = z := by
  unfold numR
  rw [numS_tl (by omega)]
  have g : isNumL (TL.numL z.toNat) = true := by
    unfold isNumL
    simp only [Bool.and_eq_true, decide_eq_true_eq, List.all_eq_true]
    exact ⟨⟨TL.numL_ne _, TL.numL_digits _⟩, numL_head (by omega), TL.numL_len (by decide) (by omega)⟩
  rw [if_pos g, TL.numL_val]
  omega
theorem chR_partS {m z : Int} (h1 : 1 ≤ m) (h2 : m < 10 ^ 40) (h3 : 1 ≤ z) (h4 : z < 10 ^ 40) : chR (partS m z) = (m, z) := by
  unfold chR partS
  by_cases e : m = 1
  · rw [if_pos e, part_one (by omega), if_pos rfl, numR_numS h3 h4, e]
  · rw [if_neg e, part_more (by omega), if_neg x_ne]
    show (if numR (numS m) = 1 then (0, 0) else (numR (numS m), numR (numS z))) = _
    rw [numR_numS h1 h2, numR_numS h3 h4, if_neg e]
/-- neighbours are unlike, also the first and b -/
def unlike (b : Int) : List (Int × Int) → Prop
  | [] => True
  | p :: r => p.2 ≠ b ∧ unlike p.2 r
def Good (ps : List (Int × Int)) : Prop := ∀ p ∈ ps, 1 ≤ p.1 ∧ p.1 < 10 ^ 40 ∧ 1 ≤ p.2 ∧ p.2 < 10 ^ 40
theorem goR_parts : ∀ {ps : List (Int × Int)} {b : Int}, Good ps → unlike b ps → goR (ps.map fun p => partS p.1 p.2) b = some ps
  | [], _, _, _ => rfl
  | p :: r, b, h, u => by
    obtain ⟨h1, h2, h3, h4⟩ := h p List.mem_cons_self
    rw [List.map_cons, goR, chR_partS h1 h2 h3 h4]
    have hn : ¬ (p.1 = 0 ∨ p.2 = 0 ∨ p.2 = b) := by
      rintro (z | z | z)
      · omega
      · omega
      · exact u.1 z
    rw [if_neg hn]
    show (goR (r.map fun p => partS p.1 p.2) p.2).map (fun q => p :: q) = _
    rw [goR_parts (fun q hq => h q (List.mem_cons_of_mem _ hq)) u.2]
    rfl
theorem readR_parts {ps : List (Int × Int)} (hn : ps ≠ []) (h : Good ps) (u : unlike 0 ps) (ne : Txt.join " + " (ps.map fun p => partS p.1 p.2) ≠ ("empty" : Str)) : readR (Txt.join " + " (ps.map fun p => partS p.1 p.2)) = some (spread ps) := by
  unfold readR
  rw [if_neg ne, split_parts (by simpa using hn) (fun p hp => by
    obtain ⟨q, hq, rfl⟩ := List.mem_map.mp hp
    have := h q hq
    exact partS_free (by omega) (by omega)), goR_parts h u]
  rfl
theorem par_sound (S : List Nat) : ∀ (L acc a b : List Nat), TL.par S acc L = some (a, b) → acc ++ L = a ++ (S ++ b)
  | [], acc, a, b, h => by rw [TL.par] at h; cases h
  | c :: r, acc, a, b, h => by
    rw [TL.par] at h
    split at h
    · rename_i g
      injection h with h
      injection h with h1 h2
      subst h1 h2
      rw [TL.pre] at g
      have e : List.take S.length (c :: r) = S := by simpa using g
      have := List.take_append_drop S.length (c :: r)
      rw [e] at this
      rw [this]
    · have := par_sound S r (acc ++ [c]) a b h
      rw [← this, List.append_assoc]; rfl
theorem part_cases (t : Str) : Txt.partition t "x" = (t, Str.empty, Str.empty) ∨ ∃ a b, Txt.partition t "x" = (a, ("x" : Str), b) ∧ t = a ++ "x" ++ b := by
  have ne : TL.tl ("x" : Str) ≠ [] := by rw [x_tl]; simp
  rw [TL.partition_par t "x" ne]
  cases h : TL.par (TL.tl ("x" : Str)) [] (TL.tl t) with
  | none => exact .inl rfl
  | some q =>
    obtain ⟨a, b⟩ := q
    refine .inr ⟨⟨a.toArray⟩, ⟨b.toArray⟩, rfl, TL.ext_tl ?_⟩
    have := par_sound _ _ _ _ _ h
    rw [TL.tl_append, TL.tl_append, TL.tl_mk, TL.tl_mk, List.append_assoc]
    exact this
theorem numR_zero {t : Str} (h : (Txt.isascii t && Txt.isdigit t) = false) : numR t = 0 := by
  unfold numR isNumL
  rw [asc_dig] at h
  rw [h]
  rfl
theorem one_zero {c : Nat} : ((⟨#[c]⟩ : Str) = ("0" : Str)) ↔ c = 48 := by
  constructor
  · intro h
    have := congrArg TL.tl h
    rw [TL.tl_ofString] at this
    have e : [c] = [48] := this
    injection e
  · rintro rfl
    apply TL.ext_tl
    rw [TL.tl_ofString]
    rfl
theorem spl_len (S : List Nat) : ∀ (L : List Nat) (k : Nat) (acc : List Nat), (TL.spl S k acc L).length ≤ L.length + 1
  | [], _, _ => by rw [TL.spl]; exact Nat.le_refl _
  | c :: r, 0, acc => by
    rw [TL.spl]
    split
    · have := spl_len S r (S.length - 1) []
      simp only [List.length_cons]; omega
    · have := spl_len S r 0 (acc ++ [c])
      simp only [List.length_cons]; omega
  | c :: r, k + 1, acc => by
    rw [TL.spl]
    have := spl_len S r k acc
    simp only [List.length_cons]; omega
theorem spl_mem (S : List Nat) : ∀ (L : List Nat) (k : Nat) (acc p : List Nat), p ∈ TL.spl S k acc L → p.length ≤ acc.length + L.length
  | [], _, acc, p, h => by rw [TL.spl, List.mem_singleton] at h; rw [h]; exact Nat.le_refl _
  | c :: r, 0, acc, p, h => by
    rw [TL.spl] at h
    split at h
    · rcases List.mem_cons.mp h with h | h
      · subst h; exact Nat.le_add_right _ _
      · have := spl_mem S r _ _ _ h
        simp only [List.length_cons, List.length_nil] at this ⊢; omega
    · have := spl_mem S r _ _ _ h
      simp only [List.length_cons, List.length_append, List.length_nil] at this ⊢; omega
  | c :: r, k + 1, acc, p, h => by
    rw [TL.spl] at h
    have := spl_mem S r _ _ _ h
    simp only [List.length_cons] at this ⊢; omega
theorem sep_kind (t : Str) : ¬ Builtin.Str.strKind t < Builtin.Str.strKind (" + " : Str) := TL.kind_ok (by decide +kernel)
theorem sep_ne : TL.tl (" + " : Str) ≠ [] := by rw [sep_tl]; simp
theorem split_len (t : Str) : (Txt.split t " + ").length ≤ t.length + 1 := by
  have := congrArg List.length (TL.split_spl t " + " sep_ne (sep_kind t))
  rw [List.length_map] at this
  rw [this, TL.len_tl]
  exact spl_len _ _ _ _
theorem split_mem {t p : Str} (h : p ∈ Txt.split t " + ") : p.length ≤ t.length := by
  have e := TL.split_spl t " + " sep_ne (sep_kind t)
  have m : TL.tl p ∈ TL.spl (TL.tl (" + " : Str)) 0 [] (TL.tl t) := by rw [← e]; exact List.mem_map.mpr ⟨p, h, rfl⟩
  have := spl_mem _ _ _ _ _ m
  rw [TL.len_tl, TL.len_tl]
  simpa using this
theorem chR_nn (p : Str) : 0 ≤ (chR p).1 ∧ 0 ≤ (chR p).2 := by
  unfold chR
  split
  · exact ⟨by show (0 : Int) ≤ 1; decide, numR_nn _⟩
  · split
    · exact ⟨Int.le_refl 0, Int.le_refl 0⟩
    · exact ⟨numR_nn _, numR_nn _⟩
theorem goR_nn : ∀ {parts : List Str} {b : Int} {ps : List (Int × Int)}, goR parts b = some ps → ∀ p ∈ ps, 0 ≤ p.1 ∧ 0 ≤ p.2
  | [], _, ps, h, p, hp => by
    rw [goR] at h
    injection h with h
    subst h
    cases hp
  | w :: r, b, ps, h, p, hp => by
    rw [goR] at h
    split at h
    · cases h
    · cases e : goR r (chR w).2 with
      | none => rw [e] at h; cases h
      | some q =>
        rw [e] at h
        have h' : chR w :: q = ps := Option.some.inj h
        subst h'
        rcases List.mem_cons.mp hp with hp | hp
        · rw [hp]; exact chR_nn w
        · exact goR_nn e p hp
theorem spread_app (a b : List (Int × Int)) : spread (a ++ b) = spread a ++ spread b := List.flatMap_append
theorem spread_take_succ {ps : List (Int × Int)} {i : Nat} {p : Int × Int} (h : ps[i]? = some p) : spread (ps.take (i + 1)) = spread (ps.take i) ++ List.replicate p.1.toNat p.2 := by
  rw [List.take_add_one, h, spread_app]
  congr 1
  show List.replicate p.1.toNat p.2 ++ [] = _
  rw [List.append_nil]
theorem spread_take_le (ps : List (Int × Int)) (i : Nat) : (spread (ps.take i)).length ≤ (spread ps).length := by
  have := congrArg (fun q => (spread q).length) (List.take_append_drop i ps)
  have e : (spread (ps.take i ++ ps.drop i)).length = (spread ps).length := this
  rw [spread_app, List.length_append] at e
  omega
theorem runs_rep : ∀ {n k : Nat} {x : Int} {L : List Int}, L.head? ≠ some x → runs k (List.replicate (n + 1) x ++ L) = ((k : Int) + n + 1, x) :: runs 0 L
  | 0, k, x, L, h => by
    show runs k (x :: L) = _
    rw [runs, if_neg h]; simp
  | n + 1, k, x, L, h => by
    show runs k (x :: (List.replicate (n + 1) x ++ L)) = _
    rw [runs, if_pos (by rw [List.replicate_succ]; rfl), runs_rep h]
    congr 2
    push_cast; omega
/-- the text of a book is read as the book -/
theorem unlike_runs : ∀ {ls : List Int} {k : Nat} {b : Int}, ls.head? ≠ some b → unlike b (runs k ls)
  | [], _, _, _ => trivial
  | x :: r, k, b, h => by
    rw [runs]
    split
    · rename_i e
      exact unlike_runs (by rw [e]; intro z; exact h (by rw [← Option.some.inj z]; rfl))
    · rename_i e
      exact ⟨fun z => h (by rw [← z]; rfl), unlike_runs e⟩
theorem readR_text {ls : List Int} (h : ∀ x ∈ ls, 1 ≤ x ∧ x < 10 ^ 40) (hl : ls.length < 10 ^ 9) : readR (textOf ls) = some ls := by
  cases ls with
  | nil => rfl
  | cons x r =>
    have ne := textOf_not_empty (x := x) (r := r) fun y hy => by have := h y hy; omega
    have e : textOf (x :: r) = Txt.join " + " ((runs 0 (x :: r)).map fun p => partS p.1 p.2) := if_neg (by simp)
    rw [e] at ne ⊢
    rw [readR_parts runs_ne (fun p hp => by
      have a := runs_mem hp
      have b := h _ a.2.2
      exact ⟨by omega, by omega, b.1, b.2⟩) (unlike_runs fun z => by
      have b := h x List.mem_cons_self
      have : x = 0 := Option.some.inj z
      omega) ne, runs_spread]
    rfl
theorem goR_text {ls : List Int} (hn : ls ≠ []) (h : ∀ x ∈ ls, 1 ≤ x ∧ x < 10 ^ 40) (hl : ls.length < 10 ^ 9) : goR (Txt.split (textOf ls) " + ") 0 = some (runs 0 ls) := by
  have e : textOf ls = Txt.join " + " ((runs 0 ls).map fun p => partS p.1 p.2) := if_neg hn
  have rn : runs 0 ls ≠ [] := by
    cases ls with
    | nil => exact absurd rfl hn
    | cons x r => exact runs_ne
  rw [e, split_parts (by simpa using rn) (fun p hp => by
    obtain ⟨q, hq, rfl⟩ := List.mem_map.mp hp
    have a := runs_mem hq
    have b := h _ a.2.2
    exact partS_free (by omega) (by omega))]
  refine goR_parts (fun p hp => by
    have a := runs_mem hp
    have b := h _ a.2.2
    exact ⟨by omega, by omega, b.1, b.2⟩) (unlike_runs fun z => ?_)
  cases ls with
  | nil => cases z
  | cons x r =>
    have b := h x List.mem_cons_self
    have : x = 0 := Option.some.inj z
    omega
end
namespace HS
open PySem PySem.Spec PyProof.Rows L2 _root_.HS
theorem Prs.at {H : Hp} : ∀ {vs : List V} {ps : List (Int × Int)}, Prs H vs ps → ∀ {i : Nat} {v : V}, vs[i]? = some v → ∃ t p, v = .ref t ∧ ps[i]? = some p ∧ H t = some (.tup [.int p.1, .int p.2])
  | [], [], _, i, v, hv => by simp at hv
  | _ :: _, p :: _, ⟨⟨t, e, o⟩, _⟩, 0, v, hv => by
    cases hv
    exact ⟨t, p, e, rfl, o⟩
  | _ :: _, _ :: _, ⟨_, h⟩, i + 1, v, hv => Prs.at h (i := i) hv
end HS
/-! What is read is what was written. -/
section
open PySem
theorem spl_ne (S : List Nat) : ∀ (L acc : List Nat) (k : Nat), TL.spl S k acc L ≠ []
  | [], acc, k => by rw [TL.spl]; simp
  | a :: b, acc, 0 => by
    rw [TL.spl]
    split
    · simp
    · exact spl_ne S b _ _
  | a :: b, acc, k + 1 => by rw [TL.spl]; exact spl_ne S b _ _
theorem pre_drop {S : List Nat} {c : Nat} {r : List Nat} (hS : S ≠ []) (g : TL.pre S (c :: r) = true) : c :: r = S ++ r.drop (S.length - 1) := by
  rw [TL.pre] at g
  have e : List.take S.length (c :: r) = S := by simpa using g
  have td := List.take_append_drop S.length (c :: r)
  rw [e] at td
  cases hl : S.length with
  | zero => exact absurd (List.length_eq_zero_iff.mp hl) hS
  | succ k =>
    rw [hl, List.drop_succ_cons] at td
    rw [Nat.add_sub_cancel]
    exact td.symm
theorem join_spl {S : List Nat} (hS : S ≠ []) : ∀ (n : Nat) (L acc : List Nat), L.length ≤ n → TL.joinL S (TL.spl S 0 acc L) = acc ++ L := by
  intro n
  induction n with
  | zero =>
    intro L acc h
    have e : L = [] := List.length_eq_zero_iff.mp (by omega)
    subst e
    rw [TL.spl, TL.joinL, List.append_nil]
  | succ n ih =>
    intro L acc h
    cases L with
    | nil => rw [TL.spl, TL.joinL, List.append_nil]
    | cons c r =>
      rw [List.length_cons] at h
      rw [TL.spl]
      split
      · rename_i g
        have td := pre_drop hS g
        rw [TL.spl_pass]
        have i := ih (r.drop (S.length - 1)) [] (by rw [List.length_drop]; omega)
        rw [List.nil_append] at i
        cases hs : TL.spl S 0 [] (r.drop (S.length - 1)) with
        | nil => exact absurd hs (spl_ne S _ _ _)
        | cons q qs =>
          rw [hs] at i
          rw [TL.joinL, i, td]
      · rw [ih r (acc ++ [c]) (by omega), List.append_assoc]; rfl
theorem join_split (t : Str) : Txt.join " + " (Txt.split t " + ") = t := by
  rw [TL.join_eq]
  apply TL.ext_tl
  rw [TL.tl_join, TL.split_spl t " + " sep_ne (sep_kind t), join_spl sep_ne _ _ _ (Nat.le_refl _), List.nil_append]
theorem split_ne (t : Str) : Txt.split t " + " ≠ [] := fun z => by
  have e := TL.split_spl t " + " sep_ne (sep_kind t)
  rw [z] at e
  exact spl_ne _ _ _ _ e.symm
theorem digitsVal_lt : ∀ {L : List Nat}, NumText.AllDigits L → NumText.digitsVal L < 10 ^ L.length := by
  intro L
  induction hn : L.length generalizing L with
  | zero =>
    intro _
    rw [List.length_eq_zero_iff.mp hn]
    decide
  | succ n ih =>
    intro hd
    have hne : L ≠ [] := fun z => by rw [z] at hn; cases hn
    obtain ⟨M, d, rfl⟩ : ∃ M d, L = M ++ [d] := ⟨L.dropLast, L.getLast hne, (List.dropLast_concat_getLast hne).symm⟩
    have hv : NumText.digitsVal (M ++ [d]) = NumText.digitsVal M * 10 + (d - 48) := by unfold NumText.digitsVal; rw [List.foldl_append]; rfl
    have hl : M.length = n := by rw [List.length_append] at hn; simpa using hn
    have := ih hl fun c hc => hd c (by simp [hc])
    have := hd d (by simp)
    rw [hv, Nat.pow_succ]
    omega
theorem numR_lt (w : Str) {k : Nat} (hk : (TL.tl w).length ≤ k) : numR w < ((10 ^ k : Nat) : Int) := by
  unfold numR
  split
  · rename_i g
    obtain ⟨_, b, _, _⟩ := isNum_digits g
    have := digitsVal_lt b
    have : 10 ^ (TL.tl w).length ≤ 10 ^ k := Nat.pow_le_pow_right (by decide) hk
    omega
  · have : 0 < 10 ^ k := Nat.pow_pos (by decide)
    omega
theorem numR_lt40 (w : Str) : numR w < 10 ^ 40 := by
  by_cases h : numR w = 0
  · rw [h]; decide
  · have : isNumL (TL.tl w) = true := by
      cases e : isNumL (TL.tl w) with
      | true => rfl
      | false => exact absurd (by unfold numR; rw [e]; rfl) h
    have := numR_lt w (isNum_digits this).2.2.2
    exact_mod_cast this
theorem chR_sound {p : Str} (h1 : (chR p).1 ≠ 0) (h2 : (chR p).2 ≠ 0) : p = partS (chR p).1 (chR p).2 ∧ 1 ≤ (chR p).1 ∧ (chR p).1 < 10 ^ 40 ∧ 1 ≤ (chR p).2 ∧ (chR p).2 < 10 ^ 40 := by
  rcases part_cases p with e | ⟨a, b, e, ep⟩
  · have c : chR p = (1, numR p) := by unfold chR; rw [e, if_pos rfl]
    rw [c] at h2 ⊢
    obtain ⟨x, y⟩ := numR_canon h2
    exact ⟨by unfold partS; rw [if_pos rfl]; exact x, by show (1 : Int) ≤ 1; decide, by show (1 : Int) < _; decide, y, numR_lt40 p⟩
  · by_cases o : numR a = 1
    · have c : chR p = (0, 0) := by unfold chR; rw [e, if_neg x_ne]; exact if_pos o
      rw [c] at h1
      exact absurd rfl h1
    · have c : chR p = (numR a, numR b) := by unfold chR; rw [e, if_neg x_ne]; exact if_neg o
      rw [c] at h1 h2 ⊢
      obtain ⟨x, y⟩ := numR_canon h1
      obtain ⟨u, v⟩ := numR_canon h2
      refine ⟨?_, y, numR_lt40 a, v, numR_lt40 b⟩
      show p = partS (numR a) (numR b)
      unfold partS
      rw [if_neg o, ← x, ← u]
      exact ep
theorem goR_sound : ∀ {parts : List Str} {b : Int} {ps : List (Int × Int)}, goR parts b = some ps → parts = ps.map (fun p => partS p.1 p.2) ∧ Good ps ∧ unlike b ps
  | [], _, ps, h => by
    rw [goR] at h
    injection h with h
    subst h
    exact ⟨rfl, (fun p hp => by cases hp), trivial⟩
  | w :: r, b, ps, h => by
    rw [goR] at h
    split at h
    · cases h
    · rename_i hn
      cases e : goR r (chR w).2 with
      | none => rw [e] at h; cases h
      | some q =>
        rw [e] at h
        have h' : chR w :: q = ps := Option.some.inj h
        subst h'
        obtain ⟨i1, i2, i3⟩ := goR_sound e
        obtain ⟨s1, s2⟩ := chR_sound (p := w) (fun z => hn (.inl z)) (fun z => hn (.inr (.inl z)))
        refine ⟨by rw [List.map_cons, ← i1, ← s1], fun p hp => ?_, fun z => hn (.inr (.inr z)), i3⟩
        rcases List.mem_cons.mp hp with hp | hp
        · rw [hp]; exact s2
        · exact i2 p hp
theorem spread_head : ∀ {ps : List (Int × Int)} {b : Int}, Good ps → unlike b ps → (spread ps).head? ≠ some b
  | [], _, _, _ => by simp [spread]
  | p :: r, b, g, u => by
    have := (g p List.mem_cons_self).1
    obtain ⟨n, hn⟩ : ∃ n : Nat, p.1.toNat = n + 1 := ⟨p.1.toNat - 1, by omega⟩
    have e : spread (p :: r) = List.replicate p.1.toNat p.2 ++ spread r := rfl
    rw [e, hn, List.replicate_succ]
    intro z
    exact u.1 (Option.some.inj z)
theorem runs_of : ∀ {ps : List (Int × Int)} {b : Int}, Good ps → unlike b ps → runs 0 (spread ps) = ps
  | [], _, _, _ => rfl
  | p :: r, b, g, u => by
    have h1 := (g p List.mem_cons_self).1
    obtain ⟨n, hn⟩ : ∃ n : Nat, p.1.toNat = n + 1 := ⟨p.1.toNat - 1, by omega⟩
    have gr : Good r := fun q hq => g q (List.mem_cons_of_mem _ hq)
    have e : spread (p :: r) = List.replicate p.1.toNat p.2 ++ spread r := rfl
    rw [e, hn, runs_rep (spread_head gr u.2), runs_of gr u.2]
    congr 1
    exact Prod.ext (by show ((0 : Nat) : Int) + n + 1 = p.1; omega) rfl
theorem spread_mem {ps : List (Int × Int)} {x : Int} (h : x ∈ spread ps) : ∃ p ∈ ps, x = p.2 := by
  obtain ⟨p, hp, hx⟩ := List.mem_flatMap.mp h
  exact ⟨p, hp, (List.mem_replicate.mp hx).2⟩
theorem readR_sound {t : Str} {ls : List Int} (h : readR t = some ls) : textOf ls = t ∧ ∀ x ∈ ls, 1 ≤ x ∧ x < 10 ^ 40 := by
  unfold readR at h
  split at h
  · rename_i e
    injection h with h
    subst h
    exact ⟨by rw [e]; rfl, fun x hx => by cases hx⟩
  · cases e : goR (Txt.split t " + ") 0 with
    | none => rw [e] at h; cases h
    | some ps =>
      rw [e] at h
      have hl : spread ps = ls := Option.some.inj h
      subst hl
      obtain ⟨i1, i2, i3⟩ := goR_sound e
      refine ⟨?_, fun x hx => ?_⟩
      · have pn : ps ≠ [] := fun z => by rw [z] at i1; exact split_ne t i1
        have sn : spread ps ≠ [] := by
          cases ps with
          | nil => exact absurd rfl pn
          | cons p r =>
            have := (i2 p List.mem_cons_self).1
            intro z
            have z' : List.replicate p.1.toNat p.2 ++ spread r = [] := z
            have := congrArg List.length z'
            rw [List.length_append, List.length_replicate] at this
            have : p.1.toNat + (spread r).length = 0 := this
            omega
        rw [show textOf (spread ps) = Txt.join " + " (partsOf (spread ps)) from if_neg sn]
        unfold partsOf
        rw [runs_of i2 i3, ← i1, join_split]
      · obtain ⟨p, hp, rfl⟩ := spread_mem hx
        exact ⟨(i2 p hp).2.2.1, (i2 p hp).2.2.2⟩
theorem goR_some : ∀ {ps qs : List (Int × Int)} {b : Int}, Good ps → goR (ps.map fun p => partS p.1 p.2) b = some qs → qs = ps
  | [], qs, _, _, h => by
    have h' : (some [] : Option (List (Int × Int))) = some qs := h
    exact (Option.some.inj h').symm
  | p :: r, qs, b, g, h => by
    obtain ⟨h1, h2, h3, h4⟩ := g p List.mem_cons_self
    rw [List.map_cons, goR, chR_partS h1 h2 h3 h4] at h
    split at h
    · cases h
    · have h' : (goR (r.map fun p => partS p.1 p.2) p.2).map (fun q => (p.1, p.2) :: q) = some qs := h
      cases e : goR (r.map fun p => partS p.1 p.2) p.2 with
      | none => rw [e] at h'; cases h'
      | some q =>
        rw [e] at h'
        have := goR_some (fun q hq => g q (List.mem_cons_of_mem _ hq)) e
        rw [this] at h'
        exact (Option.some.inj h').symm
theorem runs_app : ∀ {xs ys : List Int} {k : Nat}, xs ≠ [] → xs.getLast? ≠ ys.head? → runs k (xs ++ ys) = runs k xs ++ runs 0 ys
  | [], _, _, h, _ => absurd rfl h
  | [x], ys, k, _, h => by
    show runs k (x :: ys) = _
    rw [runs, if_neg (fun z => h z.symm), runs, if_neg (by simp)]
    rfl
  | x :: y :: r, ys, k, _, h => by
    have i := runs_app (xs := y :: r) (ys := ys) (k := if y = x then k + 1 else 0) (by simp) (by rw [List.getLast?_cons_cons] at h; exact h)
    show runs k (x :: (y :: (r ++ ys))) = runs k (x :: (y :: r)) ++ runs 0 ys
    have e1 : runs k (x :: (y :: (r ++ ys))) = if (some y : Option Int) = some x then runs (k + 1) (y :: (r ++ ys)) else ((k : Int) + 1, x) :: runs 0 (y :: (r ++ ys)) := by rw [runs]; rfl
    have e2 : runs k (x :: (y :: r)) = if (some y : Option Int) = some x then runs (k + 1) (y :: r) else ((k : Int) + 1, x) :: runs 0 (y :: r) := by rw [runs]; rfl
    rw [e1, e2]
    by_cases e : y = x
    · rw [if_pos e] at i
      rw [if_pos (by rw [e]), if_pos (by rw [e])]
      exact i
    · rw [if_neg e] at i
      rw [if_neg (fun z => e (Option.some.inj z)), if_neg (fun z => e (Option.some.inj z)), List.cons_append]
      congr 1
/-! ### how long what is read may be -/
theorem spl_count (n : Nat) : ∀ (L acc : List Nat), L.length ≤ n → (TL.spl [32, 43, 32] 0 acc L).length ≤ 1 + L.count 43 := by
  induction n with
  | zero =>
    intro L acc h
    have e : L = [] := List.length_eq_zero_iff.mp (by omega)
    subst e
    rw [TL.spl]; simp
  | succ n ih =>
    intro L acc h
    cases L with
    | nil => rw [TL.spl]; simp
    | cons c r =>
      rw [List.length_cons] at h
      rw [TL.spl]
      split
      · rename_i g
        have td := pre_drop (S := [32, 43, 32]) (by decide) g
        rw [TL.spl_pass, List.length_cons]
        have i := ih (r.drop 2) [] (by rw [List.length_drop]; omega)
        have cc : (c :: r).count 43 = 1 + (r.drop 2).count 43 := by
          rw [td, List.count_append]; rfl
        rw [cc]
        show (TL.spl [32, 43, 32] 0 [] (r.drop 2)).length + 1 ≤ _
        omega
      · have i := ih r (acc ++ [c]) (by omega)
        have : r.count 43 ≤ (c :: r).count 43 := List.count_le_count_cons
        omega
def isD (c : Nat) : Bool := decide (48 ≤ c ∧ c ≤ 57)
/-- the signs that are no digits among the last four -/
def nd (u : List Nat) : Nat := ((u.reverse.take 4).filter fun c => !isD c).length
def Far (u : List Nat) : Prop := u.length ≤ 2 ∨ 2 ≤ nd u
theorem nd_app (a w : List Nat) : nd w ≤ nd (a ++ w) := by
  unfold nd
  rw [List.reverse_append, List.take_append, List.filter_append, List.length_append]
  omega
theorem split_at {a b u v : List Nat} {x : Nat} (ha : ¬ x ∈ a) (hb : ¬ x ∈ b) (e : a ++ x :: b = u ++ x :: v) : a = u := by
  rcases List.append_eq_append_iff.mp e with ⟨w, h1, h2⟩ | ⟨w, h1, h2⟩
  · cases w with
    | nil => rw [List.append_nil] at h1; exact h1.symm
    | cons y w =>
      have h2' : x :: b = (y :: w) ++ x :: v := h2
      injection h2' with h3 h4
      exact absurd (by rw [h4]; simp) hb
  · cases w with
    | nil => rw [List.append_nil] at h1; exact h1
    | cons y w =>
      have h2' : x :: v = (y :: w) ++ x :: b := h2
      injection h2' with h3 h4
      exact absurd (by rw [h1, ← h3]; simp) ha
def codeP (p : Int × Int) : List Nat := TL.tl (partS p.1 p.2)
theorem codeP_eq {p : Int × Int} (h1 : 1 ≤ p.1) (h2 : 1 ≤ p.2) : codeP p = if p.1 = 1 then TL.numL p.2.toNat else TL.numL p.1.toNat ++ 120 :: TL.numL p.2.toNat := by
  unfold codeP partS
  split
  · exact numS_tl (by omega)
  · rw [TL.tl_append, TL.tl_append, x_tl, numS_tl (by omega), numS_tl (by omega), List.append_assoc]
    rfl
theorem far_part {p : Int × Int} (h1 : 1 ≤ p.1) (h3 : p.1 < 100) (h2 : 1 ≤ p.2) {u v : List Nat} (e : codeP p = u ++ 120 :: v) : u.length ≤ 2 := by
  rw [codeP_eq h1 h2] at e
  have f : ∀ n, ¬ 120 ∈ TL.numL n := fun n => TL.numL_free (.inr (by decide))
  split at e
  · exact absurd (by rw [e]; simp) (f p.2.toNat)
  · rw [← split_at (f _) (f _) e]
    exact TL.numL_len (by decide) (by omega)
theorem far_join : ∀ {ps : List (Int × Int)}, (∀ p ∈ ps, 1 ≤ p.1 ∧ p.1 < 100 ∧ 1 ≤ p.2) → ∀ {u v : List Nat}, TL.joinL [32, 43, 32] (ps.map codeP) = u ++ 120 :: v → Far u
  | [], _, u, v, e => by
    rw [List.map_nil, TL.joinL] at e
    simp at e
  | [p], h, u, v, e => by
    rw [List.map_cons, List.map_nil, TL.joinL] at e
    have := h p List.mem_cons_self
    exact .inl (far_part this.1 this.2.1 this.2.2 e)
  | p :: q :: r, h, u, v, e => by
    rw [List.map_cons, List.map_cons, TL.joinL] at e
    have hp := h p List.mem_cons_self
    rcases List.append_eq_append_iff.mp e with ⟨w, h1, h2⟩ | ⟨w, h1, h2⟩
    · -- u = codeP p ++ w
      have h2' : 32 :: 43 :: 32 :: TL.joinL [32, 43, 32] (codeP q :: r.map codeP) = w ++ 120 :: v := h2
      obtain ⟨w', hw⟩ : ∃ w', w = 32 :: 43 :: 32 :: w' ∧ TL.joinL [32, 43, 32] (codeP q :: r.map codeP) = w' ++ 120 :: v := by
        cases w with
        | nil => injection h2' with a; cases a
        | cons a w =>
          injection h2' with a1 h2'
          cases w with
          | nil => injection h2' with a; cases a
          | cons b w =>
            injection h2' with b1 h2'
            cases w with
            | nil => injection h2' with a; cases a
            | cons c w =>
              injection h2' with c1 h2'
              subst a1 b1 c1
              exact ⟨w, rfl, h2'⟩
      obtain ⟨hw1, hw2⟩ := hw
      have ih := far_join (ps := q :: r) (fun x hx => h x (List.mem_cons_of_mem _ hx)) (u := w') (v := v) hw2
      right
      rw [h1, hw1]
      rcases ih with i | i
      · have : 2 ≤ nd (32 :: 43 :: 32 :: w') := by
          match w', i with
          | [], _ => decide
          | [a], _ => unfold nd; cases e : isD a <;> simp [e] <;> decide
          | [a, b], _ => unfold nd; cases e : isD a <;> cases f : isD b <;> simp [e, f] <;> decide
          | _ :: _ :: _ :: _, i => simp at i
        exact Nat.le_trans this (nd_app _ _)
      · exact Nat.le_trans i (by
          have := nd_app (codeP p ++ [32, 43, 32]) w'
          rw [List.append_assoc] at this
          exact this)
    · cases w with
      | nil =>
        have h2' : 120 :: v = 32 :: 43 :: 32 :: TL.joinL [32, 43, 32] (codeP q :: r.map codeP) := by rw [List.nil_append] at h2; exact h2
        injection h2' with a
        cases a
      | cons a w =>
        have h2' : 120 :: v = (a :: w) ++ ([32, 43, 32] ++ TL.joinL [32, 43, 32] (codeP q :: r.map codeP)) := h2
        injection h2' with a1 a2
        subst a1
        exact .inl (far_part hp.1 hp.2.1 hp.2.2 h1)
theorem nd_change (A w : List Nat) (l s : Nat) : nd (A ++ l :: w) ≤ nd (A ++ s :: w) + 1 := by
  have key : ∀ y, (A ++ y :: w).reverse = w.reverse ++ y :: A.reverse := fun y => by simp
  have tk : ∀ y, (w.reverse ++ y :: A.reverse).take 4 = w.reverse.take 4 ++ (y :: A.reverse).take (4 - w.reverse.length) := fun y => List.take_append
  unfold nd
  rw [key l, key s, tk l, tk s, List.filter_append, List.filter_append, List.length_append, List.length_append]
  have : ∀ (k : Nat) (X : List Nat), (((l :: X).take k).filter fun c => !isD c).length ≤ (((s :: X).take k).filter fun c => !isD c).length + 1 := by
    intro k X
    cases k with
    | zero => exact Nat.zero_le _
    | succ k =>
      rw [List.take_succ_cons, List.take_succ_cons, List.filter_cons, List.filter_cons]
      split <;> split <;> (try simp only [List.length_cons]) <;> omega
  have := this (4 - w.reverse.length) A.reverse
  omega
theorem nd_digits {U M : List Nat} (hM : NumText.AllDigits M) (h4 : 4 ≤ M.length) : nd (U ++ M) = 0 := by
  unfold nd
  rw [List.reverse_append, List.take_append_of_le_length (by rw [List.length_reverse]; exact h4), List.length_eq_zero_iff, List.filter_eq_nil_iff]
  intro c hc
  have hc' : c ∈ M := List.mem_reverse.mp (List.mem_of_mem_take hc)
  have := hM c hc'
  unfold isD
  rw [decide_eq_true this]
  simp
theorem join_mem {S p : List Nat} : ∀ {parts : List (List Nat)}, p ∈ parts → ∃ U V, TL.joinL S parts = U ++ (p ++ V)
  | [], h => by cases h
  | [q], h => by
    rw [List.mem_singleton] at h
    subst h
    exact ⟨[], [], by rw [TL.joinL, List.append_nil]; rfl⟩
  | q :: r :: rs, h => by
    rw [TL.joinL]
    rcases List.mem_cons.mp h with h | h
    · subst h
      exact ⟨[], _, rfl⟩
    · obtain ⟨U, V, e⟩ := join_mem (parts := r :: rs) h
      exact ⟨q ++ (S ++ U), V, by rw [e]; simp only [List.append_assoc]⟩
theorem count_join {S : List Nat} (hS : S.count 43 = 1) : ∀ {parts : List (List Nat)}, (∀ p ∈ parts, ¬ 43 ∈ p) → (TL.joinL S parts).count 43 ≤ parts.length - 1
  | [], _ => by rw [TL.joinL]; simp
  | [q], h => by
    rw [TL.joinL, List.count_eq_zero_of_not_mem (h q List.mem_cons_self)]
    exact Nat.zero_le _
  | q :: r :: rs, h => by
    have ih := count_join hS (parts := r :: rs) fun p hp => h p (List.mem_cons_of_mem _ hp)
    rw [TL.joinL, List.count_append, List.count_append, hS, List.count_eq_zero_of_not_mem (h q List.mem_cons_self)]
    simp only [List.length_cons] at ih ⊢
    omega
theorem spread_len {B : Int} : ∀ {ps : List (Int × Int)}, (∀ p ∈ ps, p.1 ≤ B) → (spread ps).length ≤ ps.length * B.toNat
  | [], _ => Nat.zero_le _
  | p :: r, h => by
    have ih := spread_len (ps := r) fun q hq => h q (List.mem_cons_of_mem _ hq)
    have := h p List.mem_cons_self
    have e : spread (p :: r) = List.replicate p.1.toNat p.2 ++ spread r := rfl
    rw [e, List.length_append, List.length_replicate, List.length_cons, Nat.add_mul, Nat.one_mul]
    omega
/-- what is read of a text with few signs of addition, and short numbers ahead of the x -/
theorem kept_gen {t : Str} (hA : (TL.tl t).count 43 ≤ 90) (hB : ∀ u v, TL.tl t = u ++ 120 :: v → u.length ≤ 2 ∨ 1 ≤ nd u) {ps : List (Int × Int)} (h : goR (Txt.split t " + ") 0 = some ps) : (spread ps).length ≤ 99999 ∧ ∀ p ∈ ps, p.1 ≤ 999 := by
  obtain ⟨i1, i2, i3⟩ := goR_sound h
  have hl : ps.length ≤ 91 := by
    have e := congrArg List.length (TL.split_spl t " + " sep_ne (sep_kind t))
    rw [List.length_map, i1, List.length_map, sep_tl] at e
    have := spl_count _ (TL.tl t) [] (Nat.le_refl _)
    omega
  have hm : ∀ p ∈ ps, p.1 ≤ 999 := fun p hp => by
    have g := i2 p hp
    by_cases one : p.1 = 1
    · omega
    have mem : TL.tl (partS p.1 p.2) ∈ (Txt.split t " + ").map TL.tl := by
      rw [i1, List.map_map]
      exact List.mem_map.mpr ⟨p, hp, rfl⟩
    obtain ⟨U, V, e⟩ := join_mem (S := TL.tl (" + " : Str)) mem
    have jt := congrArg TL.tl (join_split t)
    rw [TL.join_eq, TL.tl_join, e] at jt
    have c : TL.tl (partS p.1 p.2) = TL.numL p.1.toNat ++ 120 :: TL.numL p.2.toNat := by
      have := codeP_eq (p := p) g.1 g.2.2.1
      rw [if_neg one] at this
      exact this
    rw [c] at jt
    have hb := hB (U ++ TL.numL p.1.toNat) (TL.numL p.2.toNat ++ V) (by rw [← jt]; simp only [List.append_assoc, List.cons_append])
    have l3 : (TL.numL p.1.toNat).length ≤ 3 := by
      rcases Nat.lt_or_ge 3 (TL.numL p.1.toNat).length with h4 | h4
      · rcases hb with hb | hb
        · rw [List.length_append] at hb; omega
        · rw [nd_digits (TL.numL_digits _) h4] at hb; omega
      · exact h4
    have dv := digitsVal_lt (TL.numL_digits p.1.toNat)
    rw [TL.numL_val] at dv
    have : 10 ^ (TL.numL p.1.toNat).length ≤ 10 ^ 3 := Nat.pow_le_pow_right (by decide) l3
    omega
  refine ⟨?_, hm⟩
  have := spread_len hm
  have : ps.length * (999 : Int).toNat ≤ 91 * 999 := Nat.mul_le_mul_right _ hl
  omega
/-- a text of a book: few signs, short numbers -/
theorem text_signs {ls : List Int} (h : ∀ x ∈ ls, 1 ≤ x) (hl : ls.length ≤ 90) : (TL.tl (textOf ls)).count 43 ≤ 89 ∧ ∀ u v, TL.tl (textOf ls) = u ++ 120 :: v → Far u := by
  by_cases e : ls = []
  · subst e
    rw [show textOf [] = ("empty" : Str) from if_pos rfl, empty_tl]
    refine ⟨by decide, fun u v e => ?_⟩
    have : (120 : Nat) ∈ [101, 109, 112, 116, 121] := by rw [e]; simp
    simp at this
  · rw [show textOf ls = Txt.join " + " (partsOf ls) from if_neg e, TL.join_eq, TL.tl_join, sep_tl]
    have em : (partsOf ls).map TL.tl = (runs 0 ls).map codeP := by unfold partsOf; rw [List.map_map]; rfl
    have g : ∀ p ∈ runs 0 ls, 1 ≤ p.1 ∧ p.1 < 100 ∧ 1 ≤ p.2 := fun p hp => by
      have a := runs_mem hp
      have := h _ a.2.2
      omega
    rw [em]
    refine ⟨?_, fun u v e => far_join g e⟩
    have f : ∀ n, ¬ 43 ∈ TL.numL n := fun n => TL.numL_free (.inl (by decide))
    have := count_join (S := [32, 43, 32]) (by decide) (parts := (runs 0 ls).map codeP) fun q hq => by
      obtain ⟨p, hp, rfl⟩ := List.mem_map.mp hq
      have gp := g p hp
      rw [codeP_eq gp.1 gp.2.2]
      split
      · exact f _
      · rw [List.mem_append]
        rintro (z | z)
        · exact f _ z
        · rcases List.mem_cons.mp z with z | z
          · omega
          · exact f _ z
    have rl := runs_len ls 0
    rw [List.length_map] at this
    omega
theorem kept_change {L : List Nat} {t : Str} {cut s : Nat} (hA : L.count 43 ≤ 89) (hB : ∀ u v, L = u ++ 120 :: v → Far u) (hs : s ≠ 120) (ht : TL.tl t = L.take cut ++ s :: L.drop (cut + 1)) {ps : List (Int × Int)} (h : goR (Txt.split t " + ") 0 = some ps) : (spread ps).length ≤ 99999 ∧ ∀ p ∈ ps, p.1 ≤ 999 := by
  refine kept_gen ?_ (fun u v e => ?_) h
  · rw [ht, List.count_append, List.count_cons]
    have e := congrArg (List.count 43) (List.take_append_drop cut L)
    rw [List.count_append] at e
    have d : (L.drop (cut + 1)).count 43 ≤ (L.drop cut).count 43 := by
      rw [show L.drop (cut + 1) = (L.drop cut).drop 1 by rw [List.drop_drop]]
      exact (List.drop_sublist 1 _).count_le 43
    split <;> omega
  · rw [ht] at e
    rcases List.append_eq_append_iff.mp e with ⟨w, h1, h2⟩ | ⟨w, h1, h2⟩
    · cases w with
      | nil =>
        injection h2 with a
        exact absurd a hs
      | cons y w =>
        have h2' : s :: L.drop (cut + 1) = (y :: w) ++ 120 :: v := h2
        injection h2' with a1 a2
        subst a1
        have hc : cut < L.length := by
          rcases Nat.lt_or_ge cut L.length with q | q
          · exact q
          · rw [List.drop_eq_nil_of_le (by omega)] at a2
            have := congrArg List.length a2
            simp at this
        have eL : L = (L.take cut ++ L[cut] :: w) ++ 120 :: v := by
          have d : L.drop cut = L[cut] :: L.drop (cut + 1) := List.drop_eq_getElem_cons hc
          have td := List.take_append_drop cut L
          rw [d, a2] at td
          rw [List.append_assoc]
          exact td.symm
        rcases hB _ _ eL with q | q
        · left
          rw [h1]
          rw [List.length_append, List.length_cons] at q ⊢
          exact q
        · right
          rw [h1]
          have := nd_change (L.take cut) w L[cut] s
          omega
    · cases w with
      | nil =>
        rw [List.nil_append] at h2
        injection h2 with a
        exact absurd a.symm hs
      | cons y w =>
        have h2' : 120 :: v = (y :: w) ++ s :: L.drop (cut + 1) := h2
        injection h2' with a1 a2
        subst a1
        have eL : L = u ++ 120 :: (w ++ L.drop cut) := by
          have td := List.take_append_drop cut L
          rw [h1, List.append_assoc] at td
          exact td.symm
        rcases hB _ _ eL with q | q
        · exact .inl q
        · exact .inr (by omega)
theorem kept_text {ls : List Int} (h : ∀ x ∈ ls, 1 ≤ x) (hl : ls.length ≤ 90) {ps : List (Int × Int)} (g : goR (Txt.split (textOf ls) " + ") 0 = some ps) : (spread ps).length ≤ 99999 ∧ ∀ p ∈ ps, p.1 ≤ 999 := by
  obtain ⟨a, b⟩ := text_signs h hl
  exact kept_gen (by omega) (fun u v e => (b u v e).imp id fun q => by omega) g
/-- two texts put together -/
theorem both_text {xs ys : List Int} (hx : xs ≠ []) (hy : ys ≠ []) : textOf xs ++ " + " ++ textOf ys = Txt.join " + " (partsOf xs ++ partsOf ys) := by
  have px : partsOf xs ≠ [] := by cases xs with | nil => exact absurd rfl hx | cons x r => intro z; exact runs_ne (List.map_eq_nil_iff.mp z)
  have py : partsOf ys ≠ [] := by cases ys with | nil => exact absurd rfl hy | cons x r => intro z; exact runs_ne (List.map_eq_nil_iff.mp z)
  rw [show textOf xs = Txt.join " + " (partsOf xs) from if_neg hx, show textOf ys = Txt.join " + " (partsOf ys) from if_neg hy, TL.join_eq, TL.join_eq, TL.join_eq]
  apply TL.ext_tl
  rw [TL.tl_append, TL.tl_append, TL.tl_join, TL.tl_join, TL.tl_join, List.map_append]
  have : ∀ (S : List Nat) (A B : List (List Nat)), A ≠ [] → B ≠ [] → TL.joinL S A ++ S ++ TL.joinL S B = TL.joinL S (A ++ B) := by
    intro S A B
    induction A with
    | nil => intro h; exact absurd rfl h
    | cons a A ih =>
      intro _ hB
      cases A with
      | nil =>
        cases B with
        | nil => exact absurd rfl hB
        | cons b B =>
          show TL.joinL S [a] ++ S ++ _ = TL.joinL S (a :: b :: B)
          rw [TL.joinL, TL.joinL, List.append_assoc]
      | cons a2 A =>
        have i := ih (by simp) hB
        show TL.joinL S (a :: a2 :: A) ++ S ++ _ = TL.joinL S (a :: (a2 :: A ++ B))
        rw [TL.joinL, show a :: (a2 :: A ++ B) = a :: a2 :: (A ++ B) from rfl, TL.joinL, List.append_assoc, List.append_assoc, List.append_assoc]
        congr 1
        congr 1
        rw [← List.append_assoc]
        exact i
  exact this _ _ _ (by simpa using px) (by simpa using py)
theorem both_kept {xs ys : List Int} (hx : xs ≠ []) (hy : ys ≠ []) (h1 : ∀ x ∈ xs, 1 ≤ x ∧ x < 10 ^ 40) (h2 : ∀ x ∈ ys, 1 ≤ x ∧ x < 10 ^ 40) (l1 : xs.length ≤ 40) (l2 : ys.length ≤ 40) {ps : List (Int × Int)} (h : goR (Txt.split (textOf xs ++ " + " ++ textOf ys) " + ") 0 = some ps) : (spread ps).length ≤ 99999 ∧ ∀ p ∈ ps, p.1 ≤ 999 := by
  have good : ∀ zs : List Int, (∀ x ∈ zs, 1 ≤ x ∧ x < 10 ^ 40) → zs.length ≤ 40 → ∀ p ∈ runs 0 zs, 1 ≤ p.1 ∧ p.1 ≤ 40 ∧ 1 ≤ p.2 ∧ p.2 < 10 ^ 40 := fun zs hz hl p hp => by
    have a := runs_mem hp
    have := hz _ a.2.2
    omega
  have gx := good xs h1 l1
  have gy := good ys h2 l2
  have e : partsOf xs ++ partsOf ys = (runs 0 xs ++ runs 0 ys).map fun p => partS p.1 p.2 := by unfold partsOf; rw [List.map_append]
  have G : Good (runs 0 xs ++ runs 0 ys) := fun p hp => by
    rcases List.mem_append.mp hp with hp | hp
    · have := gx p hp; omega
    · have := gy p hp; omega
  have ne : (runs 0 xs ++ runs 0 ys).map (fun p => partS p.1 p.2) ≠ [] := by
    cases xs with
    | nil => exact absurd rfl hx
    | cons x r => intro z; exact runs_ne (List.append_eq_nil_iff.mp (List.map_eq_nil_iff.mp z)).1
  rw [both_text hx hy, e, split_parts ne (fun p hp => by
    obtain ⟨q, hq, rfl⟩ := List.mem_map.mp hp
    have := G q hq
    exact partS_free (by omega) (by omega))] at h
  have := goR_some G h
  subst this
  have m : ∀ p ∈ runs 0 xs ++ runs 0 ys, p.1 ≤ 40 := fun p hp => by
    rcases List.mem_append.mp hp with hp | hp
    · have := gx p hp; omega
    · have := gy p hp; omega
  have sl := spread_len m
  have rx := runs_len xs 0
  have ry := runs_len ys 0
  rw [List.length_append] at sl
  have : ((runs 0 xs).length + (runs 0 ys).length) * (40 : Int).toNat ≤ 80 * 40 := Nat.mul_le_mul_right _ (by omega)
  exact ⟨by omega, fun p hp => by have := m p hp; omega⟩
theorem both_read {xs ys : List Int} (hx : xs ≠ []) (hy : ys ≠ []) (h1 : ∀ x ∈ xs, 1 ≤ x ∧ x < 10 ^ 40) (h2 : ∀ x ∈ ys, 1 ≤ x ∧ x < 10 ^ 40) (l1 : xs.length ≤ 40) (l2 : ys.length ≤ 40) (hn : xs.getLast? ≠ ys.head?) : readR (textOf xs ++ " + " ++ textOf ys) = some (xs ++ ys) := by
  have e : textOf (xs ++ ys) = textOf xs ++ " + " ++ textOf ys := by
    rw [both_text hx hy, show textOf (xs ++ ys) = Txt.join " + " (partsOf (xs ++ ys)) from if_neg (by simp [hx])]
    unfold partsOf
    rw [runs_app hx hn, List.map_append]
  rw [← e]
  exact readR_text (fun x hx => by rcases List.mem_append.mp hx with q | q; exact h1 x q; exact h2 x q) (by rw [List.length_append]; omega)
theorem vals_map {n : Nat} (f : Nat → Int) : (List.range n).map (fun i => V.int (f i)) = ((List.range n).map f).map V.int := by rw [List.map_map]; rfl
theorem cut_len (z : Str) (lo : Nat) : (cutS z none (some (lo : Int))).length ≤ z.length ∧ (cutS z (some (lo : Int)) none).length ≤ z.length := by
  have a : (cutS z none (some (lo : Int))).length = ((cutS z none (some (lo : Int))).cps.toList).length := TL.len_tl _
  have b : (cutS z (some (lo : Int)) none).length = ((cutS z (some (lo : Int)) none).cps.toList).length := TL.len_tl _
  rw [a, b, _root_.HS.cutS_to, _root_.HS.cutS_from, TL.len_tl z]
  exact ⟨by rw [List.length_take]; exact Nat.min_le_right _ _, by rw [List.length_drop]; exact Nat.sub_le _ _⟩
theorem sep_len : (" + " : Str).length = 3 := by rw [TL.len_tl, sep_tl]; rfl
theorem one_sign {i : Int} (h0 : 0 ≤ i) (h1 : i < 5) : ∃ c, atI (Str.ofString " 02+e").cps.toList i = some c ∧ c ≠ 120 := by
  have e : (Str.ofString " 02+e").cps.toList = [32, 48, 50, 43, 101] := by
    have := TL.tl_ofString " 02+e"
    exact this.trans rfl
  rw [e]
  have : i = 0 ∨ i = 1 ∨ i = 2 ∨ i = 3 ∨ i = 4 := by omega
  rcases this with rfl | rfl | rfl | rfl | rfl
  · exact ⟨32, _root_.HS.atN 0 rfl rfl, by decide⟩
  · exact ⟨48, _root_.HS.atN 1 rfl rfl, by decide⟩
  · exact ⟨50, _root_.HS.atN 2 rfl rfl, by decide⟩
  · exact ⟨43, _root_.HS.atN 3 rfl rfl, by decide⟩
  · exact ⟨101, _root_.HS.atN 4 rfl rfl, by decide⟩
theorem text_334 : textOf [3, 3, 4] = ("2x3 + 4" : Str) := by
  have r : partsOf [3, 3, 4] = [numS 2 ++ "x" ++ numS 3, numS 4] := rfl
  show Txt.join " + " (partsOf [3, 3, 4]) = _
  rw [r, TL.join_eq]
  apply TL.ext_tl
  rw [TL.tl_join, sep_tl, TL.tl_ofString, List.map_cons, List.map_cons, List.map_nil, TL.tl_append, TL.tl_append, x_tl, numS_one (by decide) (by decide), numS_one (by decide) (by decide), numS_one (by decide) (by decide)]
  decide +kernel
theorem kept_none {ps : List (Int × Int)} (g : goR (Txt.split "" " + ") 0 = some ps) : (spread ps).length ≤ 99999 ∧ ∀ p ∈ ps, p.1 ≤ 999 := by
  have e : TL.tl ("" : Str) = [] := by rw [TL.tl_ofString]; rfl
  exact kept_gen (by rw [e]; decide) (fun u v h => by rw [e] at h; simp at h) g
end
/-! Texts letter by letter: what stands ahead of a sign, how many chapters a text tells of. -/
section
open PySem
theorem x_eq : (Str.ofString "x") = (⟨#[120]⟩ : Str) := TL.ext_tl x_tl
/-- the first x of t stands between a and b -/
def Xat (t a b : Str) : Prop := TL.tl t = TL.tl a ++ 120 :: TL.tl b ∧ 120 ∉ TL.tl a
theorem xat_of {t : Str} (h : 120 ∈ TL.tl t) : ∃ a b, Xat t a b := by
  obtain ⟨p, q, e, n⟩ := List.eq_append_cons_of_mem h
  exact ⟨⟨p.toArray⟩, ⟨q.toArray⟩, by rw [TL.tl_mk, TL.tl_mk]; exact e, by rw [TL.tl_mk]; exact n⟩
theorem Xat.eq {t a b : Str} (h : Xat t a b) : t = a ++ "x" ++ b := TL.ext_tl (by rw [TL.tl_append, TL.tl_append, x_tl, h.1, List.append_assoc]; rfl)
theorem Xat.len {t a b : Str} (h : Xat t a b) : t.length = a.length + 1 + b.length := by rw [TL.len_tl, h.1, List.length_append, List.length_cons, ← TL.len_tl, ← TL.len_tl]; omega
theorem chR_no {t : Str} (h : 120 ∉ TL.tl t) : chR t = (1, numR t) := by unfold chR; rw [TL.partition_none x_tl h, if_pos rfl]
theorem chR_x {t a b : Str} (h : Xat t a b) : chR t = if numR a = 1 then (0, 0) else (numR a, numR b) := by
  unfold chR
  rw [h.eq, TL.partition_app x_tl h.2, if_neg x_ne]
theorem index_x {t a b : Str} (h : Xat t a b) : ∃ rest, Builtin.Str.occurrences t (Str.ofString "x") 0 t.length 1 = a.length :: rest := by
  have e := TL.partition_app (a := a) (b := b) x_tl h.2
  rw [← h.eq] at e
  unfold Txt.partition at e
  cases ho : Builtin.Str.occurrences t (Str.ofString "x") 0 t.length 1 with
  | nil =>
    rw [ho] at e
    exact absurd (Prod.mk.inj (Prod.mk.inj e).2).1.symm x_ne
  | cons i rest =>
    rw [ho] at e
    have z : TL.tl (Builtin.Str.strSub t 0 i) = TL.tl a := congrArg TL.tl (Prod.mk.inj e).1
    have s := (StrLaws.occ_spec t (Str.ofString "x") 0 t.length 1 i (by rw [ho]; exact List.mem_cons_self)).1
    have zl := congrArg List.length z
    rw [TL.tl_strSub, List.drop_zero, List.length_take, ← TL.len_tl, ← TL.len_tl] at zl
    exact ⟨rest, by rw [show i = a.length by omega]⟩
theorem cut_a {t a b : Str} (h : Xat t a b) : L2.cutS t none (some (a.length : Int)) = a := TL.ext_tl (by
  rw [show TL.tl (L2.cutS t none (some (a.length : Int))) = _ from HS.cutS_to _ _]
  show (TL.tl t).take a.length = _
  rw [h.1, TL.len_tl, List.take_left'  rfl])
theorem cut_b {t a b : Str} (h : Xat t a b) : L2.cutS t (some ((a.length : Int) + 1)) none = b := TL.ext_tl (by
  rw [show ((a.length : Int) + 1) = ((a.length + 1 : Nat) : Int) by push_cast; rfl, show TL.tl (L2.cutS t (some ((a.length + 1 : Nat) : Int)) none) = _ from HS.cutS_from _ _]
  show (TL.tl t).drop (a.length + 1) = _
  rw [h.1, TL.len_tl, show TL.tl a ++ 120 :: TL.tl b = (TL.tl a ++ [120]) ++ TL.tl b by simp, List.drop_left' (by simp)])
theorem x_ne_nil : TL.tl (Str.ofString "x") ≠ [] := by rw [x_tl]; simp
theorem split_x {t a b : Str} (h : Xat t a b) : ∃ r, Txt.split t (Str.ofString "x") = a :: r := by
  have e := TL.split_spl t (Str.ofString "x") x_ne_nil (TL.kind_ok (by decide +kernel))
  rw [x_tl, h.1, show TL.tl a ++ 120 :: TL.tl b = TL.tl a ++ ([120] ++ TL.tl b) from rfl, TL.spl_part1 h.2] at e
  cases hs : Txt.split t (Str.ofString "x") with
  | nil => rw [hs] at e; cases e
  | cons p r =>
    rw [hs] at e
    exact ⟨r, by rw [TL.ext_tl (show TL.tl p = TL.tl a from (List.cons.inj e).1)]⟩
/-- how many chapters a part tells of ahead of its x -/
def cntL (p : List Nat) : Int := if 120 ∈ p then (if isNumL (p.takeWhile fun c => c != 120) then (NumText.digitsVal (p.takeWhile fun c => c != 120) : Nat) else 0) else 0
def sumL (L : List Nat) : Int := ((TL.spl [32, 43, 32] 0 [] L).map cntL).sum + (TL.spl [32, 43, 32] 0 [] L).length
def sumR (t : Str) : Int := ((Txt.split t " + ").map fun p => cntL (TL.tl p)).sum + (Txt.split t " + ").length
theorem sumR_eq (t : Str) : sumR t = sumL (TL.tl t) := by
  unfold sumR sumL
  rw [← sep_tl, ← TL.split_spl t " + " sep_ne (sep_kind t), List.map_map, List.length_map]
  rfl
theorem take_x {p q : List Nat} (h : 120 ∉ p) : (p ++ 120 :: q).takeWhile (fun c => c != 120) = p := by
  induction p with
  | nil => rfl
  | cons c r ih =>
    have hc : c ≠ 120 := fun z => h (by rw [z]; exact List.mem_cons_self)
    rw [List.cons_append, List.takeWhile_cons, if_pos (by simpa using hc), ih fun z => h (List.mem_cons_of_mem _ z)]
theorem cnt_x {t a b : Str} (h : Xat t a b) : cntL (TL.tl t) = numR a := by
  unfold cntL
  rw [h.1, if_pos (by simp), take_x h.2]
  rfl
theorem cnt_no {t : Str} (h : 120 ∉ TL.tl t) : cntL (TL.tl t) = 0 := if_neg h
theorem cnt_nn (L : List Nat) : 0 ≤ cntL L := by
  unfold cntL
  split
  · split <;> omega
  · exact Int.le_refl 0
theorem chR_cnt (p : Str) : (chR p).1 ≤ cntL (TL.tl p) + 1 := by
  by_cases h : 120 ∈ TL.tl p
  · obtain ⟨a, b, x⟩ := xat_of h
    rw [cnt_x x, chR_x x]
    have := numR_nn a
    split
    · show (0 : Int) ≤ _
      omega
    · show numR a ≤ _
      omega
  · rw [chR_no h, cnt_no h]
    exact Int.le_refl _
theorem goR_map : ∀ {parts : List Str} {b : Int} {ps : List (Int × Int)}, goR parts b = some ps → ps = parts.map chR
  | [], _, ps, h => by rw [goR] at h; exact (Option.some.inj h).symm
  | w :: r, b, ps, h => by
    rw [goR] at h
    split at h
    · cases h
    · cases e : goR r (chR w).2 with
      | none => rw [e] at h; cases h
      | some q =>
        rw [e] at h
        rw [← show chR w :: q = ps from Option.some.inj h, goR_map e, List.map_cons]
theorem sum_le_of (f g : Str → Int) (h : ∀ p, f p ≤ g p + 1) : ∀ parts : List Str, (parts.map f).sum ≤ (parts.map g).sum + parts.length
  | [] => Int.le_refl _
  | p :: r => by
    have := sum_le_of f g h r
    have := h p
    rw [List.map_cons, List.map_cons, List.sum_cons, List.sum_cons, List.length_cons]
    push_cast; omega
theorem spread_sum : ∀ {ps : List (Int × Int)}, (∀ p ∈ ps, 0 ≤ p.1) → ((spread ps).length : Int) = (ps.map (·.1)).sum
  | [], _ => rfl
  | p :: r, h => by
    rw [show spread (p :: r) = List.replicate p.1.toNat p.2 ++ spread r from rfl, List.length_append, List.length_replicate, List.map_cons, List.sum_cons, ← spread_sum fun q hq => h q (List.mem_cons_of_mem _ hq)]
    have := h p List.mem_cons_self
    push_cast; omega
theorem mem_le_sum : ∀ {xs : List Int}, (∀ x ∈ xs, 0 ≤ x) → ∀ x ∈ xs, x ≤ xs.sum
  | [], _, x, hx => by cases hx
  | y :: r, h, x, hx => by
    have h1 := h y List.mem_cons_self
    have h2 : 0 ≤ r.sum := by
      cases r with
      | nil => exact Int.le_refl _
      | cons z r => exact Int.le_trans (h z (by simp)) (mem_le_sum (fun w hw => h w (List.mem_cons_of_mem _ hw)) z List.mem_cons_self)
    rw [List.sum_cons]
    rcases List.mem_cons.mp hx with hx | hx
    · omega
    · have := mem_le_sum (fun w hw => h w (List.mem_cons_of_mem _ hw)) x hx
      omega
/-- what read_book asks of a text -/
theorem sum_ok {t : Str} {ps : List (Int × Int)} {B : Int} (hB : sumR t ≤ B) (h : goR (Txt.split t " + ") 0 = some ps) : ((spread ps).length : Int) ≤ B ∧ ∀ p ∈ ps, p.1 ≤ B := by
  have nn := goR_nn h
  have s := spread_sum fun p hp => (nn p hp).1
  have e := goR_map h
  have l := sum_le_of (fun p => (chR p).1) (fun p => cntL (TL.tl p)) chR_cnt (Txt.split t " + ")
  have e2 : (ps.map (·.1)).sum = ((Txt.split t " + ").map fun p => (chR p).1).sum := by rw [e, List.map_map]; rfl
  unfold sumR at hB
  refine ⟨by omega, fun p hp => ?_⟩
  have := mem_le_sum (xs := ps.map (·.1)) (fun x hx => by obtain ⟨q, hq, rfl⟩ := List.mem_map.mp hx; exact (nn q hq).1) p.1 (List.mem_map.mpr ⟨p, hp, rfl⟩)
  omega
/-- the letters that are left, and those of the word -/
theorem words_hit {w l : List Nat} {W u : List (List Nat)} (h : l.take 3 = [32, 43, 32]) (e : W ++ TL.spl [32, 43, 32] 0 w l = u) : (W ++ [w]) ++ TL.spl [32, 43, 32] 0 [] (l.drop 3) = u := by
  obtain ⟨c, r, rfl⟩ : ∃ c r, l = c :: r := by
    cases l with
    | nil => cases h
    | cons c r => exact ⟨c, r, rfl⟩
  have hp : TL.pre [32, 43, 32] (c :: r) = true := by show (List.take 3 (c :: r) == [32, 43, 32]) = true; rw [h]; rfl
  rw [TL.spl_hit hp, TL.spl_pass] at e
  rw [← e, List.append_assoc]
  rfl
theorem words_miss {w r : List Nat} {c : Nat} {W u : List (List Nat)} (h : (c :: r).take 3 ≠ [32, 43, 32]) (e : W ++ TL.spl [32, 43, 32] 0 w (c :: r) = u) : W ++ TL.spl [32, 43, 32] 0 (w ++ [c]) r = u := by
  have hp : TL.pre [32, 43, 32] (c :: r) = false := by
    show (List.take 3 (c :: r) == [32, 43, 32]) = false
    exact beq_eq_false_iff_ne.mpr h
  rw [TL.spl_miss hp] at e
  exact e
theorem words_end {t : Str} {W : List Str} {w : Str} (e : W.map TL.tl ++ TL.spl [32, 43, 32] 0 (TL.tl w) [] = TL.spl [32, 43, 32] 0 [] (TL.tl t)) : W ++ [w] = Txt.split t " + " := by
  rw [TL.spl_nil, ← sep_tl, ← TL.split_spl t " + " sep_ne (sep_kind t)] at e
  exact TL.map_tl_inj (by rw [List.map_append]; exact e)
end
section
open PySem
def isDg (c : Nat) : Bool := decide (48 ≤ c ∧ c ≤ 57)
theorem dg_tl : TL.tl (Str.ofString "0123456789") = [48, 49, 50, 51, 52, 53, 54, 55, 56, 57] := by rw [TL.tl_ofString]; rfl
theorem isDg_in (c : Nat) : decide (c ∈ (Str.ofString "0123456789").cps.toList) = isDg c := by
  rw [show (Str.ofString "0123456789").cps.toList = _ from dg_tl]
  unfold isDg
  refine decide_eq_decide.mpr ?_
  simp only [List.mem_cons, List.not_mem_nil, or_false]
  omega
theorem notDg (L : List Nat) : (L.filterMap fun c => if isDg c then none else some (L2.V.str ⟨#[c]⟩)) = (L.filter fun c => !isDg c).map fun c => L2.V.str ⟨#[c]⟩ := by
  induction L with
  | nil => rfl
  | cons c r ih =>
    rw [List.filterMap_cons, List.filter_cons]
    cases h : isDg c
    · simp only [Bool.false_eq_true, if_false, Bool.not_false, if_true, List.map_cons, ih]
    · simp only [if_true, Bool.not_true, Bool.false_eq_true, if_false, ih]
theorem spl_sub (S : List Nat) : ∀ (L : List Nat) (k : Nat) (acc p : List Nat), p ∈ TL.spl S k acc L → ∀ c ∈ p, c ∈ acc ∨ c ∈ L
  | [], _, acc, p, h, c, hc => by rw [TL.spl_nil, List.mem_singleton] at h; rw [h] at hc; exact .inl hc
  | d :: r, 0, acc, p, h, c, hc => by
    rw [TL.spl] at h
    split at h
    · rcases List.mem_cons.mp h with h | h
      · rw [h] at hc; exact .inl hc
      · rcases spl_sub S r _ _ _ h c hc with z | z
        · cases z
        · exact .inr (List.mem_cons_of_mem _ z)
    · rcases spl_sub S r _ _ _ h c hc with z | z
      · rcases List.mem_append.mp z with z | z
        · exact .inl z
        · rw [List.mem_singleton] at z; exact .inr (by rw [z]; exact List.mem_cons_self)
      · exact .inr (List.mem_cons_of_mem _ z)
  | d :: r, k + 1, acc, p, h, c, hc => by
    rw [TL.spl] at h
    rcases spl_sub S r _ _ _ h c hc with z | z
    · exact .inl z
    · exact .inr (List.mem_cons_of_mem _ z)
theorem split_sub {t p : Str} (h : p ∈ Txt.split t " + ") : ∀ c ∈ TL.tl p, c ∈ TL.tl t := fun c hc => by
  have e := TL.split_spl t " + " sep_ne (sep_kind t)
  have m : TL.tl p ∈ TL.spl (TL.tl (" + " : Str)) 0 [] (TL.tl t) := by rw [← e]; exact List.mem_map.mpr ⟨p, h, rfl⟩
  rcases spl_sub _ _ _ _ _ m c hc with z | z
  · cases z
  · exact z
end
section
open PySem
theorem run_succ {f : Str → Int} {parts : List Str} {i : Nat} {w : Str} (h : parts[i]? = some w) : ((parts.take (i + 1)).map f).sum = ((parts.take i).map f).sum + f w := by
  rw [List.take_add_one, h, List.map_append, List.sum_append]
  simp
theorem run_le {f : Str → Int} (hf : ∀ p, 0 ≤ f p) (parts : List Str) (i : Nat) : ((parts.take i).map f).sum ≤ (parts.map f).sum := by
  have e := congrArg (fun l => (l.map f).sum) (List.take_append_drop i parts)
  have e2 : ((parts.take i).map f).sum + ((parts.drop i).map f).sum = (parts.map f).sum := by rw [← List.sum_append, ← List.map_append]; exact e
  have : 0 ≤ ((parts.drop i).map f).sum := by
    generalize parts.drop i = r
    induction r with
    | nil => exact Int.le_refl _
    | cons c r ih => rw [List.map_cons, List.sum_cons]; have := hf c; omega
  omega
theorem Xat.sub {t a b : Str} (h : Xat t a b) {P : Nat → Prop} (hp : ∀ c ∈ TL.tl t, P c) : (∀ c ∈ TL.tl a, P c) ∧ ∀ c ∈ TL.tl b, P c :=
  ⟨fun c hc => hp c (by rw [h.1]; exact List.mem_append_left _ hc), fun c hc => hp c (by rw [h.1]; exact List.mem_append_right _ (List.mem_cons_of_mem _ hc))⟩
end
section
open PySem
/-- chapters that a part tells of at most -/
def manyL (p : List Nat) : Int := if 120 ∈ p then cntL p else 1
def lenL (L : List Nat) : Int := ((TL.spl [32, 43, 32] 0 [] L).map manyL).sum
def lenR (t : Str) : Int := ((Txt.split t " + ").map fun p => manyL (TL.tl p)).sum
theorem lenR_eq (t : Str) : lenR t = lenL (TL.tl t) := by
  unfold lenR lenL
  rw [← sep_tl, ← TL.split_spl t " + " sep_ne (sep_kind t), List.map_map]
  rfl
theorem sum_mono {f g : Str → Int} (h : ∀ p, f p ≤ g p) : ∀ parts : List Str, (parts.map f).sum ≤ (parts.map g).sum
  | [] => Int.le_refl _
  | p :: r => by
    have := sum_mono h r
    have := h p
    rw [List.map_cons, List.map_cons, List.sum_cons, List.sum_cons]
    omega
theorem chR_many (p : Str) : (chR p).1 ≤ manyL (TL.tl p) := by
  unfold manyL
  split
  · rename_i h
    obtain ⟨a, b, x⟩ := xat_of h
    rw [cnt_x x, chR_x x]
    have := numR_nn a
    split
    · exact this
    · exact Int.le_refl _
  · rename_i h
    rw [chR_no h]
    exact Int.le_refl _
theorem many_cnt (L : List Nat) : manyL L ≤ cntL L + 1 := by
  unfold manyL
  have := cnt_nn L
  split <;> omega
theorem lenR_le (t : Str) : lenR t ≤ sumR t := sum_le_of (fun p => manyL (TL.tl p)) (fun p => cntL (TL.tl p)) (fun p => many_cnt _) _
theorem read_len {t : Str} {ls : List Int} (h : readR t = some ls) (hl : lenR t ≤ 1000) : ls.length ≤ 1000 := by
  unfold readR at h
  split at h
  · rw [← Option.some.inj h]; exact Nat.zero_le _
  · cases e : goR (Txt.split t " + ") 0 with
    | none => rw [e] at h; cases h
    | some ps =>
      rw [e] at h
      rw [← show spread ps = ls from Option.some.inj h]
      have nn := goR_nn e
      have s := spread_sum fun p hp => (nn p hp).1
      have em := goR_map e
      have l := sum_mono chR_many (Txt.split t " + ")
      have e2 : (ps.map (·.1)).sum = ((Txt.split t " + ").map fun p => (chR p).1).sum := by rw [em, List.map_map]; rfl
      unfold lenR at hl
      omega
/-- the sum that _law_is_small makes -/
theorem small_sum : ∀ parts : List Str, (parts.filterMap fun p => if 120 ∈ TL.tl p then some (cntL (TL.tl p)) else none).sum = (parts.map fun p => cntL (TL.tl p)).sum
  | [] => rfl
  | p :: r => by
    rw [List.filterMap_cons, List.map_cons, List.sum_cons, ← small_sum r]
    by_cases h : 120 ∈ TL.tl p
    · rw [if_pos h]; exact List.sum_cons
    · rw [if_neg h, cnt_no h]; simp
/-- words of plain signs, and how long they are together -/
def wlen (ws : List Str) : Nat := (ws.map fun p => p.length + 3).sum
def Ws (ws : List Str) (B : Nat) : Prop := wlen ws ≤ B ∧ ∀ p ∈ ws, ∀ c ∈ TL.tl p, c < 128
theorem wlen_app (a b : List Str) : wlen (a ++ b) = wlen a + wlen b := by unfold wlen; rw [List.map_append, List.sum_append]
theorem spl_wlen : ∀ (L acc : List Nat) (k : Nat), k ≤ L.length → ((TL.spl [32, 43, 32] k acc L).map fun p => p.length + 3).sum + k ≤ acc.length + L.length + 3
  | [], acc, k, h => by
    rw [TL.spl_nil]
    simp only [List.map_cons, List.map_nil, List.sum_cons, List.sum_nil, List.length_nil] at h ⊢
    omega
  | c :: r, acc, 0, h => by
    rw [TL.spl]
    split
    · rename_i g
      have e : (c :: r).take 3 = [32, 43, 32] := eq_of_beq (show ((c :: r).take 3 == [32, 43, 32]) = true from g)
      have l := congrArg List.length e
      rw [List.length_take] at l
      simp only [List.length_cons, List.length_nil] at l
      have : ((TL.spl [32, 43, 32] ([32, 43, 32].length - 1) [] r).map fun p => p.length + 3).sum + 2 ≤ [].length + r.length + 3 := spl_wlen r [] 2 (by omega)
      rw [List.map_cons, List.sum_cons]
      simp only [List.length_cons, List.length_nil] at this ⊢
      omega
    · have := spl_wlen r (acc ++ [c]) 0 (Nat.zero_le _)
      simp only [List.length_append, List.length_cons, List.length_nil] at this ⊢
      omega
  | c :: r, acc, k + 1, h => by
    rw [TL.spl]
    have := spl_wlen r acc k (by simpa using h)
    simp only [List.length_cons]
    omega
theorem Ws.split {t : Str} (h : ∀ c ∈ TL.tl t, c < 128) : Ws (Txt.split t " + ") (t.length + 3) := by
  refine ⟨?_, fun p hp c hc => h c (split_sub hp c hc)⟩
  have := spl_wlen (TL.tl t) [] 0 (Nat.zero_le _)
  rw [← sep_tl, ← TL.split_spl t " + " sep_ne (sep_kind t), List.map_map] at this
  unfold wlen
  rw [show (fun p : Str => p.length + 3) = (fun p : List Nat => p.length + 3) ∘ TL.tl from funext fun p => by show p.length + 3 = (TL.tl p).length + 3; rw [TL.len_tl]]
  rw [TL.len_tl]
  simpa using this
theorem Ws.parts {ws : List Str} {B : Nat} (h : Ws ws B) (i : Nat) : Ws (ws.take i) B ∧ Ws (ws.drop i) B ∧ wlen (ws.take i) + wlen (ws.drop i) ≤ B := by
  have e := wlen_app (ws.take i) (ws.drop i)
  rw [List.take_append_drop] at e
  have := h.1
  exact ⟨⟨by omega, fun p hp => h.2 p (List.mem_of_mem_take hp)⟩, ⟨by omega, fun p hp => h.2 p (List.mem_of_mem_drop hp)⟩, by omega⟩
theorem Ws.app {a b : List Str} {A B : Nat} (h : Ws a A) (g : Ws b B) : Ws (a ++ b) (A + B) := by
  refine ⟨by rw [wlen_app]; have := h.1; have := g.1; omega, fun p hp => ?_⟩
  rcases List.mem_append.mp hp with z | z
  · exact h.2 p z
  · exact g.2 p z
theorem Ws.up {a : List Str} {A B : Nat} (h : Ws a A) (l : A ≤ B) : Ws a B := ⟨Nat.le_trans h.1 l, h.2⟩
theorem drop_step {ws : List Str} {i : Nat} (h : i < ws.length) : ws.drop i = ws[i] :: ws.drop (i + 1) := List.drop_eq_getElem_cons h
theorem Ws.cut {ws : List Str} {B : Nat} (h : Ws ws B) {i : Nat} (hi : i < ws.length) : Ws (ws.take i ++ ws.drop (i + 1)) B ∧ Ws [ws[i]] B ∧ wlen (ws.take i) + wlen [ws[i]] + wlen (ws.drop (i + 1)) ≤ B := by
  have a := h.parts i
  have b := wlen_app [ws[i]] (ws.drop (i + 1))
  rw [show [ws[i]] ++ ws.drop (i + 1) = ws.drop i from (drop_step hi).symm] at b
  have c := h.parts (i + 1)
  refine ⟨⟨by rw [wlen_app]; omega, fun p hp => ?_⟩, ⟨by omega, fun p hp => ?_⟩, by omega⟩
  · rcases List.mem_append.mp hp with z | z
    · exact a.1.2 p z
    · exact c.2.1.2 p z
  · rw [List.mem_singleton] at hp
    rw [hp]
    exact h.2 _ (List.getElem_mem hi)
theorem join_sub (S : List Nat) : ∀ (ps : List (List Nat)) (c : Nat), c ∈ TL.joinL S ps → c ∈ S ∨ ∃ p ∈ ps, c ∈ p
  | [], c, h => by cases h
  | [p], c, h => .inr ⟨p, List.mem_cons_self, h⟩
  | p :: q :: r, c, h => by
    rw [TL.joinL] at h
    rcases List.mem_append.mp h with z | z
    · exact .inr ⟨p, List.mem_cons_self, z⟩
    rcases List.mem_append.mp z with z | z
    · exact .inl z
    rcases join_sub S (q :: r) c z with z | ⟨u, hu, z⟩
    · exact .inl z
    · exact .inr ⟨u, List.mem_cons_of_mem _ hu, z⟩
theorem wlen_sum (ws : List Str) : (ws.map fun p => p.length).sum + ws.length * 3 = wlen ws := by
  unfold wlen
  induction ws with
  | nil => rfl
  | cons p r ih => rw [List.map_cons, List.map_cons, List.sum_cons, List.sum_cons, List.length_cons, ← ih]; omega
theorem sep_sign : ∀ c ∈ TL.tl (" + " : Str), c < 128 := by rw [sep_tl]; decide
theorem Ws.join {ws : List Str} {B : Nat} (h : Ws ws B) : (Txt.join " + " ws).length ≤ B ∧ ∀ c ∈ TL.tl (Txt.join " + " ws), c < 128 := by
  rw [TL.join_eq]
  refine ⟨?_, fun c hc => ?_⟩
  · have g := glue_len " + " ws
    have a : (" + " : Str).length = 3 := sep_len
    rw [a, wlen_sum] at g
    rw [TL.len_tl, TL.tl_join]
    have := h.1
    omega
  · rw [TL.tl_join] at hc
    rcases join_sub _ _ _ hc with z | ⟨p, hp, z⟩
    · exact sep_sign c z
    · obtain ⟨q, hq, rfl⟩ := List.mem_map.mp hp
      exact h.2 q hq c z
theorem Ws.joins {ws : List Str} {B : Nat} (h : Ws ws B) (hB : B ≤ 100000) : (ws.map fun p => p.length).sum + ws.length * (" + " : Str).length ≤ 16777216 := by
  rw [show (" + " : Str).length = 3 from sep_len, wlen_sum]
  have := h.1
  omega
theorem numS_sign {z : Int} (h : 0 ≤ z) : ∀ c ∈ TL.tl (numS z), c < 128 := fun c hc => by
  rw [numS_tl h] at hc
  have := TL.numL_digits _ c hc
  omega
theorem partS_sign {m z : Int} (hm : 0 ≤ m) (hz : 0 ≤ z) : ∀ c ∈ TL.tl (partS m z), c < 128 := fun c hc => by
  unfold partS at hc
  split at hc
  · exact numS_sign hz c hc
  · rw [TL.tl_append, TL.tl_append, x_tl, List.mem_append, List.mem_append] at hc
    rcases hc with (hc | hc) | hc
    · exact numS_sign hm c hc
    · rw [List.mem_singleton] at hc; omega
    · exact numS_sign hz c hc
theorem textOf_sign {ls : List Int} (h : ∀ x ∈ ls, 0 ≤ x) : ∀ c ∈ TL.tl (textOf ls), c < 128 := fun c hc => by
  by_cases e : ls = []
  · rw [show textOf ls = ("empty" : Str) from if_pos e, empty_tl] at hc
    simp only [List.mem_cons, List.not_mem_nil, or_false] at hc
    omega
  · rw [show textOf ls = Txt.join " + " (partsOf ls) from if_neg e, TL.join_eq, TL.tl_join] at hc
    rcases join_sub _ _ _ hc with z | ⟨p, hp, z⟩
    · exact sep_sign c z
    · obtain ⟨q, hq, rfl⟩ := List.mem_map.mp hp
      obtain ⟨r, hr, rfl⟩ := List.mem_map.mp hq
      have m := runs_mem hr
      exact partS_sign (by omega) (h _ m.2.2) c z
theorem cutS_sub (z : Str) (lo hi : Option Int) : ∀ c ∈ TL.tl (L2.cutS z lo hi), c ∈ TL.tl z := fun c hc => List.mem_of_mem_drop (List.mem_of_mem_take hc)
theorem app_sign {x y : Str} (hx : ∀ c ∈ TL.tl x, c < 128) (hy : ∀ c ∈ TL.tl y, c < 128) : ∀ c ∈ TL.tl (x ++ y), c < 128 := fun c hc => by
  rw [TL.tl_append] at hc
  exact (List.mem_append.mp hc).elim (hx c) (hy c)
theorem rep_sign {x : Str} (hx : ∀ c ∈ TL.tl x, c < 128) (n : Nat) : ∀ c ∈ TL.tl (HS.repS x n), c < 128 := fun c hc => by
  rw [HS.repS_tl] at hc
  obtain ⟨l, hl, hc⟩ := List.mem_flatten.mp hc
  rw [List.mem_replicate] at hl
  rw [hl.2] at hc
  exact hx c hc
end
section
open PySem L2
theorem cut_one {xs : List V} {i : Nat} (hi : i < xs.length) : cutV xs (some (i : Int)) (some ((i + 1 : Nat) : Int)) = [xs[i]] := by
  unfold cutV
  rw [HT.sIx_nat, HT.sIx_nat, Nat.min_eq_left (by omega), Nat.min_eq_left (by omega), show i + 1 - i = 1 by omega, List.drop_eq_getElem_cons hi]
  rfl
def someS : List Str := [Str.ofString "", Str.ofString "0", Str.ofString "01", Str.ofString "0x3", Str.ofString "1x3", Str.ofString "2x", Str.ofString "x3", Str.ofString "2x0", Str.ofString "2x3x4", Str.ofString "3x", Str.ofString "empty", Str.ofString "-1", Str.ofString "2 x3", HS.repS (Str.ofString "9") (Int.toNat 40),
  HS.repS (Str.ofString "9") (Int.toNat 41), Str.ofString "2X3", Str.ofString "2x" ++ HS.repS (Str.ofString "9") (Int.toNat 40), Str.ofString "2x" ++ HS.repS (Str.ofString "9") (Int.toNat 41), Str.ofString "+", Str.ofString "1.0"]
theorem someS_ok : ∀ x ∈ someS, x.length ≤ 45 ∧ ∀ c ∈ TL.tl x, c < 128 := by
  have h : (someS.all fun x => decide (x.length ≤ 45) && (TL.tl x).all fun c => decide (c < 128)) = true := by decide +kernel
  intro x hx
  have := List.all_eq_true.mp h x hx
  rw [Bool.and_eq_true, decide_eq_true_eq, List.all_eq_true] at this
  exact ⟨this.1, fun c hc => of_decide_eq_true (this.2 c hc)⟩
theorem sign21 {i : Int} (h0 : 0 ≤ i) (h1 : i < 21) : ∃ c, atI (Str.ofString " 0123456789+xXempty-.").cps.toList i = some c ∧ c < 128 := by
  have h : ∀ j < 21, ∃ c, (Str.ofString " 0123456789+xXempty-.").cps.toList[j]? = some c ∧ c < 128 := by
    have g : ((List.range 21).all fun j => match (Str.ofString " 0123456789+xXempty-.").cps.toList[j]? with | some c => decide (c < 128) | none => false) = true := by decide +kernel
    intro j hj
    have := List.all_eq_true.mp g j (List.mem_range.mpr hj)
    cases e : (Str.ofString " 0123456789+xXempty-.").cps.toList[j]? with
    | none => rw [e] at this; cases this
    | some c => rw [e] at this; exact ⟨c, rfl, of_decide_eq_true this⟩
  obtain ⟨c, hc, hl⟩ := h i.toNat (by omega)
  exact ⟨c, HS.atN i.toNat (by omega) hc, hl⟩
def goodB (x : Str) : Bool := (decide (x.length ≤ 15000) && (TL.tl x).all fun c => decide (c < 128)) && (decide (sumL (TL.tl x) ≤ 2000) && decide (lenL (TL.tl x) ≤ 1000))
theorem good_of {x : Str} (h : goodB x = true) : x.length ≤ 15000 ∧ (∀ c ∈ TL.tl x, c < 128) ∧ sumR x ≤ 2000 ∧ lenR x ≤ 1000 := by
  unfold goodB at h
  rw [Bool.and_eq_true, Bool.and_eq_true, Bool.and_eq_true, decide_eq_true_eq, decide_eq_true_eq, decide_eq_true_eq, List.all_eq_true] at h
  exact ⟨h.1.1, fun c hc => of_decide_eq_true (h.1.2 c hc), by rw [sumR_eq]; exact h.2.1, by rw [lenR_eq]; exact h.2.2⟩
def fixedS : List Str := [Str.ofString "", Str.ofString " ", Str.ofString "empty", Str.ofString "empty ", Str.ofString "Empty", Str.ofString "0", Str.ofString "1", Str.ofString "01", Str.ofString "1 + 1", Str.ofString "1 + 2", Str.ofString "2x1", Str.ofString "1x1", Str.ofString "0x1", Str.ofString "2x0", Str.ofString "2x",
  Str.ofString "x2", Str.ofString "2x1 + 1", Str.ofString "1 + 2x1", Str.ofString "2x1 + 3x1", Str.ofString "2x1 + 3x2", Str.ofString "1+2", Str.ofString "1 +2", Str.ofString "1 + ", Str.ofString " + 1", Str.ofString "1  + 2",
  Str.ofString "empty + 1", Str.ofString "2x3x4", Str.ofString "2 x 3", Str.ofString "1000x1", HS.repS (Str.ofString "9") (Int.toNat 40), HS.repS (Str.ofString "9") (Int.toNat 41), Str.ofString "-1", Str.ofString "+1", Str.ofString "1_0", Str.ofString "1.5", Str.ofString "002x3"]
theorem fixedS_ok : ∀ x ∈ fixedS, x.length ≤ 15000 ∧ (∀ c ∈ TL.tl x, c < 128) ∧ sumR x ≤ 2000 ∧ lenR x ≤ 1000 := by
  have h : fixedS.all goodB = true := by decide +kernel
  exact fun x hx => good_of (List.all_eq_true.mp h x hx)
end
/-! Long texts: parts that are put together, and one wrong among them. -/
section
open PySem
theorem goR_bad : ∀ {parts : List Str} {p : Str} (b : Int), p ∈ parts → ((chR p).1 = 0 ∨ (chR p).2 = 0) → goR parts b = none
  | w :: r, p, b, hp, h => by
    rw [goR]
    by_cases hw : (chR w).1 = 0 ∨ (chR w).2 = 0 ∨ (chR w).2 = b
    · rw [if_pos hw]
    · rw [if_neg hw]
      rcases List.mem_cons.mp hp with e | hp
      · subst e
        exact absurd (h.elim .inl fun z => .inr (.inl z)) hw
      · rw [goR_bad _ hp h]; rfl
theorem partS_no {m z : Int} (hm : 0 ≤ m) (hz : 0 ≤ z) : ¬ 101 ∈ TL.tl (partS m z) := by
  unfold partS
  split
  · exact numS_free (.inr (by decide)) hz
  · rw [TL.tl_append, TL.tl_append, x_tl, List.mem_append, List.mem_append]
    rintro ((h | h) | h)
    · exact numS_free (.inr (by decide)) hm h
    · simp at h
    · exact numS_free (.inr (by decide)) hz h
theorem join_not_empty {ws : List Str} (h : ∀ p ∈ ws, ¬ 101 ∈ TL.tl p) : Txt.join " + " ws ≠ ("empty" : Str) := fun e => by
  have : 101 ∈ TL.tl (Txt.join " + " ws) := by rw [e, empty_tl]; simp
  rw [TL.join_eq, TL.tl_join] at this
  rcases join_sub _ _ _ this with z | ⟨p, hp, z⟩
  · rw [sep_tl] at z; simp at z
  · obtain ⟨q, hq, rfl⟩ := List.mem_map.mp hp
    exact h q hq z
/-- many chapters in all -/
def manyS (ps : List (Int × Int)) : Int := (ps.map (·.1)).sum
theorem manyS_app (a b : List (Int × Int)) : manyS (a ++ b) = manyS a + manyS b := by unfold manyS; rw [List.map_append, List.sum_append]
theorem cnt_part {m z : Int} (h1 : 1 ≤ m) (h2 : m < 10 ^ 40) (h3 : 1 ≤ z) (h4 : z < 10 ^ 40) : cntL (TL.tl (partS m z)) ≤ m := by
  by_cases h : 120 ∈ TL.tl (partS m z)
  · obtain ⟨a, b, x⟩ := xat_of h
    have c := chR_partS h1 h2 h3 h4
    rw [chR_x x] at c
    rw [cnt_x x]
    split at c
    · have := congrArg Prod.fst c
      have : (0 : Int) = m := this
      omega
    · have : numR a = m := congrArg Prod.fst c
      omega
  · rw [cnt_no h]; omega
theorem sum_parts : ∀ {ps : List (Int × Int)}, Good ps → ((ps.map fun p => partS p.1 p.2).map fun p => cntL (TL.tl p)).sum ≤ manyS ps ∧ (ps.length : Int) ≤ manyS ps
  | [], _ => ⟨Int.le_refl _, Int.le_refl _⟩
  | p :: r, h => by
    obtain ⟨a, b⟩ := sum_parts (ps := r) fun q hq => h q (List.mem_cons_of_mem _ hq)
    obtain ⟨h1, h2, h3, h4⟩ := h p List.mem_cons_self
    have c := cnt_part h1 h2 h3 h4
    have d : manyS (p :: r) = p.1 + manyS r := by unfold manyS; rw [List.map_cons, List.sum_cons]
    rw [d, List.map_cons, List.map_cons, List.sum_cons, List.length_cons]
    exact ⟨by omega, by push_cast; omega⟩
theorem good_free {ps : List (Int × Int)} (h : Good ps) : ∀ p ∈ ps.map (fun p => partS p.1 p.2), ¬ 32 ∈ TL.tl p ∧ ¬ 101 ∈ TL.tl p ∧ ∀ c ∈ TL.tl p, c < 128 := fun p hp => by
  obtain ⟨q, hq, rfl⟩ := List.mem_map.mp hp
  have := h q hq
  exact ⟨partS_free (by omega) (by omega), partS_no (by omega) (by omega), partS_sign (by omega) (by omega)⟩
theorem long_read {ps : List (Int × Int)} (hn : ps ≠ []) (h : Good ps) (u : unlike 0 ps) :
    readR (Txt.join " + " (ps.map fun p => partS p.1 p.2)) = some (spread ps) ∧ sumR (Txt.join " + " (ps.map fun p => partS p.1 p.2)) ≤ 2 * manyS ps ∧ textOf (spread ps) = Txt.join " + " (ps.map fun p => partS p.1 p.2) ∧ ((spread ps).length : Int) = manyS ps := by
  have ne := join_not_empty fun p hp => (good_free h p hp).2.1
  have hs := split_parts (ps := ps.map fun p => partS p.1 p.2) (by simpa using hn) fun p hp => (good_free h p hp).1
  obtain ⟨a, b⟩ := sum_parts h
  refine ⟨readR_parts hn h u ne, ?_, ?_, spread_sum fun p hp => by have := h p hp; omega⟩
  · unfold sumR
    rw [hs, List.length_map]
    omega
  · have sn : spread ps ≠ [] := fun z => by
      have e := spread_sum (ps := ps) fun p hp => by have := h p hp; omega
      rw [z] at e
      cases ps with
      | nil => exact hn rfl
      | cons p r =>
        have := h p List.mem_cons_self
        have d : manyS (p :: r) = p.1 + manyS r := by unfold manyS; rw [List.map_cons, List.sum_cons]
        have := (sum_parts (ps := r) fun q hq => h q (List.mem_cons_of_mem _ hq)).2
        have e' : (([] : List Int).length : Int) = manyS (p :: r) := e
        simp only [List.length_nil] at e'
        omega
    rw [show textOf (spread ps) = Txt.join " + " (partsOf (spread ps)) from if_neg sn]
    unfold partsOf
    rw [runs_of h u]
def wrongS : List Str := [Str.ofString "0", Str.ofString "", Str.ofString "1x7", Str.ofString "2x0", Str.ofString "x"]
theorem wrongS_ok : ∀ x ∈ wrongS, x.length ≤ 3 ∧ ¬ 32 ∈ TL.tl x ∧ ¬ 101 ∈ TL.tl x ∧ cntL (TL.tl x) ≤ 2 ∧ ((chR x).1 = 0 ∨ (chR x).2 = 0) := by
  have h : (wrongS.all fun x => decide (x.length ≤ 3) && (decide (¬ 32 ∈ TL.tl x) && (decide (¬ 101 ∈ TL.tl x) && (decide (cntL (TL.tl x) ≤ 2) && decide ((chR x).1 = 0 ∨ (chR x).2 = 0))))) = true := by decide +kernel
  intro x hx
  have := List.all_eq_true.mp h x hx
  rw [Bool.and_eq_true, Bool.and_eq_true, Bool.and_eq_true, Bool.and_eq_true, decide_eq_true_eq, decide_eq_true_eq, decide_eq_true_eq, decide_eq_true_eq, decide_eq_true_eq] at this
  exact ⟨this.1, this.2.1, this.2.2.1, this.2.2.2.1, this.2.2.2.2⟩
theorem sum_set {f : Str → Int} (hf : ∀ p, 0 ≤ f p) (u : Str) : ∀ (ws : List Str) (i : Nat), ((ws.set i u).map f).sum ≤ (ws.map f).sum + f u
  | [], i => by have := hf u; simpa using this
  | w :: r, 0 => by
    have := hf w
    rw [List.set_cons_zero, List.map_cons, List.map_cons, List.sum_cons, List.sum_cons]
    omega
  | w :: r, i + 1 => by
    have := sum_set hf u r i
    rw [List.set_cons_succ, List.map_cons, List.map_cons, List.sum_cons, List.sum_cons]
    omega
theorem wrong_read {ws : List Str} {i : Nat} {u : Str} (hi : i < ws.length) (h : ∀ p ∈ ws, ¬ 32 ∈ TL.tl p ∧ ¬ 101 ∈ TL.tl p) (h1 : ¬ 32 ∈ TL.tl u) (h2 : ¬ 101 ∈ TL.tl u) (h3 : cntL (TL.tl u) ≤ 2) (h4 : (chR u).1 = 0 ∨ (chR u).2 = 0) :
    readR (Txt.join " + " (ws.set i u)) = none ∧ sumR (Txt.join " + " (ws.set i u)) ≤ (ws.map fun p => cntL (TL.tl p)).sum + 2 + ws.length := by
  have mem : ∀ p ∈ ws.set i u, ¬ 32 ∈ TL.tl p ∧ ¬ 101 ∈ TL.tl p := fun p hp => by
    rcases List.mem_or_eq_of_mem_set hp with z | z
    · exact h p z
    · rw [z]; exact ⟨h1, h2⟩
  have hs := split_parts (ps := ws.set i u) (fun z => by have := congrArg List.length z; rw [List.length_set] at this; simp only [List.length_nil] at this; omega) fun p hp => (mem p hp).1
  have ne := join_not_empty fun p hp => (mem p hp).2
  constructor
  · unfold readR
    rw [if_neg ne, hs, goR_bad 0 (List.mem_of_getElem? (i := i) (List.getElem?_set_self hi)) h4]
    rfl
  · unfold sumR
    rw [hs, List.length_set]
    have := sum_set (f := fun p => cntL (TL.tl p)) (fun p => cnt_nn _) u ws i
    omega
theorem ones_read : readR (HS.repS (Str.ofString "1") 4000) = none ∧ sumR (HS.repS (Str.ofString "1") 4000) ≤ 2 := by
  have e : TL.tl (HS.repS (Str.ofString "1") 4000) = List.replicate 4000 49 := by rw [HS.repS_tl, TL.tl_ofString]; rw [show ("1".toList.map Char.toNat) = [49] from rfl]; simp [List.flatten_replicate_singleton]
  have free : ∀ c, c ≠ 49 → ¬ c ∈ TL.tl (HS.repS (Str.ofString "1") 4000) := fun c hc h => by
    rw [e] at h
    exact hc (List.mem_replicate.mp h).2
  have j : Txt.join " + " [HS.repS (Str.ofString "1") 4000] = HS.repS (Str.ofString "1") 4000 := by rw [TL.join_eq]; rfl
  have hs := split_parts (ps := [HS.repS (Str.ofString "1") 4000]) (by simp) fun p hp => by rw [List.mem_singleton] at hp; rw [hp]; exact free 32 (by decide)
  rw [j] at hs
  have n0 : numR (HS.repS (Str.ofString "1") 4000) = 0 := by
    unfold numR isNumL
    rw [show decide ((TL.tl (HS.repS (Str.ofString "1") 4000)).length ≤ 40) = false from decide_eq_false (by rw [e, List.length_replicate]; decide)]
    simp
  constructor
  · unfold readR
    rw [if_neg (fun z => free 101 (by decide) (by rw [z, empty_tl]; simp)), hs, goR_bad 0 List.mem_cons_self (.inr (by rw [chR_no (free 120 (by decide)), n0]))]
    rfl
  · unfold sumR
    rw [hs, List.map_cons, List.map_nil, List.sum_cons, List.sum_nil, cnt_no (free 120 (by decide))]
    decide
theorem total_eq {j : Int} (hj : 1 ≤ j) : ∀ ls : List Int, (ls.map fun x => (x - 1) / j + 1).sum = pcount ls j
  | [] => rfl
  | x :: r => by
    rw [List.map_cons, List.sum_cons, total_eq hj r, pcount_cons, show x + j - 1 = (x - 1) + j * 1 by omega, Int.add_mul_ediv_left _ _ (by omega)]
theorem unlike_snoc : ∀ {ps : List (Int × Int)} {b : Int} {p : Int × Int}, unlike b ps → (ps.getLast?.map (·.2)).getD b ≠ p.2 → unlike b (ps ++ [p])
  | [], b, p, _, h => ⟨fun z => h z.symm, trivial⟩
  | q :: r, b, p, ⟨a, u⟩, h => by
    refine ⟨a, unlike_snoc (ps := r) u ?_⟩
    cases r with
    | nil => exact h
    | cons s r =>
      rw [List.getLast?_cons_cons] at h
      cases e : (s :: r).getLast? with
      | none => simp at e
      | some z => rw [e] at h; exact h
theorem numS_long {z : Int} (h : 10 ^ 38 ≤ z) : 39 ≤ (numS z).length := by
  rw [TL.len_tl, numS_tl (by omega)]
  rcases Nat.lt_or_ge (TL.numL z.toNat).length 39 with hl | hl
  · have e := TL.numL_val z.toNat
    have lt := digitsVal_lt (TL.numL_digits z.toNat)
    rw [e] at lt
    have : (10 : Nat) ^ (TL.numL z.toNat).length ≤ 10 ^ 38 := Nat.pow_le_pow_right (by decide) (by omega)
    omega
  · exact hl
theorem numS_short {z : Int} (h : 0 ≤ z) (h1 : z < 10 ^ 40) : (numS z).length ≤ 40 := by
  rw [TL.len_tl, numS_tl h]
  exact TL.numL_len (by decide) (by omega)
end
end WK42
namespace WK42
open PySem PySem.Spec PyProof.Rows L2
local macro_rules | `(tactic| walk_at "ne") => `(tactic| first | assumption | (apply Ne.symm; assumption) | exact ne_of_none (by assumption) (by assumption) | exact (ne_of_none (by assumption) (by assumption)).symm | exact ne_of_none upd_same (by assumption) | exact (ne_of_none upd_same (by assumption)).symm)
local macro_rules | `(tactic| walk_at "hp") => `(tactic| first | assumption | exact upd_same | (rw [upd_ne (by walk_at "ne")]; walk_at "hp"))
local macro_rules | `(tactic| walk_at "side") => `(tactic| first | omega | decide | assumption | exact ⟨by decide, by decide⟩ | exact ⟨by omega, by omega⟩ | exact .inl (by omega) | exact .inr (by omega) | exact .inl (by decide) | exact .inr (by decide) | exact ⟨by decide, by decide, by decide⟩ | exact ⟨by decide, by decide, by omega⟩ | exact .inl ⟨by omega, by omega⟩ | exact .inr ⟨by omega, by omega⟩ | exact .inr ⟨by decide, by decide⟩ | exact .inl ⟨by decide, by decide⟩ | (show _ < _; omega))
local macro_rules | `(tactic| walk_at "len") => `(tactic| ((try simp only [List.length_map, List.length_append, List.length_cons, List.length_nil, List.length_set, List.length_replicate]); omega))
local macro_rules | `(tactic| walk_at "sq") => `(tactic| first | assumption | exact HS.sq (by walk_at "hp"))
local macro_rules | `(tactic| walk_at "st") => `(tactic| first | assumption | exact HS.st (by walk_at "hp"))
local macro_rules | `(tactic| walk_at "h1") => `(tactic| first
  | with_reducible refine HS.seq ?_
  | with_reducible refine HS.asg ?_
  | with_reducible refine HS.nm ?_
  | with_reducible refine HS.var rfl ?_
  | with_reducible refine HS.cst ?_
  | with_reducible refine HS.op ?_
  | with_reducible refine HS.i0 ?_
  | ((with_reducible refine HS.i1 ?_); first | refine ⟨by walk_at "side", ?_⟩ | skip)
  | with_reducible refine HS.u0 ?_
  | with_reducible refine HS.un ?_
  | with_reducible refine HS.eqI ?_
  | with_reducible refine HS.neI ?_
  | with_reducible refine HS.tst ?_
  | with_reducible refine HS.tb1 ?_
  | with_reducible refine HS.bex ?_
  | with_reducible refine HS.ifs ?_
  | with_reducible refine HS.ife ?_
  | with_reducible refine HS.and ?_
  | with_reducible refine HS.or ?_
  | with_reducible refine HS.not ?_
  | with_reducible refine HS.andV ?_
  | with_reducible refine HS.orV ?_
  | with_reducible refine HS.notV ?_
  | with_reducible refine HS.chn ?_
  | with_reducible refine HS.ret ?_
  | with_reducible refine HS.retN ?_
  | with_reducible refine HS.drp ?_
  | with_reducible refine HS.cb ?_
  | with_reducible refine HS.anil ?_
  | with_reducible refine HS.acons ?_
  | with_reducible refine HS.cal ?_
  | with_reducible refine HS.tup ?_
  | with_reducible refine HS.lst ?_
  | with_reducible refine HS.par ?_
  | with_reducible refine HS.ex2 ?_
  | with_reducible refine HS.aug rfl ?_
  | with_reducible refine HS.ipi ?_
  | with_reducible refine HS.addI ?_
  | with_reducible refine HS.nxt ?_
  | with_reducible refine HS.brk ?_
  | with_reducible refine HS.cnt ?_
  | with_reducible refine HS.sub ?_
  | with_reducible refine HS.pnx ?_
  | with_reducible refine HS.prt ?_
  | with_reducible refine HS.pbk ?_
  | with_reducible refine HS.pct ?_
  | with_reducible refine iteF ?_
  | with_reducible refine iteT ?_
  | with_reducible refine HS.ii ?_
  | with_reducible refine HS.bmL ?_
  | with_reducible refine HS.bmL0 ?_
  | ((with_reducible refine' HS.tyL ?e ?_); case e => walk_at "hp")
  | ((with_reducible refine' HS.app ?e ?_); (case e => walk_at "hp"))
  | ((with_reducible refine' HS.setL ?e ?f ?_); (case e => walk_at "hp"); (case f => rfl))
  | ((with_reducible refine' HS.wp ?e ?_); case e => rfl)
  | ((with_reducible refine' HS.szc ?e ?_); case e => walk_at "len")
  | ((with_reducible refine' HS.szd ?e ?_); case e => walk_at "len")
  | with_reducible refine HS.yes ?_
  | with_reducible refine HS.lc ?_
  | with_reducible refine HS.rng1 ?_
  | with_reducible refine HS.rng2 ?_
  | with_reducible refine HS.rng3 ?_
  | with_reducible refine HS.lis ?_
  | with_reducible refine HS.fr ?_
  | with_reducible refine HS.i1e ?_
  | with_reducible refine HS.gthen ?_
  | with_reducible refine HS.g0 ?_
  | with_reducible refine HS.gfr ?_
  | with_reducible refine HS.gpl ?_
  | with_reducible refine HS.gyl ?_
  | with_reducible refine HS.lgn ?_
  | with_reducible refine HS.calg ?_
  | with_reducible refine HS.revL ?_
  | with_reducible refine HS.sl ?_
  | with_reducible refine HS.noP ?_
  | with_reducible refine HS.part ?_
  | with_reducible refine HS.ie ?_
  | ((with_reducible refine' HS.slLs ?e ?_); case e => walk_at "sq")
  | ((with_reducible refine' HS.gtup ?e ?f ?_); (case e => walk_at "st"); (case f => rfl))
  | with_reducible refine HS.gcons ?_
  | with_reducible refine HS.gnil ?_
  | with_reducible refine HS.itup ?_
  | with_reducible refine HS.ienu ?_
  | ((with_reducible refine' HS.cat ?e ?f ?_); (case e => walk_at "hp"); (case f => walk_at "hp"))
  | ((with_reducible refine' HS.ext ?e ?f ?_); (case e => walk_at "hp"); (case f => walk_at "hp"))
  | ((with_reducible refine' HS.sumL ?e ?_); case e => walk_at "sq")
  | ((with_reducible refine' HS.lenL ?e ?_); case e => walk_at "sq")
  | ((with_reducible refine' HS.lenT ?e ?_); case e => walk_at "st")
  | with_reducible refine HS.ra ?_
  | ((with_reducible refine' HS.ixL ?e ?f ?_); (case e => walk_at "sq"); (case f => rfl))
  | ((with_reducible refine' HS.ixT ?e ?f ?_); (case e => walk_at "st"); (case f => rfl)))
local macro_rules | `(tactic| walk_at "hs") => `(tactic| repeat' (walk_at "h1"))
local macro_rules | `(tactic| walk_at "fold") => `(tactic| (walk_at "hs"; assumption))
local macro_rules | `(tactic| walk_at "ns") => `(tactic| first | exact (fun z => z) | assumption | exact HS.nS2 (by walk_at "ne") (by walk_at "ne") | exact HS.nS3 (by walk_at "ne") (by walk_at "ne") (by walk_at "ne"))
local macro_rules | `(tactic| walk_at "kp") => `(tactic| first
  | assumption
  | exact HS.Keep.refl
  | (refine HS.Keep.at ?_ (by first | exact .inl rfl | exact .inr rfl | exact .inr (.inl rfl) | exact .inr (.inr rfl)); walk_at "kp")
  | (refine HS.Keep.put ?_ (by assumption); walk_at "kp")
  | (refine HS.Keep.new' (by assumption) (by first | assumption | exact HS.Keep.refl) (by walk_at "ns") ?_; walk_at "kp"))
local macro_rules | `(tactic| walk_at "ev") => `(tactic| first | assumption | exact HS.Exv.new (by walk_at "ev") (by assumption))
local macro_rules | `(tactic| walk_at "h1") => `(tactic| first
  | with_reducible refine HS.ost ?_
  | with_reducible refine HS.fldV ?_
  | with_reducible refine HS.newV ?_
  | with_reducible refine HS.newK ?_
  | ((with_reducible refine' HS.isV ?T ?he ?hq ?_); (case T => assumption); (case he => walk_at "ev"); (case hq => assumption))
  | ((with_reducible refine' HS.isVt ?T ?he ?hq ?_); (case T => assumption); (case he => walk_at "ev"); (case hq => assumption)))
local macro_rules | `(tactic| walk_at "h1") => `(tactic| first
  | with_reducible refine HS.caln ?_
  | with_reducible refine HS.ckw ?_
  | with_reducible refine HS.izip ?_
  | with_reducible refine HS.orT ?_
  | with_reducible refine HS.srv ?_
  | with_reducible refine HS.nt ?_
  | with_reducible refine HS.nf ?_
  | ((with_reducible refine' HS.lnn ?e ?f ?_); (case e => rfl); (case f => rfl)))
local macro_rules | `(tactic| walk_at "h1") => `(tactic| first
  | with_reducible refine HS.mkO ?_
  | with_reducible refine HS.callS ?_
  | with_reducible refine HS.xf ?_)
local macro_rules | `(tactic| walk_at "h1") => `(tactic| first
  | with_reducible refine HS.par3 ?_
  | with_reducible refine HS.ex3 ?_)
local macro_rules | `(tactic| walk_at "h1") => `(tactic| first
  | with_reducible refine HS.js ?_
  | with_reducible refine HS.jsn ?_
  | with_reducible refine HS.fmt ?_
  | with_reducible refine HS.m1S ?_
  | with_reducible refine HS.m0S ?_
  | with_reducible refine HS.strE ?_)
local macro_rules | `(tactic| walk_at "h1") => `(tactic| first
  | with_reducible refine HS.oenA ?_
  | with_reducible refine HS.omR ?_
  | with_reducible refine HS.fldP ?_
  | ((with_reducible refine' HS.mxd ?e ?_ ?_); case e => walk_at "sq"))
local macro_rules | `(tactic| walk_at "h1") => `(tactic| first
  | with_reducible refine HS.istr ?_)

def topS (i : Nat) : Stmt := PySem.Challenge.pw_pagecounts_k42_long_texts.main.body.getD i (.Pass ⟨0, 0, 0, 0⟩)
abbrev s__law_source : Stmt := topS 24
abbrev N__law_source : List Str := ["script", "mix", "digits", "cell", "span"]
theorem sc__law_source : FnScope N__law_source ["script"] (defScope s__law_source) := ⟨rfl, rfl, rfl, by decide +kernel, rfl, by decide +kernel, by decide +kernel⟩
abbrev s__law_draw : Stmt := topS 25
abbrev N__law_draw : List Str := ["source", "many", "drawn", "mixed"]
theorem sc__law_draw : FnScope N__law_draw ["source", "many"] (defScope s__law_draw) := ⟨rfl, rfl, rfl, by decide +kernel, rfl, by decide +kernel, by decide +kernel⟩
abbrev s__law_same : Stmt := topS 26
abbrev N__law_same : List Str := ["found", "wanted", "k"]
theorem sc__law_same : FnScope N__law_same ["found", "wanted"] (defScope s__law_same) := ⟨rfl, rfl, rfl, by decide +kernel, rfl, by decide +kernel, by decide +kernel⟩
abbrev s_Unreadable___init__ : Stmt := HS.inS (topS 8) 0
abbrev N_Unreadable___init__ : List Str := ["self", "value"]
theorem sc_Unreadable___init__ : FnScope N_Unreadable___init__ ["self", "value"] (defScope s_Unreadable___init__) := ⟨rfl, rfl, rfl, by decide +kernel, rfl, by decide +kernel, by decide +kernel⟩
abbrev s_read_number : Stmt := topS 13
abbrev N_read_number : List Str := ["word"]
theorem sc_read_number : FnScope N_read_number ["word"] (defScope s_read_number) := ⟨rfl, rfl, rfl, by decide +kernel, rfl, by decide +kernel, by decide +kernel⟩
abbrev s_read_chapters : Stmt := topS 12
abbrev N_read_chapters : List Str := ["part", "ahead", "sign", "behind", "many"]
theorem sc_read_chapters : FnScope N_read_chapters ["part"] (defScope s_read_chapters) := ⟨rfl, rfl, rfl, by decide +kernel, rfl, by decide +kernel, by decide +kernel⟩
abbrev s_read_book : Stmt := topS 11
abbrev N_read_book : List Str := ["text", "found", "before", "part", "many", "length", "book"]
theorem sc_read_book : FnScope N_read_book ["text"] (defScope s_read_book) := ⟨rfl, rfl, rfl, by decide +kernel, rfl, by decide +kernel, by decide +kernel⟩
abbrev s__law_error : Stmt := topS 29
abbrev N__law_error : List Str := ["e", "held", "names", "name", "is_one"]
theorem sc__law_error : FnScope N__law_error ["e"] (defScope s__law_error) := ⟨rfl, rfl, rfl, by decide +kernel, rfl, by decide +kernel, by decide +kernel⟩
abbrev s__law_number : Stmt := topS 27
abbrev N__law_number : List Str := ["word", "sign"]
theorem sc__law_number : FnScope N__law_number ["word"] (defScope s__law_number) := ⟨rfl, rfl, rfl, by decide +kernel, rfl, by decide +kernel, by decide +kernel⟩
abbrev s__law_read : Stmt := topS 28
abbrev N__law_read : List Str := ["note", "words", "word", "left", "found", "one", "many", "long", "spot"]
theorem sc__law_read : FnScope N__law_read ["note"] (defScope s__law_read) := ⟨rfl, rfl, rfl, by decide +kernel, rfl, by decide +kernel, by decide +kernel⟩
abbrev s__law_told : Stmt := topS 30
abbrev N__law_told : List Str := ["note", "caught", "found", "e"]
theorem sc__law_told : FnScope N__law_told ["note"] (defScope s__law_told) := ⟨rfl, rfl, rfl, by decide +kernel, rfl, by decide +kernel, by decide +kernel⟩
abbrev s_show_chapters : Stmt := topS 22
abbrev N_show_chapters : List Str := ["many", "length"]
theorem sc_show_chapters : FnScope N_show_chapters ["many", "length"] (defScope s_show_chapters) := ⟨rfl, rfl, rfl, by decide +kernel, rfl, by decide +kernel, by decide +kernel⟩
abbrev s_show_book : Stmt := topS 21
abbrev N_show_book : List Str := ["book", "parts", "many", "index", "length"]
theorem sc_show_book : FnScope N_show_book ["book"] (defScope s_show_book) := ⟨rfl, rfl, rfl, by decide +kernel, rfl, by decide +kernel, by decide +kernel⟩
abbrev s_check_book : Stmt := topS 15
abbrev N_check_book : List Str := ["book", "index", "length"]
theorem sc_check_book : FnScope N_check_book ["book"] (defScope s_check_book) := ⟨rfl, rfl, rfl, by decide +kernel, rfl, by decide +kernel, by decide +kernel⟩
abbrev s_check_size : Stmt := topS 16
abbrev N_check_size : List Str := ["size"]
theorem sc_check_size : FnScope N_check_size ["size"] (defScope s_check_size) := ⟨rfl, rfl, rfl, by decide +kernel, rfl, by decide +kernel, by decide +kernel⟩
abbrev s_count_pages : Stmt := topS 19
abbrev N_count_pages : List Str := ["book", "size", "length"]
theorem sc_count_pages : FnScope N_count_pages ["book", "size"] (defScope s_count_pages) := ⟨rfl, rfl, rfl, by decide +kernel, rfl, by decide +kernel, by decide +kernel⟩
abbrev s_pages : Stmt := topS 18
abbrev N_pages : List Str := ["book", "size"]
theorem sc_pages : FnScope N_pages ["book", "size"] (defScope s_pages) := ⟨rfl, rfl, rfl, by decide +kernel, rfl, by decide +kernel, by decide +kernel⟩
abbrev s__law_total : Stmt := topS 32
abbrev N__law_total : List Str := ["lengths", "wide", "long"]
theorem sc__law_total : FnScope N__law_total ["lengths", "wide"] (defScope s__law_total) := ⟨rfl, rfl, rfl, by decide +kernel, rfl, by decide +kernel, by decide +kernel⟩
abbrev s__law_long : Stmt := topS 31
abbrev N__law_long : List Str := ["source", "words", "span", "many", "way", "last", "long", "size"]
theorem sc__law_long : FnScope N__law_long ["source"] (defScope s__law_long) := ⟨rfl, rfl, rfl, by decide +kernel, rfl, by decide +kernel, by decide +kernel⟩
abbrev s_law : Stmt := topS 33
abbrev N_law : List Str := ["script", "source", "k", "words", "note", "due", "told", "wide", "spot"]
theorem sc_law : FnScope N_law ["script"] (defScope s_law) := ⟨rfl, rfl, rfl, by decide +kernel, rfl, by decide +kernel, by decide +kernel⟩
structure Ad where
  a__law_source : Addr
  d__law_source : FuncData
  a__law_draw : Addr
  d__law_draw : FuncData
  a__law_same : Addr
  d__law_same : FuncData
  a_Unreadable___init__ : Addr
  d_Unreadable___init__ : FuncData
  a_read_number : Addr
  d_read_number : FuncData
  a_read_chapters : Addr
  d_read_chapters : FuncData
  a_read_book : Addr
  d_read_book : FuncData
  a__law_error : Addr
  d__law_error : FuncData
  a__law_number : Addr
  d__law_number : FuncData
  a__law_read : Addr
  d__law_read : FuncData
  a__law_told : Addr
  d__law_told : FuncData
  a_show_chapters : Addr
  d_show_chapters : FuncData
  a_show_book : Addr
  d_show_book : FuncData
  a_check_book : Addr
  d_check_book : FuncData
  a_check_size : Addr
  d_check_size : FuncData
  a_count_pages : Addr
  d_count_pages : FuncData
  a_pages : Addr
  d_pages : FuncData
  a__law_total : Addr
  d__law_total : FuncData
  a__law_long : Addr
  d__law_long : FuncData
  a_law : Addr
  d_law : FuncData
  c_BookError : Addr
  c_InvalidBook : Addr
  c_InvalidSize : Addr
  c_InvalidTable : Addr
  c_InvalidChain : Addr
  c_InvalidNumber : Addr
  c_NothingToUndo : Addr
  c_Unreadable : Addr
structure Txt (K : PySem.W.Frag) (mg : Str → Option Value) (A : Ad) : Prop where
  F__law_source : Fun K "_law_source" "_law_source" s__law_source A.a__law_source A.d__law_source
  g__law_source : mg "_law_source" = some (.ref A.a__law_source)
  b__law_source : Binds K A.d__law_source ["script"] []
  F__law_draw : Fun K "_law_draw" "_law_draw" s__law_draw A.a__law_draw A.d__law_draw
  g__law_draw : mg "_law_draw" = some (.ref A.a__law_draw)
  b__law_draw : Binds K A.d__law_draw ["source", "many"] []
  F__law_same : Fun K "_law_same" "_law_same" s__law_same A.a__law_same A.d__law_same
  g__law_same : mg "_law_same" = some (.ref A.a__law_same)
  b__law_same : Binds K A.d__law_same ["found", "wanted"] []
  F_Unreadable___init__ : Fun K "__init__" "Unreadable.__init__" s_Unreadable___init__ A.a_Unreadable___init__ A.d_Unreadable___init__
  b_Unreadable___init__ : Binds K A.d_Unreadable___init__ ["self", "value"] []
  F_read_number : Fun K "read_number" "read_number" s_read_number A.a_read_number A.d_read_number
  g_read_number : mg "read_number" = some (.ref A.a_read_number)
  b_read_number : Binds K A.d_read_number ["word"] []
  F_read_chapters : Fun K "read_chapters" "read_chapters" s_read_chapters A.a_read_chapters A.d_read_chapters
  g_read_chapters : mg "read_chapters" = some (.ref A.a_read_chapters)
  b_read_chapters : Binds K A.d_read_chapters ["part"] []
  F_read_book : Fun K "read_book" "read_book" s_read_book A.a_read_book A.d_read_book
  g_read_book : mg "read_book" = some (.ref A.a_read_book)
  b_read_book : Binds K A.d_read_book ["text"] []
  F__law_error : Fun K "_law_error" "_law_error" s__law_error A.a__law_error A.d__law_error
  g__law_error : mg "_law_error" = some (.ref A.a__law_error)
  b__law_error : Binds K A.d__law_error ["e"] []
  F__law_number : Fun K "_law_number" "_law_number" s__law_number A.a__law_number A.d__law_number
  g__law_number : mg "_law_number" = some (.ref A.a__law_number)
  b__law_number : Binds K A.d__law_number ["word"] []
  F__law_read : Fun K "_law_read" "_law_read" s__law_read A.a__law_read A.d__law_read
  g__law_read : mg "_law_read" = some (.ref A.a__law_read)
  b__law_read : Binds K A.d__law_read ["note"] []
  F__law_told : Fun K "_law_told" "_law_told" s__law_told A.a__law_told A.d__law_told
  g__law_told : mg "_law_told" = some (.ref A.a__law_told)
  b__law_told : Binds K A.d__law_told ["note"] []
  F_show_chapters : Fun K "show_chapters" "show_chapters" s_show_chapters A.a_show_chapters A.d_show_chapters
  g_show_chapters : mg "show_chapters" = some (.ref A.a_show_chapters)
  b_show_chapters : Binds K A.d_show_chapters ["many", "length"] []
  F_show_book : Fun K "show_book" "show_book" s_show_book A.a_show_book A.d_show_book
  g_show_book : mg "show_book" = some (.ref A.a_show_book)
  b_show_book : Binds K A.d_show_book ["book"] []
  F_check_book : Fun K "check_book" "check_book" s_check_book A.a_check_book A.d_check_book
  g_check_book : mg "check_book" = some (.ref A.a_check_book)
  b_check_book : Binds K A.d_check_book ["book"] []
  F_check_size : Fun K "check_size" "check_size" s_check_size A.a_check_size A.d_check_size
  g_check_size : mg "check_size" = some (.ref A.a_check_size)
  b_check_size : Binds K A.d_check_size ["size"] []
  F_count_pages : Fun K "count_pages" "count_pages" s_count_pages A.a_count_pages A.d_count_pages
  g_count_pages : mg "count_pages" = some (.ref A.a_count_pages)
  b_count_pages : Binds K A.d_count_pages ["book", "size"] []
  F_pages : Fun K "pages" "pages" s_pages A.a_pages A.d_pages
  g_pages : mg "pages" = some (.ref A.a_pages)
  b_pages : Binds K A.d_pages ["book", "size"] []
  F__law_total : Fun K "_law_total" "_law_total" s__law_total A.a__law_total A.d__law_total
  g__law_total : mg "_law_total" = some (.ref A.a__law_total)
  b__law_total : Binds K A.d__law_total ["lengths", "wide"] []
  F__law_long : Fun K "_law_long" "_law_long" s__law_long A.a__law_long A.d__law_long
  g__law_long : mg "_law_long" = some (.ref A.a__law_long)
  b__law_long : Binds K A.d__law_long ["source"] []
  F_law : Fun K "law" "law" s_law A.a_law A.d_law
  g_law : mg "law" = some (.ref A.a_law)
  b_law : Binds K A.d_law ["script"] []
  z_ValueError : mg "ValueError" = none
  z_bool : mg "bool" = none
  z_enumerate : mg "enumerate" = none
  z_int : mg "int" = none
  z_isinstance : mg "isinstance" = none
  z_len : mg "len" = none
  z_list : mg "list" = none
  z_max : mg "max" = none
  z_min : mg "min" = none
  z_range : mg "range" = none
  z_str : mg "str" = none
  z_sum : mg "sum" = none
  z_tuple : mg "tuple" = none
  m_BookError : mg "BookError" = some (.ref A.c_BookError)
  m_InvalidBook : mg "InvalidBook" = some (.ref A.c_InvalidBook)
  m_InvalidSize : mg "InvalidSize" = some (.ref A.c_InvalidSize)
  m_InvalidTable : mg "InvalidTable" = some (.ref A.c_InvalidTable)
  m_InvalidChain : mg "InvalidChain" = some (.ref A.c_InvalidChain)
  m_InvalidNumber : mg "InvalidNumber" = some (.ref A.c_InvalidNumber)
  m_NothingToUndo : mg "NothingToUndo" = some (.ref A.c_NothingToUndo)
  m_Unreadable : mg "Unreadable" = some (.ref A.c_Unreadable)
  v_MOST_DIGITS : ∃ t : PySem.Tok, mg "MOST_DIGITS" = some (.int 40 t)
  C_Unreadable : OexC K A.c_Unreadable
  V_Unreadable : ExcC K A.c_Unreadable
  X_Unreadable : XfC K A.c_Unreadable
  n_Unreadable : PySem.W.findIn K (.ref A.c_Unreadable) "value" = some none
  i_Unreadable : PySem.W.findIn K (.ref A.c_Unreadable) "__init__" = some (some (.ref A.a_Unreadable___init__))
  t_Unreadable : PySem.W.typeIn K (.ref A.a_Unreadable___init__) = some (.type "function")
  k_Unreadable : KBn K A.d_Unreadable___init__ ["self", "value"] 1 ["value"] (fun us ws => us ++ ws) (fun vs zs => vs ++ zs)
  q_Unreadable_BookError : PySem.W.kitOne K (.ref A.c_Unreadable) (.ref A.c_BookError) = some true
  q_Unreadable_InvalidBook : PySem.W.kitOne K (.ref A.c_Unreadable) (.ref A.c_InvalidBook) = some false
  q_Unreadable_InvalidSize : PySem.W.kitOne K (.ref A.c_Unreadable) (.ref A.c_InvalidSize) = some false
  q_Unreadable_InvalidTable : PySem.W.kitOne K (.ref A.c_Unreadable) (.ref A.c_InvalidTable) = some false
  q_Unreadable_InvalidChain : PySem.W.kitOne K (.ref A.c_Unreadable) (.ref A.c_InvalidChain) = some false
  q_Unreadable_InvalidNumber : PySem.W.kitOne K (.ref A.c_Unreadable) (.ref A.c_InvalidNumber) = some false
  q_Unreadable_NothingToUndo : PySem.W.kitOne K (.ref A.c_Unreadable) (.ref A.c_NothingToUndo) = some false
  q_Unreadable_Unreadable : PySem.W.kitOne K (.ref A.c_Unreadable) (.ref A.c_Unreadable) = some true
  q_Unreadable_ValueError : PySem.W.kitOne K (.ref A.c_Unreadable) (.type "ValueError") = some true
  e_Unreadable_BookError : PySem.W.exmOne K (.ref A.c_Unreadable) (.ref A.c_BookError) = some true
section
variable {P : Program} {w : World} {K : PySem.W.Frag} {mg : Str → Option Value} {base : Heap} {A : Ad}
def sp__law_source (K : PySem.W.Frag) : Sp := fun vs H Q _ => ∃ (a : Addr) (ns : List Int), vs = [.ref a] ∧ (SqL K H a (ns.map V.int) ∧ ns.length ≤ 63 ∧ ∀ H' s d, HS.Keep (fun _ => False) H H' → H s = none → H d = none → Src H' s d 0 → Q (.ref s) H')
theorem ok__law_source (T : Txt K mg A) : FnOk P w K mg base CX0 1 A.a__law_source A.d__law_source ["script"] (sp__law_source K) := by
  refine T.F__law_source.ok sc__law_source (fun vs H Q E h => ?_) (fun cdv A0 outer s H vs Q E hr h => ?_)
  · obtain ⟨a, ns, rfl, hw⟩ := h
    rfl
  · obtain ⟨a, ns, rfl, hw⟩ := h
    refine ⟨_, (pss_cons (ps_set (i := 1) sc__law_source.nd rfl (.inl rfl) pe_int)
    (pss_cons (ps_set (i := 2) sc__law_source.nd rfl (.inl rfl) (pe_lst pa_nil))
    (pss_cons (ps_for PassesOwn.never rfl (HS.kil K (pi_list (pv 0))) (pg_name (i := 3) sc__law_source.nd rfl (.inl rfl))
      (pss_cons (ps_set (i := 1) sc__law_source.nd rfl (.inl rfl) (pe_op op_mod (pe_op op_add (pe_op op_mul (pv 1) pe_int) (pv 3)) (HS.pe_fold (2305843009213693951) (pe_op op_sub (pe_op op_pow pe_int pe_int) pe_int) (by intro σ H Q q; walk_at "fold"))))
    (pss_cons (ps_set (i := 4) sc__law_source.nd rfl (.inl rfl) (pe_callB (call_max2 rfl) (by rfl) T.z_max (by decide +kernel) (pa_cons (pv 3) (pa_cons (pe_op op_sub pe_int (pv 3)) pa_nil))))
    (pss_one (ps_if (pt_cmpR op_ge (pv 4) (HS.pe_fold (1000000000000000000) (pe_op op_pow pe_int pe_int) (by intro σ H Q q; walk_at "fold")) (nomark _))
      (pss_one (ps_expr (HS.kbm K (pe_bm PySem.F.plainAttrs_list PySem.F.slot_list_append PySem.F.type_list_append mt_append (pv 2) (pa_cons (pe_op op_sub (pv 4) (HS.pe_fold (1000000000000000000) (pe_op op_pow pe_int pe_int) (by intro σ H Q q; walk_at "fold"))) pa_nil)))))
      pss_nil)))))
    (pss_one (ps_ret (pe_lst (pa_cons (pv 2) (pa_cons pe_int (pa_cons (pv 1) (pa_cons pe_int pa_nil)))))))))), ?_⟩
    obtain ⟨hS, hl, k⟩ := hw
    walk_at "hs"
    intro d hd
    walk_at "hs"
    refine ⟨⟨_, HS.Keep.sq (S := fun _ => False) (HS.Keep.new hd) hS id⟩, for_list (xs := ns.map V.int) (fun i σ H1 => HS.Keep (fun _ => False) H H1 ∧ ∃ (gs : List Int) (m : Int) (x3 x4 : Option V), σ = [some (.ref a), some (.int m), some (.ref d), x3, x4] ∧ H1 d = some (.lst (gs.map V.int)) ∧ (∀ x ∈ gs, 0 ≤ x) ∧ gs.length ≤ i ∧ 0 ≤ m ∧ m < 2 ^ 61) ?_ ?_ ?_ ?_⟩
    · exact ⟨.new hd, [], _, _, _, rfl, upd_same, by simp, Nat.le_refl _, by decide, by decide⟩
    · rintro i σ H1 _ ⟨K1, _⟩
      exact K1.sq hS id
    · rintro i x σ H1 hi ⟨K1, gs, m, x3, x4, rfl, hgd, hg0, hgl, hm0, hm1⟩
      obtain ⟨z, rfl, _, hil⟩ := HS.get_int hi
      walk_at "hs"
      have b0 : 0 ≤ (m * 1000033 + z) % 2305843009213693951 := Int.emod_nonneg _ (by decide)
      have b1 : (m * 1000033 + z) % 2305843009213693951 < 2 ^ 61 := Int.lt_trans (Int.emod_lt_of_pos _ (by decide)) (by decide)
      generalize hz : (if 0 - z > z then 0 - z else z) = y
      refine HS.itd (fun hy => ?_) (fun hy => ?_)
      · walk_at "hs"
        refine ⟨K1.put hd, gs ++ [y - 1000000000000000000], _, _, _, rfl, ?_, ?_, by simp; omega, b0, b1⟩
        · rw [upd_same, List.map_append]; rfl
        · intro x hx
          rcases List.mem_append.mp hx with hx | hx
          · exact hg0 x hx
          · rw [List.mem_singleton] at hx; omega
      · walk_at "hs"
        exact ⟨K1, gs, _, _, _, rfl, hgd, hg0, by omega, b0, b1⟩
    · rintro σ H1 ⟨K1, gs, m, x3, x4, rfl, hgd, hg0, hgl, hm0, hm1⟩
      walk_at "hs"
      intro s hs
      rw [List.length_map] at hgl
      refine k _ s d (K1.trans (.new hs)) (K1.free hs id) hd ⟨(ne_of_none hgd hs).symm, gs, 0, m, 0, upd_same, by walk_at "hp", hg0, by omega, by decide, hm0, hm1, by decide, by decide⟩
def sp__law_draw (K : PySem.W.Frag) : Sp := fun vs H Q _ => ∃ (s d : Addr) (many : Int) (n : Nat), vs = [.ref s, .int many] ∧ (Src H s d n ∧ 0 < many ∧ many < 2 ^ 200 ∧ n < 2 ^ 40 ∧ ∀ H' v, HS.Keep (fun a => a = s ∨ a = d) H H' → Src H' s d (n + 1) → 0 ≤ v → v < many → Q (.int v) H')
theorem ok__law_draw (T : Txt K mg A) : FnOk P w K mg base CX0 1 A.a__law_draw A.d__law_draw ["source", "many"] (sp__law_draw K) := by
  refine T.F__law_draw.ok sc__law_draw (fun vs H Q E h => ?_) (fun cdv A0 outer s H vs Q E hr h => ?_)
  · obtain ⟨s, d, many, n, rfl, hw⟩ := h
    rfl
  · obtain ⟨s, d, many, n, rfl, hw⟩ := h
    refine ⟨_, (Evl.pss_cut (ps_while PassesOwn.never (PW.pt (pw_and (pt_cmpR op_lt (pe_ix (HS.ixl K) (pv 0) pe_int (fun _ _ => rfl)) pe_int (nomark _)) (pw_and1 (pt_cmpR (HS.kne K (hu64 hr)) (pe_ix (HS.ixl K) (pv 0) pe_int (fun _ _ => rfl)) (pe_lst pa_nil) (nomark _)))))
      (pss_one (ps_asg (HS.kbm K (pe_bm PySem.F.plainAttrs_list PySem.F.slot_list_pop PySem.F.type_list_pop mt_popAt (pe_ix (HS.ixl K) (pv 0) pe_int (fun _ _ => rfl)) (pa_cons pe_int pa_nil))) (pg_sub (pv 0) pe_int set_list))))
    (pss_cons (ps_if (pt_cmpR op_ge (pe_ix (HS.ixl K) (pv 0) pe_int (fun _ _ => rfl)) pe_int (nomark _))
      (pss_cons (ps_set (i := 2) sc__law_draw.nd rfl (.inl rfl) (pe_op op_mod (pe_ix (HS.ixl K) (pv 0) pe_int (fun _ _ => rfl)) (pv 1)))
    (pss_cons (ps_asg (pe_op op_fdivW (pe_ix (HS.ixl K) (pv 0) pe_int (fun _ _ => rfl)) (pv 1)) (pg_sub (pv 0) pe_int set_list))
    (pss_one (ps_ret (pv 2)))))
      pss_nil)
    (pss_cons (ps_asg (pe_op op_add (pe_ix (HS.ixl K) (pv 0) pe_int (fun _ _ => rfl)) pe_int) (pg_sub (pv 0) pe_int set_list))
    (pss_cons (ps_set (i := 3) sc__law_draw.nd rfl (.inl rfl) (pe_op op_mulW (pe_op op_add (pe_ix (HS.ixl K) (pv 0) pe_int (fun _ _ => rfl)) pe_int) (pe_op op_pow (pe_op op_add (pe_ix (HS.ixl K) (pv 0) pe_int (fun _ _ => rfl)) pe_int) pe_int)))
    (pss_cons (ps_set (i := 3) sc__law_draw.nd rfl (.inl rfl) (pe_op op_mod (pe_op op_add (pv 3) (pe_op op_mul pe_int (pe_ix (HS.ixl K) (pv 0) pe_int (fun _ _ => rfl)))) (HS.pe_fold (2305843009213693951) (pe_op op_sub (pe_op op_pow pe_int pe_int) pe_int) (by intro σ H Q q; walk_at "fold"))))
    (pss_one (ps_ret (pe_op op_mod (pe_op op_fdivW (pe_op op_mod (pe_op op_pow (pv 3) pe_int) (HS.pe_fold (1000000000000000009) (pe_op op_add (pe_op op_pow pe_int pe_int) pe_int) (by intro σ H Q q; walk_at "fold"))) pe_int) (pv 1))))))))), ?_⟩
    obtain ⟨S0, hm0, hm1, hn, k⟩ := hw
    obtain ⟨hsd, gs0, l0, m0, c0, hs0, hd0, hg0, hgl0, hl0, hm00, hm01, hc0, hc1⟩ := S0
    refine HS.cut (fun σ H1 => σ = [some (.ref s), some (.int many), none, none] ∧ HS.Keep (fun a => a = s ∨ a = d) H H1 ∧ ∃ (gs : List Int) (l : Int), H1 s = some (.lst [.ref d, .int l, .int m0, .int c0]) ∧ H1 d = some (.lst (gs.map V.int)) ∧ (∀ x ∈ gs, 0 ≤ x) ∧ gs.length ≤ 63 ∧ 0 ≤ l) ?_ ?_
    · refine ⟨fun j σ H1 => σ = [some (.ref s), some (.int many), none, none] ∧ HS.Keep (fun a => a = s ∨ a = d) H H1 ∧ ∃ (gs : List Int) (l : Int), gs.length = j ∧ H1 s = some (.lst [.ref d, .int l, .int m0, .int c0]) ∧ H1 d = some (.lst (gs.map V.int)) ∧ (∀ x ∈ gs, 0 ≤ x) ∧ gs.length ≤ 63 ∧ 0 ≤ l, ⟨_, rfl, .refl, gs0, l0, rfl, hs0, hd0, hg0, hgl0, hl0⟩, ?_⟩
      rintro j σ H1 ⟨rfl, K1, gs, l, rfl, hs1, hd1, hg1, hgl1, hl1⟩
      walk_at "hs"
      refine HS.itd (fun hl => ?_) (fun hl => ?_)
      · walk_at "hs"
        intro p hp
        refine HS.neL (ys := []) (HS.sq (by walk_at "hp")) (HS.sq upd_same) ?_
        walk_at "hs"
        refine HS.itn (fun hgs => ?_) (fun hgs => ?_)
        · cases gs with
          | nil => exact absurd rfl hgs
          | cons y ys =>
            refine ⟨fun σ' H' => σ' = [some (.ref s), some (.int many), none, none] ∧ HS.Keep (fun a => a = s ∨ a = d) H H' ∧ ∃ (l : Int), H' s = some (.lst [.ref d, .int l, .int m0, .int c0]) ∧ H' d = some (.lst (ys.map V.int)) ∧ 0 ≤ l, fun σ' H' ⟨e, K', l', h1, h2, h3⟩ => ⟨ys.length, Nat.lt_succ_self _, e, K', ys, l', rfl, h1, h2, fun x hx => hg1 x (List.mem_cons_of_mem _ hx), Nat.le_of_succ_le hgl1, h3⟩, ?_⟩
            walk_at "hs"
            refine HS.pop0 (y := .int y) (ys := ys.map V.int) (by walk_at "hp") ?_
            walk_at "hs"
            exact ⟨rfl, by walk_at "kp", y, by walk_at "hp", by walk_at "hp", hg1 y List.mem_cons_self⟩
        · walk_at "hs"
          exact ⟨rfl, by walk_at "kp", gs, l, by walk_at "hp", by walk_at "hp", hg1, hgl1, hl1⟩
      · walk_at "hs"
        exact ⟨rfl, K1, gs, l, hs1, hd1, hg1, hgl1, hl1⟩
    · rintro σ H1 ⟨rfl, K1, gs, l, hs1, hd1, hg1, hgl1, hl1⟩
      walk_at "hs"
      refine HS.itd (fun hl => ?_) (fun hl => ?_)
      · walk_at "hs"
        refine ⟨HS.divW 200 hm0 hm1 (by decide) (by decide), ?_⟩
        walk_at "hs"
        exact k _ _ (by walk_at "kp") ⟨hsd, gs, l / many, m0, c0, upd_same, by walk_at "hp", hg1, hgl1, Int.ediv_nonneg hl1 (by omega), hm00, hm01, hc0, by omega⟩ (Int.emod_nonneg _ (by omega)) (Int.emod_lt_of_pos _ hm0)
      · walk_at "hs"
        obtain ⟨p0, p1⟩ := HS.pow_lt (i := c0 + 1 + 3) (a := 50) 3 (by omega) (by omega)
        have p2 : (c0 + 1 + 3) ^ Int.toNat 3 < 2 ^ 150 := by
          rcases p1 with h | h
          · exact h
          · exact absurd h (by decide)
        have p0' : 0 ≤ (c0 + 1 + 3) ^ Int.toNat 3 := p0
        generalize (c0 + 1 + 3) ^ Int.toNat 3 = cu at p2 p0' ⊢
        refine ⟨HS.mulW 62 150 (by omega) (by omega) p0' p2 (by decide) (by decide) (by decide), ?_⟩
        walk_at "hs"
        exact k _ _ (by walk_at "kp") ⟨hsd, gs, l, m0, c0 + 1, upd_same, by walk_at "hp", hg1, hgl1, hl1, hm00, hm01, by omega, by omega⟩ (Int.emod_nonneg _ (by omega)) (Int.emod_lt_of_pos _ hm0)
def sp__law_same : Nat → PySem.W.Frag → Sp
  | 0, _ => fun _ _ _ _ => False
  | n + 1, K => fun vs H Q _ => ∃ (x y : V), vs = [x, y] ∧ (HS.SmV K H n x y ∧ ∀ H', HS.Keep (fun _ => False) H H' → Q (.bl true) H')
theorem ok__law_same (T : Txt K mg A) (n : Nat) : FnOk P w K mg base CX0 (n + 1) A.a__law_same A.d__law_same ["found", "wanted"] (sp__law_same n K) := by
  induction n with
  | zero => exact T.F__law_same.ok sc__law_same (fun _ _ _ _ h => h.elim) (fun _ _ _ _ _ _ _ _ _ h => h.elim)
  | succ n G__law_same =>
  refine T.F__law_same.ok sc__law_same (fun vs H Q E h => ?_) (fun cdv A0 outer s H vs Q E hr h => ?_)
  · obtain ⟨x, y, rfl, hw⟩ := h
    rfl
  · obtain ⟨x, y, rfl, hw⟩ := h
    refine ⟨_, (pss_cons (ps_if (pt_cmpR op_isN (pv 1) pe_non (nomark _))
      (pss_one (ps_ret (pe_cmpR op_isN (pv 0) pe_non (nomark _))))
      pss_nil)
    (pss_cons (ps_if (pt_val (pe_callB (HS.kisi K) (by rfl) T.z_isinstance (by decide +kernel) (pa_cons (pv 1) (pa_cons (pe_bltn (v := .ty "bool") (by rfl) T.z_bool (by decide +kernel) rfl) pa_nil))))
      (pss_one (ps_ret (pe_and (pe_callB (HS.kisi K) (by rfl) T.z_isinstance (by decide +kernel) (pa_cons (pv 0) (pa_cons (pe_bltn (v := .ty "bool") (by rfl) T.z_bool (by decide +kernel) rfl) pa_nil))) (pe_one (pe_cmpR op_eq (pv 0) (pv 1) (nomark _))))))
      pss_nil)
    (pss_cons (ps_if (pt_val (pe_callB (HS.kisi K) (by rfl) T.z_isinstance (by decide +kernel) (pa_cons (pv 1) (pa_cons (pe_bltn (v := .ty "int") (by rfl) T.z_int (by decide +kernel) rfl) pa_nil))))
      (pss_one (ps_ret (pe_and (pe_callB (HS.kisi K) (by rfl) T.z_isinstance (by decide +kernel) (pa_cons (pv 0) (pa_cons (pe_bltn (v := .ty "int") (by rfl) T.z_int (by decide +kernel) rfl) pa_nil))) (pe_and (pe_not (pe_callB (HS.kisi K) (by rfl) T.z_isinstance (by decide +kernel) (pa_cons (pv 0) (pa_cons (pe_bltn (v := .ty "bool") (by rfl) T.z_bool (by decide +kernel) rfl) pa_nil)))) (pe_one (pe_cmpR op_eq (pv 0) (pv 1) (nomark _)))))))
      pss_nil)
    (pss_cons (ps_if (pt_val (pe_callB (HS.kisi K) (by rfl) T.z_isinstance (by decide +kernel) (pa_cons (pv 1) (pa_cons (pe_bltn (v := .ty "str") (by rfl) T.z_str (by decide +kernel) rfl) pa_nil))))
      (pss_one (ps_ret (pe_and (pe_callB (HS.kisi K) (by rfl) T.z_isinstance (by decide +kernel) (pa_cons (pv 0) (pa_cons (pe_bltn (v := .ty "str") (by rfl) T.z_str (by decide +kernel) rfl) pa_nil))) (pe_one (pe_cmpR op_eq (pv 0) (pv 1) (nomark _))))))
      pss_nil)
    (pss_cons (ps_if (pt_cmpR op_ne (pe_callB (HS.kisi K) (by rfl) T.z_isinstance (by decide +kernel) (pa_cons (pv 0) (pa_cons (pe_bltn (v := .ty "list") (by rfl) T.z_list (by decide +kernel) rfl) pa_nil))) (pe_callB (HS.kisi K) (by rfl) T.z_isinstance (by decide +kernel) (pa_cons (pv 1) (pa_cons (pe_bltn (v := .ty "list") (by rfl) T.z_list (by decide +kernel) rfl) pa_nil))) (nomark _))
      (pss_one (ps_ret pe_bl))
      pss_nil)
    (pss_cons (ps_if (PW.pt (pw_or (pt_cmpR op_ne (pe_callB (HS.kisi K) (by rfl) T.z_isinstance (by decide +kernel) (pa_cons (pv 0) (pa_cons (pe_bltn (v := .ty "tuple") (by rfl) T.z_tuple (by decide +kernel) rfl) pa_nil))) (pe_callB (HS.kisi K) (by rfl) T.z_isinstance (by decide +kernel) (pa_cons (pv 1) (pa_cons (pe_bltn (v := .ty "tuple") (by rfl) T.z_tuple (by decide +kernel) rfl) pa_nil))) (nomark _)) (pw_or1 (pt_cmpR op_ne (pe_callB (HS.klen K) (by rfl) T.z_len PySem.boot_len (pa_cons (pv 0) pa_nil)) (pe_callB (HS.klen K) (by rfl) T.z_len PySem.boot_len (pa_cons (pv 1) pa_nil)) (nomark _)))))
      (pss_one (ps_ret pe_bl))
      pss_nil)
    (pss_one (ps_ret (pe_cmpR (HS.keq K (hu64 hr)) (pe_lc (own := [("k", 2)]) (g := gName 2) rfl sc__law_same.nd (pi_range1 (by rfl) T.z_range (pa_cons (pe_callB (HS.klen K) (by rfl) T.z_len PySem.boot_len (pa_cons (pv 1) pa_nil)) pa_nil)) (blkOk_by (own := [("k", 2)]) (N := N__law_same) (sc := defScope s__law_same) (by decide +kernel)) (fun _ _ _ _ _ => pg_name (i := 2) sc__law_same.nd rfl (by first | exact .inl rfl | exact .inr rfl)) (fun _ _ _ _ _ => (pts_one (pt_not (pt_val (pe_call G__law_same hr (by rfl) T.g__law_same T.F__law_same.kp T.b__law_same .nil pass0 (pa_cons (pe_ix (HS.ixa K) (pv 0) (pv 2) (fun _ _ => rfl)) (pa_cons (pe_ix (HS.ixa K) (pv 1) (pv 2) (fun _ _ => rfl)) pa_nil))))))) (fun _ _ _ _ _ => (pv 2))) (pe_lst pa_nil) (nomark _)))))))))), ?_⟩
    obtain ⟨hs, k⟩ := hw
    walk_at "hs"
    refine ⟨rfl, ?_⟩
    walk_at "hs"
    cases hs with
    | non =>
      refine HS.it1 rfl ?_
      walk_at "hs"
      refine ⟨rfl, ?_⟩
      rw [decide_eq_true rfl]
      exact k _ .refl
    | bl b =>
      refine HS.it0 (fun z => nomatch z) ?_
      walk_at "hs"
      refine HS.isi true (.base (.bl b)) HS.kb_bb ?_
      walk_at "hs"
      refine HS.isi true (.base (.bl b)) HS.kb_bb ?_
      walk_at "hs"
      refine ⟨rfl, ?_⟩
      rw [decide_eq_true rfl]
      exact k _ .refl
    | int i =>
      refine HS.it0 (fun z => nomatch z) ?_
      walk_at "hs"
      refine HS.isi false (.base (.int i)) HS.kb_ib ?_
      walk_at "hs"
      refine HS.isi true (.base (.int i)) HS.kb_ii ?_
      walk_at "hs"
      refine HS.isi true (.base (.int i)) HS.kb_ii ?_
      walk_at "hs"
      refine HS.isi false (.base (.int i)) HS.kb_ib ?_
      walk_at "hs"
      try rw [if_pos (show (!false) = true from rfl)]
      walk_at "hs"
      rw [decide_eq_true rfl]
      exact k _ .refl
    | str x =>
      refine HS.it0 (fun z => nomatch z) ?_
      walk_at "hs"
      refine HS.isi false (.base (.str x)) HS.kb_sb ?_
      walk_at "hs"
      refine HS.isi false (.base (.str x)) HS.kb_si ?_
      walk_at "hs"
      refine HS.isi true (.base (.str x)) HS.kb_ss ?_
      walk_at "hs"
      refine HS.isi true (.base (.str x)) HS.kb_ss ?_
      walk_at "hs"
      refine ⟨by simp [scal], ?_⟩
      rw [decide_eq_true rfl]
      exact k _ .refl
    | lst h1 h2 h3 h4 h =>
      rename_i m pa pb xs ys
      refine HS.it0 (fun z => nomatch z) ?_
      walk_at "hs"
      refine HS.isi false (.base (.lst h2)) HS.kb_lb ?_
      walk_at "hs"
      refine HS.isi false (.base (.lst h2)) HS.kb_li ?_
      walk_at "hs"
      refine HS.isi false (.base (.lst h2)) HS.kb_ls ?_
      walk_at "hs"
      refine HS.isi true (.base (.lst h1)) HS.kb_ll ?_
      walk_at "hs"
      refine HS.isi true (.base (.lst h2)) HS.kb_ll ?_
      walk_at "hs"
      refine HS.neB ?_
      walk_at "hs"
      refine HS.in0 rfl ?_
      walk_at "hs"
      refine HS.isi false (.base (.lst h1)) HS.kb_lt ?_
      walk_at "hs"
      refine HS.isi false (.base (.lst h2)) HS.kb_lt ?_
      walk_at "hs"
      refine HS.neB ?_
      walk_at "hs"
      refine HS.in0 rfl ?_
      walk_at "hs"
      rw [h3]
      refine HS.in0 rfl ?_
      walk_at "hs"
      have h5 : ys.length ≤ 1000 := by omega
      refine ⟨by omega, by omega, fun D hD => ?_⟩
      refine lc_range (lo := 0) (n := (ys.length : Int).toNat) (fun i H' => HS.Keep (fun _ => False) H H' ∧ H' D = some (.lst [])) ⟨.new hD, upd_same⟩ ?_ ?_
      · rintro i H2 hi ⟨K2, e2⟩
        have hi2 : i < ys.length := by omega
        walk_at "hs"
        rw [Int.zero_add]
        refine .inl ⟨pa, xs, _, xs[i], rfl, rfl, HS.sq (K2 _ _ h1 id), at_of (j := i) (by omega) (List.getElem?_eq_getElem (by omega)), ?_⟩
        walk_at "hs"
        refine .inl ⟨pb, ys, _, ys[i], rfl, rfl, HS.sq (K2 _ _ h2 id), at_of (j := i) (by omega) (List.getElem?_eq_getElem hi2), ?_⟩
        walk_at "hs"
        · refine ⟨xs[i], ys[i], rfl, (h i _ _ (List.getElem?_eq_getElem (by omega)) (List.getElem?_eq_getElem hi2)).same K2, fun H3 K3 => ?_⟩
          walk_at "hs"
          exact ⟨K2.trans K3, K3 _ _ e2 id⟩
      · rintro H2 ⟨K2, e2⟩
        walk_at "hs"
        intro p hp
        refine HS.eqL (xs := []) (ys := []) (HS.Keep.sq (S := fun _ => False) (.new hp) (HS.sq e2) id) (HS.sq upd_same) ?_
        exact k _ (K2.trans (.new hp))
    | tup h1 h2 h3 h4 h =>
      rename_i m pa pb xs ys
      refine HS.it0 (fun z => nomatch z) ?_
      walk_at "hs"
      refine HS.isi false (.base (.tup h2)) HS.kb_tb ?_
      walk_at "hs"
      refine HS.isi false (.base (.tup h2)) HS.kb_ti ?_
      walk_at "hs"
      refine HS.isi false (.base (.tup h2)) HS.kb_ts ?_
      walk_at "hs"
      refine HS.isi false (.base (.tup h1)) HS.kb_tl ?_
      walk_at "hs"
      refine HS.isi false (.base (.tup h2)) HS.kb_tl ?_
      walk_at "hs"
      refine HS.neB ?_
      walk_at "hs"
      refine HS.in0 rfl ?_
      walk_at "hs"
      refine HS.isi true (.base (.tup h1)) HS.kb_tt ?_
      walk_at "hs"
      refine HS.isi true (.base (.tup h2)) HS.kb_tt ?_
      walk_at "hs"
      refine HS.neB ?_
      walk_at "hs"
      refine HS.in0 rfl ?_
      walk_at "hs"
      rw [h3]
      refine HS.in0 rfl ?_
      walk_at "hs"
      have h5 : ys.length ≤ 1000 := by omega
      refine ⟨by omega, by omega, fun D hD => ?_⟩
      refine lc_range (lo := 0) (n := (ys.length : Int).toNat) (fun i H' => HS.Keep (fun _ => False) H H' ∧ H' D = some (.lst [])) ⟨.new hD, upd_same⟩ ?_ ?_
      · rintro i H2 hi ⟨K2, e2⟩
        have hi2 : i < ys.length := by omega
        walk_at "hs"
        rw [Int.zero_add]
        refine .inr ⟨pa, xs, _, xs[i], rfl, rfl, HS.st (K2 _ _ h1 id), at_of (j := i) (by omega) (List.getElem?_eq_getElem (by omega)), ?_⟩
        walk_at "hs"
        refine .inr ⟨pb, ys, _, ys[i], rfl, rfl, HS.st (K2 _ _ h2 id), at_of (j := i) (by omega) (List.getElem?_eq_getElem hi2), ?_⟩
        walk_at "hs"
        · refine ⟨xs[i], ys[i], rfl, (h i _ _ (List.getElem?_eq_getElem (by omega)) (List.getElem?_eq_getElem hi2)).same K2, fun H3 K3 => ?_⟩
          walk_at "hs"
          exact ⟨K2.trans K3, K3 _ _ e2 id⟩
      · rintro H2 ⟨K2, e2⟩
        walk_at "hs"
        intro p hp
        refine HS.eqL (xs := []) (ys := []) (HS.Keep.sq (S := fun _ => False) (.new hp) (HS.sq e2) id) (HS.sq upd_same) ?_
        exact k _ (K2.trans (.new hp))
def sp_Unreadable___init__ (K : PySem.W.Frag) : Sp := fun vs H Q _ => ∃ (a C : Addr) (w : V), vs = [.ref a, w] ∧ (OexC K C ∧ PySem.W.findIn K (.ref C) "value" = some none ∧ H a = some (exo a C none) ∧ ∀ H' d, HS.Keep (fun x => x = a) H H' → H d = none → d ≠ a → H' a = some (exo a C (some d)) → H' d = some (exd d [("value", w)]) → Q .non H')
theorem ok_Unreadable___init__ (T : Txt K mg A) : FnOk P w K mg base CX0 1 A.a_Unreadable___init__ A.d_Unreadable___init__ ["self", "value"] (sp_Unreadable___init__ K) := by
  refine T.F_Unreadable___init__.ok sc_Unreadable___init__ (fun vs H Q E h => ?_) (fun cdv A0 outer s H vs Q E hr h => ?_)
  · obtain ⟨a, C, w, rfl, hw⟩ := h
    rfl
  · obtain ⟨a, C, w, rfl, hw⟩ := h
    refine ⟨_, (pss_one (ps_ost (pv 0) (pv 1))), ?_⟩
    obtain ⟨T1, hv, ha, k⟩ := hw
    walk_at "hs"
    refine ⟨a, C, rfl, T1, hv, .inl ⟨ha, fun d hd hne => ?_⟩⟩
    walk_at "hs"
    exact k _ d ((HS.Keep.new hd).at rfl) hd (by first | exact hne | exact Ne.symm hne) upd_same (by rw [upd_ne hne]; exact upd_same)
def sp_read_number (K : PySem.W.Frag) : Sp := fun vs H Q _ => ∃ (t : Str), vs = [.str t] ∧ (t.length ≤ 20000 ∧ Q (.int (numR t)) H)
theorem ok_read_number (T : Txt K mg A) : FnOk P w K mg base CX0 1 A.a_read_number A.d_read_number ["word"] (sp_read_number K) := by
  refine T.F_read_number.ok sc_read_number (fun vs H Q E h => ?_) (fun cdv A0 outer s H vs Q E hr h => ?_)
  · obtain ⟨t, rfl, hw⟩ := h
    rfl
  · obtain ⟨t, rfl, hw⟩ := h
    refine ⟨_, (pss_cons (ps_if (PW.pt (pw_or (pt_not (PW.pt (pw_and (pt_val (pe_m0 PySem.F.slot_str_isascii PySem.F.type_str_isascii mt_isascii (pv 0))) (pw_and1 (pt_val (pe_m0 PySem.F.slot_str_isdigit PySem.F.type_str_isdigit mt_isdigit (pv 0))))))) (pw_or (pt_cmpR op_eq (pe_ix ix_str (pv 0) pe_int (fun _ _ => rfl)) pe_str (nomark _)) (pw_or1 (pt_cmpR op_gt (pe_callB call_len_str (by rfl) T.z_len PySem.boot_len (pa_cons (pv 0) pa_nil)) (pe_glob (v := .int 40) (by rfl) T.v_MOST_DIGITS.choose_spec ⟨_, rfl⟩) (nomark _))))))
      (pss_one (ps_ret pe_int))
      pss_nil)
    (pss_one (ps_ret (pe_callTy call_int_str (by rfl) T.z_int (by decide +kernel) (pa_cons (pv 0) pa_nil))))), ?_⟩
    obtain ⟨hl, k⟩ := hw
    have hA := asc_dig t
    walk_at "hs"
    refine ⟨t, rfl, rfl, trivial, ?_⟩
    walk_at "hs"
    cases e1 : Txt.isascii t with
    | false =>
      have z : numR t = 0 := numR_zero (by rw [e1]; rfl)
      rw [z] at k
      walk_at "hs"
      exact k
    | true =>
      walk_at "hs"
      refine ⟨t, rfl, rfl, trivial, ?_⟩
      walk_at "hs"
      cases e2 : Txt.isdigit t with
      | false =>
        have z : numR t = 0 := numR_zero (by rw [e1, e2]; rfl)
        rw [z] at k
        walk_at "hs"
        exact k
      | true =>
        rw [e1, e2] at hA
        have hB := hA.symm
        rw [show (true && true) = true from rfl, Bool.and_eq_true, decide_eq_true_eq, List.all_eq_true] at hB
        obtain ⟨hne, hdg⟩ := hB
        have hdg' : PySem.NumText.AllDigits (TL.tl t) := fun c hc => of_decide_eq_true (hdg c hc)
        obtain ⟨c, r, hcr⟩ : ∃ c r, TL.tl t = c :: r := by
          cases h : TL.tl t with
          | nil => exact absurd h hne
          | cons c r => exact ⟨c, r, rfl⟩
        walk_at "hs"
        refine ⟨t, 0, c, rfl, rfl, HS.szl (by omega), by rw [show t.cps.toList = c :: r from hcr]; exact HS.atN 0 rfl rfl, ?_⟩
        walk_at "hs"
        refine HS.eqStr ?_
        rw [show decide ((⟨#[c]⟩ : PySem.Str) = PySem.Str.ofString "0") = decide (c = 48) from decide_eq_decide.mpr one_zero]
        walk_at "hs"
        refine HS.itd (fun hc => ?_) (fun hc => ?_)
        · have z : numR t = 0 := by
            unfold numR isNumL
            rw [hcr, hc]
            simp
          rw [z] at k
          walk_at "hs"
          exact k
        · walk_at "hs"
          refine ⟨t, rfl, HS.szl (by omega), ?_⟩
          walk_at "hs"
          refine HS.itd (fun h40 => ?_) (fun h40 => ?_)
          · have z : numR t = 0 := by
              unfold numR isNumL
              rw [show decide ((TL.tl t).length ≤ 40) = false from decide_eq_false (by rw [← TL.len_tl]; omega)]
              simp
            rw [z] at k
            walk_at "hs"
            exact k
          · have g : isNumL (TL.tl t) = true := by
              unfold isNumL
              rw [hA.symm, hcr, decide_eq_true (show (c :: r).head? ≠ some 48 from fun q => hc (Option.some.inj q)), ← hcr, decide_eq_true (show (TL.tl t).length ≤ 40 by rw [← TL.len_tl]; omega)]
              rfl
            walk_at "hs"
            refine ⟨t, _, rfl, PySem.intText_digits hdg' hne (by omega), by omega, ?_⟩
            rw [show numR t = ((PySem.NumText.digitsVal (TL.tl t) : Nat) : Int) from if_pos g] at k
            exact k
def sp_read_chapters (K : PySem.W.Frag) : Sp := fun vs H Q _ => ∃ (t : Str), vs = [.str t] ∧ (t.length ≤ 20000 ∧ ∀ H' p, HS.Keep (fun _ => False) H H' → H p = none → H' p = some (.tup [.int (chR t).1, .int (chR t).2]) → Q (.ref p) H')
theorem ok_read_chapters (T : Txt K mg A) : FnOk P w K mg base CX0 2 A.a_read_chapters A.d_read_chapters ["part"] (sp_read_chapters K) := by
  have G_read_number : FnOk P w K mg base CX0 1 A.a_read_number A.d_read_number ["word"] (sp_read_number K) := ok_read_number T
  refine T.F_read_chapters.ok sc_read_chapters (fun vs H Q E h => ?_) (fun cdv A0 outer s H vs Q E hr h => ?_)
  · obtain ⟨t, rfl, hw⟩ := h
    rfl
  · obtain ⟨t, rfl, hw⟩ := h
    refine ⟨_, (pss_cons (ps_asg (pe_partition (pv 0) pe_str) (HS.kgt K (pg_tup rfl (pgs_cons (pg_name (i := 1) sc_read_chapters.nd rfl (.inl rfl)) (pgs_cons (pg_name (i := 2) sc_read_chapters.nd rfl (.inl rfl)) (pgs_cons (pg_name (i := 3) sc_read_chapters.nd rfl (.inl rfl)) pgs_nil))))))
    (pss_cons (ps_if (pt_cmpR op_eq (pv 2) pe_str (nomark _))
      (pss_one (ps_ret (pe_tup (pa_cons pe_int (pa_cons (pe_call G_read_number hr (by rfl) T.g_read_number T.F_read_number.kp T.b_read_number .nil pass0 (pa_cons (pv 0) pa_nil)) pa_nil)))))
      pss_nil)
    (pss_cons (ps_set (i := 4) sc_read_chapters.nd rfl (.inl rfl) (pe_call G_read_number hr (by rfl) T.g_read_number T.F_read_number.kp T.b_read_number .nil pass0 (pa_cons (pv 1) pa_nil)))
    (pss_cons (ps_if (pt_cmpR op_eq (pv 4) pe_int (nomark _))
      (pss_one (ps_ret (pe_tup (pa_cons pe_int (pa_cons pe_int pa_nil)))))
      pss_nil)
    (pss_one (ps_ret (pe_tup (pa_cons (pv 4) (pa_cons (pe_call G_read_number hr (by rfl) T.g_read_number T.F_read_number.kp T.b_read_number .nil pass0 (pa_cons (pv 3) pa_nil)) pa_nil))))))))), ?_⟩
    obtain ⟨hl, k⟩ := hw
    walk_at "hs"
    refine ⟨t, _, rfl, rfl, rfl, HS.szl (by omega), ?_⟩
    have lx := x_len
    rcases part_cases t with e | ⟨a, b, e, eab⟩
    · have c1 : chR t = (1, numR t) := by unfold chR; rw [e, if_pos rfl]
      rw [e]
      intro p hp
      generalize hG_p : upd _ p _ = H1
      have at_p := HS.upgs hG_p
      have Kn_p := HS.upgK hG_p hp
      clear hG_p
      walk_at "hs"
      refine HS.eqStr ?_
      rw [decide_eq_true (show (PySem.Str.empty : PySem.Str) = PySem.Str.ofString "" from rfl)]
      walk_at "hs"
      refine ⟨t, rfl, hl, ?_⟩
      walk_at "hs"
      intro q hq
      exact k _ q (Kn_p.trans (.new hq)) (Kn_p.free hq id) (by rw [upd_same, c1])
    · have el := congrArg PySem.Str.length eab
      rw [lenA, lenA, lx] at el
      rw [e]
      intro p hp
      generalize hG_p : upd _ p _ = H1
      have at_p := HS.upgs hG_p
      have Kn_p := HS.upgK hG_p hp
      clear hG_p
      walk_at "hs"
      refine HS.eqStr ?_
      rw [decide_eq_false (show ¬ ((PySem.Str.ofString "x" : PySem.Str) = PySem.Str.ofString "") from x_ne)]
      walk_at "hs"
      refine ⟨a, rfl, by omega, ?_⟩
      walk_at "hs"
      refine HS.itd (fun h1 => ?_) (fun h1 => ?_)
      · have c1 : chR t = (0, 0) := by unfold chR; rw [e, if_neg x_ne]; exact if_pos h1
        walk_at "hs"
        intro q hq
        exact k _ q (Kn_p.trans (.new hq)) (Kn_p.free hq id) (by rw [upd_same, c1])
      · have c1 : chR t = (numR a, numR b) := by unfold chR; rw [e, if_neg x_ne]; exact if_neg h1
        walk_at "hs"
        refine ⟨b, rfl, by omega, ?_⟩
        walk_at "hs"
        intro q hq
        exact k _ q (Kn_p.trans (.new hq)) (Kn_p.free hq id) (by rw [upd_same, c1])
def sp_read_book (K : PySem.W.Frag) (A : Ad) : Sp := fun vs H Q E => ∃ (t : Str), vs = [.str t] ∧ (t.length ≤ 20000 ∧ (∀ ps, goR (Txt.split t " + ") 0 = some ps → (spread ps).length ≤ 16000000 ∧ ∀ p ∈ ps, p.1 ≤ 1000000) ∧
  (readR t = none → ∀ H' d, HS.Keep (fun _ => False) H H' → H d = none → H' d = some (.xd [("value", .str t)]) → E (.ref A.c_Unreadable) (some d) H') ∧
  (∀ ls, readR t = some ls → ∀ H' p, HS.Keep (fun _ => False) H H' → H p = none → H' p = some (.lst (ls.map V.int)) → Q (.ref p) H'))
theorem ok_read_book (T : Txt K mg A) : FnOk P w K mg base (L2N.CX P w) 3 A.a_read_book A.d_read_book ["text"] (sp_read_book K A) := by
  have G_read_chapters : FnOk P w K mg base CX0 2 A.a_read_chapters A.d_read_chapters ["part"] (sp_read_chapters K) := ok_read_chapters T
  have G_Unreadable___init__ : FnOk P w K mg base CX0 1 A.a_Unreadable___init__ A.d_Unreadable___init__ ["self", "value"] (sp_Unreadable___init__ K) := ok_Unreadable___init__ T
  refine HS.Fun.okN T.F_read_book sc_read_book (fun vs H Q E h => ?_) (fun cdv A0 outer s H vs Q E hr h => ?_)
  · obtain ⟨t, rfl, hw⟩ := h
    rfl
  · obtain ⟨t, rfl, hw⟩ := h
    refine ⟨_, (pss_cons (ps_if (pt_cmpR op_eq (pv 0) pe_str (nomark _))
      (pss_one (ps_ret (pe_lst pa_nil)))
      pss_nil)
    (pss_cons (ps_set (i := 1) sc_read_book.nd rfl (.inl rfl) (pe_lst pa_nil))
    (pss_cons (ps_set (i := 2) sc_read_book.nd rfl (.inl rfl) pe_int)
    (pss_cons (ps_for (passes_of rfl) rfl (HS.kil K (pi_list (pe_split (pv 0) pe_str))) (pg_name (i := 3) sc_read_book.nd rfl (.inl rfl))
      (pss_cons (ps_asg (pe_call G_read_chapters hr (by rfl) T.g_read_chapters T.F_read_chapters.kp T.b_read_chapters .nil pass0 (pa_cons (pv 3) pa_nil)) (HS.kgt K (pg_tup rfl (pgs_cons (pg_name (i := 4) sc_read_book.nd rfl (.inl rfl)) (pgs_cons (pg_name (i := 5) sc_read_book.nd rfl (.inl rfl)) pgs_nil)))))
    (pss_cons (ps_if (PW.pt (pw_or (pt_cmpR op_eq (pv 4) pe_int (nomark _)) (pw_or (pt_cmpR op_eq (pv 5) pe_int (nomark _)) (pw_or1 (pt_cmpR op_eq (pv 5) (pv 2) (nomark _))))))
      (pss_one (L2N.ps_raise rfl (L2N.takes_of rfl rfl rfl rfl) (HS.pmk_oexN T.C_Unreadable T.i_Unreadable T.t_Unreadable G_Unreadable___init__ hr T.b_Unreadable___init__ .nil pass0 (by rfl) T.m_Unreadable (pa_cons (pv 0) pa_nil))))
      pss_nil)
    (pss_cons (ps_expr (HS.kbm K (pe_bm PySem.F.plainAttrs_list PySem.F.slot_list_append PySem.F.type_list_append mt_append (pv 1) (pa_cons (pe_tup (pa_cons (pv 4) (pa_cons (pv 5) pa_nil))) pa_nil))))
    (pss_one (ps_set (i := 2) sc_read_book.nd rfl (.inl rfl) (pv 5)))))))
    (pss_cons (ps_set (i := 6) sc_read_book.nd rfl (.inl rfl) (pe_lst pa_nil))
    (pss_cons (ps_for (passes_of rfl) rfl (HS.kil K (pi_list (pv 1))) (HS.kgt K (pg_tup rfl (pgs_cons (pg_name (i := 4) sc_read_book.nd rfl (.inl rfl)) (pgs_cons (pg_name (i := 5) sc_read_book.nd rfl (.inl rfl)) pgs_nil))))
      (pss_one (ps_expr (HS.kbm K (pe_bm PySem.F.plainAttrs_list PySem.F.slot_list_extend PySem.F.type_list_extend mt_extend (pv 6) (pa_cons (pe_op op_rep (pe_lst (pa_cons (pv 5) pa_nil)) (pv 4)) pa_nil))))))
    (pss_one (ps_ret (pv 6))))))))), ?_⟩
    obtain ⟨hl, hm, kE, kQ⟩ := hw
    walk_at "hs"
    refine HS.eqStr ?_
    walk_at "hs"
    refine HS.itd (fun he => ?_) (fun he => ?_)
    · walk_at "hs"
      intro p hp
      exact kQ [] (if_pos he) _ p (.new hp) hp upd_same
    have eR : readR t = (goR (Txt.split t " + ") 0).map spread := if_neg he
    walk_at "hs"
    intro F hF
    generalize hG_F : upd _ F _ = H1
    have at_F := HS.upgs hG_F
    have Kn_F := HS.upgK hG_F hF
    clear hG_F
    walk_at "hs"
    refine ⟨t, _, rfl, rfl, rfl, by have := HS.szl (n := t.length + 2) (by omega); exact this, ?_⟩
    have at_F1 := at_F
    intro P hP
    generalize hG_P : upd _ P _ = H2
    have at_P := HS.upgs hG_P
    have Kn_P := HS.upgK hG_P hP
    clear hG_P
    have at_F := Kn_P _ _ at_F id
    have pl := split_len t
    have pm : ∀ p ∈ Txt.split t " + ", p.length ≤ t.length := fun p hp => split_mem hp
    have K2 := Kn_F.trans Kn_P
    generalize Txt.split t " + " = parts at hm eR at_P pl pm ⊢
    walk_at "hs"
    refine ⟨⟨_, HS.sq at_P⟩, for_list (xs := parts.map V.str) (fun i σ H' => HS.Keep (fun a => a = F) H2 H' ∧ HS.Keep (fun _ => False) H H' ∧ ∃ (ps : List (Int × Int)) (vs : List V) (b : Int) (x3 x4 x5 : Option V), σ = [some (.str t), some (.ref F), some (.int b), x3, x4, x5, none] ∧ H' F = some (.lst vs) ∧ HS.Prs H' vs ps ∧ (goR (parts.drop i) b).map (fun r => ps ++ r) = goR parts 0 ∧ ps.length = i) ⟨.refl, K2, [], [], 0, _, _, _, rfl, at_F, trivial, by rw [List.drop_zero]; cases goR parts 0 <;> rfl, rfl⟩ (fun i σ H' _ ⟨K', _⟩ => HS.sq (K' _ _ at_P (ne_of_none at_F1 hP).symm)) ?_ ?_⟩
    · rintro i x σ H3 hi ⟨K3, K30, ps, vs, b, x3, x4, x5, rfl, hF3, hps, hgo, hpl⟩
      obtain ⟨w, rfl, hw⟩ : ∃ w, x = .str w ∧ parts[i]? = some w := by
        rw [List.getElem?_map] at hi
        cases e : parts[i]? with
        | none => rw [e] at hi; cases hi
        | some w => rw [e] at hi; exact ⟨w, (Option.some.inj hi).symm, rfl⟩
      have hil := (List.getElem?_eq_some_iff.mp hw).1
      have ed : parts.drop i = w :: parts.drop (i + 1) := by rw [List.drop_eq_getElem_cons hil]; congr 1; rw [List.getElem?_eq_getElem hil] at hw; exact Option.some.inj hw
      have wl := pm w (List.mem_of_getElem? hw)
      have vl := hps.len
      rw [ed, goR] at hgo
      walk_at "hs"
      refine ⟨w, rfl, by omega, fun H4 q K4 _ hq => ?_⟩
      have hF4 := K4 _ _ hF3 id
      have hps4 := HS.Prs.same hps K4
      have K40 := K30.trans K4
      have K42 := K3.trans K4.any
      walk_at "hs"
      generalize chR w = cw at hgo hq ⊢
      have bad : (cw.1 = 0 ∨ cw.2 = 0 ∨ cw.2 = b) → readR t = none := fun h => by
        rw [if_pos h] at hgo
        rw [eR, ← hgo]; rfl
      refine HS.itd (fun h1 => ?_) (fun h1 => ?_)
      · walk_at "hs"
        exact HS.mk1 (fun H' Q' E' b h1 h2 h3 h4 => ⟨b, _, _, rfl, h1, h2, h3, h4⟩) T.C_Unreadable T.n_Unreadable fun H' d k hd e => kE (bad (.inl h1)) H' d (K40.trans k) (K40.free hd id) e
      walk_at "hs"
      refine HS.itd (fun h2 => ?_) (fun h2 => ?_)
      · walk_at "hs"
        exact HS.mk1 (fun H' Q' E' b h1 h2 h3 h4 => ⟨b, _, _, rfl, h1, h2, h3, h4⟩) T.C_Unreadable T.n_Unreadable fun H' d k hd e => kE (bad (.inr (.inl h2))) H' d (K40.trans k) (K40.free hd id) e
      walk_at "hs"
      refine HS.itd (fun h3 => ?_) (fun h3 => ?_)
      · walk_at "hs"
        exact HS.mk1 (fun H' Q' E' b h1 h2 h3 h4 => ⟨b, _, _, rfl, h1, h2, h3, h4⟩) T.C_Unreadable T.n_Unreadable fun H' d k hd e => kE (bad (.inr (.inr h3))) H' d (K40.trans k) (K40.free hd id) e
      rw [if_neg (by omega)] at hgo
      walk_at "hs"
      intro u hu
      have hFu : F ≠ u := ne_of_none hF4 hu
      have hF5 : upd H4 u (.tup [.int cw.1, .int cw.2]) F = some (.lst vs) := by rw [upd_ne hFu]; exact hF4
      walk_at "hs"
      refine ⟨(K42.trans (HS.Keep.new hu).any).trans (HS.Keep.at HS.Keep.refl rfl), (K40.trans (.new hu)).put hF, ps ++ [cw], vs ++ [.ref u], _, _, _, _, rfl, upd_same, ?_, ?_, by rw [List.length_append, hpl]; rfl⟩
      · exact HS.Prs.snoc (HS.Prs.put hF5 (HS.Prs.new hu hps4)) (by rw [upd_ne (Ne.symm hFu)]; exact upd_same)
      · rw [← hgo]
        cases goR (parts.drop (i + 1)) cw.2 with
        | none => rfl
        | some r => show some (ps ++ [cw] ++ r) = some (ps ++ cw :: r); rw [List.append_assoc]; rfl
    · rintro σ H3 ⟨K3, K30, ps, vs, b, x3, x4, x5, rfl, hF3, hps, hgo, hpl⟩
      rw [List.length_map, List.drop_length, goR] at hgo
      have hgo' : goR parts 0 = some ps := by rw [← hgo]; show some (ps ++ []) = some ps; rw [List.append_nil]
      obtain ⟨sp, sm⟩ := hm ps hgo'
      have eR' : readR t = some (spread ps) := by rw [eR, hgo']; rfl
      have vl := hps.len
      walk_at "hs"
      have hF3' := hF3
      intro B hB
      generalize hG_B : upd _ B _ = H4
      have at_B := HS.upgs hG_B
      have Kn_B := HS.upgK hG_B hB
      clear hG_B
      have hF3 := Kn_B _ _ hF3 id
      have hps := HS.Prs.same hps Kn_B
      have K40 := K30.trans Kn_B
      have hFB : F ≠ B := ne_of_none hF3' hB
      walk_at "hs"
      refine ⟨⟨_, HS.sq hF3⟩, for_list (xs := vs) (fun i σ H' => HS.Keep (fun a => a = B) H4 H' ∧ HS.Keep (fun _ => False) H H' ∧ H' B = some (.lst ((spread (ps.take i)).map V.int)) ∧ ∃ (x4 x5 : Option V), σ = [some (.str t), some (.ref F), some (.int b), x3, x4, x5, some (.ref B)]) ⟨.refl, K40, at_B, _, _, rfl⟩ (fun i σ H' _ ⟨K', _⟩ => HS.sq (K' _ _ hF3 hFB)) ?_ ?_⟩
      · rintro i x σ H5 hi ⟨K5, K50, hB5, x4, x5, rfl⟩
        obtain ⟨q, p, rfl, hp, hq⟩ := HS.Prs.at hps hi
        have hqB : q ≠ B := fun z => by rw [z, at_B] at hq; cases hq
        have hq5 := K5 _ _ hq hqB
        have es := spread_take_succ hp
        have s1 := spread_take_le ps (i + 1)
        rw [es, List.length_append, List.length_replicate] at s1
        obtain ⟨m, z⟩ := p
        have s1' : (spread (ps.take i)).length + m.toNat ≤ (spread ps).length := s1
        have hq5' : H5 q = some (.tup [.int m, .int z]) := hq5
        have mn : 0 ≤ m := (goR_nn hgo' _ (List.mem_of_getElem? hp)).1
        have mx : m ≤ 1000000 := sm _ (List.mem_of_getElem? hp)
        walk_at "hs"
        intro u hu
        generalize hG_u : upd _ u _ = H6
        have at_u := HS.upgs hG_u
        have Kn_u := HS.upgK hG_u hu
        clear hG_u
        have hB5 := Kn_u _ _ hB5 id
        walk_at "hs"
        refine HS.rep1 at_u (by omega) (by omega) ?_
        intro v hv
        generalize hG_v : upd _ v _ = H7
        have at_v := HS.upgs hG_v
        have Kn_v := HS.upgK hG_v hv
        clear hG_v
        have hB5 := Kn_v _ _ hB5 id
        walk_at "hs"
        refine ⟨by rw [List.length_map, List.length_replicate]; exact Nat.le_trans (show _ ≤ 16000000 by omega) (by decide), ((K5.trans ((Kn_u.trans Kn_v).any)).trans (HS.Keep.at HS.Keep.refl rfl)), (K50.trans (Kn_u.trans Kn_v)).put (K30.free hB id), ?_, _, _, rfl⟩
        rw [upd_same, es, List.map_append, List.map_replicate]
      · rintro σ H5 ⟨K5, K50, hB5, x4, x5, rfl⟩
        rw [← vl.symm, List.take_length] at hB5
        walk_at "hs"
        exact kQ _ eR' _ B K50 (K30.free hB id) hB5
structure Kits7 (K : PySem.W.Frag) (A : Ad) (D : Addr) (b0 b1 b2 b3 b4 b5 b6 : Bool) : Prop where
  x : ExcC K D
  f : XfC K D
  n : PySem.W.findIn K (.ref D) "value" = some none
  e0 : PySem.W.kitOne K (.ref D) (.ref A.c_InvalidBook) = some b0
  e1 : PySem.W.kitOne K (.ref D) (.ref A.c_InvalidSize) = some b1
  e2 : PySem.W.kitOne K (.ref D) (.ref A.c_InvalidTable) = some b2
  e3 : PySem.W.kitOne K (.ref D) (.ref A.c_InvalidChain) = some b3
  e4 : PySem.W.kitOne K (.ref D) (.ref A.c_InvalidNumber) = some b4
  e5 : PySem.W.kitOne K (.ref D) (.ref A.c_NothingToUndo) = some b5
  e6 : PySem.W.kitOne K (.ref D) (.ref A.c_Unreadable) = some b6
  e7 : PySem.W.kitOne K (.ref D) (.ref A.c_BookError) = some true
  ev : PySem.W.kitOne K (.ref D) (.type "ValueError") = some true
def pick7 (b0 b1 b2 b3 b4 b5 b6 : Bool) : List (Str × Bool) := [("InvalidBook", b0), ("InvalidSize", b1), ("InvalidTable", b2), ("InvalidChain", b3), ("InvalidNumber", b4), ("NothingToUndo", b5), ("Unreadable", b6)]
def picked (ps : List (Str × Bool)) : List V := ps.filterMap fun p => if p.2 then some (.str p.1) else none
def sp__law_error (K : PySem.W.Frag) (A : Ad) : HS.SpE := fun xa xc xd vs H Q _ => ∃ (D_ d : Addr) (fs : List (Str × V)) (nm : Str) (w : V) (b0 b1 b2 b3 b4 b5 b6 : Bool), vs = [.ref xa] ∧ (xc = .ref D_ ∧ xd = some d ∧ H d = some (.xd fs) ∧ Kits7 K A D_ b0 b1 b2 b3 b4 b5 b6 ∧ picked (pick7 b0 b1 b2 b3 b4 b5 b6) = [.str nm] ∧ fs.lookup ("value" : Str) = some w ∧ ∀ H' p, HS.Keep (fun _ => False) H H' → H p = none → H' p = some (.lst [.str nm, w, .bl true]) → Q (.ref p) H')
theorem ok__law_error (T : Txt K mg A) : HS.FnE P w K mg base 1 A.a__law_error A.d__law_error ["e"] (sp__law_error K A) := by
  refine HS.Fun.okE T.F__law_error sc__law_error (fun xa xc xd vs H Q E h => ?_) (fun cdv A0 outer s H vs Q E xa oe xc xd hh hz hf hr h => ?_)
  · obtain ⟨D_, d, fs, nm, w, b0, b1, b2, b3, b4, b5, b6, rfl, hw⟩ := h
    rfl
  · obtain ⟨D_, d, fs, nm, w, b0, b1, b2, b3, b4, b5, b6, rfl, hw⟩ := h
    refine ⟨_, (pss_cons (ps_set (i := 1) sc__law_error.nd rfl (.inl rfl) (pe_lst (pa_cons (pe_tup (pa_cons pe_str (pa_cons (pe_callB (HS.call_isG K hz.zc hf List.mem_cons_self) (by rfl) T.z_isinstance (by decide +kernel) (pa_cons (pv 0) (pa_cons (pe_glob (v := .ref A.c_InvalidBook) (by rfl) T.m_InvalidBook rfl) pa_nil))) pa_nil))) (pa_cons (pe_tup (pa_cons pe_str (pa_cons (pe_callB (HS.call_isG K hz.zc hf List.mem_cons_self) (by rfl) T.z_isinstance (by decide +kernel) (pa_cons (pv 0) (pa_cons (pe_glob (v := .ref A.c_InvalidSize) (by rfl) T.m_InvalidSize rfl) pa_nil))) pa_nil))) pa_nil))))
    (pss_cons (ps_set (i := 1) sc__law_error.nd rfl (.inl rfl) (pe_op op_cat (pv 1) (pe_lst (pa_cons (pe_tup (pa_cons pe_str (pa_cons (pe_callB (HS.call_isG K hz.zc hf List.mem_cons_self) (by rfl) T.z_isinstance (by decide +kernel) (pa_cons (pv 0) (pa_cons (pe_glob (v := .ref A.c_InvalidTable) (by rfl) T.m_InvalidTable rfl) pa_nil))) pa_nil))) (pa_cons (pe_tup (pa_cons pe_str (pa_cons (pe_callB (HS.call_isG K hz.zc hf List.mem_cons_self) (by rfl) T.z_isinstance (by decide +kernel) (pa_cons (pv 0) (pa_cons (pe_glob (v := .ref A.c_InvalidChain) (by rfl) T.m_InvalidChain rfl) pa_nil))) pa_nil))) pa_nil)))))
    (pss_cons (ps_set (i := 1) sc__law_error.nd rfl (.inl rfl) (pe_op op_cat (pv 1) (pe_lst (pa_cons (pe_tup (pa_cons pe_str (pa_cons (pe_callB (HS.call_isG K hz.zc hf List.mem_cons_self) (by rfl) T.z_isinstance (by decide +kernel) (pa_cons (pv 0) (pa_cons (pe_glob (v := .ref A.c_InvalidNumber) (by rfl) T.m_InvalidNumber rfl) pa_nil))) pa_nil))) (pa_cons (pe_tup (pa_cons pe_str (pa_cons (pe_callB (HS.call_isG K hz.zc hf List.mem_cons_self) (by rfl) T.z_isinstance (by decide +kernel) (pa_cons (pv 0) (pa_cons (pe_glob (v := .ref A.c_NothingToUndo) (by rfl) T.m_NothingToUndo rfl) pa_nil))) pa_nil))) pa_nil)))))
    (pss_cons (HS.ksetE K (HS.ps_setLcE (i := 2) (own := [("name", 3), ("is_one", 4)]) (g := gTup K 2 (gCons (gName 3) (gCons (gName 4) gNil))) (HS.hotC_mk hh hz.2.2 hf List.mem_cons_self) sc__law_error.nd rfl rfl (sw_true rfl rfl rfl (by decide +kernel)) (pe_op op_cat (pv 1) (pe_lst (pa_cons (pe_tup (pa_cons pe_str (pa_cons (pe_callB (HS.call_isG K hz.zc hf List.mem_cons_self) (by rfl) T.z_isinstance (by decide +kernel) (pa_cons (pv 0) (pa_cons (pe_glob (v := .ref A.c_Unreadable) (by rfl) T.m_Unreadable rfl) pa_nil))) pa_nil))) pa_nil))) (blkOk_by (own := [("name", 3), ("is_one", 4)]) (N := N__law_error) (sc := defScope s__law_error) (by decide +kernel)) (fun _ _ _ _ _ _ hb => HS.kgt K (HS.pg_tupE hb (pgs_cons (pg_name (i := 3) sc__law_error.nd rfl (by first | exact .inl rfl | exact .inr rfl)) (pgs_cons (pg_name (i := 4) sc__law_error.nd rfl (by first | exact .inl rfl | exact .inr rfl)) pgs_nil)))) (fun _ _ _ _ _ => (pts_one (pt_val (pv 4)))) (fun _ _ _ _ _ => (pv 3))))
    (pss_one (ps_ret (pe_op op_cat (pv 2) (pe_lst (pa_cons (HS.pe_fldG K hz.zc hf List.mem_cons_self (pv 0)) (pa_cons (pe_and (pe_callB (HS.call_isG K hz.zc hf List.mem_cons_self) (by rfl) T.z_isinstance (by decide +kernel) (pa_cons (pv 0) (pa_cons (pe_glob (v := .ref A.c_BookError) (by rfl) T.m_BookError rfl) pa_nil))) (pe_one (pe_callB (HS.call_isG K hz.zc hf List.mem_cons_self) (by rfl) T.z_isinstance (by decide +kernel) (pa_cons (pv 0) (pa_cons (pe_bltn (v := .ty "ValueError") (by rfl) T.z_ValueError (by decide +kernel) rfl) pa_nil))))) pa_nil)))))))))), ?_⟩
    obtain ⟨rfl, rfl, hd, ⟨T1, T2, T3, q0, q1, q2, q3, q4, q5, q6, q7, qv⟩, hpk, hl, k⟩ := hw
    have W := HS.Wd.nil (H := H) (S := fun _ => False)
    walk_at "hs"
    refine HS.isP T1 hd q0 ?_
    walk_at "hs"
    intro t0 g0
    generalize hG_t0 : upd _ t0 _ = H0
    have Kn_t0 := HS.upgK hG_t0 g0
    replace W := W.newG hG_t0 g0
    clear hG_t0 g0
    try dsimp only [List.set, List.cons_append, List.nil_append] at W
    walk_at "hs"
    refine HS.isP T1 (W.kp _ _ hd id) q1 ?_
    walk_at "hs"
    intro t1 g1
    generalize hG_t1 : upd _ t1 _ = H1
    have Kn_t1 := HS.upgK hG_t1 g1
    replace W := W.newG hG_t1 g1
    clear hG_t1 g1
    try dsimp only [List.set, List.cons_append, List.nil_append] at W
    walk_at "hs"
    intro l1 gl1
    generalize hG_l1 : upd _ l1 _ = H2
    have Kn_l1 := HS.upgK hG_l1 gl1
    replace W := W.newG hG_l1 gl1
    clear hG_l1 gl1
    try dsimp only [List.set, List.cons_append, List.nil_append] at W
    walk_at "hs"
    refine HS.isP T1 (W.kp _ _ hd id) q2 ?_
    walk_at "hs"
    intro t2 g2
    generalize hG_t2 : upd _ t2 _ = H3
    have Kn_t2 := HS.upgK hG_t2 g2
    replace W := W.newG hG_t2 g2
    clear hG_t2 g2
    try dsimp only [List.set, List.cons_append, List.nil_append] at W
    walk_at "hs"
    refine HS.isP T1 (W.kp _ _ hd id) q3 ?_
    walk_at "hs"
    intro t3 g3
    generalize hG_t3 : upd _ t3 _ = H4
    have Kn_t3 := HS.upgK hG_t3 g3
    replace W := W.newG hG_t3 g3
    clear hG_t3 g3
    try dsimp only [List.set, List.cons_append, List.nil_append] at W
    walk_at "hs"
    intro l2 gl2
    generalize hG_l2 : upd _ l2 _ = H5
    have Kn_l2 := HS.upgK hG_l2 gl2
    replace W := W.newG hG_l2 gl2
    clear hG_l2 gl2
    try dsimp only [List.set, List.cons_append, List.nil_append] at W
    walk_at "hs"
    refine HS.cat (W.at 2 rfl) (W.at 5 rfl) ?_
    walk_at "hs"
    intro c1 gc1
    generalize hG_c1 : upd _ c1 _ = H6
    have Kn_c1 := HS.upgK hG_c1 gc1
    replace W := W.newG hG_c1 gc1
    clear hG_c1 gc1
    try dsimp only [List.set, List.cons_append, List.nil_append] at W
    walk_at "hs"
    refine HS.isP T1 (W.kp _ _ hd id) q4 ?_
    walk_at "hs"
    intro t4 g4
    generalize hG_t4 : upd _ t4 _ = H7
    have Kn_t4 := HS.upgK hG_t4 g4
    replace W := W.newG hG_t4 g4
    clear hG_t4 g4
    try dsimp only [List.set, List.cons_append, List.nil_append] at W
    walk_at "hs"
    refine HS.isP T1 (W.kp _ _ hd id) q5 ?_
    walk_at "hs"
    intro t5 g5
    generalize hG_t5 : upd _ t5 _ = H8
    have Kn_t5 := HS.upgK hG_t5 g5
    replace W := W.newG hG_t5 g5
    clear hG_t5 g5
    try dsimp only [List.set, List.cons_append, List.nil_append] at W
    walk_at "hs"
    intro l3 gl3
    generalize hG_l3 : upd _ l3 _ = H9
    have Kn_l3 := HS.upgK hG_l3 gl3
    replace W := W.newG hG_l3 gl3
    clear hG_l3 gl3
    try dsimp only [List.set, List.cons_append, List.nil_append] at W
    walk_at "hs"
    refine HS.cat (W.at 6 rfl) (W.at 9 rfl) ?_
    walk_at "hs"
    intro c2 gc2
    generalize hG_c2 : upd _ c2 _ = H10
    have Kn_c2 := HS.upgK hG_c2 gc2
    replace W := W.newG hG_c2 gc2
    clear hG_c2 gc2
    try dsimp only [List.set, List.cons_append, List.nil_append] at W
    walk_at "hs"
    refine HS.isP T1 (W.kp _ _ hd id) q6 ?_
    walk_at "hs"
    intro t6 g6
    generalize hG_t6 : upd _ t6 _ = H11
    have Kn_t6 := HS.upgK hG_t6 g6
    replace W := W.newG hG_t6 g6
    clear hG_t6 g6
    try dsimp only [List.set, List.cons_append, List.nil_append] at W
    walk_at "hs"
    intro l4 gl4
    generalize hG_l4 : upd _ l4 _ = H12
    have Kn_l4 := HS.upgK hG_l4 gl4
    replace W := W.newG hG_l4 gl4
    clear hG_l4 gl4
    try dsimp only [List.set, List.cons_append, List.nil_append] at W
    walk_at "hs"
    refine HS.cat (W.at 10 rfl) (W.at 12 rfl) ?_
    walk_at "hs"
    intro c3 gc3
    generalize hG_c3 : upd _ c3 _ = H13
    have Kn_c3 := HS.upgK hG_c3 gc3
    replace W := W.newG hG_c3 gc3
    clear hG_c3 gc3
    try dsimp only [List.set, List.cons_append, List.nil_append] at W
    have L7 := W.at 13 rfl
    have P7 : HS.PrV H13 ([V.ref t0, .ref t1] ++ [.ref t2, .ref t3] ++ [.ref t4, .ref t5] ++ [.ref t6]) ((pick7 b0 b1 b2 b3 b4 b5 b6).map fun q => (V.str q.1, V.bl q.2)) :=
      ⟨⟨t0, rfl, W.at 0 rfl⟩, ⟨t1, rfl, W.at 1 rfl⟩, ⟨t2, rfl, W.at 3 rfl⟩, ⟨t3, rfl, W.at 4 rfl⟩, ⟨t4, rfl, W.at 7 rfl⟩, ⟨t5, rfl, W.at 8 rfl⟩, ⟨t6, rfl, W.at 11 rfl⟩, trivial⟩
    have KA := W.kp
    clear W
    rw [show [V.ref t0, V.ref t1] ++ [.ref t2, .ref t3] ++ [.ref t4, .ref t5] ++ [.ref t6] = [V.ref t0, V.ref t1, V.ref t2, V.ref t3, V.ref t4, V.ref t5, V.ref t6] from rfl] at P7
    try dsimp only [List.cons_append, List.nil_append] at L7
    try dsimp only [List.cons_append, List.nil_append]
    generalize [V.ref t0, V.ref t1, V.ref t2, V.ref t3, V.ref t4, V.ref t5, V.ref t6] = tv at P7 L7 ⊢
    walk_at "hs"
    refine ⟨⟨_, HS.sq L7⟩, fun D hD => ?_⟩
    refine lc_list (xs := tv) (fun i H' => HS.Keep (fun _ => False) H13 H' ∧ H' D = some (.lst (picked ((pick7 b0 b1 b2 b3 b4 b5 b6).take i)))) ?_ ?_ ?_ ?_
    · exact ⟨HS.Keep.new hD, upd_same⟩
    · rintro i H' _ ⟨K', _⟩
      exact HS.sq (K' _ _ L7 id)
    · rintro i x H' hi ⟨K', hD'⟩
      obtain ⟨t, p, rfl, hp, ht⟩ := P7.at hi
      rw [List.getElem?_map] at hp
      obtain ⟨q, hq, rfl⟩ := Option.map_eq_some_iff.mp hp
      have ht' := K' t _ ht id
      have hlen : (picked ((pick7 b0 b1 b2 b3 b4 b5 b6).take i)).length ≤ 7 := Nat.le_trans (List.length_filterMap_le _ _) (by rw [List.length_take]; exact Nat.min_le_right _ _)
      have hnx : (pick7 b0 b1 b2 b3 b4 b5 b6).take (i + 1) = (pick7 b0 b1 b2 b3 b4 b5 b6).take i ++ [q] := by rw [List.take_add_one, hq]; rfl
      walk_at "hs"
      cases hb : q.2 with
      | true =>
        walk_at "hs"
        refine ⟨_, hD', HS.sz (by omega), K'.put hD, ?_⟩
        rw [upd_same, hnx]
        show _ = some (HO.lst (List.filterMap _ (_ ++ _)))
        rw [List.filterMap_append]
        show _ = some (HO.lst (_ ++ List.filterMap _ [q]))
        rw [List.filterMap_cons, hb]
        rfl
      | false =>
        walk_at "hs"
        refine ⟨K', ?_⟩
        rw [hD', hnx]
        show some (HO.lst (List.filterMap _ _)) = some (HO.lst (List.filterMap _ (_ ++ _)))
        rw [List.filterMap_append, List.filterMap_cons, hb]
        simp
    · rintro H14 ⟨K8, hD8⟩
      have h7 : tv.length = 7 := by rw [P7.len]; rfl
      rw [h7, show (pick7 b0 b1 b2 b3 b4 b5 b6).take 7 = pick7 b0 b1 b2 b3 b4 b5 b6 from rfl, hpk] at hD8
      have KB := KA.trans K8
      walk_at "hs"
      refine ⟨rfl, D_, d, fs, w, rfl, rfl, T2, T3, KB _ _ hd id, hl, ?_⟩
      walk_at "hs"
      refine HS.isP T1 (KB _ _ hd id) q7 ?_
      walk_at "hs"
      refine HS.isPt T1 (KB _ _ hd id) qv ?_
      walk_at "hs"
      intro l8 hl8
      have KC := KB.trans (HS.Keep.new (o := .lst [w, .bl true]) hl8)
      walk_at "hs"
      intro p8 hp8
      exact k _ p8 (KC.trans (HS.Keep.new hp8)) (KC.free hp8 id) upd_same
def sp__law_number (K : PySem.W.Frag) : Sp := fun vs H Q _ => ∃ (t : Str), vs = [.str t] ∧ (t.length ≤ 20000 ∧ (∀ c ∈ TL.tl t, c < 128) ∧ ∀ H', HS.Keep (fun _ => False) H H' → Q (.int (numR t)) H')
theorem ok__law_number (T : Txt K mg A) : FnOk P w K mg base CX0 1 A.a__law_number A.d__law_number ["word"] (sp__law_number K) := by
  refine T.F__law_number.ok sc__law_number (fun vs H Q E h => ?_) (fun cdv A0 outer s H vs Q E hr h => ?_)
  · obtain ⟨t, rfl, hw⟩ := h
    rfl
  · obtain ⟨t, rfl, hw⟩ := h
    refine ⟨_, (pss_cons (ps_if (PW.pt (pw_or (pt_cmpR op_eq (pv 0) pe_str (nomark _)) (pw_or (pt_cmpR op_gt (pe_callB call_len_str (by rfl) T.z_len PySem.boot_len (pa_cons (pv 0) pa_nil)) pe_int (nomark _)) (pw_or1 (pt_cmpR op_eq (pe_ix ix_str (pv 0) pe_int (fun _ _ => rfl)) pe_str (nomark _))))))
      (pss_one (ps_ret pe_int))
      pss_nil)
    (pss_one (ps_ret (pe_ifExp (pt_cmpR (HS.kne K (hu64 hr)) (pe_lc (own := [("sign", 1)]) (g := gName 1) rfl sc__law_number.nd (pi_str (pv 0)) (blkOk_by (own := [("sign", 1)]) (N := N__law_number) (sc := defScope s__law_number) (by decide +kernel)) (fun _ _ _ _ _ => pg_name (i := 1) sc__law_number.nd rfl (by first | exact .inl rfl | exact .inr rfl)) (fun _ _ _ _ _ => (pts_one (pt_cmpR op_notIn_sign (pv 1) pe_str (by rfl)))) (fun _ _ _ _ _ => (pv 1))) (pe_lst pa_nil) (nomark _)) pe_int (pe_callTy call_int_str (by rfl) T.z_int (by decide +kernel) (pa_cons (pv 0) pa_nil)))))), ?_⟩
    obtain ⟨hl, hc, k⟩ := hw
    have kz : isNumL (TL.tl t) = false → ∀ H', HS.Keep (fun _ => False) H H' → Q (.int 0) H' := fun h H' K' => by
      have := k H' K'
      rw [show numR t = 0 by unfold numR; rw [h]; rfl] at this
      exact this
    walk_at "hs"
    refine HS.eqStr ?_
    walk_at "hs"
    refine HS.itd (fun he => ?_) (fun he => ?_)
    · walk_at "hs"
      refine kz ?_ _ .refl
      rw [he, show TL.tl (Str.ofString "") = [] by rw [TL.tl_ofString]; rfl]
      rfl
    obtain ⟨c, r, hcr⟩ : ∃ c r, TL.tl t = c :: r := by
      cases h : TL.tl t with
      | nil => exact absurd (TL.ext_tl (by rw [h, TL.tl_ofString]; rfl)) he
      | cons c r => exact ⟨c, r, rfl⟩
    walk_at "hs"
    refine ⟨t, rfl, HS.szl (by omega), ?_⟩
    walk_at "hs"
    refine HS.itd (fun h40 => ?_) (fun h40 => ?_)
    · walk_at "hs"
      refine kz ?_ _ .refl
      unfold isNumL
      rw [show decide ((TL.tl t).length ≤ 40) = false from decide_eq_false (by rw [← TL.len_tl]; omega)]
      simp
    walk_at "hs"
    refine ⟨t, 0, c, rfl, rfl, HS.szl (by omega), by rw [show t.cps.toList = c :: r from hcr]; exact HS.atN 0 rfl rfl, ?_⟩
    walk_at "hs"
    refine HS.eqStr ?_
    rw [show decide ((⟨#[c]⟩ : PySem.Str) = PySem.Str.ofString "0") = decide (c = 48) from decide_eq_decide.mpr one_zero]
    walk_at "hs"
    refine HS.itd (fun h0 => ?_) (fun h0 => ?_)
    · walk_at "hs"
      refine kz ?_ _ .refl
      unfold isNumL
      rw [hcr, h0]
      simp
    walk_at "hs"
    refine ⟨t, rfl, fun D hD => ?_⟩
    refine lc_it walk_str (fun i H' => HS.Keep (fun _ => False) H H' ∧ H' D = some (.lst ((((TL.tl t).take i).filterMap fun c => if isDg c then none else some (V.str ⟨#[c]⟩))))) ⟨.new hD, upd_same⟩ (fun _ _ _ _ => trivial) ?_ ?_
    · rintro i x H1 H2 hi ⟨K1, e1⟩ ⟨rfl, c1, hc1, rfl⟩
      have hc1 := HS.ltr hc1
      have hnx : (TL.tl t).take (i + 1) = (TL.tl t).take i ++ [c1] := by rw [List.take_add_one, hc1]; rfl
      have hlen : ((((TL.tl t).take i).filterMap fun c => if isDg c then none else some (V.str ⟨#[c]⟩))).length ≤ 40 := Nat.le_trans (List.length_filterMap_le _ _) (by rw [List.length_take, ← TL.len_tl]; omega)
      walk_at "hs"
      refine ⟨c1, _, rfl, rfl, ?_⟩
      rw [show decide (c1 ∈ (Str.ofString "0123456789").cps.toList) = isDg c1 from isDg_in c1]
      walk_at "hs"
      cases hd1 : isDg c1 with
      | true =>
        walk_at "hs"
        refine ⟨K1, ?_⟩
        rw [e1, hnx, List.filterMap_append, List.filterMap_cons, hd1]
        simp
      | false =>
        walk_at "hs"
        refine ⟨_, e1, HS.sz (by omega), K1.put hD, ?_⟩
        rw [upd_same, hnx, List.filterMap_append, List.filterMap_cons, hd1]
        rfl
    · rintro H1 ⟨K1, e1⟩
      rw [show List.take t.cps.size (TL.tl t) = TL.tl t from List.take_of_length_le (by rw [← TL.len_tl]; exact Nat.le_refl _), notDg] at e1
      walk_at "hs"
      intro e0 he0
      refine HS.neSt (xs := ((TL.tl t).filter fun c => !isDg c).map fun c => ⟨#[c]⟩) ?_ (HS.sq (by rw [upd_ne (ne_of_none e1 he0), e1, List.map_map]; rfl)) (HS.sq upd_same) ?_
      · intro x hx
        obtain ⟨d, hd, rfl⟩ := List.mem_map.mp hx
        exact HS.ok_of fun b hb => by
          have : b = d := by simpa [TL.tl] using hb
          rw [this]
          exact hc d (List.mem_filter.mp hd).1
      have K2 := K1.trans (HS.Keep.new (o := .lst []) he0)
      walk_at "hs"
      refine HS.itn (fun hn => ?_) (fun hn => ?_)
      · walk_at "hs"
        refine kz ?_ _ K2
        unfold isNumL
        rw [show ((TL.tl t).all fun c => decide (48 ≤ c ∧ c ≤ 57)) = false by
          cases ha : (TL.tl t).all fun c => decide (48 ≤ c ∧ c ≤ 57) with
          | false => rfl
          | true =>
            refine absurd ?_ hn
            rw [List.map_eq_nil_iff, List.filter_eq_nil_iff]
            intro d hd
            rw [List.all_eq_true] at ha
            have := ha d hd
            rw [show isDg d = true from this]
            simp]
        simp
      · have hall : ∀ d ∈ TL.tl t, isDg d = true := by
          rw [List.map_eq_nil_iff, List.filter_eq_nil_iff] at hn
          intro d hd
          have := hn d hd
          cases z : isDg d with
          | true => rfl
          | false => rw [z] at this; exact absurd rfl this
        have hdg : PySem.NumText.AllDigits (TL.tl t) := fun d hd => of_decide_eq_true (hall d hd)
        have g : isNumL (TL.tl t) = true := by
          unfold isNumL
          rw [decide_eq_true (show TL.tl t ≠ [] by rw [hcr]; simp), show ((TL.tl t).all fun c => decide (48 ≤ c ∧ c ≤ 57)) = true from List.all_eq_true.mpr hall, hcr, decide_eq_true (show (c :: r).head? ≠ some 48 from fun q => h0 (Option.some.inj q)), ← hcr, decide_eq_true (show (TL.tl t).length ≤ 40 by rw [← TL.len_tl]; omega)]
          rfl
        walk_at "hs"
        refine ⟨t, _, rfl, PySem.intText_digits hdg (show TL.tl t ≠ [] by rw [hcr]; simp) (by omega), by omega, ?_⟩
        have := k _ K2
        rw [show numR t = ((PySem.NumText.digitsVal (TL.tl t) : Nat) : Int) from if_pos g] at this
        exact this
def sp__law_read (K : PySem.W.Frag) : Sp := fun vs H Q _ => ∃ (t : Str), vs = [.str t] ∧ (t.length ≤ 15000 ∧ (∀ c ∈ TL.tl t, c < 128) ∧ sumR t ≤ 2000 ∧ (readR t = none → ∀ H', HS.Keep (fun _ => False) H H' → Q .non H') ∧
  (∀ ls, readR t = some ls → ∀ H' p, HS.Keep (fun _ => False) H H' → H p = none → H' p = some (.lst (ls.map V.int)) → Q (.ref p) H'))
theorem ok__law_read (T : Txt K mg A) : FnOk P w K mg base CX0 2 A.a__law_read A.d__law_read ["note"] (sp__law_read K) := by
  have G__law_number : FnOk P w K mg base CX0 1 A.a__law_number A.d__law_number ["word"] (sp__law_number K) := ok__law_number T
  refine T.F__law_read.ok sc__law_read (fun vs H Q E h => ?_) (fun cdv A0 outer s H vs Q E hr h => ?_)
  · obtain ⟨t, rfl, hw⟩ := h
    rfl
  · obtain ⟨t, rfl, hw⟩ := h
    refine ⟨_, (pss_cons (ps_if (pt_cmpR op_eq (pv 0) pe_str (nomark _))
      (pss_one (ps_ret (pe_lst pa_nil)))
      pss_nil)
    (pss_cons (ps_par3 (i := 1) (j := 2) (l := 3) rfl sc__law_read.nd rfl rfl rfl (by decide) (by decide) (by decide) rfl rfl rfl (pa_cons (pe_lst pa_nil) (pa_cons pe_str (pa_cons (pv 0) pa_nil))) (by rfl))
    (pss_cons (ps_while PassesOwn.never (pt_cmpR op_ne (pv 3) pe_str (nomark _))
      (pss_one (ps_if (pt_cmpR op_eq (pe_slice sl_str (pv 3) po_none (po_some pe_int)) pe_str (nomark _))
      (pss_cons (ps_expr (HS.kbm K (pe_bm PySem.F.plainAttrs_list PySem.F.slot_list_append PySem.F.type_list_append mt_append (pv 1) (pa_cons (pv 2) pa_nil))))
    (pss_one (ps_par (i := 2) (j := 3) rfl sc__law_read.nd rfl rfl (by decide) rfl rfl (pa_cons pe_str (pa_cons (pe_slice sl_str (pv 3) (po_some pe_int) po_none) pa_nil)) (by rfl))))
      (pss_one (ps_par (i := 2) (j := 3) rfl sc__law_read.nd rfl rfl (by decide) rfl rfl (pa_cons (pe_op op_add_str (pv 2) (pe_ix ix_str (pv 3) pe_int (fun _ _ => rfl))) (pa_cons (pe_slice sl_str (pv 3) (po_some pe_int) po_none) pa_nil)) (by rfl))))))
    (pss_cons (ps_set (i := 4) sc__law_read.nd rfl (.inl rfl) (pe_lst pa_nil))
    (pss_cons (ps_for PassesOwn.never rfl (HS.kil K (pi_list (pe_op op_cat (pv 1) (pe_lst (pa_cons (pv 2) pa_nil))))) (pg_name (i := 5) sc__law_read.nd rfl (.inl rfl))
      (pss_cons (ps_par (i := 6) (j := 7) rfl sc__law_read.nd rfl rfl (by decide) rfl rfl (pa_cons pe_int (pa_cons (pe_call G__law_number hr (by rfl) T.g__law_number T.F__law_number.kp T.b__law_number .nil pass0 (pa_cons (pv 5) pa_nil)) pa_nil)) (by rfl))
    (Evl.pss_cut (ps_if (pt_cmpR op_in_sign pe_str (pv 5) (by rfl))
      (pss_cons (ps_set (i := 8) sc__law_read.nd rfl (.inl rfl) (pe_m1 PySem.F.slot_str_index PySem.F.type_str_index mt_sindex (pv 5) pe_str))
    (pss_cons (ps_par (i := 6) (j := 7) rfl sc__law_read.nd rfl rfl (by decide) rfl rfl (pa_cons (pe_call G__law_number hr (by rfl) T.g__law_number T.F__law_number.kp T.b__law_number .nil pass0 (pa_cons (pe_slice sl_str (pv 5) po_none (po_some (pv 8))) pa_nil)) (pa_cons (pe_call G__law_number hr (by rfl) T.g__law_number T.F__law_number.kp T.b__law_number .nil pass0 (pa_cons (pe_slice sl_str (pv 5) (po_some (pe_op op_add (pv 8) pe_int)) po_none) pa_nil)) pa_nil)) (by rfl))
    (pss_one (ps_if (pt_cmpR op_lt (pv 6) pe_int (nomark _))
      (pss_one (ps_ret pe_non))
      pss_nil))))
      pss_nil)
    (Evl.pss_cut (ps_if (PW.pt (pw_or (pt_cmpR op_lt (pv 7) pe_int (nomark _)) (pw_or1 (PW.pt (pw_and (pt_cmpR (HS.kne K (hu64 hr)) (pv 4) (pe_lst pa_nil) (nomark _)) (pw_and1 (pt_cmpR op_eq (pe_ix (HS.ixl K) (pv 4) (pe_un un_neg pe_int) (fun _ _ => rfl)) (pv 7) (nomark _))))))))
      (pss_one (ps_ret pe_non))
      pss_nil)
    (pss_one (ps_set (i := 4) sc__law_read.nd rfl (.inl rfl) (pe_op op_cat (pv 4) (pe_op op_rep (pe_lst (pa_cons (pv 7) pa_nil)) (pv 6)))))))))
    (pss_one (ps_ret (pv 4)))))))), ?_⟩
    obtain ⟨hl, hc, hm, kN, kQ⟩ := hw
    walk_at "hs"
    refine HS.eqStr ?_
    walk_at "hs"
    refine HS.itd (fun he => ?_) (fun he => ?_)
    · walk_at "hs"
      intro p hp
      exact kQ [] (if_pos he) _ p (.new hp) hp upd_same
    have eR : readR t = (goR (Txt.split t " + ") 0).map spread := if_neg he
    have pl := split_len t
    have pc : ∀ w ∈ Txt.split t " + ", w.length ≤ t.length ∧ ∀ c ∈ TL.tl w, c < 128 := fun w hw => ⟨split_mem hw, fun c h => hc c (split_sub hw c h)⟩
    walk_at "hs"
    intro F hF
    generalize hG_F : upd _ F _ = H1
    have at_F := HS.upgs hG_F
    have Kn_F := HS.upgK hG_F hF
    clear hG_F
    walk_at "hs"
    refine ⟨fun j σ H2 => HS.Keep (fun _ => False) H H2 ∧ ∃ (W : List Str) (w l : Str), j = l.length ∧ σ = [some (.str t), some (.ref F), some (.str w), some (.str l), none, none, none, none, none] ∧ H2 F = some (.lst (W.map V.str)) ∧ W.length + w.length + l.length ≤ t.length ∧ W.map TL.tl ++ TL.spl [32, 43, 32] 0 (TL.tl w) (TL.tl l) = TL.spl [32, 43, 32] 0 [] (TL.tl t), ⟨_, Kn_F, [], Str.ofString "", t, rfl, rfl, at_F, by rw [show (Str.ofString "").length = 0 from rfl, List.length_nil]; omega, by rw [show TL.tl (Str.ofString "") = [] by rw [TL.tl_ofString]; rfl]; rfl⟩, ?_⟩
    rintro j σ H2 ⟨K2, W, w, l, rfl, rfl, hF2, hn, hW⟩
    walk_at "hs"
    refine HS.neStr ?_
    walk_at "hs"
    refine HS.itn (fun hne => ?_) (fun hne => ?_)
    · obtain ⟨c, r, hcr⟩ : ∃ c r, TL.tl l = c :: r := by
        cases h : TL.tl l with
        | nil => exact absurd (TL.ext_tl (by rw [h, TL.tl_ofString]; rfl)) hne
        | cons c r => exact ⟨c, r, rfl⟩
      have ll : l.length = r.length + 1 := by rw [TL.len_tl, hcr]; rfl
      have e3 : TL.tl (L2.cutS l none (some (3 : Int))) = (TL.tl l).take 3 := HS.cutS_to l 3
      refine ⟨fun σ' H' => HS.Keep (fun _ => False) H H' ∧ ∃ (W : List Str) (w l' : Str), l'.length < l.length ∧ σ' = [some (.str t), some (.ref F), some (.str w), some (.str l'), none, none, none, none, none] ∧ H' F = some (.lst (W.map V.str)) ∧ W.length + w.length + l'.length ≤ t.length ∧ W.map TL.tl ++ TL.spl [32, 43, 32] 0 (TL.tl w) (TL.tl l') = TL.spl [32, 43, 32] 0 [] (TL.tl t), fun σ' H' ⟨K', W, w, l', lt, e, h1, h2, h3⟩ => ⟨l'.length, lt, K', W, w, l', rfl, e, h1, h2, h3⟩, ?_⟩
      walk_at "hs"
      refine ⟨l, rfl, HS.szl (by omega), ?_⟩
      walk_at "hs"
      refine HS.eqStr ?_
      walk_at "hs"
      refine HS.itd (fun hs => ?_) (fun hs => ?_)
      · have hs3 : (TL.tl l).take 3 = [32, 43, 32] := by rw [← e3, hs, sep_tl]
        have l3 := congrArg List.length hs3
        rw [List.length_take, ← TL.len_tl] at l3
        have l3' : 3 ≤ l.length := by simp only [List.length_cons, List.length_nil] at l3; omega
        have e4 : TL.tl (L2.cutS l (some (3 : Int)) none) = (TL.tl l).drop 3 := HS.cutS_from l 3
        have e5 : (L2.cutS l (some (3 : Int)) none).length = l.length - 3 := by rw [TL.len_tl, e4, List.length_drop, ← TL.len_tl]
        walk_at "hs"
        refine ⟨l, rfl, HS.szl (by omega), ?_⟩
        walk_at "hs"
        refine ⟨K2.put hF, W ++ [w], Str.ofString "", _, by omega, rfl, by rw [upd_same, List.map_append]; rfl, ?_, ?_⟩
        · rw [List.length_append, e5, show (Str.ofString "").length = 0 from rfl]
          simp only [List.length_cons, List.length_nil]
          omega
        · rw [e4, List.map_append, show TL.tl (Str.ofString "") = [] by rw [TL.tl_ofString]; rfl]
          exact words_hit hs3 hW
      · have hs3 : (c :: r).take 3 ≠ [32, 43, 32] := fun z => hs (TL.ext_tl (by rw [e3, hcr, z, sep_tl]))
        have e4 : TL.tl (L2.cutS l (some (1 : Int)) none) = r := by
          have := HS.cutS_from l 1
          rw [show TL.tl (L2.cutS l (some (1 : Int)) none) = (TL.tl l).drop 1 from this, hcr]; rfl
        have e5 : (L2.cutS l (some (1 : Int)) none).length = r.length := by rw [TL.len_tl, e4]
        have o1 : (⟨#[c]⟩ : PySem.Str).length = 1 := rfl
        walk_at "hs"
        refine ⟨l, 0, c, rfl, rfl, HS.szl (by omega), by rw [show l.cps.toList = c :: r from hcr]; exact HS.atN 0 rfl rfl, ?_⟩
        walk_at "hs"
        refine ⟨w, ⟨#[c]⟩, rfl, rfl, by rw [o1]; exact HS.szl (by omega), ?_⟩
        walk_at "hs"
        refine ⟨l, rfl, HS.szl (by omega), ?_⟩
        walk_at "hs"
        refine ⟨K2, W, _, _, by omega, rfl, hF2, ?_, ?_⟩
        · rw [e5, lenA, o1]; omega
        · rw [e4, TL.tl_append, show TL.tl (⟨#[c]⟩ : Str) = [c] from rfl]
          rw [hcr] at hW
          exact words_miss hs3 hW
    · have el : TL.tl l = [] := by rw [hne, TL.tl_ofString]; rfl
      rw [el] at hW
      have hP := words_end hW
      unfold sumR at hm
      generalize Txt.split t " + " = parts at hP eR pl pc hm
      walk_at "hs"
      intro P0 hP0
      generalize hG_P0 : upd _ P0 _ = H3
      have at_P0 := HS.upgs hG_P0
      have Kn_P0 := HS.upgK hG_P0 hP0
      clear hG_P0
      have hF2 := Kn_P0 _ _ hF2 id
      walk_at "hs"
      intro P1 hP1
      generalize hG_P1 : upd _ P1 _ = H4
      have at_P1 := HS.upgs hG_P1
      have Kn_P1 := HS.upgK hG_P1 hP1
      clear hG_P1
      have hF2 := Kn_P1 _ _ hF2 id
      walk_at "hs"
      intro P2 hP2
      generalize hG_P2 : upd _ P2 _ = H5
      have at_P2 := HS.upgs hG_P2
      have Kn_P2 := HS.upgK hG_P2 hP2
      clear hG_P2
      rw [show W.map V.str ++ [V.str w] = parts.map V.str by rw [← hP, List.map_append]; rfl] at at_P2
      have K5 := K2.trans (Kn_P0.trans (Kn_P1.trans Kn_P2))
      have lenP : (parts.length : Int) ≤ 2000 := by
        have := run_le (f := fun p => cntL (TL.tl p)) (fun p => cnt_nn _) parts 0
        simp only [List.take_zero, List.map_nil, List.sum_nil] at this
        omega
      walk_at "hs"
      refine ⟨⟨_, HS.sq at_P2⟩, for_list (xs := parts.map V.str) (fun i σ H' => HS.Keep (fun _ => False) H5 H' ∧ ∃ (Fd : Addr) (ps : List (Int × Int)) (b : Int) (x5 x6 x7 x8 : Option V), σ = [some (.str t), some (.ref F), some (.str w), some (.str l), some (.ref Fd), x5, x6, x7, x8] ∧ H' Fd = some (.lst ((spread ps).map V.int)) ∧ H Fd = none ∧ (goR (parts.drop i) b).map (fun r => ps ++ r) = goR parts 0 ∧ ((spread ps = [] ∧ b = 0) ∨ ∃ ys, spread ps = ys ++ [b]) ∧ ((spread ps).length : Int) ≤ ((parts.take i).map fun p => cntL (TL.tl p)).sum + i) ⟨.refl, P0, [], 0, _, _, _, _, rfl, (Kn_P1.trans Kn_P2) _ _ at_P0 id, K2.free hP0 id, by rw [List.drop_zero]; cases goR parts 0 <;> rfl, .inl ⟨rfl, rfl⟩, by simp [spread]⟩ (fun i σ H' _ ⟨K', _⟩ => HS.sq (K' _ _ at_P2 id)) ?_ ?_⟩
      · rintro i x σ H6 hi ⟨K6, Fd, ps, b, x5, x6, x7, x8, rfl, hFd, hFn, hgo, hlast, hlen⟩
        obtain ⟨q, rfl, hq⟩ : ∃ q, x = .str q ∧ parts[i]? = some q := by
          rw [List.getElem?_map] at hi
          cases e : parts[i]? with
          | none => rw [e] at hi; cases hi
          | some q => rw [e] at hi; exact ⟨q, (Option.some.inj hi).symm, rfl⟩
        have hil := (List.getElem?_eq_some_iff.mp hq).1
        have ed : parts.drop i = q :: parts.drop (i + 1) := by rw [List.drop_eq_getElem_cons hil]; congr 1; rw [List.getElem?_eq_getElem hil] at hq; exact Option.some.inj hq
        obtain ⟨ql, qc⟩ := pc q (List.mem_of_getElem? hq)
        have rs := run_succ (f := fun p => cntL (TL.tl p)) hq
        have rl := run_le (f := fun p => cntL (TL.tl p)) (fun p => cnt_nn _) parts (i + 1)
        have r0 := run_le (f := fun p => cntL (TL.tl p)) (fun p => cnt_nn _) parts i
        have cc := chR_cnt q
        have cn := chR_nn q
        have KH6 := K5.trans K6
        rw [ed, goR] at hgo
        have bad : ((chR q).1 = 0 ∨ (chR q).2 = 0 ∨ (chR q).2 = b) → readR t = none := fun h => by
          rw [if_pos h] at hgo
          rw [eR, ← hgo]; rfl
        walk_at "hs"
        refine ⟨q, rfl, by omega, qc, fun H7 K7 => ?_⟩
        have KH7 := KH6.trans K7
        have hFd7 := K7 _ _ hFd id
        walk_at "hs"
        refine HS.cut (fun σ' H' => HS.Keep (fun _ => False) H7 H' ∧ 1 ≤ (chR q).1 ∧ ∃ x8', σ' = [some (.str t), some (.ref F), some (.str w), some (.str l), some (.ref Fd), some (.str q), some (.int (chR q).1), some (.int (chR q).2), x8']) ?_ ?_
        · walk_at "hs"
          refine ⟨120, q, by rw [x_eq], rfl, ?_⟩
          walk_at "hs"
          refine HS.itd (fun hx => ?_) (fun hx => ?_)
          · obtain ⟨a, b', hx⟩ := xat_of hx
            have xl := hx.len
            obtain ⟨ac, bc⟩ := hx.sub qc
            obtain ⟨rest, hrest⟩ := index_x hx
            walk_at "hs"
            refine ⟨q, _, _, _, rfl, rfl, hrest, ?_⟩
            walk_at "hs"
            refine ⟨q, rfl, HS.szl (by omega), ?_⟩
            rw [cut_a hx]
            walk_at "hs"
            refine ⟨a, rfl, by omega, ac, fun H8 K8 => ?_⟩
            walk_at "hs"
            refine ⟨q, rfl, HS.szl (by omega), ?_⟩
            rw [cut_b hx]
            walk_at "hs"
            refine ⟨b', rfl, by omega, bc, fun H9 K9 => ?_⟩
            have cx := chR_x hx
            have na := numR_nn a
            walk_at "hs"
            refine HS.itd (fun h2 => ?_) (fun h2 => ?_)
            · walk_at "hs"
              refine kN (bad (.inl ?_)) _ (KH7.trans (K8.trans K9))
              rw [cx]
              split
              · rfl
              · show numR a = 0
                omega
            · walk_at "hs"
              rw [if_neg (by omega)] at cx
              rw [cx]
              exact ⟨K8.trans K9, by show 1 ≤ numR a; omega, _, rfl⟩
          · walk_at "hs"
            rw [chR_no hx]
            exact ⟨.refl, Int.le_refl 1, _, rfl⟩
        · rintro σ' H8 ⟨K8, c0, x8', rfl⟩
          have KH8 := KH7.trans K8
          have hFd8 := K8 _ _ hFd7 id
          generalize chR q = cw at hgo bad cc cn c0 ⊢
          refine HS.cut (fun σ' H' => HS.Keep (fun _ => False) H8 H' ∧ σ' = [some (.str t), some (.ref F), some (.str w), some (.str l), some (.ref Fd), some (.str q), some (.int cw.1), some (.int cw.2), x8'] ∧ 1 ≤ cw.2 ∧ cw.2 ≠ b) ?_ ?_
          · walk_at "hs"
            refine HS.itd (fun h1 => ?_) (fun h1 => ?_)
            · walk_at "hs"
              exact kN (bad (.inr (.inl (by omega)))) _ KH8
            · walk_at "hs"
              intro e0 he0
              have hFd9 := (HS.Keep.new (S := fun _ => False) (o := .lst []) he0) _ _ hFd8 id
              have Ke := HS.Keep.new (S := fun _ => False) (o := .lst []) he0
              refine HS.neL (ys := []) (HS.sq hFd9) (HS.sq upd_same) ?_
              walk_at "hs"
              refine HS.itn (fun hn => ?_) (fun hn => ?_)
              · rcases hlast with ⟨h0, _⟩ | ⟨ys, hys⟩
                · exact absurd h0 hn
                walk_at "hs"
                refine ⟨Fd, _, -1, _, rfl, rfl, HS.sq hFd9, HS.atLst (ys := ys.map V.int) (by rw [hys, List.map_append]; rfl), ?_⟩
                walk_at "hs"
                refine HS.itd (fun h3 => ?_) (fun h3 => ?_)
                · walk_at "hs"
                  exact kN (bad (.inr (.inr (by omega)))) _ (KH8.trans Ke)
                · walk_at "hs"
                  exact ⟨Ke, rfl, by omega, fun z => h3 (by omega)⟩
              · rcases hlast with ⟨_, h0⟩ | ⟨ys, hys⟩
                · walk_at "hs"
                  exact ⟨Ke, rfl, by omega, by omega⟩
                · rw [hn] at hys
                  exact absurd hys (by simp)
          · rintro σ' H9 ⟨K9, rfl, c1, c2⟩
            have hFd9 := K9 _ _ hFd8 id
            have KH9 := KH8.trans K9
            walk_at "hs"
            intro u hu
            generalize hG_u : upd _ u _ = H10
            have at_u := HS.upgs hG_u
            have Kn_u := HS.upgK hG_u hu
            clear hG_u
            have hFd9 := Kn_u _ _ hFd9 id
            walk_at "hs"
            refine HS.rep1 at_u (by omega) (by omega) ?_
            intro v hv
            generalize hG_v : upd _ v _ = H11
            have at_v := HS.upgs hG_v
            have Kn_v := HS.upgK hG_v hv
            clear hG_v
            have hFd9 := Kn_v _ _ hFd9 id
            have K11 := K6.trans (K7.trans (K8.trans (K9.trans (Kn_u.trans Kn_v))))
            walk_at "hs"
            intro z hz
            walk_at "hs"
            refine ⟨K11.nw hz, z, ps ++ [cw], cw.2, _, _, _, _, rfl, ?_, (K5.trans K11).free hz id, ?_, .inr ?_, ?_⟩
            · rw [upd_same, spread_app, List.map_append, show spread [cw] = List.replicate cw.1.toNat cw.2 by simp [spread], List.map_replicate]
            · rw [if_neg (by omega)] at hgo
              rw [← hgo]
              cases goR (parts.drop (i + 1)) cw.2 with
              | none => rfl
              | some r => show some (ps ++ [cw] ++ r) = some (ps ++ cw :: r); rw [List.append_assoc]; rfl
            · obtain ⟨m, hm1⟩ : ∃ m : Nat, cw.1.toNat = m + 1 := ⟨cw.1.toNat - 1, by omega⟩
              exact ⟨spread ps ++ List.replicate m cw.2, by rw [spread_app, show spread [cw] = List.replicate cw.1.toNat cw.2 by simp [spread], hm1, List.replicate_succ', List.append_assoc]⟩
            · rw [spread_app, List.length_append, show spread [cw] = List.replicate cw.1.toNat cw.2 by simp [spread], List.length_replicate, rs]
              push_cast; omega
      · rintro σ H6 ⟨K6, Fd, ps, b, x5, x6, x7, x8, rfl, hFd, hFn, hgo, hlast, hlen⟩
        rw [List.length_map, List.drop_length, goR] at hgo
        have hgo' : goR parts 0 = some ps := by rw [← hgo]; show some (ps ++ []) = some ps; rw [List.append_nil]
        walk_at "hs"
        refine kQ (spread ps) (by rw [eR, hgo']; rfl) _ Fd (K5.trans K6) hFn hFd
def sp__law_told (K : PySem.W.Frag) (A : Ad) : Sp := fun vs H Q _ => ∃ (t : Str), vs = [.str t] ∧ (t.length ≤ 15000 ∧ sumR t ≤ 2000 ∧ (readR t = none → ∀ H' p, HS.Keep (fun _ => False) H H' → H p = none → H' p = some (.tup [.str "Unreadable", .str t, .bl true]) → Q (.ref p) H') ∧
  (∀ ls, readR t = some ls → ∀ H' p, HS.Keep (fun _ => False) H H' → H p = none → H' p = some (.lst (ls.map V.int)) → Q (.ref p) H'))
theorem ok__law_told (T : Txt K mg A) : FnOk P w K mg base CX0 4 A.a__law_told A.d__law_told ["note"] (sp__law_told K A) := by
  have G_read_book : FnOk P w K mg base (L2N.CX P w) 3 A.a_read_book A.d_read_book ["text"] (sp_read_book K A) := ok_read_book T
  have G__law_error : HS.FnE P w K mg base 1 A.a__law_error A.d__law_error ["e"] (sp__law_error K A) := ok__law_error T
  refine T.F__law_told.ok sc__law_told (fun vs H Q E h => ?_) (fun cdv A0 outer s H vs Q E hr h => ?_)
  · obtain ⟨t, rfl, hw⟩ := h
    rfl
  · obtain ⟨t, rfl, hw⟩ := h
    refine ⟨_, (pss_cons (ps_asg (pe_tup (pa_cons pe_non (pa_cons pe_non pa_nil))) (HS.kgt K (pg_tup rfl (pgs_cons (pg_name (i := 1) sc__law_told.nd rfl (.inl rfl)) (pgs_cons (pg_name (i := 2) sc__law_told.nd rfl (.inl rfl)) pgs_nil)))))
    (pss_cons (L2N.ps_try_as (i := 3) rfl rfl sc__law_told.nd rfl rfl ⟨rfl, by decide, Or.inl T.m_BookError⟩ HS.takesN0
      (fun W pn xe tk po => (pss_one (ps_set (i := 2) sc__law_told.nd rfl (.inl rfl) (pe_callS G_read_book hr (by rfl) T.g_read_book T.F_read_book.kp T.b_read_book (fun σ => HS.passAtN tk σ) (pa_cons (pv 0) pa_nil)))))
      (fun a oe cls d pn hz hf => (pss_one (ps_set (i := 1) sc__law_told.nd rfl (.inl rfl) (HS.pe_callE G__law_error ⟨(show L2.Room 1 _ from (hr.mono (by decide))).dp, (show L2.Room 1 _ from (hr.mono (by decide))).un⟩ rfl hz hf List.mem_cons_self (by rfl) T.g__law_error T.F__law_error.kp T.b__law_error (pa_cons (pv 3) pa_nil))))))
    (pss_one (ps_ret (pe_ifExp (pt_cmpR op_isN (pv 1) pe_non (nomark _)) (pv 2) (pe_callTy (HS.ktup K) (by rfl) T.z_tuple (by decide +kernel) (pa_cons (pv 1) pa_nil))))))), ?_⟩
    obtain ⟨hl, hm, kE, kQ⟩ := hw
    walk_at "hs"
    intro p0 hp0
    generalize hG_p0 : upd _ p0 _ = H0
    have at_p0 := HS.upgs hG_p0
    have Kn_p0 := HS.upgK hG_p0 hp0
    clear hG_p0
    walk_at "hs"
    refine ⟨t, rfl, by omega, fun ps hps => ?_, fun hn H1 d K1 hd e => ?_, fun ls hls H1 p K1 hp1 hp => ?_⟩
    · obtain ⟨a, b⟩ := sum_ok hm hps
      exact ⟨by omega, fun p hp => by have := b p hp; omega⟩
    · refine ⟨true, T.e_Unreadable_BookError, fun _ a ha => ?_, fun z => by cases z⟩
      walk_at "hs"
      refine HS.ocle ?_
      walk_at "hs"
      refine ⟨A.c_Unreadable, d, _, "Unreadable", .str t, _, _, _, _, _, _, _, rfl, rfl, rfl, e, ⟨T.V_Unreadable, T.X_Unreadable, T.n_Unreadable, T.q_Unreadable_InvalidBook, T.q_Unreadable_InvalidSize, T.q_Unreadable_InvalidTable, T.q_Unreadable_InvalidChain, T.q_Unreadable_InvalidNumber, T.q_Unreadable_NothingToUndo, T.q_Unreadable_Unreadable, T.q_Unreadable_BookError, T.q_Unreadable_ValueError⟩, rfl, rfl, fun H3 p K3 hp0 hp => ?_⟩
      walk_at "hs"
      refine ⟨rfl, ?_⟩
      walk_at "hs"
      refine HS.it0 (fun z => nomatch z) ?_
      walk_at "hs"
      refine HS.tupL (HS.sq hp) fun q hq => ?_
      have KA := Kn_p0.trans (K1.trans K3)
      exact kE hn _ q (KA.nw hq) (KA.free hq id) upd_same
    · walk_at "hs"
      refine ⟨rfl, ?_⟩
      walk_at "hs"
      refine HS.it1 rfl ?_
      walk_at "hs"
      exact kQ ls hls _ p (Kn_p0.trans K1) (Kn_p0.free hp1 id) hp
def sp_show_chapters (K : PySem.W.Frag) : Sp := fun vs H Q _ => ∃ (m z : Int), vs = [.int m, .int z] ∧ (1 ≤ m ∧ m < 2 ^ 200 ∧ 0 ≤ z ∧ z < 2 ^ 200 ∧ Q (.str (partS m z)) H)
theorem ok_show_chapters (T : Txt K mg A) : FnOk P w K mg base CX0 1 A.a_show_chapters A.d_show_chapters ["many", "length"] (sp_show_chapters K) := by
  refine T.F_show_chapters.ok sc_show_chapters (fun vs H Q E h => ?_) (fun cdv A0 outer s H vs Q E hr h => ?_)
  · obtain ⟨m, z, rfl, hw⟩ := h
    rfl
  · obtain ⟨m, z, rfl, hw⟩ := h
    refine ⟨_, (pss_cons (ps_if (pt_cmpR op_eq (pv 0) pe_int (nomark _))
      (pss_one (ps_ret (pe_callTy call_str_int (by rfl) T.z_str (by decide +kernel) (pa_cons (pv 1) pa_nil))))
      pss_nil)
    (pss_one (ps_ret (pe_joined (PJ.cons (pe_fmt (pv 0)) (PJ.cons pe_str (PJ.cons (pe_fmt (pv 1)) PJ.nil))))))), ?_⟩
    obtain ⟨h1, h2, h3, h4, k⟩ := hw
    have lm := numS_len (by omega) h2
    have lz := numS_len h3 h4
    walk_at "hs"
    refine HS.itd (fun e => ?_) (fun e => ?_)
    · walk_at "hs"
      refine ⟨HS.lg (by omega), ?_⟩
      rw [show partS m z = numS z from if_pos e] at k
      exact k
    · walk_at "hs"
      refine .inr ⟨m, rfl, HS.lg (by omega), ?_⟩
      refine ⟨numS m, rfl, by rw [emp_app]; exact HS.szl (by omega), ?_⟩
      rw [emp_app]
      walk_at "hs"
      refine ⟨_, rfl, by rw [lenA, x_len]; exact HS.szl (by omega), ?_⟩
      walk_at "hs"
      refine .inr ⟨z, rfl, HS.lg (by omega), ?_⟩
      refine ⟨numS z, rfl, by rw [lenA, lenA, x_len]; exact HS.szl (by omega), ?_⟩
      walk_at "hs"
      rw [show partS m z = numS m ++ "x" ++ numS z from if_neg e] at k
      exact k
def sp_show_book (K : PySem.W.Frag) : Sp := fun vs H Q _ => ∃ (b : Addr) (ls : List Int), vs = [.ref b] ∧ (SqL K H b (ls.map V.int) ∧ ls.length ≤ 99999 ∧ (∀ x ∈ ls, 0 ≤ x ∧ x < 2 ^ 200) ∧ ∀ H', HS.Keep (fun _ => False) H H' → Q (.str (textOf ls)) H')
theorem ok_show_book (T : Txt K mg A) : FnOk P w K mg base CX0 2 A.a_show_book A.d_show_book ["book"] (sp_show_book K) := by
  have G_show_chapters : FnOk P w K mg base CX0 1 A.a_show_chapters A.d_show_chapters ["many", "length"] (sp_show_chapters K) := ok_show_chapters T
  refine T.F_show_book.ok sc_show_book (fun vs H Q E h => ?_) (fun cdv A0 outer s H vs Q E hr h => ?_)
  · obtain ⟨b, ls, rfl, hw⟩ := h
    rfl
  · obtain ⟨b, ls, rfl, hw⟩ := h
    refine ⟨_, (pss_cons (ps_if (pt_not (pt_truth (pv 0) (by intro _; rfl)))
      (pss_one (ps_ret pe_str))
      pss_nil)
    (pss_cons (ps_set (i := 1) sc_show_book.nd rfl (.inl rfl) (pe_lst pa_nil))
    (pss_cons (ps_set (i := 2) sc_show_book.nd rfl (.inl rfl) pe_int)
    (pss_cons (ps_for PassesOwn.never rfl (HS.kien K (pi_enum (by rfl) T.z_enumerate (pa_cons (pv 0) pa_nil))) (HS.kgt K (pg_tup rfl (pgs_cons (pg_name (i := 3) sc_show_book.nd rfl (.inl rfl)) (pgs_cons (pg_name (i := 4) sc_show_book.nd rfl (.inl rfl)) pgs_nil))))
      (pss_cons (ps_set (i := 2) sc_show_book.nd rfl (.inl rfl) (pe_op op_add (pv 2) pe_int))
    (pss_one (ps_if (PW.pt (pw_or (pt_cmpR op_eq (pe_op op_add (pv 3) pe_int) (pe_callB (HS.klen K) (by rfl) T.z_len PySem.boot_len (pa_cons (pv 0) pa_nil)) (nomark _)) (pw_or1 (pt_cmpR op_ne (pe_ix (HS.ixl K) (pv 0) (pe_op op_add (pv 3) pe_int) (fun _ _ => rfl)) (pv 4) (nomark _)))))
      (pss_cons (ps_expr (HS.kbm K (pe_bm PySem.F.plainAttrs_list PySem.F.slot_list_append PySem.F.type_list_append mt_append (pv 1) (pa_cons (pe_call G_show_chapters hr (by rfl) T.g_show_chapters T.F_show_chapters.kp T.b_show_chapters .nil pass0 (pa_cons (pv 2) (pa_cons (pv 4) pa_nil))) pa_nil))))
    (pss_one (ps_set (i := 2) sc_show_book.nd rfl (.inl rfl) pe_int)))
      pss_nil))))
    (pss_one (ps_ret (pe_join pe_str (pv 1)))))))), ?_⟩
    obtain ⟨hb, hl, hB, k⟩ := hw
    walk_at "hs"
    refine ⟨_, .inl ⟨_, hb, rfl⟩, ?_⟩
    by_cases e0 : ls = []
    · subst e0
      refine HS.ifT (by rfl) ?_
      walk_at "hs"
      exact k _ .refl
    refine HS.ifF (by cases ls with | nil => exact absurd rfl e0 | cons x r => rfl) ?_
    walk_at "hs"
    intro P hP
    have K0 : HS.Keep (fun _ => False) H (upd H P (.lst [])) := .new hP
    walk_at "hs"
    refine ⟨b, ls.map V.int, rfl, K0.sq hb id, for_it walk_enum (fun i σ H' => HS.Keep (fun _ => False) H H' ∧ ∃ (m : Nat) (ps : List (Int × Int)) (x3 x4 : Option V), σ = [some (.ref b), some (.ref P), some (.int m), x3, x4] ∧ H' P = some (.lst ((ps.map fun p => partS p.1 p.2).map V.str)) ∧ ps ++ runs m (ls.drop i) = runs 0 ls ∧ m ≤ i) ⟨K0, 0, [], _, _, rfl, upd_same, rfl, Nat.le_refl _⟩ (fun i σ H' _ ⟨K', _⟩ => K'.sq hb id) ?_ ?_⟩
    · rintro i x σ H1 H2 hi ⟨K1, m, ps, x3, x4, rfl, hP1, hR, hm⟩ ⟨T1, u, v, rfl, hT, rfl, e1, e2⟩
      cases e1
      obtain ⟨z, rfl, hz, hil⟩ := HS.get_int e2
      have ed : ls.drop i = z :: ls.drop (i + 1) := by rw [List.drop_eq_getElem_cons hil]; congr 1; rw [List.getElem?_eq_getElem hil] at hz; exact Option.some.inj hz
      have hzB := hB z (List.mem_of_getElem? hz)
      have psl : ps.length ≤ 99999 := by
        have := congrArg List.length hR
        rw [List.length_append] at this
        have := runs_len ls 0
        omega
      have KT : HS.Keep (fun _ => False) H1 (upd H1 T1 (.tup [.int (i : Nat), .int z])) := .new hT
      have hP2 := KT _ _ hP1 id
      have hT2 := upd_same (H := H1) (a := T1) (o := .tup [.int (i : Nat), .int z])
      rw [ed, runs] at hR
      have eh : (ls.drop (i + 1)).head? = ls[i + 1]? := by rw [List.head?_drop]
      rw [eh] at hR
      have K2 := K1.trans KT
      generalize upd H1 T1 (.tup [.int (i : Nat), .int z]) = H2 at KT hP2 hT2 K2 ⊢
      have close : ls[i + 1]? ≠ some z → ps ++ [((m : Int) + 1, z)] ++ runs 0 (ls.drop (i + 1)) = runs 0 ls := fun h => by
        rw [if_neg h] at hR
        rw [← hR, List.append_assoc]; rfl
      have next : ls[i + 1]? = some z → ps ++ runs (m + 1) (ls.drop (i + 1)) = runs 0 ls := fun h => by
        rw [if_pos h] at hR
        exact hR
      have hb2 := K2.sq hb id
      walk_at "hs"
      rw [List.length_map]
      refine HS.itd (fun h => ?_) (fun h => ?_)
      · walk_at "hs"
        refine ⟨(m : Int) + 1, z, rfl, by omega, by omega, by omega, by omega, ?_⟩
        walk_at "hs"
        refine ⟨K2.put hP, 0, ps ++ [((m : Int) + 1, z)], _, _, rfl, ?_, ?_, Nat.zero_le _⟩
        · rw [upd_same, List.map_append, List.map_append]; rfl
        · exact close (by rw [List.getElem?_eq_none (by omega)]; simp)
      · walk_at "hs"
        obtain ⟨y, hy⟩ : ∃ y, ls[i + 1]? = some y := ⟨_, List.getElem?_eq_getElem (by omega)⟩
        refine HS.ixZ (K2.sq hb id) (by omega) (by rw [show ((i : Int) + 1).toNat = i + 1 by omega]; exact hy) ?_
        walk_at "hs"
        refine HS.itn (fun h2 => ?_) (fun h2 => ?_)
        · walk_at "hs"
          refine ⟨(m : Int) + 1, z, rfl, by omega, by omega, by omega, by omega, ?_⟩
          walk_at "hs"
          refine ⟨K2.put hP, 0, ps ++ [((m : Int) + 1, z)], _, _, rfl, ?_, ?_, Nat.zero_le _⟩
          · rw [upd_same, List.map_append, List.map_append]; rfl
          · exact close (by rw [hy]; intro q; exact h2 (Option.some.inj q))
        · walk_at "hs"
          exact ⟨K2, m + 1, ps, _, _, by push_cast; rfl, hP2, next (by rw [hy, h2]), by omega⟩
    · rintro σ H1 ⟨K1, m, ps, x3, x4, rfl, hP1, hR, hm⟩
      rw [List.length_map, List.drop_length, runs, List.append_nil] at hR
      subst hR
      walk_at "hs"
      refine ⟨_, P, partsOf ls, rfl, rfl, .inl (HS.sq hP1), parts_bound hB hl, ?_⟩
      rw [show textOf ls = Txt.join " + " (partsOf ls) from if_neg e0] at k
      exact k _ K1
def sp_check_book (K : PySem.W.Frag) : Sp := fun vs H Q _ => ∃ (b : Addr) (ls : List Int), vs = [.ref b] ∧ (SqL K H b (ls.map V.int) ∧ (∀ x ∈ ls, 1 ≤ x) ∧ ∀ H', HS.Keep (fun _ => False) H H' → Q .non H')
theorem ok_check_book (T : Txt K mg A) : FnOk P w K mg base CX0 1 A.a_check_book A.d_check_book ["book"] (sp_check_book K) := by
  refine T.F_check_book.ok sc_check_book (fun vs H Q E h => ?_) (fun cdv A0 outer s H vs Q E hr h => ?_)
  · obtain ⟨b, ls, rfl, hw⟩ := h
    rfl
  · obtain ⟨b, ls, rfl, hw⟩ := h
    refine ⟨_, (pss_one (ps_for PassesOwn.never rfl (HS.kien K (pi_enum (by rfl) T.z_enumerate (pa_cons (pv 0) pa_nil))) (HS.kgt K (pg_tup rfl (pgs_cons (pg_name (i := 1) sc_check_book.nd rfl (.inl rfl)) (pgs_cons (pg_name (i := 2) sc_check_book.nd rfl (.inl rfl)) pgs_nil))))
      (pss_one (ps_if (pt_cmpR op_lt (pv 2) pe_int (nomark _))
      (pss_one ps_never)
      pss_nil)))), ?_⟩
    obtain ⟨hb, hl, k⟩ := hw
    walk_at "hs"
    refine ⟨b, ls.map V.int, rfl, hb, for_it walk_enum (fun i σ H' => HS.Keep (fun _ => False) H H' ∧ ∃ x1 x2, σ = [some (.ref b), x1, x2]) ⟨.refl, _, _, rfl⟩ (fun i σ H' _ ⟨K', _⟩ => K'.sq hb id) ?_ ?_⟩
    · rintro i x σ H1 H2 hi ⟨K1, x1, x2, rfl⟩ ⟨T1, u, v, rfl, hT, rfl, e1, e2⟩
      cases e1
      obtain ⟨z, rfl, hz, _⟩ := HS.get_int e2
      have hz1 := hl z (List.mem_of_getElem? hz)
      walk_at "hs"
      refine HS.it0 (by omega) ?_
      walk_at "hs"
      exact ⟨K1.put (K1.free hT id), _, _, rfl⟩
    · rintro σ H1 ⟨K1, x1, x2, rfl⟩
      walk_at "hs"
      exact k _ K1
def sp_check_size (K : PySem.W.Frag) : Sp := fun vs H Q _ => ∃ (j : Int), vs = [.int j] ∧ (1 ≤ j ∧ Q .non H)
theorem ok_check_size (T : Txt K mg A) : FnOk P w K mg base CX0 1 A.a_check_size A.d_check_size ["size"] (sp_check_size K) := by
  refine T.F_check_size.ok sc_check_size (fun vs H Q E h => ?_) (fun cdv A0 outer s H vs Q E hr h => ?_)
  · obtain ⟨j, rfl, hw⟩ := h
    rfl
  · obtain ⟨j, rfl, hw⟩ := h
    refine ⟨_, (pss_one (ps_if (pt_cmpR op_lt (pv 0) pe_int (nomark _))
      (pss_one ps_never)
      pss_nil)), ?_⟩
    obtain ⟨h, k⟩ := hw
    walk_at "hs"
    refine HS.it0 (by omega) ?_
    walk_at "hs"
    exact k
def sp_count_pages (K : PySem.W.Frag) : Sp := fun vs H Q _ => ∃ (b : Addr) (ls : List Int) (j : Int), vs = [.ref b, .int j] ∧ (SqL K H b (ls.map V.int) ∧ ls.length ≤ 50000 ∧ 1 ≤ j ∧ j < 2 ^ 200 ∧ ∀ H', HS.Keep (fun _ => False) H H' → Q (.int (pcount ls j)) H')
theorem ok_count_pages (T : Txt K mg A) : FnOk P w K mg base CX0 2 A.a_count_pages A.d_count_pages ["book", "size"] (sp_count_pages K) := by
  refine T.F_count_pages.ok sc_count_pages (fun vs H Q E h => ?_) (fun cdv A0 outer s H vs Q E hr h => ?_)
  · obtain ⟨b, ls, j, rfl, hw⟩ := h
    rfl
  · obtain ⟨b, ls, j, rfl, hw⟩ := h
    refine ⟨_, (pss_one (ps_ret (pe_op op_add (pe_callB (HS.klen K) (by rfl) T.z_len PySem.boot_len (pa_cons (pv 0) pa_nil)) (pe_callB (HS.ksum K rfl) (by rfl) T.z_sum (by decide +kernel) (pa_cons (pe_lc (own := [("length", 2)]) (g := gName 2) (tt := tYes) rfl sc_count_pages.nd (HS.kil K (pi_list (pv 0))) (blkOk_by (own := [("length", 2)]) (N := N_count_pages) (sc := defScope s_count_pages) (by decide +kernel)) (fun _ _ _ _ _ => pg_name (i := 2) sc_count_pages.nd rfl (by first | exact .inl rfl | exact .inr rfl)) (fun _ _ _ _ _ => pts_nil) (fun _ _ _ _ _ => (pe_op op_fdivW (pe_op op_sub (pv 2) pe_int) (pv 1)))) pa_nil))))), ?_⟩
    obtain ⟨hb, hl, h1, h2, k⟩ := hw
    walk_at "hs"
    rw [List.length_map]
    refine ⟨⟨_, hb⟩, fun D hD => lc_list (xs := ls.map V.int) (fun i H' => HS.Keep (fun _ => False) H H' ∧ H' D = some (.lst (((ls.take i).map fun x => (x - 1) / j).map V.int))) ⟨.new hD, upd_same⟩ (fun i H' _ ⟨K', _⟩ => K'.sq hb id) ?_ ?_⟩
    · rintro i x H1 hi ⟨K1, h3⟩
      obtain ⟨z, rfl, hz, hil⟩ := HS.get_int hi
      walk_at "hs"
      refine ⟨HS.divW 200 (by omega) h2 (by decide) (by decide), ?_⟩
      refine ⟨_, h3, HS.sz (by simp; omega), K1.put hD, ?_⟩
      rw [upd_same, List.take_add_one, hz, List.map_append, List.map_append]
      rfl
    · rintro H1 ⟨K1, h3⟩
      rw [List.length_map, List.take_length] at h3
      walk_at "hs"
      rw [pcount_less1 h1]
      exact k _ K1
def sp_pages (K : PySem.W.Frag) : Sp := fun vs H Q _ => ∃ (b : Addr) (ls : List Int) (j : Int), vs = [.ref b, .int j] ∧ (SqL K H b (ls.map V.int) ∧ (∀ x ∈ ls, 1 ≤ x) ∧ ls.length ≤ 50000 ∧ 1 ≤ j ∧ j < 2 ^ 200 ∧ ∀ H', HS.Keep (fun _ => False) H H' → Q (.int (pcount ls j)) H')
theorem ok_pages (T : Txt K mg A) : FnOk P w K mg base CX0 3 A.a_pages A.d_pages ["book", "size"] (sp_pages K) := by
  have G_check_book : FnOk P w K mg base CX0 1 A.a_check_book A.d_check_book ["book"] (sp_check_book K) := ok_check_book T
  have G_check_size : FnOk P w K mg base CX0 1 A.a_check_size A.d_check_size ["size"] (sp_check_size K) := ok_check_size T
  have G_count_pages : FnOk P w K mg base CX0 2 A.a_count_pages A.d_count_pages ["book", "size"] (sp_count_pages K) := ok_count_pages T
  refine T.F_pages.ok sc_pages (fun vs H Q E h => ?_) (fun cdv A0 outer s H vs Q E hr h => ?_)
  · obtain ⟨b, ls, j, rfl, hw⟩ := h
    rfl
  · obtain ⟨b, ls, j, rfl, hw⟩ := h
    refine ⟨_, (pss_cons (ps_expr (pe_call G_check_book (hr.mono (by decide)) (by rfl) T.g_check_book T.F_check_book.kp T.b_check_book .nil pass0 (pa_cons (pv 0) pa_nil)))
    (pss_cons (ps_expr (pe_call G_check_size (hr.mono (by decide)) (by rfl) T.g_check_size T.F_check_size.kp T.b_check_size .nil pass0 (pa_cons (pv 1) pa_nil)))
    (pss_one (ps_ret (pe_call G_count_pages hr (by rfl) T.g_count_pages T.F_count_pages.kp T.b_count_pages .nil pass0 (pa_cons (pv 0) (pa_cons (pv 1) pa_nil))))))), ?_⟩
    obtain ⟨hb, hp, hl, h1, h2, k⟩ := hw
    walk_at "hs"
    refine ⟨b, ls, rfl, hb, hp, fun H1 K1 => ?_⟩
    walk_at "hs"
    refine ⟨j, rfl, h1, ?_⟩
    walk_at "hs"
    refine ⟨b, ls, j, rfl, K1.sq hb id, hl, h1, h2, fun H2 K2 => k _ (K1.trans K2)⟩
def sp__law_total (K : PySem.W.Frag) : Sp := fun vs H Q _ => ∃ (b : Addr) (ls : List Int) (j : Int), vs = [.ref b, .int j] ∧ (SqL K H b (ls.map V.int) ∧ ls.length ≤ 50000 ∧ 1 ≤ j ∧ j < 2 ^ 200 ∧ ∀ H', HS.Keep (fun _ => False) H H' → Q (.int (pcount ls j)) H')
theorem ok__law_total (T : Txt K mg A) : FnOk P w K mg base CX0 1 A.a__law_total A.d__law_total ["lengths", "wide"] (sp__law_total K) := by
  refine T.F__law_total.ok sc__law_total (fun vs H Q E h => ?_) (fun cdv A0 outer s H vs Q E hr h => ?_)
  · obtain ⟨b, ls, j, rfl, hw⟩ := h
    rfl
  · obtain ⟨b, ls, j, rfl, hw⟩ := h
    refine ⟨_, (pss_one (ps_ret (pe_callB (HS.ksum K rfl) (by rfl) T.z_sum (by decide +kernel) (pa_cons (pe_lc (own := [("long", 2)]) (g := gName 2) (tt := tYes) rfl sc__law_total.nd (HS.kil K (pi_list (pv 0))) (blkOk_by (own := [("long", 2)]) (N := N__law_total) (sc := defScope s__law_total) (by decide +kernel)) (fun _ _ _ _ _ => pg_name (i := 2) sc__law_total.nd rfl (by first | exact .inl rfl | exact .inr rfl)) (fun _ _ _ _ _ => pts_nil) (fun _ _ _ _ _ => (pe_op op_add (pe_op op_fdivW (pe_op op_sub (pv 2) pe_int) (pv 1)) pe_int))) pa_nil)))), ?_⟩
    obtain ⟨hb, hl, h1, h2, k⟩ := hw
    walk_at "hs"
    refine ⟨⟨_, hb⟩, fun D hD => lc_list (xs := ls.map V.int) (fun i H' => HS.Keep (fun _ => False) H H' ∧ H' D = some (.lst (((ls.take i).map fun x => (x - 1) / j + 1).map V.int))) ⟨.new hD, upd_same⟩ (fun i H' _ ⟨K', _⟩ => K'.sq hb id) ?_ ?_⟩
    · rintro i x H1 hi ⟨K1, h3⟩
      obtain ⟨z, rfl, hz, hil⟩ := HS.get_int hi
      walk_at "hs"
      refine ⟨HS.divW 200 (by omega) h2 (by decide) (by decide), ?_⟩
      walk_at "hs"
      refine ⟨_, h3, HS.sz (by simp; omega), K1.put hD, ?_⟩
      rw [upd_same, List.take_add_one, hz, List.map_append, List.map_append]
      rfl
    · rintro H1 ⟨K1, h3⟩
      rw [List.length_map, List.take_length] at h3
      walk_at "hs"
      rw [total_eq h1]
      exact k _ K1
def sp__law_long (K : PySem.W.Frag) : Sp := fun vs H Q _ => ∃ (s d : Addr) (n : Nat), vs = [.ref s] ∧ (Src H s d n ∧ n < 2 ^ 38 ∧ ∀ H' p (ps : List (Int × Int)), HS.Keep (fun a => a = s ∨ a = d) H H' → H p = none → p ≠ s → p ≠ d → H' p = some (.lst ((ps.map fun p => partS p.1 p.2).map V.str)) → ps ≠ [] → Good ps → unlike 0 ps → manyS ps ≤ 990 → wlen (ps.map fun p => partS p.1 p.2) ≤ 4100 → Src H' s d (n + 5000) → Q (.ref p) H')
theorem ok__law_long (T : Txt K mg A) : FnOk P w K mg base CX0 2 A.a__law_long A.d__law_long ["source"] (sp__law_long K) := by
  have G__law_draw : FnOk P w K mg base CX0 1 A.a__law_draw A.d__law_draw ["source", "many"] (sp__law_draw K) := ok__law_draw T
  refine T.F__law_long.ok sc__law_long (fun vs H Q E h => ?_) (fun cdv A0 outer s H vs Q E hr h => ?_)
  · obtain ⟨s, d, n, rfl, hw⟩ := h
    rfl
  · obtain ⟨s, d, n, rfl, hw⟩ := h
    refine ⟨_, (pss_cons (ps_par3 (i := 1) (j := 2) (l := 3) rfl sc__law_long.nd rfl rfl rfl (by decide) (by decide) (by decide) rfl rfl rfl (pa_cons (pe_lst pa_nil) (pa_cons pe_int (pa_cons pe_int pa_nil))) (by rfl))
    (pss_cons (ps_par (i := 4) (j := 5) rfl sc__law_long.nd rfl rfl (by decide) rfl rfl (pa_cons (pe_call G__law_draw hr (by rfl) T.g__law_draw T.F__law_draw.kp T.b__law_draw .nil pass0 (pa_cons (pv 0) (pa_cons pe_int pa_nil))) (pa_cons pe_int pa_nil)) (by rfl))
    (pss_cons (ps_while PassesOwn.never (PW.pt (pw_and (pt_cmpR op_lt (pv 2) pe_int (nomark _)) (pw_and1 (pt_cmpR op_lt (pv 3) pe_int (nomark _)))))
      (pss_cons (ps_set (i := 6) sc__law_long.nd rfl (.inl rfl) (pe_ix (HS.ixl K) (pe_lst (pa_cons (pe_op op_add (pe_op op_add (pv 5) pe_int) (pe_call G__law_draw hr (by rfl) T.g__law_draw T.F__law_draw.kp T.b__law_draw .nil pass0 (pa_cons (pv 0) (pa_cons pe_int pa_nil)))) (pa_cons (pe_op op_add (pe_op op_add (pv 5) pe_int) (pe_call G__law_draw hr (by rfl) T.g__law_draw T.F__law_draw.kp T.b__law_draw .nil pass0 (pa_cons (pv 0) (pa_cons (HS.pe_fold (100000000000000000000000000000000000000) (pe_op op_pow pe_int pe_int) (by intro σ H Q q; walk_at "fold")) pa_nil)))) pa_nil))) (pe_call G__law_draw hr (by rfl) T.g__law_draw T.F__law_draw.kp T.b__law_draw .nil pass0 (pa_cons (pv 0) (pa_cons pe_int pa_nil))) (fun _ _ => rfl)))
    (Evl.pss_cut (ps_if (PW.pt (pw_or (pt_cmpR op_eq (pv 4) pe_int (nomark _)) (pw_or1 (pt_cmpR op_eq (pv 6) (pv 5) (nomark _)))))
      (pss_one (ps_set (i := 6) sc__law_long.nd rfl (.inl rfl) (pe_op op_add pe_int (pe_op op_mod (pv 5) pe_int))))
      pss_nil)
    (pss_cons (ps_set (i := 7) sc__law_long.nd rfl (.inl rfl) (pe_ix (HS.ixl K) (pe_lst (pa_cons pe_int (pa_cons (pe_op op_add pe_int (pe_call G__law_draw hr (by rfl) T.g__law_draw T.F__law_draw.kp T.b__law_draw .nil pass0 (pa_cons (pv 0) (pa_cons pe_int pa_nil)))) (pa_cons (pe_op op_add pe_int (pe_call G__law_draw hr (by rfl) T.g__law_draw T.F__law_draw.kp T.b__law_draw .nil pass0 (pa_cons (pv 0) (pa_cons pe_int pa_nil)))) pa_nil)))) (pv 4) (fun _ _ => rfl)))
    (pss_cons (ps_expr (HS.kbm K (pe_bm PySem.F.plainAttrs_list PySem.F.slot_list_append PySem.F.type_list_append mt_append (pv 1) (pa_cons (pe_ifExp (pt_cmpR op_eq (pv 7) pe_int (nomark _)) (pe_callTy call_str_int (by rfl) T.z_str (by decide +kernel) (pa_cons (pv 6) pa_nil)) (pe_op op_add_str (pe_op op_add_str (pe_callTy call_str_int (by rfl) T.z_str (by decide +kernel) (pa_cons (pv 7) pa_nil)) pe_str) (pe_callTy call_str_int (by rfl) T.z_str (by decide +kernel) (pa_cons (pv 6) pa_nil)))) pa_nil))))
    (pss_one (ps_par3 (i := 2) (j := 3) (l := 5) rfl sc__law_long.nd rfl rfl rfl (by decide) (by decide) (by decide) rfl rfl rfl (pa_cons (pe_op op_add (pe_op op_add (pv 2) (pe_callB call_len_str (by rfl) T.z_len PySem.boot_len (pa_cons (pe_ix (HS.ixl K) (pv 1) (pe_un un_neg pe_int) (fun _ _ => rfl)) pa_nil))) pe_int) (pa_cons (pe_op op_add (pv 3) (pv 7)) (pa_cons (pv 6) pa_nil))) (by rfl))))))))
    (pss_one (ps_ret (pv 1)))))), ?_⟩
    obtain ⟨S0, hn, k⟩ := hw
    walk_at "hs"
    intro F hF
    generalize hG_F : upd _ F _ = H1
    have at_F := HS.upgs hG_F
    have Kn_F := HS.upgK hG_F hF
    clear hG_F
    have S1 := S0.same Kn_F
    have f1 := S0.ne1 hF
    have f2 := S0.ne2 hF
    walk_at "hs"
    refine ⟨s, d, 3, _, rfl, S1, by decide, by decide, by omega, fun H2 wy K2 S2 y0 y1 => ?_⟩
    have hF2 := K2 _ _ at_F (by walk_at "ns")
    have K02 : HS.Keep (fun a => a = s ∨ a = d) H H2 := Kn_F.any.trans K2
    walk_at "hs"
    refine ⟨fun j σ H' => HS.Keep (fun a => a = s ∨ a = d) H H' ∧ ∃ (ps : List (Int × Int)) (sp la : Int) (x6 x7 : Option V), j = (990 - manyS ps).toNat ∧ σ = [some (.ref s), some (.ref F), some (.int sp), some (.int (manyS ps)), some (.int wy), some (.int la), x6, x7] ∧ Src H' s d (n + 1 + 5 * ps.length) ∧ H' F = some (.lst ((ps.map fun p => partS p.1 p.2).map V.str)) ∧ Good ps ∧ unlike 0 ps ∧ (ps.getLast?.map (·.2)).getD 0 = la ∧ (wlen (ps.map fun p => partS p.1 p.2) : Int) = sp ∧ 0 ≤ la ∧ 42 * la ≤ 100000000000000000000000000000000000000 * (42 + sp) ∧ manyS ps < 990 ∧ sp ≤ 4050, ⟨_, K02, [], 0, 0, _, _, rfl, rfl, S2.up (by simp), hF2, (fun p hp => by cases hp), trivial, rfl, rfl, by decide, by decide, by decide, by decide⟩, ?_⟩
    rintro j σ H3 ⟨K3, ps, sp, la, x6, x7, rfl, rfl, S3, hF3, hG, hU, hla, hsp, la0, la1, mn, sp1⟩
    obtain ⟨_, lenP⟩ := sum_parts hG
    have fin : sp ≥ 3900 ∨ manyS ps ≥ 900 → Q (.ref F) H3 := fun h => by
      refine k _ F ps K3 hF f1 f2 hF3 (fun z => ?_) hG hU (by omega) (by omega) (S3.up (by omega))
      rw [z] at hsp h
      have : (0 : Int) = sp := hsp
      have : manyS [] = 0 := rfl
      omega
    walk_at "hs"
    refine HS.itd (fun h1 => ?_) (fun h1 => ?_)
    · walk_at "hs"
      refine HS.itd (fun h2 => ?_) (fun h2 => ?_)
      · refine ⟨fun σ' H' => HS.Keep (fun a => a = s ∨ a = d) H H' ∧ ∃ (qs : List (Int × Int)) (sp la : Int) (x6 x7 : Option V), manyS ps < manyS qs ∧ σ' = [some (.ref s), some (.ref F), some (.int sp), some (.int (manyS qs)), some (.int wy), some (.int la), x6, x7] ∧ Src H' s d (n + 1 + 5 * qs.length) ∧ H' F = some (.lst ((qs.map fun p => partS p.1 p.2).map V.str)) ∧ Good qs ∧ unlike 0 qs ∧ (qs.getLast?.map (·.2)).getD 0 = la ∧ (wlen (qs.map fun p => partS p.1 p.2) : Int) = sp ∧ 0 ≤ la ∧ 42 * la ≤ 100000000000000000000000000000000000000 * (42 + sp) ∧ manyS qs < 990 ∧ sp ≤ 4050,
          fun σ' H' ⟨K', qs, sp, la, x6, x7, lt, e, r1, r2, r3, r4, r5, r6, r7, r8, r9, r10⟩ => ⟨(990 - manyS qs).toNat, by omega, K', qs, sp, la, x6, x7, rfl, e, r1, r2, r3, r4, r5, r6, r7, r8, r9, r10⟩, ?_⟩
        walk_at "hs"
        refine ⟨s, d, 9, _, rfl, S3, by decide, by decide, by omega, fun H4 u1 K4 S4 u10 u11 => ?_⟩
        have hF4 := K4 _ _ hF3 (by walk_at "ns")
        walk_at "hs"
        refine ⟨s, d, _, _, rfl, S4, by decide, by decide, by omega, fun H5 u2 K5 S5 u20 u21 => ?_⟩
        have hF5 := K5 _ _ hF4 (by walk_at "ns")
        walk_at "hs"
        intro q hq
        generalize hG_q : upd _ q _ = H6
        have at_q := HS.upgs hG_q
        have Kn_q := HS.upgK hG_q hq
        clear hG_q
        have hF5 := Kn_q _ _ hF5 id
        have S6 := S5.same Kn_q
        have q1 := S5.ne1 hq
        have q2 := S5.ne2 hq
        walk_at "hs"
        refine ⟨s, d, 2, _, rfl, S6, by decide, by decide, by omega, fun H7 u3 K7 S7 u30 u31 => ?_⟩
        have hF7 := K7 _ _ hF5 (by walk_at "ns")
        refine HS.ixI [la + 1 + u1, la + 1 + u2] (HS.sq (K7 _ _ at_q (by walk_at "ns"))) u30 u31 fun z _ hz => ?_
        have hz' : la + 1 ≤ z ∧ z ≤ la + 100000000000000000000000000000000000000 := by
          simp only [List.mem_cons, List.not_mem_nil, or_false] at hz
          omega
        have K07 := K3.trans (K4.trans (K5.trans (Kn_q.any.trans K7)))
        walk_at "hs"
        refine HS.cut (fun σ' H' => H' = H7 ∧ ∃ lo : Int, σ' = [some (.ref s), some (.ref F), some (.int sp), some (.int (manyS ps)), some (.int wy), some (.int la), some (.int lo), x7] ∧ lo ≠ la ∧ 1 ≤ lo ∧ lo ≤ la + 100000000000000000000000000000000000000) ?_ ?_
        · walk_at "hs"
          refine HS.itd (fun e0 => ?_) (fun e0 => ?_)
          · walk_at "hs"
            exact ⟨rfl, 1 + la % 2, rfl, by omega, by omega, by omega⟩
          · walk_at "hs"
            refine HS.it0 (by omega) ?_
            walk_at "hs"
            exact ⟨rfl, z, rfl, by omega, by omega, by omega⟩
        · rintro σ' H' ⟨rfl, lo, rfl, lo0, lo1, lo2⟩
          walk_at "hs"
          refine ⟨s, d, 4, _, rfl, S7, by decide, by decide, by omega, fun H8 w1 K8 S8 w10 w11 => ?_⟩
          have hF8 := K8 _ _ hF7 (by walk_at "ns")
          walk_at "hs"
          refine ⟨s, d, 90, _, rfl, S8, by decide, by decide, by omega, fun H9 w2 K9 S9 w20 w21 => ?_⟩
          have hF9 := K9 _ _ hF8 (by walk_at "ns")
          walk_at "hs"
          intro r hr1
          generalize hG_r : upd _ r _ = H10
          have at_r := HS.upgs hG_r
          have Kn_r := HS.upgK hG_r hr1
          clear hG_r
          have hF9 := Kn_r _ _ hF9 id
          have S10 := S9.same Kn_r
          walk_at "hs"
          refine HS.ixI [1, 1 + w1, 1 + w2] (HS.sq at_r) y0 y1 fun m _ hm => ?_
          have hm' : 1 ≤ m ∧ m ≤ 90 := by
            simp only [List.mem_cons, List.not_mem_nil, or_false] at hm
            omega
          have lm := numS_len (z := m) (by omega) (by omega)
          have lz := numS_len (z := lo) (by omega) (by omega)
          have hF10 := hF9
          walk_at "hs"
          refine HS.iteM (fun v H' => v = .str (partS m lo) ∧ H' = H10) (fun hc Q' k' => ?_) (fun hc Q' k' => ?_) ?_
          · walk_at "hs"
            refine ⟨HS.lg (by omega), ?_⟩
            exact k' _ _ ⟨by rw [show partS m lo = numS lo from if_pos (of_decide_eq_true hc)]; rfl, rfl⟩
          · walk_at "hs"
            refine ⟨HS.lg (by omega), ?_⟩
            walk_at "hs"
            refine ⟨numS m, _, rfl, rfl, by rw [x_len]; exact HS.szl (by omega), ?_⟩
            walk_at "hs"
            refine ⟨HS.lg (by omega), ?_⟩
            refine ⟨_, numS lo, rfl, rfl, by rw [lenA, x_len]; exact HS.szl (by omega), ?_⟩
            exact k' _ _ ⟨by rw [show partS m lo = numS m ++ "x" ++ numS lo from if_neg (of_decide_eq_false hc)], rfl⟩
          · rintro v H' ⟨rfl, rfl⟩
            have pl := partS_len (m := m) (z := lo) (by omega) (by omega) (by omega) (by omega)
            have p39 : 100000000000000000000000000000000000000 ≤ lo → 39 ≤ (partS m lo).length := fun h => by
              have := numS_long (z := lo) (by omega)
              unfold partS
              split
              · exact this
              · rw [lenA]; omega
            have w1 : wlen ((ps ++ [(m, lo)]).map fun p => partS p.1 p.2) = wlen (ps.map fun p => partS p.1 p.2) + ((partS m lo).length + 3) := by
              rw [List.map_append, wlen_app]; simp [wlen]
            have S11 : Src (upd H' F (.lst ((ps.map fun p => partS p.1 p.2).map V.str ++ [.str (partS m lo)]))) s d _ := S10.put f1 f2
            have K11 : HS.Keep (fun a => a = s ∨ a = d) H (upd H' F (.lst ((ps.map fun p => partS p.1 p.2).map V.str ++ [.str (partS m lo)]))) := (K07.trans (K8.trans (K9.trans Kn_r.any))).put hF
            have at_F11 : upd H' F (.lst ((ps.map fun p => partS p.1 p.2).map V.str ++ [.str (partS m lo)])) F = some (.lst ((ps.map fun p => partS p.1 p.2).map V.str ++ [.str (partS m lo)])) := upd_same
            walk_at "hs"
            generalize upd H' F (.lst ((ps.map fun p => partS p.1 p.2).map V.str ++ [.str (partS m lo)])) = H11 at S11 K11 at_F11 ⊢
            walk_at "hs"
            refine ⟨F, _, -1, _, rfl, rfl, HS.sq at_F11, HS.atLst rfl, ?_⟩
            walk_at "hs"
            refine ⟨_, rfl, HS.szl (by omega), ?_⟩
            walk_at "hs"
            have ms : manyS (ps ++ [(m, lo)]) = manyS ps + m := by rw [manyS_app]; unfold manyS; simp
            refine ⟨K11, ps ++ [(m, lo)], sp + (partS m lo).length + 3, lo, some (.int lo), some (.int m), by omega, by rw [ms]; rfl, S11.up (by rw [List.length_append]; simp only [List.length_cons, List.length_nil]; omega), by rw [at_F11, List.map_append, List.map_append]; try rfl, fun p hp => ?_, unlike_snoc hU (by rw [hla]; exact Ne.symm lo0), by rw [List.getLast?_concat]; rfl, by rw [w1]; omega, by omega, ?_, by omega, by omega⟩
            · rcases List.mem_append.mp hp with hp | hp
              · exact hG p hp
              · rw [List.mem_singleton] at hp
                rw [hp]
                exact ⟨hm'.1, by show m < 10 ^ 40; omega, lo1, by show lo < 10 ^ 40; omega⟩
            · rcases Int.lt_or_le lo 100000000000000000000000000000000000000 with h | h
              · omega
              · have := p39 h
                omega
      · walk_at "hs"
        exact fin (.inr (by omega))
    · walk_at "hs"
      exact fin (.inl (by omega))
def sp_law (K : PySem.W.Frag) : Sp := fun vs H Q _ => ∃ (a : Addr) (ns : List Int), vs = [.ref a] ∧ (SqL K H a (ns.map V.int) ∧ ns.length ≤ 63 ∧ ∀ H', Q (.bl true) H')
theorem ok_law (T : Txt K mg A) : FnOk P w K mg base CX0 8 A.a_law A.d_law ["script"] (sp_law K) := by
  have G__law_source : FnOk P w K mg base CX0 1 A.a__law_source A.d__law_source ["script"] (sp__law_source K) := ok__law_source T
  have G__law_long : FnOk P w K mg base CX0 2 A.a__law_long A.d__law_long ["source"] (sp__law_long K) := ok__law_long T
  have G__law_read : FnOk P w K mg base CX0 2 A.a__law_read A.d__law_read ["note"] (sp__law_read K) := ok__law_read T
  have G__law_told : FnOk P w K mg base CX0 4 A.a__law_told A.d__law_told ["note"] (sp__law_told K A) := ok__law_told T
  have G_show_book : FnOk P w K mg base CX0 2 A.a_show_book A.d_show_book ["book"] (sp_show_book K) := ok_show_book T
  have G__law_same : FnOk P w K mg base CX0 4 A.a__law_same A.d__law_same ["found", "wanted"] (sp__law_same 3 K) := ok__law_same T 3
  have G__law_draw : FnOk P w K mg base CX0 1 A.a__law_draw A.d__law_draw ["source", "many"] (sp__law_draw K) := ok__law_draw T
  have G__law_total : FnOk P w K mg base CX0 1 A.a__law_total A.d__law_total ["lengths", "wide"] (sp__law_total K) := ok__law_total T
  have G_pages : FnOk P w K mg base CX0 3 A.a_pages A.d_pages ["book", "size"] (sp_pages K) := ok_pages T
  refine T.F_law.ok sc_law (fun vs H Q E h => ?_) (fun cdv A0 outer s H vs Q E hr h => ?_)
  · obtain ⟨a, ns, rfl, hw⟩ := h
    rfl
  · obtain ⟨a, ns, rfl, hw⟩ := h
    refine ⟨_, (pss_cons (ps_set (i := 1) sc_law.nd rfl (.inl rfl) (pe_call G__law_source (hr.mono (by decide)) (by rfl) T.g__law_source T.F__law_source.kp T.b__law_source .nil pass0 (pa_cons (pv 0) pa_nil)))
    (pss_cons (ps_for PassesOwn.never rfl (pi_range1 (by rfl) T.z_range (pa_cons (pe_op op_add pe_int (pe_callB (call_min2 rfl) (by rfl) T.z_min (by decide +kernel) (pa_cons pe_int (pa_cons (pe_callB (HS.klen K) (by rfl) T.z_len PySem.boot_len (pa_cons (pv 0) pa_nil)) pa_nil)))) pa_nil)) (pg_name (i := 2) sc_law.nd rfl (.inl rfl))
      (pss_cons (ps_set (i := 3) sc_law.nd rfl (.inl rfl) (pe_call G__law_long (hr.mono (by decide)) (by rfl) T.g__law_long T.F__law_long.kp T.b__law_long .nil pass0 (pa_cons (pv 1) pa_nil)))
    (pss_cons (ps_set (i := 4) sc_law.nd rfl (.inl rfl) (pe_join pe_str (pv 3)))
    (pss_cons (ps_set (i := 5) sc_law.nd rfl (.inl rfl) (pe_call G__law_read (hr.mono (by decide)) (by rfl) T.g__law_read T.F__law_read.kp T.b__law_read .nil pass0 (pa_cons (pv 4) pa_nil)))
    (pss_cons (ps_set (i := 6) sc_law.nd rfl (.inl rfl) (pe_call G__law_told (hr.mono (by decide)) (by rfl) T.g__law_told T.F__law_told.kp T.b__law_told .nil pass0 (pa_cons (pv 4) pa_nil)))
    (pss_cons (ps_if (PW.pt (pw_or (pt_not (pt_val (pe_call G__law_same (hr.mono (by decide)) (by rfl) T.g__law_same T.F__law_same.kp T.b__law_same .nil pass0 (pa_cons (pv 6) (pa_cons (pv 5) pa_nil))))) (pw_or1 (pt_cmpR op_ne (pe_call G_show_book (hr.mono (by decide)) (by rfl) T.g_show_book T.F_show_book.kp T.b_show_book .nil pass0 (pa_cons (pv 6) pa_nil)) (pv 4) (nomark _)))))
      (pss_one (ps_ret pe_bl))
      pss_nil)
    (pss_cons (ps_set (i := 7) sc_law.nd rfl (.inl rfl) (pe_op op_add pe_int (pe_call G__law_draw (hr.mono (by decide)) (by rfl) T.g__law_draw T.F__law_draw.kp T.b__law_draw .nil pass0 (pa_cons (pv 1) (pa_cons (pe_ix (HS.ixl K) (pe_lst (pa_cons pe_int (pa_cons (HS.pe_fold (100000000000000000000) (pe_op op_pow pe_int pe_int) (by intro σ H Q q; walk_at "fold")) pa_nil))) (pe_call G__law_draw (hr.mono (by decide)) (by rfl) T.g__law_draw T.F__law_draw.kp T.b__law_draw .nil pass0 (pa_cons (pv 1) (pa_cons pe_int pa_nil))) (fun _ _ => rfl)) pa_nil)))))
    (pss_cons (ps_if (pt_not (pt_val (pe_call G__law_same (hr.mono (by decide)) (by rfl) T.g__law_same T.F__law_same.kp T.b__law_same .nil pass0 (pa_cons (pe_call G_pages (hr.mono (by decide)) (by rfl) T.g_pages T.F_pages.kp T.b_pages .nil pass0 (pa_cons (pv 6) (pa_cons (pv 7) pa_nil))) (pa_cons (pe_call G__law_total (hr.mono (by decide)) (by rfl) T.g__law_total T.F__law_total.kp T.b__law_total .nil pass0 (pa_cons (pv 5) (pa_cons (pv 7) pa_nil))) pa_nil)))))
      (pss_one (ps_ret pe_bl))
      pss_nil)
    (pss_cons (ps_set (i := 8) sc_law.nd rfl (.inl rfl) (pe_op op_sub (pe_op op_sub (pe_callB (HS.klen K) (by rfl) T.z_len PySem.boot_len (pa_cons (pv 3) pa_nil)) pe_int) (pe_call G__law_draw (hr.mono (by decide)) (by rfl) T.g__law_draw T.F__law_draw.kp T.b__law_draw .nil pass0 (pa_cons (pv 1) (pa_cons (pe_callB (call_min2 rfl) (by rfl) T.z_min (by decide +kernel) (pa_cons pe_int (pa_cons (pe_callB (HS.klen K) (by rfl) T.z_len PySem.boot_len (pa_cons (pv 3) pa_nil)) pa_nil))) pa_nil)))))
    (pss_cons (ps_asg (pe_ix (HS.ixl K) (pe_lst (pa_cons pe_str (pa_cons pe_str (pa_cons pe_str (pa_cons pe_str (pa_cons pe_str pa_nil)))))) (pe_call G__law_draw (hr.mono (by decide)) (by rfl) T.g__law_draw T.F__law_draw.kp T.b__law_draw .nil pass0 (pa_cons (pv 1) (pa_cons pe_int pa_nil))) (fun _ _ => rfl)) (pg_sub (pv 3) (pv 8) set_list))
    (pss_cons (ps_set (i := 4) sc_law.nd rfl (.inl rfl) (pe_join pe_str (pv 3)))
    (pss_one (ps_if (pt_not (pt_val (pe_call G__law_same (hr.mono (by decide)) (by rfl) T.g__law_same T.F__law_same.kp T.b__law_same .nil pass0 (pa_cons (pe_call G__law_told (hr.mono (by decide)) (by rfl) T.g__law_told T.F__law_told.kp T.b__law_told .nil pass0 (pa_cons (pv 4) pa_nil)) (pa_cons (pe_tup (pa_cons pe_str (pa_cons (pv 4) (pa_cons pe_bl pa_nil)))) pa_nil)))))
      (pss_one (ps_ret pe_bl))
      pss_nil)))))))))))))
    (pss_one (ps_ret (pe_call G__law_same (hr.mono (by decide)) (by rfl) T.g__law_same T.F__law_same.kp T.b__law_same .nil pass0 (pa_cons (pe_call G__law_told (hr.mono (by decide)) (by rfl) T.g__law_told T.F__law_told.kp T.b__law_told .nil pass0 (pa_cons (pe_op HS.op_repS pe_str pe_int) pa_nil)) (pa_cons (pe_tup (pa_cons pe_str (pa_cons (pe_op HS.op_repS pe_str pe_int) (pa_cons pe_bl pa_nil)))) pa_nil))))))), ?_⟩
    obtain ⟨hS, hl, k⟩ := hw
    walk_at "hs"
    refine ⟨a, ns, rfl, hS, hl, fun H1 s d K1 hs hd S1 => ?_⟩
    have hS1 := K1.sq hS id
    walk_at "hs"
    rw [List.length_map]
    refine ⟨by split <;> omega, by split <;> omega, for_range (n := _) (fun i σ H' => Src H' s d (5100 * i) ∧ ∃ x2 x3 x4 x5 x6 x7 x8, σ = [some (.ref a), some (.ref s), x2, x3, x4, x5, x6, x7, x8]) ⟨S1, _, _, _, _, _, _, _, rfl⟩ ?_ ?_⟩
    · rintro i σ H2 hi ⟨S2, x2, x3, x4, x5, x6, x7, x8, rfl⟩
      have hi' : i < 6 := by split at hi <;> omega
      walk_at "hs"
      refine ⟨s, d, _, rfl, S2, by omega, fun H3 F ps K3 hF0 f1 f2 hF hne hG hU hM hW S3 => ?_⟩
      obtain ⟨r1, r2, r3, r4⟩ := long_read hne hG hU
      obtain ⟨c1, c2⟩ := sum_parts hG
      have gf := good_free hG
      have wsF : Ws (ps.map fun p => partS p.1 p.2) 4100 := ⟨hW, fun p hp => (gf p hp).2.2⟩
      have wl : (ps.map fun p => partS p.1 p.2).length = ps.length := List.length_map _
      have w1 : 1 ≤ ps.length := by
        cases ps with
        | nil => exact absurd rfl hne
        | cons _ _ => simp
      obtain ⟨jl, jc⟩ := wsF.join
      have sB : ∀ x ∈ spread ps, 1 ≤ x ∧ x < 10 ^ 40 := fun x hx => by
        obtain ⟨p, hp, rfl⟩ := spread_mem hx
        have := hG p hp
        exact ⟨this.2.2.1, this.2.2.2⟩
      have jn := wsF.joins (by decide)
      generalize (ps.map fun p => partS p.1 p.2) = ws at hF gf wsF wl c1 r1 r2 r3 jl jc jn ⊢
      clear hW S2 hU
      walk_at "hs"
      refine ⟨Str.ofString " + ", F, ws, rfl, rfl, .inl (HS.sq hF), jn, ?_⟩
      generalize Txt.join " + " ws = z at r1 r2 r3 jl jc ⊢
      walk_at "hs"
      refine ⟨z, rfl, by omega, jc, by omega, fun h0 => absurd (h0.symm.trans r1) (by simp), fun ls h0 H4 p K4 hp0 hp => ?_⟩
      have el := Option.some.inj (h0.symm.trans r1)
      subst el
      have hF4 := K4 _ _ hF id
      have S4 := S3.same K4
      walk_at "hs"
      refine ⟨z, rfl, by omega, by omega, fun h1 => absurd (h1.symm.trans r1) (by simp), fun ls' h1 H5 q K5 hq0 hq => ?_⟩
      have el := Option.some.inj (h1.symm.trans r1)
      subst el
      have hF5 := K5 _ _ hF4 id
      have hp5 := K5 _ _ hp id
      have S5 := S4.same K5
      walk_at "hs"
      refine ⟨.ref q, .ref p, rfl, HS.smL hq hp5 (by omega), fun H6 K6 => ?_⟩
      replace hF5 := K6 _ _ hF5 id
      replace hp5 := K6 _ _ hp5 id
      replace hq := K6 _ _ hq id
      have S6 := S5.same K6
      walk_at "hs"
      refine ⟨q, _, rfl, HS.sq hq, by omega, fun x hx => by have := sB x hx; omega, fun H7 K7 => ?_⟩
      replace hF5 := K7 _ _ hF5 id
      replace hp5 := K7 _ _ hp5 id
      replace hq := K7 _ _ hq id
      have S7 := S6.same K7
      walk_at "hs"
      refine HS.neStr ?_
      rw [r3, decide_eq_true rfl]
      walk_at "hs"
      have q1 := S4.ne1 hq0
      have q2 := S4.ne2 hq0
      have p1 := S3.ne1 hp0
      have p2 := S3.ne2 hp0
      intro u hu
      generalize hG_u : upd _ u _ = H8
      have at_u := HS.upgs hG_u
      have Kn_u := HS.upgK hG_u hu
      clear hG_u
      replace hF5 := Kn_u _ _ hF5 id
      replace hp5 := Kn_u _ _ hp5 id
      replace hq := Kn_u _ _ hq id
      have S8 := S7.same Kn_u
      have u1 := S7.ne1 hu
      have u2 := S7.ne2 hu
      walk_at "hs"
      refine ⟨s, d, 2, _, rfl, S8, by decide, by decide, by omega, fun H9 v K9 S9 v0 v1 => ?_⟩
      have hF9 := K9 _ _ hF5 (by walk_at "ns")
      have hp9 := K9 _ _ hp5 (by walk_at "ns")
      have hq9 := K9 _ _ hq (by walk_at "ns")
      refine HS.ixI [10, 100000000000000000000] (HS.sq (K9 _ _ at_u (by walk_at "ns"))) v0 v1 fun mt _ hmt => ?_
      have hmt' : 1 ≤ mt ∧ mt ≤ 100000000000000000000 := by simp only [List.mem_cons, List.not_mem_nil, or_false] at hmt; omega
      walk_at "hs"
      refine ⟨s, d, mt, _, rfl, S9, by omega, by omega, by omega, fun H10 g K10 S10 g0 g1 => ?_⟩
      have hF10 := K10 _ _ hF9 (by walk_at "ns")
      have hp10 := K10 _ _ hp9 (by walk_at "ns")
      have hq10 := K10 _ _ hq9 (by walk_at "ns")
      clear hF9 hp9 hq9 hF5 hp5 hq S3 S4 S5 S6 S7 S8 S9 K9 K10 K3 K4 K5 K6 K7
      have wd1 : 1 ≤ 1 + g ∧ 1 + g < 2 ^ 200 := by omega
      walk_at "hs"
      refine ⟨q, _, 1 + g, rfl, HS.sq hq10, fun x hx => (sB x hx).1, by omega, wd1.1, wd1.2, fun H11 K11 => ?_⟩
      replace hF10 := K11 _ _ hF10 id
      replace hp10 := K11 _ _ hp10 id
      have S11 := S10.same K11
      walk_at "hs"
      refine ⟨p, _, 1 + g, rfl, HS.sq hp10, by omega, wd1.1, wd1.2, fun H12 K12 => ?_⟩
      replace hF10 := K12 _ _ hF10 id
      have S12 := S11.same K12
      walk_at "hs"
      refine ⟨.int _, .int _, rfl, HS.smI rfl, fun H13 K13 => ?_⟩
      replace hF10 := K13 _ _ hF10 id
      have S13 := S12.same K13
      walk_at "hs"
      rw [List.length_map]
      refine ⟨s, d, _, _, rfl, S13, by split <;> omega, by split <;> omega, by omega, fun H14 x K14 S14 x0 x1 => ?_⟩
      have hx1 : x < ws.length := by split at x1 <;> omega
      have hF14 := K14 _ _ hF10 (by walk_at "ns")
      walk_at "hs"
      intro l hl0
      generalize hG_l : upd _ l _ = H15
      have at_l := HS.upgs hG_l
      have Kn_l := HS.upgK hG_l hl0
      clear hG_l
      replace hF14 := Kn_l _ _ hF14 id
      have S15 := S14.same Kn_l
      have l1 := S14.ne1 hl0
      have l2 := S14.ne2 hl0
      replace at_l : H15 l = some (.lst (wrongS.map V.str)) := at_l
      walk_at "hs"
      refine ⟨s, d, 5, _, rfl, S15, by decide, by decide, by omega, fun H16 y K16 S16 y0 y1 => ?_⟩
      have hF16 := K16 _ _ hF14 (by walk_at "ns")
      have hl16 := K16 _ _ at_l (by walk_at "ns")
      have hy : y.toNat < wrongS.length := by show y.toNat < 5; omega
      refine HS.ixL (HS.sq hl16) (HS.atN y.toNat (by omega) (by rw [List.getElem?_map, List.getElem?_eq_getElem hy]; rfl)) ?_
      obtain ⟨o0, o1, o2, o3, o4⟩ := wrongS_ok _ (List.getElem_mem hy)
      generalize wrongS[y.toNat] = w at o0 o1 o2 o3 o4 ⊢
      have hj : (ws.length : Int) - 1 - x = ((ws.length - 1 - x.toNat : Nat) : Int) := by omega
      have hj1 : ws.length - 1 - x.toNat < ws.length := by omega
      generalize ws.length - 1 - x.toNat = j at hj hj1
      rw [hj]
      walk_at "hs"
      refine HS.setL hF16 (j := j) ?_ ?_
      · unfold ixN
        rw [if_pos (by omega), if_pos (by rw [List.length_map]; omega)]
        congr 1
      have S17 : Src (upd H16 F (.lst ((ws.map V.str).set j (.str w)))) s d _ := S16.put f1 f2
      have at_F : upd H16 F (.lst ((ws.map V.str).set j (.str w))) F = some (.lst ((ws.set j w).map V.str)) := by rw [upd_same, List.map_set]
      generalize upd H16 F (.lst ((ws.map V.str).set j (.str w))) = H17 at S17 at_F ⊢
      obtain ⟨b1, b2⟩ := wrong_read hj1 (fun p hp => ⟨(gf p hp).1, (gf p hp).2.1⟩) o1 o2 o3 o4
      have wl2 : wlen (ws.set j w) ≤ 4110 := by
        have : ∀ (l : List Str) (k : Nat), wlen (l.set k w) ≤ wlen l + (w.length + 3) := fun l => by
          induction l with
          | nil => intro k; simp [wlen]
          | cons c r ih =>
            intro k
            cases k with
            | zero => simp only [List.set_cons_zero, wlen, List.map_cons, List.sum_cons]; omega
            | succ k => have := ih k; simp only [List.set_cons_succ, wlen, List.map_cons, List.sum_cons] at this ⊢; omega
        have := this ws j
        have := wsF.1
        omega
      have jl2 : (Txt.join " + " (ws.set j w)).length ≤ 4110 := by
        have g := glue_len " + " (ws.set j w)
        rw [show (" + " : Str).length = 3 from sep_len, wlen_sum] at g
        rw [TL.join_eq, TL.len_tl, TL.tl_join]
        omega
      walk_at "hs"
      refine ⟨Str.ofString " + ", F, ws.set j w, rfl, rfl, .inl (HS.sq at_F), by rw [show (Str.ofString " + ").length = 3 from sep_len, wlen_sum]; omega, ?_⟩
      generalize Txt.join " + " (ws.set j w) = z2 at b1 b2 jl2 ⊢
      walk_at "hs"
      refine ⟨z2, rfl, by omega, by omega, fun _ H18 t K18 ht0 ht => ?_, fun ls h1 => absurd (b1.symm.trans h1) (by simp)⟩
      have S18 := S17.same K18
      walk_at "hs"
      intro e he
      generalize hG_e : upd _ e _ = H19
      have at_e := HS.upgs hG_e
      have Kn_e := HS.upgK hG_e he
      clear hG_e
      replace ht := Kn_e _ _ ht id
      have S19 := S18.same Kn_e
      walk_at "hs"
      refine ⟨.ref t, .ref e, rfl, same3 ht at_e, fun H20 K20 => ?_⟩
      have S20 := S19.same K20
      walk_at "hs"
      exact ⟨S20.up (by omega), _, _, _, _, _, _, _, rfl⟩
    · rintro σ H2 ⟨S2, x2, x3, x4, x5, x6, x7, x8, rfl⟩
      obtain ⟨b1, b2⟩ := ones_read
      walk_at "hs"
      refine HS.mulS (by decide) (by decide) (by decide) ?_
      rw [show Int.toNat 4000 = 4000 from rfl]
      have ln : (HS.repS (Str.ofString "1") 4000).length ≤ 4000 := by rw [HS.repS_len]; decide
      walk_at "hs"
      refine ⟨HS.repS (Str.ofString "1") 4000, rfl, by omega, by omega, fun _ H18 t K18 ht0 ht => ?_, fun ls h1 => absurd (b1.symm.trans h1) (by simp)⟩
      walk_at "hs"
      refine HS.mulS (by decide) (by decide) (by decide) ?_
      rw [show Int.toNat 4000 = 4000 from rfl]
      walk_at "hs"
      intro e he
      generalize hG_e : upd _ e _ = H19
      have at_e := HS.upgs hG_e
      have Kn_e := HS.upgK hG_e he
      clear hG_e
      replace ht := Kn_e _ _ ht id
      walk_at "hs"
      refine ⟨.ref t, .ref e, rfl, same3 ht at_e, fun H20 K20 => ?_⟩
      exact k _
end
theorem all_mk {l : PySem.W.OpenLaw} {w : World} {K : PySem.W.Frag} {h : Heap} {mg : Str → Option Value} {fa f0 f1 f2 f3 f4 f5 f6 f7 f8 f9 f10 f11 f12 f13 f14 f15 f16 f17 f18 f19 c_BookError c_InvalidBook c_InvalidSize c_InvalidTable c_InvalidChain c_InvalidNumber c_NothingToUndo c_Unreadable : Addr} (X : K.In h) (G : h.Ns mainGlobals mg) (hfa : mg "law" = some (.ref fa))
    {od0 an0 od1 an1 od2 an2 od3 an3 od4 an4 od5 an5 od6 an6 od7 an7 od8 an8 od9 an9 od10 an10 od11 an11 od12 an12 od13 an13 od14 an14 od15 an15 od16 an16 od17 an17 od18 an18 od19 an19 : Option Addr} {sl0 sl1 sl2 sl3 sl4 sl5 sl6 sl7 sl8 sl9 sl10 sl11 sl12 sl13 sl14 sl15 sl16 sl17 sl18 sl19 : Array (Option Value)} {oc0 kV0 dc0 pm0 cd0 ct0 oc1 kV1 dc1 pm1 cd1 ct1 oc2 kV2 dc2 pm2 cd2 ct2 oc3 kV3 dc3 pm3 cd3 ct3 oc4 kV4 dc4 pm4 cd4 ct4 oc5 kV5 dc5 pm5 cd5 ct5 oc6 kV6 dc6 pm6 cd6 ct6 oc7 kV7 dc7 pm7 cd7 ct7 oc8 kV8 dc8 pm8 cd8 ct8 oc9 kV9 dc9 pm9 cd9 ct9 oc10 kV10 dc10 pm10 cd10 ct10 oc11 kV11 dc11 pm11 cd11 ct11 oc12 kV12 dc12 pm12 cd12 ct12 oc13 kV13 dc13 pm13 cd13 ct13 oc14 kV14 dc14 pm14 cd14 ct14 oc15 kV15 dc15 pm15 cd15 ct15 oc16 kV16 dc16 pm16 cd16 ct16 oc17 kV17 dc17 pm17 cd17 ct17 oc18 kV18 dc18 pm18 cd18 ct18 oc19 kV19 dc19 pm19 cd19 ct19 : Value}
    (m_BookError : PySem.W.nsIn K mainGlobals "BookError" = some (some (.ref c_BookError)))
    (m_InvalidBook : PySem.W.nsIn K mainGlobals "InvalidBook" = some (some (.ref c_InvalidBook)))
    (m_InvalidSize : PySem.W.nsIn K mainGlobals "InvalidSize" = some (some (.ref c_InvalidSize)))
    (m_InvalidTable : PySem.W.nsIn K mainGlobals "InvalidTable" = some (some (.ref c_InvalidTable)))
    (m_InvalidChain : PySem.W.nsIn K mainGlobals "InvalidChain" = some (some (.ref c_InvalidChain)))
    (m_InvalidNumber : PySem.W.nsIn K mainGlobals "InvalidNumber" = some (some (.ref c_InvalidNumber)))
    (m_NothingToUndo : PySem.W.nsIn K mainGlobals "NothingToUndo" = some (some (.ref c_NothingToUndo)))
    (m_Unreadable : PySem.W.nsIn K mainGlobals "Unreadable" = some (some (.ref c_Unreadable)))
    (a0 : PySem.W.nsIn K mainGlobals "_law_source" = some (some (.ref f0)))
    (l0 : K.lookup f0 = some ⟨oc0, od0, .func (PySem.W.fnOf "_law_source" "_law_source" (defArgs s__law_source) (defBody s__law_source) (defScope s__law_source) .none kV0 dc0 pm0 an0 cd0 ct0), sl0⟩) (c0 : PySem.W.codeIn K cd0 "_law_source" = true) (k0 : PySem.W.keepIn K (.ref f0) = true)
    (a1 : PySem.W.nsIn K mainGlobals "_law_draw" = some (some (.ref f1)))
    (l1 : K.lookup f1 = some ⟨oc1, od1, .func (PySem.W.fnOf "_law_draw" "_law_draw" (defArgs s__law_draw) (defBody s__law_draw) (defScope s__law_draw) .none kV1 dc1 pm1 an1 cd1 ct1), sl1⟩) (c1 : PySem.W.codeIn K cd1 "_law_draw" = true) (k1 : PySem.W.keepIn K (.ref f1) = true)
    (a2 : PySem.W.nsIn K mainGlobals "_law_same" = some (some (.ref f2)))
    (l2 : K.lookup f2 = some ⟨oc2, od2, .func (PySem.W.fnOf "_law_same" "_law_same" (defArgs s__law_same) (defBody s__law_same) (defScope s__law_same) .none kV2 dc2 pm2 an2 cd2 ct2), sl2⟩) (c2 : PySem.W.codeIn K cd2 "_law_same" = true) (k2 : PySem.W.keepIn K (.ref f2) = true)
    (in_Unreadable : PySem.W.findIn K (.ref c_Unreadable) "__init__" = some (some (.ref f3)))
    (l3 : K.lookup f3 = some ⟨oc3, od3, .func (PySem.W.fnOf "__init__" "Unreadable.__init__" (defArgs s_Unreadable___init__) (defBody s_Unreadable___init__) (defScope s_Unreadable___init__) .none kV3 dc3 pm3 an3 cd3 ct3), sl3⟩) (c3 : PySem.W.codeIn K cd3 "Unreadable.__init__" = true) (k3 : PySem.W.keepIn K (.ref f3) = true)
    (a4 : PySem.W.nsIn K mainGlobals "read_number" = some (some (.ref f4)))
    (l4 : K.lookup f4 = some ⟨oc4, od4, .func (PySem.W.fnOf "read_number" "read_number" (defArgs s_read_number) (defBody s_read_number) (defScope s_read_number) .none kV4 dc4 pm4 an4 cd4 ct4), sl4⟩) (c4 : PySem.W.codeIn K cd4 "read_number" = true) (k4 : PySem.W.keepIn K (.ref f4) = true)
    (a5 : PySem.W.nsIn K mainGlobals "read_chapters" = some (some (.ref f5)))
    (l5 : K.lookup f5 = some ⟨oc5, od5, .func (PySem.W.fnOf "read_chapters" "read_chapters" (defArgs s_read_chapters) (defBody s_read_chapters) (defScope s_read_chapters) .none kV5 dc5 pm5 an5 cd5 ct5), sl5⟩) (c5 : PySem.W.codeIn K cd5 "read_chapters" = true) (k5 : PySem.W.keepIn K (.ref f5) = true)
    (a6 : PySem.W.nsIn K mainGlobals "read_book" = some (some (.ref f6)))
    (l6 : K.lookup f6 = some ⟨oc6, od6, .func (PySem.W.fnOf "read_book" "read_book" (defArgs s_read_book) (defBody s_read_book) (defScope s_read_book) .none kV6 dc6 pm6 an6 cd6 ct6), sl6⟩) (c6 : PySem.W.codeIn K cd6 "read_book" = true) (k6 : PySem.W.keepIn K (.ref f6) = true)
    (a7 : PySem.W.nsIn K mainGlobals "_law_error" = some (some (.ref f7)))
    (l7 : K.lookup f7 = some ⟨oc7, od7, .func (PySem.W.fnOf "_law_error" "_law_error" (defArgs s__law_error) (defBody s__law_error) (defScope s__law_error) .none kV7 dc7 pm7 an7 cd7 ct7), sl7⟩) (c7 : PySem.W.codeIn K cd7 "_law_error" = true) (k7 : PySem.W.keepIn K (.ref f7) = true)
    (a8 : PySem.W.nsIn K mainGlobals "_law_number" = some (some (.ref f8)))
    (l8 : K.lookup f8 = some ⟨oc8, od8, .func (PySem.W.fnOf "_law_number" "_law_number" (defArgs s__law_number) (defBody s__law_number) (defScope s__law_number) .none kV8 dc8 pm8 an8 cd8 ct8), sl8⟩) (c8 : PySem.W.codeIn K cd8 "_law_number" = true) (k8 : PySem.W.keepIn K (.ref f8) = true)
    (a9 : PySem.W.nsIn K mainGlobals "_law_read" = some (some (.ref f9)))
    (l9 : K.lookup f9 = some ⟨oc9, od9, .func (PySem.W.fnOf "_law_read" "_law_read" (defArgs s__law_read) (defBody s__law_read) (defScope s__law_read) .none kV9 dc9 pm9 an9 cd9 ct9), sl9⟩) (c9 : PySem.W.codeIn K cd9 "_law_read" = true) (k9 : PySem.W.keepIn K (.ref f9) = true)
    (a10 : PySem.W.nsIn K mainGlobals "_law_told" = some (some (.ref f10)))
    (l10 : K.lookup f10 = some ⟨oc10, od10, .func (PySem.W.fnOf "_law_told" "_law_told" (defArgs s__law_told) (defBody s__law_told) (defScope s__law_told) .none kV10 dc10 pm10 an10 cd10 ct10), sl10⟩) (c10 : PySem.W.codeIn K cd10 "_law_told" = true) (k10 : PySem.W.keepIn K (.ref f10) = true)
    (a11 : PySem.W.nsIn K mainGlobals "show_chapters" = some (some (.ref f11)))
    (l11 : K.lookup f11 = some ⟨oc11, od11, .func (PySem.W.fnOf "show_chapters" "show_chapters" (defArgs s_show_chapters) (defBody s_show_chapters) (defScope s_show_chapters) .none kV11 dc11 pm11 an11 cd11 ct11), sl11⟩) (c11 : PySem.W.codeIn K cd11 "show_chapters" = true) (k11 : PySem.W.keepIn K (.ref f11) = true)
    (a12 : PySem.W.nsIn K mainGlobals "show_book" = some (some (.ref f12)))
    (l12 : K.lookup f12 = some ⟨oc12, od12, .func (PySem.W.fnOf "show_book" "show_book" (defArgs s_show_book) (defBody s_show_book) (defScope s_show_book) .none kV12 dc12 pm12 an12 cd12 ct12), sl12⟩) (c12 : PySem.W.codeIn K cd12 "show_book" = true) (k12 : PySem.W.keepIn K (.ref f12) = true)
    (a13 : PySem.W.nsIn K mainGlobals "check_book" = some (some (.ref f13)))
    (l13 : K.lookup f13 = some ⟨oc13, od13, .func (PySem.W.fnOf "check_book" "check_book" (defArgs s_check_book) (defBody s_check_book) (defScope s_check_book) .none kV13 dc13 pm13 an13 cd13 ct13), sl13⟩) (c13 : PySem.W.codeIn K cd13 "check_book" = true) (k13 : PySem.W.keepIn K (.ref f13) = true)
    (a14 : PySem.W.nsIn K mainGlobals "check_size" = some (some (.ref f14)))
    (l14 : K.lookup f14 = some ⟨oc14, od14, .func (PySem.W.fnOf "check_size" "check_size" (defArgs s_check_size) (defBody s_check_size) (defScope s_check_size) .none kV14 dc14 pm14 an14 cd14 ct14), sl14⟩) (c14 : PySem.W.codeIn K cd14 "check_size" = true) (k14 : PySem.W.keepIn K (.ref f14) = true)
    (a15 : PySem.W.nsIn K mainGlobals "count_pages" = some (some (.ref f15)))
    (l15 : K.lookup f15 = some ⟨oc15, od15, .func (PySem.W.fnOf "count_pages" "count_pages" (defArgs s_count_pages) (defBody s_count_pages) (defScope s_count_pages) .none kV15 dc15 pm15 an15 cd15 ct15), sl15⟩) (c15 : PySem.W.codeIn K cd15 "count_pages" = true) (k15 : PySem.W.keepIn K (.ref f15) = true)
    (a16 : PySem.W.nsIn K mainGlobals "pages" = some (some (.ref f16)))
    (l16 : K.lookup f16 = some ⟨oc16, od16, .func (PySem.W.fnOf "pages" "pages" (defArgs s_pages) (defBody s_pages) (defScope s_pages) .none kV16 dc16 pm16 an16 cd16 ct16), sl16⟩) (c16 : PySem.W.codeIn K cd16 "pages" = true) (k16 : PySem.W.keepIn K (.ref f16) = true)
    (a17 : PySem.W.nsIn K mainGlobals "_law_total" = some (some (.ref f17)))
    (l17 : K.lookup f17 = some ⟨oc17, od17, .func (PySem.W.fnOf "_law_total" "_law_total" (defArgs s__law_total) (defBody s__law_total) (defScope s__law_total) .none kV17 dc17 pm17 an17 cd17 ct17), sl17⟩) (c17 : PySem.W.codeIn K cd17 "_law_total" = true) (k17 : PySem.W.keepIn K (.ref f17) = true)
    (a18 : PySem.W.nsIn K mainGlobals "_law_long" = some (some (.ref f18)))
    (l18 : K.lookup f18 = some ⟨oc18, od18, .func (PySem.W.fnOf "_law_long" "_law_long" (defArgs s__law_long) (defBody s__law_long) (defScope s__law_long) .none kV18 dc18 pm18 an18 cd18 ct18), sl18⟩) (c18 : PySem.W.codeIn K cd18 "_law_long" = true) (k18 : PySem.W.keepIn K (.ref f18) = true)
    (a19 : PySem.W.nsIn K mainGlobals "law" = some (some (.ref f19)))
    (l19 : K.lookup f19 = some ⟨oc19, od19, .func (PySem.W.fnOf "law" "law" (defArgs s_law) (defBody s_law) (defScope s_law) .none kV19 dc19 pm19 an19 cd19 ct19), sl19⟩) (c19 : PySem.W.codeIn K cd19 "law" = true) (k19 : PySem.W.keepIn K (.ref f19) = true)
    (z0 : PySem.W.nsIn K mainGlobals "ValueError" = some none)
    (z1 : PySem.W.nsIn K mainGlobals "bool" = some none)
    (z2 : PySem.W.nsIn K mainGlobals "enumerate" = some none)
    (z3 : PySem.W.nsIn K mainGlobals "int" = some none)
    (z4 : PySem.W.nsIn K mainGlobals "isinstance" = some none)
    (z5 : PySem.W.nsIn K mainGlobals "len" = some none)
    (z6 : PySem.W.nsIn K mainGlobals "list" = some none)
    (z7 : PySem.W.nsIn K mainGlobals "max" = some none)
    (z8 : PySem.W.nsIn K mainGlobals "min" = some none)
    (z9 : PySem.W.nsIn K mainGlobals "range" = some none)
    (z10 : PySem.W.nsIn K mainGlobals "str" = some none)
    (z11 : PySem.W.nsIn K mainGlobals "sum" = some none)
    (z12 : PySem.W.nsIn K mainGlobals "tuple" = some none)
    {tk_MOST_DIGITS : PySem.Tok} (v_MOST_DIGITS : PySem.W.nsIn K mainGlobals "MOST_DIGITS" = some (some (.int 40 tk_MOST_DIGITS)))
    {nm_Unreadable qn_Unreadable : Str} {N_Unreadable : Addr} {bs_Unreadable bm_Unreadable : List Value} {sn_Unreadable : List Str} {sub_Unreadable : List Value} {ab_Unreadable : Bool} {col_Unreadable : Option Bool} {dd_Unreadable : Option Addr} {k0_Unreadable k1_Unreadable k2_Unreadable k3_Unreadable k5_Unreadable : Option Value}
    (l_Unreadable : K.lookup c_Unreadable = some (excClassObj nm_Unreadable qn_Unreadable c_Unreadable N_Unreadable bs_Unreadable bm_Unreadable true sn_Unreadable sub_Unreadable ab_Unreadable col_Unreadable dd_Unreadable k0_Unreadable k1_Unreadable k2_Unreadable k3_Unreadable k5_Unreadable "ValueError.__new__"))
    (r_Unreadable : PySem.HandSPX.refsVE bm_Unreadable = true)
    (sa_Unreadable : PySem.W.findIn K (.ref c_Unreadable) "__setattr__" = some (some (.builtin "object.__setattr__")))
    (ex_Unreadable : PySem.W.subIn K (.ref c_Unreadable) (.type "BaseException") = some true)
    (ty_Unreadable : PySem.W.typeIn K (.ref c_Unreadable) = some (.type "type"))
    (kc_Unreadable : PySem.W.keepIn K (.ref c_Unreadable) = true)
    (ga_Unreadable : PySem.W.findIn K (.ref c_Unreadable) "__getattribute__" = some (some (.builtin "BaseException.__getattribute__")))
    (gg_Unreadable : PySem.W.findIn K (.ref c_Unreadable) "__getattr__" = some none)
    (hd_Unreadable : PySem.W.hasDictIn K c_Unreadable = true)
    (ha_Unreadable : PySem.W.findIn K (.ref c_Unreadable) "__class__" = some (some (.builtin "object.__class__")))
    (hn_Unreadable : PySem.W.specialIn K (.builtin "object.__class__") "__get__" = some (some (.builtin "getset_descriptor.__get__")))
    (ht_Unreadable : PySem.W.takesIn K (.builtin "object.__class__") = some true)
    (hm_Unreadable : PySem.W.mroIn K c_Unreadable (.type "object") = some true)
    (nv_Unreadable : PySem.W.findIn K (.ref c_Unreadable) "value" = some none)
    (ti_Unreadable : PySem.W.typeIn K (.ref f3) = some (.type "function"))
    (kq_Unreadable_BookError : PySem.W.kitOne K (.ref c_Unreadable) (.ref c_BookError) = some true)
    (kq_Unreadable_InvalidBook : PySem.W.kitOne K (.ref c_Unreadable) (.ref c_InvalidBook) = some false)
    (kq_Unreadable_InvalidSize : PySem.W.kitOne K (.ref c_Unreadable) (.ref c_InvalidSize) = some false)
    (kq_Unreadable_InvalidTable : PySem.W.kitOne K (.ref c_Unreadable) (.ref c_InvalidTable) = some false)
    (kq_Unreadable_InvalidChain : PySem.W.kitOne K (.ref c_Unreadable) (.ref c_InvalidChain) = some false)
    (kq_Unreadable_InvalidNumber : PySem.W.kitOne K (.ref c_Unreadable) (.ref c_InvalidNumber) = some false)
    (kq_Unreadable_NothingToUndo : PySem.W.kitOne K (.ref c_Unreadable) (.ref c_NothingToUndo) = some false)
    (kq_Unreadable_Unreadable : PySem.W.kitOne K (.ref c_Unreadable) (.ref c_Unreadable) = some true)
    (kq_Unreadable_ValueError : PySem.W.kitOne K (.ref c_Unreadable) (.type "ValueError") = some true)
    (ks_Unreadable_BookError : PySem.W.subIn K (.ref c_Unreadable) (.ref c_BookError) = some true)
    (ex_BookError : PySem.W.subIn K (.ref c_BookError) (.type "BaseException") = some true)
    (ty_BookError : PySem.W.typeIn K (.ref c_BookError) = some (.type "type"))
    (hd_BookError : PySem.W.hasDictIn K c_BookError = true)
    : ∃ fd : FuncData, (∀ (s : Shared) (v : Value), BindsTo s fd ⟨[v], []⟩ [("script", v)]) ∧ ∀ base : Heap, K.In base → base.Ns mainGlobals mg → FnOk l.prog w K mg base CX0 8 fa fd ["script"] (sp_law K) := by
  have e := hfa.symm.trans (PySem.W.mg_of X G a19)
  cases e
  have F0 := fun_mk (st := s__law_source) l0 c0 k0
  have F1 := fun_mk (st := s__law_draw) l1 c1 k1
  have F2 := fun_mk (st := s__law_same) l2 c2 k2
  have F3 := fun_mk (st := s_Unreadable___init__) l3 c3 k3
  have F4 := fun_mk (st := s_read_number) l4 c4 k4
  have F5 := fun_mk (st := s_read_chapters) l5 c5 k5
  have F6 := fun_mk (st := s_read_book) l6 c6 k6
  have F7 := fun_mk (st := s__law_error) l7 c7 k7
  have F8 := fun_mk (st := s__law_number) l8 c8 k8
  have F9 := fun_mk (st := s__law_read) l9 c9 k9
  have F10 := fun_mk (st := s__law_told) l10 c10 k10
  have F11 := fun_mk (st := s_show_chapters) l11 c11 k11
  have F12 := fun_mk (st := s_show_book) l12 c12 k12
  have F13 := fun_mk (st := s_check_book) l13 c13 k13
  have F14 := fun_mk (st := s_check_size) l14 c14 k14
  have F15 := fun_mk (st := s_count_pages) l15 c15 k15
  have F16 := fun_mk (st := s_pages) l16 c16 k16
  have F17 := fun_mk (st := s__law_total) l17 c17 k17
  have F18 := fun_mk (st := s__law_long) l18 c18 k18
  have F19 := fun_mk (st := s_law) l19 c19 k19
  have T : Txt K mg ⟨f0, PySem.W.fnOf "_law_source" "_law_source" (defArgs s__law_source) (defBody s__law_source) (defScope s__law_source) .none kV0 dc0 pm0 an0 cd0 ct0, f1, PySem.W.fnOf "_law_draw" "_law_draw" (defArgs s__law_draw) (defBody s__law_draw) (defScope s__law_draw) .none kV1 dc1 pm1 an1 cd1 ct1, f2, PySem.W.fnOf "_law_same" "_law_same" (defArgs s__law_same) (defBody s__law_same) (defScope s__law_same) .none kV2 dc2 pm2 an2 cd2 ct2, f3, PySem.W.fnOf "__init__" "Unreadable.__init__" (defArgs s_Unreadable___init__) (defBody s_Unreadable___init__) (defScope s_Unreadable___init__) .none kV3 dc3 pm3 an3 cd3 ct3, f4, PySem.W.fnOf "read_number" "read_number" (defArgs s_read_number) (defBody s_read_number) (defScope s_read_number) .none kV4 dc4 pm4 an4 cd4 ct4, f5, PySem.W.fnOf "read_chapters" "read_chapters" (defArgs s_read_chapters) (defBody s_read_chapters) (defScope s_read_chapters) .none kV5 dc5 pm5 an5 cd5 ct5, f6, PySem.W.fnOf "read_book" "read_book" (defArgs s_read_book) (defBody s_read_book) (defScope s_read_book) .none kV6 dc6 pm6 an6 cd6 ct6, f7, PySem.W.fnOf "_law_error" "_law_error" (defArgs s__law_error) (defBody s__law_error) (defScope s__law_error) .none kV7 dc7 pm7 an7 cd7 ct7, f8, PySem.W.fnOf "_law_number" "_law_number" (defArgs s__law_number) (defBody s__law_number) (defScope s__law_number) .none kV8 dc8 pm8 an8 cd8 ct8, f9, PySem.W.fnOf "_law_read" "_law_read" (defArgs s__law_read) (defBody s__law_read) (defScope s__law_read) .none kV9 dc9 pm9 an9 cd9 ct9, f10, PySem.W.fnOf "_law_told" "_law_told" (defArgs s__law_told) (defBody s__law_told) (defScope s__law_told) .none kV10 dc10 pm10 an10 cd10 ct10, f11, PySem.W.fnOf "show_chapters" "show_chapters" (defArgs s_show_chapters) (defBody s_show_chapters) (defScope s_show_chapters) .none kV11 dc11 pm11 an11 cd11 ct11, f12, PySem.W.fnOf "show_book" "show_book" (defArgs s_show_book) (defBody s_show_book) (defScope s_show_book) .none kV12 dc12 pm12 an12 cd12 ct12, f13, PySem.W.fnOf "check_book" "check_book" (defArgs s_check_book) (defBody s_check_book) (defScope s_check_book) .none kV13 dc13 pm13 an13 cd13 ct13, f14, PySem.W.fnOf "check_size" "check_size" (defArgs s_check_size) (defBody s_check_size) (defScope s_check_size) .none kV14 dc14 pm14 an14 cd14 ct14, f15, PySem.W.fnOf "count_pages" "count_pages" (defArgs s_count_pages) (defBody s_count_pages) (defScope s_count_pages) .none kV15 dc15 pm15 an15 cd15 ct15, f16, PySem.W.fnOf "pages" "pages" (defArgs s_pages) (defBody s_pages) (defScope s_pages) .none kV16 dc16 pm16 an16 cd16 ct16, f17, PySem.W.fnOf "_law_total" "_law_total" (defArgs s__law_total) (defBody s__law_total) (defScope s__law_total) .none kV17 dc17 pm17 an17 cd17 ct17, f18, PySem.W.fnOf "_law_long" "_law_long" (defArgs s__law_long) (defBody s__law_long) (defScope s__law_long) .none kV18 dc18 pm18 an18 cd18 ct18, fa, PySem.W.fnOf "law" "law" (defArgs s_law) (defBody s_law) (defScope s_law) .none kV19 dc19 pm19 an19 cd19 ct19, c_BookError, c_InvalidBook, c_InvalidSize, c_InvalidTable, c_InvalidChain, c_InvalidNumber, c_NothingToUndo, c_Unreadable⟩ :=
    { F__law_source := F0,
      g__law_source := PySem.W.mg_of X G a0,
      b__law_source := F0.binds (ps := ["script"]) fun _ _ _ _ _ _ us hl => match us, hl with | [_], _ => rfl,
      F__law_draw := F1,
      g__law_draw := PySem.W.mg_of X G a1,
      b__law_draw := F1.binds (ps := ["source", "many"]) fun _ _ _ _ _ _ us hl => match us, hl with | [_, _], _ => rfl,
      F__law_same := F2,
      g__law_same := PySem.W.mg_of X G a2,
      b__law_same := F2.binds (ps := ["found", "wanted"]) fun _ _ _ _ _ _ us hl => match us, hl with | [_, _], _ => rfl,
      F_Unreadable___init__ := F3,
      b_Unreadable___init__ := F3.binds (ps := ["self", "value"]) fun _ _ _ _ _ _ us hl => match us, hl with | [_, _], _ => rfl,
      F_read_number := F4,
      g_read_number := PySem.W.mg_of X G a4,
      b_read_number := F4.binds (ps := ["word"]) fun _ _ _ _ _ _ us hl => match us, hl with | [_], _ => rfl,
      F_read_chapters := F5,
      g_read_chapters := PySem.W.mg_of X G a5,
      b_read_chapters := F5.binds (ps := ["part"]) fun _ _ _ _ _ _ us hl => match us, hl with | [_], _ => rfl,
      F_read_book := F6,
      g_read_book := PySem.W.mg_of X G a6,
      b_read_book := F6.binds (ps := ["text"]) fun _ _ _ _ _ _ us hl => match us, hl with | [_], _ => rfl,
      F__law_error := F7,
      g__law_error := PySem.W.mg_of X G a7,
      b__law_error := F7.binds (ps := ["e"]) fun _ _ _ _ _ _ us hl => match us, hl with | [_], _ => rfl,
      F__law_number := F8,
      g__law_number := PySem.W.mg_of X G a8,
      b__law_number := F8.binds (ps := ["word"]) fun _ _ _ _ _ _ us hl => match us, hl with | [_], _ => rfl,
      F__law_read := F9,
      g__law_read := PySem.W.mg_of X G a9,
      b__law_read := F9.binds (ps := ["note"]) fun _ _ _ _ _ _ us hl => match us, hl with | [_], _ => rfl,
      F__law_told := F10,
      g__law_told := PySem.W.mg_of X G a10,
      b__law_told := F10.binds (ps := ["note"]) fun _ _ _ _ _ _ us hl => match us, hl with | [_], _ => rfl,
      F_show_chapters := F11,
      g_show_chapters := PySem.W.mg_of X G a11,
      b_show_chapters := F11.binds (ps := ["many", "length"]) fun _ _ _ _ _ _ us hl => match us, hl with | [_, _], _ => rfl,
      F_show_book := F12,
      g_show_book := PySem.W.mg_of X G a12,
      b_show_book := F12.binds (ps := ["book"]) fun _ _ _ _ _ _ us hl => match us, hl with | [_], _ => rfl,
      F_check_book := F13,
      g_check_book := PySem.W.mg_of X G a13,
      b_check_book := F13.binds (ps := ["book"]) fun _ _ _ _ _ _ us hl => match us, hl with | [_], _ => rfl,
      F_check_size := F14,
      g_check_size := PySem.W.mg_of X G a14,
      b_check_size := F14.binds (ps := ["size"]) fun _ _ _ _ _ _ us hl => match us, hl with | [_], _ => rfl,
      F_count_pages := F15,
      g_count_pages := PySem.W.mg_of X G a15,
      b_count_pages := F15.binds (ps := ["book", "size"]) fun _ _ _ _ _ _ us hl => match us, hl with | [_, _], _ => rfl,
      F_pages := F16,
      g_pages := PySem.W.mg_of X G a16,
      b_pages := F16.binds (ps := ["book", "size"]) fun _ _ _ _ _ _ us hl => match us, hl with | [_, _], _ => rfl,
      F__law_total := F17,
      g__law_total := PySem.W.mg_of X G a17,
      b__law_total := F17.binds (ps := ["lengths", "wide"]) fun _ _ _ _ _ _ us hl => match us, hl with | [_, _], _ => rfl,
      F__law_long := F18,
      g__law_long := PySem.W.mg_of X G a18,
      b__law_long := F18.binds (ps := ["source"]) fun _ _ _ _ _ _ us hl => match us, hl with | [_], _ => rfl,
      F_law := F19,
      g_law := PySem.W.mg_of X G a19,
      b_law := F19.binds (ps := ["script"]) fun _ _ _ _ _ _ us hl => match us, hl with | [_], _ => rfl,
      z_ValueError := PySem.W.mg_none_of X G z0,
      z_bool := PySem.W.mg_none_of X G z1,
      z_enumerate := PySem.W.mg_none_of X G z2,
      z_int := PySem.W.mg_none_of X G z3,
      z_isinstance := PySem.W.mg_none_of X G z4,
      z_len := PySem.W.mg_none_of X G z5,
      z_list := PySem.W.mg_none_of X G z6,
      z_max := PySem.W.mg_none_of X G z7,
      z_min := PySem.W.mg_none_of X G z8,
      z_range := PySem.W.mg_none_of X G z9,
      z_str := PySem.W.mg_none_of X G z10,
      z_sum := PySem.W.mg_none_of X G z11,
      z_tuple := PySem.W.mg_none_of X G z12,
      m_BookError := PySem.W.mg_of X G m_BookError,
      m_InvalidBook := PySem.W.mg_of X G m_InvalidBook,
      m_InvalidSize := PySem.W.mg_of X G m_InvalidSize,
      m_InvalidTable := PySem.W.mg_of X G m_InvalidTable,
      m_InvalidChain := PySem.W.mg_of X G m_InvalidChain,
      m_InvalidNumber := PySem.W.mg_of X G m_InvalidNumber,
      m_NothingToUndo := PySem.W.mg_of X G m_NothingToUndo,
      m_Unreadable := PySem.W.mg_of X G m_Unreadable,
      v_MOST_DIGITS := ⟨_, PySem.W.mg_of X G v_MOST_DIGITS⟩,
      C_Unreadable := ⟨⟨_, _, _, _, _, _, _, _, _, _, _, _, _, _, _, l_Unreadable, r_Unreadable⟩, sa_Unreadable, ex_Unreadable, ty_Unreadable, kc_Unreadable⟩,
      V_Unreadable := ⟨ga_Unreadable, gg_Unreadable, ex_Unreadable, hd_Unreadable, ha_Unreadable, hn_Unreadable, ht_Unreadable, hm_Unreadable⟩,
      X_Unreadable := ⟨ga_Unreadable, gg_Unreadable, ex_Unreadable, hd_Unreadable⟩,
      n_Unreadable := nv_Unreadable,
      i_Unreadable := in_Unreadable,
      t_Unreadable := ti_Unreadable,
      k_Unreadable := ⟨fun s us ws _ h1 h2 => match us, ws, h1, h2 with | [_], [_], _, _ => .of_eq rfl, fun r1 r2 => r1.append r2⟩,
      q_Unreadable_BookError := kq_Unreadable_BookError,
      q_Unreadable_InvalidBook := kq_Unreadable_InvalidBook,
      q_Unreadable_InvalidSize := kq_Unreadable_InvalidSize,
      q_Unreadable_InvalidTable := kq_Unreadable_InvalidTable,
      q_Unreadable_InvalidChain := kq_Unreadable_InvalidChain,
      q_Unreadable_InvalidNumber := kq_Unreadable_InvalidNumber,
      q_Unreadable_NothingToUndo := kq_Unreadable_NothingToUndo,
      q_Unreadable_Unreadable := kq_Unreadable_Unreadable,
      q_Unreadable_ValueError := kq_Unreadable_ValueError,
      e_Unreadable_BookError := PySem.W.exm_ref ex_BookError hd_BookError ty_BookError ks_Unreadable_BookError }
  exact ⟨_, fun s v => .of_eq rfl, fun base _ _ => ok_law T⟩
end WK42
open PySem PySem.W PyProof.Rows
set_option maxHeartbeats 0 in
theorem PySem.Challenge.cw_pagecounts_k42_long_texts_holds : PySem.Challenge.rw_pagecounts_k42_long_texts.Holds := by
  w_on; o_law; k_head; (case hw => w_witness2)
  k_fill
  refine L2.walk_of (l := PySem.Challenge.rw_pagecounts_k42_long_texts) (n := 63) (k := 8) (x := "script") (CX := fun _ => L2.CX0) (sp := fun w => WK42.sp_law _) rfl (by decide) rfl ⟨rfl, by decide, by decide⟩ (fun w h Y => PySem.W.kIn_of Y) ?F (fun _ _ a ns hl _ hS => ⟨a, ns, rfl, hS, hl, fun _ => rfl⟩) (fun _ _ _ _ _ h => h)
  case F =>
    intro w mg fa h KX G hmg
    refine' WK42.all_mk KX G hmg ?m_BookError ?m_InvalidBook ?m_InvalidSize ?m_InvalidTable ?m_InvalidChain ?m_InvalidNumber ?m_NothingToUndo ?m_Unreadable ?a0 ?l0 ?c0 ?k0 ?a1 ?l1 ?c1 ?k1 ?a2 ?l2 ?c2 ?k2 ?in_Unreadable ?l3 ?c3 ?k3 ?a4 ?l4 ?c4 ?k4 ?a5 ?l5 ?c5 ?k5 ?a6 ?l6 ?c6 ?k6 ?a7 ?l7 ?c7 ?k7 ?a8 ?l8 ?c8 ?k8 ?a9 ?l9 ?c9 ?k9 ?a10 ?l10 ?c10 ?k10 ?a11 ?l11 ?c11 ?k11 ?a12 ?l12 ?c12 ?k12 ?a13 ?l13 ?c13 ?k13 ?a14 ?l14 ?c14 ?k14 ?a15 ?l15 ?c15 ?k15 ?a16 ?l16 ?c16 ?k16 ?a17 ?l17 ?c17 ?k17 ?a18 ?l18 ?c18 ?k18 ?a19 ?l19 ?c19 ?k19 ?z0 ?z1 ?z2 ?z3 ?z4 ?z5 ?z6 ?z7 ?z8 ?z9 ?z10 ?z11 ?z12 ?v_MOST_DIGITS ?l_Unreadable ?r_Unreadable ?sa_Unreadable ?ex_Unreadable ?ty_Unreadable ?kc_Unreadable ?ga_Unreadable ?gg_Unreadable ?hd_Unreadable ?ha_Unreadable ?hn_Unreadable ?ht_Unreadable ?hm_Unreadable ?nv_Unreadable ?ti_Unreadable ?kq_Unreadable_BookError ?kq_Unreadable_InvalidBook ?kq_Unreadable_InvalidSize ?kq_Unreadable_InvalidTable ?kq_Unreadable_InvalidChain ?kq_Unreadable_InvalidNumber ?kq_Unreadable_NothingToUndo ?kq_Unreadable_Unreadable ?kq_Unreadable_ValueError ?ks_Unreadable_BookError ?ex_BookError ?ty_BookError ?hd_BookError
    (case m_BookError => k_is); (case m_InvalidBook => k_is); (case m_InvalidSize => k_is); (case m_InvalidTable => k_is); (case m_InvalidChain => k_is); (case m_InvalidNumber => k_is); (case m_NothingToUndo => k_is); (case m_Unreadable => k_is); (case a0 => k_is); (case l0 => k_is); (case c0 => k_is); (case k0 => k_is); (case a1 => k_is); (case l1 => k_is); (case c1 => k_is); (case k1 => k_is); (case a2 => k_is); (case l2 => k_is); (case c2 => k_is); (case k2 => k_is); (case in_Unreadable => k_is); (case l3 => k_is); (case c3 => k_is); (case k3 => k_is); (case a4 => k_is); (case l4 => k_is); (case c4 => k_is); (case k4 => k_is); (case a5 => k_is); (case l5 => k_is); (case c5 => k_is); (case k5 => k_is); (case a6 => k_is); (case l6 => k_is); (case c6 => k_is); (case k6 => k_is); (case a7 => k_is); (case l7 => k_is); (case c7 => k_is); (case k7 => k_is); (case a8 => k_is); (case l8 => k_is); (case c8 => k_is); (case k8 => k_is); (case a9 => k_is); (case l9 => k_is); (case c9 => k_is); (case k9 => k_is); (case a10 => k_is); (case l10 => k_is); (case c10 => k_is); (case k10 => k_is); (case a11 => k_is); (case l11 => k_is); (case c11 => k_is); (case k11 => k_is); (case a12 => k_is); (case l12 => k_is); (case c12 => k_is); (case k12 => k_is); (case a13 => k_is); (case l13 => k_is); (case c13 => k_is); (case k13 => k_is); (case a14 => k_is); (case l14 => k_is); (case c14 => k_is); (case k14 => k_is); (case a15 => k_is); (case l15 => k_is); (case c15 => k_is); (case k15 => k_is); (case a16 => k_is); (case l16 => k_is); (case c16 => k_is); (case k16 => k_is); (case a17 => k_is); (case l17 => k_is); (case c17 => k_is); (case k17 => k_is); (case a18 => k_is); (case l18 => k_is); (case c18 => k_is); (case k18 => k_is); (case a19 => k_is); (case l19 => k_is); (case c19 => k_is); (case k19 => k_is); (case z0 => k_is); (case z1 => k_is); (case z2 => k_is); (case z3 => k_is); (case z4 => k_is); (case z5 => k_is); (case z6 => k_is); (case z7 => k_is); (case z8 => k_is); (case z9 => k_is); (case z10 => k_is); (case z11 => k_is); (case z12 => k_is); (case v_MOST_DIGITS => k_is); (case l_Unreadable => k_is); (case r_Unreadable => rfl); (case sa_Unreadable => k_is); (case ex_Unreadable => k_is); (case ty_Unreadable => k_is); (case kc_Unreadable => k_is); (case ga_Unreadable => k_is); (case gg_Unreadable => k_is); (case hd_Unreadable => k_is); (case ha_Unreadable => k_is); (case hn_Unreadable => k_is); (case ht_Unreadable => k_is); (case hm_Unreadable => k_is); (case nv_Unreadable => k_is); (case ti_Unreadable => k_is); (case kq_Unreadable_BookError => kit_is); (case kq_Unreadable_InvalidBook => kit_is); (case kq_Unreadable_InvalidSize => kit_is); (case kq_Unreadable_InvalidTable => kit_is); (case kq_Unreadable_InvalidChain => kit_is); (case kq_Unreadable_InvalidNumber => kit_is); (case kq_Unreadable_NothingToUndo => kit_is); (case kq_Unreadable_Unreadable => kit_is); (case kq_Unreadable_ValueError => kit_is); (case ks_Unreadable_BookError => k_is); (case ex_BookError => k_is); (case ty_BookError => k_is); (case hd_BookError => k_is)

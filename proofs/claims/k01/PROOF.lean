import PyProof.Rows.All
import Wide.All
import OpenK.AllK
import Wide.FinOn
import HandS.Evl
import HandS.GenList
import HandS.Walk
import HandS.WordsExc
import HandS.ForMost
import HandS.Wide
import HandS.Style
import HandS.ExcInit
import HandS.ExcIs
import HandS.ExcField
import HandS.IsInst
import HandS.Defaults
import KE.KExcIs
import PySem.Challenge.RW_pagecounts_k01_errors_and_their_values
set_option Elab.async false
set_option linter.all false
set_option maxRecDepth 100000
set_option maxHeartbeats 4000000
/-! Readings, step by step, from their heads (own lemmas over HandS). -/
namespace HS
open PySem PySem.Spec PyProof.Rows L2
section
variable {σ : L2.St} {H : Hp} {Q : VK} {t u : TS} {te ta tb tx : TE} {tt tv : TT} {n bk ct : L2.St → Hp → Prop} {rt : VK} {K : PySem.W.Frag}
theorem seq (h : t ⟨u ⟨n, rt, bk, ct⟩, rt, bk, ct⟩ σ H) : tSeq t u ⟨n, rt, bk, ct⟩ σ H := h
theorem nxt (h : n σ H) : tNext ⟨n, rt, bk, ct⟩ σ H := h
theorem brk (h : bk σ H) : tBreak ⟨n, rt, bk, ct⟩ σ H := h
theorem cnt (h : ct σ H) : tCont ⟨n, rt, bk, ct⟩ σ H := h
theorem asg {g : TG} (h : te σ H fun x H1 => g x σ H1 n) : tAsg te g ⟨n, rt, bk, ct⟩ σ H := h
theorem nm {v : V} {i : Nat} {q : L2.St → Hp → Prop} (h : q (σ.set i (some v)) H) : gName i v σ H q := h
theorem sub {to ti : TE} {ts : TSet} {v : V} {q : L2.St → Hp → Prop} (h : to σ H fun o H1 => ti σ H1 fun i H2 => ts o i v H2 fun H3 => q σ H3) : gSub to ti ts v σ H q := h
theorem var {i : Nat} {v : V} (h : σ[i]? = some (some v)) (q : Q v H) : tVar i σ H Q := ⟨v, h, q⟩
theorem cst {v : V} (q : Q v H) : tC v σ H Q := q
theorem op {r : R2} (h : ta σ H fun x H1 => tb σ H1 fun y H2 => r x y H2 Q) : tOp r ta tb σ H Q := h
theorem un {r : V → Hp → VK → Prop} (h : ta σ H fun x H1 => r x H1 Q) : tUn r ta σ H Q := h
theorem i0 {g : Int → Int → V} {i j : Int} (q : Q (g i j) H) : rI0 g (.int i) (.int j) H Q := ⟨i, j, rfl, rfl, q⟩
theorem i1 {C : Int → Int → Prop} {g : Int → Int → V} {i j : Int} (q : C i j ∧ Q (g i j) H) : rI C g (.int i) (.int j) H Q := ⟨i, j, rfl, rfl, q⟩
theorem u0 {g : Int → V} {i : Int} (q : Q (g i) H) : rU g (.int i) H Q := ⟨i, rfl, q⟩
theorem eqI {i j : Int} (q : Q (.bl (decide (i = j))) H) : rEq (.int i) (.int j) H Q := ⟨rfl, by
  have e : decide ((V.int i) = V.int j) = decide (i = j) := by
    by_cases h : i = j
    · rw [h]; simp
    · have h2 : ¬ (V.int i = V.int j) := fun z => h (V.int.inj z)
      rw [decide_eq_false h, decide_eq_false h2]
  rw [e]; exact q⟩
theorem neI {i j : Int} (q : Q (.bl (!decide (i = j))) H) : rNe (.int i) (.int j) H Q := ⟨rfl, by
  have e : decide ((V.int i) = V.int j) = decide (i = j) := by
    by_cases h : i = j
    · rw [h]; simp
    · have h2 : ¬ (V.int i = V.int j) := fun z => h (V.int.inj z)
      rw [decide_eq_false h, decide_eq_false h2]
  rw [e]; exact q⟩
theorem tst {q : Bool → Hp → Prop} (h : te σ H fun x H' => ∃ k, x = .bl k ∧ q k H') : tTest te σ H q := h
theorem tb1 {q : Bool → Hp → Prop} (h : te σ H fun x H' => ∃ k, x = .bl k ∧ q k H') : tB te σ H q := h
theorem bex {b : Bool} {q : Bool → Prop} (h : q b) : ∃ k, V.bl b = V.bl k ∧ q k := ⟨b, rfl, h⟩
theorem ifs (h : tt σ H fun b H1 => if b = true then t ⟨n, rt, bk, ct⟩ σ H1 else u ⟨n, rt, bk, ct⟩ σ H1) : tIfS tt t u ⟨n, rt, bk, ct⟩ σ H := h
theorem ife (h : tt σ H fun b H1 => if b = true then ta σ H1 Q else tb σ H1 Q) : tIf tt ta tb σ H Q := h
theorem and {q : Bool → Hp → Prop} (h : tt σ H fun c H1 => if c = true then tv σ H1 q else q false H1) : tAnd tt tv σ H q := h
theorem or {q : Bool → Hp → Prop} (h : tt σ H fun c H1 => if c = true then q true H1 else tv σ H1 q) : tOr tt tv σ H q := h
theorem not {q : Bool → Hp → Prop} (h : tt σ H fun c H1 => q (!c) H1) : tNot tt σ H q := h
theorem andV (h : ta σ H fun x H1 => ∃ c, x = .bl c ∧ if c = true then tb σ H1 Q else Q (.bl false) H1) : tAndV ta tb σ H Q := h
theorem orV (h : ta σ H fun x H1 => ∃ c, x = .bl c ∧ if c = true then Q (.bl true) H1 else tb σ H1 Q) : tOrV ta tb σ H Q := h
theorem notV (h : ta σ H fun x H1 => ∃ c, x = .bl c ∧ Q (.bl (!c)) H1) : tNotV ta σ H Q := h
theorem chn {r r' : R2} {tc : TE} (h : ta σ H fun x H1 => tb σ H1 fun y H2 => r x y H2 fun z H3 => ∃ k, z = .bl k ∧ if k = true then tc σ H3 fun w H4 => r' y w H4 Q else Q (.bl false) H3) : tChain r r' ta tb tc σ H Q := h
theorem ret (h : te σ H rt) : tRet te ⟨n, rt, bk, ct⟩ σ H := h
theorem retN (h : rt .non H) : tRetN ⟨n, rt, bk, ct⟩ σ H := h
theorem drp (h : te σ H fun _ H1 => n σ H1) : tDrop te ⟨n, rt, bk, ct⟩ σ H := h
theorem cb {r : List V → Hp → VK → Prop} {tl : TA} (h : tl σ H fun vs H1 => r vs H1 Q) : tCB r tl σ H Q := h
theorem anil {q : List V → Hp → Prop} (h : q [] H) : tNil σ H q := h
theorem acons {tl : TA} {q : List V → Hp → Prop} (h : te σ H fun x H1 => tl σ H1 fun xs H2 => q (x :: xs) H2) : tCons te tl σ H q := h
theorem cal {sp : Sp} {E : XK} {tl : TA} (h : tl σ H fun vs H1 => sp vs H1 Q E) : tCall sp [] E tl σ H Q := by
  show tl σ H fun vs H1 => sp (vs ++ []) H1 Q E
  simp only [List.append_nil]; exact h
theorem tup {tl : TA} (h : tl σ H fun xs H1 => xs.length ≤ sizeLine ∧ ∀ p, H1 p = none → Q (.ref p) (upd H1 p (.tup xs))) : tTup tl σ H Q := h
theorem lst {tl : TA} (h : tl σ H fun xs H1 => xs.length ≤ sizeLine ∧ ∀ p, H1 p = none → Q (.ref p) (upd H1 p (.lst xs))) : tLst tl σ H Q := h
theorem par {i j : Nat} {tl : TA} (h : tl σ H fun vs H1 => ∃ v w, vs = [v, w] ∧ n ((σ.set i (some v)).set j (some w)) H1) : tPar i j tl ⟨n, rt, bk, ct⟩ σ H := h
theorem ex2 {v w : V} {q : V → V → Prop} (h : q v w) : ∃ a b, [v, w] = [a, b] ∧ q a b := ⟨v, w, rfl, h⟩
theorem aug {i : Nat} {ti : TIp} {x : V} (e : σ[i]? = some (some x)) (h : te σ H fun y H1 => ti x y H1 fun z H2 => n (σ.set i (some z)) H2) : tAug i te ti ⟨n, rt, bk, ct⟩ σ H := ⟨x, e, h⟩
theorem ipi {f : Int → Int → Int} {i j : Int} (q : Q (.int (f i j)) H) : ipI f (.int i) (.int j) H Q := ⟨i, j, rfl, rfl, q⟩
theorem addI {i j : Int} (q : Q (.int (i + j)) H) : rAdd (.int i) (.int j) H Q := ⟨i, j, rfl, rfl, q⟩
theorem ixL {p : Addr} {xs : List V} {i : Int} {v : V} (h : SqL K H p xs) (e : atI xs i = some v) (q : Q v H) : rIxL K (.ref p) (.int i) H Q := ⟨p, xs, i, v, rfl, rfl, h, e, q⟩
theorem ixT {p : Addr} {xs : List V} {i : Int} {v : V} (h : SqT K H p xs) (e : atI xs i = some v) (q : Q v H) : rIxT K (.ref p) (.int i) H Q := ⟨p, xs, i, v, rfl, rfl, h, e, q⟩
/-- an if over a decided thing -/
theorem itd {c A B : Prop} [Decidable c] (h1 : c → A) (h2 : ¬ c → B) : if decide c = true then A else B := by
  by_cases h : c
  · rw [decide_eq_true h, if_pos rfl]; exact h1 h
  · rw [decide_eq_false h, if_neg Bool.false_ne_true]; exact h2 h
theorem itn {c A B : Prop} [Decidable c] (h1 : ¬ c → A) (h2 : c → B) : if (!decide c) = true then A else B := by
  by_cases h : c
  · rw [decide_eq_true h]; exact iteF (h2 h)
  · rw [decide_eq_false h]; exact iteT (h1 h)
theorem it1 {c A B : Prop} [Decidable c] (hc : c) (h : A) : if decide c = true then A else B := itd (fun _ => h) fun z => absurd hc z
theorem it0 {c A B : Prop} [Decidable c] (hc : ¬ c) (h : B) : if decide c = true then A else B := itd (fun z => absurd z hc) fun _ => h
theorem in1 {c A B : Prop} [Decidable c] (hc : ¬ c) (h : A) : if (!decide c) = true then A else B := itn (fun _ => h) fun z => absurd z hc
theorem in0 {c A B : Prop} [Decidable c] (hc : c) (h : B) : if (!decide c) = true then A else B := itn (fun z => absurd hc z) fun _ => h
end
/-! ### heaps: all but S stands -/
def Keep (S : Addr → Prop) (H H' : Hp) : Prop := ∀ a o, H a = some o → ¬ S a → H' a = some o
section
variable {S : Addr → Prop} {H H1 H2 : Hp} {p q : Addr} {o u : HO}
theorem Keep.refl : Keep S H H := fun _ _ h _ => h
theorem Keep.trans (a : Keep S H H1) (b : Keep S H1 H2) : Keep S H H2 := fun x o h n => b x o (a x o h n) n
theorem Keep.new (h : H p = none) : Keep S H (upd H p o) := fun a u e _ => by rw [upd_ne (ne_of_none e h)]; exact e
theorem Keep.put (k : Keep S H H1) (h : H p = none) : Keep S H (upd H1 p o) := fun a u e n => by rw [upd_ne (ne_of_none e h)]; exact k a u e n
theorem Keep.at (k : Keep S H H1) (h : S p) : Keep S H (upd H1 p o) := fun a u e n => by rw [upd_ne (fun z => n (by rw [z]; exact h))]; exact k a u e n
theorem Keep.free (k : Keep S H H1) (h : H1 p = none) (n : ¬ S p) : H p = none := by
  cases e : H p with
  | none => rfl
  | some o => have z := k p o e n; rw [h] at z; cases z
theorem Keep.sq {K : PySem.W.Frag} {xs : List V} (k : Keep S H H1) (h : SqL K H p xs) (n : ¬ S p) : SqL K H1 p xs := by
  rcases h with (h | ⟨o, h⟩) | h
  · exact .inl (.inl (k _ _ h n))
  · exact .inl (.inr ⟨o, k _ _ h n⟩)
  · exact .inr h
theorem Keep.st {K : PySem.W.Frag} {xs : List V} (k : Keep S H H1) (h : SqT K H p xs) (n : ¬ S p) : SqT K H1 p xs := by
  rcases h with (h | ⟨o, h⟩) | h
  · exact .inl (.inl (k _ _ h n))
  · exact .inl (.inr ⟨o, k _ _ h n⟩)
  · exact .inr h
theorem sq {K : PySem.W.Frag} {xs : List V} (h : H p = some (.lst xs)) : SqL K H p xs := .inl (.inl h)
theorem st {K : PySem.W.Frag} {xs : List V} (h : H p = some (.tup xs)) : SqT K H p xs := .inl (.inl h)
end
end HS
theorem hu64 {A : PySem.Around} {k : Nat} (hr : L2.Room k A) : A.units + 64 < PySem.cLine := hr.units
namespace HS
open PySem PySem.Spec PyProof.Rows L2
section
variable {σ : L2.St} {H : Hp} {Q : VK} {te ta tb tx : TE} {K : PySem.W.Frag} {X : Cx}
theorem sz {n : Nat} (h : n ≤ 100000) : n < sizeLine := Nat.lt_of_le_of_lt h (by decide)
theorem szl {n : Nat} (h : n ≤ 100000) : n ≤ sizeLine := Nat.le_of_lt (sz h)
theorem pe_fold {e : Expr} {t : TE} (z : Int) (h : PE X e t) (k : ∀ (σ : L2.St) (H : Hp) (Q : VK), Q (.int z) H → t σ H Q) : PE X e (tC (.int z)) :=
  ⟨fun pins s σ H Q I q => h.run pins s σ H Q I (k σ H Q q)⟩
theorem ii {a b : Int} {q : Int → Int → Prop} (h : q a b) : ∃ i j, [V.int a, V.int b] = [V.int i, V.int j] ∧ q i j := ⟨a, b, rfl, h⟩
theorem bmL {r : V → List V → Hp → VK → Prop} {tl : TA} (h : ta σ H fun x H1 => tyV K "list" x H1 ∧ tl σ H1 fun xs H2 => r x xs H2 Q) : tBM K "list" r ta tl σ H Q := h
theorem bmL0 {r : V → List V → Hp → VK → Prop} (h : ta σ H fun x H1 => tyV K "list" x H1 ∧ r x [] H1 Q) : tBM0 K "list" r ta σ H Q := h
theorem tyL {p : Addr} {xs : List V} {A : Prop} (h : H p = some (.lst xs)) (q : A) : tyV K "list" (.ref p) H ∧ A := ⟨.inl ⟨rfl, _, .inl (.inl h)⟩, q⟩
theorem app {l : Addr} {xs : List V} {y : V} (h : H l = some (.lst xs)) (q : xs.length < sizeLine ∧ Q .non (upd H l (.lst (xs ++ [y])))) : rAppend (.ref l) [y] H Q := ⟨l, xs, y, rfl, rfl, h, q⟩
theorem pop0 {l : Addr} {y : V} {ys : List V} (h : H l = some (.lst (y :: ys))) (q : Q y (upd H l (.lst ys))) : rPopAt (.ref l) [.int 0] H Q := ⟨l, y :: ys, 0, 0, y, rfl, rfl, h, by decide, by decide, by simp [seqIndex?], rfl, q⟩
theorem setL {p : Addr} {xs : List V} {k : Int} {j : Nat} {v : V} {q : Hp → Prop} (h : H p = some (.lst xs)) (e : ixN xs.length k = some j) (g : q (upd H p (.lst (xs.set j v)))) : rSetL (.ref p) (.int k) v H q := ⟨p, xs, _, j, rfl, rfl, h, e, g⟩
theorem mulW {i j : Int} (a b : Nat) (h0 : 0 ≤ i) (h1 : i < 2 ^ a) (g0 : 0 ≤ j) (g1 : j < 2 ^ b) (ha : 0 < a) (hb : 0 < b) (h : a + b ≤ 1000000) : CMulW i j := by
  refine wide_mul (a := a) (b := b) ?_ ?_ ha hb h
  · have : ((i.natAbs : Nat) : Int) < ((2 ^ a : Nat) : Int) := by rw [Int.natAbs_of_nonneg h0]; simpa using h1
    exact Int.ofNat_lt.mp this
  · have : ((j.natAbs : Nat) : Int) < ((2 ^ b : Nat) : Int) := by rw [Int.natAbs_of_nonneg g0]; simpa using g1
    exact Int.ofNat_lt.mp this
theorem divW {i j : Int} (b : Nat) (h : 0 < j) (h1 : j < 2 ^ b) (hb : 0 < b) (h9 : b ≤ 9000) : CDivW i j := by
  refine wide_div (b := b) h ?_ hb h9
  have : ((j.natAbs : Nat) : Int) < ((2 ^ b : Nat) : Int) := by rw [Int.natAbs_of_nonneg (by omega)]; simpa using h1
  exact Int.ofNat_lt.mp this
theorem get_int {ns : List Int} {i : Nat} {x : V} (hi : (ns.map V.int)[i]? = some x) : ∃ z, x = .int z ∧ ns[i]? = some z ∧ i < ns.length := by
  rw [List.getElem?_map] at hi
  cases e : ns[i]? with
  | none => rw [e] at hi; cases hi
  | some z => rw [e] at hi; exact ⟨z, (Option.some.inj hi).symm, rfl, (List.getElem?_eq_some_iff.mp e).1⟩
end
end HS
namespace HS
open PySem PySem.Spec PyProof.Rows L2
theorem Keep.new' {S : Addr → Prop} {H H0 H1 : Hp} {p : Addr} {o : HO} (h : H0 p = none) (k0 : Keep S H H0) (n : ¬ S p) (k : Keep S H H1) : Keep S H (upd H1 p o) := k.put (k0.free h n)
theorem nS2 {p a b : Addr} (h1 : p ≠ a) (h2 : p ≠ b) : ¬ (p = a ∨ p = b) := fun z => z.elim h1 h2
theorem nS3 {p a b c : Addr} (h1 : p ≠ a) (h2 : p ≠ b) (h3 : p ≠ c) : ¬ (p = a ∨ p = b ∨ p = c) := fun z => z.elim h1 fun z => z.elim h2 h3
end HS
namespace HS
open PySem PySem.Spec PyProof.Rows L2
section
variable {σ : L2.St} {H : Hp} {t u : TS} {n bk ct : L2.St → Hp → Prop} {rt : VK}
theorem pnx (h : n σ H) : Ends.nx ⟨n, rt, bk, ct⟩ σ H := h
theorem pbk (h : bk σ H) : Ends.bk ⟨n, rt, bk, ct⟩ σ H := h
theorem pct (h : ct σ H) : Ends.ct ⟨n, rt, bk, ct⟩ σ H := h
theorem prt {v : V} (h : rt v H) : Ends.rt ⟨n, rt, bk, ct⟩ v H := h
theorem cut (M : L2.St → Hp → Prop) (h : t ⟨M, rt, bk, ct⟩ σ H) (k : ∀ σ' H', M σ' H' → u ⟨n, rt, bk, ct⟩ σ' H') : Evl.tCut t u ⟨n, rt, bk, ct⟩ σ H := ⟨M, h, k⟩
theorem pow_lt {i : Int} {a : Nat} (k : Nat) (h0 : 0 ≤ i) (h : i < 2 ^ a) : 0 ≤ i ^ k ∧ (i ^ k < 2 ^ (a * k) ∨ k = 0) := by
  refine ⟨Int.pow_nonneg h0, ?_⟩
  cases k with
  | zero => exact .inr rfl
  | succ k =>
    refine .inl ?_
    obtain ⟨m, rfl⟩ := Int.eq_ofNat_of_zero_le h0
    have h' : m < 2 ^ a := by have : ((m : Nat) : Int) < ((2 ^ a : Nat) : Int) := by simpa using h
                              exact Int.ofNat_lt.mp this
    have := Nat.pow_lt_pow_left h' (Nat.succ_ne_zero k)
    rw [← Nat.pow_mul] at this
    have z : ((m ^ (k + 1) : Nat) : Int) < ((2 ^ (a * (k + 1)) : Nat) : Int) := Int.ofNat_lt.mpr this
    simpa using z
end
end HS
namespace HS
open PySem PySem.Spec PyProof.Rows L2
section
variable {σ : L2.St} {H : Hp} {Q : VK} {ta tb te : TE} {K : PySem.W.Frag}
theorem szc {n : Nat} {A : Prop} (h : n ≤ 100000) (q : A) : n ≤ sizeLine ∧ A := ⟨szl h, q⟩
theorem szd {n : Nat} {A : Prop} (h : n ≤ 100000) (q : A) : n < sizeLine ∧ A := ⟨sz h, q⟩
theorem wp {σ1 σ2 : L2.St} {vs : List Nat} {A : Prop} (e : wipe σ2 vs = wipe σ1 vs) (q : A) : wipe σ2 vs = wipe σ1 vs ∧ A := ⟨e, q⟩
theorem yes {q : Bool → Hp → Prop} (h : q true H) : tYes σ H q := h
theorem ixI {p : Addr} {i : Int} (ns : List Int) (h : SqL K H p (ns.map V.int)) (h0 : 0 ≤ i) (h1 : i < ns.length) (q : ∀ z, ns[i.toNat]? = some z → z ∈ ns → Q (.int z) H) : rIxL K (.ref p) (.int i) H Q := by
  have hi : i.toNat < ns.length := by omega
  have e : ns[i.toNat]? = some ns[i.toNat] := List.getElem?_eq_getElem hi
  refine ⟨p, ns.map V.int, i, .int ns[i.toNat], rfl, rfl, h, ?_, q _ e (List.getElem_mem hi)⟩
  exact at_of (j := i.toNat) (by omega) (by rw [List.getElem?_map, e]; rfl)
theorem ixV {p : Addr} {i : Int} {xs : List V} (h : SqL K H p xs) (h0 : 0 ≤ i) (h1 : i < xs.length) (q : ∀ v, xs[i.toNat]? = some v → v ∈ xs → Q v H) : rIxL K (.ref p) (.int i) H Q := by
  have hi : i.toNat < xs.length := by omega
  have e : xs[i.toNat]? = some xs[i.toNat] := List.getElem?_eq_getElem hi
  refine ⟨p, xs, i, xs[i.toNat], rfl, rfl, h, ?_, q _ e (List.getElem_mem hi)⟩
  exact at_of (j := i.toNat) (by omega) e
theorem ixVT {p : Addr} {i : Int} {xs : List V} (h : SqT K H p xs) (h0 : 0 ≤ i) (h1 : i < xs.length) (q : ∀ v, xs[i.toNat]? = some v → v ∈ xs → Q v H) : rIxT K (.ref p) (.int i) H Q := by
  have hi : i.toNat < xs.length := by omega
  have e : xs[i.toNat]? = some xs[i.toNat] := List.getElem?_eq_getElem hi
  refine ⟨p, xs, i, xs[i.toNat], rfl, rfl, h, ?_, q _ e (List.getElem_mem hi)⟩
  exact at_of (j := i.toNat) (by omega) e
theorem lc {wi : TI} {g : TG} {tt : TT} {vs : List Nat} (h : wi σ H fun J H1 => ∀ D, H1 D = none → ∃ W : Nat → Nat → Hp → Prop, (∃ m, W 0 m (upd H1 D (.lst []))) ∧ ∀ i m H, W i m H → (J.stop i H ∧ Q (.ref D) H) ∨ (J.go i H ∧ ∃ Nx : Hp → Prop, (∀ H', Nx H' → ∃ m', m' < m ∧ W (i + 1) m' H') ∧ ∀ x H', J.yld i H x H' → g x (wipe σ vs) H' fun σ2 H2 => wipe σ2 vs = wipe σ vs ∧ tt σ2 H2 fun b H3 => if b = true then te σ2 H3 fun y H4 => ∃ acc, H4 D = some (.lst acc) ∧ acc.length < sizeLine ∧ Nx (upd H4 D (.lst (acc ++ [y]))) else Nx H3)) : tLc wi g tt te vs σ H Q := h
theorem rng1 {tl : TA} {R : It → Hp → Prop} (h : tl σ H fun vs H1 => ∃ j : Int, vs = [.int j] ∧ -(2 ^ 62) ≤ j ∧ j < 2 ^ 62 ∧ R (Itr 0 j.toNat) H1) : iRng1 tl σ H R := h
theorem rng2 {tl : TA} {R : It → Hp → Prop} (h : tl σ H fun vs H1 => ∃ i j : Int, vs = [.int i, .int j] ∧ (-(2 ^ 62) ≤ i ∧ i < 2 ^ 62 ∧ -(2 ^ 62) ≤ j ∧ j < 2 ^ 62) ∧ R (Itr i (j - i).toNat) H1) : iRng2 tl σ H R := h
theorem lis {tl : TE} {R : It → Hp → Prop} (h : tl σ H fun x H1 => ∃ a, x = .ref a ∧ (∃ xs, SqL K H1 a xs) ∧ R (Itl K a) H1) : iList K tl σ H R := h
theorem ra {a : Addr} {q : Addr → Prop} (h : q a) : ∃ b, V.ref a = V.ref b ∧ q b := ⟨a, rfl, h⟩
theorem i1e {a : Int} {q : Int → Prop} (h : q a) : ∃ i, [V.int a] = [V.int i] ∧ q i := ⟨a, rfl, h⟩
theorem fr {wi : TI} {g : TG} {tb : TS} {D : Ends} (h : wi σ H fun J H1 => ∃ W : Nat → Nat → L2.St → Hp → Prop, (∃ m, W 0 m σ H1) ∧ ∀ i m σ H, W i m σ H →
    (J.stop i H ∧ D.nx σ H) ∨ (J.go i H ∧ ∃ N : L2.St → Hp → Prop, (∀ σ' H', N σ' H' → ∃ m', m' < m ∧ W (i + 1) m' σ' H') ∧ ∀ x H', J.yld i H x H' → g x σ H' fun σ2 H2 => tb { D with nx := N, ct := N, bk := D.nx } σ2 H2)) : tFor wi g tb D σ H := h
end
end HS
namespace HS
open PySem PySem.Spec PyProof.Rows L2
theorem iteM {c : Bool} {ta tb : TE} {σ : L2.St} {H1 : Hp} {Q : VK} (M : VK) (h : c = true → ∀ Q' : VK, (∀ v H', M v H' → Q' v H') → ta σ H1 Q') (g : c = false → ∀ Q' : VK, (∀ v H', M v H' → Q' v H') → tb σ H1 Q') (k : ∀ v H', M v H' → Q v H') :
    if c = true then ta σ H1 Q else tb σ H1 Q := by
  cases c with
  | true => rw [if_pos rfl]; exact h rfl Q k
  | false => rw [if_neg Bool.false_ne_true]; exact g rfl Q k
/-- ceilings -/
theorem ceil_eq {i j : Int} (hj : 1 ≤ j) : (i + j - 1) / j = i / j + (if 0 < i % j then 1 else 0) := by
  have h0 := Int.emod_nonneg i (by omega : j ≠ 0)
  have h1 := Int.emod_lt_of_pos i (by omega : 0 < j)
  have e := Int.mul_ediv_add_emod i j
  generalize i / j = q at e ⊢
  generalize i % j = r at e h0 h1 ⊢
  subst e
  split
  · rename_i h
    rw [show j * q + r + j - 1 = (r - 1) + j * (q + 1) by rw [Int.mul_add]; omega, Int.add_mul_ediv_left _ _ (by omega), Int.ediv_eq_zero_of_lt (by omega) (by omega)]
    omega
  · rename_i h
    rw [show j * q + r + j - 1 = (j - 1) + j * q by omega, Int.add_mul_ediv_left _ _ (by omega), Int.ediv_eq_zero_of_lt (by omega) (by omega)]
    omega
end HS
namespace HS
open PySem PySem.Spec PyProof.Rows L2
section
variable {σ : L2.St} {H : Hp} {te : TE} {t : TS} {tg ug : TGn} {n bk ct : List V → L2.St → Hp → Prop} {rt : List V → VK} {ys : List V} {Q : VK}
theorem gthen (h : tg ⟨fun ys' σ' H' => ug ⟨n, rt, bk, ct⟩ ys' σ' H', rt, bk, ct⟩ ys σ H) : tGThen tg ug ⟨n, rt, bk, ct⟩ ys σ H := h
theorem g0 (h : n ys σ H) : tG0 ⟨n, rt, bk, ct⟩ ys σ H := h
theorem gpl (h : t ⟨n ys, rt ys, bk ys, ct ys⟩ σ H) : tPlain t ⟨n, rt, bk, ct⟩ ys σ H := h
theorem gyl (h : ys.length < sizeLine ∧ te σ H fun x H1 => n (ys ++ [x]) σ H1) : tGYield te ⟨n, rt, bk, ct⟩ ys σ H := h
theorem lgn {tg : TGen} (h : tg σ H fun out H2 => ∀ p, H2 p = none → Q (.ref p) (upd H2 p (.lst out))) : tListG tg σ H Q := h
theorem calg {sp : SpG} {E : XK} {tl : TA} {q : List V → Hp → Prop} (h : tl σ H fun vs H1 => sp vs H1 q E) : tCallG sp [] E tl σ H q := by
  show tl σ H fun vs H1 => sp (vs ++ []) H1 q E
  simp only [List.append_nil]; exact h
end
end HS
namespace HS
open PySem PySem.Spec PyProof.Rows L2
section
variable {H : Hp} {Q : VK} {K : PySem.W.Frag}
theorem ixZ {p : Addr} {i z : Int} {ns : List Int} (h : SqL K H p (ns.map V.int)) (h0 : 0 ≤ i) (e : ns[i.toNat]? = some z) (q : Q (.int z) H) : rIxL K (.ref p) (.int i) H Q :=
  ⟨p, ns.map V.int, i, .int z, rfl, rfl, h, at_of (j := i.toNat) (by omega) (by rw [List.getElem?_map, e]; rfl), q⟩
theorem cut_to (xs : List V) (n : Nat) : cutV xs none (some (n : Int)) = xs.take n := by
  unfold cutV
  rw [HT.sIx_none, HT.sIx_nat, List.drop_zero, Nat.sub_zero]
  rw [List.take_eq_take_iff]
  omega
theorem cut_from (xs : List V) (n : Nat) : cutV xs (some (n : Int)) none = xs.drop n := by
  unfold cutV
  rw [HT.sIx_none, HT.sIx_nat]
  rw [List.take_of_length_le (by rw [List.length_drop]; omega)]
  by_cases h : n ≤ xs.length
  · rw [Nat.min_eq_left h]
  · rw [Nat.min_eq_right (by omega), List.drop_eq_nil_of_le (Nat.le_refl _), List.drop_eq_nil_of_le (by omega)]
end
end HS
namespace HS
open PySem PySem.Spec PyProof.Rows L2
theorem Keep.any {S : Addr → Prop} {H H1 : Hp} (k : Keep (fun _ => False) H H1) : Keep S H H1 := fun a o e _ => k a o e id
theorem Keep.mono {S T : Addr → Prop} {H H1 : Hp} (k : Keep S H H1) (h : ∀ a, S a → T a) : Keep T H H1 := fun a o e n => k a o e fun z => n (h a z)
end HS
namespace HS
open PySem PySem.Spec PyProof.Rows L2
theorem cut_toI {i : Int} (ls : List Int) (h : 0 ≤ i) : cutV (ls.map V.int) none (some i) = (ls.take i.toNat).map V.int := by
  obtain ⟨n, rfl⟩ := Int.eq_ofNat_of_zero_le h
  rw [cut_to, List.map_take]; simp
theorem cut_fromI {i : Int} (ls : List Int) (h : 0 ≤ i) : cutV (ls.map V.int) (some i) none = (ls.drop i.toNat).map V.int := by
  obtain ⟨n, rfl⟩ := Int.eq_ofNat_of_zero_le h
  rw [cut_from, List.map_drop]; simp
end HS
namespace HS
theorem ifT {c : Bool} {A B : Prop} (e : c = true) (h : A) : if c = true then A else B := by rw [if_pos e]; exact h
theorem ifF {c : Bool} {A B : Prop} (e : c = false) (h : B) : if c = true then A else B := by rw [if_neg (by rw [e]; exact Bool.false_ne_true)]; exact h
end HS
namespace HS
open PySem PySem.Spec PyProof.Rows L2
/-- a new object behind what stands -/
theorem Keep.nw {H H1 : Hp} {p : Addr} {o : HO} (k : Keep (fun _ => False) H H1) (h : H1 p = none) : Keep (fun _ => False) H (upd H1 p o) := k.put (k.free h id)
theorem Keep.nwS {S : Addr → Prop} {H H1 : Hp} {p : Addr} {o : HO} (k : Keep S H H1) (h : H1 p = none) (n : ¬ S p) : Keep S H (upd H1 p o) := k.put (k.free h n)
end HS
namespace HS
theorem nt {A B : Prop} (h : B) : if (!true) = true then A else B := by rw [if_neg (show ¬ ((!true) = true) from Bool.false_ne_true)]; exact h
theorem nf {A B : Prop} (h : A) : if (!false) = true then A else B := by rw [if_pos (show (!false) = true from rfl)]; exact h
end HS
namespace HS
open PySem PySem.Spec PyProof.Rows L2
section
variable {H H' : Hp} {p x : Addr} {o u : HO}
theorem upgs (e : upd H p o = H') : H' p = some o := by rw [← e]; exact upd_same
theorem upgK (e : upd H p o = H') (h : H p = none) : Keep (fun _ => False) H H' := by rw [← e]; exact Keep.new h
end
end HS
/-! Data of ints, lists and tuples, and == of such. -/
namespace HS
open PySem PySem.Spec PyProof.Rows L2
def dInts (ns : List Int) : PyData := .list (ns.map .int)
section
variable {K : PySem.W.Frag} {H : Hp}
theorem dpAll_ints : ∀ ns : List Int, DpAll K H (ns.map V.int) (ns.map .int)
  | [] => .nil
  | n :: r => .cons (.int n) (dpAll_ints r)
theorem dp_ints {a : Addr} {ns : List Int} (h : SqL K H a (ns.map V.int)) : Dp K H (.ref a) (dInts ns) := .lst h (dpAll_ints ns)
theorem lay_ints : ∀ ns : List Int, PyData.canLayAll0 (ns.map .int) = true
  | [] => rfl
  | n :: r => by rw [List.map_cons, PyData.canLayAll0, lay_ints r]; rfl
theorem dep_ints : ∀ ns : List Int, PyData.depthAll (ns.map .int) = 0
  | [] => rfl
  | n :: r => by rw [List.map_cons, PyData.depthAll, dep_ints r]; rfl
theorem sh_ints (ns : List Int) : SeqAt.shaped (dInts ns) = true := by
  unfold SeqAt.shaped dInts
  rw [PyData.canLay0, PyData.depth, lay_ints, dep_ints]; rfl
theorem eqv_int (i j : Int) : PyData.eqv (.int i) (.int j) = decide (i = j) := by
  rw [PyData.eqv]; exact Bool.beq_eq_decide_eq i j
theorem eqvAll_ints : ∀ xs ys : List Int, PyData.eqvAll (xs.map .int) (ys.map .int) = decide (xs = ys)
  | [], [] => rfl
  | [], y :: ys => rfl
  | x :: xs, [] => rfl
  | x :: xs, y :: ys => by
    rw [List.map_cons, List.map_cons, PyData.eqvAll, eqv_int, eqvAll_ints xs ys]
    by_cases h : x = y <;> by_cases g : xs = ys <;> simp [h, g]
theorem eqv_ints (xs ys : List Int) : PyData.eqv (dInts xs) (dInts ys) = decide (xs = ys) := by
  unfold dInts; rw [PyData.eqv]; exact eqvAll_ints xs ys
/-- == and != of two lists of ints -/
theorem eqL {a b : Addr} {xs ys : List Int} {Q : VK} (h1 : SqL K H a (xs.map V.int)) (h2 : SqL K H b (ys.map V.int)) (q : Q (.bl (decide (xs = ys))) H) : rEqD K (.ref a) (.ref b) H Q :=
  ⟨_, _, dp_ints h1, dp_ints h2, sh_ints _, sh_ints _, by rw [eqv_ints]; exact q⟩
theorem neL {a b : Addr} {xs ys : List Int} {Q : VK} (h1 : SqL K H a (xs.map V.int)) (h2 : SqL K H b (ys.map V.int)) (q : Q (.bl (!decide (xs = ys))) H) : rNeD K (.ref a) (.ref b) H Q :=
  ⟨_, _, dp_ints h1, dp_ints h2, sh_ints _, sh_ints _, by rw [eqv_ints]; exact q⟩
end
end HS
/-! Rules told with the written part K by its own letter. -/
namespace HS
open PySem PySem.Spec PyProof.Rows L2
section
variable {X : Cx} (K : PySem.W.Frag)
theorem ixl (h : X.K = K := by rfl) : IxR X (rIxL K) := h ▸ ix_list
theorem ixt (h : X.K = K := by rfl) : IxR X (rIxT K) := h ▸ ix_tup
theorem sll (h : X.K = K := by rfl) : SlR X (rSlL K) := h ▸ sl_list
theorem slt (h : X.K = K := by rfl) : SlR X (rSlT K) := h ▸ sl_tup
theorem kbm {E : Expr} {T : String} {r : V → List V → Hp → VK → Prop} {to : TE} {t : TA} (p : PE X E (tBM X.K T r to t)) (h : X.K = K := by rfl) : PE X E (tBM K T r to t) := h ▸ p
theorem kbm0 {E : Expr} {T : String} {r : V → List V → Hp → VK → Prop} {to : TE} (p : PE X E (tBM0 X.K T r to)) (h : X.K = K := by rfl) : PE X E (tBM0 K T r to) := h ▸ p
theorem kil {tg l : Expr} {tl : TE} (p : PI X tg l (iList X.K tl)) (h : X.K = K := by rfl) : PI X tg l (iList K tl) := h ▸ p
theorem kit {tg l : Expr} {tl : TE} (p : PI X tg l (iTup X.K tl)) (h : X.K = K := by rfl) : PI X tg l (iTup K tl) := h ▸ p
theorem kien {tg l : Expr} {tl : TA} (p : PI X tg l (iEnum X.K tl)) (h : X.K = K := by rfl) : PI X tg l (iEnum K tl) := h ▸ p
theorem kgt {tg : Expr} {n : Nat} {t : TGs} (p : PG X tg (gTup X.K n t)) (h : X.K = K := by rfl) : PG X tg (gTup K n t) := h ▸ p
theorem keq (hu : X.A.units + 64 < cLine) (h : X.K = K := by rfl) : OpR X (compareOp .Eq) (rEqD K) := h ▸ op_eqD hu
theorem kne (hu : X.A.units + 64 < cLine) (h : X.K = K := by rfl) : OpR X (compareOp .NotEq) (rNeD K) := h ▸ op_neD hu
theorem kin (h : X.K = K := by rfl) : OpR X (compareOp .In) (rIn K false) := h ▸ op_in_seq
theorem knin (h : X.K = K := by rfl) : OpR X (compareOp .NotIn) (rIn K true) := h ▸ op_notIn_seq
theorem kcatT (h : X.K = K := by rfl) : OpR X (binaryOp .Add) (rCatT K) := h ▸ op_catT
def rLen : List V → Hp → VK → Prop := fun xs H Q => ∃ p ys, xs = [.ref p] ∧ (SqL K H p ys ∨ SqT K H p ys) ∧ Q (.int ys.length) H
def rLst : List V → Hp → VK → Prop := fun xs H Q => ∃ p ys, xs = [.ref p] ∧ (SqL K H p ys ∨ SqT K H p ys) ∧ ∀ l, H l = none → Q (.ref l) (upd H l (.lst ys))
theorem klen (h : X.K = K := by rfl) : CallR X (.builtin "len") (rLen K) := h ▸ call_len_seq
theorem klst (h : X.K = K := by rfl) : CallR X (.type "list") (rLst K) := h ▸ call_list_of
theorem ksum (hc : X.calm = true) (h : X.K = K := by rfl) : CallR X (.builtin "sum") (rSum K) := h ▸ cr_sum hc
theorem kmax (hc : X.calm = true) (h : X.K = K := by rfl) : CallR X (.builtin "max") (rMax K) := h ▸ cr_max hc
theorem kmin (hc : X.calm = true) (h : X.K = K := by rfl) : CallR X (.builtin "min") (rMin K) := h ▸ cr_min hc
theorem krev {E : Expr} {te : TE} (p : PE X E (tRevL X.K te)) (h : X.K = K := by rfl) : PE X E (tRevL K te) := h ▸ p
/-- the names of a block within a block -/
def relab (scO sc : Scope) : Scope := { scO with names := scO.names.map fun (n, k) => if (k == .free && sc.kind == .function && sc.names.lookup n == some .cell) then (n, .cell) else (n, k) }
/-- a list comprehension within a comprehension's block -/
theorem pe_lcIn {X : Cx} {s0 : Shared} {H0 : Hp} {C0 : Addr} {cl0 : List (Str × Addr)} {fp0 : List Addr} {scO : Scope} {elt tg iter : Expr} {ifs : List Expr} {scope : Scope} {own : List (Str × Nat)} {pos : Pos} {wi : TI} {g : TG} {tt : TT} {te : TE} (hc : X.calm = true) (hN : X.N.Nodup) (hi : PI (X.blk s0 H0 scO (compEnvC scO cl0 C0 X.env) fp0) tg iter wi) (sc : Scope) (hsc : X.env.scope = sc) (ok : BlkOk X.N (relab scO sc) scope own)
    (hg : ∀ (s : Shared) (H : Hp) (C : Addr) (cl : List (Str × Addr)) (fp : List Addr), PG ((X.blk s0 H0 scO (compEnvC scO cl0 C0 X.env) fp0).blk s H scope (compEnvC scope cl C (compEnvC scO cl0 C0 X.env)) fp) tg g) (ht : ∀ (s : Shared) (H : Hp) (C : Addr) (cl : List (Str × Addr)) (fp : List Addr), PTs ((X.blk s0 H0 scO (compEnvC scO cl0 C0 X.env) fp0).blk s H scope (compEnvC scope cl C (compEnvC scO cl0 C0 X.env)) fp) ifs tt)
    (he : ∀ (s : Shared) (H : Hp) (C : Addr) (cl : List (Str × Addr)) (fp : List Addr), PE ((X.blk s0 H0 scO (compEnvC scO cl0 C0 X.env) fp0).blk s H scope (compEnvC scope cl C (compEnvC scO cl0 C0 X.env)) fp) elt te) (hs : ∀ x, foldedSetIterable iter (compEnvC scO cl0 C0 X.env) x = pure x := by intro _; rfl) :
    PE (X.blk s0 H0 scO (compEnvC scO cl0 C0 X.env) fp0) (.ListComp elt [⟨tg, iter, ifs, 0⟩] scope pos) (tLc wi g tt te (own.map (·.2))) :=
  by subst hsc; exact pe_lc (X := X.blk s0 H0 scO (compEnvC scO cl0 C0 X.env) fp0) hc hN hi ok hg ht he hs
end
section
variable {σ : L2.St} {H : Hp} {Q : VK} {te : TE} {K : PySem.W.Frag}
theorem lenL {p : Addr} {ys : List V} (h : SqL K H p ys) (q : Q (.int ys.length) H) : rLen K [.ref p] H Q := ⟨p, ys, rfl, .inl h, q⟩
theorem lenT {p : Addr} {ys : List V} (h : SqT K H p ys) (q : Q (.int ys.length) H) : rLen K [.ref p] H Q := ⟨p, ys, rfl, .inr h, q⟩
theorem sumL {p : Addr} {ns : List Int} (h : SqL K H p (ns.map V.int)) (q : Q (.int ns.sum) H) : rSum K [.ref p] H Q := ⟨p, ns, rfl, h, q⟩
theorem revL (h : te σ H fun x H1 => ∃ a xs, x = .ref a ∧ SqL K H1 a xs ∧ ∀ p, H1 p = none → Q (.ref p) (upd H1 p (.lst xs.reverse))) : tRevL K te σ H Q := h
theorem sl {r : V → Option Int → Option Int → Hp → VK → Prop} {tl th : TO} (h : te σ H fun x H1 => tl σ H1 fun l H2 => th σ H2 fun u H3 => r x l u H3 Q) : tSl r te tl th σ H Q := h
theorem noP {q : Option Int → Hp → Prop} (h : q none H) : tNoPart σ H q := h
theorem part {q : Option Int → Hp → Prop} (h : te σ H fun x H1 => ∃ i, x = .int i ∧ q (some i) H1) : tPart te σ H q := h
theorem ie {a : Int} {q : Int → Prop} (h : q a) : ∃ i, V.int a = V.int i ∧ q i := ⟨a, rfl, h⟩
theorem slLs {p : Addr} {xs : List V} {lo hi : Option Int} (h : SqL K H p xs) (q : ∀ p, H p = none → Q (.ref p) (upd H p (.lst (cutV xs lo hi)))) : rSlL K (.ref p) lo hi H Q := ⟨p, xs, rfl, h, q⟩
theorem gtup {n : Nat} {t : TGs} {a : Addr} {xs : List V} {q : L2.St → Hp → Prop} (h : SqT K H a xs) (e : xs.length = n) (k : t xs σ H q) : gTup K n t (.ref a) σ H q := ⟨a, xs, rfl, h, e, k⟩
theorem gcons {t : TG} {u : TGs} {v : V} {r : List V} {q : L2.St → Hp → Prop} (h : t v σ H fun σ' H' => u r σ' H' q) : gCons t u (v :: r) σ H q := ⟨v, r, rfl, h⟩
theorem gnil {q : L2.St → Hp → Prop} (h : q σ H) : gNil [] σ H q := ⟨rfl, h⟩
theorem itup {R : It → Hp → Prop} (h : te σ H fun x H1 => ∃ a, x = .ref a ∧ (∃ xs, SqT K H1 a xs) ∧ R (Itt K a) H1) : iTup K te σ H R := h
theorem ienu {tl : TA} {R : It → Hp → Prop} (h : tl σ H fun vs H1 => ∃ a xs, vs = [.ref a] ∧ SqL K H1 a xs ∧ R (Ite K a) H1) : iEnum K tl σ H R := h
theorem cat {l b : Addr} {xs zs : List V} (h1 : H l = some (.lst xs)) (h2 : H b = some (.lst zs)) (q : xs.length + zs.length ≤ sizeLine ∧ ∀ p, H p = none → Q (.ref p) (upd H p (.lst (xs ++ zs)))) : rCat (.ref l) (.ref b) H Q := ⟨l, b, xs, zs, rfl, rfl, h1, h2, q⟩
theorem ext {l b : Addr} {xs zs : List V} (h1 : H l = some (.lst xs)) (h2 : H b = some (.lst zs)) (q : xs.length + zs.length ≤ sizeLine ∧ Q .non (upd H l (.lst (xs ++ zs)))) : rExtend (.ref l) [.ref b] H Q := ⟨l, b, xs, zs, rfl, rfl, h1, h2, q⟩
end
end HS
/-! Lists of new pairs of ints, and == of such; ranges by steps. -/
namespace HS
open PySem PySem.Spec PyProof.Rows L2
/-- the refs of vs are tuples of these pairs -/
def Prs (H : Hp) : List V → List (Int × Int) → Prop
  | [], [] => True
  | v :: vs, p :: ps => (∃ t, v = .ref t ∧ H t = some (.tup [.int p.1, .int p.2])) ∧ Prs H vs ps
  | _, _ => False
theorem Prs.keep {S : Addr → Prop} {H H' : Hp} (k : Keep S H H') : ∀ {vs : List V} {ps : List (Int × Int)}, Prs H vs ps → (∀ v ∈ vs, ∀ t, v = .ref t → ¬ S t) → Prs H' vs ps
  | [], [], h, _ => h
  | _ :: _, _ :: _, ⟨⟨t, e, o⟩, h⟩, n => ⟨⟨t, e, k t _ o (n _ List.mem_cons_self t e)⟩, h.keep k fun v hv => n v (List.mem_cons_of_mem _ hv)⟩
theorem Prs.app {H : Hp} : ∀ {vs ws : List V} {ps qs : List (Int × Int)}, Prs H vs ps → Prs H ws qs → Prs H (vs ++ ws) (ps ++ qs)
  | [], _, [], _, _, g => g
  | _ :: _, _, _ :: _, _, ⟨a, h⟩, g => ⟨a, h.app g⟩
theorem Prs.len {H : Hp} : ∀ {vs : List V} {ps : List (Int × Int)}, Prs H vs ps → vs.length = ps.length
  | [], [], _ => rfl
  | _ :: _, _ :: _, ⟨_, h⟩ => by rw [List.length_cons, List.length_cons, h.len]
def dPr (p : Int × Int) : PyData := .tuple [.int p.1, .int p.2]
def dPrs (ps : List (Int × Int)) : PyData := .list (ps.map dPr)
section
variable {K : PySem.W.Frag} {H : Hp}
theorem dpAll_prs : ∀ {vs : List V} {ps : List (Int × Int)}, Prs H vs ps → DpAll K H vs (ps.map dPr)
  | [], [], _ => .nil
  | _ :: _, p :: _, ⟨⟨t, e, o⟩, h⟩ => .cons (by rw [e]; exact .tup (st o) (.cons (.int p.1) (.cons (.int p.2) .nil))) (dpAll_prs h)
theorem lay_prs : ∀ ps : List (Int × Int), PyData.canLayAll0 (ps.map dPr) = true
  | [] => rfl
  | p :: r => by rw [List.map_cons, PyData.canLayAll0, lay_prs r]; rfl
theorem dep_prs : ∀ ps : List (Int × Int), PyData.depthAll (ps.map dPr) ≤ 2
  | [] => by simp [PyData.depthAll]
  | p :: r => by
    have h := dep_prs r
    have h2 : (dPr p).depth ≤ 2 := by simp [dPr, PyData.depth, PyData.depthAll]
    rw [List.map_cons, PyData.depthAll]; omega
theorem sh_prs (ps : List (Int × Int)) : SeqAt.shaped (dPrs ps) = true := by
  have h1 := dep_prs ps
  have h2 : PyData.depth (dPrs ps) ≤ 64 := by unfold dPrs; rw [PyData.depth]; omega
  show (PyData.canLay0 (dPrs ps) && decide (PyData.depth (dPrs ps) ≤ 64)) = true
  rw [Bool.and_eq_true]
  exact ⟨by unfold dPrs; rw [PyData.canLay0]; exact lay_prs ps, decide_eq_true h2⟩
theorem eqv_pr (p q : Int × Int) : PyData.eqv (dPr p) (dPr q) = decide (p = q) := by
  unfold dPr
  rw [PyData.eqv, PyData.eqvAll, PyData.eqvAll, PyData.eqvAll, eqv_int, eqv_int]
  obtain ⟨a, b⟩ := p
  obtain ⟨c, d⟩ := q
  by_cases h : a = c <;> by_cases g : b = d <;> simp [h, g]
theorem eqvAll_prs : ∀ xs ys : List (Int × Int), PyData.eqvAll (xs.map dPr) (ys.map dPr) = decide (xs = ys)
  | [], [] => rfl
  | [], y :: ys => rfl
  | x :: xs, [] => rfl
  | x :: xs, y :: ys => by
    rw [List.map_cons, List.map_cons, PyData.eqvAll, eqv_pr, eqvAll_prs xs ys]
    by_cases h : x = y <;> by_cases g : xs = ys <;> simp [h, g]
/-- == of two lists of pairs of ints -/
theorem eqP {a b : Addr} {vs ws : List V} {xs ys : List (Int × Int)} {Q : VK} (h1 : SqL K H a vs) (g1 : Prs H vs xs) (h2 : SqL K H b ws) (g2 : Prs H ws ys) (q : Q (.bl (decide (xs = ys))) H) : rEqD K (.ref a) (.ref b) H Q := by
  refine ⟨dPrs xs, dPrs ys, .lst h1 (dpAll_prs g1), .lst h2 (dpAll_prs g2), sh_prs _, sh_prs _, ?_⟩
  rw [show PyData.eqv (dPrs xs) (dPrs ys) = decide (xs = ys) by unfold dPrs; rw [PyData.eqv]; exact eqvAll_prs xs ys]
  exact q
end
theorem RgC.up {j c : Int} (hc : 1 ≤ c) (hc2 : c < 2 ^ 30) (h0 : 0 ≤ j) (h1 : j < 2 ^ 61) : RgC 0 j c ((j + c - 1) / c).toNat := by
  have hn : 0 ≤ (j + c - 1) / c := Int.ediv_nonneg (by omega) (by omega)
  have e : Builtin.Range.rangeSize 0 j c = (j + c - 1) / c := by
    unfold Builtin.Range.rangeSize
    rw [if_pos (by omega)]
    split
    · rw [show j + c - 1 = (j - 0 - 1) + c * 1 by omega, Int.add_mul_ediv_left _ _ (by omega)]
    · rw [show j = 0 by omega, Int.ediv_eq_zero_of_lt (by omega) (by omega)]
  have hl : (j + c - 1) / c ≤ j + c := Int.le_trans (Int.ediv_le_self _ (by omega)) (by omega)
  refine ⟨by omega, by omega, ?_, by rw [e]; omega⟩
  unfold Builtin.Range.small
  rw [e]
  simp only [Builtin.Range.rangeFitsLong, Bool.and_eq_true, Bool.or_eq_true, decide_eq_true_eq, beq_iff_eq]
  rw [if_pos (show c > 0 by omega)]
  simp only [Bool.and_eq_true, decide_eq_true_eq]
  omega
end HS
namespace HS
open PySem PySem.Spec PyProof.Rows L2
section
variable {σ : L2.St} {H : Hp}
theorem rng3 {tl : TA} {R : It → Hp → Prop} (h : tl σ H fun vs H1 => ∃ (i j c : Int) (n : Nat), vs = [.int i, .int j, .int c] ∧ RgC i j c n ∧ R (Itc i c n) H1) : iRng3 tl σ H R := h
end
end HS
namespace HS
open PySem PySem.Spec PyProof.Rows L2
theorem Prs.new {H : Hp} {p : Addr} {o : HO} (hp : H p = none) {vs : List V} {ps : List (Int × Int)} (h : Prs H vs ps) : Prs (upd H p o) vs ps :=
  h.keep (S := fun _ => False) (Keep.new hp) fun _ _ _ _ z => z
theorem Prs.same {H H' : Hp} {vs : List V} {ps : List (Int × Int)} (h : Prs H vs ps) (k : Keep (fun _ => False) H H') : Prs H' vs ps :=
  h.keep (S := fun _ => False) k fun _ _ _ _ z => z
theorem Prs.lst {H : Hp} {L : Addr} {ws : List V} (hL : H L = some (.lst ws)) : ∀ {vs : List V} {ps : List (Int × Int)}, Prs H vs ps → ∀ v ∈ vs, ∀ t, v = .ref t → t ≠ L
  | [], [], _, _, hv, _, _ => absurd hv List.not_mem_nil
  | _ :: _, _ :: _, ⟨⟨t', e', o'⟩, h⟩, v, hv, t, e => by
    rcases List.mem_cons.mp hv with hv | hv
    · subst hv
      rw [e'] at e
      have := V.ref.inj e
      subst this
      intro z
      rw [z, hL] at o'
      cases o'
    · exact h.lst hL v hv t e
theorem Prs.put {H : Hp} {L : Addr} {ws : List V} {o : HO} (hL : H L = some (.lst ws)) {vs : List V} {ps : List (Int × Int)} (h : Prs H vs ps) : Prs (upd H L o) vs ps :=
  h.keep (S := fun a => a = L) (Keep.at Keep.refl rfl) (h.lst hL)
theorem Prs.snoc {H : Hp} {vs : List V} {ps : List (Int × Int)} {t : Addr} {a b : Int} (h : Prs H vs ps) (e : H t = some (.tup [.int a, .int b])) : Prs H (vs ++ [.ref t]) (ps ++ [(a, b)]) :=
  h.app ⟨⟨t, rfl, e⟩, trivial⟩
end HS
/-! Exceptions of own classes as values: made, asked, read (own rules over HandS). -/
namespace HS
open PySem PySem.Spec PyProof.Rows L2
/-- the j-th row of a class's block -/
def inS (s : Stmt) (j : Nat) : Stmt := match s with
  | .ClassDef _ _ _ body _ _ _ _ _ _ _ => body.getD j (.Pass ⟨0, 0, 0, 0⟩)
  | s => s
/-- an own exception that stands in the heap, with its fields -/
def Exv (H : Hp) (a C : Addr) (fs : List (Str × V)) : Prop := ∃ d, H a = some (exo a C (some d)) ∧ H d = some (exd d fs)
def rIsV (K : PySem.W.Frag) : List V → Hp → VK → Prop := fun xs H Q => ∃ (a D : Addr) (fs : List (Str × V)) (c : V) (cv : Value) (b : Bool), xs = [.ref a, c] ∧ ExcC K D ∧ Exv H a D fs ∧ ClsV c cv ∧ PySem.W.kitOne K (.ref D) cv = some b ∧ Q (.bl b) H
theorem call_isV {X : Cx} : CallR X (.builtin "isinstance") (rIsV X.K) := by
  intro pins s σ H xs us Q I r hw
  obtain ⟨a, D, fs, c, cv, b, e0, T, ⟨d, ea, ed⟩, hcv, hb, q⟩ := hw
  subst e0
  match us, r with
  | [_, _], .cons rx (.cons rt .nil) =>
    cases rx
    have e1 := hcv.eq rt
    subst e1
    obtain ⟨t1, ho⟩ := exo_at I.hok ea
    obtain ⟨mA, hns, _⟩ := exd_at I.hok ed
    obtain ⟨od, hod, _⟩ := lookIn_ns hns
    obtain ⟨cd, hcd, _⟩ := PySem.W.any_some T.hd
    have here : PySem.W.InstAt s.heap a _ D (some od) := ⟨ho, rfl, rfl, hod⟩
    exact PySem.W.kia_one (PySem.W.kitx_exc (by rw [hcd]; rfl) T.hg T.hk T.hs T.ha T.hn T.ht T.hm) I.kIn here hb (fun z => nomatch z) fun tk => ⟨.bl b, H, I.kept (t' := tk) fun _ _ z => z, rfl, q⟩
/-- e.f of such an exception -/
def tFldV (K : PySem.W.Frag) (f : Str) (te : TE) : TE := fun σ H Q => te σ H fun x H1 => ∃ (a C : Addr) (fs : List (Str × V)) (v : V), x = .ref a ∧ XfC K C ∧ PySem.W.findIn K (.ref C) f = some none ∧ Exv H1 a C fs ∧ fs.lookup f = some v ∧ Q v H1
theorem pe_fldV {X : Cx} {e : Expr} {te : TE} {pos : Pos} {f : Str} (he : PE X e te) (hb : attributeBase e f X.env (eval e X.env) = eval e X.env := by rfl) : PE X (.Attribute e f pos) (tFldV X.K f te) := by
  refine ⟨fun pins s σ H Q I hw => attr_of hb (thn (he.run pins s σ H _ I hw) fun u s1 ⟨x, H1, I1, rx, a, C, fs, v, e0, T, hno, ⟨d, ea, ed⟩, l, q⟩ => ?_)⟩
  subst e0
  cases rx
  obtain ⟨t1, ho⟩ := exo_at I1.hok ea
  obtain ⟨mA, hns, hr⟩ := exd_at I1.hok ed
  obtain ⟨od, hod, hl⟩ := lookIn_ns hns
  obtain ⟨w, hw, rw'⟩ := RelO.some_of (v := v) (o := mA f) (by rw [← l]; exact hr f)
  have here : PySem.W.InstAt s1.heap a _ C (some od) := ⟨ho, rfl, rfl, hod⟩
  exact HandSPX.exc_get I1.kIn here T.ga T.gg T.exC (PySem.W.findObj_own T.hdC hno rfl (by rw [hl, hw])) (handed_of rw') ⟨v, H1, I1.tok _, rw', q⟩
/-- C(e, ..) as a value -/
def tNewV (C : Addr) (sp : Sp) (ta : TA) : TE := fun σ H Q => ta σ H fun vs H1 => vs.length ≤ 1000 ∧ ∀ a, H1 a = none → sp (.ref a :: vs) (upd H1 a (exo a C none)) (fun v H2 => v = .non ∧ Q (.ref a) H2) (fun _ _ _ => False)
section
variable {X : Cx} {CX : CXT} {x : Str} {C fI : Addr} {k : Nat} {fd : FuncData} {ps : List Str} {sp : Sp} {e : Expr} {es : List Expr} {ta : TA} {p pos : Pos}
theorem pe_newV (T : OexC X.K C) (iC : PySem.W.findIn X.K (.ref C) "__init__" = some (some (.ref fI))) (tI : PySem.W.typeIn X.K (.ref fI) = some (.type "function"))
    (F1 : FnOk X.prog X.w X.K X.mg X.base CX k fI fd ps sp) (hr : Room (k + 1) X.A) (hb : Binds X.K fd ps []) (hx : Passes CX X (fun _ _ _ => False)) (hg : Gl X x) (hm : X.mg x = some (.ref C)) (ha : PA X (e :: es) ta)
    (hdb : (x == ("__debug__" : Str)) = false := by decide) (he : starEach (e :: es) X.env = (false, eval e X.env) :: starEach es X.env := by rfl) (hpl : (backTo pos (starEach es X.env)).any (·.1) = false := by rfl) :
    PE X (.Call (.Name x p) (e :: es) [] pos) (tNewV C sp ta) := by
  refine ⟨fun pins s σ H Q I hw => wpAny_Call_Name_kw (ld_glob I hg hm ?_ hdb)⟩
  obtain ⟨nm, qn, N, bs, bm, sn, sub, ab, col, dd, k0, k1, k2, k3, k5, hC, hbm⟩ := T.cls
  refine PySem.W.callWith_K (h₀ := X.base) I.ok.mod.kin T.kC (thn (ha.run pos pins s σ H _ I hw) fun us s1 ⟨vs, H1, I1, r1, hz, q1⟩ => ⟨I1.kIn, ?_⟩) he hpl
  show wpAny _ _ (call (.ref C) us) _ _ _
  obtain ⟨hp, g, dr, tk, os⟩ := s1
  have le1 : hp.objs.size ≤ hp.objs.size + 1 := by omega
  have kept : ∀ b o, hp.get? b = some o → ((hp.push (PySem.W.kdv_tup us)).push (PySem.HandSPX.excO C hp.objs.size)).get? b = some o := fun _ _ z => Heap.get?_push_of_some _ (Heap.get?_push_of_some _ z)
  have at1 : ((hp.push (PySem.W.kdv_tup us)).push (PySem.HandSPX.excO C hp.objs.size)).get? (hp.objs.size + 1) = some (PySem.HandSPX.excO C hp.objs.size) := by heap_get
  have J : Inv X pins σ (upd H1 (hp.objs.size + 1) (exo (hp.objs.size + 1) C none)) ⟨(hp.push (PySem.W.kdv_tup us)).push (PySem.HandSPX.excO C hp.objs.size), g, dr, tk, os⟩ := I1.laid (t' := tk) kept le1 (exo_ok at1)
  have q2 := q1 (hp.objs.size + 1) (I1.hok.fresh le1)
  have r2 : Vals (V.ref (hp.objs.size + 1) :: vs) (Value.ref (hp.objs.size + 1) :: us) := .cons rfl r1
  have len2 : (Value.ref (hp.objs.size + 1) :: us).length = ps.length := r2.length.symm.trans (F1.len _ _ _ _ q2)
  have small : us.length ≤ sizeLine := by have := Paired.length r1; rw [sizeLine_eq]; omega
  have bnd := hb _ (Value.ref (hp.objs.size + 1) :: us) J.kIn (by simpa using len2)
  refine wpAny_call (PySem.HandSPX.call_own F.excBase_ValueError (fun Y => PySem.HandSPX.refsVE_contains Y bm hbm) (I1.kIn _ _ hC) (PySem.W.looks_findIn I1.kIn iC) (fun self => PySem.W.bind_fn I1.kIn self tI) small
    (codeAny_mono (F1.run _ X.stack _ _ ⟨Value.ref (hp.objs.size + 1) :: us, []⟩ _ _ _ _ (hr.make C us []) (J.env0.make C us []) bnd (by simpa using r2) q2) fun r s' back => ?_))
  match r, back with
  | .error er, back => exact hx pins σ _ _ er s' J back
  | .ok (.ret u), back =>
    obtain ⟨v, H', J', rv, ev, q3⟩ := J.after back
    subst ev
    exact ⟨rv, ⟨V.ref (hp.objs.size + 1), H', J', rfl, q3⟩⟩
end
section
variable {σ : L2.St} {H : Hp} {Q : VK} {te to : TE} {ta : TA} {K : PySem.W.Frag} {n bk ct : L2.St → Hp → Prop} {rt : VK} {f : Str} {C : Addr} {sp : Sp}
theorem ost (h : te σ H fun y H1 => to σ H1 fun x H2 => ∃ a C : Addr, x = .ref a ∧ OexC K C ∧ PySem.W.findIn K (.ref C) f = some none ∧
  ((H2 a = some (exo a C none) ∧ ∀ dx, H2 dx = none → dx ≠ a → n σ (upd (upd H2 dx (exd dx [(f, y)])) a (exo a C (some dx)))) ∨
    ∃ (dx : Addr) (fs : List (Str × V)), H2 a = some (exo a C (some dx)) ∧ H2 dx = some (exd dx fs) ∧ fs.length ≤ 900 ∧ n σ (upd H2 dx (exd dx ((f, y) :: fs))))) : tOst K f to te ⟨n, rt, bk, ct⟩ σ H := h
theorem fldV (h : te σ H fun x H1 => ∃ (a C : Addr) (fs : List (Str × V)) (v : V), x = .ref a ∧ XfC K C ∧ PySem.W.findIn K (.ref C) f = some none ∧ Exv H1 a C fs ∧ fs.lookup f = some v ∧ Q v H1) : tFldV K f te σ H Q := h
theorem newV (h : ta σ H fun vs H1 => vs.length ≤ 1000 ∧ ∀ a, H1 a = none → sp (.ref a :: vs) (upd H1 a (exo a C none)) (fun v H2 => v = .non ∧ Q (.ref a) H2) (fun _ _ _ => False)) : tNewV C sp ta σ H Q := h
end
end HS
namespace HS
open PySem PySem.Spec PyProof.Rows L2
/-- the refs of vs are tuples of these two values -/
def PrV (H : Hp) : List V → List (V × V) → Prop
  | [], [] => True
  | v :: vs, p :: ps => (∃ t, v = .ref t ∧ H t = some (.tup [p.1, p.2])) ∧ PrV H vs ps
  | _, _ => False
theorem PrV.keep {S : Addr → Prop} {H H' : Hp} (k : Keep S H H') : ∀ {vs : List V} {ps : List (V × V)}, PrV H vs ps → (∀ v ∈ vs, ∀ t, v = .ref t → ¬ S t) → PrV H' vs ps
  | [], [], h, _ => h
  | _ :: _, _ :: _, ⟨⟨t, e, o⟩, h⟩, n => ⟨⟨t, e, k t _ o (n _ List.mem_cons_self t e)⟩, h.keep k fun v hv => n v (List.mem_cons_of_mem _ hv)⟩
theorem PrV.same {H H' : Hp} {vs : List V} {ps : List (V × V)} (h : PrV H vs ps) (k : Keep (fun _ => False) H H') : PrV H' vs ps :=
  h.keep k fun _ _ _ _ z => z
theorem PrV.len {H : Hp} : ∀ {vs : List V} {ps : List (V × V)}, PrV H vs ps → vs.length = ps.length
  | [], [], _ => rfl
  | _ :: _, _ :: _, ⟨_, h⟩ => by rw [List.length_cons, List.length_cons, h.len]
theorem PrV.at {H : Hp} : ∀ {vs : List V} {ps : List (V × V)} {i : Nat} {v : V}, PrV H vs ps → vs[i]? = some v → ∃ t p, v = .ref t ∧ ps[i]? = some p ∧ H t = some (.tup [p.1, p.2])
  | [], [], i, _, _, e => by cases i <;> cases e
  | x :: _, p :: _, 0, v, ⟨⟨t, e', o⟩, _⟩, e => ⟨t, p, by rw [← Option.some.inj e]; exact e', rfl, o⟩
  | _ :: vs, _ :: ps, i + 1, v, ⟨_, h⟩, e => h.at (i := i) (by rw [List.getElem?_cons_succ] at e; exact e)
end HS
namespace HS
open PySem PySem.Spec PyProof.Rows L2
theorem kisV {X : Cx} (K : PySem.W.Frag) (h : X.K = K := by rfl) : CallR X (.builtin "isinstance") (rIsV K) := h ▸ call_isV
theorem kisi {X : Cx} (K : PySem.W.Frag) (h : X.K = K := by rfl) : CallR X (.builtin "isinstance") (rIsi K) := h ▸ call_isi
section
variable {K : PySem.W.Frag} {H H' : Hp} {Q : VK} {a D C p : Addr} {fs : List (Str × V)} {b : Bool} {o : HO}
theorem Exv.same (h : Exv H a C fs) (k : Keep (fun _ => False) H H') : Exv H' a C fs := by
  obtain ⟨d, e1, e2⟩ := h
  exact ⟨d, k _ _ e1 id, k _ _ e2 id⟩
theorem Exv.new (h : Exv H a C fs) (hp : H p = none) : Exv (upd H p o) a C fs := h.same (Keep.new hp)
theorem isV (T : ExcC K D) (he : Exv H a D fs) (hq : PySem.W.kitOne K (.ref D) (.ref C) = some b) (q : Q (.bl b) H) : rIsV K [.ref a, .ref C] H Q := ⟨a, D, fs, _, _, b, rfl, T, he, .own C, hq, q⟩
theorem isVt {n : String} (T : ExcC K D) (he : Exv H a D fs) (hq : PySem.W.kitOne K (.ref D) (.type n) = some b) (q : Q (.bl b) H) : rIsV K [.ref a, .ty n] H Q := ⟨a, D, fs, _, _, b, rfl, T, he, .ty n, hq, q⟩
end
end HS
namespace HS
open PySem PySem.Spec PyProof.Rows L2
theorem PrV.app {H : Hp} : ∀ {vs ws : List V} {ps qs : List (V × V)}, PrV H vs ps → PrV H ws qs → PrV H (vs ++ ws) (ps ++ qs)
  | [], _, [], _, _, g => g
  | _ :: _, _, _ :: _, _, ⟨a, h⟩, g => ⟨a, h.app g⟩
theorem PrV.new {H : Hp} {p : Addr} {o : HO} {vs : List V} {ps : List (V × V)} (h : PrV H vs ps) (hp : H p = none) : PrV (upd H p o) vs ps := h.same (Keep.new hp)
section
variable {H : Hp} {t0 t1 l : Addr} {x0 y0 x1 y1 : V}
theorem pair2 (h0 : H t0 = none) (h1 : upd H t0 (.tup [x0, y0]) t1 = none) (h2 : upd (upd H t0 (.tup [x0, y0])) t1 (.tup [x1, y1]) l = none) :
    ∃ H1, upd (upd (upd H t0 (.tup [x0, y0])) t1 (.tup [x1, y1])) l (.lst [.ref t0, .ref t1]) = H1 ∧ Keep (fun _ => False) H H1 ∧ PrV H1 [.ref t0, .ref t1] [(x0, y0), (x1, y1)] ∧ H1 l = some (.lst [.ref t0, .ref t1]) := by
  have n1 : t0 ≠ t1 := ne_of_none upd_same h1
  have e0 : upd (upd H t0 (.tup [x0, y0])) t1 (.tup [x1, y1]) t0 = some (.tup [x0, y0]) := by rw [upd_ne n1]; exact upd_same
  have e1 : upd (upd H t0 (.tup [x0, y0])) t1 (.tup [x1, y1]) t1 = some (.tup [x1, y1]) := upd_same
  refine ⟨_, rfl, (Keep.new h0).trans ((Keep.new h1).trans (Keep.new h2)), ⟨⟨t0, rfl, ?_⟩, ⟨t1, rfl, ?_⟩, trivial⟩, upd_same⟩
  · rw [upd_ne (ne_of_none e0 h2)]; exact e0
  · rw [upd_ne (ne_of_none e1 h2)]; exact e1
theorem pair1 (h0 : H t0 = none) (h2 : upd H t0 (.tup [x0, y0]) l = none) :
    ∃ H1, upd (upd H t0 (.tup [x0, y0])) l (.lst [.ref t0]) = H1 ∧ Keep (fun _ => False) H H1 ∧ PrV H1 [.ref t0] [(x0, y0)] ∧ H1 l = some (.lst [.ref t0]) := by
  refine ⟨_, rfl, (Keep.new h0).trans (Keep.new h2), ⟨⟨t0, rfl, ?_⟩, trivial⟩, upd_same⟩
  rw [upd_ne (ne_of_none upd_same h2)]; exact upd_same
end
end HS
namespace HS
open PySem PySem.Spec PyProof.Rows L2
theorem Keep.over {H H' : Hp} {a : Addr} {o : HO} (k : Keep (fun x => x = a) (upd H a o) H') (h : H a = none) : Keep (fun _ => False) H H' := fun p u e _ => by
  have n := ne_of_none e h
  exact k p u (by rw [upd_ne n]; exact e) n
end HS
namespace HS
open PySem PySem.Spec PyProof.Rows L2
/-- the same by the law's own look: leaves, lists and tuples of such -/
inductive SmV (K : PySem.W.Frag) (H : Hp) : Nat → V → V → Prop
  | non {n : Nat} : SmV K H n .non .non
  | bl {n : Nat} (b : Bool) : SmV K H n (.bl b) (.bl b)
  | int {n : Nat} (i : Int) : SmV K H n (.int i) (.int i)
  | str {n : Nat} (x : Str) : SmV K H n (.str x) (.str x)
  | lst {n : Nat} {a b : Addr} {xs ys : List V} : H a = some (.lst xs) → H b = some (.lst ys) → xs.length = ys.length → xs.length ≤ 1000 → (∀ (i : Nat) (x y : V), xs[i]? = some x → ys[i]? = some y → SmV K H n x y) → SmV K H (n + 1) (.ref a) (.ref b)
  | tup {n : Nat} {a b : Addr} {xs ys : List V} : H a = some (.tup xs) → H b = some (.tup ys) → xs.length = ys.length → xs.length ≤ 1000 → (∀ (i : Nat) (x y : V), xs[i]? = some x → ys[i]? = some y → SmV K H n x y) → SmV K H (n + 1) (.ref a) (.ref b)
theorem SmV.same {K : PySem.W.Frag} {H H' : Hp} (k : Keep (fun _ => False) H H') : ∀ {n : Nat} {x y : V}, SmV K H n x y → SmV K H' n x y
  | _, _, _, .non => .non
  | _, _, _, .bl b => .bl b
  | _, _, _, .int i => .int i
  | _, _, _, .str x => .str x
  | _, _, _, .lst h1 h2 h3 h4 h => .lst (k _ _ h1 id) (k _ _ h2 id) h3 h4 fun i x y e1 e2 => (h i x y e1 e2).same k
  | _, _, _, .tup h1 h2 h3 h4 h => .tup (k _ _ h1 id) (k _ _ h2 id) h3 h4 fun i x y e1 e2 => (h i x y e1 e2).same k
/-- x[i] of a list or a tuple -/
def rIxA (K : PySem.W.Frag) : R2 := fun x y H Q => rIxL K x y H Q ∨ rIxT K x y H Q
theorem ixa {X : Cx} (K : PySem.W.Frag) (h : X.K = K := by rfl) : IxR X (rIxA K) := fun value slice pins s σ H x y v u Q I rx ry r =>
  r.elim (fun r => ixl K h value slice pins s σ H x y v u Q I rx ry r) fun r => ixt K h value slice pins s σ H x y v u Q I rx ry r
section
variable {K : PySem.W.Frag} {H : Hp} {Q : VK}
theorem isi {x : V} {m n : String} (b : Bool) (ty : TyX K H x (.type m)) (hq : kitB m n = some b) (q : Q (.bl b) H) : rIsi K [x, .ty n] H Q := ⟨x, _, _, _, b, rfl, .ty n, ty, kit_ty hq, q⟩
theorem isN {x : V} (q : Q (.bl (decide (x = .non))) H) : (fun x y H Q => y = V.non ∧ Q (.bl (decide (x = .non))) H : R2) x .non H Q := ⟨rfl, q⟩
theorem eqS {x y : V} (hs : scal x y = true) (e : x = y) (q : Q (.bl true) H) : rEq x y H Q := ⟨hs, by rw [decide_eq_true e]; exact q⟩
theorem neB {b c : Bool} (q : Q (.bl (!decide (b = c))) H) : rNe (.bl b) (.bl c) H Q := ⟨rfl, by
  have e : decide (V.bl b = V.bl c) = decide (b = c) := by cases b <;> cases c <;> rfl
  rw [e]; exact q⟩
theorem kb_bb : kitB "bool" "bool" = some true := by decide +kernel
theorem kb_ib : kitB "int" "bool" = some false := by decide +kernel
theorem kb_ii : kitB "int" "int" = some true := by decide +kernel
theorem kb_sb : kitB "str" "bool" = some false := by decide +kernel
theorem kb_si : kitB "str" "int" = some false := by decide +kernel
theorem kb_ss : kitB "str" "str" = some true := by decide +kernel
theorem kb_lb : kitB "list" "bool" = some false := by decide +kernel
theorem kb_li : kitB "list" "int" = some false := by decide +kernel
theorem kb_ls : kitB "list" "str" = some false := by decide +kernel
theorem kb_ll : kitB "list" "list" = some true := by decide +kernel
theorem kb_lt : kitB "list" "tuple" = some false := by decide +kernel
theorem kb_tb : kitB "tuple" "bool" = some false := by decide +kernel
theorem kb_ti : kitB "tuple" "int" = some false := by decide +kernel
theorem kb_ts : kitB "tuple" "str" = some false := by decide +kernel
theorem kb_tl : kitB "tuple" "list" = some false := by decide +kernel
theorem kb_tt : kitB "tuple" "tuple" = some true := by decide +kernel
end
end HS
/-! An own exception class called with keywords. -/
namespace PySem
namespace HSK
open HandSPX Builtin Builtin.ObjectAttr
section
variable {prog : Program} {w : World} {A : Around} {E : Value → Shared → Prop} {R : Result → Shared → Prop} {h : Heap} {g : Array GenState} {d : Drawn} {t : Nat} {os : OsState} {kw : List (Str × Value)} {fI : Addr}
variable {nm q : Str} {C N : Addr} {bs bm bmB : List Value} {hdct : Bool} {sn : List Str} {sub : List Value} {ab : Bool} {col : Option Bool} {dd : Option Addr} {k0 k1 k2 k3 k5 : Option Value} {B newId initId : String}
theorem kw_check_new {M : Model} (F : ExcBaseFacts B newId initId bmB) (hT : ∀ X : String, bm.contains (.type X) = bmB.contains (.type X)) {Q : Unit → Shared → Prop} (hC : h.get? C = some (excClassObj nm q C N bs bm hdct sn sub ab col dd k0 k1 k2 k3 k5 newId)) (z : Q () ⟨h, g, d, t, os⟩) :
    wpAny M A (checkBuiltinCall newId ⟨[.ref C], kw⟩) Q E ⟨h, g, d, t, os⟩ := by
  have inB : (Value.ref C :: bm).contains (.type B) = true := by rw [List.contains_cons, hT, F.hasB, Bool.or_true]
  have star := F.noStar
  simp only [checkBuiltinCall, F.newKind, F.newSplit, F.newRow]
  repeat (first | refine wpAny_loadPart_at hC ?_ | (refine wpAny_isSubtype_exc hC ?_; rw [inB]) | refine wpAny_staticBase_exc hC ?_ | refine wpAny_madeBy_exc hC ?_ | simp only [bne_self_eq_false, Bool.false_eq_true, if_false] | wp_step)
  exact z
theorem kw_new (F : ExcBaseFacts B newId initId bmB) (hT : ∀ X : String, bm.contains (.type X) = bmB.contains (.type X)) (hC : h.get? C = some (excClassObj nm q C N bs bm hdct sn sub ab col dd k0 k1 k2 k3 k5 newId))
    (z : R (.ok (.ret (.ref (h.objs.size + 1)))) ⟨(h.push (W.kdv_tup [])).push (excO C h.objs.size), g, d, t, os⟩) : codeAny (model prog w) A (.builtin newId ⟨[.ref C], kw⟩) R ⟨h, g, d, t, os⟩ := by
  have ends := F.ends
  have inB : (Value.ref C :: bm).contains (.type B) = true := by rw [List.contains_cons, hT, F.hasB, Bool.or_true]
  have noA : (Value.ref C :: bm).contains (.type "AttributeError") = false := by rw [List.contains_cons, hT, F.noAttr]; rfl
  have noN : (Value.ref C :: bm).contains (.type "NameError") = false := by rw [List.contains_cons, hT, F.noName]; rfl
  have tiny : ([] : List Value).length ≤ sizeLine := Nat.zero_le _
  refine codeAny_builtinAt F.entry ?_
  unfold Builtin.«BaseException.__new__»
  refine wpAt_bind ?_
  show wpAt _ _ _ (stack >>= _) _ _ _
  refine wpAt_bind (wpAt_stack fun p below => wpAt_of_wpAny ?_)
  wp_walk
  refine wpAt_of_wpAny ?_
  rw [F.owner]
  repeat (first | with_reducible refine wpAny_madeHere_exc F.canon hC ?_ | with_reducible refine wpAny_loadPart_at hC ?_ | (with_reducible refine wpAny_isSubtype_exc hC ?_; first | rw [inB] | rw [noA] | rw [noN]) | wp_step)
  show R _ _
  rw [Heap.size_push]
  exact z
theorem kw_type_call (F : ExcBaseFacts B newId initId bmB) (hT : ∀ X : String, bm.contains (.type X) = bmB.contains (.type X)) {Q : Fin → Shared → Prop} (hC : h.get? C = some (excClassObj nm q C N bs bm hdct sn sub ab col dd k0 k1 k2 k3 k5 newId))
    (li : W.Looks (model prog w) h (typeLookup (.ref C) "__init__") (some (.ref fI))) (lb : ∀ self, W.Looks (model prog w) h (bindSpecial (.ref fI) self) (.ref fI, [self]))
    (run : codeAny (model prog w) A (.call (.ref fI) ⟨[.ref (h.objs.size + 1)], kw⟩) (fun r s' => match r with | .ok (.ret v) => v = .none ∧ Q (.done (.ret (.ref (h.objs.size + 1)))) s' | .ok _ => False | .error e => E e s')
      ⟨(h.push (W.kdv_tup [])).push (excO C h.objs.size), g, d, t, os⟩) : wpAny (model prog w) A (Builtin.«type.__call__» ⟨[.ref C], kw⟩) Q E ⟨h, g, d, t, os⟩ := by
  repeat (first | with_reducible refine wpAny_loadPart_at hC ?_ | with_reducible refine wpAny_madeBy_exc hC ?_ | wp_step)
  refine codeAny_call_builtin_code (Code.quiet_builtin _ F.quiet) (kw_check_new F hT hC (kw_new F hT hC ?_))
  have up : ∀ b o, h.get? b = some o → ((h.push (W.kdv_tup [])).push (excO C h.objs.size)).get? b = some o := fun _ _ y => Heap.get?_push_of_some _ (Heap.get?_push_of_some _ y)
  have hC2 := up _ _ hC
  have hE : ((h.push (W.kdv_tup [])).push (excO C h.objs.size)).get? (h.objs.size + 1) = some (excO C h.objs.size) := by heap_get
  have isC : (Value.ref C :: bm).contains (.ref C) = true := by simp
  have li2 := li.keeps up
  have lb2 := (lb (.ref (h.objs.size + 1))).keeps up
  show wpAny _ _ _ _ _ _
  unfold isInstance
  repeat (first | with_reducible refine wpAny_loadPart_at hE ?_ | (with_reducible refine wpAny_isSubtype_exc hC2 ?_; rw [isC]) | wp_step)
  show wpAny _ _ (typeLookup (.ref C) _) _ _ _
  refine li2.at (wpAny_holding (wpAny_bind (lb2.at (wpAny_bind (wpAny_call (codeAny_mono run fun r s' y => ?_))))))
  rcases r with e | (v | _ | _ | _) <;> first | exact y | exact y.elim | skip
  obtain ⟨y0, y⟩ := y
  subst y0
  first
    | exact wpAny_pure (wpAny_pure y)
    | (wp_walk; exact y)
theorem kw_call (F : ExcBaseFacts B newId initId bmB) (hT : ∀ X : String, bm.contains (.type X) = bmB.contains (.type X)) (hC : h.get? C = some (excClassObj nm q C N bs bm hdct sn sub ab col dd k0 k1 k2 k3 k5 newId))
    (li : W.Looks (model prog w) h (typeLookup (.ref C) "__init__") (some (.ref fI))) (lb : ∀ self, W.Looks (model prog w) h (bindSpecial (.ref fI) self) (.ref fI, [self]))
    (run : codeAny (model prog w) (A.under (.builtin "type.__call__" ⟨[.ref C], kw⟩)) (.call (.ref fI) ⟨[.ref (h.objs.size + 1)], kw⟩) (W.InitBack (h.objs.size + 1) R) ⟨(h.push (W.kdv_tup [])).push (excO C h.objs.size), g, d, t, os⟩) :
    codeAny (model prog w) A (.call (.ref C) ⟨[], kw⟩) R ⟨h, g, d, t, os⟩ := by
  have c1 := tc_lookup
  have c2 := tc_bind (.ref C)
  have ty : (⟨h, g, d, t, os⟩ : Shared).TypeIs (.ref C) "type" := ⟨_, hC, rfl⟩
  refine codeAny_of_tree ?_
  show wpAny _ _ (callAny (.ref C) _) _ _ _
  repeat (any_goals (first | assumption | with_reducible refine wpAny_loadPart_at hC ?_ | wp_step))
  refine ⟨rfl, codeAny_call_builtin_at (Code.quiet_builtin _ (by decide +kernel)) entry_typeCall (wpAny_check_type_call_sub hC (kw_type_call F hT hC li lb ?_))⟩
  refine codeAny_mono run fun r s' y => ?_
  rcases r with e | (v | _ | _ | _) <;> exact y
end
end HSK
end PySem
namespace HS
open PySem PySem.Spec PyProof.Rows L2
/-- C(k = v) as a value -/
def tNewK (C : Addr) (n : Nat) (sp : Sp) (gV : List V → List V → List V) (tk : TA) : TE := fun σ H Q => tk σ H fun zs H1 => zs.length = n ∧ ∀ a, H1 a = none → sp (gV [.ref a] zs) (upd H1 a (exo a C none)) (fun v H2 => v = .non ∧ Q (.ref a) H2) (fun _ _ _ => False)
section
variable {X : Cx} {CX : CXT} {x : Str} {C fI : Addr} {k : Nat} {fd : FuncData} {ps ks : List Str} {sp : Sp} {kws : List Keyword} {tk : TA} {p pos : Pos} {g : List Value → List Value → List Value} {gV : List V → List V → List V}
theorem pe_newK (T : OexC X.K C) (iC : PySem.W.findIn X.K (.ref C) "__init__" = some (some (.ref fI))) (tI : PySem.W.typeIn X.K (.ref fI) = some (.type "function"))
    (F1 : FnOk X.prog X.w X.K X.mg X.base CX k fI fd ps sp) (hr : Room (k + 1) X.A) (hb : KBn X.K fd ps 1 ks g gV) (hx : Passes CX X (fun _ _ _ => False)) (hg : Gl X x) (hm : X.mg x = some (.ref C)) (hkw : PK X kws tk)
    (hall : (backToKw pos (keywordEach kws X.env)).all (·.1.isSome) = true := by rfl) (hks : (backToKw pos (keywordEach kws X.env)).filterMap (·.1) = ks := by rfl) (hdb : (x == ("__debug__" : Str)) = false := by decide)
    (hpl : ((backTo pos (starEach [] X.env)).any (·.1) || (backToKw pos (keywordEach kws X.env)).any (·.1.isNone)) = false := by rfl) : PE X (.Call (.Name x p) [] kws pos) (tNewK C ks.length sp gV tk) := by
  refine ⟨fun pins s σ H Q I hw => wpAny_Call_Name_kw (ld_glob I hg hm (PySem.W.callWith_KW0 (h₀ := X.base) I.ok.mod.kin T.kC hall (thn (hkw.run pos pins s σ H _ I hw) fun ws s1 ⟨zs, H1, I1, rz, lz, q1⟩ => ⟨I1.kIn, ?_⟩) hpl) hdb)⟩
  obtain ⟨nm, qn, N, bs, bm, sn, sub, ab, col, dd, k0, k1, k2, k3, k5, hC, hbm⟩ := T.cls
  rw [hks]
  obtain ⟨hp, g0, dr, t, os⟩ := s1
  have le1 : hp.objs.size ≤ hp.objs.size + 1 := by omega
  have kept : ∀ b o, hp.get? b = some o → ((hp.push (PySem.W.kdv_tup [])).push (PySem.HandSPX.excO C hp.objs.size)).get? b = some o := fun _ _ z => Heap.get?_push_of_some _ (Heap.get?_push_of_some _ z)
  have at1 : ((hp.push (PySem.W.kdv_tup [])).push (PySem.HandSPX.excO C hp.objs.size)).get? (hp.objs.size + 1) = some (PySem.HandSPX.excO C hp.objs.size) := by heap_get
  have J : Inv X pins σ (upd H1 (hp.objs.size + 1) (exo (hp.objs.size + 1) C none)) ⟨(hp.push (PySem.W.kdv_tup [])).push (PySem.HandSPX.excO C hp.objs.size), g0, dr, t, os⟩ := I1.laid (t' := t) kept le1 (exo_ok at1)
  have q2 := q1 (hp.objs.size + 1) (I1.hok.fresh le1)
  have r1 : Vals [V.ref (hp.objs.size + 1)] [Value.ref (hp.objs.size + 1)] := .cons rfl .nil
  have bnd := hb.to _ [Value.ref (hp.objs.size + 1)] ws J.kIn rfl (rz.length.symm.trans lz)
  refine wpAny_call (PySem.HSK.kw_call F.excBase_ValueError (fun Y => PySem.HandSPX.refsVE_contains Y bm hbm) (I1.kIn _ _ hC) (PySem.W.looks_findIn I1.kIn iC) (fun self => PySem.W.bind_fn I1.kIn self tI)
    (codeAny_mono (F1.run _ X.stack _ _ ⟨[Value.ref (hp.objs.size + 1)], ks.zip ws⟩ _ _ _ _ (hr.make C [] (ks.zip ws)) (J.env0.make C [] (ks.zip ws)) bnd (hb.rel r1 rz) q2) fun r s' back => ?_))
  match r, back with
  | .error er, back => exact hx pins σ _ _ er s' J back
  | .ok (.ret u), back =>
    obtain ⟨v, H', J', rv, ev, q3⟩ := J.after back
    subst ev
    exact ⟨rv, ⟨V.ref (hp.objs.size + 1), H', J', rfl, q3⟩⟩
end
section
variable {σ : L2.St} {H : Hp} {Q : VK} {C : Addr} {sp : Sp} {m : Nat} {gV : List V → List V → List V} {tk : TA}
theorem newK (h : tk σ H fun zs H1 => zs.length = m ∧ ∀ a, H1 a = none → sp (gV [.ref a] zs) (upd H1 a (exo a C none)) (fun v H2 => v = .non ∧ Q (.ref a) H2) (fun _ _ _ => False)) : tNewK C m sp gV tk σ H Q := h
end
end HS
namespace WK01
open PySem PySem.Spec PyProof.Rows L2
local macro_rules | `(tactic| walk_at "ne") => `(tactic| first | assumption | (apply Ne.symm; assumption) | exact ne_of_none (by assumption) (by assumption) | exact (ne_of_none (by assumption) (by assumption)).symm | exact ne_of_none upd_same (by assumption) | exact (ne_of_none upd_same (by assumption)).symm)
local macro_rules | `(tactic| walk_at "hp") => `(tactic| first | assumption | exact upd_same | (rw [upd_ne (by walk_at "ne")]; walk_at "hp"))
local macro_rules | `(tactic| walk_at "side") => `(tactic| first | omega | decide | assumption | exact ⟨by decide, by decide⟩ | exact ⟨by omega, by omega⟩ | exact .inl (by omega) | exact .inr (by omega) | exact .inl (by decide) | exact .inr (by decide) | exact ⟨by decide, by decide, by decide⟩ | exact ⟨by decide, by decide, by omega⟩ | exact .inl ⟨by omega, by omega⟩ | exact .inr ⟨by omega, by omega⟩ | exact .inr ⟨by decide, by decide⟩ | exact .inl ⟨by decide, by decide⟩ | (show _ < _; omega))
local macro_rules | `(tactic| walk_at "len") => `(tactic| ((try simp only [List.length_map, List.length_append, List.length_cons, List.length_nil, List.length_set, List.length_replicate]); omega))
local macro_rules | `(tactic| walk_at "sq") => `(tactic| first | assumption | exact HS.sq (by walk_at "hp"))
local macro_rules | `(tactic| walk_at "st") => `(tactic| first | assumption | exact HS.st (by walk_at "hp"))
local macro_rules | `(tactic| walk_at "h1") => `(tactic| first
  | with_reducible refine HS.seq ?_
  | with_reducible refine HS.asg ?_
  | with_reducible refine HS.nm ?_
  | with_reducible refine HS.var rfl ?_
  | with_reducible refine HS.cst ?_
  | with_reducible refine HS.op ?_
  | with_reducible refine HS.i0 ?_
  | ((with_reducible refine HS.i1 ?_); first | refine ⟨by walk_at "side", ?_⟩ | skip)
  | with_reducible refine HS.u0 ?_
  | with_reducible refine HS.un ?_
  | with_reducible refine HS.eqI ?_
  | with_reducible refine HS.neI ?_
  | with_reducible refine HS.tst ?_
  | with_reducible refine HS.tb1 ?_
  | with_reducible refine HS.bex ?_
  | with_reducible refine HS.ifs ?_
  | with_reducible refine HS.ife ?_
  | with_reducible refine HS.and ?_
  | with_reducible refine HS.or ?_
  | with_reducible refine HS.not ?_
  | with_reducible refine HS.andV ?_
  | with_reducible refine HS.orV ?_
  | with_reducible refine HS.notV ?_
  | with_reducible refine HS.chn ?_
  | with_reducible refine HS.ret ?_
  | with_reducible refine HS.retN ?_
  | with_reducible refine HS.drp ?_
  | with_reducible refine HS.cb ?_
  | with_reducible refine HS.anil ?_
  | with_reducible refine HS.acons ?_
  | with_reducible refine HS.cal ?_
  | with_reducible refine HS.tup ?_
  | with_reducible refine HS.lst ?_
  | with_reducible refine HS.par ?_
  | with_reducible refine HS.ex2 ?_
  | with_reducible refine HS.aug rfl ?_
  | with_reducible refine HS.ipi ?_
  | with_reducible refine HS.addI ?_
  | with_reducible refine HS.nxt ?_
  | with_reducible refine HS.brk ?_
  | with_reducible refine HS.cnt ?_
  | with_reducible refine HS.sub ?_
  | with_reducible refine HS.pnx ?_
  | with_reducible refine HS.prt ?_
  | with_reducible refine HS.pbk ?_
  | with_reducible refine HS.pct ?_
  | with_reducible refine iteF ?_
  | with_reducible refine iteT ?_
  | with_reducible refine HS.ii ?_
  | with_reducible refine HS.bmL ?_
  | with_reducible refine HS.bmL0 ?_
  | ((with_reducible refine' HS.tyL ?e ?_); case e => walk_at "hp")
  | ((with_reducible refine' HS.app ?e ?_); (case e => walk_at "hp"))
  | ((with_reducible refine' HS.setL ?e ?f ?_); (case e => walk_at "hp"); (case f => rfl))
  | ((with_reducible refine' HS.wp ?e ?_); case e => rfl)
  | ((with_reducible refine' HS.szc ?e ?_); case e => walk_at "len")
  | ((with_reducible refine' HS.szd ?e ?_); case e => walk_at "len")
  | with_reducible refine HS.yes ?_
  | with_reducible refine HS.lc ?_
  | with_reducible refine HS.rng1 ?_
  | with_reducible refine HS.rng2 ?_
  | with_reducible refine HS.rng3 ?_
  | with_reducible refine HS.lis ?_
  | with_reducible refine HS.fr ?_
  | with_reducible refine HS.i1e ?_
  | with_reducible refine HS.gthen ?_
  | with_reducible refine HS.g0 ?_
  | with_reducible refine HS.gfr ?_
  | with_reducible refine HS.gpl ?_
  | with_reducible refine HS.gyl ?_
  | with_reducible refine HS.lgn ?_
  | with_reducible refine HS.calg ?_
  | with_reducible refine HS.revL ?_
  | with_reducible refine HS.sl ?_
  | with_reducible refine HS.noP ?_
  | with_reducible refine HS.part ?_
  | with_reducible refine HS.ie ?_
  | ((with_reducible refine' HS.slLs ?e ?_); case e => walk_at "sq")
  | ((with_reducible refine' HS.gtup ?e ?f ?_); (case e => walk_at "st"); (case f => rfl))
  | with_reducible refine HS.gcons ?_
  | with_reducible refine HS.gnil ?_
  | with_reducible refine HS.itup ?_
  | with_reducible refine HS.ienu ?_
  | ((with_reducible refine' HS.cat ?e ?f ?_); (case e => walk_at "hp"); (case f => walk_at "hp"))
  | ((with_reducible refine' HS.ext ?e ?f ?_); (case e => walk_at "hp"); (case f => walk_at "hp"))
  | ((with_reducible refine' HS.sumL ?e ?_); case e => walk_at "sq")
  | ((with_reducible refine' HS.lenL ?e ?_); case e => walk_at "sq")
  | ((with_reducible refine' HS.lenT ?e ?_); case e => walk_at "st")
  | with_reducible refine HS.ra ?_
  | ((with_reducible refine' HS.ixL ?e ?f ?_); (case e => walk_at "sq"); (case f => rfl))
  | ((with_reducible refine' HS.ixT ?e ?f ?_); (case e => walk_at "st"); (case f => rfl)))
local macro_rules | `(tactic| walk_at "hs") => `(tactic| repeat' (walk_at "h1"))
local macro_rules | `(tactic| walk_at "fold") => `(tactic| (walk_at "hs"; assumption))
local macro_rules | `(tactic| walk_at "ns") => `(tactic| first | exact (fun z => z) | assumption | exact HS.nS2 (by walk_at "ne") (by walk_at "ne") | exact HS.nS3 (by walk_at "ne") (by walk_at "ne") (by walk_at "ne"))
local macro_rules | `(tactic| walk_at "kp") => `(tactic| first
  | assumption
  | exact HS.Keep.refl
  | (refine HS.Keep.at ?_ (by first | exact .inl rfl | exact .inr rfl | exact .inr (.inl rfl) | exact .inr (.inr rfl)); walk_at "kp")
  | (refine HS.Keep.put ?_ (by assumption); walk_at "kp")
  | (refine HS.Keep.new' (by assumption) (by first | assumption | exact HS.Keep.refl) (by walk_at "ns") ?_; walk_at "kp"))
local macro_rules | `(tactic| walk_at "ev") => `(tactic| first | assumption | exact HS.Exv.new (by walk_at "ev") (by assumption))
local macro_rules | `(tactic| walk_at "h1") => `(tactic| first
  | with_reducible refine HS.ost ?_
  | with_reducible refine HS.fldV ?_
  | with_reducible refine HS.newV ?_
  | with_reducible refine HS.newK ?_
  | ((with_reducible refine' HS.isV ?T ?he ?hq ?_); (case T => assumption); (case he => walk_at "ev"); (case hq => assumption))
  | ((with_reducible refine' HS.isVt ?T ?he ?hq ?_); (case T => assumption); (case he => walk_at "ev"); (case hq => assumption)))
def topS (i : Nat) : Stmt := PySem.Challenge.pw_pagecounts_k01_errors_and_their_values.main.body.getD i (.Pass ⟨0, 0, 0, 0⟩)
abbrev s__law_source : Stmt := topS 10
abbrev N__law_source : List Str := ["script", "mix", "digits", "cell", "span"]
theorem sc__law_source : FnScope N__law_source ["script"] (defScope s__law_source) := ⟨rfl, rfl, rfl, by decide +kernel, rfl, by decide +kernel, by decide +kernel⟩
abbrev s__law_draw : Stmt := topS 11
abbrev N__law_draw : List Str := ["source", "many", "drawn", "mixed"]
theorem sc__law_draw : FnScope N__law_draw ["source", "many"] (defScope s__law_draw) := ⟨rfl, rfl, rfl, by decide +kernel, rfl, by decide +kernel, by decide +kernel⟩
abbrev s_InvalidBook___init__ : Stmt := HS.inS (topS 2) 0
abbrev N_InvalidBook___init__ : List Str := ["self", "value"]
theorem sc_InvalidBook___init__ : FnScope N_InvalidBook___init__ ["self", "value"] (defScope s_InvalidBook___init__) := ⟨rfl, rfl, rfl, by decide +kernel, rfl, by decide +kernel, by decide +kernel⟩
abbrev s_InvalidSize___init__ : Stmt := HS.inS (topS 3) 0
abbrev N_InvalidSize___init__ : List Str := ["self", "value"]
theorem sc_InvalidSize___init__ : FnScope N_InvalidSize___init__ ["self", "value"] (defScope s_InvalidSize___init__) := ⟨rfl, rfl, rfl, by decide +kernel, rfl, by decide +kernel, by decide +kernel⟩
abbrev s_InvalidTable___init__ : Stmt := HS.inS (topS 4) 0
abbrev N_InvalidTable___init__ : List Str := ["self", "value"]
theorem sc_InvalidTable___init__ : FnScope N_InvalidTable___init__ ["self", "value"] (defScope s_InvalidTable___init__) := ⟨rfl, rfl, rfl, by decide +kernel, rfl, by decide +kernel, by decide +kernel⟩
abbrev s_InvalidChain___init__ : Stmt := HS.inS (topS 5) 0
abbrev N_InvalidChain___init__ : List Str := ["self", "value"]
theorem sc_InvalidChain___init__ : FnScope N_InvalidChain___init__ ["self", "value"] (defScope s_InvalidChain___init__) := ⟨rfl, rfl, rfl, by decide +kernel, rfl, by decide +kernel, by decide +kernel⟩
abbrev s_InvalidNumber___init__ : Stmt := HS.inS (topS 6) 0
abbrev N_InvalidNumber___init__ : List Str := ["self", "value"]
theorem sc_InvalidNumber___init__ : FnScope N_InvalidNumber___init__ ["self", "value"] (defScope s_InvalidNumber___init__) := ⟨rfl, rfl, rfl, by decide +kernel, rfl, by decide +kernel, by decide +kernel⟩
abbrev s_NothingToUndo___init__ : Stmt := HS.inS (topS 7) 0
abbrev N_NothingToUndo___init__ : List Str := ["self", "value"]
theorem sc_NothingToUndo___init__ : FnScope N_NothingToUndo___init__ ["self", "value"] (defScope s_NothingToUndo___init__) := ⟨rfl, rfl, rfl, by decide +kernel, rfl, by decide +kernel, by decide +kernel⟩
abbrev s_Unreadable___init__ : Stmt := HS.inS (topS 8) 0
abbrev N_Unreadable___init__ : List Str := ["self", "value"]
theorem sc_Unreadable___init__ : FnScope N_Unreadable___init__ ["self", "value"] (defScope s_Unreadable___init__) := ⟨rfl, rfl, rfl, by decide +kernel, rfl, by decide +kernel, by decide +kernel⟩
abbrev s__law_error : Stmt := topS 13
abbrev N__law_error : List Str := ["e", "held", "names", "name", "is_one"]
theorem sc__law_error : FnScope N__law_error ["e"] (defScope s__law_error) := ⟨rfl, rfl, rfl, by decide +kernel, rfl, by decide +kernel, by decide +kernel⟩
abbrev s__law_made : Stmt := topS 14
abbrev N__law_made : List Str := ["door", "what", "by_name"]
theorem sc__law_made : FnScope N__law_made ["door", "what", "by_name"] (defScope s__law_made) := ⟨rfl, rfl, rfl, by decide +kernel, rfl, by decide +kernel, by decide +kernel⟩
abbrev s__law_same : Stmt := topS 12
abbrev N__law_same : List Str := ["found", "wanted", "k"]
theorem sc__law_same : FnScope N__law_same ["found", "wanted"] (defScope s__law_same) := ⟨rfl, rfl, rfl, by decide +kernel, rfl, by decide +kernel, by decide +kernel⟩
abbrev s_law : Stmt := topS 15
abbrev N_law : List Str := ["script", "source", "names", "k", "far", "what", "door", "by_name"]
theorem sc_law : FnScope N_law ["script"] (defScope s_law) := ⟨rfl, rfl, rfl, by decide +kernel, rfl, by decide +kernel, by decide +kernel⟩
structure Ad where
  a__law_source : Addr
  d__law_source : FuncData
  a__law_draw : Addr
  d__law_draw : FuncData
  a_InvalidBook___init__ : Addr
  d_InvalidBook___init__ : FuncData
  a_InvalidSize___init__ : Addr
  d_InvalidSize___init__ : FuncData
  a_InvalidTable___init__ : Addr
  d_InvalidTable___init__ : FuncData
  a_InvalidChain___init__ : Addr
  d_InvalidChain___init__ : FuncData
  a_InvalidNumber___init__ : Addr
  d_InvalidNumber___init__ : FuncData
  a_NothingToUndo___init__ : Addr
  d_NothingToUndo___init__ : FuncData
  a_Unreadable___init__ : Addr
  d_Unreadable___init__ : FuncData
  a__law_error : Addr
  d__law_error : FuncData
  a__law_made : Addr
  d__law_made : FuncData
  a__law_same : Addr
  d__law_same : FuncData
  a_law : Addr
  d_law : FuncData
  c_InvalidBook : Addr
  c_InvalidSize : Addr
  c_InvalidTable : Addr
  c_InvalidChain : Addr
  c_InvalidNumber : Addr
  c_NothingToUndo : Addr
  c_Unreadable : Addr
  c_BookError : Addr
structure Txt (K : PySem.W.Frag) (mg : Str → Option Value) (A : Ad) : Prop where
  F__law_source : Fun K "_law_source" "_law_source" s__law_source A.a__law_source A.d__law_source
  g__law_source : mg "_law_source" = some (.ref A.a__law_source)
  b__law_source : Binds K A.d__law_source ["script"] []
  F__law_draw : Fun K "_law_draw" "_law_draw" s__law_draw A.a__law_draw A.d__law_draw
  g__law_draw : mg "_law_draw" = some (.ref A.a__law_draw)
  b__law_draw : Binds K A.d__law_draw ["source", "many"] []
  F_InvalidBook___init__ : Fun K "__init__" "InvalidBook.__init__" s_InvalidBook___init__ A.a_InvalidBook___init__ A.d_InvalidBook___init__
  b_InvalidBook___init__ : Binds K A.d_InvalidBook___init__ ["self", "value"] []
  F_InvalidSize___init__ : Fun K "__init__" "InvalidSize.__init__" s_InvalidSize___init__ A.a_InvalidSize___init__ A.d_InvalidSize___init__
  b_InvalidSize___init__ : Binds K A.d_InvalidSize___init__ ["self", "value"] []
  F_InvalidTable___init__ : Fun K "__init__" "InvalidTable.__init__" s_InvalidTable___init__ A.a_InvalidTable___init__ A.d_InvalidTable___init__
  b_InvalidTable___init__ : Binds K A.d_InvalidTable___init__ ["self", "value"] []
  F_InvalidChain___init__ : Fun K "__init__" "InvalidChain.__init__" s_InvalidChain___init__ A.a_InvalidChain___init__ A.d_InvalidChain___init__
  b_InvalidChain___init__ : Binds K A.d_InvalidChain___init__ ["self", "value"] []
  F_InvalidNumber___init__ : Fun K "__init__" "InvalidNumber.__init__" s_InvalidNumber___init__ A.a_InvalidNumber___init__ A.d_InvalidNumber___init__
  b_InvalidNumber___init__ : Binds K A.d_InvalidNumber___init__ ["self", "value"] []
  F_NothingToUndo___init__ : Fun K "__init__" "NothingToUndo.__init__" s_NothingToUndo___init__ A.a_NothingToUndo___init__ A.d_NothingToUndo___init__
  b_NothingToUndo___init__ : Binds K A.d_NothingToUndo___init__ ["self", "value"] []
  F_Unreadable___init__ : Fun K "__init__" "Unreadable.__init__" s_Unreadable___init__ A.a_Unreadable___init__ A.d_Unreadable___init__
  b_Unreadable___init__ : Binds K A.d_Unreadable___init__ ["self", "value"] []
  F__law_error : Fun K "_law_error" "_law_error" s__law_error A.a__law_error A.d__law_error
  g__law_error : mg "_law_error" = some (.ref A.a__law_error)
  b__law_error : Binds K A.d__law_error ["e"] []
  F__law_made : Fun K "_law_made" "_law_made" s__law_made A.a__law_made A.d__law_made
  g__law_made : mg "_law_made" = some (.ref A.a__law_made)
  b__law_made : Binds K A.d__law_made ["door", "what", "by_name"] []
  F__law_same : Fun K "_law_same" "_law_same" s__law_same A.a__law_same A.d__law_same
  g__law_same : mg "_law_same" = some (.ref A.a__law_same)
  b__law_same : Binds K A.d__law_same ["found", "wanted"] []
  F_law : Fun K "law" "law" s_law A.a_law A.d_law
  g_law : mg "law" = some (.ref A.a_law)
  b_law : Binds K A.d_law ["script"] []
  z_ValueError : mg "ValueError" = none
  z_bool : mg "bool" = none
  z_int : mg "int" = none
  z_isinstance : mg "isinstance" = none
  z_len : mg "len" = none
  z_list : mg "list" = none
  z_max : mg "max" = none
  z_min : mg "min" = none
  z_range : mg "range" = none
  z_str : mg "str" = none
  z_tuple : mg "tuple" = none
  m_InvalidBook : mg "InvalidBook" = some (.ref A.c_InvalidBook)
  m_InvalidSize : mg "InvalidSize" = some (.ref A.c_InvalidSize)
  m_InvalidTable : mg "InvalidTable" = some (.ref A.c_InvalidTable)
  m_InvalidChain : mg "InvalidChain" = some (.ref A.c_InvalidChain)
  m_InvalidNumber : mg "InvalidNumber" = some (.ref A.c_InvalidNumber)
  m_NothingToUndo : mg "NothingToUndo" = some (.ref A.c_NothingToUndo)
  m_Unreadable : mg "Unreadable" = some (.ref A.c_Unreadable)
  m_BookError : mg "BookError" = some (.ref A.c_BookError)
  C_InvalidBook : OexC K A.c_InvalidBook
  V_InvalidBook : ExcC K A.c_InvalidBook
  X_InvalidBook : XfC K A.c_InvalidBook
  n_InvalidBook : PySem.W.findIn K (.ref A.c_InvalidBook) "value" = some none
  i_InvalidBook : PySem.W.findIn K (.ref A.c_InvalidBook) "__init__" = some (some (.ref A.a_InvalidBook___init__))
  t_InvalidBook : PySem.W.typeIn K (.ref A.a_InvalidBook___init__) = some (.type "function")
  k_InvalidBook : KBn K A.d_InvalidBook___init__ ["self", "value"] 1 ["value"] (fun us ws => us ++ ws) (fun vs zs => vs ++ zs)
  q_InvalidBook_InvalidBook : PySem.W.kitOne K (.ref A.c_InvalidBook) (.ref A.c_InvalidBook) = some true
  q_InvalidBook_InvalidSize : PySem.W.kitOne K (.ref A.c_InvalidBook) (.ref A.c_InvalidSize) = some false
  q_InvalidBook_InvalidTable : PySem.W.kitOne K (.ref A.c_InvalidBook) (.ref A.c_InvalidTable) = some false
  q_InvalidBook_InvalidChain : PySem.W.kitOne K (.ref A.c_InvalidBook) (.ref A.c_InvalidChain) = some false
  q_InvalidBook_InvalidNumber : PySem.W.kitOne K (.ref A.c_InvalidBook) (.ref A.c_InvalidNumber) = some false
  q_InvalidBook_NothingToUndo : PySem.W.kitOne K (.ref A.c_InvalidBook) (.ref A.c_NothingToUndo) = some false
  q_InvalidBook_Unreadable : PySem.W.kitOne K (.ref A.c_InvalidBook) (.ref A.c_Unreadable) = some false
  q_InvalidBook_BookError : PySem.W.kitOne K (.ref A.c_InvalidBook) (.ref A.c_BookError) = some true
  q_InvalidBook_ValueError : PySem.W.kitOne K (.ref A.c_InvalidBook) (.type "ValueError") = some true
  C_InvalidSize : OexC K A.c_InvalidSize
  V_InvalidSize : ExcC K A.c_InvalidSize
  X_InvalidSize : XfC K A.c_InvalidSize
  n_InvalidSize : PySem.W.findIn K (.ref A.c_InvalidSize) "value" = some none
  i_InvalidSize : PySem.W.findIn K (.ref A.c_InvalidSize) "__init__" = some (some (.ref A.a_InvalidSize___init__))
  t_InvalidSize : PySem.W.typeIn K (.ref A.a_InvalidSize___init__) = some (.type "function")
  k_InvalidSize : KBn K A.d_InvalidSize___init__ ["self", "value"] 1 ["value"] (fun us ws => us ++ ws) (fun vs zs => vs ++ zs)
  q_InvalidSize_InvalidBook : PySem.W.kitOne K (.ref A.c_InvalidSize) (.ref A.c_InvalidBook) = some false
  q_InvalidSize_InvalidSize : PySem.W.kitOne K (.ref A.c_InvalidSize) (.ref A.c_InvalidSize) = some true
  q_InvalidSize_InvalidTable : PySem.W.kitOne K (.ref A.c_InvalidSize) (.ref A.c_InvalidTable) = some false
  q_InvalidSize_InvalidChain : PySem.W.kitOne K (.ref A.c_InvalidSize) (.ref A.c_InvalidChain) = some false
  q_InvalidSize_InvalidNumber : PySem.W.kitOne K (.ref A.c_InvalidSize) (.ref A.c_InvalidNumber) = some false
  q_InvalidSize_NothingToUndo : PySem.W.kitOne K (.ref A.c_InvalidSize) (.ref A.c_NothingToUndo) = some false
  q_InvalidSize_Unreadable : PySem.W.kitOne K (.ref A.c_InvalidSize) (.ref A.c_Unreadable) = some false
  q_InvalidSize_BookError : PySem.W.kitOne K (.ref A.c_InvalidSize) (.ref A.c_BookError) = some true
  q_InvalidSize_ValueError : PySem.W.kitOne K (.ref A.c_InvalidSize) (.type "ValueError") = some true
  C_InvalidTable : OexC K A.c_InvalidTable
  V_InvalidTable : ExcC K A.c_InvalidTable
  X_InvalidTable : XfC K A.c_InvalidTable
  n_InvalidTable : PySem.W.findIn K (.ref A.c_InvalidTable) "value" = some none
  i_InvalidTable : PySem.W.findIn K (.ref A.c_InvalidTable) "__init__" = some (some (.ref A.a_InvalidTable___init__))
  t_InvalidTable : PySem.W.typeIn K (.ref A.a_InvalidTable___init__) = some (.type "function")
  k_InvalidTable : KBn K A.d_InvalidTable___init__ ["self", "value"] 1 ["value"] (fun us ws => us ++ ws) (fun vs zs => vs ++ zs)
  q_InvalidTable_InvalidBook : PySem.W.kitOne K (.ref A.c_InvalidTable) (.ref A.c_InvalidBook) = some false
  q_InvalidTable_InvalidSize : PySem.W.kitOne K (.ref A.c_InvalidTable) (.ref A.c_InvalidSize) = some false
  q_InvalidTable_InvalidTable : PySem.W.kitOne K (.ref A.c_InvalidTable) (.ref A.c_InvalidTable) = some true
  q_InvalidTable_InvalidChain : PySem.W.kitOne K (.ref A.c_InvalidTable) (.ref A.c_InvalidChain) = some false
  q_InvalidTable_InvalidNumber : PySem.W.kitOne K (.ref A.c_InvalidTable) (.ref A.c_InvalidNumber) = some false
  q_InvalidTable_NothingToUndo : PySem.W.kitOne K (.ref A.c_InvalidTable) (.ref A.c_NothingToUndo) = some false
  q_InvalidTable_Unreadable : PySem.W.kitOne K (.ref A.c_InvalidTable) (.ref A.c_Unreadable) = some false
  q_InvalidTable_BookError : PySem.W.kitOne K (.ref A.c_InvalidTable) (.ref A.c_BookError) = some true
  q_InvalidTable_ValueError : PySem.W.kitOne K (.ref A.c_InvalidTable) (.type "ValueError") = some true
  C_InvalidChain : OexC K A.c_InvalidChain
  V_InvalidChain : ExcC K A.c_InvalidChain
  X_InvalidChain : XfC K A.c_InvalidChain
  n_InvalidChain : PySem.W.findIn K (.ref A.c_InvalidChain) "value" = some none
  i_InvalidChain : PySem.W.findIn K (.ref A.c_InvalidChain) "__init__" = some (some (.ref A.a_InvalidChain___init__))
  t_InvalidChain : PySem.W.typeIn K (.ref A.a_InvalidChain___init__) = some (.type "function")
  k_InvalidChain : KBn K A.d_InvalidChain___init__ ["self", "value"] 1 ["value"] (fun us ws => us ++ ws) (fun vs zs => vs ++ zs)
  q_InvalidChain_InvalidBook : PySem.W.kitOne K (.ref A.c_InvalidChain) (.ref A.c_InvalidBook) = some false
  q_InvalidChain_InvalidSize : PySem.W.kitOne K (.ref A.c_InvalidChain) (.ref A.c_InvalidSize) = some false
  q_InvalidChain_InvalidTable : PySem.W.kitOne K (.ref A.c_InvalidChain) (.ref A.c_InvalidTable) = some false
  q_InvalidChain_InvalidChain : PySem.W.kitOne K (.ref A.c_InvalidChain) (.ref A.c_InvalidChain) = some true
  q_InvalidChain_InvalidNumber : PySem.W.kitOne K (.ref A.c_InvalidChain) (.ref A.c_InvalidNumber) = some false
  q_InvalidChain_NothingToUndo : PySem.W.kitOne K (.ref A.c_InvalidChain) (.ref A.c_NothingToUndo) = some false
  q_InvalidChain_Unreadable : PySem.W.kitOne K (.ref A.c_InvalidChain) (.ref A.c_Unreadable) = some false
  q_InvalidChain_BookError : PySem.W.kitOne K (.ref A.c_InvalidChain) (.ref A.c_BookError) = some true
  q_InvalidChain_ValueError : PySem.W.kitOne K (.ref A.c_InvalidChain) (.type "ValueError") = some true
  C_InvalidNumber : OexC K A.c_InvalidNumber
  V_InvalidNumber : ExcC K A.c_InvalidNumber
  X_InvalidNumber : XfC K A.c_InvalidNumber
  n_InvalidNumber : PySem.W.findIn K (.ref A.c_InvalidNumber) "value" = some none
  i_InvalidNumber : PySem.W.findIn K (.ref A.c_InvalidNumber) "__init__" = some (some (.ref A.a_InvalidNumber___init__))
  t_InvalidNumber : PySem.W.typeIn K (.ref A.a_InvalidNumber___init__) = some (.type "function")
  k_InvalidNumber : KBn K A.d_InvalidNumber___init__ ["self", "value"] 1 ["value"] (fun us ws => us ++ ws) (fun vs zs => vs ++ zs)
  q_InvalidNumber_InvalidBook : PySem.W.kitOne K (.ref A.c_InvalidNumber) (.ref A.c_InvalidBook) = some false
  q_InvalidNumber_InvalidSize : PySem.W.kitOne K (.ref A.c_InvalidNumber) (.ref A.c_InvalidSize) = some false
  q_InvalidNumber_InvalidTable : PySem.W.kitOne K (.ref A.c_InvalidNumber) (.ref A.c_InvalidTable) = some false
  q_InvalidNumber_InvalidChain : PySem.W.kitOne K (.ref A.c_InvalidNumber) (.ref A.c_InvalidChain) = some false
  q_InvalidNumber_InvalidNumber : PySem.W.kitOne K (.ref A.c_InvalidNumber) (.ref A.c_InvalidNumber) = some true
  q_InvalidNumber_NothingToUndo : PySem.W.kitOne K (.ref A.c_InvalidNumber) (.ref A.c_NothingToUndo) = some false
  q_InvalidNumber_Unreadable : PySem.W.kitOne K (.ref A.c_InvalidNumber) (.ref A.c_Unreadable) = some false
  q_InvalidNumber_BookError : PySem.W.kitOne K (.ref A.c_InvalidNumber) (.ref A.c_BookError) = some true
  q_InvalidNumber_ValueError : PySem.W.kitOne K (.ref A.c_InvalidNumber) (.type "ValueError") = some true
  C_NothingToUndo : OexC K A.c_NothingToUndo
  V_NothingToUndo : ExcC K A.c_NothingToUndo
  X_NothingToUndo : XfC K A.c_NothingToUndo
  n_NothingToUndo : PySem.W.findIn K (.ref A.c_NothingToUndo) "value" = some none
  i_NothingToUndo : PySem.W.findIn K (.ref A.c_NothingToUndo) "__init__" = some (some (.ref A.a_NothingToUndo___init__))
  t_NothingToUndo : PySem.W.typeIn K (.ref A.a_NothingToUndo___init__) = some (.type "function")
  k_NothingToUndo : KBn K A.d_NothingToUndo___init__ ["self", "value"] 1 ["value"] (fun us ws => us ++ ws) (fun vs zs => vs ++ zs)
  q_NothingToUndo_InvalidBook : PySem.W.kitOne K (.ref A.c_NothingToUndo) (.ref A.c_InvalidBook) = some false
  q_NothingToUndo_InvalidSize : PySem.W.kitOne K (.ref A.c_NothingToUndo) (.ref A.c_InvalidSize) = some false
  q_NothingToUndo_InvalidTable : PySem.W.kitOne K (.ref A.c_NothingToUndo) (.ref A.c_InvalidTable) = some false
  q_NothingToUndo_InvalidChain : PySem.W.kitOne K (.ref A.c_NothingToUndo) (.ref A.c_InvalidChain) = some false
  q_NothingToUndo_InvalidNumber : PySem.W.kitOne K (.ref A.c_NothingToUndo) (.ref A.c_InvalidNumber) = some false
  q_NothingToUndo_NothingToUndo : PySem.W.kitOne K (.ref A.c_NothingToUndo) (.ref A.c_NothingToUndo) = some true
  q_NothingToUndo_Unreadable : PySem.W.kitOne K (.ref A.c_NothingToUndo) (.ref A.c_Unreadable) = some false
  q_NothingToUndo_BookError : PySem.W.kitOne K (.ref A.c_NothingToUndo) (.ref A.c_BookError) = some true
  q_NothingToUndo_ValueError : PySem.W.kitOne K (.ref A.c_NothingToUndo) (.type "ValueError") = some true
  C_Unreadable : OexC K A.c_Unreadable
  V_Unreadable : ExcC K A.c_Unreadable
  X_Unreadable : XfC K A.c_Unreadable
  n_Unreadable : PySem.W.findIn K (.ref A.c_Unreadable) "value" = some none
  i_Unreadable : PySem.W.findIn K (.ref A.c_Unreadable) "__init__" = some (some (.ref A.a_Unreadable___init__))
  t_Unreadable : PySem.W.typeIn K (.ref A.a_Unreadable___init__) = some (.type "function")
  k_Unreadable : KBn K A.d_Unreadable___init__ ["self", "value"] 1 ["value"] (fun us ws => us ++ ws) (fun vs zs => vs ++ zs)
  q_Unreadable_InvalidBook : PySem.W.kitOne K (.ref A.c_Unreadable) (.ref A.c_InvalidBook) = some false
  q_Unreadable_InvalidSize : PySem.W.kitOne K (.ref A.c_Unreadable) (.ref A.c_InvalidSize) = some false
  q_Unreadable_InvalidTable : PySem.W.kitOne K (.ref A.c_Unreadable) (.ref A.c_InvalidTable) = some false
  q_Unreadable_InvalidChain : PySem.W.kitOne K (.ref A.c_Unreadable) (.ref A.c_InvalidChain) = some false
  q_Unreadable_InvalidNumber : PySem.W.kitOne K (.ref A.c_Unreadable) (.ref A.c_InvalidNumber) = some false
  q_Unreadable_NothingToUndo : PySem.W.kitOne K (.ref A.c_Unreadable) (.ref A.c_NothingToUndo) = some false
  q_Unreadable_Unreadable : PySem.W.kitOne K (.ref A.c_Unreadable) (.ref A.c_Unreadable) = some true
  q_Unreadable_BookError : PySem.W.kitOne K (.ref A.c_Unreadable) (.ref A.c_BookError) = some true
  q_Unreadable_ValueError : PySem.W.kitOne K (.ref A.c_Unreadable) (.type "ValueError") = some true
/-- the source of draws at s, its digits at d; n: at most so many mixed draws so far -/
def Src (H : Hp) (s d : Addr) (n : Nat) : Prop := s ≠ d ∧ ∃ (gs : List Int) (l m c : Int), H s = some (.lst [.ref d, .int l, .int m, .int c]) ∧ H d = some (.lst (gs.map V.int)) ∧ (∀ x ∈ gs, 0 ≤ x) ∧ gs.length ≤ 63 ∧ 0 ≤ l ∧ 0 ≤ m ∧ m < 2 ^ 61 ∧ 0 ≤ c ∧ c ≤ n
/-- lengths of chapters -/
def Book (ls : List Int) : Prop := ∀ x ∈ ls, 1 ≤ x ∧ x < 10 ^ 30
theorem Src.keep {H H' : Hp} {s d : Addr} {n : Nat} (h : Src H s d n) (e1 : H' s = H s) (e2 : H' d = H d) : Src H' s d n := by
  obtain ⟨hsd, gs, l, m, c, h1, h2, h3⟩ := h
  exact ⟨hsd, gs, l, m, c, by rw [e1]; exact h1, by rw [e2]; exact h2, h3⟩
theorem Src.new {H : Hp} {s d p : Addr} {n : Nat} {o : HO} (h : Src H s d n) (hp : H p = none) : Src (upd H p o) s d n := by
  obtain ⟨hsd, gs, l, m, c, h1, h2, h3⟩ := h
  exact ⟨hsd, gs, l, m, c, by rw [upd_ne (ne_of_none h1 hp)]; exact h1, by rw [upd_ne (ne_of_none h2 hp)]; exact h2, h3⟩
theorem Src.put {H : Hp} {s d p : Addr} {n : Nat} {o : HO} (h : Src H s d n) (e1 : p ≠ s) (e2 : p ≠ d) : Src (upd H p o) s d n := by
  obtain ⟨hsd, gs, l, m, c, h1, h2, h3⟩ := h
  exact ⟨hsd, gs, l, m, c, by rw [upd_ne e1.symm]; exact h1, by rw [upd_ne e2.symm]; exact h2, h3⟩
theorem Src.ne1 {H : Hp} {s d p : Addr} {n : Nat} (h : Src H s d n) (hp : H p = none) : p ≠ s := by
  obtain ⟨hsd, gs, l, m, c, h1, h2, h3⟩ := h
  exact (ne_of_none h1 hp).symm
theorem Src.ne2 {H : Hp} {s d p : Addr} {n : Nat} (h : Src H s d n) (hp : H p = none) : p ≠ d := by
  obtain ⟨hsd, gs, l, m, c, h1, h2, h3⟩ := h
  exact (ne_of_none h2 hp).symm
theorem Src.up {H : Hp} {s d : Addr} {n m : Nat} (h : Src H s d n) (e : n ≤ m) : Src H s d m := by
  obtain ⟨hsd, gs, l, m', c, h1, h2, h3, h4, h5, h6, h7, h8, h9⟩ := h
  exact ⟨hsd, gs, l, m', c, h1, h2, h3, h4, h5, h6, h7, h8, by omega⟩
/-- the page count of an edition -/
def pcount (ls : List Int) (j : Int) : Int := (ls.map fun x => (x + j - 1) / j).sum
theorem pcount_nil (j : Int) : pcount [] j = 0 := rfl
theorem pcount_cons (x : Int) (ls : List Int) (j : Int) : pcount (x :: ls) j = (x + j - 1) / j + pcount ls j := by unfold pcount; rw [List.map_cons, List.sum_cons]
theorem pcount_append (xs ys : List Int) (j : Int) : pcount (xs ++ ys) j = pcount xs j + pcount ys j := by unfold pcount; rw [List.map_append, List.sum_append]
/-- a page for each chapter, and one more for each full page of its other lines -/
theorem pcount_less1 {j : Int} (hj : 1 ≤ j) : ∀ ls : List Int, (ls.length : Int) + (ls.map fun x => (x - 1) / j).sum = pcount ls j
  | [] => rfl
  | x :: r => by
    have e : (x + j - 1) / j = (x - 1) / j + 1 := by rw [show x + j - 1 = (x - 1) + j * 1 by omega, Int.add_mul_ediv_left _ _ (by omega)]
    rw [pcount_cons, ← pcount_less1 hj r, e, List.length_cons, List.map_cons, List.sum_cons]
    push_cast
    omega
theorem pcount_take {ls : List Int} {i : Nat} {x : Int} (j : Int) (h : ls[i]? = some x) : pcount (ls.take (i + 1)) j = pcount (ls.take i) j + (x + j - 1) / j := by
  obtain ⟨h1, h2⟩ := List.getElem?_eq_some_iff.mp h
  rw [List.take_add_one, h, pcount_append]
  show _ + pcount [x] j = _
  rw [pcount_cons, pcount_nil]; omega
theorem ceil_pos {x j : Int} (hx : 1 ≤ x) (hj : 1 ≤ j) : 1 ≤ (x + j - 1) / j := by
  rw [Int.le_ediv_iff_mul_le (by omega)]; omega
theorem pcount_len {ls : List Int} {j : Int} (hp : ∀ x ∈ ls, 1 ≤ x) (hj : 1 ≤ j) : (ls.length : Int) ≤ pcount ls j := by
  induction ls with
  | nil => exact Int.le_refl 0
  | cons x r ih =>
    rw [pcount_cons, List.length_cons]
    have := ceil_pos (hp x List.mem_cons_self) hj
    have := ih fun y hy => hp y (List.mem_cons_of_mem _ hy)
    omega
theorem pcount_pos {ls : List Int} {j : Int} (hp : ∀ x ∈ ls, 1 ≤ x) (hj : 1 ≤ j) : 0 ≤ pcount ls j := by
  have := pcount_len hp hj; omega
theorem take_all {ls : List Int} {P : Int → Prop} (h : ∀ x ∈ ls, P x) (n : Nat) : ∀ x ∈ ls.take n, P x := fun x hx => h x (List.mem_of_mem_take hx)
theorem Src.same {H H' : Hp} {s d : Addr} {n : Nat} (h : Src H s d n) (k : HS.Keep (fun _ => False) H H') : Src H' s d n := by
  obtain ⟨hsd, gs, l, m, c, h1, h2, h3⟩ := h
  exact ⟨hsd, gs, l, m, c, k _ _ h1 id, k _ _ h2 id, h3⟩
theorem sum_book {ls : List Int} (h : Book ls) : (ls.length : Int) ≤ ls.sum ∧ ls.sum ≤ ls.length * (10 ^ 30) := by
  induction ls with
  | nil => exact ⟨Int.le_refl _, Int.le_refl _⟩
  | cons x r ih =>
    have := ih fun y hy => h y (List.mem_cons_of_mem _ hy)
    have := h x List.mem_cons_self
    rw [List.sum_cons, List.length_cons]
    push_cast
    omega
/-- C is one of the classes, and this its name -/
def EKind (A : Ad) (C : Addr) (nm : Str) : Prop := (C = A.c_InvalidBook ∧ nm = "InvalidBook") ∨ (C = A.c_InvalidSize ∧ nm = "InvalidSize") ∨ (C = A.c_InvalidTable ∧ nm = "InvalidTable") ∨ (C = A.c_InvalidChain ∧ nm = "InvalidChain") ∨ (C = A.c_InvalidNumber ∧ nm = "InvalidNumber") ∨ (C = A.c_NothingToUndo ∧ nm = "NothingToUndo") ∨ (C = A.c_Unreadable ∧ nm = "Unreadable")
structure Kits (K : PySem.W.Frag) (A : Ad) (C : Addr) (b0 b1 b2 b3 b4 b5 b6 : Bool) : Prop where
  e : ExcC K C
  x : XfC K C
  n : PySem.W.findIn K (.ref C) "value" = some none
  q0 : PySem.W.kitOne K (.ref C) (.ref A.c_InvalidBook) = some b0
  q1 : PySem.W.kitOne K (.ref C) (.ref A.c_InvalidSize) = some b1
  q2 : PySem.W.kitOne K (.ref C) (.ref A.c_InvalidTable) = some b2
  q3 : PySem.W.kitOne K (.ref C) (.ref A.c_InvalidChain) = some b3
  q4 : PySem.W.kitOne K (.ref C) (.ref A.c_InvalidNumber) = some b4
  q5 : PySem.W.kitOne K (.ref C) (.ref A.c_NothingToUndo) = some b5
  q6 : PySem.W.kitOne K (.ref C) (.ref A.c_Unreadable) = some b6
  q7 : PySem.W.kitOne K (.ref C) (.ref A.c_BookError) = some true
  q8 : PySem.W.kitOne K (.ref C) (.type "ValueError") = some true
def pick7 (b0 b1 b2 b3 b4 b5 b6 : Bool) : List (Str × Bool) := [("InvalidBook", b0), ("InvalidSize", b1), ("InvalidTable", b2), ("InvalidChain", b3), ("InvalidNumber", b4), ("NothingToUndo", b5), ("Unreadable", b6)]
def picked (ps : List (Str × Bool)) : List V := ps.filterMap fun p => if p.2 then some (.str p.1) else none
theorem EKind.kits {K : PySem.W.Frag} {mg : Str → Option Value} {A : Ad} {C : Addr} {nm : Str} (h : EKind A C nm) (T : Txt K mg A) : ∃ b0 b1 b2 b3 b4 b5 b6, Kits K A C b0 b1 b2 b3 b4 b5 b6 ∧ picked (pick7 b0 b1 b2 b3 b4 b5 b6) = [.str nm] := by
  rcases h with ⟨rfl, rfl⟩ | ⟨rfl, rfl⟩ | ⟨rfl, rfl⟩ | ⟨rfl, rfl⟩ | ⟨rfl, rfl⟩ | ⟨rfl, rfl⟩ | ⟨rfl, rfl⟩
  · exact ⟨_, _, _, _, _, _, _, ⟨T.V_InvalidBook, T.X_InvalidBook, T.n_InvalidBook, T.q_InvalidBook_InvalidBook, T.q_InvalidBook_InvalidSize, T.q_InvalidBook_InvalidTable, T.q_InvalidBook_InvalidChain, T.q_InvalidBook_InvalidNumber, T.q_InvalidBook_NothingToUndo, T.q_InvalidBook_Unreadable, T.q_InvalidBook_BookError, T.q_InvalidBook_ValueError⟩, rfl⟩
  · exact ⟨_, _, _, _, _, _, _, ⟨T.V_InvalidSize, T.X_InvalidSize, T.n_InvalidSize, T.q_InvalidSize_InvalidBook, T.q_InvalidSize_InvalidSize, T.q_InvalidSize_InvalidTable, T.q_InvalidSize_InvalidChain, T.q_InvalidSize_InvalidNumber, T.q_InvalidSize_NothingToUndo, T.q_InvalidSize_Unreadable, T.q_InvalidSize_BookError, T.q_InvalidSize_ValueError⟩, rfl⟩
  · exact ⟨_, _, _, _, _, _, _, ⟨T.V_InvalidTable, T.X_InvalidTable, T.n_InvalidTable, T.q_InvalidTable_InvalidBook, T.q_InvalidTable_InvalidSize, T.q_InvalidTable_InvalidTable, T.q_InvalidTable_InvalidChain, T.q_InvalidTable_InvalidNumber, T.q_InvalidTable_NothingToUndo, T.q_InvalidTable_Unreadable, T.q_InvalidTable_BookError, T.q_InvalidTable_ValueError⟩, rfl⟩
  · exact ⟨_, _, _, _, _, _, _, ⟨T.V_InvalidChain, T.X_InvalidChain, T.n_InvalidChain, T.q_InvalidChain_InvalidBook, T.q_InvalidChain_InvalidSize, T.q_InvalidChain_InvalidTable, T.q_InvalidChain_InvalidChain, T.q_InvalidChain_InvalidNumber, T.q_InvalidChain_NothingToUndo, T.q_InvalidChain_Unreadable, T.q_InvalidChain_BookError, T.q_InvalidChain_ValueError⟩, rfl⟩
  · exact ⟨_, _, _, _, _, _, _, ⟨T.V_InvalidNumber, T.X_InvalidNumber, T.n_InvalidNumber, T.q_InvalidNumber_InvalidBook, T.q_InvalidNumber_InvalidSize, T.q_InvalidNumber_InvalidTable, T.q_InvalidNumber_InvalidChain, T.q_InvalidNumber_InvalidNumber, T.q_InvalidNumber_NothingToUndo, T.q_InvalidNumber_Unreadable, T.q_InvalidNumber_BookError, T.q_InvalidNumber_ValueError⟩, rfl⟩
  · exact ⟨_, _, _, _, _, _, _, ⟨T.V_NothingToUndo, T.X_NothingToUndo, T.n_NothingToUndo, T.q_NothingToUndo_InvalidBook, T.q_NothingToUndo_InvalidSize, T.q_NothingToUndo_InvalidTable, T.q_NothingToUndo_InvalidChain, T.q_NothingToUndo_InvalidNumber, T.q_NothingToUndo_NothingToUndo, T.q_NothingToUndo_Unreadable, T.q_NothingToUndo_BookError, T.q_NothingToUndo_ValueError⟩, rfl⟩
  · exact ⟨_, _, _, _, _, _, _, ⟨T.V_Unreadable, T.X_Unreadable, T.n_Unreadable, T.q_Unreadable_InvalidBook, T.q_Unreadable_InvalidSize, T.q_Unreadable_InvalidTable, T.q_Unreadable_InvalidChain, T.q_Unreadable_InvalidNumber, T.q_Unreadable_NothingToUndo, T.q_Unreadable_Unreadable, T.q_Unreadable_BookError, T.q_Unreadable_ValueError⟩, rfl⟩

section
variable {P : Program} {w : World} {K : PySem.W.Frag} {mg : Str → Option Value} {base : Heap} {A : Ad}
def sp__law_source (K : PySem.W.Frag) : Sp := fun vs H Q _ => ∃ (a : Addr) (ns : List Int), vs = [.ref a] ∧ (SqL K H a (ns.map V.int) ∧ ns.length ≤ 63 ∧ ∀ H' s d, HS.Keep (fun _ => False) H H' → H s = none → H d = none → Src H' s d 0 → Q (.ref s) H')
theorem ok__law_source (T : Txt K mg A) : FnOk P w K mg base CX0 1 A.a__law_source A.d__law_source ["script"] (sp__law_source K) := by
  refine T.F__law_source.ok sc__law_source (fun vs H Q E h => ?_) (fun cdv A0 outer s H vs Q E hr h => ?_)
  · obtain ⟨a, ns, rfl, hw⟩ := h
    rfl
  · obtain ⟨a, ns, rfl, hw⟩ := h
    refine ⟨_, (pss_cons (ps_set (i := 1) sc__law_source.nd rfl (.inl rfl) pe_int)
    (pss_cons (ps_set (i := 2) sc__law_source.nd rfl (.inl rfl) (pe_lst pa_nil))
    (pss_cons (ps_for PassesOwn.never rfl (HS.kil K (pi_list (pv 0))) (pg_name (i := 3) sc__law_source.nd rfl (.inl rfl))
      (pss_cons (ps_set (i := 1) sc__law_source.nd rfl (.inl rfl) (pe_op op_mod (pe_op op_add (pe_op op_mul (pv 1) pe_int) (pv 3)) (HS.pe_fold (2305843009213693951) (pe_op op_sub (pe_op op_pow pe_int pe_int) pe_int) (by intro σ H Q q; walk_at "fold"))))
    (pss_cons (ps_set (i := 4) sc__law_source.nd rfl (.inl rfl) (pe_callB (call_max2 rfl) (by rfl) T.z_max (by decide +kernel) (pa_cons (pv 3) (pa_cons (pe_op op_sub pe_int (pv 3)) pa_nil))))
    (pss_one (ps_if (pt_cmpR op_ge (pv 4) (HS.pe_fold (1000000000000000000) (pe_op op_pow pe_int pe_int) (by intro σ H Q q; walk_at "fold")) (nomark _))
      (pss_one (ps_expr (HS.kbm K (pe_bm PySem.F.plainAttrs_list PySem.F.slot_list_append PySem.F.type_list_append mt_append (pv 2) (pa_cons (pe_op op_sub (pv 4) (HS.pe_fold (1000000000000000000) (pe_op op_pow pe_int pe_int) (by intro σ H Q q; walk_at "fold"))) pa_nil)))))
      pss_nil)))))
    (pss_one (ps_ret (pe_lst (pa_cons (pv 2) (pa_cons pe_int (pa_cons (pv 1) (pa_cons pe_int pa_nil)))))))))), ?_⟩
    obtain ⟨hS, hl, k⟩ := hw
    walk_at "hs"
    intro d hd
    walk_at "hs"
    refine ⟨⟨_, HS.Keep.sq (S := fun _ => False) (HS.Keep.new hd) hS id⟩, for_list (xs := ns.map V.int) (fun i σ H1 => HS.Keep (fun _ => False) H H1 ∧ ∃ (gs : List Int) (m : Int) (x3 x4 : Option V), σ = [some (.ref a), some (.int m), some (.ref d), x3, x4] ∧ H1 d = some (.lst (gs.map V.int)) ∧ (∀ x ∈ gs, 0 ≤ x) ∧ gs.length ≤ i ∧ 0 ≤ m ∧ m < 2 ^ 61) ?_ ?_ ?_ ?_⟩
    · exact ⟨.new hd, [], _, _, _, rfl, upd_same, by simp, Nat.le_refl _, by decide, by decide⟩
    · rintro i σ H1 _ ⟨K1, _⟩
      exact K1.sq hS id
    · rintro i x σ H1 hi ⟨K1, gs, m, x3, x4, rfl, hgd, hg0, hgl, hm0, hm1⟩
      obtain ⟨z, rfl, _, hil⟩ := HS.get_int hi
      walk_at "hs"
      have b0 : 0 ≤ (m * 1000033 + z) % 2305843009213693951 := Int.emod_nonneg _ (by decide)
      have b1 : (m * 1000033 + z) % 2305843009213693951 < 2 ^ 61 := Int.lt_trans (Int.emod_lt_of_pos _ (by decide)) (by decide)
      generalize hz : (if 0 - z > z then 0 - z else z) = y
      refine HS.itd (fun hy => ?_) (fun hy => ?_)
      · walk_at "hs"
        refine ⟨K1.put hd, gs ++ [y - 1000000000000000000], _, _, _, rfl, ?_, ?_, by simp; omega, b0, b1⟩
        · rw [upd_same, List.map_append]; rfl
        · intro x hx
          rcases List.mem_append.mp hx with hx | hx
          · exact hg0 x hx
          · rw [List.mem_singleton] at hx; omega
      · walk_at "hs"
        exact ⟨K1, gs, _, _, _, rfl, hgd, hg0, by omega, b0, b1⟩
    · rintro σ H1 ⟨K1, gs, m, x3, x4, rfl, hgd, hg0, hgl, hm0, hm1⟩
      walk_at "hs"
      intro s hs
      rw [List.length_map] at hgl
      refine k _ s d (K1.trans (.new hs)) (K1.free hs id) hd ⟨(ne_of_none hgd hs).symm, gs, 0, m, 0, upd_same, by walk_at "hp", hg0, by omega, by decide, hm0, hm1, by decide, by decide⟩
def sp__law_draw (K : PySem.W.Frag) : Sp := fun vs H Q _ => ∃ (s d : Addr) (many : Int) (n : Nat), vs = [.ref s, .int many] ∧ (Src H s d n ∧ 0 < many ∧ many < 2 ^ 200 ∧ n < 2 ^ 40 ∧ ∀ H' v, HS.Keep (fun a => a = s ∨ a = d) H H' → Src H' s d (n + 1) → 0 ≤ v → v < many → Q (.int v) H')
theorem ok__law_draw (T : Txt K mg A) : FnOk P w K mg base CX0 1 A.a__law_draw A.d__law_draw ["source", "many"] (sp__law_draw K) := by
  refine T.F__law_draw.ok sc__law_draw (fun vs H Q E h => ?_) (fun cdv A0 outer s H vs Q E hr h => ?_)
  · obtain ⟨s, d, many, n, rfl, hw⟩ := h
    rfl
  · obtain ⟨s, d, many, n, rfl, hw⟩ := h
    refine ⟨_, (Evl.pss_cut (ps_while PassesOwn.never (PW.pt (pw_and (pt_cmpR op_lt (pe_ix (HS.ixl K) (pv 0) pe_int (fun _ _ => rfl)) pe_int (nomark _)) (pw_and1 (pt_cmpR (HS.kne K (hu64 hr)) (pe_ix (HS.ixl K) (pv 0) pe_int (fun _ _ => rfl)) (pe_lst pa_nil) (nomark _)))))
      (pss_one (ps_asg (HS.kbm K (pe_bm PySem.F.plainAttrs_list PySem.F.slot_list_pop PySem.F.type_list_pop mt_popAt (pe_ix (HS.ixl K) (pv 0) pe_int (fun _ _ => rfl)) (pa_cons pe_int pa_nil))) (pg_sub (pv 0) pe_int set_list))))
    (pss_cons (ps_if (pt_cmpR op_ge (pe_ix (HS.ixl K) (pv 0) pe_int (fun _ _ => rfl)) pe_int (nomark _))
      (pss_cons (ps_set (i := 2) sc__law_draw.nd rfl (.inl rfl) (pe_op op_mod (pe_ix (HS.ixl K) (pv 0) pe_int (fun _ _ => rfl)) (pv 1)))
    (pss_cons (ps_asg (pe_op op_fdivW (pe_ix (HS.ixl K) (pv 0) pe_int (fun _ _ => rfl)) (pv 1)) (pg_sub (pv 0) pe_int set_list))
    (pss_one (ps_ret (pv 2)))))
      pss_nil)
    (pss_cons (ps_asg (pe_op op_add (pe_ix (HS.ixl K) (pv 0) pe_int (fun _ _ => rfl)) pe_int) (pg_sub (pv 0) pe_int set_list))
    (pss_cons (ps_set (i := 3) sc__law_draw.nd rfl (.inl rfl) (pe_op op_mulW (pe_op op_add (pe_ix (HS.ixl K) (pv 0) pe_int (fun _ _ => rfl)) pe_int) (pe_op op_pow (pe_op op_add (pe_ix (HS.ixl K) (pv 0) pe_int (fun _ _ => rfl)) pe_int) pe_int)))
    (pss_cons (ps_set (i := 3) sc__law_draw.nd rfl (.inl rfl) (pe_op op_mod (pe_op op_add (pv 3) (pe_op op_mul pe_int (pe_ix (HS.ixl K) (pv 0) pe_int (fun _ _ => rfl)))) (HS.pe_fold (2305843009213693951) (pe_op op_sub (pe_op op_pow pe_int pe_int) pe_int) (by intro σ H Q q; walk_at "fold"))))
    (pss_one (ps_ret (pe_op op_mod (pe_op op_fdivW (pe_op op_mod (pe_op op_pow (pv 3) pe_int) (HS.pe_fold (1000000000000000009) (pe_op op_add (pe_op op_pow pe_int pe_int) pe_int) (by intro σ H Q q; walk_at "fold"))) pe_int) (pv 1))))))))), ?_⟩
    obtain ⟨S0, hm0, hm1, hn, k⟩ := hw
    obtain ⟨hsd, gs0, l0, m0, c0, hs0, hd0, hg0, hgl0, hl0, hm00, hm01, hc0, hc1⟩ := S0
    refine HS.cut (fun σ H1 => σ = [some (.ref s), some (.int many), none, none] ∧ HS.Keep (fun a => a = s ∨ a = d) H H1 ∧ ∃ (gs : List Int) (l : Int), H1 s = some (.lst [.ref d, .int l, .int m0, .int c0]) ∧ H1 d = some (.lst (gs.map V.int)) ∧ (∀ x ∈ gs, 0 ≤ x) ∧ gs.length ≤ 63 ∧ 0 ≤ l) ?_ ?_
    · refine ⟨fun j σ H1 => σ = [some (.ref s), some (.int many), none, none] ∧ HS.Keep (fun a => a = s ∨ a = d) H H1 ∧ ∃ (gs : List Int) (l : Int), gs.length = j ∧ H1 s = some (.lst [.ref d, .int l, .int m0, .int c0]) ∧ H1 d = some (.lst (gs.map V.int)) ∧ (∀ x ∈ gs, 0 ≤ x) ∧ gs.length ≤ 63 ∧ 0 ≤ l, ⟨_, rfl, .refl, gs0, l0, rfl, hs0, hd0, hg0, hgl0, hl0⟩, ?_⟩
      rintro j σ H1 ⟨rfl, K1, gs, l, rfl, hs1, hd1, hg1, hgl1, hl1⟩
      walk_at "hs"
      refine HS.itd (fun hl => ?_) (fun hl => ?_)
      · walk_at "hs"
        intro p hp
        refine HS.neL (ys := []) (HS.sq (by walk_at "hp")) (HS.sq upd_same) ?_
        walk_at "hs"
        refine HS.itn (fun hgs => ?_) (fun hgs => ?_)
        · cases gs with
          | nil => exact absurd rfl hgs
          | cons y ys =>
            refine ⟨fun σ' H' => σ' = [some (.ref s), some (.int many), none, none] ∧ HS.Keep (fun a => a = s ∨ a = d) H H' ∧ ∃ (l : Int), H' s = some (.lst [.ref d, .int l, .int m0, .int c0]) ∧ H' d = some (.lst (ys.map V.int)) ∧ 0 ≤ l, fun σ' H' ⟨e, K', l', h1, h2, h3⟩ => ⟨ys.length, Nat.lt_succ_self _, e, K', ys, l', rfl, h1, h2, fun x hx => hg1 x (List.mem_cons_of_mem _ hx), Nat.le_of_succ_le hgl1, h3⟩, ?_⟩
            walk_at "hs"
            refine HS.pop0 (y := .int y) (ys := ys.map V.int) (by walk_at "hp") ?_
            walk_at "hs"
            exact ⟨rfl, by walk_at "kp", y, by walk_at "hp", by walk_at "hp", hg1 y List.mem_cons_self⟩
        · walk_at "hs"
          exact ⟨rfl, by walk_at "kp", gs, l, by walk_at "hp", by walk_at "hp", hg1, hgl1, hl1⟩
      · walk_at "hs"
        exact ⟨rfl, K1, gs, l, hs1, hd1, hg1, hgl1, hl1⟩
    · rintro σ H1 ⟨rfl, K1, gs, l, hs1, hd1, hg1, hgl1, hl1⟩
      walk_at "hs"
      refine HS.itd (fun hl => ?_) (fun hl => ?_)
      · walk_at "hs"
        refine ⟨HS.divW 200 hm0 hm1 (by decide) (by decide), ?_⟩
        walk_at "hs"
        exact k _ _ (by walk_at "kp") ⟨hsd, gs, l / many, m0, c0, upd_same, by walk_at "hp", hg1, hgl1, Int.ediv_nonneg hl1 (by omega), hm00, hm01, hc0, by omega⟩ (Int.emod_nonneg _ (by omega)) (Int.emod_lt_of_pos _ hm0)
      · walk_at "hs"
        obtain ⟨p0, p1⟩ := HS.pow_lt (i := c0 + 1 + 3) (a := 50) 3 (by omega) (by omega)
        have p2 : (c0 + 1 + 3) ^ Int.toNat 3 < 2 ^ 150 := by
          rcases p1 with h | h
          · exact h
          · exact absurd h (by decide)
        have p0' : 0 ≤ (c0 + 1 + 3) ^ Int.toNat 3 := p0
        generalize (c0 + 1 + 3) ^ Int.toNat 3 = cu at p2 p0' ⊢
        refine ⟨HS.mulW 62 150 (by omega) (by omega) p0' p2 (by decide) (by decide) (by decide), ?_⟩
        walk_at "hs"
        exact k _ _ (by walk_at "kp") ⟨hsd, gs, l, m0, c0 + 1, upd_same, by walk_at "hp", hg1, hgl1, hl1, hm00, hm01, by omega, by omega⟩ (Int.emod_nonneg _ (by omega)) (Int.emod_lt_of_pos _ hm0)
def sp_InvalidBook___init__ (K : PySem.W.Frag) : Sp := fun vs H Q _ => ∃ (a C : Addr) (w : V), vs = [.ref a, w] ∧ (OexC K C ∧ PySem.W.findIn K (.ref C) "value" = some none ∧ H a = some (exo a C none) ∧ ∀ H' d, HS.Keep (fun x => x = a) H H' → H' a = some (exo a C (some d)) → H' d = some (exd d [("value", w)]) → Q .non H')
theorem ok_InvalidBook___init__ (T : Txt K mg A) : FnOk P w K mg base CX0 1 A.a_InvalidBook___init__ A.d_InvalidBook___init__ ["self", "value"] (sp_InvalidBook___init__ K) := by
  refine T.F_InvalidBook___init__.ok sc_InvalidBook___init__ (fun vs H Q E h => ?_) (fun cdv A0 outer s H vs Q E hr h => ?_)
  · obtain ⟨a, C, w, rfl, hw⟩ := h
    rfl
  · obtain ⟨a, C, w, rfl, hw⟩ := h
    refine ⟨_, (pss_one (ps_ost (pv 0) (pv 1))), ?_⟩
    obtain ⟨T1, hv, ha, k⟩ := hw
    walk_at "hs"
    refine ⟨a, C, rfl, T1, hv, .inl ⟨ha, fun d hd hne => ?_⟩⟩
    walk_at "hs"
    exact k _ d ((HS.Keep.new hd).at rfl) upd_same (by rw [upd_ne hne]; exact upd_same)
def sp_InvalidSize___init__ (K : PySem.W.Frag) : Sp := fun vs H Q _ => ∃ (a C : Addr) (w : V), vs = [.ref a, w] ∧ (OexC K C ∧ PySem.W.findIn K (.ref C) "value" = some none ∧ H a = some (exo a C none) ∧ ∀ H' d, HS.Keep (fun x => x = a) H H' → H' a = some (exo a C (some d)) → H' d = some (exd d [("value", w)]) → Q .non H')
theorem ok_InvalidSize___init__ (T : Txt K mg A) : FnOk P w K mg base CX0 1 A.a_InvalidSize___init__ A.d_InvalidSize___init__ ["self", "value"] (sp_InvalidSize___init__ K) := by
  refine T.F_InvalidSize___init__.ok sc_InvalidSize___init__ (fun vs H Q E h => ?_) (fun cdv A0 outer s H vs Q E hr h => ?_)
  · obtain ⟨a, C, w, rfl, hw⟩ := h
    rfl
  · obtain ⟨a, C, w, rfl, hw⟩ := h
    refine ⟨_, (pss_one (ps_ost (pv 0) (pv 1))), ?_⟩
    obtain ⟨T1, hv, ha, k⟩ := hw
    walk_at "hs"
    refine ⟨a, C, rfl, T1, hv, .inl ⟨ha, fun d hd hne => ?_⟩⟩
    walk_at "hs"
    exact k _ d ((HS.Keep.new hd).at rfl) upd_same (by rw [upd_ne hne]; exact upd_same)
def sp_InvalidTable___init__ (K : PySem.W.Frag) : Sp := fun vs H Q _ => ∃ (a C : Addr) (w : V), vs = [.ref a, w] ∧ (OexC K C ∧ PySem.W.findIn K (.ref C) "value" = some none ∧ H a = some (exo a C none) ∧ ∀ H' d, HS.Keep (fun x => x = a) H H' → H' a = some (exo a C (some d)) → H' d = some (exd d [("value", w)]) → Q .non H')
theorem ok_InvalidTable___init__ (T : Txt K mg A) : FnOk P w K mg base CX0 1 A.a_InvalidTable___init__ A.d_InvalidTable___init__ ["self", "value"] (sp_InvalidTable___init__ K) := by
  refine T.F_InvalidTable___init__.ok sc_InvalidTable___init__ (fun vs H Q E h => ?_) (fun cdv A0 outer s H vs Q E hr h => ?_)
  · obtain ⟨a, C, w, rfl, hw⟩ := h
    rfl
  · obtain ⟨a, C, w, rfl, hw⟩ := h
    refine ⟨_, (pss_one (ps_ost (pv 0) (pv 1))), ?_⟩
    obtain ⟨T1, hv, ha, k⟩ := hw
    walk_at "hs"
    refine ⟨a, C, rfl, T1, hv, .inl ⟨ha, fun d hd hne => ?_⟩⟩
    walk_at "hs"
    exact k _ d ((HS.Keep.new hd).at rfl) upd_same (by rw [upd_ne hne]; exact upd_same)
def sp_InvalidChain___init__ (K : PySem.W.Frag) : Sp := fun vs H Q _ => ∃ (a C : Addr) (w : V), vs = [.ref a, w] ∧ (OexC K C ∧ PySem.W.findIn K (.ref C) "value" = some none ∧ H a = some (exo a C none) ∧ ∀ H' d, HS.Keep (fun x => x = a) H H' → H' a = some (exo a C (some d)) → H' d = some (exd d [("value", w)]) → Q .non H')
theorem ok_InvalidChain___init__ (T : Txt K mg A) : FnOk P w K mg base CX0 1 A.a_InvalidChain___init__ A.d_InvalidChain___init__ ["self", "value"] (sp_InvalidChain___init__ K) := by
  refine T.F_InvalidChain___init__.ok sc_InvalidChain___init__ (fun vs H Q E h => ?_) (fun cdv A0 outer s H vs Q E hr h => ?_)
  · obtain ⟨a, C, w, rfl, hw⟩ := h
    rfl
  · obtain ⟨a, C, w, rfl, hw⟩ := h
    refine ⟨_, (pss_one (ps_ost (pv 0) (pv 1))), ?_⟩
    obtain ⟨T1, hv, ha, k⟩ := hw
    walk_at "hs"
    refine ⟨a, C, rfl, T1, hv, .inl ⟨ha, fun d hd hne => ?_⟩⟩
    walk_at "hs"
    exact k _ d ((HS.Keep.new hd).at rfl) upd_same (by rw [upd_ne hne]; exact upd_same)
def sp_InvalidNumber___init__ (K : PySem.W.Frag) : Sp := fun vs H Q _ => ∃ (a C : Addr) (w : V), vs = [.ref a, w] ∧ (OexC K C ∧ PySem.W.findIn K (.ref C) "value" = some none ∧ H a = some (exo a C none) ∧ ∀ H' d, HS.Keep (fun x => x = a) H H' → H' a = some (exo a C (some d)) → H' d = some (exd d [("value", w)]) → Q .non H')
theorem ok_InvalidNumber___init__ (T : Txt K mg A) : FnOk P w K mg base CX0 1 A.a_InvalidNumber___init__ A.d_InvalidNumber___init__ ["self", "value"] (sp_InvalidNumber___init__ K) := by
  refine T.F_InvalidNumber___init__.ok sc_InvalidNumber___init__ (fun vs H Q E h => ?_) (fun cdv A0 outer s H vs Q E hr h => ?_)
  · obtain ⟨a, C, w, rfl, hw⟩ := h
    rfl
  · obtain ⟨a, C, w, rfl, hw⟩ := h
    refine ⟨_, (pss_one (ps_ost (pv 0) (pv 1))), ?_⟩
    obtain ⟨T1, hv, ha, k⟩ := hw
    walk_at "hs"
    refine ⟨a, C, rfl, T1, hv, .inl ⟨ha, fun d hd hne => ?_⟩⟩
    walk_at "hs"
    exact k _ d ((HS.Keep.new hd).at rfl) upd_same (by rw [upd_ne hne]; exact upd_same)
def sp_NothingToUndo___init__ (K : PySem.W.Frag) : Sp := fun vs H Q _ => ∃ (a C : Addr) (w : V), vs = [.ref a, w] ∧ (OexC K C ∧ PySem.W.findIn K (.ref C) "value" = some none ∧ H a = some (exo a C none) ∧ ∀ H' d, HS.Keep (fun x => x = a) H H' → H' a = some (exo a C (some d)) → H' d = some (exd d [("value", w)]) → Q .non H')
theorem ok_NothingToUndo___init__ (T : Txt K mg A) : FnOk P w K mg base CX0 1 A.a_NothingToUndo___init__ A.d_NothingToUndo___init__ ["self", "value"] (sp_NothingToUndo___init__ K) := by
  refine T.F_NothingToUndo___init__.ok sc_NothingToUndo___init__ (fun vs H Q E h => ?_) (fun cdv A0 outer s H vs Q E hr h => ?_)
  · obtain ⟨a, C, w, rfl, hw⟩ := h
    rfl
  · obtain ⟨a, C, w, rfl, hw⟩ := h
    refine ⟨_, (pss_one (ps_ost (pv 0) (pv 1))), ?_⟩
    obtain ⟨T1, hv, ha, k⟩ := hw
    walk_at "hs"
    refine ⟨a, C, rfl, T1, hv, .inl ⟨ha, fun d hd hne => ?_⟩⟩
    walk_at "hs"
    exact k _ d ((HS.Keep.new hd).at rfl) upd_same (by rw [upd_ne hne]; exact upd_same)
def sp_Unreadable___init__ (K : PySem.W.Frag) : Sp := fun vs H Q _ => ∃ (a C : Addr) (w : V), vs = [.ref a, w] ∧ (OexC K C ∧ PySem.W.findIn K (.ref C) "value" = some none ∧ H a = some (exo a C none) ∧ ∀ H' d, HS.Keep (fun x => x = a) H H' → H' a = some (exo a C (some d)) → H' d = some (exd d [("value", w)]) → Q .non H')
theorem ok_Unreadable___init__ (T : Txt K mg A) : FnOk P w K mg base CX0 1 A.a_Unreadable___init__ A.d_Unreadable___init__ ["self", "value"] (sp_Unreadable___init__ K) := by
  refine T.F_Unreadable___init__.ok sc_Unreadable___init__ (fun vs H Q E h => ?_) (fun cdv A0 outer s H vs Q E hr h => ?_)
  · obtain ⟨a, C, w, rfl, hw⟩ := h
    rfl
  · obtain ⟨a, C, w, rfl, hw⟩ := h
    refine ⟨_, (pss_one (ps_ost (pv 0) (pv 1))), ?_⟩
    obtain ⟨T1, hv, ha, k⟩ := hw
    walk_at "hs"
    refine ⟨a, C, rfl, T1, hv, .inl ⟨ha, fun d hd hne => ?_⟩⟩
    walk_at "hs"
    exact k _ d ((HS.Keep.new hd).at rfl) upd_same (by rw [upd_ne hne]; exact upd_same)
def sp__law_error (K : PySem.W.Frag) (A : Ad) : Sp := fun vs H Q _ => ∃ (a C : Addr) (fs : List (Str × V)) (nm : Str) (w : V), vs = [.ref a] ∧ (HS.Exv H a C fs ∧ EKind A C nm ∧ fs.lookup ("value" : Str) = some w ∧ ∀ H' p, HS.Keep (fun _ => False) H H' → H p = none → H' p = some (.lst [.str nm, w, .bl true]) → Q (.ref p) H')
theorem ok__law_error (T : Txt K mg A) : FnOk P w K mg base CX0 1 A.a__law_error A.d__law_error ["e"] (sp__law_error K A) := by
  refine T.F__law_error.ok sc__law_error (fun vs H Q E h => ?_) (fun cdv A0 outer s H vs Q E hr h => ?_)
  · obtain ⟨a, C, fs, nm, w, rfl, hw⟩ := h
    rfl
  · obtain ⟨a, C, fs, nm, w, rfl, hw⟩ := h
    refine ⟨_, (pss_cons (ps_set (i := 1) sc__law_error.nd rfl (.inl rfl) (pe_lst (pa_cons (pe_tup (pa_cons pe_str (pa_cons (pe_callB (HS.kisV K) (by rfl) T.z_isinstance (by decide +kernel) (pa_cons (pv 0) (pa_cons (pe_glob (v := .ref A.c_InvalidBook) (by rfl) T.m_InvalidBook rfl) pa_nil))) pa_nil))) (pa_cons (pe_tup (pa_cons pe_str (pa_cons (pe_callB (HS.kisV K) (by rfl) T.z_isinstance (by decide +kernel) (pa_cons (pv 0) (pa_cons (pe_glob (v := .ref A.c_InvalidSize) (by rfl) T.m_InvalidSize rfl) pa_nil))) pa_nil))) pa_nil))))
    (pss_cons (ps_set (i := 1) sc__law_error.nd rfl (.inl rfl) (pe_op op_cat (pv 1) (pe_lst (pa_cons (pe_tup (pa_cons pe_str (pa_cons (pe_callB (HS.kisV K) (by rfl) T.z_isinstance (by decide +kernel) (pa_cons (pv 0) (pa_cons (pe_glob (v := .ref A.c_InvalidTable) (by rfl) T.m_InvalidTable rfl) pa_nil))) pa_nil))) (pa_cons (pe_tup (pa_cons pe_str (pa_cons (pe_callB (HS.kisV K) (by rfl) T.z_isinstance (by decide +kernel) (pa_cons (pv 0) (pa_cons (pe_glob (v := .ref A.c_InvalidChain) (by rfl) T.m_InvalidChain rfl) pa_nil))) pa_nil))) pa_nil)))))
    (pss_cons (ps_set (i := 1) sc__law_error.nd rfl (.inl rfl) (pe_op op_cat (pv 1) (pe_lst (pa_cons (pe_tup (pa_cons pe_str (pa_cons (pe_callB (HS.kisV K) (by rfl) T.z_isinstance (by decide +kernel) (pa_cons (pv 0) (pa_cons (pe_glob (v := .ref A.c_InvalidNumber) (by rfl) T.m_InvalidNumber rfl) pa_nil))) pa_nil))) (pa_cons (pe_tup (pa_cons pe_str (pa_cons (pe_callB (HS.kisV K) (by rfl) T.z_isinstance (by decide +kernel) (pa_cons (pv 0) (pa_cons (pe_glob (v := .ref A.c_NothingToUndo) (by rfl) T.m_NothingToUndo rfl) pa_nil))) pa_nil))) pa_nil)))))
    (pss_cons (ps_setLc (i := 2) (own := [("name", 3), ("is_one", 4)]) (g := gTup K 2 (gCons (gName 3) (gCons (gName 4) gNil))) rfl sc__law_error.nd rfl rfl (sw_true rfl rfl rfl (by decide +kernel)) (HS.kil K (pi_list (pe_op op_cat (pv 1) (pe_lst (pa_cons (pe_tup (pa_cons pe_str (pa_cons (pe_callB (HS.kisV K) (by rfl) T.z_isinstance (by decide +kernel) (pa_cons (pv 0) (pa_cons (pe_glob (v := .ref A.c_Unreadable) (by rfl) T.m_Unreadable rfl) pa_nil))) pa_nil))) pa_nil))))) (blkOk_by (own := [("name", 3), ("is_one", 4)]) (N := N__law_error) (sc := defScope s__law_error) (by decide +kernel)) (fun _ _ _ _ _ => HS.kgt K (pg_tup rfl (pgs_cons (pg_name (i := 3) sc__law_error.nd rfl (by first | exact .inl rfl | exact .inr rfl)) (pgs_cons (pg_name (i := 4) sc__law_error.nd rfl (by first | exact .inl rfl | exact .inr rfl)) pgs_nil)))) (fun _ _ _ _ _ => (pts_one (pt_val (pv 4)))) (fun _ _ _ _ _ => (pv 3)))
    (pss_one (ps_ret (pe_op op_cat (pv 2) (pe_lst (pa_cons (HS.pe_fldV (pv 0)) (pa_cons (pe_and (pe_callB (HS.kisV K) (by rfl) T.z_isinstance (by decide +kernel) (pa_cons (pv 0) (pa_cons (pe_glob (v := .ref A.c_BookError) (by rfl) T.m_BookError rfl) pa_nil))) (pe_one (pe_callB (HS.kisV K) (by rfl) T.z_isinstance (by decide +kernel) (pa_cons (pv 0) (pa_cons (pe_bltn (v := .ty "ValueError") (by rfl) T.z_ValueError (by decide +kernel) rfl) pa_nil))))) pa_nil)))))))))), ?_⟩
    obtain ⟨he, hk, hl, k⟩ := hw
    obtain ⟨b0, b1, b2, b3, b4, b5, b6, ⟨T1, T2, T3, q0, q1, q2, q3, q4, q5, q6, q7, q8⟩, hpk⟩ := hk.kits T
    walk_at "hs"
    intro t0 ht0
    walk_at "hs"
    intro t1 ht1
    walk_at "hs"
    intro l1 hl1
    obtain ⟨H1, e1, K1, P1, L1⟩ := HS.pair2 ht0 ht1 hl1
    rw [e1]
    have he1 := he.same K1
    clear e1 hl1 ht1 ht0
    walk_at "hs"
    intro t2 ht2
    walk_at "hs"
    intro t3 ht3
    walk_at "hs"
    intro l2 hl2
    obtain ⟨H2, e2, K2, P2, L2⟩ := HS.pair2 ht2 ht3 hl2
    rw [e2]
    have he2 := he1.same K2
    have L12 := K2 l1 _ L1 id
    have P12 := (P1.same K2).app P2
    clear e2 hl2 ht3 ht2 P1 P2 L1 he1
    walk_at "hs"
    intro c1 hc1
    have K3 : HS.Keep (fun _ => False) H1 (upd H2 c1 (.lst ([.ref t0, .ref t1] ++ [.ref t2, .ref t3]))) := K2.trans (HS.Keep.new hc1)
    have P3 := P12.new (o := .lst ([.ref t0, .ref t1] ++ [.ref t2, .ref t3])) hc1
    have he3 := he2.new (o := .lst ([.ref t0, .ref t1] ++ [.ref t2, .ref t3])) hc1
    have L3 : upd H2 c1 (.lst ([.ref t0, .ref t1] ++ [.ref t2, .ref t3])) c1 = some (.lst ([.ref t0, .ref t1] ++ [.ref t2, .ref t3])) := upd_same
    generalize upd H2 c1 (.lst ([.ref t0, .ref t1] ++ [.ref t2, .ref t3])) = H3 at K3 P3 he3 L3 ⊢
    clear K2 P12 he2 L12 L2 hc1
    walk_at "hs"
    intro t4 ht4
    walk_at "hs"
    intro t5 ht5
    walk_at "hs"
    intro l4 hl4
    obtain ⟨H4, e4, K4, P4, L4⟩ := HS.pair2 ht4 ht5 hl4
    rw [e4]
    have he4 := he3.same K4
    have L34 := K4 c1 _ L3 id
    have P34 := (P3.same K4).app P4
    clear e4 hl4 ht5 ht4 P3 P4 L3 he3
    walk_at "hs"
    intro c2 hc2
    have K5 : HS.Keep (fun _ => False) H3 (upd H4 c2 (.lst ([.ref t0, .ref t1] ++ [.ref t2, .ref t3] ++ [.ref t4, .ref t5]))) := K4.trans (HS.Keep.new hc2)
    have P5 := P34.new (o := .lst ([.ref t0, .ref t1] ++ [.ref t2, .ref t3] ++ [.ref t4, .ref t5])) hc2
    have he5 := he4.new (o := .lst ([.ref t0, .ref t1] ++ [.ref t2, .ref t3] ++ [.ref t4, .ref t5])) hc2
    have L5 : upd H4 c2 (.lst ([.ref t0, .ref t1] ++ [.ref t2, .ref t3] ++ [.ref t4, .ref t5])) c2 = some (.lst ([.ref t0, .ref t1] ++ [.ref t2, .ref t3] ++ [.ref t4, .ref t5])) := upd_same
    generalize upd H4 c2 (.lst ([.ref t0, .ref t1] ++ [.ref t2, .ref t3] ++ [.ref t4, .ref t5])) = H5 at K5 P5 he5 L5 ⊢
    clear K4 P34 he4 L34 L4 hc2
    walk_at "hs"
    intro t6 ht6
    walk_at "hs"
    intro l6 hl6
    obtain ⟨H6, e6, K6, P6, L6⟩ := HS.pair1 ht6 hl6
    rw [e6]
    have he6 := he5.same K6
    have L56 := K6 c2 _ L5 id
    have P56 := (P5.same K6).app P6
    clear e6 hl6 ht6 P5 P6 L5 he5
    walk_at "hs"
    intro c3 hc3
    have K7 : HS.Keep (fun _ => False) H5 (upd H6 c3 (.lst ([.ref t0, .ref t1] ++ [.ref t2, .ref t3] ++ [.ref t4, .ref t5] ++ [.ref t6]))) := K6.trans (HS.Keep.new hc3)
    have P7 := P56.new (o := .lst ([.ref t0, .ref t1] ++ [.ref t2, .ref t3] ++ [.ref t4, .ref t5] ++ [.ref t6])) hc3
    have he7 := he6.new (o := .lst ([.ref t0, .ref t1] ++ [.ref t2, .ref t3] ++ [.ref t4, .ref t5] ++ [.ref t6])) hc3
    have L7 : upd H6 c3 (.lst ([.ref t0, .ref t1] ++ [.ref t2, .ref t3] ++ [.ref t4, .ref t5] ++ [.ref t6])) c3 = some (.lst ([.ref t0, .ref t1] ++ [.ref t2, .ref t3] ++ [.ref t4, .ref t5] ++ [.ref t6])) := upd_same
    generalize upd H6 c3 (.lst ([.ref t0, .ref t1] ++ [.ref t2, .ref t3] ++ [.ref t4, .ref t5] ++ [.ref t6])) = H7 at K7 P7 he7 L7 ⊢
    have KA : HS.Keep (fun _ => False) H H7 := K1.trans (K3.trans (K5.trans K7))
    clear K1 K3 K5 K6 K7 P56 he6 L56 L6 hc3 he
    generalize [V.ref t0, .ref t1] ++ [.ref t2, .ref t3] ++ [.ref t4, .ref t5] ++ [.ref t6] = tv at P7 L7 ⊢
    replace P7 : HS.PrV H7 tv ((pick7 b0 b1 b2 b3 b4 b5 b6).map fun q => (V.str q.1, V.bl q.2)) := P7
    walk_at "hs"
    refine ⟨⟨_, HS.sq L7⟩, fun D hD => ?_⟩
    refine lc_list (xs := tv) (fun i H' => HS.Keep (fun _ => False) H7 H' ∧ H' D = some (.lst (picked ((pick7 b0 b1 b2 b3 b4 b5 b6).take i)))) ?_ ?_ ?_ ?_
    · exact ⟨HS.Keep.new hD, upd_same⟩
    · rintro i H' _ ⟨K', _⟩
      exact HS.sq (K' _ _ L7 id)
    · rintro i x H' hi ⟨K', hD'⟩
      obtain ⟨t, p, rfl, hp, ht⟩ := P7.at hi
      rw [List.getElem?_map] at hp
      obtain ⟨q, hq, rfl⟩ := Option.map_eq_some_iff.mp hp
      have ht' := K' t _ ht id
      have hlen : (picked ((pick7 b0 b1 b2 b3 b4 b5 b6).take i)).length ≤ 7 := Nat.le_trans (List.length_filterMap_le _ _) (by rw [List.length_take]; exact Nat.min_le_right _ _)
      have hnx : (pick7 b0 b1 b2 b3 b4 b5 b6).take (i + 1) = (pick7 b0 b1 b2 b3 b4 b5 b6).take i ++ [q] := by rw [List.take_add_one, hq]; rfl
      walk_at "hs"
      cases hb : q.2 with
      | true =>
        walk_at "hs"
        refine ⟨_, hD', HS.sz (by omega), K'.put hD, ?_⟩
        rw [upd_same, hnx]
        show _ = some (HO.lst (List.filterMap _ (_ ++ _)))
        rw [List.filterMap_append]
        show _ = some (HO.lst (_ ++ List.filterMap _ [q]))
        rw [List.filterMap_cons, hb]
        rfl
      | false =>
        walk_at "hs"
        refine ⟨K', ?_⟩
        rw [hD', hnx]
        show some (HO.lst (List.filterMap _ _)) = some (HO.lst (List.filterMap _ (_ ++ _)))
        rw [List.filterMap_append, List.filterMap_cons, hb]
        simp
    · rintro H8 ⟨K8, hD8⟩
      have he8 := he7.same K8
      have h7 : tv.length = 7 := by rw [P7.len]; rfl
      rw [h7, show (pick7 b0 b1 b2 b3 b4 b5 b6).take 7 = pick7 b0 b1 b2 b3 b4 b5 b6 from rfl, hpk] at hD8
      walk_at "hs"
      refine ⟨a, C, fs, w, rfl, T2, T3, he8, hl, ?_⟩
      walk_at "hs"
      intro l8 hl8
      walk_at "hs"
      intro p8 hp8
      have KB := KA.trans (K8.trans (HS.Keep.new (o := .lst [w, .bl true]) hl8))
      exact k _ p8 (KB.trans (HS.Keep.new hp8)) (KB.free hp8 id) upd_same
def sp__law_made (K : PySem.W.Frag) (A : Ad) : Sp := fun vs H Q _ => ∃ (i : Int) (w : V) (b : Bool), vs = [.int i, w, .bl b] ∧ (0 ≤ i ∧ i < 7 ∧ ∀ H' a C nm, HS.Keep (fun _ => False) H H' → EKind A C nm → (["InvalidBook", "InvalidSize", "InvalidTable", "InvalidChain", "InvalidNumber", "NothingToUndo", "Unreadable"] : List Str)[i.toNat]? = some nm → HS.Exv H' a C [("value", w)] → Q (.ref a) H')
theorem ok__law_made (T : Txt K mg A) : FnOk P w K mg base CX0 3 A.a__law_made A.d__law_made ["door", "what", "by_name"] (sp__law_made K A) := by
  have G_InvalidBook___init__ : FnOk P w K mg base CX0 1 A.a_InvalidBook___init__ A.d_InvalidBook___init__ ["self", "value"] (sp_InvalidBook___init__ K) := ok_InvalidBook___init__ T
  have G_InvalidSize___init__ : FnOk P w K mg base CX0 1 A.a_InvalidSize___init__ A.d_InvalidSize___init__ ["self", "value"] (sp_InvalidSize___init__ K) := ok_InvalidSize___init__ T
  have G_InvalidTable___init__ : FnOk P w K mg base CX0 1 A.a_InvalidTable___init__ A.d_InvalidTable___init__ ["self", "value"] (sp_InvalidTable___init__ K) := ok_InvalidTable___init__ T
  have G_InvalidChain___init__ : FnOk P w K mg base CX0 1 A.a_InvalidChain___init__ A.d_InvalidChain___init__ ["self", "value"] (sp_InvalidChain___init__ K) := ok_InvalidChain___init__ T
  have G_InvalidNumber___init__ : FnOk P w K mg base CX0 1 A.a_InvalidNumber___init__ A.d_InvalidNumber___init__ ["self", "value"] (sp_InvalidNumber___init__ K) := ok_InvalidNumber___init__ T
  have G_NothingToUndo___init__ : FnOk P w K mg base CX0 1 A.a_NothingToUndo___init__ A.d_NothingToUndo___init__ ["self", "value"] (sp_NothingToUndo___init__ K) := ok_NothingToUndo___init__ T
  have G_Unreadable___init__ : FnOk P w K mg base CX0 1 A.a_Unreadable___init__ A.d_Unreadable___init__ ["self", "value"] (sp_Unreadable___init__ K) := ok_Unreadable___init__ T
  refine T.F__law_made.ok sc__law_made (fun vs H Q E h => ?_) (fun cdv A0 outer s H vs Q E hr h => ?_)
  · obtain ⟨i, w, b, rfl, hw⟩ := h
    rfl
  · obtain ⟨i, w, b, rfl, hw⟩ := h
    refine ⟨_, (pss_cons (ps_if (pt_cmpR op_eq (pv 0) pe_int (nomark _))
      (pss_one (ps_ret (pe_ifExp (pt_val (pv 2)) (HS.pe_newK T.C_InvalidBook T.i_InvalidBook T.t_InvalidBook G_InvalidBook___init__ hr T.k_InvalidBook pass0 (by rfl) T.m_InvalidBook (pk_cons (pv 1) pk_nil)) (HS.pe_newV T.C_InvalidBook T.i_InvalidBook T.t_InvalidBook G_InvalidBook___init__ hr T.b_InvalidBook___init__ pass0 (by rfl) T.m_InvalidBook (pa_cons (pv 1) pa_nil)))))
      pss_nil)
    (pss_cons (ps_if (pt_cmpR op_eq (pv 0) pe_int (nomark _))
      (pss_one (ps_ret (pe_ifExp (pt_val (pv 2)) (HS.pe_newK T.C_InvalidSize T.i_InvalidSize T.t_InvalidSize G_InvalidSize___init__ hr T.k_InvalidSize pass0 (by rfl) T.m_InvalidSize (pk_cons (pv 1) pk_nil)) (HS.pe_newV T.C_InvalidSize T.i_InvalidSize T.t_InvalidSize G_InvalidSize___init__ hr T.b_InvalidSize___init__ pass0 (by rfl) T.m_InvalidSize (pa_cons (pv 1) pa_nil)))))
      pss_nil)
    (pss_cons (ps_if (pt_cmpR op_eq (pv 0) pe_int (nomark _))
      (pss_one (ps_ret (pe_ifExp (pt_val (pv 2)) (HS.pe_newK T.C_InvalidTable T.i_InvalidTable T.t_InvalidTable G_InvalidTable___init__ hr T.k_InvalidTable pass0 (by rfl) T.m_InvalidTable (pk_cons (pv 1) pk_nil)) (HS.pe_newV T.C_InvalidTable T.i_InvalidTable T.t_InvalidTable G_InvalidTable___init__ hr T.b_InvalidTable___init__ pass0 (by rfl) T.m_InvalidTable (pa_cons (pv 1) pa_nil)))))
      pss_nil)
    (pss_cons (ps_if (pt_cmpR op_eq (pv 0) pe_int (nomark _))
      (pss_one (ps_ret (pe_ifExp (pt_val (pv 2)) (HS.pe_newK T.C_InvalidChain T.i_InvalidChain T.t_InvalidChain G_InvalidChain___init__ hr T.k_InvalidChain pass0 (by rfl) T.m_InvalidChain (pk_cons (pv 1) pk_nil)) (HS.pe_newV T.C_InvalidChain T.i_InvalidChain T.t_InvalidChain G_InvalidChain___init__ hr T.b_InvalidChain___init__ pass0 (by rfl) T.m_InvalidChain (pa_cons (pv 1) pa_nil)))))
      pss_nil)
    (pss_cons (ps_if (pt_cmpR op_eq (pv 0) pe_int (nomark _))
      (pss_one (ps_ret (pe_ifExp (pt_val (pv 2)) (HS.pe_newK T.C_InvalidNumber T.i_InvalidNumber T.t_InvalidNumber G_InvalidNumber___init__ hr T.k_InvalidNumber pass0 (by rfl) T.m_InvalidNumber (pk_cons (pv 1) pk_nil)) (HS.pe_newV T.C_InvalidNumber T.i_InvalidNumber T.t_InvalidNumber G_InvalidNumber___init__ hr T.b_InvalidNumber___init__ pass0 (by rfl) T.m_InvalidNumber (pa_cons (pv 1) pa_nil)))))
      pss_nil)
    (pss_cons (ps_if (pt_cmpR op_eq (pv 0) pe_int (nomark _))
      (pss_one (ps_ret (pe_ifExp (pt_val (pv 2)) (HS.pe_newK T.C_NothingToUndo T.i_NothingToUndo T.t_NothingToUndo G_NothingToUndo___init__ hr T.k_NothingToUndo pass0 (by rfl) T.m_NothingToUndo (pk_cons (pv 1) pk_nil)) (HS.pe_newV T.C_NothingToUndo T.i_NothingToUndo T.t_NothingToUndo G_NothingToUndo___init__ hr T.b_NothingToUndo___init__ pass0 (by rfl) T.m_NothingToUndo (pa_cons (pv 1) pa_nil)))))
      pss_nil)
    (pss_one (ps_ret (pe_ifExp (pt_val (pv 2)) (HS.pe_newK T.C_Unreadable T.i_Unreadable T.t_Unreadable G_Unreadable___init__ hr T.k_Unreadable pass0 (by rfl) T.m_Unreadable (pk_cons (pv 1) pk_nil)) (HS.pe_newV T.C_Unreadable T.i_Unreadable T.t_Unreadable G_Unreadable___init__ hr T.b_Unreadable___init__ pass0 (by rfl) T.m_Unreadable (pa_cons (pv 1) pa_nil))))))))))), ?_⟩
    obtain ⟨i0, i7, k⟩ := hw
    walk_at "hs"
    refine HS.itd (fun e => ?_) (fun e0 => ?_)
    · subst e
      walk_at "hs"
      cases b with
      | true =>
        walk_at "hs"
        refine ⟨rfl, fun a ha => ⟨a, A.c_InvalidBook, w, rfl, T.C_InvalidBook, T.n_InvalidBook, upd_same, fun H' d K1 e1 e2 => ⟨rfl, ?_⟩⟩⟩
        exact k H' a A.c_InvalidBook "InvalidBook" (K1.over ha) (.inl ⟨rfl, rfl⟩) (rfl) ⟨d, e1, e2⟩
      | false =>
        walk_at "hs"
        refine ⟨show 1 ≤ 1000 by decide, fun a ha => ⟨a, A.c_InvalidBook, w, rfl, T.C_InvalidBook, T.n_InvalidBook, upd_same, fun H' d K1 e1 e2 => ⟨rfl, ?_⟩⟩⟩
        exact k H' a A.c_InvalidBook "InvalidBook" (K1.over ha) (.inl ⟨rfl, rfl⟩) (rfl) ⟨d, e1, e2⟩
    walk_at "hs"
    refine HS.itd (fun e => ?_) (fun e1 => ?_)
    · subst e
      walk_at "hs"
      cases b with
      | true =>
        walk_at "hs"
        refine ⟨rfl, fun a ha => ⟨a, A.c_InvalidSize, w, rfl, T.C_InvalidSize, T.n_InvalidSize, upd_same, fun H' d K1 e1 e2 => ⟨rfl, ?_⟩⟩⟩
        exact k H' a A.c_InvalidSize "InvalidSize" (K1.over ha) (.inr (.inl ⟨rfl, rfl⟩)) (rfl) ⟨d, e1, e2⟩
      | false =>
        walk_at "hs"
        refine ⟨show 1 ≤ 1000 by decide, fun a ha => ⟨a, A.c_InvalidSize, w, rfl, T.C_InvalidSize, T.n_InvalidSize, upd_same, fun H' d K1 e1 e2 => ⟨rfl, ?_⟩⟩⟩
        exact k H' a A.c_InvalidSize "InvalidSize" (K1.over ha) (.inr (.inl ⟨rfl, rfl⟩)) (rfl) ⟨d, e1, e2⟩
    walk_at "hs"
    refine HS.itd (fun e => ?_) (fun e2 => ?_)
    · subst e
      walk_at "hs"
      cases b with
      | true =>
        walk_at "hs"
        refine ⟨rfl, fun a ha => ⟨a, A.c_InvalidTable, w, rfl, T.C_InvalidTable, T.n_InvalidTable, upd_same, fun H' d K1 e1 e2 => ⟨rfl, ?_⟩⟩⟩
        exact k H' a A.c_InvalidTable "InvalidTable" (K1.over ha) (.inr (.inr (.inl ⟨rfl, rfl⟩))) (rfl) ⟨d, e1, e2⟩
      | false =>
        walk_at "hs"
        refine ⟨show 1 ≤ 1000 by decide, fun a ha => ⟨a, A.c_InvalidTable, w, rfl, T.C_InvalidTable, T.n_InvalidTable, upd_same, fun H' d K1 e1 e2 => ⟨rfl, ?_⟩⟩⟩
        exact k H' a A.c_InvalidTable "InvalidTable" (K1.over ha) (.inr (.inr (.inl ⟨rfl, rfl⟩))) (rfl) ⟨d, e1, e2⟩
    walk_at "hs"
    refine HS.itd (fun e => ?_) (fun e3 => ?_)
    · subst e
      walk_at "hs"
      cases b with
      | true =>
        walk_at "hs"
        refine ⟨rfl, fun a ha => ⟨a, A.c_InvalidChain, w, rfl, T.C_InvalidChain, T.n_InvalidChain, upd_same, fun H' d K1 e1 e2 => ⟨rfl, ?_⟩⟩⟩
        exact k H' a A.c_InvalidChain "InvalidChain" (K1.over ha) (.inr (.inr (.inr (.inl ⟨rfl, rfl⟩)))) (rfl) ⟨d, e1, e2⟩
      | false =>
        walk_at "hs"
        refine ⟨show 1 ≤ 1000 by decide, fun a ha => ⟨a, A.c_InvalidChain, w, rfl, T.C_InvalidChain, T.n_InvalidChain, upd_same, fun H' d K1 e1 e2 => ⟨rfl, ?_⟩⟩⟩
        exact k H' a A.c_InvalidChain "InvalidChain" (K1.over ha) (.inr (.inr (.inr (.inl ⟨rfl, rfl⟩)))) (rfl) ⟨d, e1, e2⟩
    walk_at "hs"
    refine HS.itd (fun e => ?_) (fun e4 => ?_)
    · subst e
      walk_at "hs"
      cases b with
      | true =>
        walk_at "hs"
        refine ⟨rfl, fun a ha => ⟨a, A.c_InvalidNumber, w, rfl, T.C_InvalidNumber, T.n_InvalidNumber, upd_same, fun H' d K1 e1 e2 => ⟨rfl, ?_⟩⟩⟩
        exact k H' a A.c_InvalidNumber "InvalidNumber" (K1.over ha) (.inr (.inr (.inr (.inr (.inl ⟨rfl, rfl⟩))))) (rfl) ⟨d, e1, e2⟩
      | false =>
        walk_at "hs"
        refine ⟨show 1 ≤ 1000 by decide, fun a ha => ⟨a, A.c_InvalidNumber, w, rfl, T.C_InvalidNumber, T.n_InvalidNumber, upd_same, fun H' d K1 e1 e2 => ⟨rfl, ?_⟩⟩⟩
        exact k H' a A.c_InvalidNumber "InvalidNumber" (K1.over ha) (.inr (.inr (.inr (.inr (.inl ⟨rfl, rfl⟩))))) (rfl) ⟨d, e1, e2⟩
    walk_at "hs"
    refine HS.itd (fun e => ?_) (fun e5 => ?_)
    · subst e
      walk_at "hs"
      cases b with
      | true =>
        walk_at "hs"
        refine ⟨rfl, fun a ha => ⟨a, A.c_NothingToUndo, w, rfl, T.C_NothingToUndo, T.n_NothingToUndo, upd_same, fun H' d K1 e1 e2 => ⟨rfl, ?_⟩⟩⟩
        exact k H' a A.c_NothingToUndo "NothingToUndo" (K1.over ha) (.inr (.inr (.inr (.inr (.inr (.inl ⟨rfl, rfl⟩)))))) (rfl) ⟨d, e1, e2⟩
      | false =>
        walk_at "hs"
        refine ⟨show 1 ≤ 1000 by decide, fun a ha => ⟨a, A.c_NothingToUndo, w, rfl, T.C_NothingToUndo, T.n_NothingToUndo, upd_same, fun H' d K1 e1 e2 => ⟨rfl, ?_⟩⟩⟩
        exact k H' a A.c_NothingToUndo "NothingToUndo" (K1.over ha) (.inr (.inr (.inr (.inr (.inr (.inl ⟨rfl, rfl⟩)))))) (rfl) ⟨d, e1, e2⟩
    walk_at "hs"
    cases b with
    | true =>
      walk_at "hs"
      refine ⟨rfl, fun a ha => ⟨a, A.c_Unreadable, w, rfl, T.C_Unreadable, T.n_Unreadable, upd_same, fun H' d K1 e1 e2 => ⟨rfl, ?_⟩⟩⟩
      exact k H' a A.c_Unreadable "Unreadable" (K1.over ha) (.inr (.inr (.inr (.inr (.inr (.inr (⟨rfl, rfl⟩))))))) (by rw [show i.toNat = 6 by omega]; rfl) ⟨d, e1, e2⟩
    | false =>
      walk_at "hs"
      refine ⟨show 1 ≤ 1000 by decide, fun a ha => ⟨a, A.c_Unreadable, w, rfl, T.C_Unreadable, T.n_Unreadable, upd_same, fun H' d K1 e1 e2 => ⟨rfl, ?_⟩⟩⟩
      exact k H' a A.c_Unreadable "Unreadable" (K1.over ha) (.inr (.inr (.inr (.inr (.inr (.inr (⟨rfl, rfl⟩))))))) (by rw [show i.toNat = 6 by omega]; rfl) ⟨d, e1, e2⟩
def sp__law_same : Nat → PySem.W.Frag → Sp
  | 0, _ => fun _ _ _ _ => False
  | n + 1, K => fun vs H Q _ => ∃ (x y : V), vs = [x, y] ∧ (HS.SmV K H n x y ∧ ∀ H', HS.Keep (fun _ => False) H H' → Q (.bl true) H')
theorem ok__law_same (T : Txt K mg A) (n : Nat) : FnOk P w K mg base CX0 (n + 1) A.a__law_same A.d__law_same ["found", "wanted"] (sp__law_same n K) := by
  induction n with
  | zero => exact T.F__law_same.ok sc__law_same (fun _ _ _ _ h => h.elim) (fun _ _ _ _ _ _ _ _ _ h => h.elim)
  | succ n G__law_same =>
  refine T.F__law_same.ok sc__law_same (fun vs H Q E h => ?_) (fun cdv A0 outer s H vs Q E hr h => ?_)
  · obtain ⟨x, y, rfl, hw⟩ := h
    rfl
  · obtain ⟨x, y, rfl, hw⟩ := h
    refine ⟨_, (pss_cons (ps_if (pt_cmpR op_isN (pv 1) pe_non (nomark _))
      (pss_one (ps_ret (pe_cmpR op_isN (pv 0) pe_non (nomark _))))
      pss_nil)
    (pss_cons (ps_if (pt_val (pe_callB (HS.kisi K) (by rfl) T.z_isinstance (by decide +kernel) (pa_cons (pv 1) (pa_cons (pe_bltn (v := .ty "bool") (by rfl) T.z_bool (by decide +kernel) rfl) pa_nil))))
      (pss_one (ps_ret (pe_and (pe_callB (HS.kisi K) (by rfl) T.z_isinstance (by decide +kernel) (pa_cons (pv 0) (pa_cons (pe_bltn (v := .ty "bool") (by rfl) T.z_bool (by decide +kernel) rfl) pa_nil))) (pe_one (pe_cmpR op_eq (pv 0) (pv 1) (nomark _))))))
      pss_nil)
    (pss_cons (ps_if (pt_val (pe_callB (HS.kisi K) (by rfl) T.z_isinstance (by decide +kernel) (pa_cons (pv 1) (pa_cons (pe_bltn (v := .ty "int") (by rfl) T.z_int (by decide +kernel) rfl) pa_nil))))
      (pss_one (ps_ret (pe_and (pe_callB (HS.kisi K) (by rfl) T.z_isinstance (by decide +kernel) (pa_cons (pv 0) (pa_cons (pe_bltn (v := .ty "int") (by rfl) T.z_int (by decide +kernel) rfl) pa_nil))) (pe_and (pe_not (pe_callB (HS.kisi K) (by rfl) T.z_isinstance (by decide +kernel) (pa_cons (pv 0) (pa_cons (pe_bltn (v := .ty "bool") (by rfl) T.z_bool (by decide +kernel) rfl) pa_nil)))) (pe_one (pe_cmpR op_eq (pv 0) (pv 1) (nomark _)))))))
      pss_nil)
    (pss_cons (ps_if (pt_val (pe_callB (HS.kisi K) (by rfl) T.z_isinstance (by decide +kernel) (pa_cons (pv 1) (pa_cons (pe_bltn (v := .ty "str") (by rfl) T.z_str (by decide +kernel) rfl) pa_nil))))
      (pss_one (ps_ret (pe_and (pe_callB (HS.kisi K) (by rfl) T.z_isinstance (by decide +kernel) (pa_cons (pv 0) (pa_cons (pe_bltn (v := .ty "str") (by rfl) T.z_str (by decide +kernel) rfl) pa_nil))) (pe_one (pe_cmpR op_eq (pv 0) (pv 1) (nomark _))))))
      pss_nil)
    (pss_cons (ps_if (pt_cmpR op_ne (pe_callB (HS.kisi K) (by rfl) T.z_isinstance (by decide +kernel) (pa_cons (pv 0) (pa_cons (pe_bltn (v := .ty "list") (by rfl) T.z_list (by decide +kernel) rfl) pa_nil))) (pe_callB (HS.kisi K) (by rfl) T.z_isinstance (by decide +kernel) (pa_cons (pv 1) (pa_cons (pe_bltn (v := .ty "list") (by rfl) T.z_list (by decide +kernel) rfl) pa_nil))) (nomark _))
      (pss_one (ps_ret pe_bl))
      pss_nil)
    (pss_cons (ps_if (PW.pt (pw_or (pt_cmpR op_ne (pe_callB (HS.kisi K) (by rfl) T.z_isinstance (by decide +kernel) (pa_cons (pv 0) (pa_cons (pe_bltn (v := .ty "tuple") (by rfl) T.z_tuple (by decide +kernel) rfl) pa_nil))) (pe_callB (HS.kisi K) (by rfl) T.z_isinstance (by decide +kernel) (pa_cons (pv 1) (pa_cons (pe_bltn (v := .ty "tuple") (by rfl) T.z_tuple (by decide +kernel) rfl) pa_nil))) (nomark _)) (pw_or1 (pt_cmpR op_ne (pe_callB (HS.klen K) (by rfl) T.z_len PySem.boot_len (pa_cons (pv 0) pa_nil)) (pe_callB (HS.klen K) (by rfl) T.z_len PySem.boot_len (pa_cons (pv 1) pa_nil)) (nomark _)))))
      (pss_one (ps_ret pe_bl))
      pss_nil)
    (pss_one (ps_ret (pe_cmpR (HS.keq K (hu64 hr)) (pe_lc (own := [("k", 2)]) (g := gName 2) rfl sc__law_same.nd (pi_range1 (by rfl) T.z_range (pa_cons (pe_callB (HS.klen K) (by rfl) T.z_len PySem.boot_len (pa_cons (pv 1) pa_nil)) pa_nil)) (blkOk_by (own := [("k", 2)]) (N := N__law_same) (sc := defScope s__law_same) (by decide +kernel)) (fun _ _ _ _ _ => pg_name (i := 2) sc__law_same.nd rfl (by first | exact .inl rfl | exact .inr rfl)) (fun _ _ _ _ _ => (pts_one (pt_not (pt_val (pe_call G__law_same hr (by rfl) T.g__law_same T.F__law_same.kp T.b__law_same .nil pass0 (pa_cons (pe_ix (HS.ixa K) (pv 0) (pv 2) (fun _ _ => rfl)) (pa_cons (pe_ix (HS.ixa K) (pv 1) (pv 2) (fun _ _ => rfl)) pa_nil))))))) (fun _ _ _ _ _ => (pv 2))) (pe_lst pa_nil) (nomark _)))))))))), ?_⟩
    obtain ⟨hs, k⟩ := hw
    walk_at "hs"
    refine ⟨rfl, ?_⟩
    walk_at "hs"
    cases hs with
    | non =>
      refine HS.it1 rfl ?_
      walk_at "hs"
      refine ⟨rfl, ?_⟩
      rw [decide_eq_true rfl]
      exact k _ .refl
    | bl b =>
      refine HS.it0 (fun z => nomatch z) ?_
      walk_at "hs"
      refine HS.isi true (.base (.bl b)) HS.kb_bb ?_
      walk_at "hs"
      refine HS.isi true (.base (.bl b)) HS.kb_bb ?_
      walk_at "hs"
      refine ⟨rfl, ?_⟩
      rw [decide_eq_true rfl]
      exact k _ .refl
    | int i =>
      refine HS.it0 (fun z => nomatch z) ?_
      walk_at "hs"
      refine HS.isi false (.base (.int i)) HS.kb_ib ?_
      walk_at "hs"
      refine HS.isi true (.base (.int i)) HS.kb_ii ?_
      walk_at "hs"
      refine HS.isi true (.base (.int i)) HS.kb_ii ?_
      walk_at "hs"
      refine HS.isi false (.base (.int i)) HS.kb_ib ?_
      walk_at "hs"
      rw [if_pos (show (!false) = true from rfl)]
      walk_at "hs"
      rw [decide_eq_true rfl]
      exact k _ .refl
    | str x =>
      refine HS.it0 (fun z => nomatch z) ?_
      walk_at "hs"
      refine HS.isi false (.base (.str x)) HS.kb_sb ?_
      walk_at "hs"
      refine HS.isi false (.base (.str x)) HS.kb_si ?_
      walk_at "hs"
      refine HS.isi true (.base (.str x)) HS.kb_ss ?_
      walk_at "hs"
      refine HS.isi true (.base (.str x)) HS.kb_ss ?_
      walk_at "hs"
      refine ⟨by simp [scal], ?_⟩
      rw [decide_eq_true rfl]
      exact k _ .refl
    | lst h1 h2 h3 h4 h =>
      rename_i m pa pb xs ys
      refine HS.it0 (fun z => nomatch z) ?_
      walk_at "hs"
      refine HS.isi false (.base (.lst h2)) HS.kb_lb ?_
      walk_at "hs"
      refine HS.isi false (.base (.lst h2)) HS.kb_li ?_
      walk_at "hs"
      refine HS.isi false (.base (.lst h2)) HS.kb_ls ?_
      walk_at "hs"
      refine HS.isi true (.base (.lst h1)) HS.kb_ll ?_
      walk_at "hs"
      refine HS.isi true (.base (.lst h2)) HS.kb_ll ?_
      walk_at "hs"
      refine HS.neB ?_
      walk_at "hs"
      refine HS.in0 rfl ?_
      walk_at "hs"
      refine HS.isi false (.base (.lst h1)) HS.kb_lt ?_
      walk_at "hs"
      refine HS.isi false (.base (.lst h2)) HS.kb_lt ?_
      walk_at "hs"
      refine HS.neB ?_
      walk_at "hs"
      refine HS.in0 rfl ?_
      walk_at "hs"
      rw [h3]
      refine HS.in0 rfl ?_
      walk_at "hs"
      have h5 : ys.length ≤ 1000 := by omega
      refine ⟨by omega, by omega, fun D hD => ?_⟩
      refine lc_range (lo := 0) (n := (ys.length : Int).toNat) (fun i H' => HS.Keep (fun _ => False) H H' ∧ H' D = some (.lst [])) ⟨.new hD, upd_same⟩ ?_ ?_
      · rintro i H2 hi ⟨K2, e2⟩
        have hi2 : i < ys.length := by omega
        walk_at "hs"
        rw [Int.zero_add]
        refine .inl ⟨pa, xs, _, xs[i], rfl, rfl, HS.sq (K2 _ _ h1 id), at_of (j := i) (by omega) (List.getElem?_eq_getElem (by omega)), ?_⟩
        walk_at "hs"
        refine .inl ⟨pb, ys, _, ys[i], rfl, rfl, HS.sq (K2 _ _ h2 id), at_of (j := i) (by omega) (List.getElem?_eq_getElem hi2), ?_⟩
        walk_at "hs"
        · refine ⟨xs[i], ys[i], rfl, (h i _ _ (List.getElem?_eq_getElem (by omega)) (List.getElem?_eq_getElem hi2)).same K2, fun H3 K3 => ?_⟩
          walk_at "hs"
          exact ⟨K2.trans K3, K3 _ _ e2 id⟩
      · rintro H2 ⟨K2, e2⟩
        walk_at "hs"
        intro p hp
        refine HS.eqL (xs := []) (ys := []) (HS.Keep.sq (S := fun _ => False) (.new hp) (HS.sq e2) id) (HS.sq upd_same) ?_
        exact k _ (K2.trans (.new hp))
    | tup h1 h2 h3 h4 h =>
      rename_i m pa pb xs ys
      refine HS.it0 (fun z => nomatch z) ?_
      walk_at "hs"
      refine HS.isi false (.base (.tup h2)) HS.kb_tb ?_
      walk_at "hs"
      refine HS.isi false (.base (.tup h2)) HS.kb_ti ?_
      walk_at "hs"
      refine HS.isi false (.base (.tup h2)) HS.kb_ts ?_
      walk_at "hs"
      refine HS.isi false (.base (.tup h1)) HS.kb_tl ?_
      walk_at "hs"
      refine HS.isi false (.base (.tup h2)) HS.kb_tl ?_
      walk_at "hs"
      refine HS.neB ?_
      walk_at "hs"
      refine HS.in0 rfl ?_
      walk_at "hs"
      refine HS.isi true (.base (.tup h1)) HS.kb_tt ?_
      walk_at "hs"
      refine HS.isi true (.base (.tup h2)) HS.kb_tt ?_
      walk_at "hs"
      refine HS.neB ?_
      walk_at "hs"
      refine HS.in0 rfl ?_
      walk_at "hs"
      rw [h3]
      refine HS.in0 rfl ?_
      walk_at "hs"
      have h5 : ys.length ≤ 1000 := by omega
      refine ⟨by omega, by omega, fun D hD => ?_⟩
      refine lc_range (lo := 0) (n := (ys.length : Int).toNat) (fun i H' => HS.Keep (fun _ => False) H H' ∧ H' D = some (.lst [])) ⟨.new hD, upd_same⟩ ?_ ?_
      · rintro i H2 hi ⟨K2, e2⟩
        have hi2 : i < ys.length := by omega
        walk_at "hs"
        rw [Int.zero_add]
        refine .inr ⟨pa, xs, _, xs[i], rfl, rfl, HS.st (K2 _ _ h1 id), at_of (j := i) (by omega) (List.getElem?_eq_getElem (by omega)), ?_⟩
        walk_at "hs"
        refine .inr ⟨pb, ys, _, ys[i], rfl, rfl, HS.st (K2 _ _ h2 id), at_of (j := i) (by omega) (List.getElem?_eq_getElem hi2), ?_⟩
        walk_at "hs"
        · refine ⟨xs[i], ys[i], rfl, (h i _ _ (List.getElem?_eq_getElem (by omega)) (List.getElem?_eq_getElem hi2)).same K2, fun H3 K3 => ?_⟩
          walk_at "hs"
          exact ⟨K2.trans K3, K3 _ _ e2 id⟩
      · rintro H2 ⟨K2, e2⟩
        walk_at "hs"
        intro p hp
        refine HS.eqL (xs := []) (ys := []) (HS.Keep.sq (S := fun _ => False) (.new hp) (HS.sq e2) id) (HS.sq upd_same) ?_
        exact k _ (K2.trans (.new hp))
def sp_law (K : PySem.W.Frag) : Sp := fun vs H Q _ => ∃ (a : Addr) (ns : List Int), vs = [.ref a] ∧ (SqL K H a (ns.map V.int) ∧ ns.length ≤ 63 ∧ ∀ H', Q (.bl true) H')
theorem ok_law (T : Txt K mg A) : FnOk P w K mg base CX0 6 A.a_law A.d_law ["script"] (sp_law K) := by
  have G__law_source : FnOk P w K mg base CX0 1 A.a__law_source A.d__law_source ["script"] (sp__law_source K) := ok__law_source T
  have G__law_draw : FnOk P w K mg base CX0 1 A.a__law_draw A.d__law_draw ["source", "many"] (sp__law_draw K) := ok__law_draw T
  have G__law_same : FnOk P w K mg base CX0 4 A.a__law_same A.d__law_same ["found", "wanted"] (sp__law_same 3 K) := ok__law_same T 3
  have G__law_error : FnOk P w K mg base CX0 1 A.a__law_error A.d__law_error ["e"] (sp__law_error K A) := ok__law_error T
  have G__law_made : FnOk P w K mg base CX0 3 A.a__law_made A.d__law_made ["door", "what", "by_name"] (sp__law_made K A) := ok__law_made T
  refine T.F_law.ok sc_law (fun vs H Q E h => ?_) (fun cdv A0 outer s H vs Q E hr h => ?_)
  · obtain ⟨a, ns, rfl, hw⟩ := h
    rfl
  · obtain ⟨a, ns, rfl, hw⟩ := h
    refine ⟨_, (pss_cons (ps_set (i := 1) sc_law.nd rfl (.inl rfl) (pe_call G__law_source (hr.mono (by decide)) (by rfl) T.g__law_source T.F__law_source.kp T.b__law_source .nil pass0 (pa_cons (pv 0) pa_nil)))
    (pss_cons (ps_set (i := 2) sc_law.nd rfl (.inl rfl) (pe_lst (pa_cons pe_str (pa_cons pe_str (pa_cons pe_str (pa_cons pe_str (pa_cons pe_str (pa_cons pe_str pa_nil))))))))
    (pss_cons (ps_expr (HS.kbm K (pe_bm PySem.F.plainAttrs_list PySem.F.slot_list_append PySem.F.type_list_append mt_append (pv 2) (pa_cons pe_str pa_nil))))
    (pss_cons (ps_for PassesOwn.never rfl (pi_range1 (by rfl) T.z_range (pa_cons (pe_op op_add pe_int (pe_callB (call_min2 rfl) (by rfl) T.z_min (by decide +kernel) (pa_cons pe_int (pa_cons (pe_callB (HS.klen K) (by rfl) T.z_len PySem.boot_len (pa_cons (pv 0) pa_nil)) pa_nil)))) pa_nil)) (pg_name (i := 3) sc_law.nd rfl (.inl rfl))
      (pss_cons (ps_set (i := 4) sc_law.nd rfl (.inl rfl) (pe_call G__law_draw (hr.mono (by decide)) (by rfl) T.g__law_draw T.F__law_draw.kp T.b__law_draw .nil pass0 (pa_cons (pv 1) (pa_cons (HS.pe_fold (1000000000000000000000000000000) (pe_op op_pow pe_int pe_int) (by intro σ H Q q; walk_at "fold")) pa_nil))))
    (pss_one (ps_for PassesOwn.never rfl (HS.kil K (pi_list (pe_lst (pa_cons pe_int (pa_cons (pv 4) (pa_cons (pe_op op_sub pe_int (pv 4)) (pa_cons pe_non (pa_cons pe_str (pa_cons pe_str (pa_cons (pe_lst (pa_cons (pv 4) pa_nil)) (pa_cons (pe_tup (pa_cons pe_int (pa_cons pe_int pa_nil))) pa_nil))))))))))) (pg_name (i := 5) sc_law.nd rfl (.inl rfl))
      (pss_one (ps_for PassesOwn.never rfl (pi_range1 (by rfl) T.z_range (pa_cons pe_int pa_nil)) (pg_name (i := 6) sc_law.nd rfl (.inl rfl))
      (pss_one (ps_for PassesOwn.never rfl (HS.kil K (pi_list (pe_lst (pa_cons pe_bl (pa_cons pe_bl pa_nil))))) (pg_name (i := 7) sc_law.nd rfl (.inl rfl))
      (pss_one (ps_if (pt_not (pt_val (pe_call G__law_same (hr.mono (by decide)) (by rfl) T.g__law_same T.F__law_same.kp T.b__law_same .nil pass0 (pa_cons (pe_call G__law_error (hr.mono (by decide)) (by rfl) T.g__law_error T.F__law_error.kp T.b__law_error .nil pass0 (pa_cons (pe_call G__law_made (hr.mono (by decide)) (by rfl) T.g__law_made T.F__law_made.kp T.b__law_made .nil pass0 (pa_cons (pv 6) (pa_cons (pv 5) (pa_cons (pv 7) pa_nil)))) pa_nil)) (pa_cons (pe_lst (pa_cons (pe_ix (HS.ixl K) (pv 2) (pv 6) (fun _ _ => rfl)) (pa_cons (pv 5) (pa_cons pe_bl pa_nil)))) pa_nil)))))
      (pss_one (ps_ret pe_bl))
      pss_nil))))))))))
    (pss_one (ps_ret pe_bl)))))), ?_⟩
    obtain ⟨ha, hl, k⟩ := hw
    walk_at "hs"
    refine ⟨a, ns, rfl, ha, hl, fun H1 s d K1 hs hd S1 => ?_⟩
    have ha1 := K1.sq ha id
    walk_at "hs"
    intro nl hnl
    have ns1 := S1.ne1 hnl
    have nd1 := S1.ne2 hnl
    walk_at "hs"
    have S2 := (S1.new (o := .lst [.str "InvalidBook", .str "InvalidSize", .str "InvalidTable", .str "InvalidChain", .str "InvalidNumber", .str "NothingToUndo"]) hnl).put (o := .lst ([.str "InvalidBook", .str "InvalidSize", .str "InvalidTable", .str "InvalidChain", .str "InvalidNumber", .str "NothingToUndo"] ++ [.str "Unreadable"])) ns1 nd1
    have nl2 : upd (upd H1 nl (.lst [.str "InvalidBook", .str "InvalidSize", .str "InvalidTable", .str "InvalidChain", .str "InvalidNumber", .str "NothingToUndo"])) nl (.lst ([.str "InvalidBook", .str "InvalidSize", .str "InvalidTable", .str "InvalidChain", .str "InvalidNumber", .str "NothingToUndo"] ++ [.str "Unreadable"])) nl = some (.lst ((["InvalidBook", "InvalidSize", "InvalidTable", "InvalidChain", "InvalidNumber", "NothingToUndo", "Unreadable"] : List Str).map V.str)) := upd_same
    have ha2 : SqL K (upd (upd H1 nl (.lst [.str "InvalidBook", .str "InvalidSize", .str "InvalidTable", .str "InvalidChain", .str "InvalidNumber", .str "NothingToUndo"])) nl (.lst ([.str "InvalidBook", .str "InvalidSize", .str "InvalidTable", .str "InvalidChain", .str "InvalidNumber", .str "NothingToUndo"] ++ [.str "Unreadable"]))) a (ns.map V.int) := HS.Keep.sq (S := fun _ => False) ((HS.Keep.refl).put hnl |>.put hnl) ha1 id
    generalize upd (upd H1 nl (.lst [.str "InvalidBook", .str "InvalidSize", .str "InvalidTable", .str "InvalidChain", .str "InvalidNumber", .str "NothingToUndo"])) nl (.lst ([.str "InvalidBook", .str "InvalidSize", .str "InvalidTable", .str "InvalidChain", .str "InvalidNumber", .str "NothingToUndo"] ++ [.str "Unreadable"])) = H2 at S2 nl2 ha2 ⊢
    generalize hNL : (["InvalidBook", "InvalidSize", "InvalidTable", "InvalidChain", "InvalidNumber", "NothingToUndo", "Unreadable"] : List Str) = NL at nl2
    walk_at "hs"
    generalize hcn : (3 + if ((List.map V.int ns).length : Int) < 8 then ((List.map V.int ns).length : Int) else 8) = cn
    have hc : 0 ≤ cn ∧ cn ≤ 11 := by rw [← hcn, List.length_map]; split <;> omega
    refine ⟨by omega, by omega, ?_⟩
    refine for_range (lo := 0) (n := cn.toNat) (fun i σ H' => ∃ (x3 x4 x5 x6 x7 : Option V), σ = [some (.ref a), some (.ref s), some (.ref nl), x3, x4, x5, x6, x7] ∧ H' nl = some (.lst (NL.map V.str)) ∧ Src H' s d i) ?_ ?_ ?_
    · exact ⟨none, none, none, none, none, rfl, nl2, S2⟩
    · rintro i σ H3 hi ⟨x3, x4, x5, x6, x7, rfl, nl3, S3⟩
      walk_at "hs"
      refine ⟨s, d, 1000000000000000000000000000000, _, rfl, S3, by decide, by decide, by omega, fun H4 v K4 S4 v0 v1 => ?_⟩
      have nl4 := K4 _ _ nl3 (by walk_at "ns")
      walk_at "hs"
      intro p hp
      walk_at "hs"
      intro q hq
      walk_at "hs"
      intro w hw
      have K5 : HS.Keep (fun _ => False) H4 (upd (upd (upd H4 p (.lst [.int v])) q (.tup [.int 1, .int 2])) w (.lst [.int 0, .int v, .int (0 - v), .non, .str "", .str "2x3 + 5", .ref p, .ref q])) := (HS.Keep.new hp).trans ((HS.Keep.new hq).trans (HS.Keep.new hw))
      have e1 : upd (upd H4 p (.lst [.int v])) q (.tup [.int 1, .int 2]) p = some (.lst [.int v]) := by rw [upd_ne (ne_of_none upd_same hq)]; exact upd_same
      have e2 : upd (upd (upd H4 p (.lst [.int v])) q (.tup [.int 1, .int 2])) w (.lst [.int 0, .int v, .int (0 - v), .non, .str "", .str "2x3 + 5", .ref p, .ref q]) p = some (.lst [.int v]) := by rw [upd_ne (ne_of_none e1 hw)]; exact e1
      have e3 : upd (upd (upd H4 p (.lst [.int v])) q (.tup [.int 1, .int 2])) w (.lst [.int 0, .int v, .int (0 - v), .non, .str "", .str "2x3 + 5", .ref p, .ref q]) q = some (.tup [.int 1, .int 2]) := by rw [upd_ne (ne_of_none upd_same hw)]; exact upd_same
      have e4 : upd (upd (upd H4 p (.lst [.int v])) q (.tup [.int 1, .int 2])) w (.lst [.int 0, .int v, .int (0 - v), .non, .str "", .str "2x3 + 5", .ref p, .ref q]) w = some (.lst [.int 0, .int v, .int (0 - v), .non, .str "", .str "2x3 + 5", .ref p, .ref q]) := upd_same
      have S5 := S4.same K5
      have nl5 := K5 _ _ nl4 id
      generalize upd (upd (upd H4 p (.lst [.int v])) q (.tup [.int 1, .int 2])) w (.lst [.int 0, .int v, .int (0 - v), .non, .str "", .str "2x3 + 5", .ref p, .ref q]) = H5 at K5 e2 e3 e4 S5 nl5 ⊢
      have good : ∀ x ∈ [V.int 0, .int v, .int (0 - v), .non, .str "", .str "2x3 + 5", .ref p, .ref q], HS.SmV K H5 1 x x := by
        intro x hx
        simp only [List.mem_cons, List.not_mem_nil, or_false] at hx
        rcases hx with rfl | rfl | rfl | rfl | rfl | rfl | rfl | rfl
        · exact .int _
        · exact .int _
        · exact .int _
        · exact .non
        · exact .str _
        · exact .str _
        · refine .lst e2 e2 rfl (show 1 ≤ 1000 by decide) fun i x y h1 h2 => ?_
          rw [h1] at h2
          cases h2
          match i, h1 with
          | 0, h1 => cases h1; exact .int _
          | _ + 1, h1 => cases h1
        · refine .tup e3 e3 rfl (by decide) fun i x y h1 h2 => ?_
          rw [h1] at h2
          cases h2
          match i, h1 with
          | 0, h1 => cases h1; exact .int _
          | 1, h1 => cases h1; exact .int _
          | _ + 2, h1 => cases h1
      generalize [V.int 0, .int v, .int (0 - v), .non, .str "", .str "2x3 + 5", .ref p, .ref q] = ws at good e4 ⊢
      walk_at "hs"
      refine ⟨⟨_, HS.sq e4⟩, for_list (xs := ws) (fun i σ H' => HS.Keep (fun _ => False) H5 H' ∧ ∃ (y3 y4 y5 y6 y7 : Option V), σ = [some (.ref a), some (.ref s), some (.ref nl), y3, y4, y5, y6, y7]) ?_ ?_ ?_ ?_⟩
      · exact ⟨.refl, _, _, _, _, _, rfl⟩
      · rintro i σ H' _ ⟨K', _⟩
        exact HS.sq (K' _ _ e4 id)
      · rintro i1 x σ H6 hx ⟨K6, y3, y4, y5, y6, y7, rfl⟩
        have gx := good x (List.mem_of_getElem? hx)
        walk_at "hs"
        refine ⟨by decide, by decide, ?_⟩
        refine for_range (lo := 0) (n := (7 : Int).toNat) (fun i σ H' => HS.Keep (fun _ => False) H5 H' ∧ ∃ (y6 y7 : Option V), σ = [some (.ref a), some (.ref s), some (.ref nl), y3, y4, some x, y6, y7]) ?_ ?_ ?_
        · exact ⟨K6, _, _, rfl⟩
        · rintro j σ H7 hj ⟨K7, y6, y7, rfl⟩
          have hj7 : j < 7 := hj
          walk_at "hs"
          intro bl hbl
          walk_at "hs"
          refine ⟨⟨_, HS.sq upd_same⟩, for_list (xs := [.bl false, .bl true]) (fun i σ H' => HS.Keep (fun _ => False) (upd H7 bl (.lst [.bl false, .bl true])) H' ∧ ∃ (y7 : Option V), σ = [some (.ref a), some (.ref s), some (.ref nl), y3, y4, some x, some (.int (0 + (j : Int))), y7]) ?_ ?_ ?_ ?_⟩
          · exact ⟨.refl, _, rfl⟩
          · rintro i σ H' _ ⟨K', _⟩
            exact HS.sq (K' _ _ upd_same id)
          · rintro i2 y σ H8 hy ⟨K8, y7, rfl⟩
            have hyb : ∃ b, y = .bl b := by
              have := List.mem_of_getElem? hy
              simp only [List.mem_cons, List.not_mem_nil, or_false] at this
              rcases this with rfl | rfl
              · exact ⟨_, rfl⟩
              · exact ⟨_, rfl⟩
            obtain ⟨b, rfl⟩ := hyb
            have K58 : HS.Keep (fun _ => False) H5 H8 := K7.trans ((HS.Keep.new hbl).trans K8)
            walk_at "hs"
            refine ⟨0 + (j : Int), x, b, rfl, by omega, by omega, fun H9 e C nm K9 hk hnm he => ?_⟩
            rw [hNL, show (0 + (j : Int)).toNat = j by omega] at hnm
            refine ⟨e, C, _, nm, x, rfl, he, hk, rfl, fun H10 r K10 hr er => ?_⟩
            have nl10 := (K58.trans (K9.trans K10)) _ _ nl5 id
            walk_at "hs"
            refine ⟨nl, NL.map V.str, 0 + (j : Int), .str nm, rfl, rfl, HS.sq nl10, at_of (j := j) (by omega) (by rw [List.getElem?_map, hnm]; rfl), ?_⟩
            walk_at "hs"
            intro z hz
            walk_at "hs"
            refine ⟨.ref r, .ref z, rfl, .lst (by rw [upd_ne (ne_of_none er hz)]; exact er) upd_same rfl (show 3 ≤ 1000 by decide) fun i u u' h1 h2 => ?_, fun H11 K11 => ?_⟩
            · have gx2 := gx.same (K58.trans (K9.trans (K10.trans (HS.Keep.new (o := .lst [.str nm, x, .bl true]) hz))))
              rw [h1] at h2
              cases h2
              match i, h1 with
              | 0, h1 => cases h1; exact .str _
              | 1, h1 => cases h1; exact gx2
              | 2, h1 => cases h1; exact .bl _
              | _ + 3, h1 => cases h1
            · walk_at "hs"
              exact ⟨K8.trans (K9.trans (K10.trans ((HS.Keep.new hz).trans K11))), _, rfl⟩
          · rintro σ H8 ⟨K8, y7, rfl⟩
            walk_at "hs"
            exact ⟨K7.trans ((HS.Keep.new hbl).trans K8), _, _, rfl⟩
        · rintro σ H7 ⟨K7, y6, y7, rfl⟩
          walk_at "hs"
          exact ⟨K7, _, _, _, _, _, rfl⟩
      · rintro σ H6 ⟨K6, y3, y4, y5, y6, y7, rfl⟩
        walk_at "hs"
        exact ⟨_, _, _, _, _, rfl, K6 _ _ nl5 id, (S5.same K6).up (by omega)⟩
    · rintro σ H3 ⟨x3, x4, x5, x6, x7, rfl, nl3, S3⟩
      walk_at "hs"
      exact k _
end
theorem all_mk {l : PySem.W.OpenLaw} {w : World} {K : PySem.W.Frag} {h : Heap} {mg : Str → Option Value} {fa f0 f1 f2 f3 f4 f5 f6 f7 f8 f9 f10 f11 f12 c_InvalidBook c_InvalidSize c_InvalidTable c_InvalidChain c_InvalidNumber c_NothingToUndo c_Unreadable c_BookError : Addr} (X : K.In h) (G : h.Ns mainGlobals mg) (hfa : mg "law" = some (.ref fa))
    {od0 an0 od1 an1 od2 an2 od3 an3 od4 an4 od5 an5 od6 an6 od7 an7 od8 an8 od9 an9 od10 an10 od11 an11 od12 an12 : Option Addr} {sl0 sl1 sl2 sl3 sl4 sl5 sl6 sl7 sl8 sl9 sl10 sl11 sl12 : Array (Option Value)} {oc0 kV0 dc0 pm0 cd0 ct0 oc1 kV1 dc1 pm1 cd1 ct1 oc2 kV2 dc2 pm2 cd2 ct2 oc3 kV3 dc3 pm3 cd3 ct3 oc4 kV4 dc4 pm4 cd4 ct4 oc5 kV5 dc5 pm5 cd5 ct5 oc6 kV6 dc6 pm6 cd6 ct6 oc7 kV7 dc7 pm7 cd7 ct7 oc8 kV8 dc8 pm8 cd8 ct8 oc9 kV9 dc9 pm9 cd9 ct9 oc10 kV10 dc10 pm10 cd10 ct10 oc11 kV11 dc11 pm11 cd11 ct11 oc12 kV12 dc12 pm12 cd12 ct12 : Value}
    (m_InvalidBook : PySem.W.nsIn K mainGlobals "InvalidBook" = some (some (.ref c_InvalidBook)))
    (m_InvalidSize : PySem.W.nsIn K mainGlobals "InvalidSize" = some (some (.ref c_InvalidSize)))
    (m_InvalidTable : PySem.W.nsIn K mainGlobals "InvalidTable" = some (some (.ref c_InvalidTable)))
    (m_InvalidChain : PySem.W.nsIn K mainGlobals "InvalidChain" = some (some (.ref c_InvalidChain)))
    (m_InvalidNumber : PySem.W.nsIn K mainGlobals "InvalidNumber" = some (some (.ref c_InvalidNumber)))
    (m_NothingToUndo : PySem.W.nsIn K mainGlobals "NothingToUndo" = some (some (.ref c_NothingToUndo)))
    (m_Unreadable : PySem.W.nsIn K mainGlobals "Unreadable" = some (some (.ref c_Unreadable)))
    (m_BookError : PySem.W.nsIn K mainGlobals "BookError" = some (some (.ref c_BookError)))
    (a0 : PySem.W.nsIn K mainGlobals "_law_source" = some (some (.ref f0)))
    (l0 : K.lookup f0 = some ⟨oc0, od0, .func (PySem.W.fnOf "_law_source" "_law_source" (defArgs s__law_source) (defBody s__law_source) (defScope s__law_source) .none kV0 dc0 pm0 an0 cd0 ct0), sl0⟩) (c0 : PySem.W.codeIn K cd0 "_law_source" = true) (k0 : PySem.W.keepIn K (.ref f0) = true)
    (a1 : PySem.W.nsIn K mainGlobals "_law_draw" = some (some (.ref f1)))
    (l1 : K.lookup f1 = some ⟨oc1, od1, .func (PySem.W.fnOf "_law_draw" "_law_draw" (defArgs s__law_draw) (defBody s__law_draw) (defScope s__law_draw) .none kV1 dc1 pm1 an1 cd1 ct1), sl1⟩) (c1 : PySem.W.codeIn K cd1 "_law_draw" = true) (k1 : PySem.W.keepIn K (.ref f1) = true)
    (in_InvalidBook : PySem.W.findIn K (.ref c_InvalidBook) "__init__" = some (some (.ref f2)))
    (l2 : K.lookup f2 = some ⟨oc2, od2, .func (PySem.W.fnOf "__init__" "InvalidBook.__init__" (defArgs s_InvalidBook___init__) (defBody s_InvalidBook___init__) (defScope s_InvalidBook___init__) .none kV2 dc2 pm2 an2 cd2 ct2), sl2⟩) (c2 : PySem.W.codeIn K cd2 "InvalidBook.__init__" = true) (k2 : PySem.W.keepIn K (.ref f2) = true)
    (in_InvalidSize : PySem.W.findIn K (.ref c_InvalidSize) "__init__" = some (some (.ref f3)))
    (l3 : K.lookup f3 = some ⟨oc3, od3, .func (PySem.W.fnOf "__init__" "InvalidSize.__init__" (defArgs s_InvalidSize___init__) (defBody s_InvalidSize___init__) (defScope s_InvalidSize___init__) .none kV3 dc3 pm3 an3 cd3 ct3), sl3⟩) (c3 : PySem.W.codeIn K cd3 "InvalidSize.__init__" = true) (k3 : PySem.W.keepIn K (.ref f3) = true)
    (in_InvalidTable : PySem.W.findIn K (.ref c_InvalidTable) "__init__" = some (some (.ref f4)))
    (l4 : K.lookup f4 = some ⟨oc4, od4, .func (PySem.W.fnOf "__init__" "InvalidTable.__init__" (defArgs s_InvalidTable___init__) (defBody s_InvalidTable___init__) (defScope s_InvalidTable___init__) .none kV4 dc4 pm4 an4 cd4 ct4), sl4⟩) (c4 : PySem.W.codeIn K cd4 "InvalidTable.__init__" = true) (k4 : PySem.W.keepIn K (.ref f4) = true)
    (in_InvalidChain : PySem.W.findIn K (.ref c_InvalidChain) "__init__" = some (some (.ref f5)))
    (l5 : K.lookup f5 = some ⟨oc5, od5, .func (PySem.W.fnOf "__init__" "InvalidChain.__init__" (defArgs s_InvalidChain___init__) (defBody s_InvalidChain___init__) (defScope s_InvalidChain___init__) .none kV5 dc5 pm5 an5 cd5 ct5), sl5⟩) (c5 : PySem.W.codeIn K cd5 "InvalidChain.__init__" = true) (k5 : PySem.W.keepIn K (.ref f5) = true)
    (in_InvalidNumber : PySem.W.findIn K (.ref c_InvalidNumber) "__init__" = some (some (.ref f6)))
    (l6 : K.lookup f6 = some ⟨oc6, od6, .func (PySem.W.fnOf "__init__" "InvalidNumber.__init__" (defArgs s_InvalidNumber___init__) (defBody s_InvalidNumber___init__) (defScope s_InvalidNumber___init__) .none kV6 dc6 pm6 an6 cd6 ct6), sl6⟩) (c6 : PySem.W.codeIn K cd6 "InvalidNumber.__init__" = true) (k6 : PySem.W.keepIn K (.ref f6) = true)
    (in_NothingToUndo : PySem.W.findIn K (.ref c_NothingToUndo) "__init__" = some (some (.ref f7)))
    (l7 : K.lookup f7 = some ⟨oc7, od7, .func (PySem.W.fnOf "__init__" "NothingToUndo.__init__" (defArgs s_NothingToUndo___init__) (defBody s_NothingToUndo___init__) (defScope s_NothingToUndo___init__) .none kV7 dc7 pm7 an7 cd7 ct7), sl7⟩) (c7 : PySem.W.codeIn K cd7 "NothingToUndo.__init__" = true) (k7 : PySem.W.keepIn K (.ref f7) = true)
    (in_Unreadable : PySem.W.findIn K (.ref c_Unreadable) "__init__" = some (some (.ref f8)))
    (l8 : K.lookup f8 = some ⟨oc8, od8, .func (PySem.W.fnOf "__init__" "Unreadable.__init__" (defArgs s_Unreadable___init__) (defBody s_Unreadable___init__) (defScope s_Unreadable___init__) .none kV8 dc8 pm8 an8 cd8 ct8), sl8⟩) (c8 : PySem.W.codeIn K cd8 "Unreadable.__init__" = true) (k8 : PySem.W.keepIn K (.ref f8) = true)
    (a9 : PySem.W.nsIn K mainGlobals "_law_error" = some (some (.ref f9)))
    (l9 : K.lookup f9 = some ⟨oc9, od9, .func (PySem.W.fnOf "_law_error" "_law_error" (defArgs s__law_error) (defBody s__law_error) (defScope s__law_error) .none kV9 dc9 pm9 an9 cd9 ct9), sl9⟩) (c9 : PySem.W.codeIn K cd9 "_law_error" = true) (k9 : PySem.W.keepIn K (.ref f9) = true)
    (a10 : PySem.W.nsIn K mainGlobals "_law_made" = some (some (.ref f10)))
    (l10 : K.lookup f10 = some ⟨oc10, od10, .func (PySem.W.fnOf "_law_made" "_law_made" (defArgs s__law_made) (defBody s__law_made) (defScope s__law_made) .none kV10 dc10 pm10 an10 cd10 ct10), sl10⟩) (c10 : PySem.W.codeIn K cd10 "_law_made" = true) (k10 : PySem.W.keepIn K (.ref f10) = true)
    (a11 : PySem.W.nsIn K mainGlobals "_law_same" = some (some (.ref f11)))
    (l11 : K.lookup f11 = some ⟨oc11, od11, .func (PySem.W.fnOf "_law_same" "_law_same" (defArgs s__law_same) (defBody s__law_same) (defScope s__law_same) .none kV11 dc11 pm11 an11 cd11 ct11), sl11⟩) (c11 : PySem.W.codeIn K cd11 "_law_same" = true) (k11 : PySem.W.keepIn K (.ref f11) = true)
    (a12 : PySem.W.nsIn K mainGlobals "law" = some (some (.ref f12)))
    (l12 : K.lookup f12 = some ⟨oc12, od12, .func (PySem.W.fnOf "law" "law" (defArgs s_law) (defBody s_law) (defScope s_law) .none kV12 dc12 pm12 an12 cd12 ct12), sl12⟩) (c12 : PySem.W.codeIn K cd12 "law" = true) (k12 : PySem.W.keepIn K (.ref f12) = true)
    (z0 : PySem.W.nsIn K mainGlobals "ValueError" = some none)
    (z1 : PySem.W.nsIn K mainGlobals "bool" = some none)
    (z2 : PySem.W.nsIn K mainGlobals "int" = some none)
    (z3 : PySem.W.nsIn K mainGlobals "isinstance" = some none)
    (z4 : PySem.W.nsIn K mainGlobals "len" = some none)
    (z5 : PySem.W.nsIn K mainGlobals "list" = some none)
    (z6 : PySem.W.nsIn K mainGlobals "max" = some none)
    (z7 : PySem.W.nsIn K mainGlobals "min" = some none)
    (z8 : PySem.W.nsIn K mainGlobals "range" = some none)
    (z9 : PySem.W.nsIn K mainGlobals "str" = some none)
    (z10 : PySem.W.nsIn K mainGlobals "tuple" = some none)
    {nm_InvalidBook qn_InvalidBook : Str} {N_InvalidBook : Addr} {bs_InvalidBook bm_InvalidBook : List Value} {sn_InvalidBook : List Str} {sub_InvalidBook : List Value} {ab_InvalidBook : Bool} {col_InvalidBook : Option Bool} {dd_InvalidBook : Option Addr} {k0_InvalidBook k1_InvalidBook k2_InvalidBook k3_InvalidBook k5_InvalidBook : Option Value}
    (l_InvalidBook : K.lookup c_InvalidBook = some (excClassObj nm_InvalidBook qn_InvalidBook c_InvalidBook N_InvalidBook bs_InvalidBook bm_InvalidBook true sn_InvalidBook sub_InvalidBook ab_InvalidBook col_InvalidBook dd_InvalidBook k0_InvalidBook k1_InvalidBook k2_InvalidBook k3_InvalidBook k5_InvalidBook "ValueError.__new__"))
    (r_InvalidBook : PySem.HandSPX.refsVE bm_InvalidBook = true)
    (sa_InvalidBook : PySem.W.findIn K (.ref c_InvalidBook) "__setattr__" = some (some (.builtin "object.__setattr__")))
    (ex_InvalidBook : PySem.W.subIn K (.ref c_InvalidBook) (.type "BaseException") = some true)
    (ty_InvalidBook : PySem.W.typeIn K (.ref c_InvalidBook) = some (.type "type"))
    (kc_InvalidBook : PySem.W.keepIn K (.ref c_InvalidBook) = true)
    (ga_InvalidBook : PySem.W.findIn K (.ref c_InvalidBook) "__getattribute__" = some (some (.builtin "BaseException.__getattribute__")))
    (gg_InvalidBook : PySem.W.findIn K (.ref c_InvalidBook) "__getattr__" = some none)
    (hd_InvalidBook : PySem.W.hasDictIn K c_InvalidBook = true)
    (ha_InvalidBook : PySem.W.findIn K (.ref c_InvalidBook) "__class__" = some (some (.builtin "object.__class__")))
    (hn_InvalidBook : PySem.W.specialIn K (.builtin "object.__class__") "__get__" = some (some (.builtin "getset_descriptor.__get__")))
    (ht_InvalidBook : PySem.W.takesIn K (.builtin "object.__class__") = some true)
    (hm_InvalidBook : PySem.W.mroIn K c_InvalidBook (.type "object") = some true)
    (nv_InvalidBook : PySem.W.findIn K (.ref c_InvalidBook) "value" = some none)
    (ti_InvalidBook : PySem.W.typeIn K (.ref f2) = some (.type "function"))
    (kq_InvalidBook_InvalidBook : PySem.W.kitOne K (.ref c_InvalidBook) (.ref c_InvalidBook) = some true)
    (kq_InvalidBook_InvalidSize : PySem.W.kitOne K (.ref c_InvalidBook) (.ref c_InvalidSize) = some false)
    (kq_InvalidBook_InvalidTable : PySem.W.kitOne K (.ref c_InvalidBook) (.ref c_InvalidTable) = some false)
    (kq_InvalidBook_InvalidChain : PySem.W.kitOne K (.ref c_InvalidBook) (.ref c_InvalidChain) = some false)
    (kq_InvalidBook_InvalidNumber : PySem.W.kitOne K (.ref c_InvalidBook) (.ref c_InvalidNumber) = some false)
    (kq_InvalidBook_NothingToUndo : PySem.W.kitOne K (.ref c_InvalidBook) (.ref c_NothingToUndo) = some false)
    (kq_InvalidBook_Unreadable : PySem.W.kitOne K (.ref c_InvalidBook) (.ref c_Unreadable) = some false)
    (kq_InvalidBook_BookError : PySem.W.kitOne K (.ref c_InvalidBook) (.ref c_BookError) = some true)
    (kq_InvalidBook_ValueError : PySem.W.kitOne K (.ref c_InvalidBook) (.type "ValueError") = some true)
    {nm_InvalidSize qn_InvalidSize : Str} {N_InvalidSize : Addr} {bs_InvalidSize bm_InvalidSize : List Value} {sn_InvalidSize : List Str} {sub_InvalidSize : List Value} {ab_InvalidSize : Bool} {col_InvalidSize : Option Bool} {dd_InvalidSize : Option Addr} {k0_InvalidSize k1_InvalidSize k2_InvalidSize k3_InvalidSize k5_InvalidSize : Option Value}
    (l_InvalidSize : K.lookup c_InvalidSize = some (excClassObj nm_InvalidSize qn_InvalidSize c_InvalidSize N_InvalidSize bs_InvalidSize bm_InvalidSize true sn_InvalidSize sub_InvalidSize ab_InvalidSize col_InvalidSize dd_InvalidSize k0_InvalidSize k1_InvalidSize k2_InvalidSize k3_InvalidSize k5_InvalidSize "ValueError.__new__"))
    (r_InvalidSize : PySem.HandSPX.refsVE bm_InvalidSize = true)
    (sa_InvalidSize : PySem.W.findIn K (.ref c_InvalidSize) "__setattr__" = some (some (.builtin "object.__setattr__")))
    (ex_InvalidSize : PySem.W.subIn K (.ref c_InvalidSize) (.type "BaseException") = some true)
    (ty_InvalidSize : PySem.W.typeIn K (.ref c_InvalidSize) = some (.type "type"))
    (kc_InvalidSize : PySem.W.keepIn K (.ref c_InvalidSize) = true)
    (ga_InvalidSize : PySem.W.findIn K (.ref c_InvalidSize) "__getattribute__" = some (some (.builtin "BaseException.__getattribute__")))
    (gg_InvalidSize : PySem.W.findIn K (.ref c_InvalidSize) "__getattr__" = some none)
    (hd_InvalidSize : PySem.W.hasDictIn K c_InvalidSize = true)
    (ha_InvalidSize : PySem.W.findIn K (.ref c_InvalidSize) "__class__" = some (some (.builtin "object.__class__")))
    (hn_InvalidSize : PySem.W.specialIn K (.builtin "object.__class__") "__get__" = some (some (.builtin "getset_descriptor.__get__")))
    (ht_InvalidSize : PySem.W.takesIn K (.builtin "object.__class__") = some true)
    (hm_InvalidSize : PySem.W.mroIn K c_InvalidSize (.type "object") = some true)
    (nv_InvalidSize : PySem.W.findIn K (.ref c_InvalidSize) "value" = some none)
    (ti_InvalidSize : PySem.W.typeIn K (.ref f3) = some (.type "function"))
    (kq_InvalidSize_InvalidBook : PySem.W.kitOne K (.ref c_InvalidSize) (.ref c_InvalidBook) = some false)
    (kq_InvalidSize_InvalidSize : PySem.W.kitOne K (.ref c_InvalidSize) (.ref c_InvalidSize) = some true)
    (kq_InvalidSize_InvalidTable : PySem.W.kitOne K (.ref c_InvalidSize) (.ref c_InvalidTable) = some false)
    (kq_InvalidSize_InvalidChain : PySem.W.kitOne K (.ref c_InvalidSize) (.ref c_InvalidChain) = some false)
    (kq_InvalidSize_InvalidNumber : PySem.W.kitOne K (.ref c_InvalidSize) (.ref c_InvalidNumber) = some false)
    (kq_InvalidSize_NothingToUndo : PySem.W.kitOne K (.ref c_InvalidSize) (.ref c_NothingToUndo) = some false)
    (kq_InvalidSize_Unreadable : PySem.W.kitOne K (.ref c_InvalidSize) (.ref c_Unreadable) = some false)
    (kq_InvalidSize_BookError : PySem.W.kitOne K (.ref c_InvalidSize) (.ref c_BookError) = some true)
    (kq_InvalidSize_ValueError : PySem.W.kitOne K (.ref c_InvalidSize) (.type "ValueError") = some true)
    {nm_InvalidTable qn_InvalidTable : Str} {N_InvalidTable : Addr} {bs_InvalidTable bm_InvalidTable : List Value} {sn_InvalidTable : List Str} {sub_InvalidTable : List Value} {ab_InvalidTable : Bool} {col_InvalidTable : Option Bool} {dd_InvalidTable : Option Addr} {k0_InvalidTable k1_InvalidTable k2_InvalidTable k3_InvalidTable k5_InvalidTable : Option Value}
    (l_InvalidTable : K.lookup c_InvalidTable = some (excClassObj nm_InvalidTable qn_InvalidTable c_InvalidTable N_InvalidTable bs_InvalidTable bm_InvalidTable true sn_InvalidTable sub_InvalidTable ab_InvalidTable col_InvalidTable dd_InvalidTable k0_InvalidTable k1_InvalidTable k2_InvalidTable k3_InvalidTable k5_InvalidTable "ValueError.__new__"))
    (r_InvalidTable : PySem.HandSPX.refsVE bm_InvalidTable = true)
    (sa_InvalidTable : PySem.W.findIn K (.ref c_InvalidTable) "__setattr__" = some (some (.builtin "object.__setattr__")))
    (ex_InvalidTable : PySem.W.subIn K (.ref c_InvalidTable) (.type "BaseException") = some true)
    (ty_InvalidTable : PySem.W.typeIn K (.ref c_InvalidTable) = some (.type "type"))
    (kc_InvalidTable : PySem.W.keepIn K (.ref c_InvalidTable) = true)
    (ga_InvalidTable : PySem.W.findIn K (.ref c_InvalidTable) "__getattribute__" = some (some (.builtin "BaseException.__getattribute__")))
    (gg_InvalidTable : PySem.W.findIn K (.ref c_InvalidTable) "__getattr__" = some none)
    (hd_InvalidTable : PySem.W.hasDictIn K c_InvalidTable = true)
    (ha_InvalidTable : PySem.W.findIn K (.ref c_InvalidTable) "__class__" = some (some (.builtin "object.__class__")))
    (hn_InvalidTable : PySem.W.specialIn K (.builtin "object.__class__") "__get__" = some (some (.builtin "getset_descriptor.__get__")))
    (ht_InvalidTable : PySem.W.takesIn K (.builtin "object.__class__") = some true)
    (hm_InvalidTable : PySem.W.mroIn K c_InvalidTable (.type "object") = some true)
    (nv_InvalidTable : PySem.W.findIn K (.ref c_InvalidTable) "value" = some none)
    (ti_InvalidTable : PySem.W.typeIn K (.ref f4) = some (.type "function"))
    (kq_InvalidTable_InvalidBook : PySem.W.kitOne K (.ref c_InvalidTable) (.ref c_InvalidBook) = some false)
    (kq_InvalidTable_InvalidSize : PySem.W.kitOne K (.ref c_InvalidTable) (.ref c_InvalidSize) = some false)
    (kq_InvalidTable_InvalidTable : PySem.W.kitOne K (.ref c_InvalidTable) (.ref c_InvalidTable) = some true)
    (kq_InvalidTable_InvalidChain : PySem.W.kitOne K (.ref c_InvalidTable) (.ref c_InvalidChain) = some false)
    (kq_InvalidTable_InvalidNumber : PySem.W.kitOne K (.ref c_InvalidTable) (.ref c_InvalidNumber) = some false)
    (kq_InvalidTable_NothingToUndo : PySem.W.kitOne K (.ref c_InvalidTable) (.ref c_NothingToUndo) = some false)
    (kq_InvalidTable_Unreadable : PySem.W.kitOne K (.ref c_InvalidTable) (.ref c_Unreadable) = some false)
    (kq_InvalidTable_BookError : PySem.W.kitOne K (.ref c_InvalidTable) (.ref c_BookError) = some true)
    (kq_InvalidTable_ValueError : PySem.W.kitOne K (.ref c_InvalidTable) (.type "ValueError") = some true)
    {nm_InvalidChain qn_InvalidChain : Str} {N_InvalidChain : Addr} {bs_InvalidChain bm_InvalidChain : List Value} {sn_InvalidChain : List Str} {sub_InvalidChain : List Value} {ab_InvalidChain : Bool} {col_InvalidChain : Option Bool} {dd_InvalidChain : Option Addr} {k0_InvalidChain k1_InvalidChain k2_InvalidChain k3_InvalidChain k5_InvalidChain : Option Value}
    (l_InvalidChain : K.lookup c_InvalidChain = some (excClassObj nm_InvalidChain qn_InvalidChain c_InvalidChain N_InvalidChain bs_InvalidChain bm_InvalidChain true sn_InvalidChain sub_InvalidChain ab_InvalidChain col_InvalidChain dd_InvalidChain k0_InvalidChain k1_InvalidChain k2_InvalidChain k3_InvalidChain k5_InvalidChain "ValueError.__new__"))
    (r_InvalidChain : PySem.HandSPX.refsVE bm_InvalidChain = true)
    (sa_InvalidChain : PySem.W.findIn K (.ref c_InvalidChain) "__setattr__" = some (some (.builtin "object.__setattr__")))
    (ex_InvalidChain : PySem.W.subIn K (.ref c_InvalidChain) (.type "BaseException") = some true)
    (ty_InvalidChain : PySem.W.typeIn K (.ref c_InvalidChain) = some (.type "type"))
    (kc_InvalidChain : PySem.W.keepIn K (.ref c_InvalidChain) = true)
    (ga_InvalidChain : PySem.W.findIn K (.ref c_InvalidChain) "__getattribute__" = some (some (.builtin "BaseException.__getattribute__")))
    (gg_InvalidChain : PySem.W.findIn K (.ref c_InvalidChain) "__getattr__" = some none)
    (hd_InvalidChain : PySem.W.hasDictIn K c_InvalidChain = true)
    (ha_InvalidChain : PySem.W.findIn K (.ref c_InvalidChain) "__class__" = some (some (.builtin "object.__class__")))
    (hn_InvalidChain : PySem.W.specialIn K (.builtin "object.__class__") "__get__" = some (some (.builtin "getset_descriptor.__get__")))
    (ht_InvalidChain : PySem.W.takesIn K (.builtin "object.__class__") = some true)
    (hm_InvalidChain : PySem.W.mroIn K c_InvalidChain (.type "object") = some true)
    (nv_InvalidChain : PySem.W.findIn K (.ref c_InvalidChain) "value" = some none)
    (ti_InvalidChain : PySem.W.typeIn K (.ref f5) = some (.type "function"))
    (kq_InvalidChain_InvalidBook : PySem.W.kitOne K (.ref c_InvalidChain) (.ref c_InvalidBook) = some false)
    (kq_InvalidChain_InvalidSize : PySem.W.kitOne K (.ref c_InvalidChain) (.ref c_InvalidSize) = some false)
    (kq_InvalidChain_InvalidTable : PySem.W.kitOne K (.ref c_InvalidChain) (.ref c_InvalidTable) = some false)
    (kq_InvalidChain_InvalidChain : PySem.W.kitOne K (.ref c_InvalidChain) (.ref c_InvalidChain) = some true)
    (kq_InvalidChain_InvalidNumber : PySem.W.kitOne K (.ref c_InvalidChain) (.ref c_InvalidNumber) = some false)
    (kq_InvalidChain_NothingToUndo : PySem.W.kitOne K (.ref c_InvalidChain) (.ref c_NothingToUndo) = some false)
    (kq_InvalidChain_Unreadable : PySem.W.kitOne K (.ref c_InvalidChain) (.ref c_Unreadable) = some false)
    (kq_InvalidChain_BookError : PySem.W.kitOne K (.ref c_InvalidChain) (.ref c_BookError) = some true)
    (kq_InvalidChain_ValueError : PySem.W.kitOne K (.ref c_InvalidChain) (.type "ValueError") = some true)
    {nm_InvalidNumber qn_InvalidNumber : Str} {N_InvalidNumber : Addr} {bs_InvalidNumber bm_InvalidNumber : List Value} {sn_InvalidNumber : List Str} {sub_InvalidNumber : List Value} {ab_InvalidNumber : Bool} {col_InvalidNumber : Option Bool} {dd_InvalidNumber : Option Addr} {k0_InvalidNumber k1_InvalidNumber k2_InvalidNumber k3_InvalidNumber k5_InvalidNumber : Option Value}
    (l_InvalidNumber : K.lookup c_InvalidNumber = some (excClassObj nm_InvalidNumber qn_InvalidNumber c_InvalidNumber N_InvalidNumber bs_InvalidNumber bm_InvalidNumber true sn_InvalidNumber sub_InvalidNumber ab_InvalidNumber col_InvalidNumber dd_InvalidNumber k0_InvalidNumber k1_InvalidNumber k2_InvalidNumber k3_InvalidNumber k5_InvalidNumber "ValueError.__new__"))
    (r_InvalidNumber : PySem.HandSPX.refsVE bm_InvalidNumber = true)
    (sa_InvalidNumber : PySem.W.findIn K (.ref c_InvalidNumber) "__setattr__" = some (some (.builtin "object.__setattr__")))
    (ex_InvalidNumber : PySem.W.subIn K (.ref c_InvalidNumber) (.type "BaseException") = some true)
    (ty_InvalidNumber : PySem.W.typeIn K (.ref c_InvalidNumber) = some (.type "type"))
    (kc_InvalidNumber : PySem.W.keepIn K (.ref c_InvalidNumber) = true)
    (ga_InvalidNumber : PySem.W.findIn K (.ref c_InvalidNumber) "__getattribute__" = some (some (.builtin "BaseException.__getattribute__")))
    (gg_InvalidNumber : PySem.W.findIn K (.ref c_InvalidNumber) "__getattr__" = some none)
    (hd_InvalidNumber : PySem.W.hasDictIn K c_InvalidNumber = true)
    (ha_InvalidNumber : PySem.W.findIn K (.ref c_InvalidNumber) "__class__" = some (some (.builtin "object.__class__")))
    (hn_InvalidNumber : PySem.W.specialIn K (.builtin "object.__class__") "__get__" = some (some (.builtin "getset_descriptor.__get__")))
    (ht_InvalidNumber : PySem.W.takesIn K (.builtin "object.__class__") = some true)
    (hm_InvalidNumber : PySem.W.mroIn K c_InvalidNumber (.type "object") = some true)
    (nv_InvalidNumber : PySem.W.findIn K (.ref c_InvalidNumber) "value" = some none)
    (ti_InvalidNumber : PySem.W.typeIn K (.ref f6) = some (.type "function"))
    (kq_InvalidNumber_InvalidBook : PySem.W.kitOne K (.ref c_InvalidNumber) (.ref c_InvalidBook) = some false)
    (kq_InvalidNumber_InvalidSize : PySem.W.kitOne K (.ref c_InvalidNumber) (.ref c_InvalidSize) = some false)
    (kq_InvalidNumber_InvalidTable : PySem.W.kitOne K (.ref c_InvalidNumber) (.ref c_InvalidTable) = some false)
    (kq_InvalidNumber_InvalidChain : PySem.W.kitOne K (.ref c_InvalidNumber) (.ref c_InvalidChain) = some false)
    (kq_InvalidNumber_InvalidNumber : PySem.W.kitOne K (.ref c_InvalidNumber) (.ref c_InvalidNumber) = some true)
    (kq_InvalidNumber_NothingToUndo : PySem.W.kitOne K (.ref c_InvalidNumber) (.ref c_NothingToUndo) = some false)
    (kq_InvalidNumber_Unreadable : PySem.W.kitOne K (.ref c_InvalidNumber) (.ref c_Unreadable) = some false)
    (kq_InvalidNumber_BookError : PySem.W.kitOne K (.ref c_InvalidNumber) (.ref c_BookError) = some true)
    (kq_InvalidNumber_ValueError : PySem.W.kitOne K (.ref c_InvalidNumber) (.type "ValueError") = some true)
    {nm_NothingToUndo qn_NothingToUndo : Str} {N_NothingToUndo : Addr} {bs_NothingToUndo bm_NothingToUndo : List Value} {sn_NothingToUndo : List Str} {sub_NothingToUndo : List Value} {ab_NothingToUndo : Bool} {col_NothingToUndo : Option Bool} {dd_NothingToUndo : Option Addr} {k0_NothingToUndo k1_NothingToUndo k2_NothingToUndo k3_NothingToUndo k5_NothingToUndo : Option Value}
    (l_NothingToUndo : K.lookup c_NothingToUndo = some (excClassObj nm_NothingToUndo qn_NothingToUndo c_NothingToUndo N_NothingToUndo bs_NothingToUndo bm_NothingToUndo true sn_NothingToUndo sub_NothingToUndo ab_NothingToUndo col_NothingToUndo dd_NothingToUndo k0_NothingToUndo k1_NothingToUndo k2_NothingToUndo k3_NothingToUndo k5_NothingToUndo "ValueError.__new__"))
    (r_NothingToUndo : PySem.HandSPX.refsVE bm_NothingToUndo = true)
    (sa_NothingToUndo : PySem.W.findIn K (.ref c_NothingToUndo) "__setattr__" = some (some (.builtin "object.__setattr__")))
    (ex_NothingToUndo : PySem.W.subIn K (.ref c_NothingToUndo) (.type "BaseException") = some true)
    (ty_NothingToUndo : PySem.W.typeIn K (.ref c_NothingToUndo) = some (.type "type"))
    (kc_NothingToUndo : PySem.W.keepIn K (.ref c_NothingToUndo) = true)
    (ga_NothingToUndo : PySem.W.findIn K (.ref c_NothingToUndo) "__getattribute__" = some (some (.builtin "BaseException.__getattribute__")))
    (gg_NothingToUndo : PySem.W.findIn K (.ref c_NothingToUndo) "__getattr__" = some none)
    (hd_NothingToUndo : PySem.W.hasDictIn K c_NothingToUndo = true)
    (ha_NothingToUndo : PySem.W.findIn K (.ref c_NothingToUndo) "__class__" = some (some (.builtin "object.__class__")))
    (hn_NothingToUndo : PySem.W.specialIn K (.builtin "object.__class__") "__get__" = some (some (.builtin "getset_descriptor.__get__")))
    (ht_NothingToUndo : PySem.W.takesIn K (.builtin "object.__class__") = some true)
    (hm_NothingToUndo : PySem.W.mroIn K c_NothingToUndo (.type "object") = some true)
    (nv_NothingToUndo : PySem.W.findIn K (.ref c_NothingToUndo) "value" = some none)
    (ti_NothingToUndo : PySem.W.typeIn K (.ref f7) = some (.type "function"))
    (kq_NothingToUndo_InvalidBook : PySem.W.kitOne K (.ref c_NothingToUndo) (.ref c_InvalidBook) = some false)
    (kq_NothingToUndo_InvalidSize : PySem.W.kitOne K (.ref c_NothingToUndo) (.ref c_InvalidSize) = some false)
    (kq_NothingToUndo_InvalidTable : PySem.W.kitOne K (.ref c_NothingToUndo) (.ref c_InvalidTable) = some false)
    (kq_NothingToUndo_InvalidChain : PySem.W.kitOne K (.ref c_NothingToUndo) (.ref c_InvalidChain) = some false)
    (kq_NothingToUndo_InvalidNumber : PySem.W.kitOne K (.ref c_NothingToUndo) (.ref c_InvalidNumber) = some false)
    (kq_NothingToUndo_NothingToUndo : PySem.W.kitOne K (.ref c_NothingToUndo) (.ref c_NothingToUndo) = some true)
    (kq_NothingToUndo_Unreadable : PySem.W.kitOne K (.ref c_NothingToUndo) (.ref c_Unreadable) = some false)
    (kq_NothingToUndo_BookError : PySem.W.kitOne K (.ref c_NothingToUndo) (.ref c_BookError) = some true)
    (kq_NothingToUndo_ValueError : PySem.W.kitOne K (.ref c_NothingToUndo) (.type "ValueError") = some true)
    {nm_Unreadable qn_Unreadable : Str} {N_Unreadable : Addr} {bs_Unreadable bm_Unreadable : List Value} {sn_Unreadable : List Str} {sub_Unreadable : List Value} {ab_Unreadable : Bool} {col_Unreadable : Option Bool} {dd_Unreadable : Option Addr} {k0_Unreadable k1_Unreadable k2_Unreadable k3_Unreadable k5_Unreadable : Option Value}
    (l_Unreadable : K.lookup c_Unreadable = some (excClassObj nm_Unreadable qn_Unreadable c_Unreadable N_Unreadable bs_Unreadable bm_Unreadable true sn_Unreadable sub_Unreadable ab_Unreadable col_Unreadable dd_Unreadable k0_Unreadable k1_Unreadable k2_Unreadable k3_Unreadable k5_Unreadable "ValueError.__new__"))
    (r_Unreadable : PySem.HandSPX.refsVE bm_Unreadable = true)
    (sa_Unreadable : PySem.W.findIn K (.ref c_Unreadable) "__setattr__" = some (some (.builtin "object.__setattr__")))
    (ex_Unreadable : PySem.W.subIn K (.ref c_Unreadable) (.type "BaseException") = some true)
    (ty_Unreadable : PySem.W.typeIn K (.ref c_Unreadable) = some (.type "type"))
    (kc_Unreadable : PySem.W.keepIn K (.ref c_Unreadable) = true)
    (ga_Unreadable : PySem.W.findIn K (.ref c_Unreadable) "__getattribute__" = some (some (.builtin "BaseException.__getattribute__")))
    (gg_Unreadable : PySem.W.findIn K (.ref c_Unreadable) "__getattr__" = some none)
    (hd_Unreadable : PySem.W.hasDictIn K c_Unreadable = true)
    (ha_Unreadable : PySem.W.findIn K (.ref c_Unreadable) "__class__" = some (some (.builtin "object.__class__")))
    (hn_Unreadable : PySem.W.specialIn K (.builtin "object.__class__") "__get__" = some (some (.builtin "getset_descriptor.__get__")))
    (ht_Unreadable : PySem.W.takesIn K (.builtin "object.__class__") = some true)
    (hm_Unreadable : PySem.W.mroIn K c_Unreadable (.type "object") = some true)
    (nv_Unreadable : PySem.W.findIn K (.ref c_Unreadable) "value" = some none)
    (ti_Unreadable : PySem.W.typeIn K (.ref f8) = some (.type "function"))
    (kq_Unreadable_InvalidBook : PySem.W.kitOne K (.ref c_Unreadable) (.ref c_InvalidBook) = some false)
    (kq_Unreadable_InvalidSize : PySem.W.kitOne K (.ref c_Unreadable) (.ref c_InvalidSize) = some false)
    (kq_Unreadable_InvalidTable : PySem.W.kitOne K (.ref c_Unreadable) (.ref c_InvalidTable) = some false)
    (kq_Unreadable_InvalidChain : PySem.W.kitOne K (.ref c_Unreadable) (.ref c_InvalidChain) = some false)
    (kq_Unreadable_InvalidNumber : PySem.W.kitOne K (.ref c_Unreadable) (.ref c_InvalidNumber) = some false)
    (kq_Unreadable_NothingToUndo : PySem.W.kitOne K (.ref c_Unreadable) (.ref c_NothingToUndo) = some false)
    (kq_Unreadable_Unreadable : PySem.W.kitOne K (.ref c_Unreadable) (.ref c_Unreadable) = some true)
    (kq_Unreadable_BookError : PySem.W.kitOne K (.ref c_Unreadable) (.ref c_BookError) = some true)
    (kq_Unreadable_ValueError : PySem.W.kitOne K (.ref c_Unreadable) (.type "ValueError") = some true)
    : ∃ fd : FuncData, (∀ (s : Shared) (v : Value), BindsTo s fd ⟨[v], []⟩ [("script", v)]) ∧ ∀ base : Heap, K.In base → base.Ns mainGlobals mg → FnOk l.prog w K mg base CX0 6 fa fd ["script"] (sp_law K) := by
  have e := hfa.symm.trans (PySem.W.mg_of X G a12)
  cases e
  have F0 := fun_mk (st := s__law_source) l0 c0 k0
  have F1 := fun_mk (st := s__law_draw) l1 c1 k1
  have F2 := fun_mk (st := s_InvalidBook___init__) l2 c2 k2
  have F3 := fun_mk (st := s_InvalidSize___init__) l3 c3 k3
  have F4 := fun_mk (st := s_InvalidTable___init__) l4 c4 k4
  have F5 := fun_mk (st := s_InvalidChain___init__) l5 c5 k5
  have F6 := fun_mk (st := s_InvalidNumber___init__) l6 c6 k6
  have F7 := fun_mk (st := s_NothingToUndo___init__) l7 c7 k7
  have F8 := fun_mk (st := s_Unreadable___init__) l8 c8 k8
  have F9 := fun_mk (st := s__law_error) l9 c9 k9
  have F10 := fun_mk (st := s__law_made) l10 c10 k10
  have F11 := fun_mk (st := s__law_same) l11 c11 k11
  have F12 := fun_mk (st := s_law) l12 c12 k12
  have T : Txt K mg ⟨f0, PySem.W.fnOf "_law_source" "_law_source" (defArgs s__law_source) (defBody s__law_source) (defScope s__law_source) .none kV0 dc0 pm0 an0 cd0 ct0, f1, PySem.W.fnOf "_law_draw" "_law_draw" (defArgs s__law_draw) (defBody s__law_draw) (defScope s__law_draw) .none kV1 dc1 pm1 an1 cd1 ct1, f2, PySem.W.fnOf "__init__" "InvalidBook.__init__" (defArgs s_InvalidBook___init__) (defBody s_InvalidBook___init__) (defScope s_InvalidBook___init__) .none kV2 dc2 pm2 an2 cd2 ct2, f3, PySem.W.fnOf "__init__" "InvalidSize.__init__" (defArgs s_InvalidSize___init__) (defBody s_InvalidSize___init__) (defScope s_InvalidSize___init__) .none kV3 dc3 pm3 an3 cd3 ct3, f4, PySem.W.fnOf "__init__" "InvalidTable.__init__" (defArgs s_InvalidTable___init__) (defBody s_InvalidTable___init__) (defScope s_InvalidTable___init__) .none kV4 dc4 pm4 an4 cd4 ct4, f5, PySem.W.fnOf "__init__" "InvalidChain.__init__" (defArgs s_InvalidChain___init__) (defBody s_InvalidChain___init__) (defScope s_InvalidChain___init__) .none kV5 dc5 pm5 an5 cd5 ct5, f6, PySem.W.fnOf "__init__" "InvalidNumber.__init__" (defArgs s_InvalidNumber___init__) (defBody s_InvalidNumber___init__) (defScope s_InvalidNumber___init__) .none kV6 dc6 pm6 an6 cd6 ct6, f7, PySem.W.fnOf "__init__" "NothingToUndo.__init__" (defArgs s_NothingToUndo___init__) (defBody s_NothingToUndo___init__) (defScope s_NothingToUndo___init__) .none kV7 dc7 pm7 an7 cd7 ct7, f8, PySem.W.fnOf "__init__" "Unreadable.__init__" (defArgs s_Unreadable___init__) (defBody s_Unreadable___init__) (defScope s_Unreadable___init__) .none kV8 dc8 pm8 an8 cd8 ct8, f9, PySem.W.fnOf "_law_error" "_law_error" (defArgs s__law_error) (defBody s__law_error) (defScope s__law_error) .none kV9 dc9 pm9 an9 cd9 ct9, f10, PySem.W.fnOf "_law_made" "_law_made" (defArgs s__law_made) (defBody s__law_made) (defScope s__law_made) .none kV10 dc10 pm10 an10 cd10 ct10, f11, PySem.W.fnOf "_law_same" "_law_same" (defArgs s__law_same) (defBody s__law_same) (defScope s__law_same) .none kV11 dc11 pm11 an11 cd11 ct11, fa, PySem.W.fnOf "law" "law" (defArgs s_law) (defBody s_law) (defScope s_law) .none kV12 dc12 pm12 an12 cd12 ct12, c_InvalidBook, c_InvalidSize, c_InvalidTable, c_InvalidChain, c_InvalidNumber, c_NothingToUndo, c_Unreadable, c_BookError⟩ :=
    { F__law_source := F0,
      g__law_source := PySem.W.mg_of X G a0,
      b__law_source := F0.binds (ps := ["script"]) fun _ _ _ _ _ _ us hl => match us, hl with | [_], _ => rfl,
      F__law_draw := F1,
      g__law_draw := PySem.W.mg_of X G a1,
      b__law_draw := F1.binds (ps := ["source", "many"]) fun _ _ _ _ _ _ us hl => match us, hl with | [_, _], _ => rfl,
      F_InvalidBook___init__ := F2,
      b_InvalidBook___init__ := F2.binds (ps := ["self", "value"]) fun _ _ _ _ _ _ us hl => match us, hl with | [_, _], _ => rfl,
      F_InvalidSize___init__ := F3,
      b_InvalidSize___init__ := F3.binds (ps := ["self", "value"]) fun _ _ _ _ _ _ us hl => match us, hl with | [_, _], _ => rfl,
      F_InvalidTable___init__ := F4,
      b_InvalidTable___init__ := F4.binds (ps := ["self", "value"]) fun _ _ _ _ _ _ us hl => match us, hl with | [_, _], _ => rfl,
      F_InvalidChain___init__ := F5,
      b_InvalidChain___init__ := F5.binds (ps := ["self", "value"]) fun _ _ _ _ _ _ us hl => match us, hl with | [_, _], _ => rfl,
      F_InvalidNumber___init__ := F6,
      b_InvalidNumber___init__ := F6.binds (ps := ["self", "value"]) fun _ _ _ _ _ _ us hl => match us, hl with | [_, _], _ => rfl,
      F_NothingToUndo___init__ := F7,
      b_NothingToUndo___init__ := F7.binds (ps := ["self", "value"]) fun _ _ _ _ _ _ us hl => match us, hl with | [_, _], _ => rfl,
      F_Unreadable___init__ := F8,
      b_Unreadable___init__ := F8.binds (ps := ["self", "value"]) fun _ _ _ _ _ _ us hl => match us, hl with | [_, _], _ => rfl,
      F__law_error := F9,
      g__law_error := PySem.W.mg_of X G a9,
      b__law_error := F9.binds (ps := ["e"]) fun _ _ _ _ _ _ us hl => match us, hl with | [_], _ => rfl,
      F__law_made := F10,
      g__law_made := PySem.W.mg_of X G a10,
      b__law_made := F10.binds (ps := ["door", "what", "by_name"]) fun _ _ _ _ _ _ us hl => match us, hl with | [_, _, _], _ => rfl,
      F__law_same := F11,
      g__law_same := PySem.W.mg_of X G a11,
      b__law_same := F11.binds (ps := ["found", "wanted"]) fun _ _ _ _ _ _ us hl => match us, hl with | [_, _], _ => rfl,
      F_law := F12,
      g_law := PySem.W.mg_of X G a12,
      b_law := F12.binds (ps := ["script"]) fun _ _ _ _ _ _ us hl => match us, hl with | [_], _ => rfl,
      z_ValueError := PySem.W.mg_none_of X G z0,
      z_bool := PySem.W.mg_none_of X G z1,
      z_int := PySem.W.mg_none_of X G z2,
      z_isinstance := PySem.W.mg_none_of X G z3,
      z_len := PySem.W.mg_none_of X G z4,
      z_list := PySem.W.mg_none_of X G z5,
      z_max := PySem.W.mg_none_of X G z6,
      z_min := PySem.W.mg_none_of X G z7,
      z_range := PySem.W.mg_none_of X G z8,
      z_str := PySem.W.mg_none_of X G z9,
      z_tuple := PySem.W.mg_none_of X G z10,
      m_InvalidBook := PySem.W.mg_of X G m_InvalidBook,
      m_InvalidSize := PySem.W.mg_of X G m_InvalidSize,
      m_InvalidTable := PySem.W.mg_of X G m_InvalidTable,
      m_InvalidChain := PySem.W.mg_of X G m_InvalidChain,
      m_InvalidNumber := PySem.W.mg_of X G m_InvalidNumber,
      m_NothingToUndo := PySem.W.mg_of X G m_NothingToUndo,
      m_Unreadable := PySem.W.mg_of X G m_Unreadable,
      m_BookError := PySem.W.mg_of X G m_BookError,
      C_InvalidBook := ⟨⟨_, _, _, _, _, _, _, _, _, _, _, _, _, _, _, l_InvalidBook, r_InvalidBook⟩, sa_InvalidBook, ex_InvalidBook, ty_InvalidBook, kc_InvalidBook⟩,
      V_InvalidBook := ⟨ga_InvalidBook, gg_InvalidBook, ex_InvalidBook, hd_InvalidBook, ha_InvalidBook, hn_InvalidBook, ht_InvalidBook, hm_InvalidBook⟩,
      X_InvalidBook := ⟨ga_InvalidBook, gg_InvalidBook, ex_InvalidBook, hd_InvalidBook⟩,
      n_InvalidBook := nv_InvalidBook,
      i_InvalidBook := in_InvalidBook,
      t_InvalidBook := ti_InvalidBook,
      k_InvalidBook := ⟨fun s us ws _ h1 h2 => match us, ws, h1, h2 with | [_], [_], _, _ => .of_eq rfl, fun r1 r2 => r1.append r2⟩,
      q_InvalidBook_InvalidBook := kq_InvalidBook_InvalidBook,
      q_InvalidBook_InvalidSize := kq_InvalidBook_InvalidSize,
      q_InvalidBook_InvalidTable := kq_InvalidBook_InvalidTable,
      q_InvalidBook_InvalidChain := kq_InvalidBook_InvalidChain,
      q_InvalidBook_InvalidNumber := kq_InvalidBook_InvalidNumber,
      q_InvalidBook_NothingToUndo := kq_InvalidBook_NothingToUndo,
      q_InvalidBook_Unreadable := kq_InvalidBook_Unreadable,
      q_InvalidBook_BookError := kq_InvalidBook_BookError,
      q_InvalidBook_ValueError := kq_InvalidBook_ValueError,
      C_InvalidSize := ⟨⟨_, _, _, _, _, _, _, _, _, _, _, _, _, _, _, l_InvalidSize, r_InvalidSize⟩, sa_InvalidSize, ex_InvalidSize, ty_InvalidSize, kc_InvalidSize⟩,
      V_InvalidSize := ⟨ga_InvalidSize, gg_InvalidSize, ex_InvalidSize, hd_InvalidSize, ha_InvalidSize, hn_InvalidSize, ht_InvalidSize, hm_InvalidSize⟩,
      X_InvalidSize := ⟨ga_InvalidSize, gg_InvalidSize, ex_InvalidSize, hd_InvalidSize⟩,
      n_InvalidSize := nv_InvalidSize,
      i_InvalidSize := in_InvalidSize,
      t_InvalidSize := ti_InvalidSize,
      k_InvalidSize := ⟨fun s us ws _ h1 h2 => match us, ws, h1, h2 with | [_], [_], _, _ => .of_eq rfl, fun r1 r2 => r1.append r2⟩,
      q_InvalidSize_InvalidBook := kq_InvalidSize_InvalidBook,
      q_InvalidSize_InvalidSize := kq_InvalidSize_InvalidSize,
      q_InvalidSize_InvalidTable := kq_InvalidSize_InvalidTable,
      q_InvalidSize_InvalidChain := kq_InvalidSize_InvalidChain,
      q_InvalidSize_InvalidNumber := kq_InvalidSize_InvalidNumber,
      q_InvalidSize_NothingToUndo := kq_InvalidSize_NothingToUndo,
      q_InvalidSize_Unreadable := kq_InvalidSize_Unreadable,
      q_InvalidSize_BookError := kq_InvalidSize_BookError,
      q_InvalidSize_ValueError := kq_InvalidSize_ValueError,
      C_InvalidTable := ⟨⟨_, _, _, _, _, _, _, _, _, _, _, _, _, _, _, l_InvalidTable, r_InvalidTable⟩, sa_InvalidTable, ex_InvalidTable, ty_InvalidTable, kc_InvalidTable⟩,
      V_InvalidTable := ⟨ga_InvalidTable, gg_InvalidTable, ex_InvalidTable, hd_InvalidTable, ha_InvalidTable, hn_InvalidTable, ht_InvalidTable, hm_InvalidTable⟩,
      X_InvalidTable := ⟨ga_InvalidTable, gg_InvalidTable, ex_InvalidTable, hd_InvalidTable⟩,
      n_InvalidTable := nv_InvalidTable,
      i_InvalidTable := in_InvalidTable,
      t_InvalidTable := ti_InvalidTable,
      k_InvalidTable := ⟨fun s us ws _ h1 h2 => match us, ws, h1, h2 with | [_], [_], _, _ => .of_eq rfl, fun r1 r2 => r1.append r2⟩,
      q_InvalidTable_InvalidBook := kq_InvalidTable_InvalidBook,
      q_InvalidTable_InvalidSize := kq_InvalidTable_InvalidSize,
      q_InvalidTable_InvalidTable := kq_InvalidTable_InvalidTable,
      q_InvalidTable_InvalidChain := kq_InvalidTable_InvalidChain,
      q_InvalidTable_InvalidNumber := kq_InvalidTable_InvalidNumber,
      q_InvalidTable_NothingToUndo := kq_InvalidTable_NothingToUndo,
      q_InvalidTable_Unreadable := kq_InvalidTable_Unreadable,
      q_InvalidTable_BookError := kq_InvalidTable_BookError,
      q_InvalidTable_ValueError := kq_InvalidTable_ValueError,
      C_InvalidChain := ⟨⟨_, _, _, _, _, _, _, _, _, _, _, _, _, _, _, l_InvalidChain, r_InvalidChain⟩, sa_InvalidChain, ex_InvalidChain, ty_InvalidChain, kc_InvalidChain⟩,
      V_InvalidChain := ⟨ga_InvalidChain, gg_InvalidChain, ex_InvalidChain, hd_InvalidChain, ha_InvalidChain, hn_InvalidChain, ht_InvalidChain, hm_InvalidChain⟩,
      X_InvalidChain := ⟨ga_InvalidChain, gg_InvalidChain, ex_InvalidChain, hd_InvalidChain⟩,
      n_InvalidChain := nv_InvalidChain,
      i_InvalidChain := in_InvalidChain,
      t_InvalidChain := ti_InvalidChain,
      k_InvalidChain := ⟨fun s us ws _ h1 h2 => match us, ws, h1, h2 with | [_], [_], _, _ => .of_eq rfl, fun r1 r2 => r1.append r2⟩,
      q_InvalidChain_InvalidBook := kq_InvalidChain_InvalidBook,
      q_InvalidChain_InvalidSize := kq_InvalidChain_InvalidSize,
      q_InvalidChain_InvalidTable := kq_InvalidChain_InvalidTable,
      q_InvalidChain_InvalidChain := kq_InvalidChain_InvalidChain,
      q_InvalidChain_InvalidNumber := kq_InvalidChain_InvalidNumber,
      q_InvalidChain_NothingToUndo := kq_InvalidChain_NothingToUndo,
      q_InvalidChain_Unreadable := kq_InvalidChain_Unreadable,
      q_InvalidChain_BookError := kq_InvalidChain_BookError,
      q_InvalidChain_ValueError := kq_InvalidChain_ValueError,
      C_InvalidNumber := ⟨⟨_, _, _, _, _, _, _, _, _, _, _, _, _, _, _, l_InvalidNumber, r_InvalidNumber⟩, sa_InvalidNumber, ex_InvalidNumber, ty_InvalidNumber, kc_InvalidNumber⟩,
      V_InvalidNumber := ⟨ga_InvalidNumber, gg_InvalidNumber, ex_InvalidNumber, hd_InvalidNumber, ha_InvalidNumber, hn_InvalidNumber, ht_InvalidNumber, hm_InvalidNumber⟩,
      X_InvalidNumber := ⟨ga_InvalidNumber, gg_InvalidNumber, ex_InvalidNumber, hd_InvalidNumber⟩,
      n_InvalidNumber := nv_InvalidNumber,
      i_InvalidNumber := in_InvalidNumber,
      t_InvalidNumber := ti_InvalidNumber,
      k_InvalidNumber := ⟨fun s us ws _ h1 h2 => match us, ws, h1, h2 with | [_], [_], _, _ => .of_eq rfl, fun r1 r2 => r1.append r2⟩,
      q_InvalidNumber_InvalidBook := kq_InvalidNumber_InvalidBook,
      q_InvalidNumber_InvalidSize := kq_InvalidNumber_InvalidSize,
      q_InvalidNumber_InvalidTable := kq_InvalidNumber_InvalidTable,
      q_InvalidNumber_InvalidChain := kq_InvalidNumber_InvalidChain,
      q_InvalidNumber_InvalidNumber := kq_InvalidNumber_InvalidNumber,
      q_InvalidNumber_NothingToUndo := kq_InvalidNumber_NothingToUndo,
      q_InvalidNumber_Unreadable := kq_InvalidNumber_Unreadable,
      q_InvalidNumber_BookError := kq_InvalidNumber_BookError,
      q_InvalidNumber_ValueError := kq_InvalidNumber_ValueError,
      C_NothingToUndo := ⟨⟨_, _, _, _, _, _, _, _, _, _, _, _, _, _, _, l_NothingToUndo, r_NothingToUndo⟩, sa_NothingToUndo, ex_NothingToUndo, ty_NothingToUndo, kc_NothingToUndo⟩,
      V_NothingToUndo := ⟨ga_NothingToUndo, gg_NothingToUndo, ex_NothingToUndo, hd_NothingToUndo, ha_NothingToUndo, hn_NothingToUndo, ht_NothingToUndo, hm_NothingToUndo⟩,
      X_NothingToUndo := ⟨ga_NothingToUndo, gg_NothingToUndo, ex_NothingToUndo, hd_NothingToUndo⟩,
      n_NothingToUndo := nv_NothingToUndo,
      i_NothingToUndo := in_NothingToUndo,
      t_NothingToUndo := ti_NothingToUndo,
      k_NothingToUndo := ⟨fun s us ws _ h1 h2 => match us, ws, h1, h2 with | [_], [_], _, _ => .of_eq rfl, fun r1 r2 => r1.append r2⟩,
      q_NothingToUndo_InvalidBook := kq_NothingToUndo_InvalidBook,
      q_NothingToUndo_InvalidSize := kq_NothingToUndo_InvalidSize,
      q_NothingToUndo_InvalidTable := kq_NothingToUndo_InvalidTable,
      q_NothingToUndo_InvalidChain := kq_NothingToUndo_InvalidChain,
      q_NothingToUndo_InvalidNumber := kq_NothingToUndo_InvalidNumber,
      q_NothingToUndo_NothingToUndo := kq_NothingToUndo_NothingToUndo,
      q_NothingToUndo_Unreadable := kq_NothingToUndo_Unreadable,
      q_NothingToUndo_BookError := kq_NothingToUndo_BookError,
      q_NothingToUndo_ValueError := kq_NothingToUndo_ValueError,
      C_Unreadable := ⟨⟨_, _, _, _, _, _, _, _, _, _, _, _, _, _, _, l_Unreadable, r_Unreadable⟩, sa_Unreadable, ex_Unreadable, ty_Unreadable, kc_Unreadable⟩,
      V_Unreadable := ⟨ga_Unreadable, gg_Unreadable, ex_Unreadable, hd_Unreadable, ha_Unreadable, hn_Unreadable, ht_Unreadable, hm_Unreadable⟩,
      X_Unreadable := ⟨ga_Unreadable, gg_Unreadable, ex_Unreadable, hd_Unreadable⟩,
      n_Unreadable := nv_Unreadable,
      i_Unreadable := in_Unreadable,
      t_Unreadable := ti_Unreadable,
      k_Unreadable := ⟨fun s us ws _ h1 h2 => match us, ws, h1, h2 with | [_], [_], _, _ => .of_eq rfl, fun r1 r2 => r1.append r2⟩,
      q_Unreadable_InvalidBook := kq_Unreadable_InvalidBook,
      q_Unreadable_InvalidSize := kq_Unreadable_InvalidSize,
      q_Unreadable_InvalidTable := kq_Unreadable_InvalidTable,
      q_Unreadable_InvalidChain := kq_Unreadable_InvalidChain,
      q_Unreadable_InvalidNumber := kq_Unreadable_InvalidNumber,
      q_Unreadable_NothingToUndo := kq_Unreadable_NothingToUndo,
      q_Unreadable_Unreadable := kq_Unreadable_Unreadable,
      q_Unreadable_BookError := kq_Unreadable_BookError,
      q_Unreadable_ValueError := kq_Unreadable_ValueError }
  exact ⟨_, fun s v => .of_eq rfl, fun base _ _ => ok_law T⟩
end WK01
open PySem PySem.W PyProof.Rows
set_option maxHeartbeats 0 in
theorem PySem.Challenge.cw_pagecounts_k01_errors_and_their_values_holds : PySem.Challenge.rw_pagecounts_k01_errors_and_their_values.Holds := by
  w_on; o_law; k_head; (case hw => w_witness2)
  k_fill
  refine L2.walk_of (l := PySem.Challenge.rw_pagecounts_k01_errors_and_their_values) (n := 63) (k := 6) (x := "script") (CX := fun _ => L2.CX0) (sp := fun w => WK01.sp_law _) rfl (by decide) rfl ⟨rfl, by decide, by decide⟩ (fun w h Y => PySem.W.kIn_of Y) ?F (fun _ _ a ns hl _ hS => ⟨a, ns, rfl, hS, hl, fun _ => rfl⟩) (fun _ _ _ _ _ h => h)
  case F =>
    intro w mg fa h KX G hmg
    refine' WK01.all_mk KX G hmg ?m_InvalidBook ?m_InvalidSize ?m_InvalidTable ?m_InvalidChain ?m_InvalidNumber ?m_NothingToUndo ?m_Unreadable ?m_BookError ?a0 ?l0 ?c0 ?k0 ?a1 ?l1 ?c1 ?k1 ?in_InvalidBook ?l2 ?c2 ?k2 ?in_InvalidSize ?l3 ?c3 ?k3 ?in_InvalidTable ?l4 ?c4 ?k4 ?in_InvalidChain ?l5 ?c5 ?k5 ?in_InvalidNumber ?l6 ?c6 ?k6 ?in_NothingToUndo ?l7 ?c7 ?k7 ?in_Unreadable ?l8 ?c8 ?k8 ?a9 ?l9 ?c9 ?k9 ?a10 ?l10 ?c10 ?k10 ?a11 ?l11 ?c11 ?k11 ?a12 ?l12 ?c12 ?k12 ?z0 ?z1 ?z2 ?z3 ?z4 ?z5 ?z6 ?z7 ?z8 ?z9 ?z10 ?l_InvalidBook ?r_InvalidBook ?sa_InvalidBook ?ex_InvalidBook ?ty_InvalidBook ?kc_InvalidBook ?ga_InvalidBook ?gg_InvalidBook ?hd_InvalidBook ?ha_InvalidBook ?hn_InvalidBook ?ht_InvalidBook ?hm_InvalidBook ?nv_InvalidBook ?ti_InvalidBook ?kq_InvalidBook_InvalidBook ?kq_InvalidBook_InvalidSize ?kq_InvalidBook_InvalidTable ?kq_InvalidBook_InvalidChain ?kq_InvalidBook_InvalidNumber ?kq_InvalidBook_NothingToUndo ?kq_InvalidBook_Unreadable ?kq_InvalidBook_BookError ?kq_InvalidBook_ValueError ?l_InvalidSize ?r_InvalidSize ?sa_InvalidSize ?ex_InvalidSize ?ty_InvalidSize ?kc_InvalidSize ?ga_InvalidSize ?gg_InvalidSize ?hd_InvalidSize ?ha_InvalidSize ?hn_InvalidSize ?ht_InvalidSize ?hm_InvalidSize ?nv_InvalidSize ?ti_InvalidSize ?kq_InvalidSize_InvalidBook ?kq_InvalidSize_InvalidSize ?kq_InvalidSize_InvalidTable ?kq_InvalidSize_InvalidChain ?kq_InvalidSize_InvalidNumber ?kq_InvalidSize_NothingToUndo ?kq_InvalidSize_Unreadable ?kq_InvalidSize_BookError ?kq_InvalidSize_ValueError ?l_InvalidTable ?r_InvalidTable ?sa_InvalidTable ?ex_InvalidTable ?ty_InvalidTable ?kc_InvalidTable ?ga_InvalidTable ?gg_InvalidTable ?hd_InvalidTable ?ha_InvalidTable ?hn_InvalidTable ?ht_InvalidTable ?hm_InvalidTable ?nv_InvalidTable ?ti_InvalidTable ?kq_InvalidTable_InvalidBook ?kq_InvalidTable_InvalidSize ?kq_InvalidTable_InvalidTable ?kq_InvalidTable_InvalidChain ?kq_InvalidTable_InvalidNumber ?kq_InvalidTable_NothingToUndo ?kq_InvalidTable_Unreadable ?kq_InvalidTable_BookError ?kq_InvalidTable_ValueError ?l_InvalidChain ?r_InvalidChain ?sa_InvalidChain ?ex_InvalidChain ?ty_InvalidChain ?kc_InvalidChain ?ga_InvalidChain ?gg_InvalidChain ?hd_InvalidChain ?ha_InvalidChain ?hn_InvalidChain ?ht_InvalidChain ?hm_InvalidChain ?nv_InvalidChain ?ti_InvalidChain ?kq_InvalidChain_InvalidBook ?kq_InvalidChain_InvalidSize ?kq_InvalidChain_InvalidTable ?kq_InvalidChain_InvalidChain ?kq_InvalidChain_InvalidNumber ?kq_InvalidChain_NothingToUndo ?kq_InvalidChain_Unreadable ?kq_InvalidChain_BookError ?kq_InvalidChain_ValueError ?l_InvalidNumber ?r_InvalidNumber ?sa_InvalidNumber ?ex_InvalidNumber ?ty_InvalidNumber ?kc_InvalidNumber ?ga_InvalidNumber ?gg_InvalidNumber ?hd_InvalidNumber ?ha_InvalidNumber ?hn_InvalidNumber ?ht_InvalidNumber ?hm_InvalidNumber ?nv_InvalidNumber ?ti_InvalidNumber ?kq_InvalidNumber_InvalidBook ?kq_InvalidNumber_InvalidSize ?kq_InvalidNumber_InvalidTable ?kq_InvalidNumber_InvalidChain ?kq_InvalidNumber_InvalidNumber ?kq_InvalidNumber_NothingToUndo ?kq_InvalidNumber_Unreadable ?kq_InvalidNumber_BookError ?kq_InvalidNumber_ValueError ?l_NothingToUndo ?r_NothingToUndo ?sa_NothingToUndo ?ex_NothingToUndo ?ty_NothingToUndo ?kc_NothingToUndo ?ga_NothingToUndo ?gg_NothingToUndo ?hd_NothingToUndo ?ha_NothingToUndo ?hn_NothingToUndo ?ht_NothingToUndo ?hm_NothingToUndo ?nv_NothingToUndo ?ti_NothingToUndo ?kq_NothingToUndo_InvalidBook ?kq_NothingToUndo_InvalidSize ?kq_NothingToUndo_InvalidTable ?kq_NothingToUndo_InvalidChain ?kq_NothingToUndo_InvalidNumber ?kq_NothingToUndo_NothingToUndo ?kq_NothingToUndo_Unreadable ?kq_NothingToUndo_BookError ?kq_NothingToUndo_ValueError ?l_Unreadable ?r_Unreadable ?sa_Unreadable ?ex_Unreadable ?ty_Unreadable ?kc_Unreadable ?ga_Unreadable ?gg_Unreadable ?hd_Unreadable ?ha_Unreadable ?hn_Unreadable ?ht_Unreadable ?hm_Unreadable ?nv_Unreadable ?ti_Unreadable ?kq_Unreadable_InvalidBook ?kq_Unreadable_InvalidSize ?kq_Unreadable_InvalidTable ?kq_Unreadable_InvalidChain ?kq_Unreadable_InvalidNumber ?kq_Unreadable_NothingToUndo ?kq_Unreadable_Unreadable ?kq_Unreadable_BookError ?kq_Unreadable_ValueError
    (case m_InvalidBook => k_is); (case m_InvalidSize => k_is); (case m_InvalidTable => k_is); (case m_InvalidChain => k_is); (case m_InvalidNumber => k_is); (case m_NothingToUndo => k_is); (case m_Unreadable => k_is); (case m_BookError => k_is); (case a0 => k_is); (case l0 => k_is); (case c0 => k_is); (case k0 => k_is); (case a1 => k_is); (case l1 => k_is); (case c1 => k_is); (case k1 => k_is); (case in_InvalidBook => k_is); (case l2 => k_is); (case c2 => k_is); (case k2 => k_is); (case in_InvalidSize => k_is); (case l3 => k_is); (case c3 => k_is); (case k3 => k_is); (case in_InvalidTable => k_is); (case l4 => k_is); (case c4 => k_is); (case k4 => k_is); (case in_InvalidChain => k_is); (case l5 => k_is); (case c5 => k_is); (case k5 => k_is); (case in_InvalidNumber => k_is); (case l6 => k_is); (case c6 => k_is); (case k6 => k_is); (case in_NothingToUndo => k_is); (case l7 => k_is); (case c7 => k_is); (case k7 => k_is); (case in_Unreadable => k_is); (case l8 => k_is); (case c8 => k_is); (case k8 => k_is); (case a9 => k_is); (case l9 => k_is); (case c9 => k_is); (case k9 => k_is); (case a10 => k_is); (case l10 => k_is); (case c10 => k_is); (case k10 => k_is); (case a11 => k_is); (case l11 => k_is); (case c11 => k_is); (case k11 => k_is); (case a12 => k_is); (case l12 => k_is); (case c12 => k_is); (case k12 => k_is); (case z0 => k_is); (case z1 => k_is); (case z2 => k_is); (case z3 => k_is); (case z4 => k_is); (case z5 => k_is); (case z6 => k_is); (case z7 => k_is); (case z8 => k_is); (case z9 => k_is); (case z10 => k_is); (case l_InvalidBook => k_is); (case r_InvalidBook => rfl); (case sa_InvalidBook => k_is); (case ex_InvalidBook => k_is); (case ty_InvalidBook => k_is); (case kc_InvalidBook => k_is); (case ga_InvalidBook => k_is); (case gg_InvalidBook => k_is); (case hd_InvalidBook => k_is); (case ha_InvalidBook => k_is); (case hn_InvalidBook => k_is); (case ht_InvalidBook => k_is); (case hm_InvalidBook => k_is); (case nv_InvalidBook => k_is); (case ti_InvalidBook => k_is); (case kq_InvalidBook_InvalidBook => kit_is); (case kq_InvalidBook_InvalidSize => kit_is); (case kq_InvalidBook_InvalidTable => kit_is); (case kq_InvalidBook_InvalidChain => kit_is); (case kq_InvalidBook_InvalidNumber => kit_is); (case kq_InvalidBook_NothingToUndo => kit_is); (case kq_InvalidBook_Unreadable => kit_is); (case kq_InvalidBook_BookError => kit_is); (case kq_InvalidBook_ValueError => kit_is); (case l_InvalidSize => k_is); (case r_InvalidSize => rfl); (case sa_InvalidSize => k_is); (case ex_InvalidSize => k_is); (case ty_InvalidSize => k_is); (case kc_InvalidSize => k_is); (case ga_InvalidSize => k_is); (case gg_InvalidSize => k_is); (case hd_InvalidSize => k_is); (case ha_InvalidSize => k_is); (case hn_InvalidSize => k_is); (case ht_InvalidSize => k_is); (case hm_InvalidSize => k_is); (case nv_InvalidSize => k_is); (case ti_InvalidSize => k_is); (case kq_InvalidSize_InvalidBook => kit_is); (case kq_InvalidSize_InvalidSize => kit_is); (case kq_InvalidSize_InvalidTable => kit_is); (case kq_InvalidSize_InvalidChain => kit_is); (case kq_InvalidSize_InvalidNumber => kit_is); (case kq_InvalidSize_NothingToUndo => kit_is); (case kq_InvalidSize_Unreadable => kit_is); (case kq_InvalidSize_BookError => kit_is); (case kq_InvalidSize_ValueError => kit_is); (case l_InvalidTable => k_is); (case r_InvalidTable => rfl); (case sa_InvalidTable => k_is); (case ex_InvalidTable => k_is); (case ty_InvalidTable => k_is); (case kc_InvalidTable => k_is); (case ga_InvalidTable => k_is); (case gg_InvalidTable => k_is); (case hd_InvalidTable => k_is); (case ha_InvalidTable => k_is); (case hn_InvalidTable => k_is); (case ht_InvalidTable => k_is); (case hm_InvalidTable => k_is); (case nv_InvalidTable => k_is); (case ti_InvalidTable => k_is); (case kq_InvalidTable_InvalidBook => kit_is); (case kq_InvalidTable_InvalidSize => kit_is); (case kq_InvalidTable_InvalidTable => kit_is); (case kq_InvalidTable_InvalidChain => kit_is); (case kq_InvalidTable_InvalidNumber => kit_is); (case kq_InvalidTable_NothingToUndo => kit_is); (case kq_InvalidTable_Unreadable => kit_is); (case kq_InvalidTable_BookError => kit_is); (case kq_InvalidTable_ValueError => kit_is); (case l_InvalidChain => k_is); (case r_InvalidChain => rfl); (case sa_InvalidChain => k_is); (case ex_InvalidChain => k_is); (case ty_InvalidChain => k_is); (case kc_InvalidChain => k_is); (case ga_InvalidChain => k_is); (case gg_InvalidChain => k_is); (case hd_InvalidChain => k_is); (case ha_InvalidChain => k_is); (case hn_InvalidChain => k_is); (case ht_InvalidChain => k_is); (case hm_InvalidChain => k_is); (case nv_InvalidChain => k_is); (case ti_InvalidChain => k_is); (case kq_InvalidChain_InvalidBook => kit_is); (case kq_InvalidChain_InvalidSize => kit_is); (case kq_InvalidChain_InvalidTable => kit_is); (case kq_InvalidChain_InvalidChain => kit_is); (case kq_InvalidChain_InvalidNumber => kit_is); (case kq_InvalidChain_NothingToUndo => kit_is); (case kq_InvalidChain_Unreadable => kit_is); (case kq_InvalidChain_BookError => kit_is); (case kq_InvalidChain_ValueError => kit_is); (case l_InvalidNumber => k_is); (case r_InvalidNumber => rfl); (case sa_InvalidNumber => k_is); (case ex_InvalidNumber => k_is); (case ty_InvalidNumber => k_is); (case kc_InvalidNumber => k_is); (case ga_InvalidNumber => k_is); (case gg_InvalidNumber => k_is); (case hd_InvalidNumber => k_is); (case ha_InvalidNumber => k_is); (case hn_InvalidNumber => k_is); (case ht_InvalidNumber => k_is); (case hm_InvalidNumber => k_is); (case nv_InvalidNumber => k_is); (case ti_InvalidNumber => k_is); (case kq_InvalidNumber_InvalidBook => kit_is); (case kq_InvalidNumber_InvalidSize => kit_is); (case kq_InvalidNumber_InvalidTable => kit_is); (case kq_InvalidNumber_InvalidChain => kit_is); (case kq_InvalidNumber_InvalidNumber => kit_is); (case kq_InvalidNumber_NothingToUndo => kit_is); (case kq_InvalidNumber_Unreadable => kit_is); (case kq_InvalidNumber_BookError => kit_is); (case kq_InvalidNumber_ValueError => kit_is); (case l_NothingToUndo => k_is); (case r_NothingToUndo => rfl); (case sa_NothingToUndo => k_is); (case ex_NothingToUndo => k_is); (case ty_NothingToUndo => k_is); (case kc_NothingToUndo => k_is); (case ga_NothingToUndo => k_is); (case gg_NothingToUndo => k_is); (case hd_NothingToUndo => k_is); (case ha_NothingToUndo => k_is); (case hn_NothingToUndo => k_is); (case ht_NothingToUndo => k_is); (case hm_NothingToUndo => k_is); (case nv_NothingToUndo => k_is); (case ti_NothingToUndo => k_is); (case kq_NothingToUndo_InvalidBook => kit_is); (case kq_NothingToUndo_InvalidSize => kit_is); (case kq_NothingToUndo_InvalidTable => kit_is); (case kq_NothingToUndo_InvalidChain => kit_is); (case kq_NothingToUndo_InvalidNumber => kit_is); (case kq_NothingToUndo_NothingToUndo => kit_is); (case kq_NothingToUndo_Unreadable => kit_is); (case kq_NothingToUndo_BookError => kit_is); (case kq_NothingToUndo_ValueError => kit_is); (case l_Unreadable => k_is); (case r_Unreadable => rfl); (case sa_Unreadable => k_is); (case ex_Unreadable => k_is); (case ty_Unreadable => k_is); (case kc_Unreadable => k_is); (case ga_Unreadable => k_is); (case gg_Unreadable => k_is); (case hd_Unreadable => k_is); (case ha_Unreadable => k_is); (case hn_Unreadable => k_is); (case ht_Unreadable => k_is); (case hm_Unreadable => k_is); (case nv_Unreadable => k_is); (case ti_Unreadable => k_is); (case kq_Unreadable_InvalidBook => kit_is); (case kq_Unreadable_InvalidSize => kit_is); (case kq_Unreadable_InvalidTable => kit_is); (case kq_Unreadable_InvalidChain => kit_is); (case kq_Unreadable_InvalidNumber => kit_is); (case kq_Unreadable_NothingToUndo => kit_is); (case kq_Unreadable_Unreadable => kit_is); (case kq_Unreadable_BookError => kit_is); (case kq_Unreadable_ValueError => kit_is)

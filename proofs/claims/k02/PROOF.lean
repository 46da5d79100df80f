import PyProof.Rows.All
import Wide.All
import OpenK.AllK
import Wide.FinOn
import HandS.Evl
import HandS.GenList
import HandS.Walk
import HandS.WordsExc
import HandS.ForMost
import HandS.Wide
import HandS.Style
import HandS.ExcInit
import HandS.ExcIs
import HandS.ExcField
import HandS.IsInst
import HandS.Defaults
import HandS.Text
import HandS.FStr
import HandS.StrMore
import HandS.RaiseMore
import HandS.SetFor
import HandS.Flow
import KE.KExcIs
import PyProof.ReprRoads
import PyProof.ReprBulk
import PyProof.FitsInt
import PyProof.LongRange
import PySem.Challenge.RW_pagecounts_k02_page_counts
set_option Elab.async false
set_option linter.all false
set_option maxRecDepth 100000
set_option maxHeartbeats 4000000
/-! Readings, step by step, from their heads (own lemmas over HandS). -/
namespace HS
open PySem PySem.Spec PyProof.Rows L2
section
variable {σ : L2.St} {H : Hp} {Q : VK} {t u : TS} {te ta tb tx : TE} {tt tv : TT} {n bk ct : L2.St → Hp → Prop} {rt : VK} {K : PySem.W.Frag}
theorem seq (h : t ⟨u ⟨n, rt, bk, ct⟩, rt, bk, ct⟩ σ H) : tSeq t u ⟨n, rt, bk, ct⟩ σ H := h
theorem nxt (h : n σ H) : tNext ⟨n, rt, bk, ct⟩ σ H := h
theorem brk (h : bk σ H) : tBreak ⟨n, rt, bk, ct⟩ σ H := h
theorem cnt (h : ct σ H) : tCont ⟨n, rt, bk, ct⟩ σ H := h
theorem asg {g : TG} (h : te σ H fun x H1 => g x σ H1 n) : tAsg te g ⟨n, rt, bk, ct⟩ σ H := h
theorem nm {v : V} {i : Nat} {q : L2.St → Hp → Prop} (h : q (σ.set i (some v)) H) : gName i v σ H q := h
theorem sub {to ti : TE} {ts : TSet} {v : V} {q : L2.St → Hp → Prop} (h : to σ H fun o H1 => ti σ H1 fun i H2 => ts o i v H2 fun H3 => q σ H3) : gSub to ti ts v σ H q := h
theorem var {i : Nat} {v : V} (h : σ[i]? = some (some v)) (q : Q v H) : tVar i σ H Q := ⟨v, h, q⟩
theorem cst {v : V} (q : Q v H) : tC v σ H Q := q
theorem op {r : R2} (h : ta σ H fun x H1 => tb σ H1 fun y H2 => r x y H2 Q) : tOp r ta tb σ H Q := h
theorem un {r : V → Hp → VK → Prop} (h : ta σ H fun x H1 => r x H1 Q) : tUn r ta σ H Q := h
theorem i0 {g : Int → Int → V} {i j : Int} (q : Q (g i j) H) : rI0 g (.int i) (.int j) H Q := ⟨i, j, rfl, rfl, q⟩
theorem i1 {C : Int → Int → Prop} {g : Int → Int → V} {i j : Int} (q : C i j ∧ Q (g i j) H) : rI C g (.int i) (.int j) H Q := ⟨i, j, rfl, rfl, q⟩
theorem u0 {g : Int → V} {i : Int} (q : Q (g i) H) : rU g (.int i) H Q := ⟨i, rfl, q⟩
theorem eqI {i j : Int} (q : Q (.bl (decide (i = j))) H) : rEq (.int i) (.int j) H Q := ⟨rfl, by
  have e : decide ((V.int i) = V.int j) = decide (i = j) := by
    by_cases h : i = j
    · rw [h]; simp
    · have h2 : ¬ (V.int i = V.int j) := fun z => h (V.int.inj z)
      rw [decide_eq_false h, decide_eq_false h2]
  rw [e]; exact q⟩
theorem neI {i j : Int} (q : Q (.bl (!decide (i = j))) H) : rNe (.int i) (.int j) H Q := ⟨rfl, by
  have e : decide ((V.int i) = V.int j) = decide (i = j) := by
    by_cases h : i = j
    · rw [h]; simp
    · have h2 : ¬ (V.int i = V.int j) := fun z => h (V.int.inj z)
      rw [decide_eq_false h, decide_eq_false h2]
  rw [e]; exact q⟩
theorem tst {q : Bool → Hp → Prop} (h : te σ H fun x H' => ∃ k, x = .bl k ∧ q k H') : tTest te σ H q := h
theorem tb1 {q : Bool → Hp → Prop} (h : te σ H fun x H' => ∃ k, x = .bl k ∧ q k H') : tB te σ H q := h
theorem bex {b : Bool} {q : Bool → Prop} (h : q b) : ∃ k, V.bl b = V.bl k ∧ q k := ⟨b, rfl, h⟩
theorem ifs (h : tt σ H fun b H1 => if b = true then t ⟨n, rt, bk, ct⟩ σ H1 else u ⟨n, rt, bk, ct⟩ σ H1) : tIfS tt t u ⟨n, rt, bk, ct⟩ σ H := h
theorem ife (h : tt σ H fun b H1 => if b = true then ta σ H1 Q else tb σ H1 Q) : tIf tt ta tb σ H Q := h
theorem and {q : Bool → Hp → Prop} (h : tt σ H fun c H1 => if c = true then tv σ H1 q else q false H1) : tAnd tt tv σ H q := h
theorem or {q : Bool → Hp → Prop} (h : tt σ H fun c H1 => if c = true then q true H1 else tv σ H1 q) : tOr tt tv σ H q := h
theorem not {q : Bool → Hp → Prop} (h : tt σ H fun c H1 => q (!c) H1) : tNot tt σ H q := h
theorem andV (h : ta σ H fun x H1 => ∃ c, x = .bl c ∧ if c = true then tb σ H1 Q else Q (.bl false) H1) : tAndV ta tb σ H Q := h
theorem orV (h : ta σ H fun x H1 => ∃ c, x = .bl c ∧ if c = true then Q (.bl true) H1 else tb σ H1 Q) : tOrV ta tb σ H Q := h
theorem notV (h : ta σ H fun x H1 => ∃ c, x = .bl c ∧ Q (.bl (!c)) H1) : tNotV ta σ H Q := h
theorem chn {r r' : R2} {tc : TE} (h : ta σ H fun x H1 => tb σ H1 fun y H2 => r x y H2 fun z H3 => ∃ k, z = .bl k ∧ if k = true then tc σ H3 fun w H4 => r' y w H4 Q else Q (.bl false) H3) : tChain r r' ta tb tc σ H Q := h
theorem ret (h : te σ H rt) : tRet te ⟨n, rt, bk, ct⟩ σ H := h
theorem retN (h : rt .non H) : tRetN ⟨n, rt, bk, ct⟩ σ H := h
theorem drp (h : te σ H fun _ H1 => n σ H1) : tDrop te ⟨n, rt, bk, ct⟩ σ H := h
theorem cb {r : List V → Hp → VK → Prop} {tl : TA} (h : tl σ H fun vs H1 => r vs H1 Q) : tCB r tl σ H Q := h
theorem anil {q : List V → Hp → Prop} (h : q [] H) : tNil σ H q := h
theorem acons {tl : TA} {q : List V → Hp → Prop} (h : te σ H fun x H1 => tl σ H1 fun xs H2 => q (x :: xs) H2) : tCons te tl σ H q := h
theorem cal {sp : Sp} {E : XK} {tl : TA} (h : tl σ H fun vs H1 => sp vs H1 Q E) : tCall sp [] E tl σ H Q := by
  show tl σ H fun vs H1 => sp (vs ++ []) H1 Q E
  simp only [List.append_nil]; exact h
theorem tup {tl : TA} (h : tl σ H fun xs H1 => xs.length ≤ sizeLine ∧ ∀ p, H1 p = none → Q (.ref p) (upd H1 p (.tup xs))) : tTup tl σ H Q := h
theorem lst {tl : TA} (h : tl σ H fun xs H1 => xs.length ≤ sizeLine ∧ ∀ p, H1 p = none → Q (.ref p) (upd H1 p (.lst xs))) : tLst tl σ H Q := h
theorem par {i j : Nat} {tl : TA} (h : tl σ H fun vs H1 => ∃ v w, vs = [v, w] ∧ n ((σ.set i (some v)).set j (some w)) H1) : tPar i j tl ⟨n, rt, bk, ct⟩ σ H := h
theorem ex2 {v w : V} {q : V → V → Prop} (h : q v w) : ∃ a b, [v, w] = [a, b] ∧ q a b := ⟨v, w, rfl, h⟩
theorem aug {i : Nat} {ti : TIp} {x : V} (e : σ[i]? = some (some x)) (h : te σ H fun y H1 => ti x y H1 fun z H2 => n (σ.set i (some z)) H2) : tAug i te ti ⟨n, rt, bk, ct⟩ σ H := ⟨x, e, h⟩
theorem ipi {f : Int → Int → Int} {i j : Int} (q : Q (.int (f i j)) H) : ipI f (.int i) (.int j) H Q := ⟨i, j, rfl, rfl, q⟩
theorem addI {i j : Int} (q : Q (.int (i + j)) H) : rAdd (.int i) (.int j) H Q := ⟨i, j, rfl, rfl, q⟩
theorem ixL {p : Addr} {xs : List V} {i : Int} {v : V} (h : SqL K H p xs) (e : atI xs i = some v) (q : Q v H) : rIxL K (.ref p) (.int i) H Q := ⟨p, xs, i, v, rfl, rfl, h, e, q⟩
theorem ixT {p : Addr} {xs : List V} {i : Int} {v : V} (h : SqT K H p xs) (e : atI xs i = some v) (q : Q v H) : rIxT K (.ref p) (.int i) H Q := ⟨p, xs, i, v, rfl, rfl, h, e, q⟩
/-- an if over a decided thing -/
theorem itd {c A B : Prop} [Decidable c] (h1 : c → A) (h2 : ¬ c → B) : if decide c = true then A else B := by
  by_cases h : c
  · rw [decide_eq_true h, if_pos rfl]; exact h1 h
  · rw [decide_eq_false h, if_neg Bool.false_ne_true]; exact h2 h
theorem itn {c A B : Prop} [Decidable c] (h1 : ¬ c → A) (h2 : c → B) : if (!decide c) = true then A else B := by
  by_cases h : c
  · rw [decide_eq_true h]; exact iteF (h2 h)
  · rw [decide_eq_false h]; exact iteT (h1 h)
theorem it1 {c A B : Prop} [Decidable c] (hc : c) (h : A) : if decide c = true then A else B := itd (fun _ => h) fun z => absurd hc z
theorem it0 {c A B : Prop} [Decidable c] (hc : ¬ c) (h : B) : if decide c = true then A else B := itd (fun z => absurd z hc) fun _ => h
theorem in1 {c A B : Prop} [Decidable c] (hc : ¬ c) (h : A) : if (!decide c) = true then A else B := itn (fun _ => h) fun z => absurd z hc
theorem in0 {c A B : Prop} [Decidable c] (hc : c) (h : B) : if (!decide c) = true then A else B := itn (fun z => absurd hc z) fun _ => h
end
/-! ### heaps: all but S stands -/
def Keep (S : Addr → Prop) (H H' : Hp) : Prop := ∀ a o, H a = some o → ¬ S a → H' a = some o
section
variable {S : Addr → Prop} {H H1 H2 : Hp} {p q : Addr} {o u : HO}
theorem Keep.refl : Keep S H H := fun _ _ h _ => h
theorem Keep.trans (a : Keep S H H1) (b : Keep S H1 H2) : Keep S H H2 := fun x o h n => b x o (a x o h n) n
theorem Keep.new (h : H p = none) : Keep S H (upd H p o) := fun a u e _ => by rw [upd_ne (ne_of_none e h)]; exact e
theorem Keep.put (k : Keep S H H1) (h : H p = none) : Keep S H (upd H1 p o) := fun a u e n => by rw [upd_ne (ne_of_none e h)]; exact k a u e n
theorem Keep.at (k : Keep S H H1) (h : S p) : Keep S H (upd H1 p o) := fun a u e n => by rw [upd_ne (fun z => n (by rw [z]; exact h))]; exact k a u e n
theorem Keep.free (k : Keep S H H1) (h : H1 p = none) (n : ¬ S p) : H p = none := by
  cases e : H p with
  | none => rfl
  | some o => have z := k p o e n; rw [h] at z; cases z
theorem Keep.sq {K : PySem.W.Frag} {xs : List V} (k : Keep S H H1) (h : SqL K H p xs) (n : ¬ S p) : SqL K H1 p xs := by
  rcases h with (h | ⟨o, h⟩) | h
  · exact .inl (.inl (k _ _ h n))
  · exact .inl (.inr ⟨o, k _ _ h n⟩)
  · exact .inr h
theorem Keep.st {K : PySem.W.Frag} {xs : List V} (k : Keep S H H1) (h : SqT K H p xs) (n : ¬ S p) : SqT K H1 p xs := by
  rcases h with (h | ⟨o, h⟩) | h
  · exact .inl (.inl (k _ _ h n))
  · exact .inl (.inr ⟨o, k _ _ h n⟩)
  · exact .inr h
theorem sq {K : PySem.W.Frag} {xs : List V} (h : H p = some (.lst xs)) : SqL K H p xs := .inl (.inl h)
theorem st {K : PySem.W.Frag} {xs : List V} (h : H p = some (.tup xs)) : SqT K H p xs := .inl (.inl h)
end
end HS
theorem hu64 {A : PySem.Around} {k : Nat} (hr : L2.Room k A) : A.units + 64 < PySem.cLine := hr.units
namespace HS
open PySem PySem.Spec PyProof.Rows L2
section
variable {σ : L2.St} {H : Hp} {Q : VK} {te ta tb tx : TE} {K : PySem.W.Frag} {X : Cx}
theorem sz {n : Nat} (h : n ≤ 100000) : n < sizeLine := Nat.lt_of_le_of_lt h (by decide)
theorem szl {n : Nat} (h : n ≤ 100000) : n ≤ sizeLine := Nat.le_of_lt (sz h)
theorem pe_fold {e : Expr} {t : TE} (z : Int) (h : PE X e t) (k : ∀ (σ : L2.St) (H : Hp) (Q : VK), Q (.int z) H → t σ H Q) : PE X e (tC (.int z)) :=
  ⟨fun pins s σ H Q I q => h.run pins s σ H Q I (k σ H Q q)⟩
theorem ii {a b : Int} {q : Int → Int → Prop} (h : q a b) : ∃ i j, [V.int a, V.int b] = [V.int i, V.int j] ∧ q i j := ⟨a, b, rfl, h⟩
theorem bmL {r : V → List V → Hp → VK → Prop} {tl : TA} (h : ta σ H fun x H1 => tyV K "list" x H1 ∧ tl σ H1 fun xs H2 => r x xs H2 Q) : tBM K "list" r ta tl σ H Q := h
theorem bmL0 {r : V → List V → Hp → VK → Prop} (h : ta σ H fun x H1 => tyV K "list" x H1 ∧ r x [] H1 Q) : tBM0 K "list" r ta σ H Q := h
theorem tyL {p : Addr} {xs : List V} {A : Prop} (h : H p = some (.lst xs)) (q : A) : tyV K "list" (.ref p) H ∧ A := ⟨.inl ⟨rfl, _, .inl (.inl h)⟩, q⟩
theorem app {l : Addr} {xs : List V} {y : V} (h : H l = some (.lst xs)) (q : xs.length < sizeLine ∧ Q .non (upd H l (.lst (xs ++ [y])))) : rAppend (.ref l) [y] H Q := ⟨l, xs, y, rfl, rfl, h, q⟩
theorem pop0 {l : Addr} {y : V} {ys : List V} (h : H l = some (.lst (y :: ys))) (q : Q y (upd H l (.lst ys))) : rPopAt (.ref l) [.int 0] H Q := ⟨l, y :: ys, 0, 0, y, rfl, rfl, h, by decide, by decide, by simp [seqIndex?], rfl, q⟩
theorem setL {p : Addr} {xs : List V} {k : Int} {j : Nat} {v : V} {q : Hp → Prop} (h : H p = some (.lst xs)) (e : ixN xs.length k = some j) (g : q (upd H p (.lst (xs.set j v)))) : rSetL (.ref p) (.int k) v H q := ⟨p, xs, _, j, rfl, rfl, h, e, g⟩
theorem mulW {i j : Int} (a b : Nat) (h0 : 0 ≤ i) (h1 : i < 2 ^ a) (g0 : 0 ≤ j) (g1 : j < 2 ^ b) (ha : 0 < a) (hb : 0 < b) (h : a + b ≤ 1000000) : CMulW i j := by
  refine wide_mul (a := a) (b := b) ?_ ?_ ha hb h
  · have : ((i.natAbs : Nat) : Int) < ((2 ^ a : Nat) : Int) := by rw [Int.natAbs_of_nonneg h0]; simpa using h1
    exact Int.ofNat_lt.mp this
  · have : ((j.natAbs : Nat) : Int) < ((2 ^ b : Nat) : Int) := by rw [Int.natAbs_of_nonneg g0]; simpa using g1
    exact Int.ofNat_lt.mp this
theorem divW {i j : Int} (b : Nat) (h : 0 < j) (h1 : j < 2 ^ b) (hb : 0 < b) (h9 : b ≤ 9000) : CDivW i j := by
  refine wide_div (b := b) h ?_ hb h9
  have : ((j.natAbs : Nat) : Int) < ((2 ^ b : Nat) : Int) := by rw [Int.natAbs_of_nonneg (by omega)]; simpa using h1
  exact Int.ofNat_lt.mp this
theorem get_int {ns : List Int} {i : Nat} {x : V} (hi : (ns.map V.int)[i]? = some x) : ∃ z, x = .int z ∧ ns[i]? = some z ∧ i < ns.length := by
  rw [List.getElem?_map] at hi
  cases e : ns[i]? with
  | none => rw [e] at hi; cases hi
  | some z => rw [e] at hi; exact ⟨z, (Option.some.inj hi).symm, rfl, (List.getElem?_eq_some_iff.mp e).1⟩
end
end HS
namespace HS
open PySem PySem.Spec PyProof.Rows L2
theorem Keep.new' {S : Addr → Prop} {H H0 H1 : Hp} {p : Addr} {o : HO} (h : H0 p = none) (k0 : Keep S H H0) (n : ¬ S p) (k : Keep S H H1) : Keep S H (upd H1 p o) := k.put (k0.free h n)
theorem nS2 {p a b : Addr} (h1 : p ≠ a) (h2 : p ≠ b) : ¬ (p = a ∨ p = b) := fun z => z.elim h1 h2
theorem nS3 {p a b c : Addr} (h1 : p ≠ a) (h2 : p ≠ b) (h3 : p ≠ c) : ¬ (p = a ∨ p = b ∨ p = c) := fun z => z.elim h1 fun z => z.elim h2 h3
end HS
namespace HS
open PySem PySem.Spec PyProof.Rows L2
section
variable {σ : L2.St} {H : Hp} {t u : TS} {n bk ct : L2.St → Hp → Prop} {rt : VK}
theorem pnx (h : n σ H) : Ends.nx ⟨n, rt, bk, ct⟩ σ H := h
theorem pbk (h : bk σ H) : Ends.bk ⟨n, rt, bk, ct⟩ σ H := h
theorem pct (h : ct σ H) : Ends.ct ⟨n, rt, bk, ct⟩ σ H := h
theorem prt {v : V} (h : rt v H) : Ends.rt ⟨n, rt, bk, ct⟩ v H := h
theorem cut (M : L2.St → Hp → Prop) (h : t ⟨M, rt, bk, ct⟩ σ H) (k : ∀ σ' H', M σ' H' → u ⟨n, rt, bk, ct⟩ σ' H') : Evl.tCut t u ⟨n, rt, bk, ct⟩ σ H := ⟨M, h, k⟩
theorem pow_lt {i : Int} {a : Nat} (k : Nat) (h0 : 0 ≤ i) (h : i < 2 ^ a) : 0 ≤ i ^ k ∧ (i ^ k < 2 ^ (a * k) ∨ k = 0) := by
  refine ⟨Int.pow_nonneg h0, ?_⟩
  cases k with
  | zero => exact .inr rfl
  | succ k =>
    refine .inl ?_
    obtain ⟨m, rfl⟩ := Int.eq_ofNat_of_zero_le h0
    have h' : m < 2 ^ a := by have : ((m : Nat) : Int) < ((2 ^ a : Nat) : Int) := by simpa using h
                              exact Int.ofNat_lt.mp this
    have := Nat.pow_lt_pow_left h' (Nat.succ_ne_zero k)
    rw [← Nat.pow_mul] at this
    have z : ((m ^ (k + 1) : Nat) : Int) < ((2 ^ (a * (k + 1)) : Nat) : Int) := Int.ofNat_lt.mpr this
    simpa using z
end
end HS
namespace HS
open PySem PySem.Spec PyProof.Rows L2
section
variable {σ : L2.St} {H : Hp} {Q : VK} {ta tb te : TE} {K : PySem.W.Frag}
theorem szc {n : Nat} {A : Prop} (h : n ≤ 100000) (q : A) : n ≤ sizeLine ∧ A := ⟨szl h, q⟩
theorem szd {n : Nat} {A : Prop} (h : n ≤ 100000) (q : A) : n < sizeLine ∧ A := ⟨sz h, q⟩
theorem wp {σ1 σ2 : L2.St} {vs : List Nat} {A : Prop} (e : wipe σ2 vs = wipe σ1 vs) (q : A) : wipe σ2 vs = wipe σ1 vs ∧ A := ⟨e, q⟩
theorem yes {q : Bool → Hp → Prop} (h : q true H) : tYes σ H q := h
theorem ixI {p : Addr} {i : Int} (ns : List Int) (h : SqL K H p (ns.map V.int)) (h0 : 0 ≤ i) (h1 : i < ns.length) (q : ∀ z, ns[i.toNat]? = some z → z ∈ ns → Q (.int z) H) : rIxL K (.ref p) (.int i) H Q := by
  have hi : i.toNat < ns.length := by omega
  have e : ns[i.toNat]? = some ns[i.toNat] := List.getElem?_eq_getElem hi
  refine ⟨p, ns.map V.int, i, .int ns[i.toNat], rfl, rfl, h, ?_, q _ e (List.getElem_mem hi)⟩
  exact at_of (j := i.toNat) (by omega) (by rw [List.getElem?_map, e]; rfl)
theorem ixV {p : Addr} {i : Int} {xs : List V} (h : SqL K H p xs) (h0 : 0 ≤ i) (h1 : i < xs.length) (q : ∀ v, xs[i.toNat]? = some v → v ∈ xs → Q v H) : rIxL K (.ref p) (.int i) H Q := by
  have hi : i.toNat < xs.length := by omega
  have e : xs[i.toNat]? = some xs[i.toNat] := List.getElem?_eq_getElem hi
  refine ⟨p, xs, i, xs[i.toNat], rfl, rfl, h, ?_, q _ e (List.getElem_mem hi)⟩
  exact at_of (j := i.toNat) (by omega) e
theorem ixVT {p : Addr} {i : Int} {xs : List V} (h : SqT K H p xs) (h0 : 0 ≤ i) (h1 : i < xs.length) (q : ∀ v, xs[i.toNat]? = some v → v ∈ xs → Q v H) : rIxT K (.ref p) (.int i) H Q := by
  have hi : i.toNat < xs.length := by omega
  have e : xs[i.toNat]? = some xs[i.toNat] := List.getElem?_eq_getElem hi
  refine ⟨p, xs, i, xs[i.toNat], rfl, rfl, h, ?_, q _ e (List.getElem_mem hi)⟩
  exact at_of (j := i.toNat) (by omega) e
theorem lc {wi : TI} {g : TG} {tt : TT} {vs : List Nat} (h : wi σ H fun J H1 => ∀ D, H1 D = none → ∃ W : Nat → Nat → Hp → Prop, (∃ m, W 0 m (upd H1 D (.lst []))) ∧ ∀ i m H, W i m H → (J.stop i H ∧ Q (.ref D) H) ∨ (J.go i H ∧ ∃ Nx : Hp → Prop, (∀ H', Nx H' → ∃ m', m' < m ∧ W (i + 1) m' H') ∧ ∀ x H', J.yld i H x H' → g x (wipe σ vs) H' fun σ2 H2 => wipe σ2 vs = wipe σ vs ∧ tt σ2 H2 fun b H3 => if b = true then te σ2 H3 fun y H4 => ∃ acc, H4 D = some (.lst acc) ∧ acc.length < sizeLine ∧ Nx (upd H4 D (.lst (acc ++ [y]))) else Nx H3)) : tLc wi g tt te vs σ H Q := h
theorem rng1 {tl : TA} {R : It → Hp → Prop} (h : tl σ H fun vs H1 => ∃ j : Int, vs = [.int j] ∧ -(2 ^ 62) ≤ j ∧ j < 2 ^ 62 ∧ R (Itr 0 j.toNat) H1) : iRng1 tl σ H R := h
theorem rng2 {tl : TA} {R : It → Hp → Prop} (h : tl σ H fun vs H1 => ∃ i j : Int, vs = [.int i, .int j] ∧ (-(2 ^ 62) ≤ i ∧ i < 2 ^ 62 ∧ -(2 ^ 62) ≤ j ∧ j < 2 ^ 62) ∧ R (Itr i (j - i).toNat) H1) : iRng2 tl σ H R := h
theorem lis {tl : TE} {R : It → Hp → Prop} (h : tl σ H fun x H1 => ∃ a, x = .ref a ∧ (∃ xs, SqL K H1 a xs) ∧ R (Itl K a) H1) : iList K tl σ H R := h
theorem ra {a : Addr} {q : Addr → Prop} (h : q a) : ∃ b, V.ref a = V.ref b ∧ q b := ⟨a, rfl, h⟩
theorem i1e {a : Int} {q : Int → Prop} (h : q a) : ∃ i, [V.int a] = [V.int i] ∧ q i := ⟨a, rfl, h⟩
theorem fr {wi : TI} {g : TG} {tb : TS} {D : Ends} (h : wi σ H fun J H1 => ∃ W : Nat → Nat → L2.St → Hp → Prop, (∃ m, W 0 m σ H1) ∧ ∀ i m σ H, W i m σ H →
    (J.stop i H ∧ D.nx σ H) ∨ (J.go i H ∧ ∃ N : L2.St → Hp → Prop, (∀ σ' H', N σ' H' → ∃ m', m' < m ∧ W (i + 1) m' σ' H') ∧ ∀ x H', J.yld i H x H' → g x σ H' fun σ2 H2 => tb { D with nx := N, ct := N, bk := D.nx } σ2 H2)) : tFor wi g tb D σ H := h
end
end HS
namespace HS
open PySem PySem.Spec PyProof.Rows L2
theorem iteM {c : Bool} {ta tb : TE} {σ : L2.St} {H1 : Hp} {Q : VK} (M : VK) (h : c = true → ∀ Q' : VK, (∀ v H', M v H' → Q' v H') → ta σ H1 Q') (g : c = false → ∀ Q' : VK, (∀ v H', M v H' → Q' v H') → tb σ H1 Q') (k : ∀ v H', M v H' → Q v H') :
    if c = true then ta σ H1 Q else tb σ H1 Q := by
  cases c with
  | true => rw [if_pos rfl]; exact h rfl Q k
  | false => rw [if_neg Bool.false_ne_true]; exact g rfl Q k
/-- ceilings -/
theorem ceil_eq {i j : Int} (hj : 1 ≤ j) : (i + j - 1) / j = i / j + (if 0 < i % j then 1 else 0) := by
  have h0 := Int.emod_nonneg i (by omega : j ≠ 0)
  have h1 := Int.emod_lt_of_pos i (by omega : 0 < j)
  have e := Int.mul_ediv_add_emod i j
  generalize i / j = q at e ⊢
  generalize i % j = r at e h0 h1 ⊢
  subst e
  split
  · rename_i h
    rw [show j * q + r + j - 1 = (r - 1) + j * (q + 1) by rw [Int.mul_add]; omega, Int.add_mul_ediv_left _ _ (by omega), Int.ediv_eq_zero_of_lt (by omega) (by omega)]
    omega
  · rename_i h
    rw [show j * q + r + j - 1 = (j - 1) + j * q by omega, Int.add_mul_ediv_left _ _ (by omega), Int.ediv_eq_zero_of_lt (by omega) (by omega)]
    omega
end HS
namespace HS
open PySem PySem.Spec PyProof.Rows L2
section
variable {σ : L2.St} {H : Hp} {te : TE} {t : TS} {tg ug : TGn} {n bk ct : List V → L2.St → Hp → Prop} {rt : List V → VK} {ys : List V} {Q : VK}
theorem gthen (h : tg ⟨fun ys' σ' H' => ug ⟨n, rt, bk, ct⟩ ys' σ' H', rt, bk, ct⟩ ys σ H) : tGThen tg ug ⟨n, rt, bk, ct⟩ ys σ H := h
theorem g0 (h : n ys σ H) : tG0 ⟨n, rt, bk, ct⟩ ys σ H := h
theorem gpl (h : t ⟨n ys, rt ys, bk ys, ct ys⟩ σ H) : tPlain t ⟨n, rt, bk, ct⟩ ys σ H := h
theorem gyl (h : ys.length < sizeLine ∧ te σ H fun x H1 => n (ys ++ [x]) σ H1) : tGYield te ⟨n, rt, bk, ct⟩ ys σ H := h
theorem lgn {tg : TGen} (h : tg σ H fun out H2 => ∀ p, H2 p = none → Q (.ref p) (upd H2 p (.lst out))) : tListG tg σ H Q := h
theorem calg {sp : SpG} {E : XK} {tl : TA} {q : List V → Hp → Prop} (h : tl σ H fun vs H1 => sp vs H1 q E) : tCallG sp [] E tl σ H q := by
  show tl σ H fun vs H1 => sp (vs ++ []) H1 q E
  simp only [List.append_nil]; exact h
end
end HS
namespace HS
open PySem PySem.Spec PyProof.Rows L2
section
variable {H : Hp} {Q : VK} {K : PySem.W.Frag}
theorem ixZ {p : Addr} {i z : Int} {ns : List Int} (h : SqL K H p (ns.map V.int)) (h0 : 0 ≤ i) (e : ns[i.toNat]? = some z) (q : Q (.int z) H) : rIxL K (.ref p) (.int i) H Q :=
  ⟨p, ns.map V.int, i, .int z, rfl, rfl, h, at_of (j := i.toNat) (by omega) (by rw [List.getElem?_map, e]; rfl), q⟩
theorem cut_to (xs : List V) (n : Nat) : cutV xs none (some (n : Int)) = xs.take n := by
  unfold cutV
  rw [HT.sIx_none, HT.sIx_nat, List.drop_zero, Nat.sub_zero]
  rw [List.take_eq_take_iff]
  omega
theorem cut_from (xs : List V) (n : Nat) : cutV xs (some (n : Int)) none = xs.drop n := by
  unfold cutV
  rw [HT.sIx_none, HT.sIx_nat]
  rw [List.take_of_length_le (by rw [List.length_drop]; omega)]
  by_cases h : n ≤ xs.length
  · rw [Nat.min_eq_left h]
  · rw [Nat.min_eq_right (by omega), List.drop_eq_nil_of_le (Nat.le_refl _), List.drop_eq_nil_of_le (by omega)]
end
end HS
namespace HS
open PySem PySem.Spec PyProof.Rows L2
theorem Keep.any {S : Addr → Prop} {H H1 : Hp} (k : Keep (fun _ => False) H H1) : Keep S H H1 := fun a o e _ => k a o e id
theorem Keep.mono {S T : Addr → Prop} {H H1 : Hp} (k : Keep S H H1) (h : ∀ a, S a → T a) : Keep T H H1 := fun a o e n => k a o e fun z => n (h a z)
end HS
namespace HS
open PySem PySem.Spec PyProof.Rows L2
theorem cut_toI {i : Int} (ls : List Int) (h : 0 ≤ i) : cutV (ls.map V.int) none (some i) = (ls.take i.toNat).map V.int := by
  obtain ⟨n, rfl⟩ := Int.eq_ofNat_of_zero_le h
  rw [cut_to, List.map_take]; simp
theorem cut_fromI {i : Int} (ls : List Int) (h : 0 ≤ i) : cutV (ls.map V.int) (some i) none = (ls.drop i.toNat).map V.int := by
  obtain ⟨n, rfl⟩ := Int.eq_ofNat_of_zero_le h
  rw [cut_from, List.map_drop]; simp
end HS
namespace HS
theorem ifT {c : Bool} {A B : Prop} (e : c = true) (h : A) : if c = true then A else B := by rw [if_pos e]; exact h
theorem ifF {c : Bool} {A B : Prop} (e : c = false) (h : B) : if c = true then A else B := by rw [if_neg (by rw [e]; exact Bool.false_ne_true)]; exact h
end HS
namespace HS
open PySem PySem.Spec PyProof.Rows L2
/-- a new object behind what stands -/
theorem Keep.nw {H H1 : Hp} {p : Addr} {o : HO} (k : Keep (fun _ => False) H H1) (h : H1 p = none) : Keep (fun _ => False) H (upd H1 p o) := k.put (k.free h id)
theorem Keep.nwS {S : Addr → Prop} {H H1 : Hp} {p : Addr} {o : HO} (k : Keep S H H1) (h : H1 p = none) (n : ¬ S p) : Keep S H (upd H1 p o) := k.put (k.free h n)
end HS
namespace HS
theorem nt {A B : Prop} (h : B) : if (!true) = true then A else B := by rw [if_neg (show ¬ ((!true) = true) from Bool.false_ne_true)]; exact h
theorem nf {A B : Prop} (h : A) : if (!false) = true then A else B := by rw [if_pos (show (!false) = true from rfl)]; exact h
end HS
namespace HS
open PySem PySem.Spec PyProof.Rows L2
section
variable {H H' : Hp} {p x : Addr} {o u : HO}
theorem upgs (e : upd H p o = H') : H' p = some o := by rw [← e]; exact upd_same
theorem upgK (e : upd H p o = H') (h : H p = none) : Keep (fun _ => False) H H' := by rw [← e]; exact Keep.new h
end
end HS
/-! Data of ints, lists and tuples, and == of such. -/
namespace HS
open PySem PySem.Spec PyProof.Rows L2
def dInts (ns : List Int) : PyData := .list (ns.map .int)
section
variable {K : PySem.W.Frag} {H : Hp}
theorem dpAll_ints : ∀ ns : List Int, DpAll K H (ns.map V.int) (ns.map .int)
  | [] => .nil
  | n :: r => .cons (.int n) (dpAll_ints r)
theorem dp_ints {a : Addr} {ns : List Int} (h : SqL K H a (ns.map V.int)) : Dp K H (.ref a) (dInts ns) := .lst h (dpAll_ints ns)
theorem lay_ints : ∀ ns : List Int, PyData.canLayAll0 (ns.map .int) = true
  | [] => rfl
  | n :: r => by rw [List.map_cons, PyData.canLayAll0, lay_ints r]; rfl
theorem dep_ints : ∀ ns : List Int, PyData.depthAll (ns.map .int) = 0
  | [] => rfl
  | n :: r => by rw [List.map_cons, PyData.depthAll, dep_ints r]; rfl
theorem sh_ints (ns : List Int) : SeqAt.shaped (dInts ns) = true := by
  unfold SeqAt.shaped dInts
  rw [PyData.canLay0, PyData.depth, lay_ints, dep_ints]; rfl
theorem eqv_int (i j : Int) : PyData.eqv (.int i) (.int j) = decide (i = j) := by
  rw [PyData.eqv]; exact Bool.beq_eq_decide_eq i j
theorem eqvAll_ints : ∀ xs ys : List Int, PyData.eqvAll (xs.map .int) (ys.map .int) = decide (xs = ys)
  | [], [] => rfl
  | [], y :: ys => rfl
  | x :: xs, [] => rfl
  | x :: xs, y :: ys => by
    rw [List.map_cons, List.map_cons, PyData.eqvAll, eqv_int, eqvAll_ints xs ys]
    by_cases h : x = y <;> by_cases g : xs = ys <;> simp [h, g]
theorem eqv_ints (xs ys : List Int) : PyData.eqv (dInts xs) (dInts ys) = decide (xs = ys) := by
  unfold dInts; rw [PyData.eqv]; exact eqvAll_ints xs ys
/-- == and != of two lists of ints -/
theorem eqL {a b : Addr} {xs ys : List Int} {Q : VK} (h1 : SqL K H a (xs.map V.int)) (h2 : SqL K H b (ys.map V.int)) (q : Q (.bl (decide (xs = ys))) H) : rEqD K (.ref a) (.ref b) H Q :=
  ⟨_, _, dp_ints h1, dp_ints h2, sh_ints _, sh_ints _, by rw [eqv_ints]; exact q⟩
theorem neL {a b : Addr} {xs ys : List Int} {Q : VK} (h1 : SqL K H a (xs.map V.int)) (h2 : SqL K H b (ys.map V.int)) (q : Q (.bl (!decide (xs = ys))) H) : rNeD K (.ref a) (.ref b) H Q :=
  ⟨_, _, dp_ints h1, dp_ints h2, sh_ints _, sh_ints _, by rw [eqv_ints]; exact q⟩
end
end HS
/-! Rules told with the written part K by its own letter. -/
namespace HS
open PySem PySem.Spec PyProof.Rows L2
section
variable {X : Cx} (K : PySem.W.Frag)
theorem ixl (h : X.K = K := by rfl) : IxR X (rIxL K) := h ▸ ix_list
theorem ixt (h : X.K = K := by rfl) : IxR X (rIxT K) := h ▸ ix_tup
theorem sll (h : X.K = K := by rfl) : SlR X (rSlL K) := h ▸ sl_list
theorem slt (h : X.K = K := by rfl) : SlR X (rSlT K) := h ▸ sl_tup
theorem kbm {E : Expr} {T : String} {r : V → List V → Hp → VK → Prop} {to : TE} {t : TA} (p : PE X E (tBM X.K T r to t)) (h : X.K = K := by rfl) : PE X E (tBM K T r to t) := h ▸ p
theorem kbm0 {E : Expr} {T : String} {r : V → List V → Hp → VK → Prop} {to : TE} (p : PE X E (tBM0 X.K T r to)) (h : X.K = K := by rfl) : PE X E (tBM0 K T r to) := h ▸ p
theorem kil {tg l : Expr} {tl : TE} (p : PI X tg l (iList X.K tl)) (h : X.K = K := by rfl) : PI X tg l (iList K tl) := h ▸ p
theorem kit {tg l : Expr} {tl : TE} (p : PI X tg l (iTup X.K tl)) (h : X.K = K := by rfl) : PI X tg l (iTup K tl) := h ▸ p
theorem kien {tg l : Expr} {tl : TA} (p : PI X tg l (iEnum X.K tl)) (h : X.K = K := by rfl) : PI X tg l (iEnum K tl) := h ▸ p
theorem kgt {tg : Expr} {n : Nat} {t : TGs} (p : PG X tg (gTup X.K n t)) (h : X.K = K := by rfl) : PG X tg (gTup K n t) := h ▸ p
theorem keq (hu : X.A.units + 64 < cLine) (h : X.K = K := by rfl) : OpR X (compareOp .Eq) (rEqD K) := h ▸ op_eqD hu
theorem kne (hu : X.A.units + 64 < cLine) (h : X.K = K := by rfl) : OpR X (compareOp .NotEq) (rNeD K) := h ▸ op_neD hu
theorem kin (h : X.K = K := by rfl) : OpR X (compareOp .In) (rIn K false) := h ▸ op_in_seq
theorem knin (h : X.K = K := by rfl) : OpR X (compareOp .NotIn) (rIn K true) := h ▸ op_notIn_seq
theorem kcatT (h : X.K = K := by rfl) : OpR X (binaryOp .Add) (rCatT K) := h ▸ op_catT
def rLen : List V → Hp → VK → Prop := fun xs H Q => ∃ p ys, xs = [.ref p] ∧ (SqL K H p ys ∨ SqT K H p ys) ∧ Q (.int ys.length) H
def rLst : List V → Hp → VK → Prop := fun xs H Q => ∃ p ys, xs = [.ref p] ∧ (SqL K H p ys ∨ SqT K H p ys) ∧ ∀ l, H l = none → Q (.ref l) (upd H l (.lst ys))
theorem klen (h : X.K = K := by rfl) : CallR X (.builtin "len") (rLen K) := h ▸ call_len_seq
theorem klst (h : X.K = K := by rfl) : CallR X (.type "list") (rLst K) := h ▸ call_list_of
theorem ksum (hc : X.calm = true) (h : X.K = K := by rfl) : CallR X (.builtin "sum") (rSum K) := h ▸ cr_sum hc
theorem kmax (hc : X.calm = true) (h : X.K = K := by rfl) : CallR X (.builtin "max") (rMax K) := h ▸ cr_max hc
theorem kmin (hc : X.calm = true) (h : X.K = K := by rfl) : CallR X (.builtin "min") (rMin K) := h ▸ cr_min hc
theorem krev {E : Expr} {te : TE} (p : PE X E (tRevL X.K te)) (h : X.K = K := by rfl) : PE X E (tRevL K te) := h ▸ p
/-- the names of a block within a block -/
def relab (scO sc : Scope) : Scope := { scO with names := scO.names.map fun (n, k) => if (k == .free && sc.kind == .function && sc.names.lookup n == some .cell) then (n, .cell) else (n, k) }
/-- a list comprehension within a comprehension's block -/
theorem pe_lcIn {X : Cx} {s0 : Shared} {H0 : Hp} {C0 : Addr} {cl0 : List (Str × Addr)} {fp0 : List Addr} {scO : Scope} {elt tg iter : Expr} {ifs : List Expr} {scope : Scope} {own : List (Str × Nat)} {pos : Pos} {wi : TI} {g : TG} {tt : TT} {te : TE} (hc : X.calm = true) (hN : X.N.Nodup) (hi : PI (X.blk s0 H0 scO (compEnvC scO cl0 C0 X.env) fp0) tg iter wi) (sc : Scope) (hsc : X.env.scope = sc) (ok : BlkOk X.N (relab scO sc) scope own)
    (hg : ∀ (s : Shared) (H : Hp) (C : Addr) (cl : List (Str × Addr)) (fp : List Addr), PG ((X.blk s0 H0 scO (compEnvC scO cl0 C0 X.env) fp0).blk s H scope (compEnvC scope cl C (compEnvC scO cl0 C0 X.env)) fp) tg g) (ht : ∀ (s : Shared) (H : Hp) (C : Addr) (cl : List (Str × Addr)) (fp : List Addr), PTs ((X.blk s0 H0 scO (compEnvC scO cl0 C0 X.env) fp0).blk s H scope (compEnvC scope cl C (compEnvC scO cl0 C0 X.env)) fp) ifs tt)
    (he : ∀ (s : Shared) (H : Hp) (C : Addr) (cl : List (Str × Addr)) (fp : List Addr), PE ((X.blk s0 H0 scO (compEnvC scO cl0 C0 X.env) fp0).blk s H scope (compEnvC scope cl C (compEnvC scO cl0 C0 X.env)) fp) elt te) (hs : ∀ x, foldedSetIterable iter (compEnvC scO cl0 C0 X.env) x = pure x := by intro _; rfl) :
    PE (X.blk s0 H0 scO (compEnvC scO cl0 C0 X.env) fp0) (.ListComp elt [⟨tg, iter, ifs, 0⟩] scope pos) (tLc wi g tt te (own.map (·.2))) :=
  by subst hsc; exact pe_lc (X := X.blk s0 H0 scO (compEnvC scO cl0 C0 X.env) fp0) hc hN hi ok hg ht he hs
end
section
variable {σ : L2.St} {H : Hp} {Q : VK} {te : TE} {K : PySem.W.Frag}
theorem lenL {p : Addr} {ys : List V} (h : SqL K H p ys) (q : Q (.int ys.length) H) : rLen K [.ref p] H Q := ⟨p, ys, rfl, .inl h, q⟩
theorem lenT {p : Addr} {ys : List V} (h : SqT K H p ys) (q : Q (.int ys.length) H) : rLen K [.ref p] H Q := ⟨p, ys, rfl, .inr h, q⟩
theorem sumL {p : Addr} {ns : List Int} (h : SqL K H p (ns.map V.int)) (q : Q (.int ns.sum) H) : rSum K [.ref p] H Q := ⟨p, ns, rfl, h, q⟩
theorem revL (h : te σ H fun x H1 => ∃ a xs, x = .ref a ∧ SqL K H1 a xs ∧ ∀ p, H1 p = none → Q (.ref p) (upd H1 p (.lst xs.reverse))) : tRevL K te σ H Q := h
theorem sl {r : V → Option Int → Option Int → Hp → VK → Prop} {tl th : TO} (h : te σ H fun x H1 => tl σ H1 fun l H2 => th σ H2 fun u H3 => r x l u H3 Q) : tSl r te tl th σ H Q := h
theorem noP {q : Option Int → Hp → Prop} (h : q none H) : tNoPart σ H q := h
theorem part {q : Option Int → Hp → Prop} (h : te σ H fun x H1 => ∃ i, x = .int i ∧ q (some i) H1) : tPart te σ H q := h
theorem ie {a : Int} {q : Int → Prop} (h : q a) : ∃ i, V.int a = V.int i ∧ q i := ⟨a, rfl, h⟩
theorem slLs {p : Addr} {xs : List V} {lo hi : Option Int} (h : SqL K H p xs) (q : ∀ p, H p = none → Q (.ref p) (upd H p (.lst (cutV xs lo hi)))) : rSlL K (.ref p) lo hi H Q := ⟨p, xs, rfl, h, q⟩
theorem gtup {n : Nat} {t : TGs} {a : Addr} {xs : List V} {q : L2.St → Hp → Prop} (h : SqT K H a xs) (e : xs.length = n) (k : t xs σ H q) : gTup K n t (.ref a) σ H q := ⟨a, xs, rfl, h, e, k⟩
theorem gcons {t : TG} {u : TGs} {v : V} {r : List V} {q : L2.St → Hp → Prop} (h : t v σ H fun σ' H' => u r σ' H' q) : gCons t u (v :: r) σ H q := ⟨v, r, rfl, h⟩
theorem gnil {q : L2.St → Hp → Prop} (h : q σ H) : gNil [] σ H q := ⟨rfl, h⟩
theorem itup {R : It → Hp → Prop} (h : te σ H fun x H1 => ∃ a, x = .ref a ∧ (∃ xs, SqT K H1 a xs) ∧ R (Itt K a) H1) : iTup K te σ H R := h
theorem ienu {tl : TA} {R : It → Hp → Prop} (h : tl σ H fun vs H1 => ∃ a xs, vs = [.ref a] ∧ SqL K H1 a xs ∧ R (Ite K a) H1) : iEnum K tl σ H R := h
theorem cat {l b : Addr} {xs zs : List V} (h1 : H l = some (.lst xs)) (h2 : H b = some (.lst zs)) (q : xs.length + zs.length ≤ sizeLine ∧ ∀ p, H p = none → Q (.ref p) (upd H p (.lst (xs ++ zs)))) : rCat (.ref l) (.ref b) H Q := ⟨l, b, xs, zs, rfl, rfl, h1, h2, q⟩
theorem ext {l b : Addr} {xs zs : List V} (h1 : H l = some (.lst xs)) (h2 : H b = some (.lst zs)) (q : xs.length + zs.length ≤ sizeLine ∧ Q .non (upd H l (.lst (xs ++ zs)))) : rExtend (.ref l) [.ref b] H Q := ⟨l, b, xs, zs, rfl, rfl, h1, h2, q⟩
end
end HS
/-! Lists of new pairs of ints, and == of such; ranges by steps. -/
namespace HS
open PySem PySem.Spec PyProof.Rows L2
/-- the refs of vs are tuples of these pairs -/
def Prs (H : Hp) : List V → List (Int × Int) → Prop
  | [], [] => True
  | v :: vs, p :: ps => (∃ t, v = .ref t ∧ H t = some (.tup [.int p.1, .int p.2])) ∧ Prs H vs ps
  | _, _ => False
theorem Prs.keep {S : Addr → Prop} {H H' : Hp} (k : Keep S H H') : ∀ {vs : List V} {ps : List (Int × Int)}, Prs H vs ps → (∀ v ∈ vs, ∀ t, v = .ref t → ¬ S t) → Prs H' vs ps
  | [], [], h, _ => h
  | _ :: _, _ :: _, ⟨⟨t, e, o⟩, h⟩, n => ⟨⟨t, e, k t _ o (n _ List.mem_cons_self t e)⟩, h.keep k fun v hv => n v (List.mem_cons_of_mem _ hv)⟩
theorem Prs.app {H : Hp} : ∀ {vs ws : List V} {ps qs : List (Int × Int)}, Prs H vs ps → Prs H ws qs → Prs H (vs ++ ws) (ps ++ qs)
  | [], _, [], _, _, g => g
  | _ :: _, _, _ :: _, _, ⟨a, h⟩, g => ⟨a, h.app g⟩
theorem Prs.len {H : Hp} : ∀ {vs : List V} {ps : List (Int × Int)}, Prs H vs ps → vs.length = ps.length
  | [], [], _ => rfl
  | _ :: _, _ :: _, ⟨_, h⟩ => by rw [List.length_cons, List.length_cons, h.len]
def dPr (p : Int × Int) : PyData := .tuple [.int p.1, .int p.2]
def dPrs (ps : List (Int × Int)) : PyData := .list (ps.map dPr)
section
variable {K : PySem.W.Frag} {H : Hp}
theorem dpAll_prs : ∀ {vs : List V} {ps : List (Int × Int)}, Prs H vs ps → DpAll K H vs (ps.map dPr)
  | [], [], _ => .nil
  | _ :: _, p :: _, ⟨⟨t, e, o⟩, h⟩ => .cons (by rw [e]; exact .tup (st o) (.cons (.int p.1) (.cons (.int p.2) .nil))) (dpAll_prs h)
theorem lay_prs : ∀ ps : List (Int × Int), PyData.canLayAll0 (ps.map dPr) = true
  | [] => rfl
  | p :: r => by rw [List.map_cons, PyData.canLayAll0, lay_prs r]; rfl
theorem dep_prs : ∀ ps : List (Int × Int), PyData.depthAll (ps.map dPr) ≤ 2
  | [] => by simp [PyData.depthAll]
  | p :: r => by
    have h := dep_prs r
    have h2 : (dPr p).depth ≤ 2 := by simp [dPr, PyData.depth, PyData.depthAll]
    rw [List.map_cons, PyData.depthAll]; omega
theorem sh_prs (ps : List (Int × Int)) : SeqAt.shaped (dPrs ps) = true := by
  have h1 := dep_prs ps
  have h2 : PyData.depth (dPrs ps) ≤ 64 := by unfold dPrs; rw [PyData.depth]; omega
  show (PyData.canLay0 (dPrs ps) && decide (PyData.depth (dPrs ps) ≤ 64)) = true
  rw [Bool.and_eq_true]
  exact ⟨by unfold dPrs; rw [PyData.canLay0]; exact lay_prs ps, decide_eq_true h2⟩
theorem eqv_pr (p q : Int × Int) : PyData.eqv (dPr p) (dPr q) = decide (p = q) := by
  unfold dPr
  rw [PyData.eqv, PyData.eqvAll, PyData.eqvAll, PyData.eqvAll, eqv_int, eqv_int]
  obtain ⟨a, b⟩ := p
  obtain ⟨c, d⟩ := q
  by_cases h : a = c <;> by_cases g : b = d <;> simp [h, g]
theorem eqvAll_prs : ∀ xs ys : List (Int × Int), PyData.eqvAll (xs.map dPr) (ys.map dPr) = decide (xs = ys)
  | [], [] => rfl
  | [], y :: ys => rfl
  | x :: xs, [] => rfl
  | x :: xs, y :: ys => by
    rw [List.map_cons, List.map_cons, PyData.eqvAll, eqv_pr, eqvAll_prs xs ys]
    by_cases h : x = y <;> by_cases g : xs = ys <;> simp [h, g]
/-- == of two lists of pairs of ints -/
theorem eqP {a b : Addr} {vs ws : List V} {xs ys : List (Int × Int)} {Q : VK} (h1 : SqL K H a vs) (g1 : Prs H vs xs) (h2 : SqL K H b ws) (g2 : Prs H ws ys) (q : Q (.bl (decide (xs = ys))) H) : rEqD K (.ref a) (.ref b) H Q := by
  refine ⟨dPrs xs, dPrs ys, .lst h1 (dpAll_prs g1), .lst h2 (dpAll_prs g2), sh_prs _, sh_prs _, ?_⟩
  rw [show PyData.eqv (dPrs xs) (dPrs ys) = decide (xs = ys) by unfold dPrs; rw [PyData.eqv]; exact eqvAll_prs xs ys]
  exact q
end
theorem RgC.up {j c : Int} (hc : 1 ≤ c) (hc2 : c < 2 ^ 30) (h0 : 0 ≤ j) (h1 : j < 2 ^ 61) : RgC 0 j c ((j + c - 1) / c).toNat := by
  have hn : 0 ≤ (j + c - 1) / c := Int.ediv_nonneg (by omega) (by omega)
  have e : Builtin.Range.rangeSize 0 j c = (j + c - 1) / c := by
    unfold Builtin.Range.rangeSize
    rw [if_pos (by omega)]
    split
    · rw [show j + c - 1 = (j - 0 - 1) + c * 1 by omega, Int.add_mul_ediv_left _ _ (by omega)]
    · rw [show j = 0 by omega, Int.ediv_eq_zero_of_lt (by omega) (by omega)]
  have hl : (j + c - 1) / c ≤ j + c := Int.le_trans (Int.ediv_le_self _ (by omega)) (by omega)
  refine ⟨by omega, by omega, ?_, by rw [e]; omega⟩
  unfold Builtin.Range.small
  rw [e]
  simp only [Builtin.Range.rangeFitsLong, Bool.and_eq_true, Bool.or_eq_true, decide_eq_true_eq, beq_iff_eq]
  rw [if_pos (show c > 0 by omega)]
  simp only [Bool.and_eq_true, decide_eq_true_eq]
  omega
end HS
namespace HS
open PySem PySem.Spec PyProof.Rows L2
section
variable {σ : L2.St} {H : Hp}
theorem rng3 {tl : TA} {R : It → Hp → Prop} (h : tl σ H fun vs H1 => ∃ (i j c : Int) (n : Nat), vs = [.int i, .int j, .int c] ∧ RgC i j c n ∧ R (Itc i c n) H1) : iRng3 tl σ H R := h
end
end HS
namespace HS
open PySem PySem.Spec PyProof.Rows L2
theorem Prs.new {H : Hp} {p : Addr} {o : HO} (hp : H p = none) {vs : List V} {ps : List (Int × Int)} (h : Prs H vs ps) : Prs (upd H p o) vs ps :=
  h.keep (S := fun _ => False) (Keep.new hp) fun _ _ _ _ z => z
theorem Prs.same {H H' : Hp} {vs : List V} {ps : List (Int × Int)} (h : Prs H vs ps) (k : Keep (fun _ => False) H H') : Prs H' vs ps :=
  h.keep (S := fun _ => False) k fun _ _ _ _ z => z
theorem Prs.lst {H : Hp} {L : Addr} {ws : List V} (hL : H L = some (.lst ws)) : ∀ {vs : List V} {ps : List (Int × Int)}, Prs H vs ps → ∀ v ∈ vs, ∀ t, v = .ref t → t ≠ L
  | [], [], _, _, hv, _, _ => absurd hv List.not_mem_nil
  | _ :: _, _ :: _, ⟨⟨t', e', o'⟩, h⟩, v, hv, t, e => by
    rcases List.mem_cons.mp hv with hv | hv
    · subst hv
      rw [e'] at e
      have := V.ref.inj e
      subst this
      intro z
      rw [z, hL] at o'
      cases o'
    · exact h.lst hL v hv t e
theorem Prs.put {H : Hp} {L : Addr} {ws : List V} {o : HO} (hL : H L = some (.lst ws)) {vs : List V} {ps : List (Int × Int)} (h : Prs H vs ps) : Prs (upd H L o) vs ps :=
  h.keep (S := fun a => a = L) (Keep.at Keep.refl rfl) (h.lst hL)
theorem Prs.snoc {H : Hp} {vs : List V} {ps : List (Int × Int)} {t : Addr} {a b : Int} (h : Prs H vs ps) (e : H t = some (.tup [.int a, .int b])) : Prs H (vs ++ [.ref t]) (ps ++ [(a, b)]) :=
  h.app ⟨⟨t, rfl, e⟩, trivial⟩
end HS
/-! Exceptions of own classes as values: made, asked, read (own rules over HandS). -/
namespace HS
open PySem PySem.Spec PyProof.Rows L2
/-- the j-th row of a class's block -/
def inS (s : Stmt) (j : Nat) : Stmt := match s with
  | .ClassDef _ _ _ body _ _ _ _ _ _ _ => body.getD j (.Pass ⟨0, 0, 0, 0⟩)
  | s => s
/-- an own exception that stands in the heap, with its fields -/
def Exv (H : Hp) (a C : Addr) (fs : List (Str × V)) : Prop := ∃ d, H a = some (exo a C (some d)) ∧ H d = some (exd d fs)
def rIsV (K : PySem.W.Frag) : List V → Hp → VK → Prop := fun xs H Q => ∃ (a D : Addr) (fs : List (Str × V)) (c : V) (cv : Value) (b : Bool), xs = [.ref a, c] ∧ ExcC K D ∧ Exv H a D fs ∧ ClsV c cv ∧ PySem.W.kitOne K (.ref D) cv = some b ∧ Q (.bl b) H
theorem call_isV {X : Cx} : CallR X (.builtin "isinstance") (rIsV X.K) := by
  intro pins s σ H xs us Q I r hw
  obtain ⟨a, D, fs, c, cv, b, e0, T, ⟨d, ea, ed⟩, hcv, hb, q⟩ := hw
  subst e0
  match us, r with
  | [_, _], .cons rx (.cons rt .nil) =>
    cases rx
    have e1 := hcv.eq rt
    subst e1
    obtain ⟨t1, ho⟩ := exo_at I.hok ea
    obtain ⟨mA, hns, _⟩ := exd_at I.hok ed
    obtain ⟨od, hod, _⟩ := lookIn_ns hns
    obtain ⟨cd, hcd, _⟩ := PySem.W.any_some T.hd
    have here : PySem.W.InstAt s.heap a _ D (some od) := ⟨ho, rfl, rfl, hod⟩
    exact PySem.W.kia_one (PySem.W.kitx_exc (by rw [hcd]; rfl) T.hg T.hk T.hs T.ha T.hn T.ht T.hm) I.kIn here hb (fun z => nomatch z) fun tk => ⟨.bl b, H, I.kept (t' := tk) fun _ _ z => z, rfl, q⟩
/-- e.f of such an exception -/
def tFldV (K : PySem.W.Frag) (f : Str) (te : TE) : TE := fun σ H Q => te σ H fun x H1 => ∃ (a C : Addr) (fs : List (Str × V)) (v : V), x = .ref a ∧ XfC K C ∧ PySem.W.findIn K (.ref C) f = some none ∧ Exv H1 a C fs ∧ fs.lookup f = some v ∧ Q v H1
theorem pe_fldV {X : Cx} {e : Expr} {te : TE} {pos : Pos} {f : Str} (he : PE X e te) (hb : attributeBase e f X.env (eval e X.env) = eval e X.env := by rfl) : PE X (.Attribute e f pos) (tFldV X.K f te) := by
  refine ⟨fun pins s σ H Q I hw => attr_of hb (thn (he.run pins s σ H _ I hw) fun u s1 ⟨x, H1, I1, rx, a, C, fs, v, e0, T, hno, ⟨d, ea, ed⟩, l, q⟩ => ?_)⟩
  subst e0
  cases rx
  obtain ⟨t1, ho⟩ := exo_at I1.hok ea
  obtain ⟨mA, hns, hr⟩ := exd_at I1.hok ed
  obtain ⟨od, hod, hl⟩ := lookIn_ns hns
  obtain ⟨w, hw, rw'⟩ := RelO.some_of (v := v) (o := mA f) (by rw [← l]; exact hr f)
  have here : PySem.W.InstAt s1.heap a _ C (some od) := ⟨ho, rfl, rfl, hod⟩
  exact HandSPX.exc_get I1.kIn here T.ga T.gg T.exC (PySem.W.findObj_own T.hdC hno rfl (by rw [hl, hw])) (handed_of rw') ⟨v, H1, I1.tok _, rw', q⟩
/-- C(e, ..) as a value -/
def tNewV (C : Addr) (sp : Sp) (ta : TA) : TE := fun σ H Q => ta σ H fun vs H1 => vs.length ≤ 1000 ∧ ∀ a, H1 a = none → sp (.ref a :: vs) (upd H1 a (exo a C none)) (fun v H2 => v = .non ∧ Q (.ref a) H2) (fun _ _ _ => False)
section
variable {X : Cx} {CX : CXT} {x : Str} {C fI : Addr} {k : Nat} {fd : FuncData} {ps : List Str} {sp : Sp} {e : Expr} {es : List Expr} {ta : TA} {p pos : Pos}
theorem pe_newV (T : OexC X.K C) (iC : PySem.W.findIn X.K (.ref C) "__init__" = some (some (.ref fI))) (tI : PySem.W.typeIn X.K (.ref fI) = some (.type "function"))
    (F1 : FnOk X.prog X.w X.K X.mg X.base CX k fI fd ps sp) (hr : Room (k + 1) X.A) (hb : Binds X.K fd ps []) (hx : Passes CX X (fun _ _ _ => False)) (hg : Gl X x) (hm : X.mg x = some (.ref C)) (ha : PA X (e :: es) ta)
    (hdb : (x == ("__debug__" : Str)) = false := by decide) (he : starEach (e :: es) X.env = (false, eval e X.env) :: starEach es X.env := by rfl) (hpl : (backTo pos (starEach es X.env)).any (·.1) = false := by rfl) :
    PE X (.Call (.Name x p) (e :: es) [] pos) (tNewV C sp ta) := by
  refine ⟨fun pins s σ H Q I hw => wpAny_Call_Name_kw (ld_glob I hg hm ?_ hdb)⟩
  obtain ⟨nm, qn, N, bs, bm, sn, sub, ab, col, dd, k0, k1, k2, k3, k5, hC, hbm⟩ := T.cls
  refine PySem.W.callWith_K (h₀ := X.base) I.ok.mod.kin T.kC (thn (ha.run pos pins s σ H _ I hw) fun us s1 ⟨vs, H1, I1, r1, hz, q1⟩ => ⟨I1.kIn, ?_⟩) he hpl
  show wpAny _ _ (call (.ref C) us) _ _ _
  obtain ⟨hp, g, dr, tk, os⟩ := s1
  have le1 : hp.objs.size ≤ hp.objs.size + 1 := by omega
  have kept : ∀ b o, hp.get? b = some o → ((hp.push (PySem.W.kdv_tup us)).push (PySem.HandSPX.excO C hp.objs.size)).get? b = some o := fun _ _ z => Heap.get?_push_of_some _ (Heap.get?_push_of_some _ z)
  have at1 : ((hp.push (PySem.W.kdv_tup us)).push (PySem.HandSPX.excO C hp.objs.size)).get? (hp.objs.size + 1) = some (PySem.HandSPX.excO C hp.objs.size) := by heap_get
  have J : Inv X pins σ (upd H1 (hp.objs.size + 1) (exo (hp.objs.size + 1) C none)) ⟨(hp.push (PySem.W.kdv_tup us)).push (PySem.HandSPX.excO C hp.objs.size), g, dr, tk, os⟩ := I1.laid (t' := tk) kept le1 (exo_ok at1)
  have q2 := q1 (hp.objs.size + 1) (I1.hok.fresh le1)
  have r2 : Vals (V.ref (hp.objs.size + 1) :: vs) (Value.ref (hp.objs.size + 1) :: us) := .cons rfl r1
  have len2 : (Value.ref (hp.objs.size + 1) :: us).length = ps.length := r2.length.symm.trans (F1.len _ _ _ _ q2)
  have small : us.length ≤ sizeLine := by have := Paired.length r1; rw [sizeLine_eq]; omega
  have bnd := hb _ (Value.ref (hp.objs.size + 1) :: us) J.kIn (by simpa using len2)
  refine wpAny_call (PySem.HandSPX.call_own F.excBase_ValueError (fun Y => PySem.HandSPX.refsVE_contains Y bm hbm) (I1.kIn _ _ hC) (PySem.W.looks_findIn I1.kIn iC) (fun self => PySem.W.bind_fn I1.kIn self tI) small
    (codeAny_mono (F1.run _ X.stack _ _ ⟨Value.ref (hp.objs.size + 1) :: us, []⟩ _ _ _ _ (hr.make C us []) (J.env0.make C us []) bnd (by simpa using r2) q2) fun r s' back => ?_))
  match r, back with
  | .error er, back => exact hx pins σ _ _ er s' J back
  | .ok (.ret u), back =>
    obtain ⟨v, H', J', rv, ev, q3⟩ := J.after back
    subst ev
    exact ⟨rv, ⟨V.ref (hp.objs.size + 1), H', J', rfl, q3⟩⟩
end
section
variable {σ : L2.St} {H : Hp} {Q : VK} {te to : TE} {ta : TA} {K : PySem.W.Frag} {n bk ct : L2.St → Hp → Prop} {rt : VK} {f : Str} {C : Addr} {sp : Sp}
theorem ost (h : te σ H fun y H1 => to σ H1 fun x H2 => ∃ a C : Addr, x = .ref a ∧ OexC K C ∧ PySem.W.findIn K (.ref C) f = some none ∧
  ((H2 a = some (exo a C none) ∧ ∀ dx, H2 dx = none → dx ≠ a → n σ (upd (upd H2 dx (exd dx [(f, y)])) a (exo a C (some dx)))) ∨
    ∃ (dx : Addr) (fs : List (Str × V)), H2 a = some (exo a C (some dx)) ∧ H2 dx = some (exd dx fs) ∧ fs.length ≤ 900 ∧ n σ (upd H2 dx (exd dx ((f, y) :: fs))))) : tOst K f to te ⟨n, rt, bk, ct⟩ σ H := h
theorem fldV (h : te σ H fun x H1 => ∃ (a C : Addr) (fs : List (Str × V)) (v : V), x = .ref a ∧ XfC K C ∧ PySem.W.findIn K (.ref C) f = some none ∧ Exv H1 a C fs ∧ fs.lookup f = some v ∧ Q v H1) : tFldV K f te σ H Q := h
theorem newV (h : ta σ H fun vs H1 => vs.length ≤ 1000 ∧ ∀ a, H1 a = none → sp (.ref a :: vs) (upd H1 a (exo a C none)) (fun v H2 => v = .non ∧ Q (.ref a) H2) (fun _ _ _ => False)) : tNewV C sp ta σ H Q := h
end
end HS
namespace HS
open PySem PySem.Spec PyProof.Rows L2
/-- the refs of vs are tuples of these two values -/
def PrV (H : Hp) : List V → List (V × V) → Prop
  | [], [] => True
  | v :: vs, p :: ps => (∃ t, v = .ref t ∧ H t = some (.tup [p.1, p.2])) ∧ PrV H vs ps
  | _, _ => False
theorem PrV.keep {S : Addr → Prop} {H H' : Hp} (k : Keep S H H') : ∀ {vs : List V} {ps : List (V × V)}, PrV H vs ps → (∀ v ∈ vs, ∀ t, v = .ref t → ¬ S t) → PrV H' vs ps
  | [], [], h, _ => h
  | _ :: _, _ :: _, ⟨⟨t, e, o⟩, h⟩, n => ⟨⟨t, e, k t _ o (n _ List.mem_cons_self t e)⟩, h.keep k fun v hv => n v (List.mem_cons_of_mem _ hv)⟩
theorem PrV.same {H H' : Hp} {vs : List V} {ps : List (V × V)} (h : PrV H vs ps) (k : Keep (fun _ => False) H H') : PrV H' vs ps :=
  h.keep k fun _ _ _ _ z => z
theorem PrV.len {H : Hp} : ∀ {vs : List V} {ps : List (V × V)}, PrV H vs ps → vs.length = ps.length
  | [], [], _ => rfl
  | _ :: _, _ :: _, ⟨_, h⟩ => by rw [List.length_cons, List.length_cons, h.len]
theorem PrV.at {H : Hp} : ∀ {vs : List V} {ps : List (V × V)} {i : Nat} {v : V}, PrV H vs ps → vs[i]? = some v → ∃ t p, v = .ref t ∧ ps[i]? = some p ∧ H t = some (.tup [p.1, p.2])
  | [], [], i, _, _, e => by cases i <;> cases e
  | x :: _, p :: _, 0, v, ⟨⟨t, e', o⟩, _⟩, e => ⟨t, p, by rw [← Option.some.inj e]; exact e', rfl, o⟩
  | _ :: vs, _ :: ps, i + 1, v, ⟨_, h⟩, e => h.at (i := i) (by rw [List.getElem?_cons_succ] at e; exact e)
end HS
namespace HS
open PySem PySem.Spec PyProof.Rows L2
theorem kisV {X : Cx} (K : PySem.W.Frag) (h : X.K = K := by rfl) : CallR X (.builtin "isinstance") (rIsV K) := h ▸ call_isV
theorem kisi {X : Cx} (K : PySem.W.Frag) (h : X.K = K := by rfl) : CallR X (.builtin "isinstance") (rIsi K) := h ▸ call_isi
section
variable {K : PySem.W.Frag} {H H' : Hp} {Q : VK} {a D C p : Addr} {fs : List (Str × V)} {b : Bool} {o : HO}
theorem Exv.same (h : Exv H a C fs) (k : Keep (fun _ => False) H H') : Exv H' a C fs := by
  obtain ⟨d, e1, e2⟩ := h
  exact ⟨d, k _ _ e1 id, k _ _ e2 id⟩
theorem Exv.new (h : Exv H a C fs) (hp : H p = none) : Exv (upd H p o) a C fs := h.same (Keep.new hp)
theorem isV (T : ExcC K D) (he : Exv H a D fs) (hq : PySem.W.kitOne K (.ref D) (.ref C) = some b) (q : Q (.bl b) H) : rIsV K [.ref a, .ref C] H Q := ⟨a, D, fs, _, _, b, rfl, T, he, .own C, hq, q⟩
theorem isVt {n : String} (T : ExcC K D) (he : Exv H a D fs) (hq : PySem.W.kitOne K (.ref D) (.type n) = some b) (q : Q (.bl b) H) : rIsV K [.ref a, .ty n] H Q := ⟨a, D, fs, _, _, b, rfl, T, he, .ty n, hq, q⟩
end
end HS
namespace HS
open PySem PySem.Spec PyProof.Rows L2
theorem PrV.app {H : Hp} : ∀ {vs ws : List V} {ps qs : List (V × V)}, PrV H vs ps → PrV H ws qs → PrV H (vs ++ ws) (ps ++ qs)
  | [], _, [], _, _, g => g
  | _ :: _, _, _ :: _, _, ⟨a, h⟩, g => ⟨a, h.app g⟩
theorem PrV.new {H : Hp} {p : Addr} {o : HO} {vs : List V} {ps : List (V × V)} (h : PrV H vs ps) (hp : H p = none) : PrV (upd H p o) vs ps := h.same (Keep.new hp)
section
variable {H : Hp} {t0 t1 l : Addr} {x0 y0 x1 y1 : V}
theorem pair2 (h0 : H t0 = none) (h1 : upd H t0 (.tup [x0, y0]) t1 = none) (h2 : upd (upd H t0 (.tup [x0, y0])) t1 (.tup [x1, y1]) l = none) :
    ∃ H1, upd (upd (upd H t0 (.tup [x0, y0])) t1 (.tup [x1, y1])) l (.lst [.ref t0, .ref t1]) = H1 ∧ Keep (fun _ => False) H H1 ∧ PrV H1 [.ref t0, .ref t1] [(x0, y0), (x1, y1)] ∧ H1 l = some (.lst [.ref t0, .ref t1]) := by
  have n1 : t0 ≠ t1 := ne_of_none upd_same h1
  have e0 : upd (upd H t0 (.tup [x0, y0])) t1 (.tup [x1, y1]) t0 = some (.tup [x0, y0]) := by rw [upd_ne n1]; exact upd_same
  have e1 : upd (upd H t0 (.tup [x0, y0])) t1 (.tup [x1, y1]) t1 = some (.tup [x1, y1]) := upd_same
  refine ⟨_, rfl, (Keep.new h0).trans ((Keep.new h1).trans (Keep.new h2)), ⟨⟨t0, rfl, ?_⟩, ⟨t1, rfl, ?_⟩, trivial⟩, upd_same⟩
  · rw [upd_ne (ne_of_none e0 h2)]; exact e0
  · rw [upd_ne (ne_of_none e1 h2)]; exact e1
theorem pair1 (h0 : H t0 = none) (h2 : upd H t0 (.tup [x0, y0]) l = none) :
    ∃ H1, upd (upd H t0 (.tup [x0, y0])) l (.lst [.ref t0]) = H1 ∧ Keep (fun _ => False) H H1 ∧ PrV H1 [.ref t0] [(x0, y0)] ∧ H1 l = some (.lst [.ref t0]) := by
  refine ⟨_, rfl, (Keep.new h0).trans (Keep.new h2), ⟨⟨t0, rfl, ?_⟩, trivial⟩, upd_same⟩
  rw [upd_ne (ne_of_none upd_same h2)]; exact upd_same
end
end HS
namespace HS
open PySem PySem.Spec PyProof.Rows L2
theorem Keep.over {H H' : Hp} {a : Addr} {o : HO} (k : Keep (fun x => x = a) (upd H a o) H') (h : H a = none) : Keep (fun _ => False) H H' := fun p u e _ => by
  have n := ne_of_none e h
  exact k p u (by rw [upd_ne n]; exact e) n
end HS
namespace HS
open PySem PySem.Spec PyProof.Rows L2
/-- the same by the law's own look: leaves, lists and tuples of such -/
inductive SmV (K : PySem.W.Frag) (H : Hp) : Nat → V → V → Prop
  | non {n : Nat} : SmV K H n .non .non
  | bl {n : Nat} (b : Bool) : SmV K H n (.bl b) (.bl b)
  | int {n : Nat} (i : Int) : SmV K H n (.int i) (.int i)
  | str {n : Nat} (x : Str) : SmV K H n (.str x) (.str x)
  | lst {n : Nat} {a b : Addr} {xs ys : List V} : H a = some (.lst xs) → H b = some (.lst ys) → xs.length = ys.length → xs.length ≤ 1000 → (∀ (i : Nat) (x y : V), xs[i]? = some x → ys[i]? = some y → SmV K H n x y) → SmV K H (n + 1) (.ref a) (.ref b)
  | tup {n : Nat} {a b : Addr} {xs ys : List V} : H a = some (.tup xs) → H b = some (.tup ys) → xs.length = ys.length → xs.length ≤ 1000 → (∀ (i : Nat) (x y : V), xs[i]? = some x → ys[i]? = some y → SmV K H n x y) → SmV K H (n + 1) (.ref a) (.ref b)
theorem SmV.same {K : PySem.W.Frag} {H H' : Hp} (k : Keep (fun _ => False) H H') : ∀ {n : Nat} {x y : V}, SmV K H n x y → SmV K H' n x y
  | _, _, _, .non => .non
  | _, _, _, .bl b => .bl b
  | _, _, _, .int i => .int i
  | _, _, _, .str x => .str x
  | _, _, _, .lst h1 h2 h3 h4 h => .lst (k _ _ h1 id) (k _ _ h2 id) h3 h4 fun i x y e1 e2 => (h i x y e1 e2).same k
  | _, _, _, .tup h1 h2 h3 h4 h => .tup (k _ _ h1 id) (k _ _ h2 id) h3 h4 fun i x y e1 e2 => (h i x y e1 e2).same k
/-- x[i] of a list or a tuple -/
def rIxA (K : PySem.W.Frag) : R2 := fun x y H Q => rIxL K x y H Q ∨ rIxT K x y H Q
theorem ixa {X : Cx} (K : PySem.W.Frag) (h : X.K = K := by rfl) : IxR X (rIxA K) := fun value slice pins s σ H x y v u Q I rx ry r =>
  r.elim (fun r => ixl K h value slice pins s σ H x y v u Q I rx ry r) fun r => ixt K h value slice pins s σ H x y v u Q I rx ry r
section
variable {K : PySem.W.Frag} {H : Hp} {Q : VK}
theorem isi {x : V} {m n : String} (b : Bool) (ty : TyX K H x (.type m)) (hq : kitB m n = some b) (q : Q (.bl b) H) : rIsi K [x, .ty n] H Q := ⟨x, _, _, _, b, rfl, .ty n, ty, kit_ty hq, q⟩
theorem isN {x : V} (q : Q (.bl (decide (x = .non))) H) : (fun x y H Q => y = V.non ∧ Q (.bl (decide (x = .non))) H : R2) x .non H Q := ⟨rfl, q⟩
theorem eqS {x y : V} (hs : scal x y = true) (e : x = y) (q : Q (.bl true) H) : rEq x y H Q := ⟨hs, by rw [decide_eq_true e]; exact q⟩
theorem neB {b c : Bool} (q : Q (.bl (!decide (b = c))) H) : rNe (.bl b) (.bl c) H Q := ⟨rfl, by
  have e : decide (V.bl b = V.bl c) = decide (b = c) := by cases b <;> cases c <;> rfl
  rw [e]; exact q⟩
theorem kb_bb : kitB "bool" "bool" = some true := by decide +kernel
theorem kb_ib : kitB "int" "bool" = some false := by decide +kernel
theorem kb_ii : kitB "int" "int" = some true := by decide +kernel
theorem kb_sb : kitB "str" "bool" = some false := by decide +kernel
theorem kb_si : kitB "str" "int" = some false := by decide +kernel
theorem kb_ss : kitB "str" "str" = some true := by decide +kernel
theorem kb_lb : kitB "list" "bool" = some false := by decide +kernel
theorem kb_li : kitB "list" "int" = some false := by decide +kernel
theorem kb_ls : kitB "list" "str" = some false := by decide +kernel
theorem kb_ll : kitB "list" "list" = some true := by decide +kernel
theorem kb_lt : kitB "list" "tuple" = some false := by decide +kernel
theorem kb_tb : kitB "tuple" "bool" = some false := by decide +kernel
theorem kb_ti : kitB "tuple" "int" = some false := by decide +kernel
theorem kb_ts : kitB "tuple" "str" = some false := by decide +kernel
theorem kb_tl : kitB "tuple" "list" = some false := by decide +kernel
theorem kb_tt : kitB "tuple" "tuple" = some true := by decide +kernel
end
end HS
/-! An own exception class called with keywords. -/
namespace PySem
namespace HSK
open HandSPX Builtin Builtin.ObjectAttr
section
variable {prog : Program} {w : World} {A : Around} {E : Value → Shared → Prop} {R : Result → Shared → Prop} {h : Heap} {g : Array GenState} {d : Drawn} {t : Nat} {os : OsState} {kw : List (Str × Value)} {fI : Addr}
variable {nm q : Str} {C N : Addr} {bs bm bmB : List Value} {hdct : Bool} {sn : List Str} {sub : List Value} {ab : Bool} {col : Option Bool} {dd : Option Addr} {k0 k1 k2 k3 k5 : Option Value} {B newId initId : String}
theorem kw_check_new {M : Model} (F : ExcBaseFacts B newId initId bmB) (hT : ∀ X : String, bm.contains (.type X) = bmB.contains (.type X)) {Q : Unit → Shared → Prop} (hC : h.get? C = some (excClassObj nm q C N bs bm hdct sn sub ab col dd k0 k1 k2 k3 k5 newId)) (z : Q () ⟨h, g, d, t, os⟩) :
    wpAny M A (checkBuiltinCall newId ⟨[.ref C], kw⟩) Q E ⟨h, g, d, t, os⟩ := by
  have inB : (Value.ref C :: bm).contains (.type B) = true := by rw [List.contains_cons, hT, F.hasB, Bool.or_true]
  have star := F.noStar
  simp only [checkBuiltinCall, F.newKind, F.newSplit, F.newRow]
  repeat (first | refine wpAny_loadPart_at hC ?_ | (refine wpAny_isSubtype_exc hC ?_; rw [inB]) | refine wpAny_staticBase_exc hC ?_ | refine wpAny_madeBy_exc hC ?_ | simp only [bne_self_eq_false, Bool.false_eq_true, if_false] | wp_step)
  exact z
theorem kw_new (F : ExcBaseFacts B newId initId bmB) (hT : ∀ X : String, bm.contains (.type X) = bmB.contains (.type X)) (hC : h.get? C = some (excClassObj nm q C N bs bm hdct sn sub ab col dd k0 k1 k2 k3 k5 newId))
    (z : R (.ok (.ret (.ref (h.objs.size + 1)))) ⟨(h.push (W.kdv_tup [])).push (excO C h.objs.size), g, d, t, os⟩) : codeAny (model prog w) A (.builtin newId ⟨[.ref C], kw⟩) R ⟨h, g, d, t, os⟩ := by
  have ends := F.ends
  have inB : (Value.ref C :: bm).contains (.type B) = true := by rw [List.contains_cons, hT, F.hasB, Bool.or_true]
  have noA : (Value.ref C :: bm).contains (.type "AttributeError") = false := by rw [List.contains_cons, hT, F.noAttr]; rfl
  have noN : (Value.ref C :: bm).contains (.type "NameError") = false := by rw [List.contains_cons, hT, F.noName]; rfl
  have tiny : ([] : List Value).length ≤ sizeLine := Nat.zero_le _
  refine codeAny_builtinAt F.entry ?_
  unfold Builtin.«BaseException.__new__»
  refine wpAt_bind ?_
  show wpAt _ _ _ (stack >>= _) _ _ _
  refine wpAt_bind (wpAt_stack fun p below => wpAt_of_wpAny ?_)
  wp_walk
  refine wpAt_of_wpAny ?_
  rw [F.owner]
  repeat (first | with_reducible refine wpAny_madeHere_exc F.canon hC ?_ | with_reducible refine wpAny_loadPart_at hC ?_ | (with_reducible refine wpAny_isSubtype_exc hC ?_; first | rw [inB] | rw [noA] | rw [noN]) | wp_step)
  show R _ _
  rw [Heap.size_push]
  exact z
theorem kw_type_call (F : ExcBaseFacts B newId initId bmB) (hT : ∀ X : String, bm.contains (.type X) = bmB.contains (.type X)) {Q : Fin → Shared → Prop} (hC : h.get? C = some (excClassObj nm q C N bs bm hdct sn sub ab col dd k0 k1 k2 k3 k5 newId))
    (li : W.Looks (model prog w) h (typeLookup (.ref C) "__init__") (some (.ref fI))) (lb : ∀ self, W.Looks (model prog w) h (bindSpecial (.ref fI) self) (.ref fI, [self]))
    (run : codeAny (model prog w) A (.call (.ref fI) ⟨[.ref (h.objs.size + 1)], kw⟩) (fun r s' => match r with | .ok (.ret v) => v = .none ∧ Q (.done (.ret (.ref (h.objs.size + 1)))) s' | .ok _ => False | .error e => E e s')
      ⟨(h.push (W.kdv_tup [])).push (excO C h.objs.size), g, d, t, os⟩) : wpAny (model prog w) A (Builtin.«type.__call__» ⟨[.ref C], kw⟩) Q E ⟨h, g, d, t, os⟩ := by
  repeat (first | with_reducible refine wpAny_loadPart_at hC ?_ | with_reducible refine wpAny_madeBy_exc hC ?_ | wp_step)
  refine codeAny_call_builtin_code (Code.quiet_builtin _ F.quiet) (kw_check_new F hT hC (kw_new F hT hC ?_))
  have up : ∀ b o, h.get? b = some o → ((h.push (W.kdv_tup [])).push (excO C h.objs.size)).get? b = some o := fun _ _ y => Heap.get?_push_of_some _ (Heap.get?_push_of_some _ y)
  have hC2 := up _ _ hC
  have hE : ((h.push (W.kdv_tup [])).push (excO C h.objs.size)).get? (h.objs.size + 1) = some (excO C h.objs.size) := by heap_get
  have isC : (Value.ref C :: bm).contains (.ref C) = true := by simp
  have li2 := li.keeps up
  have lb2 := (lb (.ref (h.objs.size + 1))).keeps up
  show wpAny _ _ _ _ _ _
  unfold isInstance
  repeat (first | with_reducible refine wpAny_loadPart_at hE ?_ | (with_reducible refine wpAny_isSubtype_exc hC2 ?_; rw [isC]) | wp_step)
  show wpAny _ _ (typeLookup (.ref C) _) _ _ _
  refine li2.at (wpAny_holding (wpAny_bind (lb2.at (wpAny_bind (wpAny_call (codeAny_mono run fun r s' y => ?_))))))
  rcases r with e | (v | _ | _ | _) <;> first | exact y | exact y.elim | skip
  obtain ⟨y0, y⟩ := y
  subst y0
  first
    | exact wpAny_pure (wpAny_pure y)
    | (wp_walk; exact y)
theorem kw_call (F : ExcBaseFacts B newId initId bmB) (hT : ∀ X : String, bm.contains (.type X) = bmB.contains (.type X)) (hC : h.get? C = some (excClassObj nm q C N bs bm hdct sn sub ab col dd k0 k1 k2 k3 k5 newId))
    (li : W.Looks (model prog w) h (typeLookup (.ref C) "__init__") (some (.ref fI))) (lb : ∀ self, W.Looks (model prog w) h (bindSpecial (.ref fI) self) (.ref fI, [self]))
    (run : codeAny (model prog w) (A.under (.builtin "type.__call__" ⟨[.ref C], kw⟩)) (.call (.ref fI) ⟨[.ref (h.objs.size + 1)], kw⟩) (W.InitBack (h.objs.size + 1) R) ⟨(h.push (W.kdv_tup [])).push (excO C h.objs.size), g, d, t, os⟩) :
    codeAny (model prog w) A (.call (.ref C) ⟨[], kw⟩) R ⟨h, g, d, t, os⟩ := by
  have c1 := tc_lookup
  have c2 := tc_bind (.ref C)
  have ty : (⟨h, g, d, t, os⟩ : Shared).TypeIs (.ref C) "type" := ⟨_, hC, rfl⟩
  refine codeAny_of_tree ?_
  show wpAny _ _ (callAny (.ref C) _) _ _ _
  repeat (any_goals (first | assumption | with_reducible refine wpAny_loadPart_at hC ?_ | wp_step))
  refine ⟨rfl, codeAny_call_builtin_at (Code.quiet_builtin _ (by decide +kernel)) entry_typeCall (wpAny_check_type_call_sub hC (kw_type_call F hT hC li lb ?_))⟩
  refine codeAny_mono run fun r s' y => ?_
  rcases r with e | (v | _ | _ | _) <;> exact y
end
end HSK
end PySem
namespace HS
open PySem PySem.Spec PyProof.Rows L2
/-- C(k = v) as a value -/
def tNewK (C : Addr) (n : Nat) (sp : Sp) (gV : List V → List V → List V) (tk : TA) : TE := fun σ H Q => tk σ H fun zs H1 => zs.length = n ∧ ∀ a, H1 a = none → sp (gV [.ref a] zs) (upd H1 a (exo a C none)) (fun v H2 => v = .non ∧ Q (.ref a) H2) (fun _ _ _ => False)
section
variable {X : Cx} {CX : CXT} {x : Str} {C fI : Addr} {k : Nat} {fd : FuncData} {ps ks : List Str} {sp : Sp} {kws : List Keyword} {tk : TA} {p pos : Pos} {g : List Value → List Value → List Value} {gV : List V → List V → List V}
theorem pe_newK (T : OexC X.K C) (iC : PySem.W.findIn X.K (.ref C) "__init__" = some (some (.ref fI))) (tI : PySem.W.typeIn X.K (.ref fI) = some (.type "function"))
    (F1 : FnOk X.prog X.w X.K X.mg X.base CX k fI fd ps sp) (hr : Room (k + 1) X.A) (hb : KBn X.K fd ps 1 ks g gV) (hx : Passes CX X (fun _ _ _ => False)) (hg : Gl X x) (hm : X.mg x = some (.ref C)) (hkw : PK X kws tk)
    (hall : (backToKw pos (keywordEach kws X.env)).all (·.1.isSome) = true := by rfl) (hks : (backToKw pos (keywordEach kws X.env)).filterMap (·.1) = ks := by rfl) (hdb : (x == ("__debug__" : Str)) = false := by decide)
    (hpl : ((backTo pos (starEach [] X.env)).any (·.1) || (backToKw pos (keywordEach kws X.env)).any (·.1.isNone)) = false := by rfl) : PE X (.Call (.Name x p) [] kws pos) (tNewK C ks.length sp gV tk) := by
  refine ⟨fun pins s σ H Q I hw => wpAny_Call_Name_kw (ld_glob I hg hm (PySem.W.callWith_KW0 (h₀ := X.base) I.ok.mod.kin T.kC hall (thn (hkw.run pos pins s σ H _ I hw) fun ws s1 ⟨zs, H1, I1, rz, lz, q1⟩ => ⟨I1.kIn, ?_⟩) hpl) hdb)⟩
  obtain ⟨nm, qn, N, bs, bm, sn, sub, ab, col, dd, k0, k1, k2, k3, k5, hC, hbm⟩ := T.cls
  rw [hks]
  obtain ⟨hp, g0, dr, t, os⟩ := s1
  have le1 : hp.objs.size ≤ hp.objs.size + 1 := by omega
  have kept : ∀ b o, hp.get? b = some o → ((hp.push (PySem.W.kdv_tup [])).push (PySem.HandSPX.excO C hp.objs.size)).get? b = some o := fun _ _ z => Heap.get?_push_of_some _ (Heap.get?_push_of_some _ z)
  have at1 : ((hp.push (PySem.W.kdv_tup [])).push (PySem.HandSPX.excO C hp.objs.size)).get? (hp.objs.size + 1) = some (PySem.HandSPX.excO C hp.objs.size) := by heap_get
  have J : Inv X pins σ (upd H1 (hp.objs.size + 1) (exo (hp.objs.size + 1) C none)) ⟨(hp.push (PySem.W.kdv_tup [])).push (PySem.HandSPX.excO C hp.objs.size), g0, dr, t, os⟩ := I1.laid (t' := t) kept le1 (exo_ok at1)
  have q2 := q1 (hp.objs.size + 1) (I1.hok.fresh le1)
  have r1 : Vals [V.ref (hp.objs.size + 1)] [Value.ref (hp.objs.size + 1)] := .cons rfl .nil
  have bnd := hb.to _ [Value.ref (hp.objs.size + 1)] ws J.kIn rfl (rz.length.symm.trans lz)
  refine wpAny_call (PySem.HSK.kw_call F.excBase_ValueError (fun Y => PySem.HandSPX.refsVE_contains Y bm hbm) (I1.kIn _ _ hC) (PySem.W.looks_findIn I1.kIn iC) (fun self => PySem.W.bind_fn I1.kIn self tI)
    (codeAny_mono (F1.run _ X.stack _ _ ⟨[Value.ref (hp.objs.size + 1)], ks.zip ws⟩ _ _ _ _ (hr.make C [] (ks.zip ws)) (J.env0.make C [] (ks.zip ws)) bnd (hb.rel r1 rz) q2) fun r s' back => ?_))
  match r, back with
  | .error er, back => exact hx pins σ _ _ er s' J back
  | .ok (.ret u), back =>
    obtain ⟨v, H', J', rv, ev, q3⟩ := J.after back
    subst ev
    exact ⟨rv, ⟨V.ref (hp.objs.size + 1), H', J', rfl, q3⟩⟩
end
section
variable {σ : L2.St} {H : Hp} {Q : VK} {C : Addr} {sp : Sp} {m : Nat} {gV : List V → List V → List V} {tk : TA}
theorem newK (h : tk σ H fun zs H1 => zs.length = m ∧ ∀ a, H1 a = none → sp (gV [.ref a] zs) (upd H1 a (exo a C none)) (fun v H2 => v = .non ∧ Q (.ref a) H2) (fun _ _ _ => False)) : tNewK C m sp gV tk σ H Q := h
end
end HS
namespace HS
open PySem PySem.Spec PyProof.Rows L2
/-! ### own exceptions that are raised and caught -/
section
variable {C a : Addr} {sp : Sp} {dvs : List V} {ta : TA} {te : TE} {σ : L2.St} {H H1 H2 : Hp} {R : XK} {Q : VK} {d : Addr} {u o : HO}
theorem mkO (h : ta σ H fun vs H1 => vs.length ≤ 1000 ∧ ∀ a, H1 a = none → sp (.ref a :: (vs ++ dvs)) (upd H1 a (exo a C none))
    (fun v H2 => v = .non ∧ ∃ (d : Addr) (fs : List (Str × V)), H2 a = some (exo a C (some d)) ∧ H2 d = some (exd d fs) ∧ H1 d = none ∧ R (.ref C) (some d) (upd (del H2 a) d (.xd fs))) (fun _ _ _ => False)) : tMkO C sp dvs ta σ H R := h
theorem callS {E : L2.St → XK} (h : ta σ H fun vs H1 => sp vs H1 Q (E σ)) : tCallS sp E ta σ H Q := h
theorem xf {cls : Value} {dx : Option Addr} {f : Str} (h : te σ H fun x H1 => x = .ref a ∧ cls = .ref C ∧ ∃ (dd : Addr) (fs : List (Str × V)) (v : V), dx = some dd ∧ H1 dd = some (.xd fs) ∧ fs.lookup f = some v ∧ Q v H1) : tXf a cls dx C f te σ H Q := h
/-- what stood ahead of the new exception a stands, and its dict at d besides -/
theorem Keep.exc (k : Keep (fun x => x = a) (upd H a o) H2) (ha : H a = none) (hd : H d = none) : Keep (fun _ => False) H (upd (del H2 a) d u) := fun b q e _ => by
  have hba : b ≠ a := ne_of_none e ha
  rw [upd_ne (ne_of_none e hd)]
  show (if b = a then none else H2 b) = some q
  rw [if_neg hba]
  exact k b q (by rw [upd_ne hba]; exact e) hba
/-- one value, put into a new exception whose maker holds the usual promise -/
theorem mk1 {K : PySem.W.Frag} {w : V}
    (hsp : ∀ (H' : Hp) (Q' : VK) (E' : XK) (b : Addr), OexC K C → PySem.W.findIn K (.ref C) "value" = some none → H' b = some (exo b C none) →
      (∀ H3 d, HS.Keep (fun x => x = b) H' H3 → H' d = none → d ≠ b → H3 b = some (exo b C (some d)) → H3 d = some (exd d [("value", w)]) → Q' .non H3) → sp [.ref b, w] H' Q' E')
    (T1 : OexC K C) (hv : PySem.W.findIn K (.ref C) "value" = some none)
    (h : ∀ H' d, Keep (fun _ => False) H H' → H d = none → H' d = some (.xd [("value", w)]) → R (.ref C) (some d) H') :
    [w].length ≤ 1000 ∧ ∀ a, H a = none → sp (.ref a :: ([w] ++ [])) (upd H a (exo a C none))
      (fun v H2 => v = .non ∧ ∃ (d : Addr) (fs : List (Str × V)), H2 a = some (exo a C (some d)) ∧ H2 d = some (exd d fs) ∧ H d = none ∧ R (.ref C) (some d) (upd (del H2 a) d (.xd fs))) (fun _ _ _ => False) :=
  ⟨show 1 ≤ 1000 by decide, fun a ha => hsp _ _ _ a T1 hv upd_same fun H3 d k hd hne e1 e2 =>
    have hd' : H d = none := by rw [upd_ne hne] at hd; exact hd
    ⟨rfl, d, _, e1, e2, hd', h _ d (k.exc ha hd') hd' upd_same⟩⟩
end
end HS
/-! Defs that are called while nothing is being shown (no repr stands on the stack), so that they may call repr of a list. -/
namespace HS
open PySem PySem.Spec PyProof.Rows L2
/-- a def's promise where no repr is under way -/
structure FnG (Pg : Program) (wd : World) (K : PySem.W.Frag) (mg : Str → Option Value) (base : Heap) (C : CXT) (n : Nat) (f : Addr) (fd : FuncData) (ps : List Str) (sp : Sp) : Prop where
  len : ∀ vs H Q E, sp vs H Q E → vs.length = ps.length
  go : ∀ (B : Around) (o : List Env) (s : Shared) (H : Hp) (ar : Args) (us : List Value) (vs : List V) (Q : VK) (E : XK), B.guards = some [] → Room n B → Env0 Pg wd K mg base B o s H →
    BindsTo s fd ar (ps.zip us) → Vals vs us → sp vs H Q E → codeAny (model Pg wd) B (.call (.ref f) ar) (CR C o Pg wd H s Q E) s
section
variable {Pg : Program} {wd : World} {K : PySem.W.Frag} {mg : Str → Option Value} {base : Heap} {C : CXT} {n : Nat} {f : Addr} {fd : FuncData} {ps : List Str} {sp : Sp}
/-- a finished body's end is the call's end -/
theorem g_end {N : List Str} {q : Str} {sc : Scope} {cd : Value} {B : Around} {o : List Env} {s : Shared} {H : Hp} {E : XK} {Q : VK} {x : Cx} (hx : x = cxOf C Pg wd K mg base N q sc f cd B o s H E) (fl : Flow) {s' : Shared} :
    SP x [] { nx := fun _ H' => Q .non H', rt := Q } fl s' → CR C o Pg wd H s Q E (.ok (.ret (match fl with | .ret v => v | _ => .none))) s' := by
  subst hx
  intro h
  cases fl
  case ret u => obtain ⟨v, st, H', J, rv, y⟩ := h; exact ⟨v, H', J.os, J.bare, J.base, J.hok, rv, y⟩
  case next => obtain ⟨st, H', J, y⟩ := h; exact ⟨.non, H', J.os, J.bare, J.base, J.hok, rfl, y⟩
  all_goals exact h.elim fun _ z => z.elim fun _ z => z.2.elim
theorem Fun.okG {x qn : Str} {st : Stmt} {N : List Str} (F : L2.Fun K x qn st f fd) (S : FnScope N ps (defScope st)) (len : ∀ vs H Q E, sp vs H Q E → vs.length = ps.length)
    (hb : ∀ (cd : Value) (B : Around) (o : List Env) (s : Shared) (H : Hp) (vs : List V) (Q : VK) (E : XK), B.guards = some [] → Room n (B.deeper (envOfC qn (defScope st) s.heap.objs.size f cd)) → sp vs H Q E →
      ∃ t, PSs (cxOf L2.CX0 Pg wd K mg base N qn (defScope st) f cd B o s H E).nox (defBody st) t ∧ t { nx := fun _ H' => Q .non H', rt := Q } (start N vs) H) : FnG Pg wd K mg base L2.CX0 (n + 1) f fd ps sp := by
  obtain ⟨_, _, _, _, _, _, cd, _, _, rfl, lk, hcd⟩ := F.ex
  refine ⟨len, fun B o s H ar us vs Q E hg hr e0 bd rv hs => ?_⟩
  have kin : K.In s.heap := e0.mod.kin.keeps fun b u e => (e0.bs b u e).1
  have kinds : ∀ y ∈ ps.zip us, (defScope st).names.lookup y.1 = some .local ∨ ((defScope st).names.lookup y.1 = some .cell ∧ ((cellsFrom (s.heap.objs.size + 1) (defScope st).names []).lookup y.1).isSome = true) := by
    rintro ⟨z, v⟩ hy
    exact (S.par z (List.of_mem_zip hy).1).elim .inl fun c => .inr ⟨c, PySem.W.cellsFrom_some _ _ _ (.inl c)⟩
  refine codeAny_call_function hr.depth (kin _ _ lk) rfl S.co S.gen rfl (PySem.W.codeRec_of kin hcd) (bd _ _ _ _ (wpAny_newFunctionEnv_cells S.kind kinds fun _ he s1 made => ?_))
  subst he
  obtain ⟨t, ht, hq⟩ := hb cd B o s H vs Q E hg (hr.deeper _) hs
  have start0 := inv_start (CX := L2.CX0) (E := E) (qual := qn) (cd := cd) (f := f) S hr.hd e0 (len _ _ _ _ hs) rv made
  exact ⟨(e0.mod.nolimit.keeps fun b u e => (e0.bs b u e).1).keeps made.toInCall.keep, codeAny_func (wpAny_mono (ht.nox.run [] s1 _ H _ start0 hq) (fun fl s' => g_end rfl fl) fun _ _ h => h)⟩
end
/-! ### calls -/
/-- the call of a def, whichever way its arguments come -/
theorem after_call {X : Cx} {C : CXT} {E : XK} {pins : List (Addr × Obj)} {σ : L2.St} {H : Hp} {s : Shared} {Q : VK} {f : Addr} {us : List Value} {kw : List (Str × Value)} (hx : Passes C X E) (I : Inv X pins σ H s)
    (h : codeAny (model X.prog X.w) X.A (.call (.ref f) ⟨us, kw⟩) (CR C X.stack X.prog X.w H s Q E) s) : wpAny (model X.prog X.w) X.A (call (.ref f) us kw) (EP X pins σ Q) X.xe s :=
  wpAny_call (codeAny_mono h fun r s' y => match r, y with
    | .error e, y => hx pins σ H s e s' I y
    | .ok (.ret _), y => I.after y)
/-- how a call with keywords binds, where the numbers of its arguments are written -/
structure KBX (K : PySem.W.Frag) (fd : FuncData) (ps : List Str) (n : Nat) (ks : List Str) (g : List Value → List Value → List Value) (gV : List V → List V → List V) : Prop where
  to : ∀ (s : Shared) (us ws : List Value), us.length = n → ws.length = ks.length → BindsTo s fd ⟨us, ks.zip ws⟩ (ps.zip (g us ws))
  rel : ∀ {vs : List V} {us : List Value} {zs : List V} {ws : List Value}, Vals vs us → Vals zs ws → Vals (gV vs zs) (g us ws)
def tCallN (n m : Nat) (sp : Sp) (gV : List V → List V → List V) (E : XK) (t tk : TA) : TE := fun σ H Q => t σ H fun vs H1 => tk σ H1 fun zs H2 => vs.length = n ∧ zs.length = m ∧ sp (gV vs zs) H2 Q E
theorem relAt : ∀ {vs : List V} {us : List Value} (_ : Vals vs us) (i : Nat), RelV (vs.getD i .non) (us.getD i .none)
  | [], _, r, i => by cases r; exact rfl
  | _ :: _, _, r, 0 => by cases r with | cons a _ => exact a
  | _ :: _, _, r, i + 1 => by cases r with | cons _ b => exact relAt b i
section
variable {X : Cx} {C : CXT} {n m : Nat} {f : Addr} {fd : FuncData} {ps ks : List Str} {sp : Sp} {E : XK} {x : Str} {p q : Pos} {e : Expr} {es : List Expr} {kws : List Keyword} {t tk : TA} {g : List Value → List Value → List Value} {gV : List V → List V → List V}
theorem pe_callG (hG : X.A.guards = some []) (F : FnG X.prog X.w X.K X.mg X.base C n f fd ps sp) (hr : Room n X.A) (gl : Gl X x) (mf : X.mg x = some (.ref f)) (kf : PySem.W.keepIn X.K (.ref f) = true) (bd : Binds X.K fd ps []) (hx : Passes C X E) (ha : PA X (e :: es) t)
    (h1 : (x == ("__debug__" : Str)) = false := by decide) (h2 : starEach (e :: es) X.env = (false, eval e X.env) :: starEach es X.env := by rfl) (h3 : (backTo q (starEach es X.env)).any (·.1) = false := by rfl) :
    PE X (.Call (.Name x p) (e :: es) [] q) (tCall sp [] E t) := by
  constructor
  intro pins s σ H Q I h
  refine wpAny_Call_Name_kw (ld_glob I gl mf (PySem.W.callWith_K (h₀ := X.base) I.ok.mod.kin kf (thn (ha.run q pins s σ H _ I h) fun us s1 ⟨vs, H1, I1, r, y⟩ => ⟨I1.kIn, ?_⟩) h2 h3) h1)
  have y : sp (vs ++ []) H1 Q E := y
  rw [List.append_nil] at y
  have hl : (us ++ []).length = ps.length := by rw [List.append_nil, ← r.length]; exact F.len _ _ _ _ y
  exact after_call hx I1 (F.go X.A X.stack s1 H1 _ (us ++ []) vs Q E hG hr I1.env0 (bd s1 us I1.kIn hl) (by rw [List.append_nil]; exact r) y)
/-- f(e, .., k = v, ..), f(k = v, ..) -/
theorem kw_to (hb : KBX X.K fd ps n ks g gV) {pins : List (Addr × Obj)} {σ : L2.St} {H : Hp} {s : Shared} {Q : VK} {vs zs : List V} {us ws : List Value}
    (run : ∀ (bs : List Value) (bv : List V), BindsTo s fd ⟨us, ks.zip ws⟩ (ps.zip bs) → Vals bv bs → sp bv H Q E → codeAny (model X.prog X.w) X.A (.call (.ref f) ⟨us, ks.zip ws⟩) (CR C X.stack X.prog X.w H s Q E) s)
    (hx : Passes C X E) (I : Inv X pins σ H s) (r : Vals vs us) (rz : Vals zs ws) (l1 : vs.length = n) (l2 : zs.length = ks.length) (y : sp (gV vs zs) H Q E) : wpAny (model X.prog X.w) X.A (call (.ref f) us (ks.zip ws)) (EP X pins σ Q) X.xe s :=
  after_call hx I (run _ _ (hb.to s us ws (by rw [← r.length]; exact l1) (by rw [← rz.length]; exact l2)) (hb.rel r rz) y)
theorem pe_kwG (hG : X.A.guards = some []) (F : FnG X.prog X.w X.K X.mg X.base C m f fd ps sp) (hr : Room m X.A) (gl : Gl X x) (mf : X.mg x = some (.ref f)) (kf : PySem.W.keepIn X.K (.ref f) = true) (hb : KBX X.K fd ps n ks g gV) (hx : Passes C X E) (ha : PA X (e :: es) t) (hk : PK X kws tk)
    (h0 : (backToKw q (keywordEach kws X.env)).all (·.1.isSome) = true := by rfl) (hks : (backToKw q (keywordEach kws X.env)).filterMap (·.1) = ks := by rfl) (h1 : (x == ("__debug__" : Str)) = false := by decide) (h2 : starEach (e :: es) X.env = (false, eval e X.env) :: starEach es X.env := by rfl)
    (h3 : ((backTo q (starEach (e :: es) X.env)).any (·.1) || (backToKw q (keywordEach kws X.env)).any (·.1.isNone)) = false := by rfl) : PE X (.Call (.Name x p) (e :: es) kws q) (tCallN n ks.length sp gV E t tk) := by
  constructor
  intro pins s σ H Q I h
  refine wpAny_Call_Name_kw (ld_glob I gl mf (PySem.W.callWith_KW (h₀ := X.base) I.ok.mod.kin kf h0 (thn (ha.run q pins s σ H _ I h) fun us s1 ⟨vs, H1, I1, r, y⟩ => thn (hk.run q pins s1 σ H1 _ I1 y) fun ws s2 ⟨zs, H2, I2, rz, l1, l2, y2⟩ => ⟨I2.kIn, ?_⟩) h3 h2) h1)
  rw [hks]
  exact kw_to hb (fun bs bv b1 b2 b3 => F.go X.A X.stack s2 H2 _ bs bv Q E hG hr I2.env0 b1 b2 b3) hx I2 r rz l1 l2 y2
theorem pe_kwG0 (hG : X.A.guards = some []) (F : FnG X.prog X.w X.K X.mg X.base C m f fd ps sp) (hr : Room m X.A) (gl : Gl X x) (mf : X.mg x = some (.ref f)) (kf : PySem.W.keepIn X.K (.ref f) = true) (hb : KBX X.K fd ps 0 ks g gV) (hx : Passes C X E) (hk : PK X kws tk)
    (h0 : (backToKw q (keywordEach kws X.env)).all (·.1.isSome) = true := by rfl) (hks : (backToKw q (keywordEach kws X.env)).filterMap (·.1) = ks := by rfl) (h1 : (x == ("__debug__" : Str)) = false := by decide)
    (h3 : ((backTo q (starEach [] X.env)).any (·.1) || (backToKw q (keywordEach kws X.env)).any (·.1.isNone)) = false := by rfl) : PE X (.Call (.Name x p) [] kws q) (tCallN 0 ks.length sp gV E tNil tk) := by
  constructor
  intro pins s σ H Q I h
  refine wpAny_Call_Name_kw (ld_glob I gl mf (PySem.W.callWith_KW0 (h₀ := X.base) I.ok.mod.kin kf h0 (thn (hk.run q pins s σ H _ I h) fun ws s2 ⟨zs, H2, I2, rz, l1, l2, y2⟩ => ⟨I2.kIn, ?_⟩) h3) h1)
  rw [hks]
  exact kw_to hb (fun bs bv b1 b2 b3 => F.go X.A X.stack s2 H2 _ bs bv Q E hG hr I2.env0 b1 b2 b3) hx I2 .nil rz rfl l2 y2
/-- the same of a def that may be called anywhere -/
theorem pe_kw (F : FnOk X.prog X.w X.K X.mg X.base C m f fd ps sp) (hr : Room m X.A) (gl : Gl X x) (mf : X.mg x = some (.ref f)) (kf : PySem.W.keepIn X.K (.ref f) = true) (hb : KBX X.K fd ps n ks g gV) (hx : Passes C X E) (ha : PA X (e :: es) t) (hk : PK X kws tk)
    (h0 : (backToKw q (keywordEach kws X.env)).all (·.1.isSome) = true := by rfl) (hks : (backToKw q (keywordEach kws X.env)).filterMap (·.1) = ks := by rfl) (h1 : (x == ("__debug__" : Str)) = false := by decide) (h2 : starEach (e :: es) X.env = (false, eval e X.env) :: starEach es X.env := by rfl)
    (h3 : ((backTo q (starEach (e :: es) X.env)).any (·.1) || (backToKw q (keywordEach kws X.env)).any (·.1.isNone)) = false := by rfl) : PE X (.Call (.Name x p) (e :: es) kws q) (tCallN n ks.length sp gV E t tk) := by
  constructor
  intro pins s σ H Q I h
  refine wpAny_Call_Name_kw (ld_glob I gl mf (PySem.W.callWith_KW (h₀ := X.base) I.ok.mod.kin kf h0 (thn (ha.run q pins s σ H _ I h) fun us s1 ⟨vs, H1, I1, r, y⟩ => thn (hk.run q pins s1 σ H1 _ I1 y) fun ws s2 ⟨zs, H2, I2, rz, l1, l2, y2⟩ => ⟨I2.kIn, ?_⟩) h3 h2) h1)
  rw [hks]
  exact kw_to hb (fun bs bv b1 b2 b3 => F.run X.A X.stack s2 H2 _ bs bv Q E hr I2.env0 b1 b2 b3) hx I2 r rz l1 l2 y2
theorem pe_kw0 (F : FnOk X.prog X.w X.K X.mg X.base C m f fd ps sp) (hr : Room m X.A) (gl : Gl X x) (mf : X.mg x = some (.ref f)) (kf : PySem.W.keepIn X.K (.ref f) = true) (hb : KBX X.K fd ps 0 ks g gV) (hx : Passes C X E) (hk : PK X kws tk)
    (h0 : (backToKw q (keywordEach kws X.env)).all (·.1.isSome) = true := by rfl) (hks : (backToKw q (keywordEach kws X.env)).filterMap (·.1) = ks := by rfl) (h1 : (x == ("__debug__" : Str)) = false := by decide)
    (h3 : ((backTo q (starEach [] X.env)).any (·.1) || (backToKw q (keywordEach kws X.env)).any (·.1.isNone)) = false := by rfl) : PE X (.Call (.Name x p) [] kws q) (tCallN 0 ks.length sp gV E tNil tk) := by
  constructor
  intro pins s σ H Q I h
  refine wpAny_Call_Name_kw (ld_glob I gl mf (PySem.W.callWith_KW0 (h₀ := X.base) I.ok.mod.kin kf h0 (thn (hk.run q pins s σ H _ I h) fun ws s2 ⟨zs, H2, I2, rz, l1, l2, y2⟩ => ⟨I2.kIn, ?_⟩) h3) h1)
  rw [hks]
  exact kw_to hb (fun bs bv b1 b2 b3 => F.run X.A X.stack s2 H2 _ bs bv Q E hr I2.env0 b1 b2 b3) hx I2 .nil rz rfl l2 y2
end
section
variable {σ : L2.St} {H : Hp} {Q : VK} {t tk : TA} {sp : Sp} {gV : List V → List V → List V} {E : XK} {n m : Nat}
theorem caln (h : t σ H fun vs H1 => tk σ H1 fun zs H2 => vs.length = n ∧ zs.length = m ∧ sp (gV vs zs) H2 Q E) : tCallN n m sp gV E t tk σ H Q := h
theorem lnn {a b c d : Nat} {A : Prop} (e : a = c) (f : b = d) (h : A) : a = c ∧ b = d ∧ A := ⟨e, f, h⟩
end
/-! ### repr -/
mutual
/-- data of ints below 2 ^ 200, bools, None, in lists and tuples -/
def tame : PyData → Bool
  | .none | .bool _ => true
  | .int i => decide (i.natAbs < 2 ^ 200)
  | .list ds | .tuple ds => tameAll ds
  | .str x => PyData.showable (.str x) && PyData.leavesShort 201 (.str x)
  | _ => false
def tameAll : List PyData → Bool
  | [] => true
  | d :: ds => tame d && tameAll ds
end
theorem tame_int {i : Int} (h : i.natAbs < 2 ^ 200) : i.natAbs.log2 < 200 := by
  by_cases z : i.natAbs = 0
  · rw [z]; decide
  · exact (Nat.log2_lt z).mpr h
mutual
theorem tame_ok : ∀ d : PyData, tame d = true → d.showable = true ∧ d.hasDict = false ∧ d.leavesShort 201 = true
  | .none, _ => ⟨rfl, rfl, rfl⟩
  | .bool _, _ => ⟨rfl, rfl, rfl⟩
  | .int i, h => by
    have h' := tame_int (of_decide_eq_true (by simpa only [tame] using h))
    refine ⟨by simp only [PyData.showable]; exact decide_eq_true (by omega), rfl, ?_⟩
    simp only [PyData.leavesShort]
    exact decide_eq_true (by show (Str.ofString (toString i)).length ≤ 201; rw [PySem.ofString_length]; exact PySem.int_text_length_le (by decide) h')
  | .str x, h => by
    have h' : PyData.showable (.str x) = true ∧ PyData.leavesShort 201 (.str x) = true := by simpa only [tame, Bool.and_eq_true] using h
    exact ⟨h'.1, rfl, h'.2⟩
  | .dict _, h => by simp [tame] at h
  | .list ds, h => by
    have := tame_okAll ds (by simpa only [tame] using h)
    simpa only [PyData.showable, PyData.hasDict, PyData.leavesShort] using this
  | .tuple ds, h => by
    have := tame_okAll ds (by simpa only [tame] using h)
    simpa only [PyData.showable, PyData.hasDict, PyData.leavesShort] using this
theorem tame_okAll : ∀ ds : List PyData, tameAll ds = true → PyData.showableAll ds = true ∧ PyData.hasDictAll ds = false ∧ PyData.leavesShortAll 201 ds = true
  | [], _ => ⟨rfl, rfl, rfl⟩
  | d :: ds, h => by
    have h' : tame d = true ∧ tameAll ds = true := by simpa only [tameAll, Bool.and_eq_true] using h
    obtain ⟨a, b, c⟩ := tame_ok d h'.1
    obtain ⟨a', b', c'⟩ := tame_okAll ds h'.2
    simp only [PyData.showableAll, PyData.hasDictAll, PyData.leavesShortAll, a, b, c, a', b', c']
    decide
end
/-- repr of a list or a tuple -/
def rRepr (K : PySem.W.Frag) : List V → Hp → VK → Prop := fun vs H Q => ∃ a d, vs = [.ref a] ∧ Dp K H (.ref a) d ∧ tame d = true ∧ d.depth ≤ 60 ∧ d.bulk ≤ 60000 ∧ Q (.str d.shown) H
theorem krepr (K : PySem.W.Frag) {X : Cx} {k : Nat} (hG : X.A.guards = some []) (hr : Room k X.A) (h : X.K = K := by rfl) : CallR X (.builtin "repr") (rRepr K) := by
  subst h
  intro pins s σ H xs us Q I r hq
  obtain ⟨a, d, rfl, hd, ht, hdp, hb, q⟩ := hq
  obtain ⟨u, rfl, ru⟩ := vals1 r
  obtain rfl : u = Value.ref a := ru
  obtain ⟨as, rd⟩ := Dp.reads I d _ _ hd rfl
  obtain ⟨o1, o2, o3⟩ := tame_ok d ht
  have fits := PyData.shown_le_bulk 201 (by decide) d o3
  have un := hr.units
  refine repr_of_reads' rd o1 (PyData.noDict_hsm o2) hG (by omega) (fun _ _ e => e) (fun h' u tk hk => ⟨.str d.shown, H, ?_, ⟨u, rfl⟩, q⟩) (by rw [sizeLine_eq]; omega)
  exact I.kept hk
end HS
/-! The end of a proof whose law def is called while nothing is being shown. -/
namespace HS
open PySem PySem.Spec PyProof.Rows L2
section
variable {Pg : Program} {wd : World} {K : PySem.W.Frag} {mg mb : Str → Option Value} {C : CXT} {n : Nat} {fa a : Addr} {fd : FuncData} {x : Str} {sp : Sp} {s1 : Shared} {vs : List Value} {ns : List Int}
/-- what the caller's heap holds where the abstract heap tracks the script alone, or nothing -/
structure AtTop (Pg : Program) (wd : World) (K : PySem.W.Frag) (a : Addr) (ns : List Int) (s1 : Shared) (H : Hp) : Prop where
  only : Only H
  here : SqL K H a (ns.map V.int)
  hok : HOk Pg wd H s1.heap
  one : ∀ b, b ≠ a → H b = none
  out : H a = none ∨ K.lookup a = none
theorem top_run (T : AtTop Pg wd K a ns s1 H) (KX : K.In s1.heap) (g : s1.heap.Ns mainGlobals mg) (gb : s1.heap.Ns builtinsNs mb) (hb : ∀ y : Str, y ≠ "__name__" → mb y = bootBuiltins y) (lim : s1.heap.NoLimit) (hg : s1.gens = #[])
    (seq : ∃ o, s1.heap.get? a = some o ∧ ∃ us m, o.data = .seq us m) (hr : Room n callerA) (F : ∀ base : Heap, K.In base → base.Ns mainGlobals mg → FnG Pg wd K mg base C n fa fd [x] sp) (bd : ∀ (s : Shared) (u : Value), BindsTo s fd ⟨[u], []⟩ [(x, u)])
    (want : ∀ H : Hp, Only H → SqL K H a (ns.map V.int) → sp [.ref a] H (fun v _ => v = .bl true) fun _ _ _ => False) (noX : ∀ H e s', C [] H s1 (fun _ _ _ => False) e s' → False) :
    codeAny (model Pg wd) callerA (.call (.ref fa) ⟨[.ref a], []⟩) (fun r s' => r = .ok (.ret (.bool true)) ∧ OldK s1.heap s'.heap ∧ s'.os = s1.os ∧ AllBare s'.gens) s1 := by
  obtain ⟨oa, ea, us, m, da⟩ := seq
  -- the base: all but what is tracked
  have stays : ∀ {b : Addr} {o : Obj}, s1.heap.get? b = some o → (b = a → H a = none) → (hidT s1.heap H).get? b = some o := fun {b o} e h =>
    hidT_get e (by by_cases q : b = a; · subst q; exact h rfl
                   · exact T.one b q)
  have dict : ∀ {b : Addr} {f : Str → Option Value}, s1.heap.Ns b f → (hidT s1.heap H).Ns b f := by
    rintro b f ⟨o, es, ep, e, d, r⟩
    refine ⟨o, es, ep, stays e fun q => ?_, d, r⟩
    subst q
    rw [ea] at e
    cases e
    rw [da] at d
    cases d
  have kin : K.In (hidT s1.heap H) := fun b o e => stays (KX b o e) fun q => by
    subst q
    rcases T.out with h | h
    · exact h
    · rw [h] at e; cases e
  have md : Mod K mg (hidT s1.heap H) := ⟨kin, dict g, ⟨mb, dict gb, hb⟩, by obtain ⟨mc, l1, l2⟩ := lim; exact ⟨mc, dict l1, l2⟩⟩
  have e0 : Env0 Pg wd K mg (hidT s1.heap H) callerA [] s1 H := ⟨rfl, md, fun _ _ e => of_hidT e, Nat.le_of_eq (hidT_size _ _), trivial, nofun, T.hok, .of_eq hg⟩
  refine codeAny_mono ((F _ kin (dict g)).go callerA [] s1 H ⟨[.ref a], []⟩ [.ref a] [.ref a] _ _ rfl hr e0 (bd s1 (.ref a)) (.cons rfl .nil) (want H T.only T.here)) fun r s' y => ?_
  match r, y with
  | .error e, y => exact (noX H e s' y).elim
  | .ok (.ret u), y =>
    obtain ⟨v, H', os, bare, un, ok', rv, rfl⟩ := y
    obtain rfl : u = Value.bool true := rv
    refine ⟨rfl, OldK.of_keep fun b o e => ?_, os, bare⟩
    rcases T.only b with z | ⟨ob, xs, z⟩
    · exact un.keep b o e z nofun nofun
    · have t1 := (T.hok b _ z).1
      rw [e] at t1
      rw [Option.some.inj t1]
      exact (ok' b _ (un.frzs b ob _ z)).1
theorem top_at (KX : K.In s1.heap) (ha : s1.heap.get? a = some { cls := .type "list", data := .seq vs.toArray }) (hi : IntsAre vs ns) (hl : ns.length ≤ sizeLine) : ∃ H, AtTop Pg wd K a ns s1 H := by
  have rv := vals_ints hi
  by_cases hk : K.lookup a = none
  · refine ⟨fun b => if b = a then some (.frz { cls := .type "list", data := .seq vs.toArray } (.lst (ns.map V.int))) else none, fun b => ?_, .inl (.inr ⟨_, if_pos rfl⟩), fun b u z => ?_, fun b q => if_neg q, .inr hk⟩
    · by_cases q : b = a
      · exact .inr ⟨_, _, if_pos q⟩
      · exact .inl (if_neg q)
    · by_cases q : b = a
      · subst q
        rw [if_pos rfl] at z
        cases z
        exact ⟨ha, by rw [List.length_map]; exact hl, vs, _, rv, ha⟩
      · rw [if_neg q] at z
        cases z
  · obtain ⟨o, ho⟩ := Option.ne_none_iff_exists'.mp hk
    have e := KX a o ho
    rw [ha] at e
    cases e
    exact ⟨fun _ => none, fun _ => .inl rfl, .inr ⟨_, vs.toArray, _, ho, rfl, rfl, rfl, by rw [List.size_toArray, hi.length]; exact hl, by simpa using rv⟩, (fun _ _ z => nomatch z), fun _ _ => rfl, .inl rfl⟩
end
theorem walk_ofG {l : PySem.W.OpenLaw} {n k : Nat} {q : Program} {loose : List Str} {XP : (Str → Option Value) → Heap → Prop} {YP : World → Heap → Prop} {d : DefRec} {K : Params → PySem.W.Frag} {CX : World → CXT} {sp : World → Sp} {x : Str}
    (h1 : l.most = some n) (h2 : n ≤ sizeLine) (h3 : d.params.defaults = []) (hr : Room k callerA) (hY : ∀ (w : World) (h : Heap), YP w h → (K w.params).In h)
    (F : ∀ (w : World) (mg : Str → Option Value) (fa : Addr) (h : Heap), (K w.params).In h → h.Ns mainGlobals mg → mg d.name = some (.ref fa) → ∃ fd : FuncData, (∀ (s : Shared) (u : Value), BindsTo s fd ⟨[u], []⟩ [(x, u)]) ∧
      ∀ base : Heap, (K w.params).In base → base.Ns mainGlobals mg → FnG l.prog w (K w.params) mg base (CX w) k fa fd [x] (sp w))
    (want : ∀ (w : World) (H : Hp) (a : Addr) (ns : List Int), ns.length ≤ n → Only H → SqL (K w.params) H a (ns.map V.int) → sp w [.ref a] H (fun v _ => v = .bl true) fun _ _ _ => False)
    (noX : ∀ (w : World) (H : Hp) (s : Shared) (e : Value) (s' : Shared), CX w [] H s (fun _ _ _ => False) e s' → False) : PySem.W.WalkO q loose XP YP l.row.toRowW d [] (fun f vs => PySem.call f vs) :=
  Att.attach_call h1 h3 fun w _ s1 mg _ fa _ _ _ _ a vs ns G Y _ _ _ hm ho hi hl hg => by
    obtain ⟨fd, bd, hF⟩ := F w mg fa _ (hY w _ Y) G.T.g hm
    obtain ⟨H, T⟩ := top_at (Pg := l.prog) (wd := w) (hY w _ Y) ho hi (Nat.le_trans hl h2)
    exact top_run T (hY w _ Y) G.T.g G.T.b G.T.builtins G.T.nolimit hg ⟨_, ho, _, _, rfl⟩ hr hF bd (fun H o => want w H a ns hl o) fun H e s' => noX w H s1 e s'
end HS
/-! Powers of great numbers, [x] * n. -/
namespace HS
open PySem PySem.Spec PyProof.Rows L2
def CPowW (i j : Int) : Prop := 0 ≤ j ∧ (Builtin.Int.intBits i : Int) * j ≤ 2 ^ 27
section
variable {X : Cx} {σ : L2.St} {H : Hp} {Q : VK}
theorem op_powW : OpR X (binaryOp .Pow) (rI CPowW fun i j => .int (i ^ j.toNat)) := opI fun _ _ _ _ _ _ _ hc q => pow_int hc.1 hc.2 q
theorem bits_le {i : Int} (k : Nat) (h0 : 0 ≤ i) (h : i < 2 ^ k) : Builtin.Int.intBits i ≤ k := by
  unfold Builtin.Int.intBits
  by_cases z : i = 0
  · subst z; exact Nat.zero_le _
  · rw [if_neg (by simpa using z)]
    have z' : i.natAbs ≠ 0 := by omega
    have : i.natAbs.log2 < k := (Nat.log2_lt z').mpr (by
      have : ((i.natAbs : Nat) : Int) < ((2 ^ k : Nat) : Int) := by rw [Int.natAbs_of_nonneg h0]; simpa using h
      exact Int.ofNat_lt.mp this)
    omega
theorem powW {i : Int} (k : Nat) {j : Int} (h0 : 0 ≤ i) (h : i < 2 ^ k) (hj : 0 ≤ j) (hk : (k : Int) * j ≤ 2 ^ 27) : CPowW i j := by
  refine ⟨hj, Int.le_trans (Int.mul_le_mul_of_nonneg_right ?_ hj) hk⟩
  exact Int.ofNat_le.mpr (bits_le k h0 h)
theorem flat_one {v : V} : ∀ n : Nat, (List.replicate n [v]).flatten = List.replicate n v
  | 0 => rfl
  | n + 1 => by rw [List.replicate_succ, List.flatten_cons, flat_one n]; rfl
theorem rep1 {p : Addr} {v : V} {k : Int} (h : H p = some (.lst [v])) (hk : k ≤ 1000000) (h0 : 0 ≤ k) (q : ∀ p, H p = none → Q (.ref p) (upd H p (.lst (List.replicate k.toNat v)))) : rRep (.ref p) (.int k) H Q := by
  refine ⟨p, k, _, rfl, rfl, h, by omega, by omega, ?_, fun p hp => ?_⟩
  · rw [List.length_singleton, sizeLine_eq]; omega
  · rw [flat_one]; exact q p hp
end
end HS
/-! repr of lists of ints, and == of texts. -/
namespace HS
open PySem PySem.Spec PyProof.Rows L2
section
variable {H : Hp} {Q : VK} {K : PySem.W.Frag}
theorem rep {a : Addr} {d : PyData} (h : Dp K H (.ref a) d) (t : tame d = true) (hd : d.depth ≤ 60) (hb : d.bulk ≤ 60000) (q : Q (.str d.shown) H) : rRepr K [.ref a] H Q := ⟨a, d, rfl, h, t, hd, hb, q⟩
theorem eqSS {x : Str} (q : Q (.bl true) H) : rEq (.str x) (.str x) H Q := ⟨rfl, by rw [decide_eq_true rfl]; exact q⟩
theorem neSS {x : Str} (q : Q (.bl false) H) : rNe (.str x) (.str x) H Q := ⟨rfl, by rw [decide_eq_true rfl]; exact q⟩
/-- ints that are shown -/
def Tm (ns : List Int) : Prop := (∀ x ∈ ns, x.natAbs < 2 ^ 200) ∧ ns.length ≤ 5000
theorem tame_ints : ∀ ns : List Int, (∀ x ∈ ns, x.natAbs < 2 ^ 200) → tameAll (ns.map .int) = true
  | [], _ => rfl
  | n :: r, h => by
    rw [List.map_cons, tameAll, tame_ints r fun x hx => h x (List.mem_cons_of_mem _ hx)]
    simp only [tame, Bool.and_true]
    exact decide_eq_true (h n List.mem_cons_self)
theorem bulk_ints : ∀ ns : List Int, PyData.bulkAll (ns.map .int) = ns.length
  | [] => rfl
  | n :: r => by rw [List.map_cons, PyData.bulkAll, bulk_ints r, PyData.bulk, List.length_cons]; omega
theorem tm_tame {ns : List Int} (h : Tm ns) : tame (dInts ns) = true := by unfold dInts; rw [tame]; exact tame_ints ns h.1
theorem tm_bulk {ns : List Int} (h : Tm ns) : (dInts ns).bulk ≤ 5000 := by unfold dInts; rw [PyData.bulk, bulk_ints]; exact h.2
theorem dInts_depth (ns : List Int) : (dInts ns).depth = 1 := by unfold dInts; rw [PyData.depth, dep_ints]
/-- repr of a list of ints -/
theorem repI {a : Addr} {ns : List Int} (h : SqL K H a (ns.map V.int)) (t : Tm ns) (q : Q (.str (dInts ns).shown) H) : rRepr K [.ref a] H Q :=
  rep (dp_ints h) (tm_tame t) (by rw [dInts_depth]; decide) (Nat.le_trans (tm_bulk t) (by decide)) q
/-- repr of a list of two lists of ints -/
def dII (xs ys : List Int) : PyData := .list [dInts xs, dInts ys]
theorem repII {a p r : Addr} {xs ys : List Int} (h : SqL K H a [.ref p, .ref r]) (h1 : SqL K H p (xs.map V.int)) (h2 : SqL K H r (ys.map V.int)) (t1 : Tm xs) (t2 : Tm ys) (q : Q (.str (dII xs ys).shown) H) : rRepr K [.ref a] H Q := by
  refine rep (.lst h (.cons (dp_ints h1) (.cons (dp_ints h2) .nil))) ?_ ?_ ?_ q
  · rw [tame, tameAll, tameAll, tameAll, tm_tame t1, tm_tame t2]; rfl
  · rw [PyData.depth, PyData.depthAll, PyData.depthAll, PyData.depthAll, dInts_depth, dInts_depth]; decide
  · have := tm_bulk t1
    have := tm_bulk t2
    rw [PyData.bulk, PyData.bulkAll, PyData.bulkAll, PyData.bulkAll]; omega
theorem tm_of {ns : List Int} {B : Int} (hB : B < 2 ^ 200) (h : ∀ x ∈ ns, 0 ≤ x ∧ x ≤ B) (hl : ns.length ≤ 5000) : Tm ns := ⟨fun x hx => by have := h x hx; omega, hl⟩
end
end HS
/-! Texts: joined, shown ints, ==. -/
namespace HS
open PySem PySem.Spec PyProof.Rows L2
section
variable {σ : L2.St} {H : Hp} {Q : VK} {te to : TE} {K : PySem.W.Frag}
theorem js {t : TE} {ts : List TE} {acc : Str} {q : Str → Hp → Prop} (h : t σ H fun x H1 => ∃ y : Str, x = .str y ∧ (acc ++ y).length ≤ sizeLine ∧ tJs ts (acc ++ y) σ H1 q) : tJs (t :: ts) acc σ H q := h
theorem jsn {acc : Str} {q : Str → Hp → Prop} (h : q acc H) : tJs [] acc σ H q := h
theorem fmt (h : te σ H fun x H1 => (∃ y : Str, x = .str y ∧ y.length ≤ sizeLine ∧ Q (.str y) H1) ∨ ∃ i : Int, x = .int i ∧ i.natAbs.log2 < 1920 ∧ Q (.str (toString i)) H1) : tFmt te σ H Q := h
theorem fmtI {i : Int} (h : i.natAbs.log2 < 1920 ∧ Q (.str (toString i)) H) : (∃ y : Str, V.int i = .str y ∧ y.length ≤ sizeLine ∧ Q (.str y) H) ∨ ∃ j : Int, V.int i = .int j ∧ j.natAbs.log2 < 1920 ∧ Q (.str (toString j)) H := .inr ⟨i, rfl, h⟩
theorem m1S {r : V → List V → Hp → VK → Prop} (h : to σ H fun x H1 => (∃ a, x = .str a) ∧ te σ H1 fun y H2 => r x [y] H2 Q) : tM1 r to te σ H Q := h
theorem m0S {r : V → List V → Hp → VK → Prop} (h : to σ H fun x H1 => (∃ a, x = .str a) ∧ r x [] H1 Q) : tM0 r to σ H Q := h
theorem strE {x : Str} {A : Prop} (h : A) : (∃ a, V.str x = .str a) ∧ A := ⟨⟨x, rfl⟩, h⟩
theorem atN {α : Type} {xs : List α} {i : Int} {v : α} (j : Nat) (e : i = j) (h : xs[j]? = some v) : atI xs i = some v := by
  subst e
  have hj := (List.getElem?_eq_some_iff.mp h).1
  unfold atI ixN
  rw [if_pos (by omega), if_pos (by omega)]
  exact h
theorem lg {z : Int} (h : z.natAbs < 2 ^ 200) : z.natAbs.log2 < 1920 := by
  by_cases e : z.natAbs = 0
  · rw [e]; decide
  · exact Nat.lt_of_lt_of_le ((Nat.log2_lt e).mpr h) (by decide)
theorem eqStr {x y : Str} (q : Q (.bl (decide (x = y))) H) : rEq (.str x) (.str y) H Q := ⟨rfl, by
  have e : decide ((V.str x) = V.str y) = decide (x = y) := by
    by_cases h : x = y
    · rw [h]; simp
    · have h2 : ¬ (V.str x = V.str y) := fun z => h (V.str.inj z)
      rw [decide_eq_false h, decide_eq_false h2]
  rw [e]; exact q⟩
theorem neStr {x y : Str} (q : Q (.bl (!decide (x = y))) H) : rNe (.str x) (.str y) H Q := ⟨rfl, by
  have e : decide ((V.str x) = V.str y) = decide (x = y) := by
    by_cases h : x = y
    · rw [h]; simp
    · have h2 : ¬ (V.str x = V.str y) := fun z => h (V.str.inj z)
      rw [decide_eq_false h, decide_eq_false h2]
  rw [e]; exact q⟩
theorem addS {x y : Str} (q : x.length + y.length ≤ sizeLine ∧ Q (.str (x ++ y)) H) : ∃ i j : Str, V.str x = V.str i ∧ V.str y = .str j ∧ i.length + j.length ≤ sizeLine ∧ Q (.str (i ++ j)) H := ⟨x, y, rfl, rfl, q⟩
end
theorem cutS_to (z : Str) (n : Nat) : (cutS z none (some (n : Int))).cps.toList = z.cps.toList.take n := by
  unfold cutS
  rw [HT.sIx_none, HT.sIx_nat, List.drop_zero, Nat.sub_zero]
  show List.take (min n z.length) z.cps.toList = _
  rw [List.take_eq_take_iff]
  have : z.length = z.cps.toList.length := by rw [Array.length_toList]; rfl
  omega
theorem cutS_from (z : Str) (n : Nat) : (cutS z (some (n : Int)) none).cps.toList = z.cps.toList.drop n := by
  have hl : z.length = z.cps.toList.length := by rw [Array.length_toList]; rfl
  unfold cutS
  rw [HT.sIx_none, HT.sIx_nat]
  show List.take (z.length - min n z.length) (List.drop (min n z.length) z.cps.toList) = _
  rw [List.take_of_length_le (by rw [List.length_drop]; omega)]
  by_cases h : n ≤ z.length
  · rw [Nat.min_eq_left h]
  · rw [Nat.min_eq_right (by omega), List.drop_eq_nil_of_le (by omega), List.drop_eq_nil_of_le (by omega)]
end HS
/-! Lists of new triples of ints. -/
namespace HS
open PySem PySem.Spec PyProof.Rows L2
/-- the refs of vs are tuples of these triples -/
def Tri (H : Hp) : List V → List (Int × Int × Int) → Prop
  | [], [] => True
  | v :: vs, p :: ps => (∃ t, v = .ref t ∧ H t = some (.tup [.int p.1, .int p.2.1, .int p.2.2])) ∧ Tri H vs ps
  | _, _ => False
theorem Tri.keep {S : Addr → Prop} {H H' : Hp} (k : Keep S H H') : ∀ {vs : List V} {ps : List (Int × Int × Int)}, Tri H vs ps → (∀ v ∈ vs, ∀ t, v = .ref t → ¬ S t) → Tri H' vs ps
  | [], [], h, _ => h
  | _ :: _, _ :: _, ⟨⟨t, e, o⟩, h⟩, n => ⟨⟨t, e, k t _ o (n _ List.mem_cons_self t e)⟩, h.keep k fun v hv => n v (List.mem_cons_of_mem _ hv)⟩
theorem Tri.same {H H' : Hp} {vs : List V} {ps : List (Int × Int × Int)} (h : Tri H vs ps) (k : Keep (fun _ => False) H H') : Tri H' vs ps := h.keep k fun _ _ _ _ z => z
theorem Tri.app {H : Hp} : ∀ {vs ws : List V} {ps qs : List (Int × Int × Int)}, Tri H vs ps → Tri H ws qs → Tri H (vs ++ ws) (ps ++ qs)
  | [], _, [], _, _, g => g
  | _ :: _, _, _ :: _, _, ⟨a, h⟩, g => ⟨a, h.app g⟩
theorem Tri.len {H : Hp} : ∀ {vs : List V} {ps : List (Int × Int × Int)}, Tri H vs ps → vs.length = ps.length
  | [], [], _ => rfl
  | _ :: _, _ :: _, ⟨_, h⟩ => by rw [List.length_cons, List.length_cons, h.len]
theorem Tri.at {H : Hp} : ∀ {vs : List V} {ps : List (Int × Int × Int)}, Tri H vs ps → ∀ {i : Nat} {v : V}, vs[i]? = some v → ∃ t p, v = .ref t ∧ ps[i]? = some p ∧ H t = some (.tup [.int p.1, .int p.2.1, .int p.2.2])
  | [], [], _, i, v, hv => by simp at hv
  | _ :: _, p :: _, ⟨⟨t, e, o⟩, _⟩, 0, v, hv => by
    cases hv
    exact ⟨t, p, e, rfl, o⟩
  | _ :: _, _ :: _, ⟨_, h⟩, i + 1, v, hv => h.at (i := i) hv
theorem Tri.split {H : Hp} : ∀ {vs : List V} {ps : List (Int × Int × Int)} {p : Int × Int × Int}, Tri H vs (ps ++ [p]) → ∃ us t, vs = us ++ [.ref t] ∧ Tri H us ps ∧ H t = some (.tup [.int p.1, .int p.2.1, .int p.2.2])
  | [], ps, p, h => by cases ps <;> exact h.elim
  | v :: vs, [], p, ⟨⟨t, e, o⟩, h⟩ => by
    cases vs with
    | nil => exact ⟨[], t, by rw [e]; rfl, trivial, o⟩
    | cons _ _ => exact h.elim
  | v :: vs, q :: ps, p, ⟨a, h⟩ => by
    obtain ⟨us, t, e, g, o⟩ := h.split
    exact ⟨v :: us, t, by rw [e]; rfl, ⟨a, g⟩, o⟩
theorem Tri.lst {H : Hp} {L : Addr} {ws : List V} (hL : H L = some (.lst ws)) : ∀ {vs : List V} {ps : List (Int × Int × Int)}, Tri H vs ps → ∀ v ∈ vs, ∀ t, v = .ref t → t ≠ L
  | [], [], _, v, hv => by cases hv
  | w :: vs, p :: ps, ⟨⟨t, e, o⟩, h⟩, v, hv => fun u eu z => by
    rcases List.mem_cons.mp hv with hv | hv
    · subst hv
      rw [e] at eu
      cases eu
      rw [z, hL] at o
      cases o
    · exact h.lst hL v hv u eu z
theorem Tri.put {H : Hp} {L : Addr} {ws : List V} {o : HO} (hL : H L = some (.lst ws)) {vs : List V} {ps : List (Int × Int × Int)} (h : Tri H vs ps) : Tri (upd H L o) vs ps :=
  h.keep (S := fun a => a = L) (HS.Keep.at HS.Keep.refl rfl) (Tri.lst hL h)
theorem atLst {xs ys : List V} {v : V} (h : xs = ys ++ [v]) : atI xs (-1) = some v := by
  subst h
  unfold atI ixN
  rw [if_neg (by decide), if_pos (by rw [List.length_append, List.length_singleton]; omega)]
  show (ys ++ [v])[((-1 : Int) + (ys ++ [v]).length).toNat]? = some v
  rw [List.length_append, List.length_singleton, show ((-1 : Int) + ((ys.length + 1 : Nat) : Int)).toNat = ys.length by omega, List.getElem?_append_right (Nat.le_refl _), Nat.sub_self]
  rfl
theorem setLst {p : Addr} {ys : List V} {v w : V} {H : Hp} {q : Hp → Prop} (h : H p = some (.lst (ys ++ [v]))) (g : q (upd H p (.lst (ys ++ [w])))) : rSetL (.ref p) (.int (-1)) w H q := by
  refine HS.setL h (j := ys.length) ?_ ?_
  · unfold ixN
    rw [if_neg (by decide), if_pos (by rw [List.length_append, List.length_singleton]; omega)]
    congr 1
    rw [List.length_append, List.length_singleton]
    omega
  · rw [List.set_append_right _ _ (Nat.le_refl _), Nat.sub_self]
    exact g
end HS
/-! What _law_same looks at: pairs, triples. -/
namespace HS
open PySem PySem.Spec PyProof.Rows L2
section
variable {K : PySem.W.Frag} {H : Hp} {n : Nat} {a b : Addr}
theorem smI {i j : Int} (h : i = j) : SmV K H n (.int i) (.int j) := by rw [h]; exact .int j
theorem smT3 {x y z x' y' z' : Int} (h1 : H a = some (.tup [.int x, .int y, .int z])) (h2 : H b = some (.tup [.int x', .int y', .int z'])) (e1 : x = x') (e2 : y = y') (e3 : z = z') : SmV K H (n + 1) (.ref a) (.ref b) := by
  subst e1 e2 e3
  refine .tup h1 h2 rfl (show 3 ≤ 1000 by decide) fun i u v g1 g2 => ?_
  rw [g1] at g2
  cases g2
  match i, g1 with
  | 0, g1 => cases g1; exact .int _
  | 1, g1 => cases g1; exact .int _
  | 2, g1 => cases g1; exact .int _
  | _ + 3, g1 => cases g1
theorem sm2 {x y x' y' : V} (h1 : H a = some (.lst [x, y])) (h2 : H b = some (.lst [x', y'])) (s1 : SmV K H n x x') (s2 : SmV K H n y y') : SmV K H (n + 1) (.ref a) (.ref b) := by
  refine .lst h1 h2 rfl (show 2 ≤ 1000 by decide) fun i u v g1 g2 => ?_
  match i, g1, g2 with
  | 0, g1, g2 => cases g1; cases g2; exact s1
  | 1, g1, g2 => cases g1; cases g2; exact s2
  | _ + 2, g1, g2 => cases g1
theorem smL {xs : List Int} (h1 : H a = some (.lst (xs.map V.int))) (h2 : H b = some (.lst (xs.map V.int))) (hl : xs.length ≤ 1000) : SmV K H (n + 1) (.ref a) (.ref b) := by
  refine .lst h1 h2 rfl (by rw [List.length_map]; exact hl) fun i u v g1 g2 => ?_
  rw [g1] at g2
  cases g2
  rw [List.getElem?_map] at g1
  cases e : xs[i]? with
  | none => rw [e] at g1; cases g1
  | some z => rw [e] at g1; cases g1; exact .int _
/-- == of two tuples of ints -/
theorem sh_tints (ns : List Int) : SeqAt.shaped (.tuple (ns.map .int)) = true := by
  unfold SeqAt.shaped
  rw [PyData.canLay0, PyData.depth, lay_ints, dep_ints]; rfl
theorem eqT {xs ys : List Int} {Q : VK} (h1 : SqT K H a (xs.map V.int)) (h2 : SqT K H b (ys.map V.int)) (q : Q (.bl (decide (xs = ys))) H) : rEqD K (.ref a) (.ref b) H Q :=
  ⟨.tuple (xs.map .int), .tuple (ys.map .int), .tup h1 (dpAll_ints xs), .tup h2 (dpAll_ints ys), sh_tints _, sh_tints _, by rw [PyData.eqv, eqvAll_ints]; exact q⟩
end
end HS
/-! A for whose body hands out (own rule over HandS.GenBody). -/
namespace HS
open PySem PySem.Spec PyProof.Rows L2
def tGFor (wi : TI) (g : TG) (tb : TGn) : TGn := fun D ys σ H => wi σ H fun J H1 => ∃ W : Nat → Nat → List V → L2.St → Hp → Prop, (∃ m, W 0 m ys σ H1) ∧ ∀ i m ys σ H, W i m ys σ H →
  (J.stop i H ∧ D.nx ys σ H) ∨ (J.go i H ∧ ∃ N : List V → L2.St → Hp → Prop, (∀ ys' σ' H', N ys' σ' H' → ∃ m', m' < m ∧ W (i + 1) m' ys' σ' H') ∧ ∀ x H', J.yld i H x H' → g x σ H' fun σ2 H2 => tb { D with nx := N, ct := N, bk := D.nx } ys σ2 H2)
section
variable {X : Cx}
theorem gs_for {tg iter : Expr} {body : List Stmt} {wi : TI} {g : TG} {tb : TGn} {pos : Pos} (hp : PassesOwn (model X.prog X.w) X.A X.env X.xe) (hc : X.calm = true) (hi : PI X tg iter wi) (hg : PG X tg g) (hb : GSs X body tb)
    (hs : ∀ x, foldedSetIterable iter X.env x = pure x := by intro _; rfl) : GS X (.For tg iter body [] pos) (tGFor wi g tb) := by
  refine ⟨fun A S ip R n ys s₀ c fs K J gd lv s σ H D gc hn k hI ht => ?_⟩
  obtain ⟨acc0, cc0, r0, I0⟩ := hI
  rw [exec_For]
  show Seg _ _ _ _ _ _ _ (.at pos fun _ => (eval iter X.env >>= fun v => (foldedSetIterable iter X.env v >>= fun x => (standAt iter.pos >>= fun _ => (holding [x] (pyIter x) >>= fun itv => runOwn (.forLoop tg itv body [] X.env) X.env)))).wrap K J gd lv) _ _
  refine seg_at (seg_bind_wrap ?_)
  rw [gc.over]
  refine wpAny_mono (hi.run _ s σ H _ I0 ht) (fun v s1 h1 => ?_) fun x s' hx => k.exc n s₀ x s' hx
  rw [hs v]
  refine seg_bind_wrap (wpAny_pure ?_)
  refine seg_bind_wrap (wpAny_standAt ?_)
  refine seg_bind_wrap ?_
  rw [gc.over]
  refine wpAny_holding (wpAny_mono h1 (fun itv s2 h2 => ?_) fun x s' hx => k.exc n s₀ x s' hx)
  obtain ⟨it, fp, tn, Jt, H2, e, I2, T, st2, f2, W, ⟨m0, w0⟩, turn⟩ := h2
  subst e
  have stat : ∀ {H' : Hp} (acc : Array Value) (cc : Nat), (∀ b ∈ fp, H' b = none) → ∀ b ∈ fp, FpOk X ((S, lstObj acc cc) :: ip) H' b := fun {H'} acc cc hn b hb => by
    obtain ⟨_, q1, q2, q3, q4, q5⟩ := f2 b hb
    refine ⟨hn b hb, q1, q2, q3, q4, fun p hp => ?_⟩
    rcases List.mem_append.mp hp with z | z
    · exact q5 p (List.mem_append_left _ z)
    · rcases List.mem_cons.mp z with z | z
      · rw [z]; exact q5 (S, lstObj acc0 cc0) (List.mem_append_right _ List.mem_cons_self)
      · exact q5 p (List.mem_append_right _ (List.mem_cons_of_mem _ z))
  have neS : ∀ b ∈ fp, b ≠ S := fun b hb z => (f2 b hb).2.2.2.2.2 (S, lstObj acc0 cc0) (List.mem_append_right _ List.mem_cons_self) z.symm
  refine seg_call fun p => ?_
  have gl := fun (kk : Result → Sem PySem.Fin) => gc_loop (k := kk) (c' := .forLoop tg (.ref it) body [] X.env) (l := lv []) (kp := []) (p := p) gc rfl rfl
  have loop : ∀ (m i n : Nat) (ys : List V) (s₀ s : Shared) (σ : L2.St) (H : Hp), n + ys.length = sizeLine → W i m ys σ H → GI X S ip ys σ H s → tn i s.heap → (∀ b ∈ fp, H b = none) →
      Seg (model X.prog X.w) A R (GY X S) n s₀ (.forLoop tg (.ref it) body [] X.env) ((model X.prog X.w).den (.forLoop tg (.ref it) body [] X.env))
        (.ret (fun r => ((match r with | .ok f => (.pure f : Sem Flow) | .error e => .raise e).onRaise (cameBack X.env)).wrap K J gd lv) none (gd false) (lv []) c p [] :: fs) s := by
    intro m
    induction m using Nat.strongRecOn with
    | ind m ih =>
      intro i n ys s₀ s σ H hn w hI st fr
      have ee : ∀ (n : Nat) (s₀ : Shared) (x : Value) (s' : Shared), X.xe x s' → Seg (model X.prog X.w) A R (GY X S) n s₀ (.forLoop tg (.ref it) body [] X.env)
          ((do noteFrame x X.env; theTreesLotGoes x : Sem Unit).bind (fun _ => .raise x))
          (.ret (fun r => ((match r with | .ok f => (.pure f : Sem Flow) | .error e => .raise e).onRaise (cameBack X.env)).wrap K J gd lv) none (gd false) (lv []) c p [] :: fs) s' := fun n s₀ x s' hx => by
        rw [Sem.bind_eq_wrap]
        refine seg_wrap ?_
        rw [(gl _).over]
        refine wpAny_bind (wpAny_mono (hp x s' hx) (fun _ s'' hcb => wpAny_theTreesLotGoes ?_) fun y s'' hcb => ?_)
        · exact seg_leaf (.error x) (seg_cameBack gc k hcb)
        · exact seg_leaf (.error y) (seg_cameBack gc k hcb)
      show Seg _ A R (GY X S) n s₀ _ ((forTurn tg (.ref it) body [] X.env).onRaise (fun x => do noteFrame x X.env; theTreesLotGoes x)) _ s
      unfold forTurn
      rw [Sem.onRaise_eq_wrap]
      refine seg_bind_wrap (wpAny_standAt ?_)
      refine seg_bind_wrap ?_
      rw [(gl _).over]
      obtain ⟨acc, cc, r, I⟩ := hI
      rcases turn i m ys σ H w with ⟨stop, qn⟩ | ⟨go, N, hN, step⟩
      · refine wpAny_onRaise (wpAny_mono (T.done X rfl rfl rfl hc i _ s σ H X.xe I (stat acc cc fr) st stop) (fun r' s4 h4 => ?_) fun x s' hx => wpAny_standAt (ee n s₀ x s' hx))
        obtain ⟨hr, I4⟩ := h4
        subst hr
        refine seg_again rfl ?_
        show Seg _ A R (GY X S) n s₀ _ (((execs [] X.env).onRaise (fun x => do noteFrame x X.env; theTreesLotGoes x)) >>= fun f => .pure (Fin.done f)) _ s4
        exact seg_leaf (.ok .next) (k.ok n ys s₀ s4 .next hn ⟨σ, H, ⟨acc, cc, r, I4⟩, qn⟩)
      · refine wpAny_onRaise (wpAny_mono (T.item X rfl rfl rfl hc i _ s σ H X.xe I (stat acc cc fr) st go) (fun r' s4 h4 => ?_) fun x s' hx => wpAny_standAt (ee n s₀ x s' hx))
        obtain ⟨u, hr, h4⟩ := h4
        subst hr
        refine seg_bind_wrap ?_
        rw [(gl _).over]
        refine wpAny_mono h4 (fun _ s5 h5 => ?_) fun x s' hx => ee n s₀ x s' hx
        obtain ⟨x, H5, I5, r5, y5, st5, fr5⟩ := h5
        have I5' := I5.pinned (stat acc cc fr5) (T.obj _ _ st5)
        refine seg_bind_wrap ?_
        rw [(gl _).over]
        refine wpAny_mono (hg.run _ s5 σ H5 x u _ I5' r5 (step x H5 y5)) (fun _ s6 h6 => ?_) fun x s' hx => ee n s₀ x s' hx
        obtain ⟨σ6, H6, I6, q6⟩ := h6
        rw [Sem.bind_eq_wrap', Sem.wrap_wrap]
        refine hb.run A S (ip ++ pinsAt fp s5.heap) R n ys s₀ _ _ _ _ _ _ s6 σ6 H6 { D with nx := N, ct := N, bk := D.nx } ⟨gc.pn, fun p hp => ?_, gc.apart, (gl _).over, (gl _).split, (gl _).guard, rfl⟩ hn ⟨fun n' ys' s₀' s7 f hn' hs => ?_, fun n' s₀' x s3 hx => ee n' s₀' x s3 hx⟩ ⟨acc, cc, r, I6⟩ q6
        · rcases List.mem_append.mp hp with z | z
          · exact gc.ip p z
          · exact neS _ (of_pinsAt z).1
        · have again : ∀ {σ7 : L2.St} {H7 : Hp}, GI X S (ip ++ pinsAt fp s5.heap) ys' σ7 H7 s7 → GI X S ip ys' σ7 H7 s7 ∧ tn (i + 1) s7.heap ∧ ∀ b ∈ fp, H7 b = none := fun {σ7 H7} hI => by
            obtain ⟨acc7, cc7, r7, I7⟩ := hI
            have pin : ∀ b ∈ fp, ∀ o, s5.heap.get? b = some o → s7.heap.get? b = some o ∧ H7 b = none := fun b hb o e => by
              have z := I7.pin (b, o) (List.mem_append_right _ (List.mem_cons_of_mem _ (List.mem_append_right _ (mem_pinsAt hb e))))
              exact ⟨z.1, z.2.1⟩
            have I7' : Inv X ((S, lstObj acc7 cc7) :: ip) σ7 H7 s7 := Inv.unpinned (pins := (S, lstObj acc7 cc7) :: ip) (pl := pinsAt fp s5.heap) I7
            refine ⟨⟨acc7, cc7, r7, I7'⟩, T.keep _ _ _ st5 fun b hb o e => (pin b hb o e).1, fun b hb => ?_⟩
            obtain ⟨o, e, _⟩ := T.obj _ _ st5 b hb
            exact (pin b hb o e).2
          cases f with
          | next =>
            obtain ⟨σ7, H7, I7, n7⟩ := hs
            obtain ⟨m', hm, w7⟩ := hN ys' σ7 H7 n7
            obtain ⟨g1, g2, g3⟩ := again I7
            exact seg_again rfl (ih m' hm (i + 1) n' ys' s₀' s7 σ7 H7 hn' w7 g1 g2 g3)
          | cont =>
            obtain ⟨σ7, H7, I7, n7⟩ := hs
            obtain ⟨m', hm, w7⟩ := hN ys' σ7 H7 n7
            obtain ⟨g1, g2, g3⟩ := again I7
            exact seg_again rfl (ih m' hm (i + 1) n' ys' s₀' s7 σ7 H7 hn' w7 g1 g2 g3)
          | brk =>
            obtain ⟨σ7, H7, I7, q7⟩ := hs
            exact seg_leaf (.ok .next) (k.ok n' ys' s₀' s7 .next hn' ⟨σ7, H7, (again I7).1, q7⟩)
          | ret v =>
            obtain ⟨x7, σ7, H7, I7, r7, q7⟩ := hs
            exact seg_leaf (.ok (.ret v)) (k.ok n' ys' s₀' s7 (.ret v) hn' ⟨x7, σ7, H7, (again I7).1, r7, q7⟩)
  exact loop m0 0 n ys s₀ s2 σ H2 hn w0 ⟨acc0, cc0, r0, I2⟩ st2 fun b hb => (f2 b hb).1
end
end HS
namespace HS
open PySem PySem.Spec PyProof.Rows L2
section
variable {σ : L2.St} {H : Hp} {g : TG} {tb : TGn} {n bk ct : List V → L2.St → Hp → Prop} {rt : List V → VK} {ys : List V}
theorem gfr {wi : TI} (h : wi σ H fun J H1 => ∃ W : Nat → Nat → List V → L2.St → Hp → Prop, (∃ m, W 0 m ys σ H1) ∧ ∀ i m ys σ H, W i m ys σ H →
  (J.stop i H ∧ n ys σ H) ∨ (J.go i H ∧ ∃ N : List V → L2.St → Hp → Prop, (∀ ys' σ' H', N ys' σ' H' → ∃ m', m' < m ∧ W (i + 1) m' ys' σ' H') ∧ ∀ x H', J.yld i H x H' → g x σ H' fun σ2 H2 => tb ⟨N, rt, n, N⟩ ys σ2 H2)) : tGFor wi g tb ⟨n, rt, bk, ct⟩ ys σ H := h
theorem gfor_range {lo : Int} {m : Nat} (Pv : Nat → List V → L2.St → Hp → Prop) (h0 : Pv 0 ys σ H)
    (hs : ∀ i ys σ H, i < m → Pv i ys σ H → g (.int (lo + i)) σ H fun σ2 H2 => tb ⟨Pv (i + 1), rt, n, Pv (i + 1)⟩ ys σ2 H2) (hd : ∀ ys σ H, Pv m ys σ H → n ys σ H) :
    ∃ W : Nat → Nat → List V → L2.St → Hp → Prop, (∃ m, W 0 m ys σ H) ∧ ∀ i m' ys σ H, W i m' ys σ H →
      ((Itr lo m).stop i H ∧ n ys σ H) ∨ ((Itr lo m).go i H ∧ ∃ N : List V → L2.St → Hp → Prop, (∀ ys' σ' H', N ys' σ' H' → ∃ m'', m'' < m' ∧ W (i + 1) m'' ys' σ' H') ∧ ∀ x H', (Itr lo m).yld i H x H' → g x σ H' fun σ2 H2 => tb ⟨N, rt, n, N⟩ ys σ2 H2) := by
  refine ⟨fun i k ys σ H => k = m - i ∧ i ≤ m ∧ Pv i ys σ H, ⟨m, by simp, Nat.zero_le _, h0⟩, ?_⟩
  rintro i k ys σ H ⟨rfl, hi, p⟩
  by_cases hlt : i < m
  · refine .inr ⟨hlt, Pv (i + 1), fun ys' σ' H' p' => ⟨m - (i + 1), by omega, rfl, hlt, p'⟩, fun x H' y => ?_⟩
    obtain ⟨rfl, rfl⟩ := y
    exact hs i ys σ _ hlt p
  · have e : i = m := by omega
    subst e
    exact .inl ⟨Nat.le_refl _, hd ys σ H p⟩
end
end HS
/-! What stands in a heap, told as one list: addresses that differ, each with what is known of its object. -/
namespace HS
open PySem PySem.Spec PyProof.Rows L2
abbrev WdL := List (Addr × (HO → Prop))
/-- H0: the heap at the entry; S: what may have changed there; l: what is known now -/
structure Wd (H0 H : Hp) (S : Addr → Prop) (l : WdL) : Prop where
  nd : (l.map (·.1)).Nodup
  at_ : ∀ x ∈ l, ∃ o, H x.1 = some o ∧ x.2 o
  kp : Keep S H0 H
  fr : ∀ x ∈ l, S x.1 ∨ H0 x.1 = none
section
variable {H0 H H' : Hp} {S : Addr → Prop} {l l' : WdL} {p q : Addr} {o : HO} {P P' : HO → Prop} {i j : Nat}
theorem Wd.nil : Wd H H S [] := ⟨.nil, fun _ h => absurd h List.not_mem_nil, .refl, fun _ h => absurd h List.not_mem_nil⟩
theorem nd_snoc {l : WdL} {P : HO → Prop} (nd : (l.map (·.1)).Nodup) (n : ∀ x ∈ l, x.1 ≠ p) : ((l ++ [(p, P)]).map (·.1)).Nodup := by
  rw [List.map_append, List.nodup_append]
  refine ⟨nd, List.nodup_cons.mpr ⟨List.not_mem_nil, .nil⟩, fun a ha b hb e => ?_⟩
  obtain ⟨x, hx, rfl⟩ := List.mem_map.mp ha
  have hb' : b = p := List.mem_singleton.mp hb
  exact n x hx (e.trans hb')
theorem mem_snoc {l : WdL} {x y : Addr × (HO → Prop)} (h : x ∈ l ++ [y]) : x ∈ l ∨ x = y := by
  rcases List.mem_append.mp h with h | h
  · exact .inl h
  · exact .inr (List.mem_singleton.mp h)
/-- what stood at the entry and may change -/
theorem Wd.old (W : Wd H0 H S l) (h : H p = some o) (hp : P o) (s : S p) (n : ∀ x ∈ l, x.1 ≠ p) : Wd H0 H S (l ++ [(p, P)]) := by
  refine ⟨nd_snoc W.nd n, fun x hx => ?_, W.kp, fun x hx => ?_⟩
  · rcases mem_snoc hx with hx | e
    · exact W.at_ x hx
    · subst e; exact ⟨o, h, hp⟩
  · rcases mem_snoc hx with hx | e
    · exact W.fr x hx
    · subst e; exact .inl s
theorem Wd.one (h : H p = some o) (hp : P o) (s : S p) : Wd H H S [(p, P)] := Wd.nil.old h hp s fun _ h => absurd h List.not_mem_nil
theorem Wd.get (W : Wd H0 H S l) (i : Nat) (e : l[i]? = some (p, P)) : ∃ o, H p = some o ∧ P o := W.at_ _ (List.mem_of_getElem? e)
theorem Wd.at (W : Wd H0 H S l) (i : Nat) (e : l[i]? = some (p, Eq o)) : H p = some o := by
  obtain ⟨o', h, e'⟩ := W.get i e
  cases e'; exact h
theorem Wd.sq {K : PySem.W.Frag} {xs : List V} (W : Wd H0 H S l) (i : Nat) (e : l[i]? = some (p, Eq (.lst xs))) : SqL K H p xs := HS.sq (W.at i e)
theorem Wd.same (W : Wd H0 H S l) (k : Keep (fun _ => False) H H') : Wd H0 H' S l :=
  ⟨W.nd, fun x hx => let ⟨o, h, z⟩ := W.at_ x hx; ⟨o, k _ _ h id, z⟩, W.kp.trans k.any, W.fr⟩
theorem Wd.miss (W : Wd H0 H S l) (h : H p = none) : ∀ x ∈ l, x.1 ≠ p := fun x hx e => by
  obtain ⟨o', h', _⟩ := W.at_ x hx
  rw [e, h] at h'; cases h'
/-- an object that some call has made: it was not there before the call -/
theorem Wd.made (W : Wd H0 H S l) {H1 : Hp} (k : Keep (fun _ => False) H H1) (h0 : H p = none) (h : H1 p = some o) (z : P o) : Wd H0 H1 S (l ++ [(p, P)]) := by
  have W1 := W.same k
  refine ⟨nd_snoc W.nd (W.miss h0), fun x hx => ?_, W1.kp, fun x hx => ?_⟩
  · rcases mem_snoc hx with hx | e
    · exact W1.at_ x hx
    · subst e; exact ⟨o, h, z⟩
  · rcases mem_snoc hx with hx | e
    · exact W.fr x hx
    · subst e
      by_cases s : S p
      · exact .inl s
      · exact .inr (W.kp.free h0 s)
theorem Wd.new (W : Wd H0 H S l) (h : H p = none) (z : P o) : Wd H0 (upd H p o) S (l ++ [(p, P)]) := W.made (Keep.new h) h upd_same z
/-- the same, the new heap by its name -/
theorem Wd.newG (W : Wd H0 H S l) (e : upd H p o = H') (h : H p = none) : Wd H0 H' S (l ++ [(p, Eq o)]) := e ▸ W.new h rfl
theorem nd_ne {l : WdL} (nd : (l.map (·.1)).Nodup) (e1 : l[i]? = some (p, P)) (e2 : l[j]? = some (q, P')) (h : i ≠ j) : p ≠ q := fun z => by
  have f1 : (l.map (·.1))[i]? = some p := by rw [List.getElem?_map, e1]; rfl
  have f2 : (l.map (·.1))[j]? = some q := by rw [List.getElem?_map, e2]; rfl
  have hl : i < (l.map (·.1)).length := (List.getElem?_eq_some_iff.mp f1).1
  exact h ((List.getElem?_inj hl nd).mp (by rw [f1, f2, z]))
theorem Wd.ne (W : Wd H0 H S l) (i j : Nat) (e1 : l[i]? = some (p, P)) (e2 : l[j]? = some (q, P')) (h : i ≠ j := by decide) : p ≠ q := nd_ne W.nd e1 e2 h
theorem Wd.no (W : Wd H0 H S l) (i : Nat) (e : l[i]? = some (p, P)) (h : H q = none) : q ≠ p := fun z => by
  obtain ⟨o, h', _⟩ := W.get i e
  rw [z, h'] at h; cases h
/-- the i-th object changes, all else stands -/
theorem Wd.chg (W : Wd H0 H S l) (i : Nat) (e : l[i]? = some (p, P)) (k : Keep (fun a => a = p) H H') (h : H' p = some o) (z : P' o) : Wd H0 H' S (l.set i (p, P')) := by
  have hi : i < l.length := (List.getElem?_eq_some_iff.mp e).1
  have em : (l.set i (p, P')).map (·.1) = l.map (·.1) := by
    apply List.ext_getElem?
    intro j
    rw [List.getElem?_map, List.getElem?_map, List.getElem?_set]
    by_cases hj : i = j
    · subst hj; rw [if_pos rfl, if_pos hi, e]; rfl
    · rw [if_neg hj]
  have hm : ∀ x ∈ l.set i (p, P'), x = (p, P') ∨ (x ∈ l ∧ x.1 ≠ p) := fun x hx => by
    obtain ⟨j, hj⟩ := List.getElem?_of_mem hx
    rw [List.getElem?_set] at hj
    by_cases hij : i = j
    · rw [if_pos hij, if_pos hi] at hj
      exact .inl (Option.some.inj hj).symm
    · rw [if_neg hij] at hj
      exact .inr ⟨List.mem_of_getElem? hj, fun y => nd_ne W.nd e (show l[j]? = some (x.1, x.2) from hj) hij y.symm⟩
  have sp := W.fr _ (List.mem_of_getElem? e)
  refine ⟨by rw [em]; exact W.nd, fun x hx => ?_, fun a u ha n => ?_, fun x hx => ?_⟩
  · rcases hm x hx with rfl | ⟨hx, n⟩
    · exact ⟨o, h, z⟩
    · obtain ⟨u, hu, y⟩ := W.at_ x hx
      exact ⟨u, k _ _ hu n, y⟩
  · refine k _ _ (W.kp _ _ ha n) fun y => ?_
    subst y
    rcases sp with sp | sp
    · exact n sp
    · rw [sp] at ha; cases ha
  · rcases hm x hx with rfl | ⟨hx, n⟩
    · exact sp
    · exact W.fr x hx
theorem Wd.chgE (W : Wd H0 H S l) (i : Nat) (e : l[i]? = some (p, P)) (k : Keep (fun a => a = p) H H') (h : H' p = some o) : Wd H0 H' S (l.set i (p, Eq o)) := W.chg i e k h rfl
theorem Wd.put (W : Wd H0 H S l) (i : Nat) (e : l[i]? = some (p, P)) (z : P' o) : Wd H0 (upd H p o) S (l.set i (p, P')) := W.chg i e (Keep.refl.at rfl) upd_same z
theorem Wd.putG (W : Wd H0 H S l) (i : Nat) (e : l[i]? = some (p, P)) (g : upd H p o = H') : Wd H0 H' S (l.set i (p, Eq o)) := g ▸ W.put i e rfl
/-- only some of it is told further -/
theorem Wd.sub (W : Wd H0 H S l) (h : l'.Sublist l) : Wd H0 H S l' := ⟨W.nd.sublist (h.map _), fun x hx => W.at_ x (h.subset hx), W.kp, fun x hx => W.fr x (h.subset hx)⟩
theorem Wd.take (W : Wd H0 H S l) (n : Nat) : Wd H0 H S (l.take n) := W.sub (List.take_sublist n l)
theorem Wd.weak (W : Wd H0 H S l) (i : Nat) (e : l[i]? = some (p, P)) (z : ∀ o, P o → P' o) : Wd H0 H S (l.set i (p, P')) := by
  obtain ⟨o, h, y⟩ := W.get i e
  exact W.chg i e .refl h (z o y)
/-- an object that a call has made which changed told objects besides: W before it, W' behind it -/
theorem Wd.madeT {H1 : Hp} (W : Wd H0 H S l) (W' : Wd H0 H1 S l') (e : l'.map (·.1) = l.map (·.1)) (h0 : H p = none) (h : H1 p = some o) (z : P o) : Wd H0 H1 S (l' ++ [(p, P)]) := by
  have n : ∀ x ∈ l', x.1 ≠ p := fun x hx y => by
    have hm : p ∈ l.map (·.1) := by rw [← e, ← y]; exact List.mem_map_of_mem hx
    obtain ⟨u, hu, eu⟩ := List.mem_map.mp hm
    exact W.miss h0 u hu eu
  refine ⟨nd_snoc W'.nd n, fun x hx => ?_, W'.kp, fun x hx => ?_⟩
  · rcases mem_snoc hx with hx | e
    · exact W'.at_ x hx
    · subst e; exact ⟨o, h, z⟩
  · rcases mem_snoc hx with hx | e
    · exact W'.fr x hx
    · subst e
      by_cases s : S p
      · exact .inl s
      · exact .inr (W.kp.free h0 s)
theorem Wd.keep (W : Wd H0 H S l) : Keep S H0 H := W.kp
/-- a change of several told objects and of nothing else -/
theorem Wd.chgs {T : Addr → Prop} (W : Wd H0 H S l) (k : Keep T H H') (hT : ∀ a, T a → S a ∨ H0 a = none) (f : ∀ x ∈ l, ¬ T x.1 ∨ ∃ o, H' x.1 = some o ∧ x.2 o) : Wd H0 H' S l := by
  refine ⟨W.nd, fun x hx => ?_, fun a u ha n => k _ _ (W.kp _ _ ha n) fun y => ?_, W.fr⟩
  · rcases f x hx with n | y
    · obtain ⟨u, hu, y⟩ := W.at_ x hx
      exact ⟨u, k _ _ hu n, y⟩
    · exact y
  · rcases hT a y with z | z
    · exact n z
    · rw [z] at ha; cases ha
theorem Wd.chgO (W : Wd H0 H S l) (k : Keep (fun a => a = p) H H') (hp : ∀ x ∈ l, x.1 ≠ p) (s : S p ∨ H0 p = none) : Wd H0 H' S l :=
  W.chgs k (fun a e => by cases (show a = p from e); exact s) fun x hx => .inl (hp x hx)
end
end HS
/-! What a run does not wake stays asleep: a generator's state is framed (own rules over PyProof.Runs, PyProof.Wp). -/
namespace HS
open PySem PyProof.Rows
open Sem (wp)
/-- a state that cannot be gone on with -/
def dead : Resume → Sem PySem.Fin := fun _ => .unsupported "asleep"
def kill : GenState → GenState
  | .suspended _ l c p fs cl => .suspended dead l c p fs cl
  | x => x
def Asleep (x : GenState) : Prop := ∃ k l c p fs cl, x = .suspended k l c p fs cl
inductive Pair : GenState → GenState → Prop
  | eq {x : GenState} (h : ∀ k l c p fs cl, x = .suspended k l c p fs cl → splitAtGen fs = none) : Pair x x
  | dead {k : Resume → Sem PySem.Fin} {l : List Value} {c : Code} {p : Pos} {fs : List Frame} {cl : Bool} : Pair (.suspended k l c p fs cl) (.suspended dead l c p fs cl)
def Like (G D : Array GenState) : Prop := G.size = D.size ∧ ∀ (i : Nat) (x y : GenState), G[i]? = some x → D[i]? = some y → Pair x y
def Dead (D : Array GenState) (i : Nat) : Prop := ∃ l c p fs cl, D[i]? = some (.suspended dead l c p fs cl)
theorem Like.at {G D : Array GenState} (h : Like G D) {i : Nat} {y : GenState} (e : D[i]? = some y) : ∃ x, G[i]? = some x ∧ Pair x y := by
  have hi : i < G.size := by rw [h.1]; exact (Array.getElem?_eq_some_iff.mp e).1
  exact ⟨G[i], Array.getElem?_eq_getElem hi, h.2 i _ _ (Array.getElem?_eq_getElem hi) e⟩
theorem no_run0 {M : Model} {Γ : Ctx} {p : Pos} {w : String} {s s' : Shared} {e : End} (h : Runs M Γ p (.unsupported w) [] s e s') : False := by cases h
theorem no_run {M : Model} {Γ : Ctx} {p : Pos} {w : String} {fs : List Frame} {s s' : Shared} {e : End} (h : Runs M Γ p (.unsupported w) fs s e s') : False := by
  cases fs with
  | nil => exact no_run0 h
  | cons F fs =>
    cases h with
    | segRet h _ => exact no_run0 h
    | segGen h _ => exact no_run0 h
    | segSuspOut _ h => exact no_run0 h
    | segSuspGen _ h _ _ => exact no_run0 h
theorem split_app {a b : List Frame} (ha : splitAtGen a = none) (hb : splitAtGen b = none) : splitAtGen (a ++ b) = none := by
  induction a with
  | nil => exact hb
  | cons f r ih =>
    cases f with
    | gen g k l c p => cases ha
    | ret k h g l c p kp =>
      show (splitAtGen (r ++ b)).map _ = none
      rw [ih (Option.map_eq_none_iff.mp ha)]; rfl
theorem split_ret {k h g l c p kp} {fs : List Frame} (e : splitAtGen (.ret k h g l c p kp :: fs) = none) : splitAtGen fs = none := Option.map_eq_none_iff.mp e
def EndOk (e : End) : Prop := ∀ v g l k c p fs, e = .susp v g l k c p fs → splitAtGen fs = none
theorem EndOk.state {e : End} (h : EndOk e) : Pair e.genState e.genState := by
  cases e with
  | ret r => exact .eq fun _ _ _ _ _ _ z => by cases z
  | susp v g l k c p fs => exact .eq fun _ _ _ _ _ _ z => by cases z; exact h _ _ _ _ _ _ _ rfl
theorem get_set {G : Array GenState} {g i : Nat} {x : GenState} (h : i ≠ g) : (G.setIfInBounds g x)[i]? = G[i]? := Array.getElem?_setIfInBounds_ne (Ne.symm h)
theorem Like.set {G D : Array GenState} (h : Like G D) {g : Nat} {x y : GenState} (p : Pair x y) : Like (G.setIfInBounds g x) (D.setIfInBounds g y) := by
  refine ⟨by simp [h.1], fun i a b e1 e2 => ?_⟩
  by_cases hi : i = g
  · subst hi
    rw [Array.getElem?_setIfInBounds_self] at e1 e2
    split at e1
    · split at e2
      · cases e1; cases e2; exact p
      · cases e2
    · cases e1
  · rw [get_set hi] at e1 e2
    exact h.2 i a b e1 e2
theorem Like.push {G D : Array GenState} (h : Like G D) (c : Code) : Like (G.push (.fresh c)) (D.push (.fresh c)) := by
  refine ⟨by simp [h.1], fun i a b e1 e2 => ?_⟩
  rw [Array.getElem?_push] at e1 e2
  rw [h.1] at e1
  split at e1
  · rename_i z
    rw [if_pos z] at e2
    cases e1; cases e2
    exact .eq fun _ _ _ _ _ _ z => by cases z
  · rename_i z
    rw [if_neg z] at e2
    exact h.2 i a b e1 e2
theorem Dead.set {D : Array GenState} {i g : Nat} {x : GenState} (h : Dead D i) (n : i ≠ g) : Dead (D.setIfInBounds g x) i := by
  obtain ⟨l, c, p, fs, cl, e⟩ := h
  exact ⟨l, c, p, fs, cl, by rw [get_set n]; exact e⟩
theorem Dead.of {D D' : Array GenState} {i : Nat} (h : Dead D i) (e : D'[i]? = D[i]?) : Dead D' i := by
  obtain ⟨l, c, p, fs, cl, q⟩ := h
  exact ⟨l, c, p, fs, cl, by rw [e]; exact q⟩
/-- what stays asleep through a run -/
def Stays (D G D' G' : Array GenState) : Prop := ∀ i, Dead D i → D'[i]? = D[i]? ∧ G'[i]? = G[i]?
theorem Stays.refl {D G : Array GenState} : Stays D G D G := fun _ _ => ⟨rfl, rfl⟩
theorem Stays.trans {D G D1 G1 D2 G2 : Array GenState} (a : Stays D G D1 G1) (b : Stays D1 G1 D2 G2) : Stays D G D2 G2 := fun i h => by
  obtain ⟨e1, e2⟩ := a i h
  obtain ⟨e3, e4⟩ := b i (h.of e1)
  exact ⟨e3.trans e1, e4.trans e2⟩
theorem Stays.setR {D G D1 G1 : Array GenState} {g : Nat} {x y x' y' : GenState} (hn : ¬ Dead D g) (a : Stays (D.setIfInBounds g x) (G.setIfInBounds g y) D1 G1) : Stays D G (D1.setIfInBounds g x') (G1.setIfInBounds g y') := fun i h => by
  have n : i ≠ g := fun z => hn (z ▸ h)
  obtain ⟨e1, e2⟩ := a i (h.set n)
  rw [get_set n, get_set n, e1, e2, get_set n, get_set n]
  exact ⟨rfl, rfl⟩
theorem Stays.set {D G : Array GenState} {g : Nat} {x y : GenState} (hn : ¬ Dead D g) : Stays D G (D.setIfInBounds g x) (G.setIfInBounds g y) := fun i h => by
  have n : i ≠ g := fun z => hn (z ▸ h)
  exact ⟨get_set n, get_set n⟩
theorem Stays.push {D G : Array GenState} (hs : G.size = D.size) {c : Code} : Stays D G (D.push (.fresh c)) (G.push (.fresh c)) := fun i h => by
  obtain ⟨l, c', p, fs, cl, e⟩ := h
  have hi := (Array.getElem?_eq_some_iff.mp e).1
  rw [Array.getElem?_push, Array.getElem?_push, if_neg (by omega), if_neg (by omega)]
  exact ⟨rfl, rfl⟩
theorem not_dead {D : Array GenState} {g : Nat} {x : GenState} (e : D[g]? = some x) (h : ∀ l c p fs cl, x ≠ .suspended dead l c p fs cl) : ¬ Dead D g := fun ⟨l, c, p, fs, cl, q⟩ => by
  rw [e] at q
  exact h l c p fs cl (Option.some.inj q)
theorem sim {M : Model} {Γ : Ctx} {p : Pos} {t : Sem PySem.Fin} {fs : List Frame} {s s' : Shared} {e : End} (h : Runs M Γ p t fs s e s') : ∀ G : Array GenState, splitAtGen fs = none → Like G s.gens →
    ∃ G', Runs M Γ p t fs { s with gens := G } e { s' with gens := G' } ∧ Like G' s'.gens ∧ Stays s.gens G s'.gens G' ∧ EndOk e := by
  induction h with
  | done => intro G _ L; exact ⟨G, .done, L, .refl, fun _ _ _ _ _ _ _ z => by cases z⟩
  | raise => intro G _ L; exact ⟨G, .raise, L, .refl, fun _ _ _ _ _ _ _ z => by cases z⟩
  | again hq _ ih => intro G _ L; obtain ⟨G', r, q⟩ := ih G rfl L; exact ⟨G', .again hq r, q⟩
  | rule _ ih => intro G _ L; obtain ⟨G', r, q⟩ := ih G rfl L; exact ⟨G', .rule r, q⟩
  | «at» _ ih => intro G _ L; obtain ⟨G', r, q⟩ := ih G rfl L; exact ⟨G', .at r, q⟩
  | load ho _ ih => intro G _ L; obtain ⟨G', r, q⟩ := ih G rfl L; exact ⟨G', .load ho r, q⟩
  | update ho _ ih => intro G _ L; obtain ⟨G', r, q⟩ := ih G rfl L; exact ⟨G', .update ho r, q⟩
  | loadIfAlive _ ih => intro G _ L; obtain ⟨G', r, q⟩ := ih G rfl L; exact ⟨G', .loadIfAlive r, q⟩
  | point _ ih => intro G _ L; obtain ⟨G', r, q⟩ := ih G rfl L; exact ⟨G', .point r, q⟩
  | alloc _ ih => intro G _ L; obtain ⟨G', r, q⟩ := ih G rfl L; exact ⟨G', .alloc r, q⟩
  | fresh _ ih => intro G _ L; obtain ⟨G', r, q⟩ := ih G rfl L; exact ⟨G', .fresh r, q⟩
  | ask _ ih => intro G _ L; obtain ⟨G', r, q⟩ := ih G rfl L; exact ⟨G', .ask r, q⟩
  | choose hn _ ih => intro G _ L; obtain ⟨G', r, q⟩ := ih G rfl L; exact ⟨G', .choose hn r, q⟩
  | os _ ih => intro G _ L; obtain ⟨G', r, q⟩ := ih G rfl L; exact ⟨G', .os r, q⟩
  | handled _ ih => intro G _ L; obtain ⟨G', r, q⟩ := ih G rfl L; exact ⟨G', .handled r, q⟩
  | stack _ ih => intro G _ L; obtain ⟨G', r, q⟩ := ih G rfl L; exact ⟨G', .stack r, q⟩
  | thread _ ih => intro G _ L; obtain ⟨G', r, q⟩ := ih G rfl L; exact ⟨G', .thread r, q⟩
  | genState hs _ ih =>
    intro G _ L
    obtain ⟨x, hx, pr⟩ := L.at hs
    obtain ⟨G', r, q⟩ := ih G rfl L
    refine ⟨G', .genState (st := x) hx ?_, q⟩
    cases pr with
    | eq _ => exact r
    | dead => exact r
  | @newGen Γ p k s e s' c _ ih =>
    intro G _ L
    obtain ⟨G', r, L', S', E'⟩ := ih (G.push (.fresh c)) rfl (L.push c)
    refine ⟨G', .newGen ?_, L', (Stays.push L.1).trans S', E'⟩
    show Runs M Γ p (k G.size) [] { s with gens := G.push (.fresh c) } e _
    rw [L.1]
    exact r
  | call _ _ ih1 ih2 =>
    intro G _ L
    obtain ⟨G1, r1, L1, S1, _⟩ := ih1 G rfl L
    obtain ⟨G2, r2, L2, S2, E2⟩ := ih2 G1 rfl L1
    exact ⟨G2, .call r1 r2, L2, S1.trans S2, E2⟩
  | callSusp _ ih =>
    intro G _ L
    obtain ⟨G1, r1, L1, S1, E1⟩ := ih G rfl L
    refine ⟨G1, .callSusp r1, L1, S1, fun _ _ _ _ _ _ _ z => ?_⟩
    cases z
    exact split_app (E1 _ _ _ _ _ _ _ rfl) rfl
  | yield => intro G _ L; exact ⟨G, .yield, L, .refl, fun _ _ _ _ _ _ _ z => by cases z; rfl⟩
  | resumeFresh hs _ hq _ ih1 ih2 =>
    intro G _ L
    obtain ⟨x, hx, pr⟩ := L.at hs
    have hd := not_dead hs fun _ _ _ _ _ z => by cases z
    cases pr with
    | eq _ =>
      obtain ⟨G1, r1, L1, S1, E1⟩ := ih1 (G.setIfInBounds _ .running) rfl (L.set (.eq fun _ _ _ _ _ _ z => by cases z))
      obtain ⟨G2, r2, L2, S2, E2⟩ := ih2 (G1.setIfInBounds _ _) rfl (L1.set E1.state)
      exact ⟨G2, .resumeFresh hx r1 hq r2, L2, (Stays.setR hd S1).trans S2, E2⟩
  | @resumeSuspended Γ p g r l k s k₀ l₀ c₀ p₀ fs cl e₁ s₁ e s' hs hr hq _ ih1 ih2 =>
    intro G _ L
    obtain ⟨x, hx, pr⟩ := L.at hs
    cases pr with
    | dead => exact (no_run hr).elim
    | eq hn =>
      have hd : ¬ Dead s.gens g := fun ⟨_, _, _, _, _, q⟩ => by
        rw [hs] at q
        cases q
        exact no_run hr
      obtain ⟨G1, r1, L1, S1, E1⟩ := ih1 (G.setIfInBounds _ .running) (hn _ _ _ _ _ _ rfl) (L.set (.eq fun _ _ _ _ _ _ z => by cases z))
      obtain ⟨G2, r2, L2, S2, E2⟩ := ih2 (G1.setIfInBounds _ _) rfl (L1.set E1.state)
      exact ⟨G2, .resumeSuspended hx r1 hq r2, L2, (Stays.setR hd S1).trans S2, E2⟩
  | resumeJustStarted hs hv _ ih =>
    intro G _ L
    obtain ⟨x, hx, pr⟩ := L.at hs
    obtain ⟨G', r, q⟩ := ih G rfl L
    cases pr with
    | eq _ => exact ⟨G', .resumeJustStarted hx hv r, q⟩
  | resumeThrowFresh hs _ ih =>
    intro G _ L
    obtain ⟨x, hx, pr⟩ := L.at hs
    have hd := not_dead hs fun _ _ _ _ _ z => by cases z
    cases pr with
    | eq _ =>
      obtain ⟨G', r, L', S', E'⟩ := ih (G.setIfInBounds _ .finished) rfl (L.set (.eq fun _ _ _ _ _ _ z => by cases z))
      exact ⟨G', .resumeThrowFresh hx r, L', (Stays.set hd).trans S', E'⟩
  | resumeRunning hs _ ih =>
    intro G _ L
    obtain ⟨x, hx, pr⟩ := L.at hs
    obtain ⟨G', r, q⟩ := ih G rfl L
    cases pr with
    | eq _ => exact ⟨G', .resumeRunning hx r, q⟩
  | resumeFinished hs _ ih =>
    intro G _ L
    obtain ⟨x, hx, pr⟩ := L.at hs
    obtain ⟨G', r, q⟩ := ih G rfl L
    cases pr with
    | eq _ => exact ⟨G', .resumeFinished hx r, q⟩
  | segRet _ _ ih1 ih2 =>
    intro G hf L
    obtain ⟨G1, r1, L1, S1, _⟩ := ih1 G rfl L
    obtain ⟨G2, r2, L2, S2, E2⟩ := ih2 G1 (split_ret hf) L1
    exact ⟨G2, .segRet r1 r2, L2, S1.trans S2, E2⟩
  | segGen _ _ _ _ => intro G hf L; cases hf
  | segSuspOut hsp _ ih =>
    intro G hf L
    obtain ⟨G1, r1, L1, S1, E1⟩ := ih G rfl L
    refine ⟨G1, .segSuspOut hsp r1, L1, S1, fun _ _ _ _ _ _ _ z => ?_⟩
    cases z
    exact split_app (E1 _ _ _ _ _ _ _ rfl) hf
  | segSuspGen hsp _ _ _ _ _ => intro G hf L; rw [hf] at hsp; cases hsp

theorem ret_sim {M : Model} {Γ : Ctx} {p : Pos} {s s' : Shared} {r : Result} (h : Returns M Γ p s r s') (G : Array GenState) (L : Like G s.gens) : ∃ G', Returns M Γ p { s with gens := G } r { s' with gens := G' } ∧ Like G' s'.gens ∧ Stays s.gens G s'.gens G' := by
  obtain ⟨G', r1, L', S', _⟩ := sim h G rfl L
  exact ⟨G', r1, L', S'⟩
theorem wake_sim {M : Model} {Γ : Ctx} {p : Pos} {g : Nat} {r : Resume} {s s' : Shared} {res : GenResult} (h : Wakes M Γ p g r s res s') (G : Array GenState) (L : Like G s.gens) :
    ∃ G', Wakes M Γ p g r { s with gens := G } res { s' with gens := G' } ∧ Like G' s'.gens ∧ Stays s.gens G s'.gens G' := by
  unfold Wakes at h ⊢
  cases e : s.gens[g]? with
  | none => rw [e] at h; exact h.elim
  | some y =>
    obtain ⟨x, hx, pr⟩ := L.at e
    rw [e] at h
    have hx' : ({ s with gens := G } : Shared).gens[g]? = some x := hx
    cases y with
    | fresh c =>
      have hd := not_dead e fun _ _ _ _ _ z => by cases z
      cases pr with
      | eq _ =>
        simp only [hx'] at h ⊢
        cases r with
        | throw x =>
          obtain ⟨h1, rfl⟩ := h
          exact ⟨G.setIfInBounds g .finished, ⟨h1, rfl⟩, L.set (.eq fun _ _ _ _ _ _ z => by cases z), Stays.set hd⟩
        | send v =>
          cases v
          case none =>
            obtain ⟨e₁, s₁, hr, hq, h1, rfl⟩ := h
            obtain ⟨G1, r1, L1, S1, E1⟩ := sim hr (G.setIfInBounds g .running) rfl (L.set (.eq fun _ _ _ _ _ _ z => by cases z))
            exact ⟨G1.setIfInBounds g e₁.genState, ⟨e₁, _, r1, hq, h1, rfl⟩, L1.set E1.state, Stays.setR hd S1⟩
          all_goals
            obtain ⟨h1, rfl⟩ := h
            exact ⟨G, ⟨h1, rfl⟩, L, .refl⟩
    | suspended k₀ l₀ c₀ p₀ fs cl =>
      cases pr with
      | dead =>
        obtain ⟨e₁, s₁, hr, _⟩ := h
        exact (no_run hr).elim
      | eq hn =>
        simp only [hx'] at h ⊢
        obtain ⟨e₁, s₁, hr, hq, h1, rfl⟩ := h
        have hd : ¬ Dead s.gens g := fun ⟨_, _, _, _, _, q⟩ => by
          rw [e] at q
          cases q
          exact no_run hr
        obtain ⟨G1, r1, L1, S1, E1⟩ := sim hr (G.setIfInBounds g .running) (hn _ _ _ _ _ _ rfl) (L.set (.eq fun _ _ _ _ _ _ z => by cases z))
        exact ⟨G1.setIfInBounds g e₁.genState, ⟨e₁, _, r1, hq, h1, rfl⟩, L1.set E1.state, Stays.setR hd S1⟩
    | running =>
      cases pr with
      | eq _ =>
        simp only [hx'] at h ⊢
        obtain ⟨h1, rfl⟩ := h
        exact ⟨G, ⟨h1, rfl⟩, L, .refl⟩
    | finished =>
      cases pr with
      | eq _ =>
        simp only [hx'] at h ⊢
        obtain ⟨h1, rfl⟩ := h
        exact ⟨G, ⟨h1, rfl⟩, L, .refl⟩
/-- behind it: the run was that of the state in which all that sleeps is dead -/
def Back (D G : Array GenState) (Q : Shared → Prop) (s' : Shared) : Prop := ∃ D', Like s'.gens D' ∧ Stays D G D' s'.gens ∧ Q { s' with gens := D' }
theorem Back.trans {D G D1 G1 : Array GenState} {Q : Shared → Prop} {s' : Shared} (a : Stays D G D1 G1) (b : Back D1 G1 Q s') : Back D G Q s' := by
  obtain ⟨D', L, S, q⟩ := b
  exact ⟨D', L, a.trans S, q⟩
theorem wp_sim {α : Type} (M : Model) (Γ : Ctx) (t : Sem α) : ∀ (Q : α → Pos → Shared → Prop) (E : Value → Pos → Shared → Prop) (p : Pos) (s : Shared) (G : Array GenState), Like G s.gens → Sem.wp M Γ t Q E p s →
    Sem.wp M Γ t (fun a p' s' => Back s.gens G (Q a p') s') (fun e p' s' => Back s.gens G (E e p') s') p { s with gens := G } := by
  have weak : ∀ {β : Type} {t : Sem β} {Q Q' : β → Pos → Shared → Prop} {E E' : Value → Pos → Shared → Prop} {p : Pos} {s : Shared}, Sem.wp M Γ t Q E p s → (∀ a p s, Q a p s → Q' a p s) → (∀ a p s, E a p s → E' a p s) → Sem.wp M Γ t Q' E' p s :=
    fun h hQ hE => Sem.wp_mono M Γ _ hQ hE _ _ h
  induction t with
  | pure a => intro Q E p s G L h; exact ⟨s.gens, L, .refl, h⟩
  | raise e => intro Q E p s G L h; exact ⟨s.gens, L, .refl, h⟩
  | unsupported _ => intro Q E p s G L h; exact h
  | finish _ => intro Q E p s G L h; exact h
  | rule _ k ih => intro Q E p s G L h; exact ih () Q E p s G L h
  | «at» p' k ih => intro Q E p s G L h; exact ih () Q E p' s G L h
  | load a _ k ih => intro Q E p s G L h; obtain ⟨o, ho, h⟩ := h; exact ⟨o, ho, ih o Q E p s G L h⟩
  | update a _ f k ih => intro Q E p s G L h; exact ⟨h.1, ih () Q E p { s with heap := s.heap.update a f } G L h.2⟩
  | loadIfAlive a k ih => intro Q E p s G L h; exact ih _ Q E p s G L h
  | point _ k ih => intro Q E p s G L h; exact ih () Q E p s G L h
  | register _ _ => intro Q E p s G L h; exact h
  | alloc o k ih => intro Q E p s G L h; exact ih _ Q E p { s with heap := s.heap.push o } G L h
  | fresh k ih => intro Q E p s G L h; exact ih _ Q E p { s with toks := s.toks + 1 } G L h
  | ask k ih => intro Q E p s G L h; exact ih _ Q E p s G L h
  | choose src m k ih => intro Q E p s G L h; exact ⟨h.1, ih _ Q E p { s with drawn := s.drawn.bump src } G L h.2⟩
  | os q _ k ih => intro Q E p s G L h; exact ih _ Q E p { s with os := (Os.step s.os q).1 } G L h
  | call c hd _ _ k ih =>
    intro Q E p s G L h
    obtain ⟨r, s', hr, h⟩ := h
    obtain ⟨G', r1, L', S'⟩ := ret_sim hr G L
    exact ⟨r, _, r1, weak (ih r Q E p s' G' L' h) (fun _ _ _ => Back.trans S') fun _ _ _ => Back.trans S'⟩
  | handled own k ih => intro Q E p s G L h; exact ih _ Q E p s G L h
  | genState g k ih =>
    intro Q E p s G L h
    obtain ⟨st, hs, h⟩ := h
    obtain ⟨x, hx, pr⟩ := L.at hs
    refine ⟨x, hx, ?_⟩
    cases pr with
    | eq _ => exact ih _ Q E p s G L h
    | dead => exact ih _ Q E p s G L h
  | newGen c k ih =>
    intro Q E p s G L h
    have z := ih s.gens.size Q E p { s with gens := s.gens.push (.fresh c) } (G.push (.fresh c)) (L.push c) h
    show Sem.wp M Γ (k G.size) _ _ p { s with gens := G.push (.fresh c) }
    rw [L.1]
    exact weak z (fun _ _ _ => Back.trans (Stays.push L.1)) fun _ _ _ => Back.trans (Stays.push L.1)
  | resume g r _ k ih =>
    intro Q E p s G L h
    obtain ⟨res, s', hw, h⟩ := h
    obtain ⟨G', r1, L', S'⟩ := wake_sim hw G L
    exact ⟨res, _, r1, weak (ih res Q E p s' G' L' h) (fun _ _ _ => Back.trans S') fun _ _ _ => Back.trans S'⟩
  | yield _ _ _ _ => intro Q E p s G L h; exact h
  | stack k ih => intro Q E p s G L h; exact ih _ Q E p s G L h
  | fork _ _ => intro Q E p s G L h; exact h
  | thread k ih => intro Q E p s G L h; exact ih _ Q E p s G L h
  | await _ _ _ _ _ => intro Q E p s G L h; exact h
/-- all that sleeps, dead -/
def night (s : Shared) : Shared := { s with gens := s.gens.map kill }
theorem like_night (G : Array GenState) : Like G (G.map kill) := by
  refine ⟨by simp, fun i x y e1 e2 => ?_⟩
  rw [Array.getElem?_map, e1] at e2
  have e : kill x = y := Option.some.inj e2
  subst e
  cases x with
  | suspended k l c p fs cl => exact .dead
  | fresh c => exact .eq fun _ _ _ _ _ _ z => by cases z
  | running => exact .eq fun _ _ _ _ _ _ z => by cases z
  | finished => exact .eq fun _ _ _ _ _ _ z => by cases z
theorem pair_bare {x y : GenState} (h : Pair x y) : x.bare = y.bare := by cases h <;> rfl
theorem like_bare {G D : Array GenState} (h : Like G D) (b : AllBare D) : AllBare G := fun x hx => by
  obtain ⟨i, hi, e⟩ := Array.mem_iff_getElem.mp hx
  have hi' : i < D.size := by rw [← h.1]; exact hi
  have p := h.2 i x D[i] (by rw [Array.getElem?_eq_getElem hi, e]) (Array.getElem?_eq_getElem hi')
  rw [pair_bare p]
  exact b _ (Array.getElem_mem hi')
theorem bare_night {G : Array GenState} (h : AllBare G) : AllBare (G.map kill) := fun x hx => by
  obtain ⟨y, hy, rfl⟩ := Array.mem_map.mp hx
  have := h y hy
  cases y <;> exact this
/-- THE FRAME: what is shown of a run by night holds by day, and what sleeps sleeps on -/
theorem by_night {α : Type} {M : Model} {A : Around} {t : Sem α} {Q : α → Shared → Prop} {E : Value → Shared → Prop} {s : Shared} (h : wpAny M A t Q E (night s)) :
    wpAny M A t (fun a s' => (∀ (i : Nat) (x : GenState), s.gens[i]? = some x → Asleep x → s'.gens[i]? = some x) ∧ ∃ D, Like s'.gens D ∧ Q a { s' with gens := D })
      (fun e s' => (∀ (i : Nat) (x : GenState), s.gens[i]? = some x → Asleep x → s'.gens[i]? = some x) ∧ ∃ D, Like s'.gens D ∧ E e { s' with gens := D }) s := by
  have key : ∀ {R : Shared → Prop} {s' : Shared}, Back (night s).gens s.gens R s' → (∀ (i : Nat) (x : GenState), s.gens[i]? = some x → Asleep x → s'.gens[i]? = some x) ∧ ∃ D, Like s'.gens D ∧ R { s' with gens := D } := fun {R s'} b => by
    obtain ⟨D, L, S, q⟩ := b
    refine ⟨fun i x e a => ?_, D, L, q⟩
    obtain ⟨k, l, c, p, fs, cl, rfl⟩ := a
    have d : Dead (night s).gens i := ⟨l, c, p, fs, cl, by show (s.gens.map kill)[i]? = _; rw [Array.getElem?_map, e]; rfl⟩
    rw [(S i d).2, e]
  intro Γ p hΓ
  have z := wp_sim M Γ t (fun a _ s' => Q a s') (fun e _ s' => E e s') p (night s) s.gens (like_night _) (h Γ p hΓ)
  exact Sem.wp_mono M Γ _ (fun a _ s' b => key b) (fun e _ s' b => key b) p _ z
end HS
/-! Generators that are consumed step by step: a def of the shape  pre; for tg in iter: yield e; post  (own rules over HandS.GenCall). -/
namespace HS
open PySem PySem.Spec PyProof.Rows L2 GenW
/-- the heap below L -/
def below (h : Heap) (L : Nat) : Heap := { h with objs := h.objs.extract 0 L }
theorem below_get {h : Heap} {L b : Nat} (hb : b < L) : (below h L).get? b = h.get? b := by
  unfold Heap.get? below
  show (match (h.objs.extract 0 L)[b]? with | some ⟨_, _, .freed, _⟩ => none | o => o) = _
  rw [Array.getElem?_extract]
  by_cases hs : b < h.objs.size
  · rw [if_pos (by omega), Nat.zero_add]; rfl
  · rw [if_neg (by omega), Array.getElem?_eq_none (by omega)]
theorem below_size {h : Heap} {L : Nat} (hL : L ≤ h.objs.size) : (below h L).objs.size = L := by
  show (h.objs.extract 0 L).size = L
  rw [Array.size_extract]; omega
theorem below_le {h : Heap} {L : Nat} : (below h L).objs.size ≤ L := by
  show (h.objs.extract 0 L).size ≤ L
  rw [Array.size_extract]; omega
theorem of_below {h : Heap} {L b : Nat} {o : Obj} (e : (below h L).get? b = some o) : b < L ∧ h.get? b = some o := by
  have hb := Nat.lt_of_lt_of_le (Heap.lt_size e) below_le
  exact ⟨hb, by rw [← below_get hb]; exact e⟩
theorem funs_below {h h0 base : Heap} {L : Nat} (hL : h0.objs.size ≤ L) : ∀ {l : List Env}, h0.FunFrames base l → h.FunFrames base l → (below h L).FunFrames base l
  | [], _, _ => trivial
  | e :: l, ⟨_, ⟨F0, o0, f0, _, e0, _⟩, r0⟩, ⟨k1, ⟨F1, o1, f1, n1, e1, d1⟩, r1⟩ => by
    rw [f0] at f1
    cases f1
    exact ⟨k1, ⟨F0, o1, f0, n1, by rw [below_get (Nat.lt_of_lt_of_le (Heap.lt_size e0) hL)]; exact e1, d1⟩, funs_below hL r0 r1⟩
/-- of these addresses what is untracked -/
def xpins (xa : List Addr) (h : Heap) (H : Hp) : List (Addr × Obj) := (pinsAt xa h).filter fun p => (H p.1).isNone
theorem of_xpins {xa : List Addr} {h : Heap} {H : Hp} {p : Addr × Obj} (hp : p ∈ xpins xa h H) : p.1 ∈ xa ∧ h.get? p.1 = some p.2 ∧ H p.1 = none := by
  obtain ⟨h1, h2⟩ := List.mem_filter.mp hp
  exact ⟨(of_pinsAt h1).1, (of_pinsAt h1).2, Option.isNone_iff_eq_none.mp h2⟩
theorem to_xpins {xa : List Addr} {h : Heap} {H : Hp} {b : Addr} {o : Obj} (hb : b ∈ xa) (e : h.get? b = some o) (n : H b = none) : (b, o) ∈ xpins xa h H :=
  List.mem_filter.mpr ⟨mem_pinsAt hb e, by show (H b).isNone = true; rw [n]; rfl⟩
/-- what the wakes, the items and the end are told by; the consumer's own things that no slice may touch -/
structure GW where
  xa : List Addr
  wk : Nat → Shared → Hp → Prop
  yl : Nat → Hp → V → Hp → Prop
  en : Nat → Hp → Hp → Prop
/-- behind a slice: it began with the call (sc, Hc), or with a wake -/
def From (P : Program) (w : World) (outer : List Env) (sc : Shared) (Hc : Hp) (W : GW) (i : Nat) (s₀ : Shared) (Hw H2 : Hp) (s : Shared) : Prop :=
  s.os = sc.os ∧ AllBare s.gens ∧ HOk P w H2 s.heap ∧
  (∀ p ∈ xpins W.xa s₀.heap Hw, s.heap.get? p.1 = some p.2 ∧ H2 p.1 = none) ∧
  ((i = 0 ∧ Hw = Hc ∧ Un (frs outer) [] Hc H2 sc.heap s.heap) ∨ (1 ≤ i ∧ W.wk i s₀ Hw ∧ Un (frs outer) [] Hw H2 (below s₀.heap sc.heap.objs.size) s.heap))
def YG (P : Program) (w : World) (K : PySem.W.Frag) (mg : Str → Option Value) (base : Heap) (A : Around) (outer : List Env) (sc : Shared) (Hc : Hp) (W : GW) (N0 : Nat) (a : Addr) (g : Nat) : Protocol := fun n s₀ v s kap =>
  ∃ (i : Nat) (Hw : Hp) (x : V) (H2 : Hp) (pv : List (Addr × Obj)) (go : Obj), i + n + 1 = N0 ∧ RelV x v ∧ From P w outer sc Hc W i s₀ Hw H2 s ∧ s.heap.NoLimit ∧ (∀ h : Heap, h.get? a = some go → h.IsGen a g) ∧ (a, go) ∈ pv ∧ W.yl i Hw x H2 ∧
    (∀ p ∈ pv, s.heap.get? p.1 = some p.2 ∧ H2 p.1 = none ∧ sc.heap.objs.size ≤ p.1 ∧ p.1 ∉ W.xa ∧ ∀ v, p.2.data ≠ .cell v) ∧
    (1 ≤ n → ∀ s' H', W.wk (i + 1) s' H' → Env0 P w K mg base A outer s' H' → s'.os = sc.os → (∀ p ∈ pv, s'.heap.get? p.1 = some p.2 ∧ H' p.1 = none) → (∀ b ∈ W.xa, ∀ o, s'.heap.get? b = some o → ∀ v, o.data ≠ .cell v) → kap (.send .none) s')
def RG (P : Program) (w : World) (outer : List Env) (sc : Shared) (Hc : Hp) (W : GW) (E : XK) (N0 : Nat) (a : Addr) (g : Nat) : GenEnd := fun n s₀ r s =>
  ((r = .ok (.ret .none) ∨ r = .ok .next) ∧ ∃ (i : Nat) (Hw H2 : Hp), i + n = N0 ∧ From P w outer sc Hc W i s₀ Hw H2 s ∧ W.en i Hw H2) ∨ ∃ e, r = .error e ∧ CX P w outer Hc sc E e s ∧ s.heap.IsGen a g
/-- a generator that has not begun -/
def GMade2 (P : Program) (w : World) (K : PySem.W.Frag) (mg : Str → Option Value) (base : Heap) (k : Nat) (outer : List Env) (H : Hp) (s : Shared) (ry : Nat → Hp → Prop) (yl : Nat → Hp → V → Hp → Prop) (en : Nat → Hp → Hp → Prop) (E : XK) (u : Value) (s' : Shared) : Prop :=
  ∃ (a : Addr) (g : Nat) (c : Code), u = .ref a ∧ s.heap.objs.size ≤ a ∧ a < s'.heap.objs.size ∧ s'.heap.IsGen a g ∧ s'.gens[g]? = some (.fresh c) ∧ s'.os = s.os ∧ AllBare s'.gens ∧ s'.heap.NoLimit ∧ (∀ b o, s.heap.get? b = some o → s'.heap.get? b = some o) ∧
    ∀ (A : Around) (xa : List Addr) (wk : Nat → Shared → Hp → Prop) (N0 : Nat) (s2 : Shared), Room k A → A.frames = some outer → (∀ b ∈ xa, s'.heap.objs.size ≤ b ∧ ∃ o, s2.heap.get? b = some o ∧ ∀ v, o.data ≠ .cell v) → (∀ i s3 H3, wk i s3 H3 → ry i H3) → (∀ b o, s'.heap.get? b = some o → s2.heap.get? b = some o) → s2.os = s.os → AllBare s2.gens → 1 ≤ N0 →
      Seg (model P w) A (RG P w outer s H ⟨xa, wk, yl, en⟩ E N0 a g) (YG P w K mg base A outer s H ⟨xa, wk, yl, en⟩ N0 a g) N0 s2 c ((model P w).den c) [] s2
abbrev SpG2 := List V → Hp → (Nat → Hp → Prop) → (Nat → Hp → V → Hp → Prop) → (Nat → Hp → Hp → Prop) → XK → Prop
structure GFn2 (P : Program) (w : World) (K : PySem.W.Frag) (mg : Str → Option Value) (base : Heap) (k : Nat) (f : Addr) (fd : FuncData) (ps : List Str) (sp : SpG2) : Prop where
  len : ∀ vs H ry yl en E, sp vs H ry yl en E → vs.length = ps.length
  run : ∀ (A : Around) (outer : List Env) (s : Shared) (H : Hp) (args : Args) (us : List Value) (vs : List V) (ry : Nat → Hp → Prop) (yl : Nat → Hp → V → Hp → Prop) (en : Nat → Hp → Hp → Prop) (E : XK), Room k A → Env0 P w K mg base A outer s H → BindsTo s fd args (ps.zip us) → Vals vs us → sp vs H ry yl en E →
    codeAny (model P w) A (.call (.ref f) args) (fun r s' => match r with | .ok (.ret u) => GMade2 P w K mg base k outer H s ry yl en E u s' | _ => False) s
/-- the reading of such a body: Q i σ Hw H: about to ask for the i-th item, in a slice that began with Hw -/
def tGenX (tp : TS) (wi : TI) (g : TG) (te : TE) (tq : TS) (ry : Nat → Hp → Prop) (yl : Nat → Hp → V → Hp → Prop) (en : Nat → Hp → Hp → Prop) (H0 : Hp) : L2.St → Hp → Prop := fun σ H =>
  tp { nx := fun σ1 H1 => wi σ1 H1 fun J H2 => ∃ Q : Nat → L2.St → Hp → Hp → Prop, Q 0 σ1 H0 H2 ∧ ∀ i σ Hw H, Q i σ Hw H →
    (J.stop i H ∧ en i Hw H) ∨ (J.go i H ∧ ∀ x H', J.yld i H x H' → g x σ H' fun σ2 H3 => te σ2 H3 fun y H4 => yl i Hw y H4 ∧ ∀ H5, ry (i + 1) H5 → tq { nx := fun σ6 H6 => Q (i + 1) σ6 H5 H6, rt := fun _ _ => False } σ2 H5), rt := fun _ _ => False } σ H
/-- the context of a slice -/
abbrev slice (X : Cx) (s0 : Shared) (H0 : Hp) : Cx := { X with s_0 := s0, H_0 := H0, xe := fun _ _ => False }
theorem slice_inv {X : Cx} {ip : List (Addr × Obj)} {σ : L2.St} {H : Hp} {s : Shared} (I : Inv X ip σ H s) : Inv (slice X X.s_0 X.H_0) ip σ H s := I.wish fun _ _ => False
/-- woken: from the slice ahead to the next one -/
theorem woken {X : Cx} {sa : Shared} {Ha : Hp} {ip : List (Addr × Obj)} {σ : L2.St} {H H' : Hp} {s s' : Shared} {L : Nat} (hL : X.env.locals = L) (hz : X.s_0.heap.objs.size = L) (X0 : X.Ok) (hcells : ∀ x, X.env.cells.lookup x = none) (hex : X.ex = []) (hst : X.stack = X.env :: X.outer)
    (I : Inv (slice X sa Ha) ip σ H s) {oL : Obj} (eL : s.heap.get? L = some oL) (eL' : s'.heap.get? L = some oL) (nL' : H' L = none) (hfr : X.A.frames = some X.stack) {A' : Around} (e0 : Env0 X.prog X.w X.K X.mg X.base A' X.outer s' H')
    (hp : ∀ p ∈ X.pn ++ ip, s'.heap.get? p.1 = some p.2 ∧ H' p.1 = none) : Inv (slice X { s' with heap := below s'.heap L } H') ip σ H' s' := by
  have lt0 : ∀ b o, X.base.get? b = some o → b < L := fun b o e => by rw [← hz]; exact Heap.lt_size (X0.bs b o e).1
  have ltf : ∀ b ∈ X.fs, b < L := fun b hb => by
    obtain ⟨_, o, e, _⟩ := X0.funs.mem hb
    rw [← hz]; exact Heap.lt_size e
  have noc : ∀ {y c}, X.env.cells.lookup y = some c → False := fun {y c} z => by rw [hcells y] at z; cases z
  refine ⟨⟨X0.mod, X0.kind, X0.glob, X0.blt, ?_, X0.inj, X0.has, fun x c _ h => (noc h).elim, X0.hd, X0.frames, X0.stk, X0.exf, fun b o e => ⟨?_, (e0.bs b o e).2⟩, ?_, X0.noex, X0.exfs, ?_, e0.frf⟩,
    rfl, e0.bare, Un.kept fun b o e => (of_below e).2, ?_, fun x c e => (noc e).elim, ?_, fun x c e => (noc e).elim, fun p hm => ?_, e0.hok, I.len⟩
  · show (below s'.heap L).objs.size ≤ X.env.locals
    rw [hL]; exact below_le
  · show (below s'.heap L).get? b = some o
    rw [below_get (lt0 b o e)]; exact (e0.bs b o e).1
  · show X.base.objs.size ≤ (below s'.heap L).objs.size
    rw [below_size (Nat.le_of_lt (Heap.lt_size eL')), ← hz]
    exact X0.bsz
  · exact funs_below (Nat.le_of_eq hz) X0.funs e0.funs
  · obtain ⟨m, ⟨o, es, ep, ho, r⟩, hl⟩ := I.loc
    have ho : s.heap.get? X.env.locals = some o := ho
    rw [hL, eL] at ho
    cases ho
    refine ⟨m, ⟨oL, es, ep, ?_, r⟩, fun i x v h1 h2 h3 => ?_⟩
    · show s'.heap.get? X.env.locals = _
      rw [hL]; exact eL'
    · obtain ⟨u, r, l⟩ := hl i x v h1 h2 h3
      refine ⟨u, r, l.elim .inl fun z => ?_⟩
      obtain ⟨_, c, e, _⟩ := z
      exact (noc e).elim
  · show H' X.env.locals = none
    rw [hL]; exact nL'
  · obtain ⟨_, _, n1, n2, n3⟩ := I.pin p hm
    obtain ⟨e, n⟩ := hp p hm
    exact ⟨e, n, n1, n2, n3⟩
theorem execs_app {env : Env} {Kf : Flow → Sem PySem.Fin} {J : Value → Sem PySem.Fin} {gd : Bool → Bool} {lv : List Value → List Value} (b : List Stmt) : ∀ a : List Stmt, (execs (a ++ b) env).wrap Kf J gd lv = (execs a env).wrap (fun f => match f with | .next => (execs b env).wrap Kf J gd lv | f => Kf f) J gd lv
  | [] => rfl
  | st :: a => by
    rw [List.cons_append, execs_cons_wrap, execs_cons_wrap]
    refine Sem.wrap_congr _ _ _ (fun f => ?_) fun _ => rfl
    cases f with
    | next => exact execs_app b a
    | _ => rfl
/-- where the loop's code stands -/
theorem over_for {A : Around} {env : Env} {tg : Expr} {it : Value} {body pre : List Stmt} {k : Result → Sem PySem.Fin} {l : List Value} {p : Pos} :
    A.over (.forLoop tg it body [] env) [.ret k none false l (.func pre env) p []] = A.deeper env := (over_loop rfl rfl).trans over_func
section
variable {P : Program} {w : World} {K : PySem.W.Frag} {mg : Str → Option Value} {base : Heap} {N : List Str} {qual : Str} {scope : Scope} {f : Addr} {cd : Value}
/-- the loop, from its i-th turn on -/
theorem turns {X : Cx} {A : Around} {outer : List Env} {sc : Shared} {Hc : Hp} {W : GW} {ry : Nat → Hp → Prop} {E : XK} {N0 : Nat} {a : Addr} {g : Nat} {go : Obj} {tg e : Expr} {post : List Stmt} {yp ep : Pos} {J : It} {fp : List Addr} {it : Addr} {tn : Nat → Heap → Prop} {gt : TG} {te : TE} {tq : TS} {Q : Nat → L2.St → Hp → Hp → Prop}
    {k : Result → Sem PySem.Fin} {l : List Value} {p : Pos} {full : List Stmt}
    (hP : X.prog = P) (hw : X.w = w) (hK : X.K = K) (hm : X.mg = mg) (hb : X.base = base) (hA : X.A = A.deeper X.env) (ho : X.outer = outer) (hfrA : A.frames = some outer) (hc : X.calm = true) (hz : X.s_0 = sc) (hH : X.H_0 = Hc) (hL : X.env.locals = sc.heap.objs.size) (X0 : X.Ok)
    (hcells : ∀ x, X.env.cells.lookup x = none) (hex : X.ex = []) (hst : X.stack = X.env :: X.outer) (hpn : X.pn = [(a, go)]) (hgo : ∀ h : Heap, h.get? a = some go → h.IsGen a g) (hag : sc.heap.objs.size ≤ a) (hgd : ∀ v, go.data ≠ .cell v) (hry : ∀ i s3 H3, W.wk i s3 H3 → ry i H3)
    (T : Turn P w K tg J fp it tn) (hfp : ∀ b ∈ fp, sc.heap.objs.size ≤ b ∧ b ≠ X.env.locals ∧ b ∉ X.fs ∧ b ≠ a ∧ b ∉ W.xa) (hxa : ∀ b ∈ W.xa, b ≠ X.env.locals ∧ b ∉ X.fs) (hax : a ∉ W.xa)
    (hg : ∀ s0 H0, PG (slice X s0 H0) tg gt) (he : ∀ s0 H0, PE (slice X s0 H0) e te) (hq : ∀ s0 H0, PSs (slice X s0 H0) post tq)
    (step : ∀ i σ Hw H, Q i σ Hw H → (J.stop i H ∧ W.en i Hw H) ∨ (J.go i H ∧ ∀ x H', J.yld i H x H' → gt x σ H' fun σ2 H3 => te σ2 H3 fun y H4 => W.yl i Hw y H4 ∧ ∀ H5, ry (i + 1) H5 → tq { nx := fun σ6 H6 => Q (i + 1) σ6 H5 H6, rt := fun _ _ => False } σ2 H5))
    (hk : ∀ r, k (.ok r) = .pure (.done (.ret (match r with | .ret v => v | _ => .none))))
    (hco : X.env.scope.isCoroutine = false) (hi : interactive X.env = false) : ∀ (n i : Nat) (s₀ s sa : Shared) (Ha Hw H : Hp) (σ : L2.St), i + (n + 1) = N0 →
      ((i = 0 ∧ sa = sc ∧ Ha = Hc ∧ Hw = Hc) ∨ (1 ≤ i ∧ W.wk i s₀ Hw ∧ sa = { s₀ with heap := below s₀.heap sc.heap.objs.size } ∧ Ha = Hw ∧ s₀.os = sc.os)) →
      Q i σ Hw H → Inv (slice X sa Ha) (xpins W.xa s₀.heap Hw) σ H s → tn i s.heap → (∀ b ∈ fp, H b = none) →
      Seg (model P w) A (RG P w outer sc Hc W E N0 a g) (YG P w K mg base A outer sc Hc W N0 a g) (n + 1) s₀ (.forLoop tg (.ref it) (.Expr (.Yield (some e) yp) ep :: post) [] X.env)
        ((model P w).den (.forLoop tg (.ref it) (.Expr (.Yield (some e) yp) ep :: post) [] X.env)) [.ret k none false l (.func full X.env) p []] s := by
  subst hP hw hK hm hb ho
  have gd0 : ∀ {kk : Result → Sem PySem.Fin} {c0 : Code}, ([Frame.ret kk none false l c0 p []]).any Frame.guarded = false := rfl
  intro n
  induction n using Nat.strongRecOn with
  | ind n ih =>
    intro i s₀ s sa Ha Hw H σ hN link hQ I st fr
    have size : sa.heap.objs.size ≤ sc.heap.objs.size := by
      rcases link with ⟨_, e, _⟩ | ⟨_, _, e, _⟩
      · rw [e]; exact Nat.le_refl _
      · rw [e]; exact below_le
    have from_ : ∀ {ip : List (Addr × Obj)} {σ' : L2.St} {H' : Hp} {s' : Shared}, Inv (slice X sa Ha) (xpins W.xa s₀.heap Hw ++ ip) σ' H' s' → From X.prog X.w X.outer sc Hc W i s₀ Hw H' s' := fun {ip σ' H' s'} I' => by
      have b : Un X.fs X.ex Ha H' sa.heap s'.heap := I'.base
      have o : s'.os = sa.os := I'.os
      rw [hex] at b
      refine ⟨?_, I'.bare, I'.hok, fun p hp => ?_, ?_⟩
      · rcases link with ⟨_, e, _⟩ | ⟨_, _, e, _, e2⟩
        · rw [o, e]
        · rw [o, e]; exact e2
      · have z := I'.pin p (List.mem_append_right _ (List.mem_append_left _ hp))
        exact ⟨z.1, z.2.1⟩
      · rcases link with ⟨e1, e2, e3, e4⟩ | ⟨e1, e2, e3, e4, _⟩
        · subst e2 e3
          exact .inl ⟨e1, e4, b⟩
        · subst e3 e4
          exact .inr ⟨e1, e2, b⟩
    have fok : ∀ {H' : Hp}, (∀ b ∈ fp, H' b = none) → ∀ b ∈ fp, FpOk (slice X sa Ha) (xpins W.xa s₀.heap Hw) H' b := fun {H'} hn b hb => by
      obtain ⟨z1, z2, z3, z4, z5⟩ := hfp b hb
      refine ⟨hn b hb, z2, z3, .inr (Nat.le_trans size z1), fun x c e => ?_, fun q hq => ?_⟩
      · have e : X.env.cells.lookup x = some c := e
        rw [hcells x] at e; cases e
      · have hq : q ∈ X.pn ++ xpins W.xa s₀.heap Hw := hq
        rw [hpn] at hq
        rcases List.mem_append.mp hq with hq | hq
        · rw [List.mem_singleton.mp hq]; exact Ne.symm z4
        · exact fun z => z5 (z ▸ (of_xpins hq).1)
    show Seg _ A _ _ _ s₀ _ ((forTurn tg (.ref it) (.Expr (.Yield (some e) yp) ep :: post) [] X.env).onRaise (fun x => do noteFrame x X.env; theTreesLotGoes x)) _ s
    unfold forTurn
    rw [Sem.onRaise_eq_wrap]
    refine seg_bind_wrap (wpAny_standAt ?_)
    refine seg_bind_wrap ?_
    rw [over_for, ← hA]
    rcases step i σ Hw H hQ with ⟨stop, hen⟩ | ⟨goes, nxt⟩
    · refine wpAny_onRaise (wpAny_mono (T.done (slice X sa Ha) rfl rfl rfl hc i _ s σ H (fun _ _ => False) I (fok fr) st stop) (fun r' s4 h4 => ?_) fun x s' hx => hx.elim)
      obtain ⟨hr, I4⟩ := h4
      subst hr
      refine seg_again rfl ?_
      show Seg _ A _ _ _ s₀ _ (((execs [] X.env).onRaise (fun x => do noteFrame x X.env; theTreesLotGoes x)) >>= fun f => .pure (Fin.done f)) _ s4
      refine seg_leaf (.ok .next) ?_
      rw [hk]
      exact seg_end (.ok (.ret .none)) (.inl ⟨.inl rfl, i, Hw, H, hN, from_ (ip := []) (by rw [List.append_nil]; exact I4), hen⟩)
    · refine wpAny_onRaise (wpAny_mono (T.item (slice X sa Ha) rfl rfl rfl hc i _ s σ H (fun _ _ => False) I (fok fr) st goes) (fun r' s4 h4 => ?_) fun x s' hx => hx.elim)
      obtain ⟨u, hr, h4⟩ := h4
      subst hr
      refine seg_bind_wrap ?_
      rw [over_for, ← hA]
      refine wpAny_mono h4 (fun _ s5 h5 => ?_) fun x s' hx => hx.elim
      obtain ⟨x, H5, I5, r5, y5, st5, fr5⟩ := h5
      have I5' := I5.pinned (fok fr5) (T.obj _ _ st5)
      refine seg_bind_wrap ?_
      rw [over_for, ← hA]
      refine wpAny_mono ((hg sa Ha).run _ s5 σ H5 x u _ I5' r5 (nxt x H5 y5)) (fun _ s6 h6 => ?_) fun x s' hx => hx.elim
      obtain ⟨σ6, H6, I6, q6⟩ := h6
      rw [Sem.bind_eq_wrap', Sem.wrap_wrap]
      refine seg_execs_cons ?_
      refine seg_Expr_Yield rfl rfl rfl ?_ hco hi
      rw [over_for, ← hA]
      refine wpAny_mono ((he sa Ha).run _ s6 σ6 H6 _ I6 q6) (fun v s7 h7 => ?_) fun x s' hx => hx.elim
      obtain ⟨y, H7, I7, r7, yl7, ry7⟩ := h7
      intro kap hkap
      obtain ⟨m, ⟨oL, es, epp, hoL, hdL, hrL⟩, _⟩ := id I7.loc
      have hoL : s7.heap.get? X.env.locals = some oL := hoL
      have pin5 : ∀ q ∈ pinsAt fp s5.heap, s7.heap.get? q.1 = some q.2 ∧ H7 q.1 = none ∧ ∀ v, q.2.data ≠ .cell v := fun q hq => by
        obtain ⟨p1, p2, _, _, p5⟩ := I7.pin q (List.mem_append_right _ (List.mem_append_right _ hq))
        exact ⟨p1, p2, p5⟩
      have pinG : s7.heap.get? a = some go ∧ H7 a = none := by
        obtain ⟨p1, p2, _⟩ := I7.pin (a, go) (List.mem_append_left _ (by show (a, go) ∈ X.pn; rw [hpn]; exact List.mem_singleton.mpr rfl))
        exact ⟨p1, p2⟩
      refine ⟨i, Hw, y, H7, (X.env.locals, oL) :: (a, go) :: pinsAt fp s5.heap, go, by omega, r7, from_ I7, I7.nolimit, hgo, List.mem_cons_of_mem _ List.mem_cons_self, yl7, fun q hq => ?_, fun hn s' H' hwk e0 os' hp hx => hkap .none s' ?_⟩
      · rcases List.mem_cons.mp hq with hq | hq
        · rw [hq]
          exact ⟨hoL, I7.free, Nat.le_of_eq hL.symm, fun z => (hxa _ z).1 rfl, fun v z => by rw [show oL.data = _ from hdL] at z; cases z⟩
        rcases List.mem_cons.mp hq with hq | hq
        · rw [hq]
          exact ⟨pinG.1, pinG.2, hag, hax, hgd⟩
        · obtain ⟨p1, p2, p3⟩ := pin5 q hq
          exact ⟨p1, p2, (hfp q.1 (of_pinsAt hq).1).1, (hfp q.1 (of_pinsAt hq).1).2.2.2.2, p3⟩
      · obtain ⟨n', rfl⟩ : ∃ n', n = n' + 1 := ⟨n - 1, by omega⟩
        have I7' : Inv (slice X sa Ha) (pinsAt fp s5.heap) σ6 H7 s7 := I7.pins_of fun p hp => I7.pin p (List.mem_append_right _ (List.mem_append_right _ hp))
        have I8' : Inv (slice X { s' with heap := below s'.heap sc.heap.objs.size } H') (pinsAt fp s5.heap) σ6 H' s' := by
          have z := hp (X.env.locals, oL) List.mem_cons_self
          refine woken (L := sc.heap.objs.size) hL (by rw [hz]) X0 hcells hex hst I7' (oL := oL) (by rw [← hL]; exact hoL) (by rw [← hL]; exact z.1) (by rw [← hL]; exact z.2) X0.frames e0 fun q hq => ?_
          rcases List.mem_append.mp hq with hq | hq
          · rw [hpn] at hq
            exact hp q (List.mem_cons_of_mem _ (by rw [List.mem_singleton.mp hq]; exact List.mem_cons_self))
          · exact hp q (List.mem_cons_of_mem _ (List.mem_cons_of_mem _ hq))
        have I8 : Inv (slice X { s' with heap := below s'.heap sc.heap.objs.size } H') (xpins W.xa s'.heap H' ++ pinsAt fp s5.heap) σ6 H' s' := I8'.pins_of fun q hq => (List.mem_append.mp hq).elim (fun z => by
          obtain ⟨z1, z2, z3⟩ := of_xpins z
          exact ⟨z2, z3, (hxa _ z1).1, (hxa _ z1).2, hx _ z1 _ z2⟩) fun z => I8'.pin q (List.mem_append_right _ z)
        refine seg_wrap ?_
        rw [over_for, ← hA]
        refine wpAny_mono ((hq _ _).run _ s' σ6 H' _ I8 (ry7 H' (hry _ _ _ hwk))) (fun fl s9 h9 => ?_) fun x s' hx => hx.elim
        cases fl with
        | next =>
          obtain ⟨σ9, H9, I9, q9⟩ := h9
          have pin9 : ∀ b ∈ fp, ∀ o, s5.heap.get? b = some o → s9.heap.get? b = some o ∧ H9 b = none := fun b hb o eo => by
            have z := I9.pin (b, o) (List.mem_append_right _ (List.mem_append_right _ (mem_pinsAt hb eo)))
            exact ⟨z.1, z.2.1⟩
          refine seg_again rfl (ih n' (by omega) (i + 1) s' s9 _ _ H' H9 σ9 (by omega) (.inr ⟨by omega, hwk, rfl, rfl, os'⟩) q9 I9.unpinned (T.keep _ _ _ st5 fun b hb o eo => (pin9 b hb o eo).1) fun b hb => ?_)
          obtain ⟨o, eo, _⟩ := T.obj _ _ st5 b hb
          exact (pin9 b hb o eo).2
        | brk => obtain ⟨_, _, _, z⟩ := h9; exact z.elim
        | cont => obtain ⟨_, _, _, z⟩ := h9; exact z.elim
        | ret v => obtain ⟨_, _, _, _, _, z⟩ := h9; exact z.elim
theorem no_cells {n : Nat} : ∀ l : List (Str × NameKind), (∀ y ∈ l, y.2 ≠ .cell) → cellsFrom n l [] = []
  | [], _ => rfl
  | (x, kd) :: r, h => by
    have hk : (kd == NameKind.cell) = false := beq_eq_false_iff_ne.mpr (h (x, kd) List.mem_cons_self)
    show (if (kd == NameKind.cell) = true then _ else cellsFrom n r []) = []
    rw [hk, if_neg Bool.false_ne_true]
    exact no_cells r fun y hy => h y (List.mem_cons_of_mem _ hy)
/-- the parts of such a body -/
def lastS (b : List Stmt) : Stmt := b.getLastD (.Pass ⟨0, 0, 0, 0⟩)
def preS (b : List Stmt) : List Stmt := b.dropLast
def tgS (b : List Stmt) : Expr := match lastS b with | .For t _ _ _ _ => t | _ => .Name Str.empty ⟨0, 0, 0, 0⟩
def itS (b : List Stmt) : Expr := match lastS b with | .For _ i _ _ _ => i | _ => .Name Str.empty ⟨0, 0, 0, 0⟩
def yS (b : List Stmt) : Expr := match lastS b with | .For _ _ (.Expr (.Yield (some e) _) _ :: _) _ _ => e | _ => .Name Str.empty ⟨0, 0, 0, 0⟩
def poS (b : List Stmt) : List Stmt := match lastS b with | .For _ _ (_ :: p) _ _ => p | _ => []
/-- THE RULE: such a generator def, by its body -/
theorem gfn2_of {k : Nat} {name : Str} {params : Arguments} {body pre post : List Stmt} {tg iter e : Expr} {yp ep fpos : Pos} {dV kV doc pm ct oc : Value} {an od : Option Addr} {osl : Array (Option Value)} {ps : List Str} {sp : SpG2}
    (lk : K.lookup f = some ⟨oc, od, .func (PySem.W.fnOf name qual params body scope dV kV doc pm an cd ct), osl⟩) (hcd : PySem.W.codeIn K cd qual = true) (S : GScope N ps scope)
    (hbd : body = pre ++ [.For tg iter (.Expr (.Yield (some e) yp) ep :: post) [] fpos]) (nocell : ∀ y ∈ scope.names, y.2 ≠ .cell) (hs : ∀ env x, foldedSetIterable iter env x = pure x)
    (hco : scope.isCoroutine = false) (hin : ∀ L, interactive (envOfC qual scope L f cd) = false)
    (len : ∀ vs H ry yl en E, sp vs H ry yl en E → vs.length = ps.length)
    (hbody : ∀ (A : Around) (outer : List Env) (s : Shared) (H : Hp) (vs : List V) (ry : Nat → Hp → Prop) (yl : Nat → Hp → V → Hp → Prop) (en : Nat → Hp → Hp → Prop) (E : XK) (pn : List (Addr × Obj)), Room k (A.deeper (envOfC qual scope s.heap.objs.size f cd)) → sp vs H ry yl en E →
      ∃ tp wi g te tq, PSs (gcxOf P w K mg base N qual scope f cd A outer s H E pn) pre tp ∧ PI (slice (gcxOf P w K mg base N qual scope f cd A outer s H E pn) s H) tg iter wi ∧ (∀ s0 H0, PG (slice (gcxOf P w K mg base N qual scope f cd A outer s H E pn) s0 H0) tg g) ∧
        (∀ s0 H0, PE (slice (gcxOf P w K mg base N qual scope f cd A outer s H E pn) s0 H0) e te) ∧ (∀ s0 H0, PSs (slice (gcxOf P w K mg base N qual scope f cd A outer s H E pn) s0 H0) post tq) ∧ tGenX tp wi g te tq ry yl en H (start N vs) H) :
    GFn2 P w K mg base (k + 1) f (PySem.W.fnOf name qual params body scope dV kV doc pm an cd ct) ps sp := by
  subst hbd
  refine ⟨len, fun A outer s H args us vs ry yl en E hr e0 hb r hsp => ?_⟩
  have hl := len _ _ _ _ _ _ hsp
  have kin : K.In s.heap := e0.mod.kin.keeps fun b o q => (e0.bs b o q).1
  have lim : s.heap.NoLimit := e0.mod.nolimit.keeps fun b o q => (e0.bs b o q).1
  have kinds : ∀ y ∈ ps.zip us, scope.names.lookup y.1 = some .local ∨ (scope.names.lookup y.1 = some .cell ∧ ((cellsFrom (s.heap.objs.size + 1) scope.names []).lookup y.1).isSome = true) := fun ⟨n, v⟩ hy => by
    rcases S.par n (List.of_mem_zip hy).1 with z | z
    · exact .inl z
    · exact .inr ⟨z, PySem.W.cellsFrom_some _ _ _ (.inl z)⟩
  refine codeAny_call_generator hr.depth (kin _ _ lk) rfl S.co S.gen rfl (PySem.W.codeRec_of kin hcd) (hb _ _ _ _ ?_)
  refine wpAny_newFunctionEnv_cells S.kind kinds fun env he s1 x => ?_
  subst he
  have lim1 : s1.heap.NoLimit := lim.keeps x.toInCall.keep
  refine ⟨lim1, ?_⟩
  obtain ⟨h1, tk, es1, _⟩ := x.done
  have os1 : s1.os = s.os := by rw [es1]
  have gen1 : s1.gens = s.gens := by rw [es1]
  have lt1 : s.heap.objs.size < s1.heap.objs.size := x.toInCall.ns.lt
  have kp1 : ∀ b o, s.heap.get? b = some o → s1.heap.get? b = some o := x.toInCall.keep
  have main : ∀ (go : Obj) (nm qn : Value) (tk2 : Nat), go.cls = .type "generator" → go.data = .fields #[.int s1.gens.size 0, nm, qn] → go.slots = #[] → (∀ h : Heap, (h.push go).get? h.objs.size = some go) →
      GMade2 P w K mg base (k + 1) outer H s ry yl en E (.ref s1.heap.objs.size) { s1 with gens := s1.gens.push (.fresh (.func (pre ++ [.For tg iter (.Expr (.Yield (some e) yp) ep :: post) [] fpos]) (envOfC qual scope s.heap.objs.size f cd))), toks := tk2, heap := s1.heap.push go } := by
    intro go nm qn tk2 c1 c2 c3 hgp
    have isG : ∀ h : Heap, h.get? s1.heap.objs.size = some go → h.IsGen s1.heap.objs.size s1.gens.size := fun h q => ⟨go, nm, qn, q, c1, c2, c3⟩
    have there : (s1.heap.push go).get? s1.heap.objs.size = some go := hgp _
    refine ⟨s1.heap.objs.size, s1.gens.size, _, rfl, Nat.le_of_lt lt1, ?_, isG _ there, Array.getElem?_push_size .., os1, ?_, lim1.keeps fun b o q => Heap.get?_push_of_some _ q, fun b o q => Heap.get?_push_of_some _ (kp1 b o q), ?_⟩
    · show _ < (s1.heap.push _).objs.size
      rw [Heap.size_push]; exact Nat.lt_succ_self _
    · exact AllBare.push (by rw [gen1]; exact e0.bare) rfl
    intro Aw xa wk N0 s2 hrw hfr hxa hry hk2 hos hba hN0
    have e0w : Env0 P w K mg base Aw outer s H := ⟨hfr, e0.mod, e0.bs, e0.bsz, e0.funs, e0.frf, e0.hok, e0.bare⟩
    obtain ⟨tp, wi, gt, te, tq, hp1, hp2, hp3, hp4, hp5, hq⟩ := hbody Aw outer s H vs ry yl en E [(s1.heap.objs.size, go)] (hrw.deeper _) hsp
    have I1 : Inv (gcxOf P w K mg base N qual scope f cd Aw outer s H E []) [] (start N vs) H s1 := inv_startG S hrw.hd e0w hl r x
    have kp2 : ∀ b o, s1.heap.get? b = some o → s2.heap.get? b = some o := fun b o q => hk2 b o (Heap.get?_push_of_some _ q)
    have I2 : Inv (gcxOf P w K mg base N qual scope f cd Aw outer s H E []) [] (start N vs) H s2 := I1.call' (ch := []) (hos.trans os1.symm) (Un.kept kp2) (I1.hok.kept kp2) hba fun b z => by simp at z
    have hea : s2.heap.get? s1.heap.objs.size = some go := hk2 _ go there
    have hgd : ∀ v, go.data ≠ .cell v := fun v q => by rw [c2] at q; cases q
    have lexa : ∀ b ∈ xa, s1.heap.objs.size < b := fun b hb => by
      have z : (s1.heap.push go).objs.size ≤ b := (hxa b hb).1
      rw [Heap.size_push] at z
      exact z
    have I3 : Inv (gcxOf P w K mg base N qual scope f cd Aw outer s H E [(s1.heap.objs.size, go)]) (xpins xa s2.heap H) (start N vs) H s2 := Inv.pinnedG I2 fun p hp => by
      rcases List.mem_append.mp hp with hp | hp
      rotate_left
      · obtain ⟨z1, z2, z3⟩ := of_xpins hp
        obtain ⟨_, o, eo, co⟩ := hxa _ z1
        rw [z2] at eo
        cases eo
        exact ⟨z2, z3, Nat.ne_of_gt (Nat.lt_trans lt1 (lexa _ z1)), I1.nofs (Nat.le_of_lt (lexa _ z1)), co⟩
      rw [List.mem_singleton] at hp
      rw [hp]
      exact ⟨hea, I1.hok.fresh (Nat.le_refl _), Nat.ne_of_gt lt1, I1.nofs (Nat.le_refl _), hgd⟩
    have noc : ∀ y, (envOfC qual scope s.heap.objs.size f cd).cells.lookup y = none := fun y => by
      show (cellsFrom (s.heap.objs.size + 1) scope.names []).lookup y = none
      rw [no_cells scope.names nocell]
      rfl
    refine seg_func ?_
    rw [execs_app]
    refine seg_wrap ?_
    rw [over_func]
    refine wpAny_mono (hp1.run _ s2 _ H _ I3 hq) (fun fl s3 h3 => ?_) fun z s3 hx => ?_
    · cases fl with
      | brk => obtain ⟨_, _, _, z⟩ := h3; exact z.elim
      | cont => obtain ⟨_, _, _, z⟩ := h3; exact z.elim
      | ret v => obtain ⟨_, _, _, _, _, z⟩ := h3; exact z.elim
      | next =>
        obtain ⟨σ3, H3, I3', q3⟩ := h3
        have I4 := slice_inv I3'
        show Seg _ Aw _ _ _ _ _ ((execs [.For tg iter (.Expr (.Yield (some e) yp) ep :: post) [] fpos] _).wrap _ _ _ _) _ _
        refine seg_execs_cons ?_
        rw [exec_For]
        show Seg _ _ _ _ _ _ _ (.at fpos fun _ => (eval iter (envOfC qual scope s.heap.objs.size f cd) >>= fun v => (foldedSetIterable iter (envOfC qual scope s.heap.objs.size f cd) v >>= fun x => (standAt iter.pos >>= fun _ => (holding [x] (pyIter x) >>= fun itv => runOwn (.forLoop tg itv (.Expr (.Yield (some e) yp) ep :: post) [] (envOfC qual scope s.heap.objs.size f cd)) (envOfC qual scope s.heap.objs.size f cd))))).wrap _ _ _ _) _ _
        refine seg_at (seg_bind_wrap ?_)
        rw [over_func]
        refine wpAny_mono (hp2.run _ s3 σ3 H3 _ I4 q3) (fun v s4 h4 => ?_) fun x s' hx => hx.elim
        rw [hs _ v]
        refine seg_bind_wrap (wpAny_pure ?_)
        refine seg_bind_wrap (wpAny_standAt ?_)
        refine seg_bind_wrap ?_
        rw [over_func]
        refine wpAny_holding (wpAny_mono h4 (fun itv s5 h5 => ?_) fun x s' hx => hx.elim)
        obtain ⟨it, fp, tn, Jt, H5, ee, I5, T, st5, f5, Q, q0, turn⟩ := h5
        subst ee
        refine seg_call fun p => ?_
        obtain ⟨n, rfl⟩ : ∃ n, N0 = n + 1 := ⟨N0 - 1, by omega⟩
        refine turns (X := gcxOf P w K mg base N qual scope f cd Aw outer s H E [(s1.heap.objs.size, go)]) (W := ⟨xa, wk, yl, en⟩) (Q := Q) rfl rfl rfl rfl rfl rfl rfl hfr rfl rfl rfl rfl I3.ok noc rfl rfl rfl isG (Nat.le_of_lt lt1) hgd hry T (fun b hb => ?_) (fun b hb => ⟨Nat.ne_of_gt (Nat.lt_trans lt1 (lexa _ hb)), I1.nofs (Nat.le_of_lt (lexa _ hb))⟩) (fun hb => Nat.lt_irrefl _ (lexa _ hb)) hp3 hp4 hp5 turn (fun r => by cases r <;> rfl) hco (hin _) n 0 s2 s5 s H H H5 σ3 (by omega) (.inl ⟨rfl, rfl, rfl, rfl⟩) q0 I5 st5 fun b hb => (f5 b hb).1
        obtain ⟨_, z1, z2, z3, _, z4⟩ := f5 b hb
        refine ⟨z3.elim (fun z => ?_) id, z1, z2, fun z => z4 (s1.heap.objs.size, go) (List.mem_append_left _ (List.mem_singleton.mpr rfl)) z.symm, fun z => ?_⟩
        rotate_left
        · obtain ⟨_, o, eo, _⟩ := hxa _ z
          exact z4 (b, o) (List.mem_append_right _ (to_xpins z eo (I1.hok.fresh (Nat.le_of_lt (lexa _ z))))) rfl
        exact absurd (show b ∈ ([] : List Addr) from z) List.not_mem_nil
    · refine seg_wrap ?_
      rw [over_func]
      refine wpAny_mono (show wpAny (model P w) (Aw.deeper (envOfC qual scope s.heap.objs.size f cd)) (leaving (envOfC qual scope s.heap.objs.size f cd) z) (fun _ s'' => CX P w outer H s E z s'' ∧ ∀ p ∈ [(s1.heap.objs.size, go)], s''.heap.get? p.1 = some p.2) (fun _ _ => False) s3 from hx) (fun _ s4 q => ?_) fun _ s4 q => q.elim
      exact seg_end (.error z) (.inr ⟨z, rfl, q.1, isG _ (q.2 _ (List.mem_singleton.mpr rfl))⟩)
  exact main _ _ _ _ rfl rfl rfl fun h => Heap.get?_push_size _ rfl
end
end HS
/-! Consuming a generator of genx.lean: next, for with break, a list comprehension over it (own rules over PyProof.Gen, HandS.GenList). -/
namespace HS
open PySem PySem.Spec PyProof.Rows L2 GenW
section
variable {M : Model}
/-- what goes on behind a yield -/
def goOn (M : Model) (A : Around) (R : GenEnd) (Y : Protocol) : Nat → GenState → Resume → Shared → Prop
  | 0 => fun _ _ _ => False
  | m + 1 => fun gs r s => gs.Goes M A R Y m r s
/-- as the kit's resume, but it tells that what a yield leaves is asleep -/
theorem wake_gen {A : Around} {R : GenEnd} {Y : Protocol} {n g : Nat} {E : Value → Shared → Prop} {s : Shared} {gs : GenState} {r : Resume} {lv : List Value} {α : Type} {k : GenResult → Sem α} {Q : α → Shared → Prop}
    (there : s.gens[g]? = some gs) (goes : gs.Goes M A R Y n r (s.setGen g .running)) (ends : ∀ x t, R n (s.setGen g .running) x t → wpAny M A (k (End.ret x).result) Q E (t.setGen g .finished))
    (yields : ∀ v t gs', gs'.bare = true → Asleep gs' → Y (n - 1) (s.setGen g .running) v t (goOn M A R Y n gs') → wpAny M A (k (.yielded v)) Q E (t.setGen g gs')) : wpAny M A (.resume g r lv k) Q E s := by
  intro Γ p hΓ; rw [Sem.wp_resume]
  have woken : ∀ c, (Γ.wake c p).Woken A := fun d => hΓ.wake d p
  have both : ∀ e t, SegEnd R Y n (Seg.next M A R Y n) (s.setGen g .running) e t → e.quiet = true ∧ Sem.wp M Γ (k e.result) (fun a _ s' => Q a s') (fun x _ s' => E x s') p (t.setGen g e.genState) := fun e t h => by
    cases e with
    | ret x => exact ⟨rfl, ends x t h Γ p hΓ⟩
    | susp v g0 l0 k0 c0 p0 f0 => exact ⟨h.1, yields v t _ (End.bare_of_quiet h.1) ⟨_, _, _, _, _, _, rfl⟩ (by cases n with | zero => exact h.2 | succ m => exact h.2) Γ p hΓ⟩
  cases gs with
  | running => exact goes.elim
  | finished => exact goes.elim
  | fresh c =>
    obtain ⟨rfl, seg⟩ := goes
    obtain ⟨e, t, run, fin⟩ := seg_iff.mp seg (Γ.wake c p) p rfl (woken c)
    exact ⟨_, _, by unfold Wakes; rw [there]; exact ⟨e, t, run, (both e t fin).1, rfl, rfl⟩, (both e t fin).2⟩
  | suspended k0 l0 c0 p0 f0 cl =>
    obtain ⟨e, t, run, fin⟩ := seg_iff.mp goes (Γ.wake c0 p) p0 rfl (woken c0)
    exact ⟨_, _, by unfold Wakes; rw [there]; exact ⟨e, t, run, (both e t fin).1, rfl, rfl⟩, (both e t fin).2⟩
end
theorem next_gen {P : Program} {w : World} {A : Around} {E : Value → Shared → Prop} {s : Shared} {a : Addr} {g n : Nat} {gs : GenState} {F : Nat → Shared → Shared → Prop} {Er : Value → Shared → Prop} {Y : Protocol} {Q : Option Value → Shared → Prop}
    (cold : A.handled = none) (lim : s.heap.NoLimit) (room : A.depth < recursionLimit) (isg : s.heap.IsGen a g) (there : s.gens[g]? = some gs)
    (goes : gs.Goes (model P w) A.in1 (fun n s₀ r t => ((r = .ok (.ret .none) ∨ r = .ok .next) ∧ F n s₀ t) ∨ ∃ e, r = .error e ∧ Er e t) Y n (.send .none) (s.setGen g .running))
    (yields : ∀ v t gs', gs'.bare = true → Asleep gs' → Y (n - 1) (s.setGen g .running) v t (goOn (model P w) A.in1 (fun n s₀ r t => ((r = .ok (.ret .none) ∨ r = .ok .next) ∧ F n s₀ t) ∨ ∃ e, r = .error e ∧ Er e t) Y n gs') → Q (some v) (t.setGen g gs'))
    (stops : ∀ t, F n (s.setGen g .running) t → ∀ h', (∀ b o, t.heap.get? b = some o → h'.get? b = some o) → Q none { t.setGen g .finished with heap := h' })
    (fails : ∀ e t, Er e t → t.heap.IsGen a g ∧ NotStop (model P w) e t.heap ∧ E e (t.setGen g .finished)) : wpAny (model P w) A (pyNext (.ref a)) Q E s := by
  unfold pyNext; refine wpAny_bind (wpAny_attempt (wpAny_callSpecial?_slot (name := Str.ofString "__next__") isg.typeIs slot_gen_next (wpAny_call_entry slot_gen_next isg.typeIs entry_gen_next ?_ (args_gen_next _))))
  (show wpAny _ A.in1 (Builtin.Generator.genWake (.ref a) (.send .none)) _ _ s); unfold Builtin.Generator.genWake
  refine wpAny_bind (wpAny_holding (wpAny_genNumber isg (wpAny_bind (wpAny_genState there ?_))))
  cases gs with
  | running => exact goes.elim
  | finished => exact goes.elim
  | _ =>
    refine wpAny_bind (wpAny_roomToWake lim room ?_); show wpAny _ A.in1 (.resume g (.send .none) [] _) _ _ s
    refine wake_gen there goes (fun x t hx => ?_) (fun v t gs' hb ha hv => wpAny_pure ⟨v, rfl, wpAny_pure (yields v t gs' hb ha hv)⟩)
    rcases hx with ⟨hr, hp⟩ | ⟨e, rfl, he⟩
    · have back : End.result (.ret x) = .returned .none := by rcases hr with hr | hr <;> rw [hr] <;> rfl
      (first | rw [back] | simp only [back]); show wpAny _ A.in1 (newExc (.type "StopIteration") [] >>= _) _ _ _
      refine wpAny_bind ?_; simp only [newExc, newTuple]; refine wpAny_bind (wpAny_newObj_type ?_ (by size_fits))
      refine wpAny_bind (m := firstArgMember _ _) (wpAny_of_eq (a := Value.none) (by (first | rfl | (simp only [firstArgMember]; rfl))) ?_); refine wpAny_newObj_type ?_ (by size_fits)
      simp only [raiseNew]; refine wpAny_bind (wpAny_bind (wpAny_handled ?_)); (first | rw [show A.in1.handled = none from cold] | rw [cold])
      refine wpAny_throw ?_; refine wpAny_bind (wpAny_isInstance (T := "StopIteration") (b := true) ⟨_, Heap.get?_push_size _ rfl, rfl⟩ isSubtype_stop ?_)
      exact wpAny_pure (stops t hp _ fun b o e => Heap.get?_push_of_some _ (Heap.get?_push_of_some _ e))
    · obtain ⟨isg1, nst, hq⟩ := fails e t he
      obtain ⟨o, nm, qn, ho, hc, hd, hsl⟩ := isg1
      (show wpAny _ A.in1 (Builtin.Generator.genLeft (.ref a) e) _ _ _); unfold Builtin.Generator.genLeft Builtin.Generator.madeByALambda
      refine wpAny_bind (wpAny_bind (wpAny_load (o := o) ho (wpAny_pure ?_))); refine wpAny_bind (nst _ _ _ _ rfl ?_)
      rw [Bool.and_false, if_neg Bool.false_ne_true]; unfold Builtin.Generator.genEscaped
      (first | refine wpAny_bind (nst _ _ _ _ rfl ?_) | refine wpAny_bind (wpAny_pure (wpAny_bind (nst _ _ _ _ rfl ?_))))
      rw [if_pos (show (!false) = true from rfl)]; (first | refine wpAny_throw ?_ | refine wpAny_bind (wpAny_throw ?_))
      refine wpAny_bind (nst _ _ _ _ rfl ?_); rw [if_neg Bool.false_ne_true]; exact wpAny_throw hq
/-- other generators' states do not matter to what is known -/
theorem Inv_gens {X : Cx} {pins : List (Addr × Obj)} {σ : L2.St} {H : Hp} {s : Shared} {D : Array GenState} (I : Inv X pins σ H s) (hb : AllBare D) : Inv X pins σ H { s with gens := D } :=
  I.call' (ch := []) rfl (Un.kept fun _ _ e => e) I.hok hb fun b z => by simp at z
/-- a run by night -/
theorem nightly {α : Type} {M : Model} {A : Around} {t : Sem α} {Q : α → Shared → Prop} {s : Shared} {g : Nat} {gs : GenState} (ha : Asleep gs) (there : s.gens[g]? = some gs) (h : wpAny M A t Q (fun _ _ => False) (night s)) :
    wpAny M A t (fun a s' => s'.gens[g]? = some gs ∧ ∃ D, Like s'.gens D ∧ Q a { s' with gens := D }) (fun _ _ => False) s :=
  wpAny_mono (by_night h) (fun a s' q => ⟨q.1 g gs there ha, q.2⟩) fun e s' q => by obtain ⟨_, _, _, z⟩ := q; exact z
/-- what the consumer knows when it wakes the generator -/
abbrev wkOf (X : Cx) (pins : List (Addr × Obj)) (Pv : Nat → L2.St → Hp → Prop) : Nat → Shared → Hp → Prop := fun i s H => ∃ σ, Inv X pins σ H s ∧ Pv i σ H
/-- what stood at the call lies below; of what came since, the frame is left as it is -/
theorem un_below {fs xa : List Addr} {H H' : Hp} {h h' : Heap} {L C : Nat} (u : Un fs [] H H' (below h L) h') (hC : C < L ∨ C ∈ xa) (nC : H C = none) (kp : ∀ p ∈ xpins xa h H, h'.get? p.1 = some p.2 ∧ H' p.1 = none) : Un fs ((List.range' L (h.objs.size - L)).filter fun b => decide (b ≠ C)) H H' h h' := by
  have low : ∀ b o, h.get? b = some o → b ∉ (List.range' L (h.objs.size - L)).filter (fun b => decide (b ≠ C)) → (below h L).get? b = some o ∨ (h'.get? b = some o ∧ H' b = none) := fun b o e n => by
    have hb := Heap.lt_size e
    by_cases hL : b < L
    · left; rw [below_get hL]; exact e
    · have hL := Nat.le_of_not_lt hL
      by_cases hbC : b = C
      · right
        subst hbC
        exact kp (b, o) (to_xpins (hC.resolve_left (Nat.not_lt.mpr hL)) e nC)
      · exact absurd (List.mem_filter.mpr ⟨List.mem_range'_1.mpr ⟨hL, by rw [Nat.add_sub_of_le (Nat.le_trans hL (Nat.le_of_lt hb))]; exact hb⟩, decide_eq_true hbC⟩) n
  exact ⟨fun b o e n hf hx => (low b o e hx).elim (fun z => u.keep b o z n hf List.not_mem_nil) fun z => z.1, fun b o e n hf hx => (low b o e hx).elim (fun z => u.slot b o z n hf List.not_mem_nil) fun z => ⟨o.slots, z.1⟩,
    fun b o e n hx => (low b o e hx).elim (fun z => u.free b o z n List.not_mem_nil) fun z => z.2, fun b o e hx => (low b o e hx).elim (fun z => u.there b o z List.not_mem_nil) fun z => ⟨o, z.1⟩, u.tups, u.frzs, u.tbls⟩
section
variable {X : Cx} {pins : List (Addr × Obj)} {Hc : Hp} {sc : Shared} {Pv : Nat → L2.St → Hp → Prop} {yl : Nat → Hp → V → Hp → Prop} {en : Nat → Hp → Hp → Prop} {E : XK} {N0 : Nat} {a : Addr} {g : Nat} {σ0 : L2.St} {xa : List Addr} {lf : Nat → Hp → Hp} {h1 : Heap}
/-- about to ask for the i-th item (h1: the heap at the first asking) -/
structure Asks (X : Cx) (pins : List (Addr × Obj)) (xa : List Addr) (h1 : Heap) (Hc : Hp) (sc : Shared) (Pv : Nat → L2.St → Hp → Prop) (yl : Nat → Hp → V → Hp → Prop) (en : Nat → Hp → Hp → Prop) (E : XK) (N0 : Nat) (a : Addr) (g : Nat) (i : Nat) (s : Shared) : Prop where
  lim : s.heap.NoLimit
  os : s.os = sc.os
  first : i = 0 → s.heap = h1
  isg : s.heap.IsGen a g
  state : ∃ gs, s.gens[g]? = some gs ∧ gs.Goes (model X.prog X.w) X.A.in1 (RG X.prog X.w X.stack sc Hc ⟨xa, wkOf X pins Pv, yl, en⟩ E N0 a g) (YG X.prog X.w X.K X.mg X.base X.A.in1 X.stack sc Hc ⟨xa, wkOf X pins Pv, yl, en⟩ N0 a g) (N0 - i) (.send .none) (s.setGen g .running)
/-- how the consumer stands to what the generator may touch -/
structure Apt (X : Cx) (pins : List (Addr × Obj)) (xa : List Addr) (h1 : Heap) (Hc : Hp) (sc : Shared) (Pv : Nat → L2.St → Hp → Prop) (σ0 : L2.St) (lf : Hp → Hp) : Prop where
  os : sc.os = X.s_0.os
  loc : X.env.locals < sc.heap.objs.size ∨ X.env.locals ∈ xa
  far : ∀ b, sc.heap.objs.size ≤ b → b ≠ X.env.locals → (b ∈ X.ex ∨ X.s_0.heap.objs.size ≤ b) ∧ (∀ x c, X.env.cells.lookup x = some c → c ≠ b) ∧ ∀ p ∈ X.pn ++ pins, p.1 ≠ b
  fs : ∀ b ∈ X.fs, b < sc.heap.objs.size
  nocell : ∀ i σ H s, Inv X pins σ H s → Pv (i + 1) σ H → ∀ b ∈ xa, ∀ o, s.heap.get? b = some o → ∀ v, o.data ≠ .cell v
  start : ∀ H2 t, t.os = sc.os → AllBare t.gens → HOk X.prog X.w H2 t.heap → Un (frs X.stack) [] Hc H2 sc.heap t.heap → (∀ p ∈ xpins xa h1 Hc, t.heap.get? p.1 = some p.2 ∧ H2 p.1 = none) → Inv X pins σ0 (lf H2) t
/-- the heap that is told -/
def lifted (lf : Hp → Hp) (i : Nat) (H : Hp) : Hp := if i = 0 then lf H else H
theorem inv_from {lf : Hp → Hp} (ap : Apt X pins xa h1 Hc sc Pv σ0 lf) {i : Nat} {Hw H2 : Hp} {s t : Shared} (fst : i = 0 → s.heap = h1) (f : From X.prog X.w X.stack sc Hc ⟨xa, wkOf X pins Pv, yl, en⟩ i s Hw H2 t) : ∃ σ', ((i = 0 ∧ σ' = σ0 ∧ Hw = Hc) ∨ (1 ≤ i ∧ Pv i σ' Hw)) ∧ Inv X pins σ' (lifted lf i H2) t := by
  obtain ⟨os, bare, hok, kp, z | z⟩ := f
  · obtain ⟨rfl, rfl, un⟩ := z
    exact ⟨σ0, .inl ⟨rfl, rfl, rfl⟩, ap.start H2 t os bare hok un (by rw [← fst rfl]; exact kp)⟩
  · obtain ⟨hi, ⟨σ', I, pv'⟩, un⟩ := z
    have nz : i ≠ 0 := by omega
    refine ⟨σ', .inr ⟨hi, pv'⟩, ?_⟩
    show Inv X pins σ' (if i = 0 then lf H2 else H2) t
    rw [if_neg nz]
    refine I.call' (ch := (List.range' sc.heap.objs.size (s.heap.objs.size - sc.heap.objs.size)).filter fun b => decide (b ≠ X.env.locals)) (by rw [os, I.os, ap.os]) (un_below un ap.loc I.free kp) hok bare fun b hb => ?_
    obtain ⟨z1, z2⟩ := List.mem_filter.mp hb
    have z2 : b ≠ X.env.locals := of_decide_eq_true z2
    obtain ⟨f1, f2, f3⟩ := ap.far b (List.mem_range'_1.mp z1).1 z2
    exact ⟨f1, z2, f2, f3⟩
/-- what the next one may be -/
def Gives (X : Cx) (pins : List (Addr × Obj)) (xa : List Addr) (h1 : Heap) (Hc : Hp) (sc : Shared) (Pv : Nat → L2.St → Hp → Prop) (yl : Nat → Hp → V → Hp → Prop) (en : Nat → Hp → Hp → Prop) (E : XK) (N0 : Nat) (a : Addr) (g : Nat) (σ0 : L2.St) (lf : Hp → Hp) (i : Nat) (r : Option Value) (s1 : Shared) : Prop :=
  match r with
  | none => ∃ σ' Hw H2, Inv X pins σ' (lifted lf i H2) s1 ∧ ((i = 0 ∧ σ' = σ0 ∧ Hw = Hc) ∨ (1 ≤ i ∧ Pv i σ' Hw)) ∧ en i Hw H2
  | some v => ∃ (σ' : L2.St) (Hw : Hp) (x : V) (H2 : Hp) (pv : List (Addr × Obj)) (gs : GenState), Inv X (pins ++ pv) σ' (lifted lf i H2) s1 ∧ RelV x v ∧ ((i = 0 ∧ σ' = σ0 ∧ Hw = Hc) ∨ (1 ≤ i ∧ Pv i σ' Hw)) ∧ yl i Hw x H2 ∧ Asleep gs ∧ s1.gens[g]? = some gs ∧ s1.heap.IsGen a g ∧
      ∀ (s7 : Shared) (σ7 : L2.St) (H7 : Hp), Inv X (pins ++ pv) σ7 H7 s7 → Pv (i + 1) σ7 H7 → s7.gens[g]? = some gs → Asks X pins xa h1 Hc sc Pv yl en E N0 a g (i + 1) s7
theorem asks_next {lf : Hp → Hp} {i : Nat} {s : Shared} {Er : Value → Shared → Prop} (ap : Apt X pins xa h1 Hc sc Pv σ0 lf) (lfn : ∀ H b, sc.heap.objs.size ≤ b → b ∉ xa → H b = none → lf H b = none) (cold : X.A.handled = none) (room : X.A.depth < recursionLimit) (hi : i + 2 ≤ N0) (h : Asks X pins xa h1 Hc sc Pv yl en E N0 a g i s)
    (hE : ∀ e t, CX X.prog X.w X.stack Hc sc E e t → NotStop (model X.prog X.w) e t.heap ∧ Er e (t.setGen g .finished)) :
    wpAny (model X.prog X.w) X.A (pyNext (.ref a)) (Gives X pins xa h1 Hc sc Pv yl en E N0 a g σ0 lf i) Er s := by
  obtain ⟨gs, there, goes⟩ := h.state
  obtain ⟨m, hm⟩ : ∃ m, N0 - i = m + 1 := ⟨N0 - i - 1, by omega⟩
  rw [hm] at goes
  have hgs : g < s.gens.size := (Array.getElem?_eq_some_iff.mp there).1
  refine wpAny_gsz (n := g + 1) hgs (next_gen (F := fun n s₀ t => ∃ (i : Nat) (Hw H2 : Hp), i + n = N0 ∧ From X.prog X.w X.stack sc Hc ⟨xa, wkOf X pins Pv, yl, en⟩ i s₀ Hw H2 t ∧ en i Hw H2) (Er := fun e t => CX X.prog X.w X.stack Hc sc E e t ∧ t.heap.IsGen a g)
    cold h.lim room h.isg there goes (fun v t gs' hb ha hY hsz => ?_) (fun t hF h' hk hsz => ?_) fun e t he => ?_)
  · obtain ⟨i', Hw, x, H2, pv, go, hn, rx, fr, lim, hgo, hmem, hy, hpv, kap⟩ := hY
    have : i' = i := by omega
    subst this
    obtain ⟨σ', pw, I1⟩ := inv_from (s := s.setGen g .running) (yl := yl) (en := en) ap h.first fr
    have I2 : Inv X (pins ++ pv) σ' (lifted lf i' H2) t := I1.pins_of fun p hp => (List.mem_append.mp hp).elim (fun z => I1.pin p (List.mem_append_right _ z)) fun z => by
      obtain ⟨e, n, l, nx, c⟩ := hpv p z
      refine ⟨e, ?_, fun z => ?_, fun z => absurd (ap.fs _ z) (Nat.not_lt.mpr l), c⟩
      · unfold lifted
        by_cases hz : i' = 0
        · rw [if_pos hz]; exact lfn _ _ l nx n
        · rw [if_neg hz]; exact n
      · rcases ap.loc with q | q
        · rw [z] at l
          exact absurd q (Nat.not_lt.mpr l)
        · exact nx (z ▸ q)
    have hsz' : g < t.gens.size := by
      have q : (t.setGen g gs').gens.size = t.gens.size := setGen_size _ _ _
      rw [← q]; exact hsz
    refine ⟨σ', Hw, x, H2, pv, gs', Inv_gens I2 (allBare_setGen I2.bare hb), rx, pw, hy, ha, setGen_at hsz', hgo _ (hpv _ hmem).1, fun s7 σ7 H7 I7 p7 t7 => ⟨I7.nolimit, by rw [I7.os, ap.os], fun z => by omega, hgo _ (I7.pin _ (List.mem_append_right _ (List.mem_append_right _ hmem))).1, gs', t7, ?_⟩⟩
    have e : N0 - (i' + 1) = m := by omega
    rw [e]
    have I8 : Inv X (pins ++ pv) σ7 H7 (s7.setGen g .running) := Inv_gens I7 (allBare_setGen I7.bare rfl)
    exact kap (by omega) (s7.setGen g .running) H7 ⟨σ7, I8.unpinned, p7⟩ I8.env0.in1 (by rw [I8.os, ap.os]) (fun p hp => by
      have z := I8.pin p (List.mem_append_right _ (List.mem_append_right _ hp))
      exact ⟨z.1, z.2.1⟩) (ap.nocell _ _ _ _ I8.unpinned p7)
  · obtain ⟨i', Hw, H2, hn, fr, hen⟩ := hF
    have : i' = i := by omega
    subst this
    obtain ⟨σ', pw, I1⟩ := inv_from (s := s.setGen g .running) (yl := yl) (en := en) ap h.first fr
    exact ⟨σ', Hw, H2, I1.call' (ch := []) rfl (Un.kept hk) (I1.hok.kept hk) (allBare_setGen I1.bare rfl) fun b z => by simp at z, pw, hen⟩
  · obtain ⟨c, isg⟩ := he
    obtain ⟨z1, z2⟩ := hE e t c
    exact ⟨isg, z1, fun _ => z2⟩
end
end HS
/-! for x in f(..) of such a generator def (behind genfor.lean). -/
namespace HS
open PySem PySem.Spec PyProof.Rows L2 GenW
/-- what a generator def promises for its arguments -/
abbrev Pr2 := (Nat → Hp → Prop) → (Nat → Hp → V → Hp → Prop) → (Nat → Hp → Hp → Prop) → XK → Prop
abbrev TGen2 := L2.St → Hp → (Pr2 → Hp → Prop) → Prop
structure PGen2 (X : Cx) (k : Nat) (e : Expr) (tg : TGen2) : Prop where
  run : ∀ (pins : List (Addr × Obj)) (s : Shared) (σ : L2.St) (H : Hp) (R : Pr2 → Hp → Prop) (R' : Hp → Pr2), (∀ pr H1, R pr H1 → ∃ ry yl en E, pr ry yl en E ∧ R' H1 ry yl en E) → Inv X pins σ H s → tg σ H R →
    wpAny (model X.prog X.w) X.A (eval e X.env) (fun u s' => ∃ H1 sc ry yl en E, Inv X pins σ H1 sc ∧ R' H1 ry yl en E ∧ GMade2 X.prog X.w X.K X.mg X.base k X.stack H1 sc ry yl en E u s') X.xe s
section
variable {X : Cx} {k : Nat} {f C : Addr} {fd : FuncData} {ps : List Str} {sp : SpG2} {dvs : List V} {ds : List Value} {x m : Str} {p pos pos' apos : Pos} {o : Expr} {ta : TE}
theorem run_gfn2 {pins : List (Addr × Obj)} {σ : L2.St} {H : Hp} {s : Shared} {us : List Value} {vs : List V} {ry : Nat → Hp → Prop} {yl : Nat → Hp → V → Hp → Prop} {en : Nat → Hp → Hp → Prop} {E : XK} {E1 : Value → Shared → Prop} (F : GFn2 X.prog X.w X.K X.mg X.base k f fd ps sp) (hr : Room k X.A) (hb : Binds X.K fd ps ds) (hd : Vals dvs ds)
    (I : Inv X pins σ H s) (r : Vals vs us) (h : sp (vs ++ dvs) H ry yl en E) : wpAny (model X.prog X.w) X.A (call (.ref f) us) (fun u s' => GMade2 X.prog X.w X.K X.mg X.base k X.stack H s ry yl en E u s') E1 s := by
  have rr : Vals (vs ++ dvs) (us ++ ds) := r.append hd
  have len : (us ++ ds).length = ps.length := by rw [← rr.length]; exact F.len _ _ _ _ _ _ h
  refine wpAny_call (codeAny_mono (F.run X.A X.stack s H ⟨us, []⟩ (us ++ ds) (vs ++ dvs) ry yl en E hr I.env0 (hb s us I.kIn len) rr h) fun res s' q => ?_)
  rcases res with e | fl
  · exact q.elim
  · cases fl with
    | ret u => exact q
    | _ => exact q.elim
def tCallG2 (sp : SpG2) (dvs : List V) (t : TA) : TGen2 := fun σ H R => t σ H fun vs H1 => R (sp (vs ++ dvs) H1) H1
/-- f(e, ..) -/
theorem pgen2_call {e : Expr} {es : List Expr} {t : TA} (F : GFn2 X.prog X.w X.K X.mg X.base k f fd ps sp) (hr : Room k X.A) (hg : Gl X x) (hm : X.mg x = some (.ref f)) (hk : PySem.W.keepIn X.K (.ref f) = true) (hb : Binds X.K fd ps ds) (hd : Vals dvs ds)
    (ha : PA X (e :: es) t) (hdb : (x == ("__debug__" : Str)) = false := by decide) (he : starEach (e :: es) X.env = (false, eval e X.env) :: starEach es X.env := by rfl) (hpl : (backTo pos' (starEach es X.env)).any (·.1) = false := by rfl) : PGen2 X k (.Call (.Name x p) (e :: es) [] pos') (tCallG2 sp dvs t) := by
  constructor
  intro pins s σ H R R' hRR I h
  refine wpAny_Call_Name_kw (ld_glob I hg hm ?_ hdb); refine PySem.W.callWith_K (h₀ := X.base) I.ok.mod.kin hk (thn (ha.run pos' pins s σ H _ I h) fun us s1 ⟨vs, H1, I1, r, q⟩ => ⟨I1.kIn, ?_⟩) he hpl
  obtain ⟨ry, yl, en, E, hp, hq⟩ := hRR _ _ q
  exact thn (run_gfn2 F hr hb hd I1 r hp) fun u s2 hG => ⟨H1, s1, ry, yl, en, E, I1, hq, hG⟩
/-- what is wanted of the promise -/
def WantG (σ : L2.St) (g : TG) (tb : TS) (D : Ends) (Pv : Nat → L2.St → Hp → Prop) (Ex : XK) (pr : Pr2) : Prop :=
  pr (fun i H2 => ∃ σ', Pv i σ' H2) (fun i Hw x H2 => ∀ σ', Pv i σ' Hw → (i = 0 → σ' = σ) → g x σ' H2 fun σ2 H3 => tb { D with nx := Pv (i + 1), ct := Pv (i + 1), bk := D.nx } σ2 H3) (fun i Hw H2 => ∀ σ', Pv i σ' Hw → (i = 0 → σ' = σ) → D.nx σ' H2) Ex
/-- for target in generator: Pv i: about to ask for the i-th item; up to Mx are asked for -/
def tForG (tg : TGen2) (g : TG) (tb : TS) (Ex : XK) : TS := fun D σ H => tg σ H fun pr H1 => ∃ (Mx : Nat) (Pv : Nat → L2.St → Hp → Prop), Pv 0 σ H1 ∧ (∀ i σ H, Pv i σ H → i ≤ Mx) ∧ WantG σ g tb D Pv Ex pr
theorem apt_def {pins : List (Addr × Obj)} {σ : L2.St} {Hc : Hp} {sc : Shared} {Pv : Nat → L2.St → Hp → Prop} {h1 : Heap} (I : Inv X pins σ Hc sc) : Apt X pins [] h1 Hc sc Pv σ id := by
  obtain ⟨m, ns, _⟩ := I.loc
  have lt : ∀ {c b : Nat} {o : Obj}, sc.heap.objs.size ≤ b → sc.heap.get? c = some o → c ≠ b := fun hb e => Nat.ne_of_lt (Nat.lt_of_lt_of_le (Heap.lt_size e) hb)
  refine ⟨I.os, .inl ns.lt, fun b hb _ => ⟨.inr (Nat.le_trans I.sz hb), fun x c e => ?_, fun p hp => lt hb (I.pin p hp).1⟩, fun b hb => ?_, fun i σ H s _ _ b hb => absurd hb List.not_mem_nil, fun H2 t os bare hok un _ => I.call' (ch := []) os un hok bare fun b z => by simp at z⟩
  · obtain ⟨v, o, ho, _⟩ := I.cell x c e
    exact lt hb ho
  · obtain ⟨_, o, e, _⟩ := I.ok.funs.mem hb
    exact Nat.lt_of_lt_of_le (Heap.lt_size e) I.sz
theorem lifted_id {i : Nat} {H : Hp} : lifted id i H = H := by unfold lifted; split <;> rfl
theorem made_fails {pins : List (Addr × Obj)} {σ : L2.St} {H1 : Hp} {sc : Shared} {Ex : XK} {g : Nat} (I1 : Inv X pins σ H1 sc) (hx : Passes (L2.CX X.prog X.w) X Ex) (hns : NoStop X.K Ex) : ∀ e t, L2.CX X.prog X.w X.stack H1 sc Ex e t → NotStop (model X.prog X.w) e t.heap ∧ X.xe e (t.setGen g .finished) := fun e t c => by
  obtain ⟨a, B, H', cls, d, z1, fl, z2, ub, z3, z4, z5, z6⟩ := id c
  have kin : X.K.In t.heap := I1.ok.mod.kin.keeps fun b o eb => fl.1 b o (ub.keep b o (I1.bs b o eb).1 (I1.bs b o eb).2 fun hm => by
    rcases List.mem_cons.mp (I1.stkSub b hm) with z | z
    · have h1 := Heap.lt_size eb
      rw [z] at h1
      exact absurd (Nat.lt_of_lt_of_le h1 (Nat.le_trans I1.ok.bsz I1.ok.above)) (Nat.lt_irrefl _)
    · exact I1.ok.nofr eb z)
  exact ⟨notStop_of hns kin c, hx pins σ H1 sc e _ I1 ⟨a, B, H', cls, d, z1, fl, z2, ub, z3, z4, allBare_setGen z5 rfl, z6⟩⟩
theorem no_fail : Passes (L2.CX X.prog X.w) X fun _ _ _ => False := fun _ _ _ _ _ _ _ c => by obtain ⟨_, _, _, _, _, _, _, _, _, _, _, _, z⟩ := c; exact z.elim
theorem no_stop : NoStop X.K fun _ _ _ => False := fun _ _ _ z => z.elim
theorem ps_forG {e tgt : Expr} {body : List Stmt} {tg : TGen2} {g : TG} {tb : TS} {Ex : XK} (hp : PassesOwn (model X.prog X.w) X.A X.env X.xe) (hx : Passes (L2.CX X.prog X.w) X Ex) (hns : NoStop X.K Ex) (hr : Room (k + 1) X.A) (hgen : PGen2 X k e tg) (hgt : PG X.nox tgt g) (hb : PSs X.nox body tb)
    (hs : ∀ x, foldedSetIterable e X.env x = pure x := by intro _; rfl) : PS X (.For tgt e body [] pos) (tForG tg g tb Ex) := by
  constructor
  intro pins s σ H D I h
  refine wpAny_For (thn (hgen.run pins s σ H _ (fun H1 ry yl en E' => ∃ (Mx : Nat) (Pv : Nat → L2.St → Hp → Prop), Pv 0 σ H1 ∧ (∀ i σ H, Pv i σ H → i ≤ Mx) ∧ WantG σ g tb D Pv Ex fun a b c d => ry = a ∧ yl = b ∧ en = c ∧ E' = d) (fun pr H1 ⟨Mx, Pv, q0, q1, q2⟩ => ⟨_, _, _, _, q2, Mx, Pv, q0, q1, rfl, rfl, rfl, rfl⟩) I h) fun u s1 ⟨H1, sc, ry, yl, en, E', I1, ⟨Mx, Pv, q0, q1, q2⟩, made⟩ => ?_) hs
  obtain ⟨hry, hyl, hen, rfl⟩ := q2
  obtain ⟨a, n, c, rfl, ha1, ha2, isg, fresh, os1, bare1, lim1, kp1, wake⟩ := made
  refine wpAny_pyIter_gen isg ?_
  have fails := made_fails (g := n) I1 hx hns
  have ap : Apt X pins [] s1.heap H1 sc Pv σ id := apt_def I1
  refine codeAny_forLoop_any (fun m s' => ∃ i, i + m = Mx + 2 ∧ i ≤ Mx ∧ Asks X pins [] s1.heap H1 sc Pv yl en E' (Mx + 2) a n i s') ?_ (Mx + 2) ⟨0, Nat.zero_add _, Nat.zero_le _, lim1, os1, fun _ => rfl, isg, _, fresh, rfl, ?_⟩
  rotate_left
  · exact wake X.A.in1 [] _ (Mx + 2) (s1.setGen n .running) hr.in1 I1.ok.frames (fun b hb => absurd hb List.not_mem_nil) (fun i s3 H3 z => by rw [hry]; obtain ⟨σ', _, z⟩ := z; exact ⟨σ', z⟩) (fun b o e => e) os1 (allBare_setGen bare1 rfl) (by omega)
  rintro m s2 ⟨i, hm, hi, ask⟩
  refine wpAny_passesOwn hp (thn (asks_next ap (fun H b _ _ z => z) hr.hd hr.depth (by omega) ask fails) fun r s3 q => ?_)
  cases r with
  | none =>
    obtain ⟨σ', Hw, H2, I3, pw, z⟩ := q
    rw [lifted_id] at I3
    rw [hen] at z
    refine wpAny_pure ⟨σ', H2, I3, z σ' ?_ ?_⟩
    · rcases pw with ⟨rfl, rfl, rfl⟩ | ⟨_, pw⟩
      · exact q0
      · exact pw
    · rcases pw with ⟨rfl, rfl, rfl⟩ | ⟨hz, pw⟩
      · exact fun _ => rfl
      · exact fun z => by omega
  | some v =>
    obtain ⟨σ', Hw, x, H2, pv, gs, I3, rx, pw, y, slp, there, isg3, again⟩ := q
    rw [lifted_id] at I3
    rw [hyl] at y
    have p1 : Pv i σ' Hw := by
      rcases pw with ⟨rfl, rfl, rfl⟩ | ⟨_, pw⟩
      · exact q0
      · exact pw
    have p2 : i = 0 → σ' = σ := by
      rcases pw with ⟨rfl, rfl, rfl⟩ | ⟨hz, pw⟩
      · exact fun _ => rfl
      · exact fun z => by omega
    obtain ⟨og, _, _, ho, hc, hd, _⟩ := isg3
    refine go_of ho hc hd (by decide) ?_
    refine thnF (nightly slp there (hgt.run (pins ++ pv) (night s3) σ' H2 x v _ ((Inv_gens I3 (bare_night I3.bare)).wish _) rx (y σ' p1 p2))) fun _ s4 ⟨there4, D4, L4, σ4, H4, I4, q4⟩ => ?_
    have J4 : Inv X (pins ++ pv) σ4 H4 s4 := Inv_gens (s := { s4 with gens := D4 }) (D := s4.gens) (Inv.unwish I4) (like_bare L4 I4.bare)
    refine thnF (nightly slp there4 (hb.run (pins ++ pv) (night s4) σ4 H4 _ ((Inv_gens J4 (bare_night J4.bare)).wish _) q4)) fun f s5 ⟨there5, D5, L5, q5⟩ => ?_
    have back : ∀ {σ5 : L2.St} {H5 : Hp}, Inv X.nox (pins ++ pv) σ5 H5 { s5 with gens := D5 } → Inv X (pins ++ pv) σ5 H5 s5 := fun I5 => Inv_gens (s := { s5 with gens := D5 }) (D := s5.gens) (Inv.unwish I5) (like_bare L5 I5.bare)
    have more : ∀ {σ5 : L2.St} {H5 : Hp}, Inv X.nox (pins ++ pv) σ5 H5 { s5 with gens := D5 } → Pv (i + 1) σ5 H5 → ∃ m', m' < m ∧ ∃ i, i + m' = Mx + 2 ∧ i ≤ Mx ∧ Asks X pins [] s1.heap H1 sc Pv yl en E' (Mx + 2) a n i s5 := fun I5 p5 =>
      ⟨m - 1, by omega, i + 1, by omega, q1 _ _ _ p5, again s5 _ _ (back I5) p5 there5⟩
    cases f with
    | next => obtain ⟨σ5, H5, I5, p5⟩ := q5; exact more I5 p5
    | cont => obtain ⟨σ5, H5, I5, p5⟩ := q5; exact more I5 p5
    | brk => obtain ⟨σ5, H5, I5, p5⟩ := q5; exact ⟨σ5, H5, (back I5).unpinned, p5⟩
    | ret w => obtain ⟨x5, σ5, H5, I5, r5, p5⟩ := q5; exact ⟨x5, σ5, H5, (back I5).unpinned, r5, p5⟩
end
end HS
/-! [elt for target in f(..)] of such a generator def that raises nothing (behind genfor2.lean). -/
namespace HS
open PySem PySem.Spec PyProof.Rows L2 GenW
theorem cells_none {n : Nat} : ∀ (l : List (Str × NameKind)) (acc : List (Str × Addr)), (∀ y ∈ l, y.2 ≠ .cell) → cellsFrom n l acc = acc
  | [], _, _ => rfl
  | (x, kd) :: r, acc, h => by
    have hk : (kd == NameKind.cell) = false := beq_eq_false_iff_ne.mpr (h (x, kd) List.mem_cons_self)
    show (if (kd == NameKind.cell) = true then _ else cellsFrom n r acc) = acc
    rw [hk, if_neg Bool.false_ne_true]
    exact cells_none r acc fun y hy => h y (List.mem_cons_of_mem _ hy)
/-- the heap tracks the list D too -/
theorem hok_lst {P : Program} {w : World} {H : Hp} {h : Heap} {D : Addr} {cl : Nat} {acc : Array Value} {ys : List V} (hok : HOk P w H h) (n : H D = none) (e : h.get? D = some (lstObj acc cl)) (r : Vals ys acc.toList) (hl : ys.length ≤ sizeLine) : HOk P w (upd H D (.lst ys)) h := fun b u q => by
  by_cases hb : b = D
  · subst hb
    rw [upd_same] at q
    cases q
    exact ⟨hl, acc.toList, cl, r, by rw [e]⟩
  · rw [upd_ne hb] at q
    exact (hok b u q).stay (fun _ _ _ z => z) (fun d z => by rw [upd_ne (ne_of_none z n)]; exact z) fun d xs z => by rw [upd_ne (ne_of_none z n)]; exact z
section
variable {X : Cx} {k : Nat}
def WantC (σ : L2.St) (g : TG) (tt : TT) (te : TE) (vs : List Nat) (Q : VK) (W : Addr → Nat → Hp → Prop) (H1 : Hp) (pr : Pr2) : Prop :=
  pr (fun i H2 => ∃ D, W D i H2) (fun i Hw x H2 => ∀ D, (i = 0 → Hw = H1 ∧ H1 D = none) → (1 ≤ i → W D i Hw) → g x (wipe σ vs) (lifted (fun H => upd H D (.lst [])) i H2) fun σ2 H3 => wipe σ2 vs = wipe σ vs ∧ tt σ2 H3 fun b H4 =>
      if b = true then te σ2 H4 fun y H5 => ∃ acc, H5 D = some (.lst acc) ∧ acc.length < sizeLine ∧ W D (i + 1) (upd H5 D (.lst (acc ++ [y]))) else W D (i + 1) H4)
    (fun i Hw H2 => ∀ D, (i = 0 → Hw = H1 ∧ H1 D = none) → (1 ≤ i → W D i Hw) → Q (.ref D) (lifted (fun H => upd H D (.lst [])) i H2)) fun _ _ _ => False
/-- W D i: the list is D, about to ask for the i-th item (i from 1 on) -/
def tLcG (tg : TGen2) (g : TG) (tt : TT) (te : TE) (vs : List Nat) : TE := fun σ H Q => tg σ H fun pr H1 => ∃ (Mx : Nat) (W : Addr → Nat → Hp → Prop), (∀ D i H, W D i H → i ≤ Mx ∧ ∃ acc, H D = some (.lst acc)) ∧ WantC σ g tt te vs Q W H1 pr
/-- the block, from the call on -/
theorem blk_start {pins : List (Addr × Obj)} {σ : L2.St} {H1 : Hp} {sc s3 : Shared} {scope : Scope} {own : List (Str × Nat)} (I1 : Inv X pins σ H1 sc) (I3 : Inv X pins σ H1 s3) (kp : ∀ b o, sc.heap.get? b = some o → s3.heap.get? b = some o) (le : sc.heap.objs.size ≤ s3.heap.objs.size) (ok : BlkOk X.N X.env.scope scope own) (hN : X.N.Nodup) :
    Inv (X.blk sc H1 scope (compEnvC scope (cellsFrom (s3.heap.objs.size + 1) scope.names (cloFrom X.env.cells scope.names [])) s3.heap.objs.size X.env) []) [] (wipe σ (own.map (·.2))) H1 { s3 with heap := pushCells (s3.heap.push { cls := .type "dict", data := .dict #[] }) scope.names } := by
  have I4 := block_start (fp := []) I3 ok hN fun b hb => absurd hb List.not_mem_nil
  exact ⟨⟨I4.ok.mod, I4.ok.kind, I4.ok.glob, I4.ok.blt, Nat.le_trans le I4.ok.above, I4.ok.inj, I4.ok.has, fun x c hf e => Nat.le_trans le (I4.ok.cab x c hf e), I4.ok.hd, I4.ok.frames, I4.ok.stk, I4.ok.exf, fun b o e => I1.bs b o e, Nat.le_trans I1.ok.bsz I1.sz, I4.ok.noex, I4.ok.exfs, I1.stack, I4.ok.frf⟩,
    by rw [I4.os]; show s3.os = sc.os; rw [I3.os, I1.os], I4.bare, Un.kept fun b o e => pushCells_keeps _ _ _ _ (Heap.get?_push_of_some _ (kp b o e)), I4.loc, I4.cell, I4.free, I4.freeC, I4.pin, I4.hok, I4.len⟩
theorem pe_lcG {elt tgt e : Expr} {ifs : List Expr} {scope : Scope} {own : List (Str × Nat)} {pos : Pos} {tg : TGen2} {g : TG} {tt : TT} {te : TE} (hr : Room (k + 1) X.A) (hN : X.N.Nodup) (hgen : PGen2 X k e tg) (ok : BlkOk X.N X.env.scope scope own) (noc : ∀ y ∈ scope.names, y.2 ≠ .cell)
    (hg : ∀ (s : Shared) (H : Hp) (C : Addr) (cl : List (Str × Addr)) (fp : List Addr), PG (X.blk s H scope (compEnvC scope cl C X.env) fp) tgt g) (ht : ∀ (s : Shared) (H : Hp) (C : Addr) (cl : List (Str × Addr)) (fp : List Addr), PTs (X.blk s H scope (compEnvC scope cl C X.env) fp) ifs tt) (he : ∀ (s : Shared) (H : Hp) (C : Addr) (cl : List (Str × Addr)) (fp : List Addr), PE (X.blk s H scope (compEnvC scope cl C X.env) fp) elt te) (hs : ∀ x, foldedSetIterable e X.env x = pure x := by intro _; rfl) :
    PE X (.ListComp elt [⟨tgt, e, ifs, 0⟩] scope pos) (tLcG tg g tt te (own.map (·.2))) := by
  constructor
  intro pins s σ H Q I h
  rw [eval_ListComp]
  have fr : ∀ y ∈ scope.names, y.2 = .free → ∃ c, X.env.cells.lookup y.1 = some c := fun y hy z => (ok.free y hy z).elim (fun k => I.ok.has _ (.inl k)) fun k => I.ok.has _ (.inr k)
  refine wpAny_comprehension_free (use := none) rfl hs (closure_ok fr) ok.kind (fun y hy z => by rw [ok.uniq y hy, z]) (thn (hgen.run pins s σ H _ (fun H1 ry yl en E' => ∃ (Mx : Nat) (W : Addr → Nat → Hp → Prop), (∀ D i H, W D i H → i ≤ Mx ∧ ∃ acc, H D = some (.lst acc)) ∧ WantC σ g tt te (own.map (·.2)) Q W H1 fun a b c d => ry = a ∧ yl = b ∧ en = c ∧ E' = d) (fun pr H1 ⟨Mx, W, q0, q1⟩ => ⟨_, _, _, _, q1, Mx, W, q0, rfl, rfl, rfl, rfl⟩) I h) fun u s1 ⟨H1, sc, ry, yl, en, E', I1, ⟨Mx, W, q0, q1⟩, made⟩ => ?_)
  obtain ⟨hry, hyl, hen, rfl⟩ := q1
  obtain ⟨a, n, c, rfl, ha1, ha2, isg, fresh, os1, bare1, lim1, kp1, wake⟩ := made
  have Is : Inv X pins σ H1 s1 := I1.call' (ch := []) os1 (Un.kept kp1) (I1.hok.kept kp1) bare1 fun b z => by simp at z
  refine wpAny_pyIter_gen isg ?_
  refine wpAny_newObj_type (newEnv_comp ?_) (by (show 0 ≤ sizeLine); decide)
  generalize hD : s1.heap.objs.size = D
  have LD : sc.heap.objs.size ≤ D := by rw [← hD]; exact Nat.le_trans ha1 (Nat.le_of_lt ha2)
  generalize hs3 : ({ s1 with heap := s1.heap.push { cls := .type "list", data := .seq ([] : List Value).toArray } } : Shared) = s3
  have e3 : s3.heap = s1.heap.push { cls := .type "list", data := .seq ([] : List Value).toArray } := by rw [← hs3]
  have g3 : s3.gens = s1.gens := by rw [← hs3]
  have o3 : s3.os = s1.os := by rw [← hs3]
  have I3 : Inv X pins σ H1 s3 := by rw [← hs3]; exact Is.kept (t' := s1.toks) fun b o z => Heap.get?_push_of_some _ z
  have k3 : ∀ b o, s1.heap.get? b = some o → s3.heap.get? b = some o := fun b o z => by rw [e3]; exact Heap.get?_push_of_some _ z
  have d3 : s3.heap.get? D = some { cls := .type "list", data := .seq ([] : List Value).toArray } := by rw [e3, ← hD]; exact Heap.get?_push_size _ rfl
  have D3 : D < s3.heap.objs.size := Heap.lt_size d3
  have I4 := blk_start I1 I3 (fun b o z => k3 b o (kp1 b o z)) (Nat.le_trans LD (Nat.le_of_lt D3)) ok hN
  have cellsX : ∀ y cc, (cellsFrom (s3.heap.objs.size + 1) scope.names (cloFrom X.env.cells scope.names [])).lookup y = some cc → X.env.cells.lookup y = some cc := fun y cc z => by
    rw [cells_none _ _ noc] at z
    rcases cloFrom_mem (PySem.mem_of_lookup z) with hm | ⟨z1, rfl⟩
    · cases hm
    · obtain ⟨c', hc'⟩ := fr _ z1 rfl
      rw [hc']
      rfl
  have pg := fun (A0 : Shared) => hg A0 H1 s3.heap.objs.size (cellsFrom (s3.heap.objs.size + 1) scope.names (cloFrom X.env.cells scope.names [])) []
  have pt := fun (A0 : Shared) => ht A0 H1 s3.heap.objs.size (cellsFrom (s3.heap.objs.size + 1) scope.names (cloFrom X.env.cells scope.names [])) []
  have pe := fun (A0 : Shared) => he A0 H1 s3.heap.objs.size (cellsFrom (s3.heap.objs.size + 1) scope.names (cloFrom X.env.cells scope.names [])) []
  (show codeAny _ _ (.compStart (.ListComp elt [⟨tgt, e, ifs, 0⟩] scope pos) 0 (.ref a) (.ref D) (compEnvC scope (cellsFrom (s3.heap.objs.size + 1) scope.names (cloFrom X.env.cells scope.names [])) s3.heap.objs.size X.env)) (compPost (model X.prog X.w) X.A X.xe none (EP X pins σ Q) (.ref D) s3.heap.objs.size) { s3 with heap := pushCells (s3.heap.push { cls := .type "dict", data := .dict #[] }) scope.names })
  generalize hce : compEnvC scope (cellsFrom (s3.heap.objs.size + 1) scope.names (cloFrom X.env.cells scope.names [])) s3.heap.objs.size X.env = ce at I4 pg pt pe ⊢
  have cL : ce.locals = s3.heap.objs.size := by subst hce; rfl
  have cC : ∀ y cc, ce.cells.lookup y = some cc → X.env.cells.lookup y = some cc := by subst hce; exact cellsX
  have k4 : ∀ b o, s3.heap.get? b = some o → (pushCells (s3.heap.push { cls := .type "dict", data := .dict #[] }) scope.names).get? b = some o := fun b o z => pushCells_keeps _ _ _ _ (Heap.get?_push_of_some _ z)
  generalize hs4 : ({ s3 with heap := pushCells (s3.heap.push { cls := .type "dict", data := .dict #[] }) scope.names } : Shared) = s4 at I4 ⊢
  have e4 : s4.heap = pushCells (s3.heap.push { cls := .type "dict", data := .dict #[] }) scope.names := by rw [← hs4]
  have g4 : s4.gens = s1.gens := by rw [← hs4, ← g3]
  have o4 : s4.os = sc.os := by rw [← os1, ← o3, ← hs4]
  have k14 : ∀ b o, s1.heap.get? b = some o → s4.heap.get? b = some o := fun b o z => by rw [e4]; exact k4 b o (k3 b o z)
  have d4 : s4.heap.get? D = some { cls := .type "list", data := .seq ([] : List Value).toArray } := by rw [e4]; exact k4 _ _ d3
  have DC : D ≠ s3.heap.objs.size := Nat.ne_of_lt D3
  generalize hC : s3.heap.objs.size = C at cL DC ⊢
  have LC : sc.heap.objs.size ≤ C := by rw [← hC]; exact Nat.le_trans LD (Nat.le_of_lt D3)
  obtain ⟨m4, ⟨oC, esC, epC, hoC, hdC, hrC⟩, lk4⟩ := id I4.loc
  have hoC : s4.heap.get? ce.locals = some oC := hoC
  rw [cL] at hoC
  have cellL : ∀ y cc, ce.cells.lookup y = some cc → cc < sc.heap.objs.size := fun y cc z => by
    obtain ⟨v, o, ho, _⟩ := I1.cell y cc (cC y cc z)
    exact Heap.lt_size ho
  have stkL : ∀ b ∈ frs X.stack, b < sc.heap.objs.size := fun b hb => by
    obtain ⟨_, o, z, _⟩ := I1.stack.mem hb
    exact Heap.lt_size z
  have ap : Apt (X.blk sc H1 scope ce []) [] [C, D] s4.heap H1 sc (fun i σ'' H => σ'' = wipe σ (own.map (·.2)) ∧ W D i H) (wipe σ (own.map (·.2))) (fun H => upd H D (.lst [])) := by
    refine ⟨rfl, .inr (by show ce.locals ∈ _; rw [cL]; exact List.mem_cons_self), fun b hb _ => ⟨.inr hb, fun x cc z => Nat.ne_of_lt (Nat.lt_of_lt_of_le (cellL x cc z) hb), fun p hp => absurd (show p ∈ ([] : List (Addr × Obj)) from hp) List.not_mem_nil⟩, stkL, fun i σ' H' s' I' w' b hb o ho v z => ?_, fun H2 t ot bt hok un kp => ?_⟩
    · rcases List.mem_cons.mp hb with rfl | hb
      · obtain ⟨m, ⟨o', es, ep, ho', hd', _⟩, _⟩ := I'.loc
        have ho' : s'.heap.get? ce.locals = some o' := ho'
        rw [cL, ho] at ho'
        cases ho'
        rw [hd'] at z; cases z
      · rw [List.mem_singleton.mp hb] at ho
        obtain ⟨acc, hacc⟩ := (q0 _ _ _ w'.2).2
        obtain ⟨_, its, cn, _, z'⟩ := I'.hok D _ hacc
        rw [ho] at z'
        cases z'; cases z
    · have J1 : Inv X pins σ H2 t := I1.call' (ch := []) ot un hok bt fun b z => by simp at z
      obtain ⟨c1, c2⟩ := kp (C, oC) (to_xpins List.mem_cons_self hoC (I1.hok.fresh LC))
      obtain ⟨dd1, dd2⟩ := kp (D, _) (to_xpins (List.mem_cons_of_mem _ (List.mem_singleton.mpr rfl)) d4 (I1.hok.fresh LD))
      have cells : ∀ x cc v, ce.cells.lookup x = some cc → s4.heap.IsCell cc v → t.heap.IsCell cc v := fun x cc v z ⟨o, ho, hd⟩ => by
        obtain ⟨_, o', ho', _⟩ := I1.cell x cc (cC x cc z)
        have z4 := k14 _ _ (kp1 _ _ ho')
        rw [ho] at z4
        cases z4
        obtain ⟨sl, z5⟩ := un.any ho' (I1.freeC x cc (cC x cc z)) List.not_mem_nil
        exact ⟨_, z5, hd⟩
      have J : Inv (X.blk sc H1 scope ce []) [] (wipe σ (own.map (·.2))) H2 t := by
        refine ⟨I4.ok, ot, bt, un, ⟨m4, ⟨oC, esC, epC, by show t.heap.get? ce.locals = _; rw [cL]; exact c1, hdC, hrC⟩, fun i x v h1 h2 h3 => ?_⟩, fun x cc z => ?_, by show H2 ce.locals = none; rw [cL]; exact c2, fun x cc z => J1.freeC x cc (cC x cc z), fun p hp => absurd (show p ∈ ([] : List (Addr × Obj)) from hp) List.not_mem_nil, hok, I4.len⟩
        · obtain ⟨u, r, l⟩ := lk4 i x v h1 h2 h3
          refine ⟨u, r, l.elim .inl fun z => .inr ?_⟩
          obtain ⟨kd, cc, z1, z2⟩ := z
          exact ⟨kd, cc, z1, cells _ _ _ z1 z2⟩
        · obtain ⟨v, z1⟩ := I4.cell x cc z
          exact ⟨v, cells _ _ _ z z1⟩
      refine J.call' (ch := [D]) rfl ⟨fun b o z _ _ _ => z, fun b o z _ _ _ => ⟨o.slots, z⟩, fun b o z n hb => ?_, fun b o z _ => ⟨o, z⟩, fun b xs z => ?_, fun b o u z => ?_, fun b ps z => ⟨#[], ?_⟩⟩ (hok_lst hok dd2 dd1 .nil (Nat.zero_le _)) bt fun b hb => ?_
      · rw [upd_ne (fun z => hb (List.mem_singleton.mpr z))]; exact n
      · rw [upd_ne (ne_of_none z dd2)]; exact z
      · rw [upd_ne (ne_of_none z dd2)]; exact z
      · rw [upd_ne (ne_of_none z dd2), Array.append_empty]; exact z
      · rw [List.mem_singleton.mp hb]
        exact ⟨.inr LD, by show D ≠ ce.locals; rw [cL]; exact DC, fun x cc z => Nat.ne_of_lt (Nat.lt_of_lt_of_le (cellL x cc z) LD), fun p hp => absurd (show p ∈ ([] : List (Addr × Obj)) from hp) List.not_mem_nil⟩
  have isg4 : s4.heap.IsGen a n := by
    obtain ⟨o, nm, qn, z1, z2⟩ := isg
    exact ⟨o, nm, qn, k14 _ _ z1, z2⟩
  have loop : codeAny (model X.prog X.w) X.A (.compLoop (.ListComp elt [⟨tgt, e, ifs, 0⟩] scope pos) 0 (.ref a) (.ref D) ce) (compPost (model X.prog X.w) X.A X.xe none (EP X pins σ Q) (.ref D) C) s4 := by
    refine compLoop_any (fun m s' => ∃ i, i + m = Mx + 2 ∧ i ≤ Mx ∧ Asks (X.blk sc H1 scope ce []) [] [C, D] s4.heap H1 sc (fun i σ'' H => σ'' = wipe σ (own.map (·.2)) ∧ W D i H) yl en (fun _ _ _ => False) (Mx + 2) a n i s') ?_ (Mx + 2) ⟨0, Nat.zero_add _, Nat.zero_le _, I4.nolimit, o4, fun _ => rfl, isg4, .fresh c, by rw [g4]; exact fresh, rfl, ?_⟩
    rotate_left
    · refine wake X.A.in1 [C, D] _ (Mx + 2) (s4.setGen n .running) hr.in1 I1.ok.frames (fun b hb => ?_) (fun i s5 H5 z => by rw [hry]; obtain ⟨σ', _, _, z⟩ := z; exact ⟨D, z⟩) k14 o4 (allBare_setGen (by rw [g4]; exact bare1) rfl) (by omega)
      rcases List.mem_cons.mp hb with rfl | hb
      · exact ⟨by rw [← hC, e3, Heap.size_push]; exact Nat.le_succ _, oC, hoC, fun v z => by rw [hdC] at z; cases z⟩
      · rw [List.mem_singleton.mp hb]
        exact ⟨Nat.le_of_eq hD, _, d4, fun v z => by cases z⟩
    rintro m s5 ⟨i, hm, hi, ask⟩
    refine thnF (asks_next (X := X.blk sc H1 scope ce []) (Er := fun _ _ => False) ap (fun H b _ nx z => by rw [upd_ne (fun w => nx (by rw [w]; exact List.mem_cons_of_mem _ (List.mem_singleton.mpr rfl)))]; exact z) hr.hd hr.depth (by omega) ask fun x t cx => ?_) fun r s6 q => ?_
    · obtain ⟨_, _, _, _, _, _, _, _, _, _, _, _, z⟩ := cx
      exact z.elim
    cases r with
    | none =>
      obtain ⟨σ', Hw, H2, I6, pw, z⟩ := q
      rw [hen] at z
      have z' : Q (.ref D) (lifted (fun H => upd H D (.lst [])) i H2) := z D (fun hz => by
        rcases pw with ⟨_, _, w1⟩ | ⟨w1, _⟩
        · exact ⟨w1, I1.hok.fresh LD⟩
        · omega) fun hz => by
        rcases pw with ⟨w1, _⟩ | ⟨_, w2⟩
        · omega
        · exact w2.2
      generalize lifted (fun H => upd H D (.lst [])) i H2 = H6 at I6 z'
      have I7 : Inv X pins σ H6 s6 := I1.call' (ch := []) I6.os I6.base I6.hok I6.bare fun b z => by simp at z
      have nC : H6 C = none := by have z : H6 ce.locals = none := I6.free; rw [cL] at z; exact z
      obtain ⟨m6, hn, _⟩ := I6.loc
      have hn : s6.heap.Ns ce.locals m6 := hn
      rw [cL] at hn
      obtain ⟨f0, f1, f2, f3, f4, f5⟩ := I1.fpOk LC nC
      exact ⟨m6, hn, fun h6 sb => ⟨.ref D, H6, I7.turned (t' := s6.toks) (fun b o hb z => (sb.2 b hb).trans z) f0 f1 f3 f4 f5, rfl, z'⟩⟩
    | some v =>
      obtain ⟨σ', Hw, x, H2, pv, gs, I6, rx, pw, y, slp, there, isg6, again⟩ := q
      rw [hyl] at y
      have eσ : σ' = wipe σ (own.map (·.2)) := by
        rcases pw with ⟨_, z, _⟩ | ⟨_, z, _⟩
        · exact z
        · exact z
      subst eσ
      have y := y D (fun hz => by
        rcases pw with ⟨_, _, w1⟩ | ⟨w1, _⟩
        · exact ⟨w1, I1.hok.fresh LD⟩
        · omega) fun hz => by
        rcases pw with ⟨w1, _⟩ | ⟨_, w2⟩
        · omega
        · exact w2.2
      generalize lifted (fun H => upd H D (.lst [])) i H2 = H6 at I6 y
      obtain ⟨og, _, _, ho, hc, hd, _⟩ := isg6
      refine go_of ho hc hd (by decide) ?_
      refine thnF (nightly slp there ((pg sc).run ([] ++ pv) (night s6) _ H6 x v _ (Inv_gens I6 (bare_night I6.bare)) rx y)) fun _ s7 ⟨there7, D7, L7, σ7, H7, I7, hw7, q7⟩ => ?_
      have J7 : Inv (X.blk sc H1 scope ce []) ([] ++ pv) σ7 H7 s7 := Inv_gens (s := { s7 with gens := D7 }) (D := s7.gens) I7 (like_bare L7 I7.bare)
      refine thnF (nightly slp there7 ((pt sc).run ([] ++ pv) (night s7) σ7 H7 _ (Inv_gens J7 (bare_night J7.bare)) q7)) fun b s8 ⟨there8, D8, L8, H8, I8, q8⟩ => ?_
      have J8 : Inv (X.blk sc H1 scope ce []) ([] ++ pv) σ7 H8 s8 := Inv_gens (s := { s8 with gens := D8 }) (D := s8.gens) I8 (like_bare L8 I8.bare)
      have fin : ∀ {s' : Shared} {H' : Hp}, Inv (X.blk sc H1 scope ce []) ([] ++ pv) σ7 H' s' → W D (i + 1) H' → s'.gens[n]? = some gs → ∃ m', m' < m ∧ ∃ i, i + m' = Mx + 2 ∧ i ≤ Mx ∧ Asks (X.blk sc H1 scope ce []) [] [C, D] s4.heap H1 sc (fun i σ'' H => σ'' = wipe σ (own.map (·.2)) ∧ W D i H) yl en (fun _ _ _ => False) (Mx + 2) a n i s' := fun {s' H'} I' w' t' => by
        have ll : (wipe σ (own.map (·.2))).length = σ7.length := by rw [← hw7, wipe_length]
        exact ⟨m - 1, by omega, i + 1, by omega, (q0 _ _ _ w').1, again s' _ H' (I'.weak ll fun j v z => by rw [← hw7] at z; exact (wipe_some z).1) ⟨rfl, w'⟩ t'⟩
      cases b with
      | false =>
        simp only [Bool.false_eq_true, if_false] at q8 ⊢
        exact fin J8 q8 there8
      | true =>
        simp only [if_true] at q8 ⊢
        refine thnF (nightly slp there8 ((pe sc).run ([] ++ pv) (night s8) σ7 H8 _ (Inv_gens J8 (bare_night J8.bare)) q8)) fun z s9 ⟨there9, D9, L9, yv, H9, I9, r9, acc, hD9, hz9, nx⟩ => ?_
        have J9 : Inv (X.blk sc H1 scope ce []) ([] ++ pv) σ7 H9 s9 := Inv_gens (s := { s9 with gens := D9 }) (D := s9.gens) I9 (like_bare L9 I9.bare)
        refine thnF (nightly slp there9 (app_ok (X := X.blk sc H1 scope ce []) (s := night s9) (Q := fun _ s' => Inv (X.blk sc H1 scope ce []) ([] ++ pv) σ7 (upd H9 D (.lst (acc ++ [yv]))) s') (Inv_gens J9 (bare_night J9.bare)) hD9 hz9 r9 fun s' I' => I')) fun _ s10 ⟨there10, D10, L10, I10⟩ => ?_
        exact fin (Inv_gens (s := { s10 with gens := D10 }) (D := s10.gens) I10 (like_bare L10 I10.bare)) nx there10
  refine codeAny_compStart_list loop (wpAny_pyIter_gen isg4 loop)
end
end HS
/-! range(i, j) of any size, walked. -/
namespace HS
open PySem PySem.Spec PyProof.Rows L2
theorem turn_long {P : Program} {w : World} {K : PySem.W.Frag} {tg : Expr} (it : Addr) (lo : Int) (n : Nat) : Turn P w K tg (Itr lo n) [it] it (fun i h => IsLongIter h it (lo + (i : Nat) * 1) ((n : Int) - (i : Nat)) 1) where
  mem := List.mem_singleton.mpr rfl
  obj := fun i h st b hb => by
    rw [List.mem_singleton.mp hb]
    exact ⟨_, st, fun v z => by cases (show Data.fields _ = Data.cell v from z)⟩
  keep := fun i h h' st kp => kp it (List.mem_singleton.mpr rfl) _ st
  item := by
    intro X hP hw hK hc i pins s σ H E I hf st hg
    subst hP hw hK
    obtain ⟨g0, g1, g2, g3, g4, g5⟩ := hf it (List.mem_singleton.mpr rfl)
    refine (Walks.longrange (prog := X.prog) (w := X.w) (I.ok.hd hc) it lo 1 n).item i s _ _ hg st fun v h' tk hv st' kk => ?_
    obtain ⟨t, rfl⟩ := hv
    refine ⟨_, rfl, go_of (s := { s with heap := h', toks := tk }) (n := "longrange_iterator") st' rfl rfl (by decide) ⟨.int (lo + i), H, I.turned (fun b o hb e => kk b o (fun z => hb (List.mem_singleton.mp z)) e) g0 g1 g3 g4 g5, ⟨t, ?_⟩, ⟨rfl, rfl⟩, st', fun b hb => (hf b hb).1⟩⟩
    rw [Int.mul_one]
  done := by
    intro X hP hw hK hc i pins s σ H E I hf st hg
    subst hP hw hK
    obtain ⟨g0, g1, g2, g3, g4, g5⟩ := hf it (List.mem_singleton.mpr rfl)
    exact wpAny_pyNext_long_end (I.ok.hd hc) st (by have : n ≤ i := hg; omega) fun h1 eb => ⟨rfl, I.turned (t' := s.toks) (fun b o hb e => eb b o hb e) g0 g1 g3 g4 g5⟩
  self := fun _ _ _ _ _ st h => wpAny_pyIter_longiter st h
section
variable {X : Cx} {tg : Expr}
theorem range_any {pins : List (Addr × Obj)} {σ : L2.St} {H : Hp} {s : Shared} {R : It → Hp → Prop} {E : Value → Shared → Prop} {lo hi : Int} {t u v : Tok} {tk : Nat} (I : Inv X pins σ H s)
    (q : R (Itr lo (hi - lo).toNat) H) : wpAny (model X.prog X.w) X.A (pyIter (.ref s.heap.objs.size)) (PIE X pins σ tg R) E { s with heap := s.heap.push { cls := .type "range", data := .fields #[.int lo t, .int hi u, .int 1 v] }, toks := tk } := by
  have e1 : lo + ((0 : Nat) : Int) * 1 = lo := by simp
  have e2 : (((hi - lo).toNat : Nat) : Int) - ((0 : Nat) : Int) = Builtin.Range.rangeSize lo hi 1 := by rw [rangeSize_one]; split <;> omega
  generalize hs1 : ({ s with heap := s.heap.push { cls := .type "range", data := .fields #[.int lo t, .int hi u, .int 1 v] }, toks := tk } : Shared) = s1
  have I1 : Inv X pins σ H s1 := by rw [← hs1]; exact I.kept fun b o e => Heap.get?_push_of_some _ e
  have r1 : IsRange s1.heap s.heap.objs.size lo hi 1 t u v := by rw [← hs1]; exact IsRange.new ..
  have fp : ∀ b ∈ [s1.heap.objs.size], FpOk X pins H b := fun b hb => by
    rw [List.mem_singleton.mp hb]
    exact I1.fpOk (Nat.le_refl _) (I1.hok.fresh (Nat.le_refl _))
  by_cases hsm : Builtin.Range.small lo hi 1 = true
  · refine wpAny_pyIter_range r1 hsm ⟨s1.heap.objs.size, [s1.heap.objs.size], _, _, H, rfl, I1.kept (t' := s1.toks) fun b o e => Heap.get?_push_of_some _ e, turn_range _ lo (hi - lo).toNat, ?_, fp, q⟩
    show IsRangeIter _ _ (lo + ((0 : Nat) : Int) * 1) ((((hi - lo).toNat : Nat) : Int) - ((0 : Nat) : Int)) 1
    rw [e1, e2]; exact Heap.get?_push_size _ rfl
  · refine wpAny_pyIter_longrange r1 (Bool.not_eq_true _ ▸ hsm) ⟨s1.heap.objs.size, [s1.heap.objs.size], _, _, H, rfl, I1.kept (t' := s1.toks) fun b o e => Heap.get?_push_of_some _ e, turn_long _ lo (hi - lo).toNat, ?_, fp, q⟩
    show IsLongIter _ _ (lo + ((0 : Nat) : Int) * 1) ((((hi - lo).toNat : Nat) : Int) - ((0 : Nat) : Int)) 1
    rw [e1, e2]; exact Heap.get?_push_size _ rfl
def iRngA (ta : TA) : TI := fun σ H R => ta σ H fun vs H1 => ∃ i j : Int, vs = [.int i, .int j] ∧ R (Itr i (j - i).toNat) H1
theorem pi_rangeA {a b : Expr} {ta : TA} {p pos : Pos} (hg : Gl X "range") (hm : X.mg "range" = none) (ha : PA X [a, b] ta) (hs : starEach [a, b] X.env = [(false, eval a X.env), (false, eval b X.env)] := by rfl) (hs2 : starEach [b] X.env = [(false, eval b X.env)] := by rfl) : PI X tg (.Call (.Name "range" p) [a, b] [] pos) (iRngA ta) := by
  constructor
  intro pins s σ H R I h
  refine Call_ (ld_blt I hg hm boot_range (callWith_type1 (thn (ha.run pos pins s σ H _ I h) fun us s1 ⟨vs, H1, I1, r1, q1⟩ => ?_) (by rw [hs, hs2]) (by rw [hs2]; rfl)))
  obtain ⟨i, j, rfl, q⟩ := q1
  obtain ⟨u1, u2, rfl, ⟨t, rfl⟩, ⟨t', rfl⟩⟩ : ∃ u1 u2, us = [u1, u2] ∧ RelV (.int i) u1 ∧ RelV (.int j) u2 := by
    cases r1 with
    | cons r rr => cases rr with
      | cons r' rr => cases rr; exact ⟨_, _, rfl, r, r'⟩
  exact call_range_2 (range_any I1 q)
end
end HS
/-! f(a=.., b=..) of a generator def; the readings' steps for generators that are consumed. -/
namespace HS
open PySem PySem.Spec PyProof.Rows L2
section
variable {X : Cx} {k n : Nat} {f : Addr} {x : Str} {spg : SpG} {E : XK} {tk : TA} {p q : Pos} {kws : List Keyword} {ks ps : List Str} {fd : FuncData} {g : List Value → List Value → List Value} {gV : List V → List V → List V}
def tGenF (n k : Nat) (gV : List V → List V → List V) (spg : SpG) (E : XK) (tk : TA) : TGen := fun σ H cont => tk σ H fun zs H2 => n = 0 ∧ zs.length = k ∧ spg (gV [] zs) H2 cont E
theorem pgen_kw0 (F : GFn X.prog X.w X.K X.mg X.base k f fd ps spg) (hr : Room k X.A) (gl : Gl X x) (mf : X.mg x = some (.ref f)) (kf : PySem.W.keepIn X.K (.ref f) = true) (hb : KBX X.K fd ps n ks g gV) (hk : PK X kws tk)
    (h0 : (backToKw q (keywordEach kws X.env)).all (·.1.isSome) = true := by rfl) (hks : (backToKw q (keywordEach kws X.env)).filterMap (·.1) = ks := by rfl) (h1 : (x == ("__debug__" : Str)) = false := by decide)
    (h3 : ((backTo q (starEach [] X.env)).any (·.1) || (backToKw q (keywordEach kws X.env)).any (·.1.isNone)) = false := by rfl) : PGen X k (.Call (.Name x p) [] kws q) (tGenF n ks.length gV spg E tk) E := by
  constructor
  intro pins s σ H cont I hw
  refine wpAny_Call_Name_kw (ld_glob I gl mf (PySem.W.callWith_KW0 (h₀ := X.base) I.ok.mod.kin kf h0 (thn (hk.run q pins s σ H _ I hw) fun ws s2 ⟨zs, H2, I2, rz, e1, l2, y2⟩ => ⟨I2.kIn, ?_⟩) h3) h1)
  rw [hks]
  have l4 : ws.length = ks.length := by rw [← rz.length]; exact l2
  refine wpAny_call (codeAny_mono (F.run X.A X.stack s2 H2 ⟨[], ks.zip ws⟩ (g [] ws) (gV [] zs) cont E hr I2.env0 (hb.to s2 [] ws (by rw [e1]; rfl) l4) (hb.rel .nil rz) y2) fun r s' hq => ?_)
  match r, hq with
  | .error e, hq => exact hq.elim
  | .ok (.ret u), hq => exact ⟨H2, s2, [], I2, .nil, hq⟩
end
section
variable {σ : L2.St} {H : Hp} {cont : List V → Hp → Prop} {Q : VK}
theorem ogenF {n k : Nat} {gV : List V → List V → List V} {spg : SpG} {E : XK} {tk : TA} (h : tk σ H fun zs H2 => n = 0 ∧ zs.length = k ∧ spg (gV [] zs) H2 cont E) : tGenF n k gV spg E tk σ H cont := h
theorem rngA {ta : TA} {R : It → Hp → Prop} (h : ta σ H fun vs H1 => ∃ i j : Int, vs = [.int i, .int j] ∧ R (Itr i (j - i).toNat) H1) : iRngA ta σ H R := h
theorem forG {sp : SpG2} {dvs : List V} {t : TA} {g : TG} {tb : TS} {Ex : XK} {D : Ends} (h : t σ H fun vs H1 => ∃ (Mx : Nat) (Pv : Nat → L2.St → Hp → Prop), Pv 0 σ H1 ∧ (∀ i σ H, Pv i σ H → i ≤ Mx) ∧ WantG σ g tb D Pv Ex (sp (vs ++ dvs) H1)) : tForG (tCallG2 sp dvs t) g tb Ex D σ H := h
theorem lcG {sp : SpG2} {dvs : List V} {t : TA} {g : TG} {tt : TT} {te : TE} {vs : List Nat} (h : t σ H fun us H1 => ∃ (Mx : Nat) (W : Addr → Nat → Hp → Prop), (∀ D i H, W D i H → i ≤ Mx ∧ ∃ acc, H D = some (.lst acc)) ∧ WantC σ g tt te vs Q W H1 (sp (us ++ dvs) H1)) : tLcG (tCallG2 sp dvs t) g tt te vs σ H Q := h
theorem lift_cases {P : Hp → Prop} {i : Nat} {D : Addr} {H2 : Hp} (h0 : i = 0 → P (upd H2 D (.lst []))) (h1 : 1 ≤ i → P H2) : P (lifted (fun H => upd H D (.lst [])) i H2) := by
  unfold lifted
  by_cases h : i = 0
  · rw [if_pos h]; exact h0 h
  · rw [if_neg h]; exact h1 (by omega)
theorem genX {tp : TS} {wi : TI} {g : TG} {te : TE} {tq : TS} {ry : Nat → Hp → Prop} {yl : Nat → Hp → V → Hp → Prop} {en : Nat → Hp → Hp → Prop} {H0 : Hp} (h : tp { nx := fun σ1 H1 => wi σ1 H1 fun J H2 => ∃ Q : Nat → L2.St → Hp → Hp → Prop, Q 0 σ1 H0 H2 ∧ ∀ i σ Hw H, Q i σ Hw H →
    (J.stop i H ∧ en i Hw H) ∨ (J.go i H ∧ ∀ x H', J.yld i H x H' → g x σ H' fun σ2 H3 => te σ2 H3 fun y H4 => yl i Hw y H4 ∧ ∀ H5, ry (i + 1) H5 → tq { nx := fun σ6 H6 => Q (i + 1) σ6 H5 H6, rt := fun _ _ => False } σ2 H5), rt := fun _ _ => False } σ H) : tGenX tp wi g te tq ry yl en H0 σ H := h
end
end HS
namespace WK02
open PySem PySem.Spec PyProof.Rows L2
/-- the source of draws at s, its digits at d; n: at most so many mixed draws so far -/
def Src (H : Hp) (s d : Addr) (n : Nat) : Prop := s ≠ d ∧ ∃ (gs : List Int) (l m c : Int), H s = some (.lst [.ref d, .int l, .int m, .int c]) ∧ H d = some (.lst (gs.map V.int)) ∧ (∀ x ∈ gs, 0 ≤ x) ∧ gs.length ≤ 63 ∧ 0 ≤ l ∧ 0 ≤ m ∧ m < 2 ^ 61 ∧ 0 ≤ c ∧ c ≤ n
/-- lengths of chapters -/
def Book (ls : List Int) : Prop := ∀ x ∈ ls, 1 ≤ x ∧ x < 10 ^ 30
theorem Src.keep {H H' : Hp} {s d : Addr} {n : Nat} (h : Src H s d n) (e1 : H' s = H s) (e2 : H' d = H d) : Src H' s d n := by
  obtain ⟨hsd, gs, l, m, c, h1, h2, h3⟩ := h
  exact ⟨hsd, gs, l, m, c, by rw [e1]; exact h1, by rw [e2]; exact h2, h3⟩
theorem Src.new {H : Hp} {s d p : Addr} {n : Nat} {o : HO} (h : Src H s d n) (hp : H p = none) : Src (upd H p o) s d n := by
  obtain ⟨hsd, gs, l, m, c, h1, h2, h3⟩ := h
  exact ⟨hsd, gs, l, m, c, by rw [upd_ne (ne_of_none h1 hp)]; exact h1, by rw [upd_ne (ne_of_none h2 hp)]; exact h2, h3⟩
theorem Src.put {H : Hp} {s d p : Addr} {n : Nat} {o : HO} (h : Src H s d n) (e1 : p ≠ s) (e2 : p ≠ d) : Src (upd H p o) s d n := by
  obtain ⟨hsd, gs, l, m, c, h1, h2, h3⟩ := h
  exact ⟨hsd, gs, l, m, c, by rw [upd_ne e1.symm]; exact h1, by rw [upd_ne e2.symm]; exact h2, h3⟩
theorem Src.ne1 {H : Hp} {s d p : Addr} {n : Nat} (h : Src H s d n) (hp : H p = none) : p ≠ s := by
  obtain ⟨hsd, gs, l, m, c, h1, h2, h3⟩ := h
  exact (ne_of_none h1 hp).symm
theorem Src.ne2 {H : Hp} {s d p : Addr} {n : Nat} (h : Src H s d n) (hp : H p = none) : p ≠ d := by
  obtain ⟨hsd, gs, l, m, c, h1, h2, h3⟩ := h
  exact (ne_of_none h2 hp).symm
theorem Src.up {H : Hp} {s d : Addr} {n m : Nat} (h : Src H s d n) (e : n ≤ m) : Src H s d m := by
  obtain ⟨hsd, gs, l, m', c, h1, h2, h3, h4, h5, h6, h7, h8, h9⟩ := h
  exact ⟨hsd, gs, l, m', c, h1, h2, h3, h4, h5, h6, h7, h8, by omega⟩
/-- the page count of an edition -/
def pcount (ls : List Int) (j : Int) : Int := (ls.map fun x => (x + j - 1) / j).sum
theorem pcount_nil (j : Int) : pcount [] j = 0 := rfl
theorem pcount_cons (x : Int) (ls : List Int) (j : Int) : pcount (x :: ls) j = (x + j - 1) / j + pcount ls j := by unfold pcount; rw [List.map_cons, List.sum_cons]
theorem pcount_append (xs ys : List Int) (j : Int) : pcount (xs ++ ys) j = pcount xs j + pcount ys j := by unfold pcount; rw [List.map_append, List.sum_append]
/-- a page for each chapter, and one more for each full page of its other lines -/
theorem pcount_less1 {j : Int} (hj : 1 ≤ j) : ∀ ls : List Int, (ls.length : Int) + (ls.map fun x => (x - 1) / j).sum = pcount ls j
  | [] => rfl
  | x :: r => by
    have e : (x + j - 1) / j = (x - 1) / j + 1 := by rw [show x + j - 1 = (x - 1) + j * 1 by omega, Int.add_mul_ediv_left _ _ (by omega)]
    rw [pcount_cons, ← pcount_less1 hj r, e, List.length_cons, List.map_cons, List.sum_cons]
    push_cast
    omega
theorem pcount_take {ls : List Int} {i : Nat} {x : Int} (j : Int) (h : ls[i]? = some x) : pcount (ls.take (i + 1)) j = pcount (ls.take i) j + (x + j - 1) / j := by
  obtain ⟨h1, h2⟩ := List.getElem?_eq_some_iff.mp h
  rw [List.take_add_one, h, pcount_append]
  show _ + pcount [x] j = _
  rw [pcount_cons, pcount_nil]; omega
theorem ceil_pos {x j : Int} (hx : 1 ≤ x) (hj : 1 ≤ j) : 1 ≤ (x + j - 1) / j := by
  rw [Int.le_ediv_iff_mul_le (by omega)]; omega
theorem pcount_len {ls : List Int} {j : Int} (hp : ∀ x ∈ ls, 1 ≤ x) (hj : 1 ≤ j) : (ls.length : Int) ≤ pcount ls j := by
  induction ls with
  | nil => exact Int.le_refl 0
  | cons x r ih =>
    rw [pcount_cons, List.length_cons]
    have := ceil_pos (hp x List.mem_cons_self) hj
    have := ih fun y hy => hp y (List.mem_cons_of_mem _ hy)
    omega
theorem pcount_pos {ls : List Int} {j : Int} (hp : ∀ x ∈ ls, 1 ≤ x) (hj : 1 ≤ j) : 0 ≤ pcount ls j := by
  have := pcount_len hp hj; omega
theorem take_all {ls : List Int} {P : Int → Prop} (h : ∀ x ∈ ls, P x) (n : Nat) : ∀ x ∈ ls.take n, P x := fun x hx => h x (List.mem_of_mem_take hx)
theorem Src.same {H H' : Hp} {s d : Addr} {n : Nat} (h : Src H s d n) (k : HS.Keep (fun _ => False) H H') : Src H' s d n := by
  obtain ⟨hsd, gs, l, m, c, h1, h2, h3⟩ := h
  exact ⟨hsd, gs, l, m, c, k _ _ h1 id, k _ _ h2 id, h3⟩
theorem sum_book {ls : List Int} (h : Book ls) : (ls.length : Int) ≤ ls.sum ∧ ls.sum ≤ ls.length * (10 ^ 30) := by
  induction ls with
  | nil => exact ⟨Int.le_refl _, Int.le_refl _⟩
  | cons x r ih =>
    have := ih fun y hy => h y (List.mem_cons_of_mem _ hy)
    have := h x List.mem_cons_self
    rw [List.sum_cons, List.length_cons]
    push_cast
    omega
/-! Sums of ceilings. -/
theorem ceil_le {x j q : Int} (hj : 1 ≤ j) : (x + j - 1) / j ≤ q ↔ x ≤ q * j := by
  rw [← Int.lt_add_one_iff, Int.ediv_lt_iff_lt_mul (by omega), Int.add_mul]
  omega
theorem ceil_up {x j : Int} (hj : 1 ≤ j) : x ≤ (x + j - 1) / j * j := (ceil_le hj).mp (Int.le_refl _)
theorem ceil_dn {x j : Int} (hj : 1 ≤ j) : (x + j - 1) / j * j ≤ x + j - 1 := Int.ediv_mul_le _ (by omega)
theorem ceil_nonneg {x j : Int} (hx : 0 ≤ x) (hj : 1 ≤ j) : 0 ≤ (x + j - 1) / j := Int.ediv_nonneg (by omega) (by omega)
theorem pcount_up (ls : List Int) {j : Int} (hj : 1 ≤ j) : ls.sum ≤ pcount ls j * j := by
  induction ls with
  | nil => rw [pcount_nil]; simp
  | cons x r ih =>
    rw [pcount_cons, List.sum_cons, Int.add_mul]
    have := ceil_up (x := x) hj
    omega
theorem pcount_ceil (ls : List Int) {j : Int} (hj : 1 ≤ j) : (ls.sum + j - 1) / j ≤ pcount ls j := (ceil_le hj).mpr (pcount_up ls hj)
theorem pcount_dn (ls : List Int) {j : Int} (hj : 1 ≤ j) : (pcount ls j - ls.length) * j ≤ ls.sum - ls.length := by
  induction ls with
  | nil => rw [pcount_nil]; simp
  | cons x r ih =>
    rw [pcount_cons, List.sum_cons, List.length_cons]
    have := ceil_dn (x := x) hj
    have e : ((x + j - 1) / j + pcount r j - ((r.length + 1 : Nat) : Int)) * j = (x + j - 1) / j * j - j + (pcount r j - r.length) * j := by
      rw [show ((x + j - 1) / j + pcount r j - ((r.length + 1 : Nat) : Int)) = ((x + j - 1) / j - 1) + (pcount r j - r.length) by push_cast; omega, Int.add_mul, Int.sub_mul, Int.one_mul]
    rw [e]
    push_cast
    omega
theorem pcount_most (ls : List Int) {j : Int} (hj : 1 ≤ j) : pcount ls j ≤ ls.length + (ls.sum - ls.length) / j := by
  have := (Int.le_ediv_iff_mul_le (by omega : 0 < j)).mpr (pcount_dn ls hj)
  omega
theorem pcount_anti {ls : List Int} {j k : Int} (hp : ∀ x ∈ ls, 1 ≤ x) (hj : 1 ≤ j) (hk : j ≤ k) : pcount ls k ≤ pcount ls j := by
  induction ls with
  | nil => exact Int.le_refl _
  | cons x r ih =>
    rw [pcount_cons, pcount_cons]
    have h1 := ih fun y hy => hp y (List.mem_cons_of_mem _ hy)
    have hx := hp x List.mem_cons_self
    have h2 : (x + k - 1) / k ≤ (x + j - 1) / j := (ceil_le (by omega)).mpr (Int.le_trans (ceil_up hj) (Int.mul_le_mul_of_nonneg_left hk (ceil_nonneg (by omega) hj)))
    omega
theorem pcount_mult {ls : List Int} {j m : Int} (hj : 1 ≤ j) (hm : 1 ≤ m) : pcount ls j ≤ m * pcount ls (j * m) := by
  have hjm : 1 ≤ j * m := by have := Int.mul_le_mul hj hm (by omega) (by omega); omega
  induction ls with
  | nil => rw [pcount_nil, pcount_nil, Int.mul_zero]; exact Int.le_refl _
  | cons x r ih =>
    rw [pcount_cons, pcount_cons, Int.mul_add]
    have h2 : (x + j - 1) / j ≤ m * ((x + j * m - 1) / (j * m)) := (ceil_le hj).mpr (by
      have := ceil_up (x := x) hjm
      rw [show m * ((x + j * m - 1) / (j * m)) * j = (x + j * m - 1) / (j * m) * (j * m) by rw [Int.mul_comm m, Int.mul_assoc, Int.mul_comm m j]]
      exact this)
    omega
theorem pcount_reverse (ls : List Int) (j : Int) : pcount ls.reverse j = pcount ls j := by
  induction ls with
  | nil => rfl
  | cons x r ih => rw [List.reverse_cons, pcount_append, ih, pcount_cons, pcount_cons, pcount_nil]; omega
theorem pcount_cut (ls : List Int) (n : Nat) (j : Int) : pcount (ls.take n) j + pcount (ls.drop n) j = pcount ls j := by
  rw [← pcount_append, List.take_append_drop]
theorem ceil_join {x y j : Int} (hj : 1 ≤ j) : (x + y + j - 1) / j ≤ (x + j - 1) / j + (y + j - 1) / j ∧ (x + j - 1) / j + (y + j - 1) / j ≤ (x + y + j - 1) / j + 1 := by
  have a1 := ceil_up (x := x) hj
  have a2 := ceil_dn (x := x) hj
  have b1 := ceil_up (x := y) hj
  have b2 := ceil_dn (x := y) hj
  have c1 := ceil_up (x := x + y) hj
  refine ⟨(ceil_le hj).mpr (by rw [Int.add_mul]; omega), ?_⟩
  generalize (x + j - 1) / j = p at *
  generalize (y + j - 1) / j = q at *
  generalize (x + y + j - 1) / j = r at *
  apply Int.le_of_lt_add_one
  apply Int.lt_of_not_ge
  intro h
  have h1 : (r + 2) * j ≤ (p + q) * j := Int.mul_le_mul_of_nonneg_right (by omega) (by omega)
  rw [Int.add_mul, Int.add_mul] at h1
  omega
theorem pcount_sum {ls : List Int} {j : Int} (hp : ∀ x ∈ ls, 1 ≤ x) (hl : (ls.length : Int) ≤ ls.sum) (hj : 1 ≤ j) : pcount ls j ≤ ls.sum := by
  have := pcount_most ls hj
  have := Int.ediv_le_self j (show 0 ≤ ls.sum - ls.length by omega)
  omega
/-! The text of a book. -/
open PySem in
def numS (z : Int) : Str := Str.ofString (toString z)
open PySem in
def partS (m z : Int) : Str := if m = 1 then numS z else numS m ++ "x" ++ numS z
section
open PySem
theorem numS_tl {z : Int} (h : 0 ≤ z) : TL.tl (numS z) = TL.numL z.toNat := by
  obtain ⟨n, rfl⟩ := Int.eq_ofNat_of_zero_le h
  unfold numS
  rw [TL.tl_num]
  rfl
theorem numS_free {k : Nat} (hk : k < 48 ∨ 57 < k) {z : Int} (h : 0 ≤ z) : ¬ k ∈ TL.tl (numS z) := by
  rw [numS_tl h]
  exact TL.numL_free hk
theorem numS_inj {z w : Int} (hz : 0 ≤ z) (hw : 0 ≤ w) (e : numS z = numS w) : z = w := by
  have := congrArg TL.tl e
  rw [numS_tl hz, numS_tl hw] at this
  have := TL.numL_inj this
  omega
theorem numS_len {z : Int} (h : 0 ≤ z) (h1 : z < 2 ^ 200) : (numS z).length ≤ 61 := PyProof.Rows.toString_length_le h (by decide) (by omega)
theorem x_tl : TL.tl ("x" : Str) = [120] := by rw [TL.tl_ofString]; rfl
theorem sep_tl : TL.tl (" + " : Str) = [32, 43, 32] := by rw [TL.tl_ofString]; rfl
theorem empty_tl : TL.tl ("empty" : Str) = [101, 109, 112, 116, 121] := by rw [TL.tl_ofString]; rfl
theorem partS_free {m z : Int} (hm : 0 ≤ m) (hz : 0 ≤ z) : ¬ 32 ∈ TL.tl (partS m z) := by
  unfold partS
  split
  · exact numS_free (.inl (by decide)) hz
  · rw [TL.tl_append, TL.tl_append, x_tl, List.mem_append, List.mem_append]
    rintro ((h | h) | h)
    · exact numS_free (.inl (by decide)) hm h
    · simp at h
    · exact numS_free (.inl (by decide)) hz h
theorem partS_len {m z : Int} (hm : 0 ≤ m) (hm1 : m < 2 ^ 200) (hz : 0 ≤ z) (hz1 : z < 2 ^ 200) : (partS m z).length ≤ 123 := by
  have a := numS_len hm hm1
  have b := numS_len hz hz1
  unfold partS
  split
  · omega
  · rw [TL.len_tl] at a b ⊢
    rw [TL.tl_append, TL.tl_append, x_tl, List.length_append, List.length_append]
    simp only [List.length_cons, List.length_nil]
    omega
theorem part_one {z : Int} (hz : 0 ≤ z) : Txt.partition (numS z) "x" = (numS z, Str.empty, Str.empty) := TL.partition_none x_tl (numS_free (.inr (by decide)) hz)
theorem part_more {m z : Int} (hm : 0 ≤ m) : Txt.partition (numS m ++ "x" ++ numS z) "x" = (numS m, ("x" : Str), numS z) := TL.partition_app x_tl (numS_free (.inr (by decide)) hm)
theorem x_ne : ("x" : Str) ≠ Str.empty := fun h => by
  have := congrArg TL.tl h
  rw [x_tl] at this
  cases this
theorem partS_inj {m z n w : Int} (hm : 0 ≤ m) (hz : 0 ≤ z) (hn : 0 ≤ n) (hw : 0 ≤ w) (e : partS m z = partS n w) : m = n ∧ z = w := by
  have p := congrArg (fun t => Txt.partition t "x") e
  unfold partS at e p
  by_cases h1 : m = 1 <;> by_cases h2 : n = 1
  · rw [if_pos h1, if_pos h2] at e
    exact ⟨by omega, numS_inj hz hw e⟩
  · rw [if_pos h1, if_neg h2] at p
    have p' : Txt.partition (numS z) "x" = Txt.partition (numS n ++ "x" ++ numS w) "x" := p
    rw [part_one hz, part_more hn] at p'
    exact absurd (Prod.mk.inj (Prod.mk.inj p').2).1.symm x_ne
  · rw [if_neg h1, if_pos h2] at p
    have p' : Txt.partition (numS m ++ "x" ++ numS z) "x" = Txt.partition (numS w) "x" := p
    rw [part_one hw, part_more hm] at p'
    exact absurd (Prod.mk.inj (Prod.mk.inj p').2).1 x_ne
  · rw [if_neg h1, if_neg h2] at p
    have p' : Txt.partition (numS m ++ "x" ++ numS z) "x" = Txt.partition (numS n ++ "x" ++ numS w) "x" := p
    rw [part_more hm, part_more hn] at p'
    exact ⟨numS_inj hm hn (Prod.mk.inj p').1, numS_inj hz hw (Prod.mk.inj (Prod.mk.inj p').2).2⟩
/-- stretches of equal numbers, behind k of the first that were seen before -/
def runs (k : Nat) : List Int → List (Int × Int)
  | [] => []
  | x :: r => if r.head? = some x then runs (k + 1) r else ((k : Int) + 1, x) :: runs 0 r
def spread (ps : List (Int × Int)) : List Int := ps.flatMap fun p => List.replicate p.1.toNat p.2
theorem runs_spread : ∀ {k : Nat} {x : Int} {r : List Int}, spread (runs k (x :: r)) = List.replicate k x ++ x :: r
  | k, x, [] => by
    rw [runs, if_neg (by simp)]
    show List.replicate ((k : Int) + 1).toNat x ++ [] = _
    rw [show ((k : Int) + 1).toNat = k + 1 by omega, List.append_nil, List.replicate_succ', ]
  | k, x, y :: r => by
    rw [runs]
    split
    · rename_i h
      have e : y = x := by simpa using h
      subst e
      rw [runs_spread, List.replicate_succ', List.append_assoc]
      rfl
    · show List.replicate ((k : Int) + 1).toNat x ++ spread (runs 0 (y :: r)) = _
      rw [runs_spread, show ((k : Int) + 1).toNat = k + 1 by omega, List.replicate_succ', List.append_assoc]
      rfl
theorem runs_mem : ∀ {ls : List Int} {k : Nat} {p : Int × Int}, p ∈ runs k ls → 1 ≤ p.1 ∧ p.1 ≤ (k : Int) + ls.length ∧ p.2 ∈ ls
  | [], _, _, h => by cases h
  | x :: r, k, p, h => by
    rw [runs] at h
    split at h
    · have := runs_mem h
      rw [List.length_cons]
      exact ⟨this.1, by push_cast; omega, List.mem_cons_of_mem _ this.2.2⟩
    · rw [List.length_cons]
      rcases List.mem_cons.mp h with h | h
      · subst h
        exact ⟨by show 1 ≤ (k : Int) + 1; omega, by show (k : Int) + 1 ≤ _; push_cast; omega, List.mem_cons_self⟩
      · have := runs_mem h
        exact ⟨this.1, by push_cast; omega, List.mem_cons_of_mem _ this.2.2⟩
theorem runs_len : ∀ (ls : List Int) (k : Nat), (runs k ls).length ≤ ls.length
  | [], _ => Nat.le_refl _
  | x :: r, k => by
    rw [runs]
    split
    · exact Nat.le_succ_of_le (runs_len r _)
    · exact Nat.succ_le_succ (runs_len r _)
theorem runs_ne {x : Int} {r : List Int} {k : Nat} : runs k (x :: r) ≠ [] := fun z => by
  have := runs_spread (k := k) (x := x) (r := r)
  rw [z] at this
  have := congrArg List.length this
  rw [List.length_append, List.length_cons] at this
  have : (0 : Nat) = _ := this
  omega
def partsOf (ls : List Int) : List Str := (runs 0 ls).map fun p => partS p.1 p.2
def textOf (ls : List Int) : Str := if ls = [] then "empty" else Txt.join " + " (partsOf ls)
theorem partsOf_free {ls : List Int} (h : ∀ x ∈ ls, 0 ≤ x) : ∀ p ∈ partsOf ls, ¬ 32 ∈ TL.tl p := fun p hp => by
  obtain ⟨q, hq, rfl⟩ := List.mem_map.mp hp
  have := runs_mem hq
  exact partS_free (by omega) (h _ this.2.2)
theorem split_parts {ps : List Str} (hn : ps ≠ []) (h : ∀ p ∈ ps, ¬ 32 ∈ TL.tl p) : Txt.split (Txt.join " + " ps) " + " = ps := TL.split_join sep_tl (by decide +kernel) hn h
theorem map_inj {α β : Type} {f : α → β} : ∀ {xs ys : List α}, (∀ x ∈ xs, ∀ y ∈ ys, f x = f y → x = y) → xs.map f = ys.map f → xs = ys
  | [], [], _, _ => rfl
  | [], _ :: _, _, e => by cases e
  | _ :: _, [], _, e => by cases e
  | x :: xs, y :: ys, h, e => by
    rw [List.map_cons, List.map_cons] at e
    injection e with e1 e2
    rw [h x List.mem_cons_self y List.mem_cons_self e1, map_inj (fun a ha b hb => h a (List.mem_cons_of_mem _ ha) b (List.mem_cons_of_mem _ hb)) e2]
theorem partsOf_inj {xs ys : List Int} (hx : ∀ x ∈ xs, 0 ≤ x) (hy : ∀ x ∈ ys, 0 ≤ x) (nx : xs ≠ []) (ny : ys ≠ []) (e : partsOf xs = partsOf ys) : xs = ys := by
  have e2 : runs 0 xs = runs 0 ys := map_inj (fun p hp q hq e => by
    have a := runs_mem hp
    have b := runs_mem hq
    obtain ⟨c, d⟩ := partS_inj (by omega) (hx _ a.2.2) (by omega) (hy _ b.2.2) e
    exact Prod.ext c d) e
  cases xs with
  | nil => exact absurd rfl nx
  | cons x r =>
    cases ys with
    | nil => exact absurd rfl ny
    | cons y s =>
      have := congrArg spread e2
      rw [runs_spread, runs_spread] at this
      exact this
theorem textOf_not_empty {x : Int} {r : List Int} (h : ∀ y ∈ x :: r, 0 ≤ y) : textOf (x :: r) ≠ ("empty" : Str) := fun e => by
  unfold textOf at e
  rw [if_neg (by simp)] at e
  have ne : partsOf (x :: r) ≠ [] := fun z => runs_ne (List.map_eq_nil_iff.mp z)
  have s := congrArg (fun t => Txt.split t " + ") e
  have s' : Txt.split (Txt.join " + " (partsOf (x :: r))) " + " = Txt.split "empty" " + " := s
  have j : Txt.join " + " [("empty" : Str)] = ("empty" : Str) := by
    rw [TL.join_eq]
    apply TL.ext_tl
    rw [TL.tl_join]
    decide +kernel
  have f : ∀ p ∈ [("empty" : Str)], ¬ 32 ∈ TL.tl p := fun p hp => by rw [List.mem_singleton.mp hp, empty_tl]; decide
  rw [split_parts ne (partsOf_free h), ← j, split_parts (by simp) f] at s'
  have m : ("empty" : Str) ∈ partsOf (x :: r) := by rw [s']; exact List.mem_singleton.mpr rfl
  obtain ⟨q, hq, eq⟩ := List.mem_map.mp m
  have hq := runs_mem hq
  have t := congrArg TL.tl eq
  rw [empty_tl] at t
  have mem : 101 ∈ TL.tl (partS q.1 q.2) := by rw [t]; exact List.mem_cons_self
  unfold partS at mem
  split at mem
  · exact numS_free (.inr (by decide)) (h _ hq.2.2) mem
  · rw [TL.tl_append, TL.tl_append, x_tl, List.mem_append, List.mem_append] at mem
    rcases mem with (g | g) | g
    · exact numS_free (.inr (by decide)) (by omega) g
    · simp at g
    · exact numS_free (.inr (by decide)) (h _ hq.2.2) g
theorem textOf_inj {xs ys : List Int} (hx : ∀ x ∈ xs, 0 ≤ x) (hy : ∀ x ∈ ys, 0 ≤ x) : textOf xs = textOf ys ↔ xs = ys := by
  refine ⟨fun e => ?_, fun e => by rw [e]⟩
  cases xs with
  | nil =>
    cases ys with
    | nil => rfl
    | cons y s => exact absurd e.symm (textOf_not_empty hy)
  | cons x r =>
    cases ys with
    | nil => exact absurd e (textOf_not_empty hx)
    | cons y s =>
      refine partsOf_inj hx hy (by simp) (by simp) ?_
      unfold textOf at e
      rw [if_neg (by simp), if_neg (by simp)] at e
      have s' := congrArg (fun t => Txt.split t " + ") e
      have s'' : Txt.split (Txt.join " + " (partsOf (x :: r))) " + " = Txt.split (Txt.join " + " (partsOf (y :: s))) " + " := s'
      have nx : partsOf (x :: r) ≠ [] := fun z => runs_ne (List.map_eq_nil_iff.mp z)
      have ny : partsOf (y :: s) ≠ [] := fun z => runs_ne (List.map_eq_nil_iff.mp z)
      rw [split_parts nx (partsOf_free hx), split_parts ny (partsOf_free hy)] at s''
      exact s''
theorem parts_bound {ls : List Int} (h : ∀ x ∈ ls, 0 ≤ x ∧ x < 2 ^ 200) (hl : ls.length ≤ 99999) : ((partsOf ls).map fun p => p.length).sum + (partsOf ls).length * (" + " : Str).length ≤ 16777216 := by
  have a : (" + " : Str).length = 3 := by rw [TL.len_tl, sep_tl]; rfl
  have b : (partsOf ls).length ≤ 99999 := by unfold partsOf; rw [List.length_map]; exact Nat.le_trans (runs_len ls 0) hl
  have c : ∀ ps : List Str, (∀ p ∈ ps, p.length ≤ 123) → (ps.map fun p => p.length).sum ≤ ps.length * 123 := fun ps => by
    induction ps with
    | nil => intro _; exact Nat.le_refl _
    | cons p r ih =>
      intro h
      rw [List.map_cons, List.sum_cons, List.length_cons]
      have := h p List.mem_cons_self
      have := ih fun q hq => h q (List.mem_cons_of_mem _ hq)
      omega
  have d := c (partsOf ls) fun p hp => by
    obtain ⟨q, hq, rfl⟩ := List.mem_map.mp hp
    have m := runs_mem hq
    have := h _ m.2.2
    exact partS_len (by omega) (by omega) (by omega) (by omega)
  rw [a]
  omega
theorem emp_app (x : Str) : Str.empty ++ x = x := TL.ext_tl (by rw [TL.tl_append]; rfl)
theorem lenA (x y : Str) : (x ++ y).length = x.length + y.length := by rw [TL.len_tl, TL.tl_append, List.length_append, ← TL.len_tl, ← TL.len_tl]
theorem x_len : ("x" : Str).length = 1 := by rw [TL.len_tl, x_tl]; rfl
theorem numS_one {z : Int} (h : 0 ≤ z) (h1 : z < 10) : TL.tl (numS z) = [48 + z.toNat] := by rw [numS_tl h, TL.numL_lt (by omega)]
theorem text_5335 : textOf [5, 3, 3, 5] = ("5 + 2x3 + 5" : Str) := by
  have r : partsOf [5, 3, 3, 5] = [numS 5, numS 2 ++ "x" ++ numS 3, numS 5] := rfl
  show Txt.join " + " (partsOf [5, 3, 3, 5]) = _
  rw [r, TL.join_eq]
  apply TL.ext_tl
  rw [TL.tl_join, sep_tl, TL.tl_ofString, List.map_cons, List.map_cons, List.map_cons, List.map_nil, TL.tl_append, TL.tl_append, x_tl, numS_one (by decide) (by decide), numS_one (by decide) (by decide), numS_one (by decide) (by decide)]
  decide +kernel
theorem glue_len (y : Str) : ∀ ps : List Str, (TL.joinL (TL.tl y) (ps.map TL.tl)).length ≤ (ps.map fun p => p.length).sum + ps.length * y.length
  | [] => by rw [List.map_nil, TL.joinL]; simp
  | [p] => by
    rw [List.map_cons, List.map_nil, TL.joinL, ← TL.len_tl]
    simp
  | p :: q :: r => by
    have ih := glue_len y (q :: r)
    rw [List.map_cons, List.map_cons, TL.joinL, List.length_append, List.length_append, ← TL.len_tl, ← TL.len_tl]
    have e : ((p :: q :: r).map fun p => p.length).sum = p.length + ((q :: r).map fun p => p.length).sum := by rw [List.map_cons, List.sum_cons]
    rw [e, show (p :: q :: r).length = (q :: r).length + 1 from rfl, Nat.add_mul, Nat.one_mul]
    rw [List.map_cons] at ih
    omega
theorem textOf_len {ls : List Int} (h : ∀ x ∈ ls, 0 ≤ x ∧ x < 2 ^ 200) (hl : ls.length ≤ 40) : (textOf ls).length ≤ 5100 := by
  by_cases e : ls = []
  · subst e
    rw [show textOf [] = ("empty" : Str) from if_pos rfl, TL.len_tl, empty_tl]
    decide
  · rw [show textOf ls = Txt.join " + " (partsOf ls) from if_neg e, TL.join_eq, TL.len_tl, TL.tl_join]
    have g := glue_len " + " (partsOf ls)
    have a : (" + " : Str).length = 3 := by rw [TL.len_tl, sep_tl]; rfl
    have b : (partsOf ls).length ≤ 40 := by unfold partsOf; rw [List.length_map]; exact Nat.le_trans (runs_len ls 0) hl
    have c : ∀ ps : List Str, (∀ p ∈ ps, p.length ≤ 123) → (ps.map fun p => p.length).sum ≤ ps.length * 123 := fun ps => by
      induction ps with
      | nil => intro _; exact Nat.le_refl _
      | cons p r ih =>
        intro h
        rw [List.map_cons, List.sum_cons, List.length_cons]
        have := h p List.mem_cons_self
        have := ih fun q hq => h q (List.mem_cons_of_mem _ hq)
        omega
    have d := c (partsOf ls) fun p hp => by
      obtain ⟨q, hq, rfl⟩ := List.mem_map.mp hp
      have m := runs_mem hq
      have := h _ m.2.2
      exact partS_len (by omega) (by omega) (by omega) (by omega)
    rw [a] at g
    omega
end
/-! Books read from texts. -/
section
open PySem
def isNumL (L : List Nat) : Bool := (decide (L ≠ []) && L.all fun c => decide (48 ≤ c ∧ c ≤ 57)) && (decide (L.head? ≠ some 48) && decide (L.length ≤ 40))
def numR (w : Str) : Int := if isNumL (TL.tl w) then (NumText.digitsVal (TL.tl w) : Nat) else 0
def chR (p : Str) : Int × Int :=
  if (Txt.partition p "x").2.1 = Str.empty then (1, numR p)
  else if numR (Txt.partition p "x").1 = 1 then (0, 0)
  else (numR (Txt.partition p "x").1, numR (Txt.partition p "x").2.2)
def goR : List Str → Int → Option (List (Int × Int))
  | [], _ => some []
  | p :: ps, b => if (chR p).1 = 0 ∨ (chR p).2 = 0 ∨ (chR p).2 = b then none else (goR ps (chR p).2).map fun r => chR p :: r
def readR (t : Str) : Option (List Int) := if t = "empty" then some [] else (goR (Txt.split t " + ") 0).map spread
theorem digit_nat {c : Nat} (h : c < 128) : Unicode.isDigit c = decide (48 ≤ c ∧ c ≤ 57) := by
  have : ∀ c < 128, Unicode.isDigit c = decide (48 ≤ c ∧ c ≤ 57) := by decide +kernel
  exact this c h
theorem asc_dig (w : Str) : (Txt.isascii w && Txt.isdigit w) = (decide (TL.tl w ≠ []) && (TL.tl w).all fun c => decide (48 ≤ c ∧ c ≤ 57)) := by
  unfold Txt.isascii Txt.isdigit
  rw [← Array.all_toList, ← Array.all_toList, TL.len_tl, show w.cps.toList = TL.tl w from rfl]
  generalize TL.tl w = l
  have e0 : decide (l.length > 0) = decide (l ≠ []) := by cases l <;> simp
  rw [e0, ← Bool.and_assoc, Bool.and_comm (l.all _) (decide _), Bool.and_assoc]
  congr 1
  induction l with
  | nil => rfl
  | cons c r ih =>
    rw [List.all_cons, List.all_cons, List.all_cons]
    by_cases h : c < 128
    · rw [digit_nat h, decide_eq_true h, Bool.true_and, ← ih (by cases r <;> simp)]
      cases decide (48 ≤ c ∧ c ≤ 57) <;> cases r.all (fun x => decide (x < 128)) <;> rfl
    · rw [decide_eq_false h, Bool.false_and, Bool.false_and, decide_eq_false (by omega), Bool.false_and]
theorem numL_head : ∀ {n : Nat}, 1 ≤ n → (TL.numL n).head? ≠ some 48 := by
  intro n
  induction n using Nat.strongRecOn with
  | _ n ih =>
    intro h1
    rcases Nat.lt_or_ge n 10 with h | h
    · rw [TL.numL_lt h]
      intro z
      have := Option.some.inj z
      omega
    · rw [TL.numL_step h]
      have i := ih (n / 10) (Nat.div_lt_self (by omega) (by decide)) (by omega)
      have ne := TL.numL_ne (n / 10)
      cases hL : TL.numL (n / 10) with
      | nil => exact absurd hL ne
      | cons c r => rw [hL] at i; exact i
theorem numL_of : ∀ {L : List Nat}, L ≠ [] → NumText.AllDigits L → L.head? ≠ some 48 → 1 ≤ NumText.digitsVal L ∧ TL.numL (NumText.digitsVal L) = L := by
  intro L
  induction hn : L.length generalizing L with
  | zero => intro h; exact absurd (List.length_eq_zero_iff.mp hn) h
  | succ n ih =>
    intro hne hd hh
    obtain ⟨M, d, rfl⟩ : ∃ M d, L = M ++ [d] := ⟨L.dropLast, L.getLast hne, (List.dropLast_concat_getLast hne).symm⟩
    have hv : NumText.digitsVal (M ++ [d]) = NumText.digitsVal M * 10 + (d - 48) := by unfold NumText.digitsVal; rw [List.foldl_append]; rfl
    have hdd := hd d (by simp)
    by_cases e : M = []
    · subst e
      have hd48 : d ≠ 48 := fun z => hh (by rw [z]; rfl)
      rw [hv, show NumText.digitsVal [] = 0 from rfl, show 0 * 10 + (d - 48) = d - 48 by omega, TL.numL_lt (by omega)]
      exact ⟨by omega, by rw [show 48 + (d - 48) = d by omega]; rfl⟩
    · have hl : M.length = n := by rw [List.length_append] at hn; simpa using hn
      obtain ⟨a, b⟩ := ih hl e (fun c hc => hd c (by simp [hc])) (by
        cases M with
        | nil => exact absurd rfl e
        | cons c r => exact hh)
      rw [hv, TL.numL_step (by omega), show (NumText.digitsVal M * 10 + (d - 48)) / 10 = NumText.digitsVal M by omega, show (NumText.digitsVal M * 10 + (d - 48)) % 10 = d - 48 by omega, b, show 48 + (d - 48) = d by omega]
      exact ⟨by omega, rfl⟩
theorem isNum_digits {L : List Nat} (h : isNumL L = true) : L ≠ [] ∧ NumText.AllDigits L ∧ L.head? ≠ some 48 ∧ L.length ≤ 40 := by
  unfold isNumL at h
  simp only [Bool.and_eq_true, decide_eq_true_eq, List.all_eq_true] at h
  exact ⟨h.1.1, h.1.2, h.2.1, h.2.2⟩
theorem numR_nn (w : Str) : 0 ≤ numR w := by unfold numR; split <;> omega
/-- a number is written in one way -/
theorem numR_canon {w : Str} (h : numR w ≠ 0) : w = numS (numR w) ∧ 1 ≤ numR w := by
  unfold numR at h ⊢
  split at h
  · rename_i g
    rw [if_pos g]
    obtain ⟨a, b, c, _⟩ := isNum_digits g
    obtain ⟨d, e⟩ := numL_of a b c
    refine ⟨TL.ext_tl ?_, by omega⟩
    rw [numS_tl (by omega), Int.toNat_natCast, e]
  · exact absurd rfl h
theorem numR_numS {z : Int} (h1 : 1 ≤ z) (h2 : z < 10 ^ 40) : numR (numS z) = z := by
  unfold numR
  rw [numS_tl (by omega)]
  have g : isNumL (TL.numL z.toNat) = true := by
    unfold isNumL
    simp only [Bool.and_eq_true, decide_eq_true_eq, List.all_eq_true]
    exact ⟨⟨TL.numL_ne _, TL.numL_digits _⟩, numL_head (by omega), TL.numL_len (by decide) (by omega)⟩
  rw [if_pos g, TL.numL_val]
  omega
theorem chR_partS {m z : Int} (h1 : 1 ≤ m) (h2 : m < 10 ^ 40) (h3 : 1 ≤ z) (h4 : z < 10 ^ 40) : chR (partS m z) = (m, z) := by
  unfold chR partS
  by_cases e : m = 1
  · rw [if_pos e, part_one (by omega), if_pos rfl, numR_numS h3 h4, e]
  · rw [if_neg e, part_more (by omega), if_neg x_ne]
    show (if numR (numS m) = 1 then (0, 0) else (numR (numS m), numR (numS z))) = _
    rw [numR_numS h1 h2, numR_numS h3 h4, if_neg e]
/-- neighbours are unlike, also the first and b -/
def unlike (b : Int) : List (Int × Int) → Prop
  | [] => True
  | p :: r => p.2 ≠ b ∧ unlike p.2 r
def Good (ps : List (Int × Int)) : Prop := ∀ p ∈ ps, 1 ≤ p.1 ∧ p.1 < 10 ^ 40 ∧ 1 ≤ p.2 ∧ p.2 < 10 ^ 40
theorem goR_parts : ∀ {ps : List (Int × Int)} {b : Int}, Good ps → unlike b ps → goR (ps.map fun p => partS p.1 p.2) b = some ps
  | [], _, _, _ => rfl
  | p :: r, b, h, u => by
    obtain ⟨h1, h2, h3, h4⟩ := h p List.mem_cons_self
    rw [List.map_cons, goR, chR_partS h1 h2 h3 h4]
    have hn : ¬ (p.1 = 0 ∨ p.2 = 0 ∨ p.2 = b) := by
      rintro (z | z | z)
      · omega
      · omega
      · exact u.1 z
    rw [if_neg hn]
    show (goR (r.map fun p => partS p.1 p.2) p.2).map (fun q => p :: q) = _
    rw [goR_parts (fun q hq => h q (List.mem_cons_of_mem _ hq)) u.2]
    rfl
theorem readR_parts {ps : List (Int × Int)} (hn : ps ≠ []) (h : Good ps) (u : unlike 0 ps) (ne : Txt.join " + " (ps.map fun p => partS p.1 p.2) ≠ ("empty" : Str)) : readR (Txt.join " + " (ps.map fun p => partS p.1 p.2)) = some (spread ps) := by
  unfold readR
  rw [if_neg ne, split_parts (by simpa using hn) (fun p hp => by
    obtain ⟨q, hq, rfl⟩ := List.mem_map.mp hp
    have := h q hq
    exact partS_free (by omega) (by omega)), goR_parts h u]
  rfl
theorem par_sound (S : List Nat) : ∀ (L acc a b : List Nat), TL.par S acc L = some (a, b) → acc ++ L = a ++ (S ++ b)
  | [], acc, a, b, h => by rw [TL.par] at h; cases h
  | c :: r, acc, a, b, h => by
    rw [TL.par] at h
    split at h
    · rename_i g
      injection h with h
      injection h with h1 h2
      subst h1 h2
      rw [TL.pre] at g
      have e : List.take S.length (c :: r) = S := by simpa using g
      have := List.take_append_drop S.length (c :: r)
      rw [e] at this
      rw [this]
    · have := par_sound S r (acc ++ [c]) a b h
      rw [← this, List.append_assoc]; rfl
theorem part_cases (t : Str) : Txt.partition t "x" = (t, Str.empty, Str.empty) ∨ ∃ a b, Txt.partition t "x" = (a, ("x" : Str), b) ∧ t = a ++ "x" ++ b := by
  have ne : TL.tl ("x" : Str) ≠ [] := by rw [x_tl]; simp
  rw [TL.partition_par t "x" ne]
  cases h : TL.par (TL.tl ("x" : Str)) [] (TL.tl t) with
  | none => exact .inl rfl
  | some q =>
    obtain ⟨a, b⟩ := q
    refine .inr ⟨⟨a.toArray⟩, ⟨b.toArray⟩, rfl, TL.ext_tl ?_⟩
    have := par_sound _ _ _ _ _ h
    rw [TL.tl_append, TL.tl_append, TL.tl_mk, TL.tl_mk, List.append_assoc]
    exact this
theorem numR_zero {t : Str} (h : (Txt.isascii t && Txt.isdigit t) = false) : numR t = 0 := by
  unfold numR isNumL
  rw [asc_dig] at h
  rw [h]
  rfl
theorem one_zero {c : Nat} : ((⟨#[c]⟩ : Str) = ("0" : Str)) ↔ c = 48 := by
  constructor
  · intro h
    have := congrArg TL.tl h
    rw [TL.tl_ofString] at this
    have e : [c] = [48] := this
    injection e
  · rintro rfl
    apply TL.ext_tl
    rw [TL.tl_ofString]
    rfl
theorem spl_len (S : List Nat) : ∀ (L : List Nat) (k : Nat) (acc : List Nat), (TL.spl S k acc L).length ≤ L.length + 1
  | [], _, _ => by rw [TL.spl]; exact Nat.le_refl _
  | c :: r, 0, acc => by
    rw [TL.spl]
    split
    · have := spl_len S r (S.length - 1) []
      simp only [List.length_cons]; omega
    · have := spl_len S r 0 (acc ++ [c])
      simp only [List.length_cons]; omega
  | c :: r, k + 1, acc => by
    rw [TL.spl]
    have := spl_len S r k acc
    simp only [List.length_cons]; omega
theorem spl_mem (S : List Nat) : ∀ (L : List Nat) (k : Nat) (acc p : List Nat), p ∈ TL.spl S k acc L → p.length ≤ acc.length + L.length
  | [], _, acc, p, h => by rw [TL.spl, List.mem_singleton] at h; rw [h]; exact Nat.le_refl _
  | c :: r, 0, acc, p, h => by
    rw [TL.spl] at h
    split at h
    · rcases List.mem_cons.mp h with h | h
      · subst h; exact Nat.le_add_right _ _
      · have := spl_mem S r _ _ _ h
        simp only [List.length_cons, List.length_nil] at this ⊢; omega
    · have := spl_mem S r _ _ _ h
      simp only [List.length_cons, List.length_append, List.length_nil] at this ⊢; omega
  | c :: r, k + 1, acc, p, h => by
    rw [TL.spl] at h
    have := spl_mem S r _ _ _ h
    simp only [List.length_cons] at this ⊢; omega
theorem sep_kind (t : Str) : ¬ Builtin.Str.strKind t < Builtin.Str.strKind (" + " : Str) := TL.kind_ok (by decide +kernel)
theorem sep_ne : TL.tl (" + " : Str) ≠ [] := by rw [sep_tl]; simp
theorem split_len (t : Str) : (Txt.split t " + ").length ≤ t.length + 1 := by
  have := congrArg List.length (TL.split_spl t " + " sep_ne (sep_kind t))
  rw [List.length_map] at this
  rw [this, TL.len_tl]
  exact spl_len _ _ _ _
theorem split_mem {t p : Str} (h : p ∈ Txt.split t " + ") : p.length ≤ t.length := by
  have e := TL.split_spl t " + " sep_ne (sep_kind t)
  have m : TL.tl p ∈ TL.spl (TL.tl (" + " : Str)) 0 [] (TL.tl t) := by rw [← e]; exact List.mem_map.mpr ⟨p, h, rfl⟩
  have := spl_mem _ _ _ _ _ m
  rw [TL.len_tl, TL.len_tl]
  simpa using this
theorem chR_nn (p : Str) : 0 ≤ (chR p).1 ∧ 0 ≤ (chR p).2 := by
  unfold chR
  split
  · exact ⟨by show (0 : Int) ≤ 1; decide, numR_nn _⟩
  · split
    · exact ⟨Int.le_refl 0, Int.le_refl 0⟩
    · exact ⟨numR_nn _, numR_nn _⟩
theorem goR_nn : ∀ {parts : List Str} {b : Int} {ps : List (Int × Int)}, goR parts b = some ps → ∀ p ∈ ps, 0 ≤ p.1 ∧ 0 ≤ p.2
  | [], _, ps, h, p, hp => by
    rw [goR] at h
    injection h with h
    subst h
    cases hp
  | w :: r, b, ps, h, p, hp => by
    rw [goR] at h
    split at h
    · cases h
    · cases e : goR r (chR w).2 with
      | none => rw [e] at h; cases h
      | some q =>
        rw [e] at h
        have h' : chR w :: q = ps := Option.some.inj h
        subst h'
        rcases List.mem_cons.mp hp with hp | hp
        · rw [hp]; exact chR_nn w
        · exact goR_nn e p hp
theorem spread_app (a b : List (Int × Int)) : spread (a ++ b) = spread a ++ spread b := List.flatMap_append
theorem spread_take_succ {ps : List (Int × Int)} {i : Nat} {p : Int × Int} (h : ps[i]? = some p) : spread (ps.take (i + 1)) = spread (ps.take i) ++ List.replicate p.1.toNat p.2 := by
  rw [List.take_add_one, h, spread_app]
  congr 1
  show List.replicate p.1.toNat p.2 ++ [] = _
  rw [List.append_nil]
theorem spread_take_le (ps : List (Int × Int)) (i : Nat) : (spread (ps.take i)).length ≤ (spread ps).length := by
  have := congrArg (fun q => (spread q).length) (List.take_append_drop i ps)
  have e : (spread (ps.take i ++ ps.drop i)).length = (spread ps).length := this
  rw [spread_app, List.length_append] at e
  omega
theorem runs_rep : ∀ {n k : Nat} {x : Int} {L : List Int}, L.head? ≠ some x → runs k (List.replicate (n + 1) x ++ L) = ((k : Int) + n + 1, x) :: runs 0 L
  | 0, k, x, L, h => by
    show runs k (x :: L) = _
    rw [runs, if_neg h]; simp
  | n + 1, k, x, L, h => by
    show runs k (x :: (List.replicate (n + 1) x ++ L)) = _
    rw [runs, if_pos (by rw [List.replicate_succ]; rfl), runs_rep h]
    congr 2
    push_cast; omega
/-- the text of a book is read as the book -/
theorem unlike_runs : ∀ {ls : List Int} {k : Nat} {b : Int}, ls.head? ≠ some b → unlike b (runs k ls)
  | [], _, _, _ => trivial
  | x :: r, k, b, h => by
    rw [runs]
    split
    · rename_i e
      exact unlike_runs (by rw [e]; intro z; exact h (by rw [← Option.some.inj z]; rfl))
    · rename_i e
      exact ⟨fun z => h (by rw [← z]; rfl), unlike_runs e⟩
theorem readR_text {ls : List Int} (h : ∀ x ∈ ls, 1 ≤ x ∧ x < 10 ^ 40) (hl : ls.length < 10 ^ 9) : readR (textOf ls) = some ls := by
  cases ls with
  | nil => rfl
  | cons x r =>
    have ne := textOf_not_empty (x := x) (r := r) fun y hy => by have := h y hy; omega
    have e : textOf (x :: r) = Txt.join " + " ((runs 0 (x :: r)).map fun p => partS p.1 p.2) := if_neg (by simp)
    rw [e] at ne ⊢
    rw [readR_parts runs_ne (fun p hp => by
      have a := runs_mem hp
      have b := h _ a.2.2
      exact ⟨by omega, by omega, b.1, b.2⟩) (unlike_runs fun z => by
      have b := h x List.mem_cons_self
      have : x = 0 := Option.some.inj z
      omega) ne, runs_spread]
    rfl
theorem goR_text {ls : List Int} (hn : ls ≠ []) (h : ∀ x ∈ ls, 1 ≤ x ∧ x < 10 ^ 40) (hl : ls.length < 10 ^ 9) : goR (Txt.split (textOf ls) " + ") 0 = some (runs 0 ls) := by
  have e : textOf ls = Txt.join " + " ((runs 0 ls).map fun p => partS p.1 p.2) := if_neg hn
  have rn : runs 0 ls ≠ [] := by
    cases ls with
    | nil => exact absurd rfl hn
    | cons x r => exact runs_ne
  rw [e, split_parts (by simpa using rn) (fun p hp => by
    obtain ⟨q, hq, rfl⟩ := List.mem_map.mp hp
    have a := runs_mem hq
    have b := h _ a.2.2
    exact partS_free (by omega) (by omega))]
  refine goR_parts (fun p hp => by
    have a := runs_mem hp
    have b := h _ a.2.2
    exact ⟨by omega, by omega, b.1, b.2⟩) (unlike_runs fun z => ?_)
  cases ls with
  | nil => cases z
  | cons x r =>
    have b := h x List.mem_cons_self
    have : x = 0 := Option.some.inj z
    omega
end
namespace HS
open PySem PySem.Spec PyProof.Rows L2 _root_.HS
theorem Prs.at {H : Hp} : ∀ {vs : List V} {ps : List (Int × Int)}, Prs H vs ps → ∀ {i : Nat} {v : V}, vs[i]? = some v → ∃ t p, v = .ref t ∧ ps[i]? = some p ∧ H t = some (.tup [.int p.1, .int p.2])
  | [], [], _, i, v, hv => by simp at hv
  | _ :: _, p :: _, ⟨⟨t, e, o⟩, _⟩, 0, v, hv => by
    cases hv
    exact ⟨t, p, e, rfl, o⟩
  | _ :: _, _ :: _, ⟨_, h⟩, i + 1, v, hv => Prs.at h (i := i) hv
end HS
theorem pcount_reps (x j : Int) : ∀ n : Nat, pcount (List.replicate n x) j = n * ((x + j - 1) / j)
  | 0 => by rw [show pcount (List.replicate 0 x) j = 0 from rfl]; simp
  | n + 1 => by
    rw [List.replicate_succ, pcount_cons, pcount_reps x j n]
    push_cast
    rw [Int.add_mul, Int.one_mul]; omega
/-- so many chapters of one length, one of four lines, and as many again -/
def four (m : Nat) (x : Int) : List Int := List.replicate m x ++ 4 :: List.replicate m x
theorem four_len (m : Nat) (x : Int) : (four m x).length = 2 * m + 1 := by
  unfold four
  rw [List.length_append, List.length_cons, List.length_replicate]
  omega
theorem four_count (m : Nat) (x j : Int) : pcount (four m x) j = 2 * (m : Int) * ((x + j - 1) / j) + (4 + j - 1) / j := by
  unfold four
  rw [pcount_append, pcount_cons, pcount_reps, Int.mul_assoc, Int.two_mul]
  omega
open PySem in
theorem four_text {m : Nat} {x : Int} (hm : 2 ≤ m) (hx : 5 ≤ x) : textOf (four m x) = numS m ++ "x" ++ numS x ++ " + 4 + " ++ numS m ++ "x" ++ numS x := by
  obtain ⟨n, rfl⟩ : ∃ n, m = n + 1 := ⟨m - 1, by omega⟩
  have r : runs 0 (four (n + 1) x) = [((n : Int) + 1, x), (1, 4), ((n : Int) + 1, x)] := by
    unfold four
    have a := runs_rep (n := n) (k := 0) (x := x) (L := 4 :: List.replicate (n + 1) x) (by intro z; have : (4 : Int) = x := Option.some.inj z; omega)
    have b : runs 0 (4 :: List.replicate (n + 1) x) = (1, 4) :: runs 0 (List.replicate (n + 1) x) := by
      rw [runs, if_neg (by rw [List.replicate_succ]; intro z; have : x = 4 := Option.some.inj z; omega)]; rfl
    have c := runs_rep (n := n) (k := 0) (x := x) (L := []) (by simp)
    rw [List.append_nil] at c
    rw [a, b, c]
    simp [runs]
  have nn : four (n + 1) x ≠ [] := by unfold four; simp
  rw [show textOf (four (n + 1) x) = Txt.join " + " (partsOf (four (n + 1) x)) from if_neg nn]
  unfold partsOf
  rw [r, TL.join_eq]
  apply TL.ext_tl
  have p1 : partS ((n : Int) + 1) x = numS ((n + 1 : Nat) : Int) ++ "x" ++ numS x := by unfold partS; rw [if_neg (by omega)]; push_cast; rfl
  have p2 : partS 1 4 = numS 4 := if_pos rfl
  have mid : TL.tl (" + 4 + " : Str) = [32, 43, 32, 52, 32, 43, 32] := by rw [TL.tl_ofString]; rfl
  have t1 : TL.tl (numS 4) = [52] := by rw [numS_tl (by decide), TL.numL_lt (by decide)]; rfl
  rw [TL.tl_join, sep_tl]
  show TL.joinL [32, 43, 32] [TL.tl (partS ((n : Int) + 1) x), TL.tl (partS 1 4), TL.tl (partS ((n : Int) + 1) x)] = _
  rw [p1, p2, t1, TL.joinL, TL.joinL, TL.joinL]
  simp only [TL.tl_append, mid, List.append_assoc, List.cons_append, List.nil_append]
open PySem in
theorem mid4_len : (" + 4 + " : Str).length = 7 := by rw [TL.len_tl, TL.tl_ofString]; rfl
end WK02
namespace WK02
open PySem PySem.Spec PyProof.Rows L2
local macro_rules | `(tactic| walk_at "ne") => `(tactic| first | assumption | (apply Ne.symm; assumption) | exact ne_of_none (by assumption) (by assumption) | exact (ne_of_none (by assumption) (by assumption)).symm | exact ne_of_none upd_same (by assumption) | exact (ne_of_none upd_same (by assumption)).symm)
local macro_rules | `(tactic| walk_at "hp") => `(tactic| first | assumption | exact upd_same | (rw [upd_ne (by walk_at "ne")]; walk_at "hp"))
local macro_rules | `(tactic| walk_at "side") => `(tactic| first | omega | decide | assumption | exact ⟨by decide, by decide⟩ | exact ⟨by omega, by omega⟩ | exact .inl (by omega) | exact .inr (by omega) | exact .inl (by decide) | exact .inr (by decide) | exact ⟨by decide, by decide, by decide⟩ | exact ⟨by decide, by decide, by omega⟩ | exact .inl ⟨by omega, by omega⟩ | exact .inr ⟨by omega, by omega⟩ | exact .inr ⟨by decide, by decide⟩ | exact .inl ⟨by decide, by decide⟩ | (show _ < _; omega))
local macro_rules | `(tactic| walk_at "len") => `(tactic| ((try simp only [List.length_map, List.length_append, List.length_cons, List.length_nil, List.length_set, List.length_replicate]); omega))
local macro_rules | `(tactic| walk_at "sq") => `(tactic| first | assumption | exact HS.sq (by walk_at "hp"))
local macro_rules | `(tactic| walk_at "st") => `(tactic| first | assumption | exact HS.st (by walk_at "hp"))
local macro_rules | `(tactic| walk_at "h1") => `(tactic| first
  | with_reducible refine HS.seq ?_
  | with_reducible refine HS.asg ?_
  | with_reducible refine HS.nm ?_
  | with_reducible refine HS.var rfl ?_
  | with_reducible refine HS.cst ?_
  | with_reducible refine HS.op ?_
  | with_reducible refine HS.i0 ?_
  | ((with_reducible refine HS.i1 ?_); first | refine ⟨by walk_at "side", ?_⟩ | skip)
  | with_reducible refine HS.u0 ?_
  | with_reducible refine HS.un ?_
  | with_reducible refine HS.eqI ?_
  | with_reducible refine HS.neI ?_
  | with_reducible refine HS.tst ?_
  | with_reducible refine HS.tb1 ?_
  | with_reducible refine HS.bex ?_
  | with_reducible refine HS.ifs ?_
  | with_reducible refine HS.ife ?_
  | with_reducible refine HS.and ?_
  | with_reducible refine HS.or ?_
  | with_reducible refine HS.not ?_
  | with_reducible refine HS.andV ?_
  | with_reducible refine HS.orV ?_
  | with_reducible refine HS.notV ?_
  | with_reducible refine HS.chn ?_
  | with_reducible refine HS.ret ?_
  | with_reducible refine HS.retN ?_
  | with_reducible refine HS.drp ?_
  | with_reducible refine HS.cb ?_
  | with_reducible refine HS.anil ?_
  | with_reducible refine HS.acons ?_
  | with_reducible refine HS.cal ?_
  | with_reducible refine HS.tup ?_
  | with_reducible refine HS.lst ?_
  | with_reducible refine HS.par ?_
  | with_reducible refine HS.ex2 ?_
  | with_reducible refine HS.aug rfl ?_
  | with_reducible refine HS.ipi ?_
  | with_reducible refine HS.addI ?_
  | with_reducible refine HS.nxt ?_
  | with_reducible refine HS.brk ?_
  | with_reducible refine HS.cnt ?_
  | with_reducible refine HS.sub ?_
  | with_reducible refine HS.pnx ?_
  | with_reducible refine HS.prt ?_
  | with_reducible refine HS.pbk ?_
  | with_reducible refine HS.pct ?_
  | with_reducible refine iteF ?_
  | with_reducible refine iteT ?_
  | with_reducible refine HS.ii ?_
  | with_reducible refine HS.bmL ?_
  | with_reducible refine HS.bmL0 ?_
  | ((with_reducible refine' HS.tyL ?e ?_); case e => walk_at "hp")
  | ((with_reducible refine' HS.app ?e ?_); (case e => walk_at "hp"))
  | ((with_reducible refine' HS.setL ?e ?f ?_); (case e => walk_at "hp"); (case f => rfl))
  | ((with_reducible refine' HS.wp ?e ?_); case e => rfl)
  | ((with_reducible refine' HS.szc ?e ?_); case e => walk_at "len")
  | ((with_reducible refine' HS.szd ?e ?_); case e => walk_at "len")
  | with_reducible refine HS.yes ?_
  | with_reducible refine HS.lc ?_
  | with_reducible refine HS.rng1 ?_
  | with_reducible refine HS.rng2 ?_
  | with_reducible refine HS.rng3 ?_
  | with_reducible refine HS.lis ?_
  | with_reducible refine HS.fr ?_
  | with_reducible refine HS.i1e ?_
  | with_reducible refine HS.gthen ?_
  | with_reducible refine HS.g0 ?_
  | with_reducible refine HS.gfr ?_
  | with_reducible refine HS.gpl ?_
  | with_reducible refine HS.gyl ?_
  | with_reducible refine HS.lgn ?_
  | with_reducible refine HS.calg ?_
  | with_reducible refine HS.revL ?_
  | with_reducible refine HS.sl ?_
  | with_reducible refine HS.noP ?_
  | with_reducible refine HS.part ?_
  | with_reducible refine HS.ie ?_
  | ((with_reducible refine' HS.slLs ?e ?_); case e => walk_at "sq")
  | ((with_reducible refine' HS.gtup ?e ?f ?_); (case e => walk_at "st"); (case f => rfl))
  | with_reducible refine HS.gcons ?_
  | with_reducible refine HS.gnil ?_
  | with_reducible refine HS.itup ?_
  | with_reducible refine HS.ienu ?_
  | ((with_reducible refine' HS.cat ?e ?f ?_); (case e => walk_at "hp"); (case f => walk_at "hp"))
  | ((with_reducible refine' HS.ext ?e ?f ?_); (case e => walk_at "hp"); (case f => walk_at "hp"))
  | ((with_reducible refine' HS.sumL ?e ?_); case e => walk_at "sq")
  | ((with_reducible refine' HS.lenL ?e ?_); case e => walk_at "sq")
  | ((with_reducible refine' HS.lenT ?e ?_); case e => walk_at "st")
  | with_reducible refine HS.ra ?_
  | ((with_reducible refine' HS.ixL ?e ?f ?_); (case e => walk_at "sq"); (case f => rfl))
  | ((with_reducible refine' HS.ixT ?e ?f ?_); (case e => walk_at "st"); (case f => rfl)))
local macro_rules | `(tactic| walk_at "hs") => `(tactic| repeat' (walk_at "h1"))
local macro_rules | `(tactic| walk_at "fold") => `(tactic| (walk_at "hs"; assumption))
local macro_rules | `(tactic| walk_at "ns") => `(tactic| first | exact (fun z => z) | assumption | exact HS.nS2 (by walk_at "ne") (by walk_at "ne") | exact HS.nS3 (by walk_at "ne") (by walk_at "ne") (by walk_at "ne"))
local macro_rules | `(tactic| walk_at "kp") => `(tactic| first
  | assumption
  | exact HS.Keep.refl
  | (refine HS.Keep.at ?_ (by first | exact .inl rfl | exact .inr rfl | exact .inr (.inl rfl) | exact .inr (.inr rfl)); walk_at "kp")
  | (refine HS.Keep.put ?_ (by assumption); walk_at "kp")
  | (refine HS.Keep.new' (by assumption) (by first | assumption | exact HS.Keep.refl) (by walk_at "ns") ?_; walk_at "kp"))
local macro_rules | `(tactic| walk_at "ev") => `(tactic| first | assumption | exact HS.Exv.new (by walk_at "ev") (by assumption))
local macro_rules | `(tactic| walk_at "h1") => `(tactic| first
  | with_reducible refine HS.ost ?_
  | with_reducible refine HS.fldV ?_
  | with_reducible refine HS.newV ?_
  | with_reducible refine HS.newK ?_
  | ((with_reducible refine' HS.isV ?T ?he ?hq ?_); (case T => assumption); (case he => walk_at "ev"); (case hq => assumption))
  | ((with_reducible refine' HS.isVt ?T ?he ?hq ?_); (case T => assumption); (case he => walk_at "ev"); (case hq => assumption)))
local macro_rules | `(tactic| walk_at "h1") => `(tactic| first
  | with_reducible refine HS.caln ?_
  | with_reducible refine HS.ckw ?_
  | with_reducible refine HS.izip ?_
  | with_reducible refine HS.orT ?_
  | with_reducible refine HS.srv ?_
  | with_reducible refine HS.nt ?_
  | with_reducible refine HS.nf ?_
  | ((with_reducible refine' HS.lnn ?e ?f ?_); (case e => rfl); (case f => rfl)))
local macro_rules | `(tactic| walk_at "h1") => `(tactic| first
  | with_reducible refine HS.mkO ?_
  | with_reducible refine HS.callS ?_
  | with_reducible refine HS.xf ?_)
local macro_rules | `(tactic| walk_at "h1") => `(tactic| first
  | with_reducible refine HS.js ?_
  | with_reducible refine HS.jsn ?_
  | with_reducible refine HS.fmt ?_
  | with_reducible refine HS.m1S ?_
  | with_reducible refine HS.m0S ?_
  | with_reducible refine HS.strE ?_)
def topS (i : Nat) : Stmt := PySem.Challenge.pw_pagecounts_k02_page_counts.main.body.getD i (.Pass ⟨0, 0, 0, 0⟩)
abbrev s__law_source : Stmt := topS 20
abbrev N__law_source : List Str := ["script", "mix", "digits", "cell", "span"]
theorem sc__law_source : FnScope N__law_source ["script"] (defScope s__law_source) := ⟨rfl, rfl, rfl, by decide +kernel, rfl, by decide +kernel, by decide +kernel⟩
abbrev s__law_draw : Stmt := topS 21
abbrev N__law_draw : List Str := ["source", "many", "drawn", "mixed"]
theorem sc__law_draw : FnScope N__law_draw ["source", "many"] (defScope s__law_draw) := ⟨rfl, rfl, rfl, by decide +kernel, rfl, by decide +kernel, by decide +kernel⟩
abbrev s__law_lengths : Stmt := topS 23
abbrev N__law_lengths : List Str := ["source", "many", "wide", "part"]
theorem sc__law_lengths : FnScope N__law_lengths ["source", "many"] (defScope s__law_lengths) := ⟨rfl, rfl, rfl, by decide +kernel, rfl, by decide +kernel, by decide +kernel⟩
abbrev s__law_wide : Stmt := topS 24
abbrev N__law_wide : List Str := ["source", "lengths", "one", "some"]
theorem sc__law_wide : FnScope N__law_wide ["source", "lengths"] (defScope s__law_wide) := ⟨rfl, rfl, rfl, by decide +kernel, rfl, by decide +kernel, by decide +kernel⟩
abbrev s__law_sheets : Stmt := topS 25
abbrev N__law_sheets : List Str := ["long", "wide"]
theorem sc__law_sheets : FnScope N__law_sheets ["long", "wide"] (defScope s__law_sheets) := ⟨rfl, rfl, rfl, by decide +kernel, rfl, by decide +kernel, by decide +kernel⟩
abbrev s__law_same : Stmt := topS 22
abbrev N__law_same : List Str := ["found", "wanted", "k"]
theorem sc__law_same : FnScope N__law_same ["found", "wanted"] (defScope s__law_same) := ⟨rfl, rfl, rfl, by decide +kernel, rfl, by decide +kernel, by decide +kernel⟩
abbrev s_count_pages : Stmt := topS 13
abbrev N_count_pages : List Str := ["book", "size", "length"]
theorem sc_count_pages : FnScope N_count_pages ["book", "size"] (defScope s_count_pages) := ⟨rfl, rfl, rfl, by decide +kernel, rfl, by decide +kernel, by decide +kernel⟩
abbrev s_check_book : Stmt := topS 7
abbrev N_check_book : List Str := ["book", "index", "length"]
theorem sc_check_book : FnScope N_check_book ["book"] (defScope s_check_book) := ⟨rfl, rfl, rfl, by decide +kernel, rfl, by decide +kernel, by decide +kernel⟩
abbrev s_check_size : Stmt := topS 8
abbrev N_check_size : List Str := ["size"]
theorem sc_check_size : FnScope N_check_size ["size"] (defScope s_check_size) := ⟨rfl, rfl, rfl, by decide +kernel, rfl, by decide +kernel, by decide +kernel⟩
abbrev s_check_not_negative : Stmt := topS 9
abbrev N_check_not_negative : List Str := ["number"]
theorem sc_check_not_negative : FnScope N_check_not_negative ["number"] (defScope s_check_not_negative) := ⟨rfl, rfl, rfl, by decide +kernel, rfl, by decide +kernel, by decide +kernel⟩
abbrev s_pages : Stmt := topS 11
abbrev N_pages : List Str := ["book", "size"]
theorem sc_pages : FnScope N_pages ["book", "size"] (defScope s_pages) := ⟨rfl, rfl, rfl, by decide +kernel, rfl, by decide +kernel, by decide +kernel⟩
abbrev s_counts : Stmt := topS 12
abbrev N_counts : List Str := ["book", "limit", "size"]
theorem sc_counts : GScope N_counts ["book", "limit"] (defScope s_counts) := ⟨rfl, rfl, rfl, by decide +kernel, rfl, by decide +kernel, by decide +kernel⟩
abbrev s_Unreadable___init__ : Stmt := HS.inS (topS 5) 0
abbrev N_Unreadable___init__ : List Str := ["self", "value"]
theorem sc_Unreadable___init__ : FnScope N_Unreadable___init__ ["self", "value"] (defScope s_Unreadable___init__) := ⟨rfl, rfl, rfl, by decide +kernel, rfl, by decide +kernel, by decide +kernel⟩
abbrev s_read_number : Stmt := topS 18
abbrev N_read_number : List Str := ["word"]
theorem sc_read_number : FnScope N_read_number ["word"] (defScope s_read_number) := ⟨rfl, rfl, rfl, by decide +kernel, rfl, by decide +kernel, by decide +kernel⟩
abbrev s_read_chapters : Stmt := topS 17
abbrev N_read_chapters : List Str := ["part", "ahead", "sign", "behind", "many"]
theorem sc_read_chapters : FnScope N_read_chapters ["part"] (defScope s_read_chapters) := ⟨rfl, rfl, rfl, by decide +kernel, rfl, by decide +kernel, by decide +kernel⟩
abbrev s_read_book : Stmt := topS 16
abbrev N_read_book : List Str := ["text", "found", "before", "part", "many", "length", "book"]
theorem sc_read_book : FnScope N_read_book ["text"] (defScope s_read_book) := ⟨rfl, rfl, rfl, by decide +kernel, rfl, by decide +kernel, by decide +kernel⟩
abbrev s__law_total : Stmt := topS 26
abbrev N__law_total : List Str := ["lengths", "wide", "found", "long"]
theorem sc__law_total : FnScope N__law_total ["lengths", "wide"] (defScope s__law_total) := ⟨rfl, rfl, rfl, by decide +kernel, rfl, by decide +kernel, by decide +kernel⟩
abbrev s__law_first : Stmt := topS 27
abbrev N__law_first : List Str := ["lengths", "most", "many", "found", "number"]
theorem sc__law_first : FnScope N__law_first ["lengths", "most", "many"] (defScope s__law_first) := ⟨rfl, rfl, rfl, by decide +kernel, rfl, by decide +kernel, by decide +kernel⟩
abbrev s__law_pairs : Stmt := topS 28
abbrev N__law_pairs : List Str := ["lengths", "most", "found", "number", "other"]
theorem sc__law_pairs : FnScope N__law_pairs ["lengths", "most"] (defScope s__law_pairs) := ⟨rfl, rfl, rfl, by decide +kernel, rfl, by decide +kernel, by decide +kernel⟩
abbrev s__law_walks_right : Stmt := topS 29
abbrev N__law_walks_right : List Str := ["source", "lengths", "most", "due", "few", "both", "number", "wide", "spot", "other"]
theorem sc__law_walks_right : FnScope N__law_walks_right ["source", "lengths"] (defScope s__law_walks_right) := ⟨rfl, rfl, rfl, by decide +kernel, rfl, by decide +kernel, by decide +kernel⟩
abbrev s_law : Stmt := topS 30
abbrev N_law : List Str := ["script", "source", "k", "lengths", "turn", "saved", "wide", "told", "at", "many", "long", "lots", "time"]
theorem sc_law : FnScope N_law ["script"] (defScope s_law) := ⟨rfl, rfl, rfl, by decide +kernel, rfl, by decide +kernel, by decide +kernel⟩
structure Ad where
  a__law_source : Addr
  d__law_source : FuncData
  a__law_draw : Addr
  d__law_draw : FuncData
  a__law_lengths : Addr
  d__law_lengths : FuncData
  a__law_wide : Addr
  d__law_wide : FuncData
  a__law_sheets : Addr
  d__law_sheets : FuncData
  a__law_same : Addr
  d__law_same : FuncData
  a_count_pages : Addr
  d_count_pages : FuncData
  a_check_book : Addr
  d_check_book : FuncData
  a_check_size : Addr
  d_check_size : FuncData
  a_check_not_negative : Addr
  d_check_not_negative : FuncData
  a_pages : Addr
  d_pages : FuncData
  a_counts : Addr
  d_counts : FuncData
  a_Unreadable___init__ : Addr
  d_Unreadable___init__ : FuncData
  a_read_number : Addr
  d_read_number : FuncData
  a_read_chapters : Addr
  d_read_chapters : FuncData
  a_read_book : Addr
  d_read_book : FuncData
  a__law_total : Addr
  d__law_total : FuncData
  a__law_first : Addr
  d__law_first : FuncData
  a__law_pairs : Addr
  d__law_pairs : FuncData
  a__law_walks_right : Addr
  d__law_walks_right : FuncData
  a_law : Addr
  d_law : FuncData
  c_Unreadable : Addr
structure Txt (K : PySem.W.Frag) (mg : Str → Option Value) (A : Ad) : Prop where
  F__law_source : Fun K "_law_source" "_law_source" s__law_source A.a__law_source A.d__law_source
  g__law_source : mg "_law_source" = some (.ref A.a__law_source)
  b__law_source : Binds K A.d__law_source ["script"] []
  F__law_draw : Fun K "_law_draw" "_law_draw" s__law_draw A.a__law_draw A.d__law_draw
  g__law_draw : mg "_law_draw" = some (.ref A.a__law_draw)
  b__law_draw : Binds K A.d__law_draw ["source", "many"] []
  F__law_lengths : Fun K "_law_lengths" "_law_lengths" s__law_lengths A.a__law_lengths A.d__law_lengths
  g__law_lengths : mg "_law_lengths" = some (.ref A.a__law_lengths)
  b__law_lengths : Binds K A.d__law_lengths ["source", "many"] []
  F__law_wide : Fun K "_law_wide" "_law_wide" s__law_wide A.a__law_wide A.d__law_wide
  g__law_wide : mg "_law_wide" = some (.ref A.a__law_wide)
  b__law_wide : Binds K A.d__law_wide ["source", "lengths"] []
  F__law_sheets : Fun K "_law_sheets" "_law_sheets" s__law_sheets A.a__law_sheets A.d__law_sheets
  g__law_sheets : mg "_law_sheets" = some (.ref A.a__law_sheets)
  b__law_sheets : Binds K A.d__law_sheets ["long", "wide"] []
  F__law_same : Fun K "_law_same" "_law_same" s__law_same A.a__law_same A.d__law_same
  g__law_same : mg "_law_same" = some (.ref A.a__law_same)
  b__law_same : Binds K A.d__law_same ["found", "wanted"] []
  F_count_pages : Fun K "count_pages" "count_pages" s_count_pages A.a_count_pages A.d_count_pages
  g_count_pages : mg "count_pages" = some (.ref A.a_count_pages)
  b_count_pages : Binds K A.d_count_pages ["book", "size"] []
  F_check_book : Fun K "check_book" "check_book" s_check_book A.a_check_book A.d_check_book
  g_check_book : mg "check_book" = some (.ref A.a_check_book)
  b_check_book : Binds K A.d_check_book ["book"] []
  F_check_size : Fun K "check_size" "check_size" s_check_size A.a_check_size A.d_check_size
  g_check_size : mg "check_size" = some (.ref A.a_check_size)
  b_check_size : Binds K A.d_check_size ["size"] []
  F_check_not_negative : Fun K "check_not_negative" "check_not_negative" s_check_not_negative A.a_check_not_negative A.d_check_not_negative
  g_check_not_negative : mg "check_not_negative" = some (.ref A.a_check_not_negative)
  b_check_not_negative : Binds K A.d_check_not_negative ["number"] []
  F_pages : Fun K "pages" "pages" s_pages A.a_pages A.d_pages
  g_pages : mg "pages" = some (.ref A.a_pages)
  b_pages : Binds K A.d_pages ["book", "size"] []
  F_counts : Fun K "counts" "counts" s_counts A.a_counts A.d_counts
  g_counts : mg "counts" = some (.ref A.a_counts)
  b_counts : Binds K A.d_counts ["book", "limit"] []
  F_Unreadable___init__ : Fun K "__init__" "Unreadable.__init__" s_Unreadable___init__ A.a_Unreadable___init__ A.d_Unreadable___init__
  b_Unreadable___init__ : Binds K A.d_Unreadable___init__ ["self", "value"] []
  F_read_number : Fun K "read_number" "read_number" s_read_number A.a_read_number A.d_read_number
  g_read_number : mg "read_number" = some (.ref A.a_read_number)
  b_read_number : Binds K A.d_read_number ["word"] []
  F_read_chapters : Fun K "read_chapters" "read_chapters" s_read_chapters A.a_read_chapters A.d_read_chapters
  g_read_chapters : mg "read_chapters" = some (.ref A.a_read_chapters)
  b_read_chapters : Binds K A.d_read_chapters ["part"] []
  F_read_book : Fun K "read_book" "read_book" s_read_book A.a_read_book A.d_read_book
  g_read_book : mg "read_book" = some (.ref A.a_read_book)
  b_read_book : Binds K A.d_read_book ["text"] []
  F__law_total : Fun K "_law_total" "_law_total" s__law_total A.a__law_total A.d__law_total
  g__law_total : mg "_law_total" = some (.ref A.a__law_total)
  b__law_total : Binds K A.d__law_total ["lengths", "wide"] []
  F__law_first : Fun K "_law_first" "_law_first" s__law_first A.a__law_first A.d__law_first
  g__law_first : mg "_law_first" = some (.ref A.a__law_first)
  b__law_first : Binds K A.d__law_first ["lengths", "most", "many"] []
  F__law_pairs : Fun K "_law_pairs" "_law_pairs" s__law_pairs A.a__law_pairs A.d__law_pairs
  g__law_pairs : mg "_law_pairs" = some (.ref A.a__law_pairs)
  b__law_pairs : Binds K A.d__law_pairs ["lengths", "most"] []
  F__law_walks_right : Fun K "_law_walks_right" "_law_walks_right" s__law_walks_right A.a__law_walks_right A.d__law_walks_right
  g__law_walks_right : mg "_law_walks_right" = some (.ref A.a__law_walks_right)
  b__law_walks_right : Binds K A.d__law_walks_right ["source", "lengths"] []
  F_law : Fun K "law" "law" s_law A.a_law A.d_law
  g_law : mg "law" = some (.ref A.a_law)
  b_law : Binds K A.d_law ["script"] []
  z_bool : mg "bool" = none
  z_enumerate : mg "enumerate" = none
  z_int : mg "int" = none
  z_isinstance : mg "isinstance" = none
  z_len : mg "len" = none
  z_list : mg "list" = none
  z_max : mg "max" = none
  z_min : mg "min" = none
  z_range : mg "range" = none
  z_repr : mg "repr" = none
  z_str : mg "str" = none
  z_sum : mg "sum" = none
  z_tuple : mg "tuple" = none
  kb_counts_0_limit_book : HS.KBX K A.d_counts ["book", "limit"] 0 ["limit", "book"] (fun us ws => [ws.getD 1 .none, ws.getD 0 .none]) (fun vs zs => [zs.getD 1 .non, zs.getD 0 .non])
  kb_pages_0_size_book : HS.KBX K A.d_pages ["book", "size"] 0 ["size", "book"] (fun us ws => [ws.getD 1 .none, ws.getD 0 .none]) (fun vs zs => [zs.getD 1 .non, zs.getD 0 .non])
  m_Unreadable : mg "Unreadable" = some (.ref A.c_Unreadable)
  v_MOST_DIGITS : ∃ t : PySem.Tok, mg "MOST_DIGITS" = some (.int 40 t)
  C_Unreadable : OexC K A.c_Unreadable
  V_Unreadable : ExcC K A.c_Unreadable
  X_Unreadable : XfC K A.c_Unreadable
  n_Unreadable : PySem.W.findIn K (.ref A.c_Unreadable) "value" = some none
  i_Unreadable : PySem.W.findIn K (.ref A.c_Unreadable) "__init__" = some (some (.ref A.a_Unreadable___init__))
  t_Unreadable : PySem.W.typeIn K (.ref A.a_Unreadable___init__) = some (.type "function")
  k_Unreadable : KBn K A.d_Unreadable___init__ ["self", "value"] 1 ["value"] (fun us ws => us ++ ws) (fun vs zs => vs ++ zs)
  q_Unreadable_Unreadable : PySem.W.kitOne K (.ref A.c_Unreadable) (.ref A.c_Unreadable) = some true
  q_Unreadable_ValueError : PySem.W.kitOne K (.ref A.c_Unreadable) (.type "ValueError") = some true
/-- the inner walk of _law_pairs: j pairs stand in D -/
def PairW (ls : List Int) (m : Int) (H2 : Hp) (c : Int) (D : Addr) (j : Nat) (H' : Hp) : Prop :=
  j ≤ m.toNat ∧ H2 D = none ∧ HS.Keep (fun _ => False) H2 H' ∧ ∃ ws, H' D = some (.lst ws) ∧ ws.length = j ∧ HS.Prs H' ws ((List.range j).map fun (j : Nat) => (c, pcount ls ((j : Int) + 1)))
theorem PairW.step {ls : List Int} {m : Int} {H2 Hv H3 : Hp} {c : Int} {D : Addr} {j : Nat} (hj : j ≤ m.toNat) (K4 : HS.Keep (fun _ => False) Hv H3) (d0 : j = 0 → Hv = H2 ∧ H2 D = none) (d1 : 1 ≤ j → PairW ls m H2 c D j Hv) : PairW ls m H2 c D j (HS.lifted (fun H => upd H D (.lst [])) j H3) := by
  refine HS.lift_cases (P := PairW ls m H2 c D j) (fun z => ?_) fun z => ?_
  · obtain ⟨rfl, hD⟩ := d0 z
    subst z
    exact ⟨hj, hD, K4.put hD, [], upd_same, rfl, trivial⟩
  · obtain ⟨z1, z2, z3, ws, z4, z5, z6⟩ := d1 z
    exact ⟨z1, z2, z3.trans K4, ws, K4 _ _ z4 id, z5, z6.same K4⟩
/-- the first counts -/
def cnt (ls : List Int) (i : Nat) : List Int := (List.range i).map fun (j : Nat) => pcount ls ((j : Int) + 1)
theorem cnt_succ (ls : List Int) (i : Nat) : cnt ls (i + 1) = cnt ls i ++ [pcount ls ((i : Int) + 1)] := by
  unfold cnt
  rw [List.range_succ, List.map_append]; rfl
theorem cnt_map (ls : List Int) (i : Nat) : ((List.range i).map fun (j : Nat) => V.int (pcount ls ((j : Int) + 1))) = (cnt ls i).map V.int := by
  unfold cnt
  rw [List.map_map]; rfl
theorem cnt_len (ls : List Int) (i : Nat) : (cnt ls i).length = i := by unfold cnt; simp
theorem cnt_take (ls : List Int) (q : Nat) : (cnt ls q).take 3 = cnt ls (min 3 q) := by
  unfold cnt
  rw [← List.map_take, List.take_range]
theorem cnt_get {ls : List Int} {r i : Nat} {z : Int} (h : (cnt ls r)[i]? = some z) : z = pcount ls ((i : Int) + 1) := by
  unfold cnt at h
  rw [List.getElem?_map] at h
  cases e : (List.range r)[i]? with
  | none => rw [e] at h; cases h
  | some j =>
    rw [e] at h
    obtain ⟨hj, e2⟩ := List.getElem?_eq_some_iff.mp e
    rw [List.getElem_range] at e2
    subst e2
    exact (Option.some.inj h).symm
open L2 in
theorem set_at {p : Addr} {H : Hp} {ns : List Int} {k z : Int} {q : Hp → Prop} (h : H p = some (.lst (ns.map V.int))) (h0 : 0 ≤ k) (h1 : k < ns.length) (g : q (upd H p (.lst ((ns.set k.toNat z).map V.int)))) : rSetL (.ref p) (.int k) (.int z) H q := by
  refine HS.setL h (j := k.toNat) (by rw [List.length_map]; unfold ixN; rw [if_pos h0, if_pos (by omega)]) ?_
  rw [← List.map_set]; exact g

section
variable {P : Program} {w : World} {K : PySem.W.Frag} {mg : Str → Option Value} {base : Heap} {A : Ad}
def sp__law_source (K : PySem.W.Frag) : Sp := fun vs H Q _ => ∃ (a : Addr) (ns : List Int), vs = [.ref a] ∧ (SqL K H a (ns.map V.int) ∧ ns.length ≤ 63 ∧ ∀ H' s d, HS.Keep (fun _ => False) H H' → H s = none → H d = none → Src H' s d 0 → Q (.ref s) H')
theorem ok__law_source (T : Txt K mg A) : FnOk P w K mg base CX0 1 A.a__law_source A.d__law_source ["script"] (sp__law_source K) := by
  refine T.F__law_source.ok sc__law_source (fun vs H Q E h => ?_) (fun cdv A0 outer s H vs Q E hr h => ?_)
  · obtain ⟨a, ns, rfl, hw⟩ := h
    rfl
  · obtain ⟨a, ns, rfl, hw⟩ := h
    refine ⟨_, (pss_cons (ps_set (i := 1) sc__law_source.nd rfl (.inl rfl) pe_int)
    (pss_cons (ps_set (i := 2) sc__law_source.nd rfl (.inl rfl) (pe_lst pa_nil))
    (pss_cons (ps_for PassesOwn.never rfl (HS.kil K (pi_list (pv 0))) (pg_name (i := 3) sc__law_source.nd rfl (.inl rfl))
      (pss_cons (ps_set (i := 1) sc__law_source.nd rfl (.inl rfl) (pe_op op_mod (pe_op op_add (pe_op op_mul (pv 1) pe_int) (pv 3)) (HS.pe_fold (2305843009213693951) (pe_op op_sub (pe_op op_pow pe_int pe_int) pe_int) (by intro σ H Q q; walk_at "fold"))))
    (pss_cons (ps_set (i := 4) sc__law_source.nd rfl (.inl rfl) (pe_callB (call_max2 rfl) (by rfl) T.z_max (by decide +kernel) (pa_cons (pv 3) (pa_cons (pe_op op_sub pe_int (pv 3)) pa_nil))))
    (pss_one (ps_if (pt_cmpR op_ge (pv 4) (HS.pe_fold (1000000000000000000) (pe_op op_pow pe_int pe_int) (by intro σ H Q q; walk_at "fold")) (nomark _))
      (pss_one (ps_expr (HS.kbm K (pe_bm PySem.F.plainAttrs_list PySem.F.slot_list_append PySem.F.type_list_append mt_append (pv 2) (pa_cons (pe_op op_sub (pv 4) (HS.pe_fold (1000000000000000000) (pe_op op_pow pe_int pe_int) (by intro σ H Q q; walk_at "fold"))) pa_nil)))))
      pss_nil)))))
    (pss_one (ps_ret (pe_lst (pa_cons (pv 2) (pa_cons pe_int (pa_cons (pv 1) (pa_cons pe_int pa_nil)))))))))), ?_⟩
    obtain ⟨hS, hl, k⟩ := hw
    walk_at "hs"
    intro d hd
    walk_at "hs"
    refine ⟨⟨_, HS.Keep.sq (S := fun _ => False) (HS.Keep.new hd) hS id⟩, for_list (xs := ns.map V.int) (fun i σ H1 => HS.Keep (fun _ => False) H H1 ∧ ∃ (gs : List Int) (m : Int) (x3 x4 : Option V), σ = [some (.ref a), some (.int m), some (.ref d), x3, x4] ∧ H1 d = some (.lst (gs.map V.int)) ∧ (∀ x ∈ gs, 0 ≤ x) ∧ gs.length ≤ i ∧ 0 ≤ m ∧ m < 2 ^ 61) ?_ ?_ ?_ ?_⟩
    · exact ⟨.new hd, [], _, _, _, rfl, upd_same, by simp, Nat.le_refl _, by decide, by decide⟩
    · rintro i σ H1 _ ⟨K1, _⟩
      exact K1.sq hS id
    · rintro i x σ H1 hi ⟨K1, gs, m, x3, x4, rfl, hgd, hg0, hgl, hm0, hm1⟩
      obtain ⟨z, rfl, _, hil⟩ := HS.get_int hi
      walk_at "hs"
      have b0 : 0 ≤ (m * 1000033 + z) % 2305843009213693951 := Int.emod_nonneg _ (by decide)
      have b1 : (m * 1000033 + z) % 2305843009213693951 < 2 ^ 61 := Int.lt_trans (Int.emod_lt_of_pos _ (by decide)) (by decide)
      generalize hz : (if 0 - z > z then 0 - z else z) = y
      refine HS.itd (fun hy => ?_) (fun hy => ?_)
      · walk_at "hs"
        refine ⟨K1.put hd, gs ++ [y - 1000000000000000000], _, _, _, rfl, ?_, ?_, by simp; omega, b0, b1⟩
        · rw [upd_same, List.map_append]; rfl
        · intro x hx
          rcases List.mem_append.mp hx with hx | hx
          · exact hg0 x hx
          · rw [List.mem_singleton] at hx; omega
      · walk_at "hs"
        exact ⟨K1, gs, _, _, _, rfl, hgd, hg0, by omega, b0, b1⟩
    · rintro σ H1 ⟨K1, gs, m, x3, x4, rfl, hgd, hg0, hgl, hm0, hm1⟩
      walk_at "hs"
      intro s hs
      rw [List.length_map] at hgl
      refine k _ s d (K1.trans (.new hs)) (K1.free hs id) hd ⟨(ne_of_none hgd hs).symm, gs, 0, m, 0, upd_same, by walk_at "hp", hg0, by omega, by decide, hm0, hm1, by decide, by decide⟩
def sp__law_draw (K : PySem.W.Frag) : Sp := fun vs H Q _ => ∃ (s d : Addr) (many : Int) (n : Nat), vs = [.ref s, .int many] ∧ (Src H s d n ∧ 0 < many ∧ many < 2 ^ 200 ∧ n < 2 ^ 40 ∧ ∀ H' v, HS.Keep (fun a => a = s ∨ a = d) H H' → Src H' s d (n + 1) → 0 ≤ v → v < many → Q (.int v) H')
theorem ok__law_draw (T : Txt K mg A) : FnOk P w K mg base CX0 1 A.a__law_draw A.d__law_draw ["source", "many"] (sp__law_draw K) := by
  refine T.F__law_draw.ok sc__law_draw (fun vs H Q E h => ?_) (fun cdv A0 outer s H vs Q E hr h => ?_)
  · obtain ⟨s, d, many, n, rfl, hw⟩ := h
    rfl
  · obtain ⟨s, d, many, n, rfl, hw⟩ := h
    refine ⟨_, (Evl.pss_cut (ps_while PassesOwn.never (PW.pt (pw_and (pt_cmpR op_lt (pe_ix (HS.ixl K) (pv 0) pe_int (fun _ _ => rfl)) pe_int (nomark _)) (pw_and1 (pt_cmpR (HS.kne K (hu64 hr)) (pe_ix (HS.ixl K) (pv 0) pe_int (fun _ _ => rfl)) (pe_lst pa_nil) (nomark _)))))
      (pss_one (ps_asg (HS.kbm K (pe_bm PySem.F.plainAttrs_list PySem.F.slot_list_pop PySem.F.type_list_pop mt_popAt (pe_ix (HS.ixl K) (pv 0) pe_int (fun _ _ => rfl)) (pa_cons pe_int pa_nil))) (pg_sub (pv 0) pe_int set_list))))
    (pss_cons (ps_if (pt_cmpR op_ge (pe_ix (HS.ixl K) (pv 0) pe_int (fun _ _ => rfl)) pe_int (nomark _))
      (pss_cons (ps_set (i := 2) sc__law_draw.nd rfl (.inl rfl) (pe_op op_mod (pe_ix (HS.ixl K) (pv 0) pe_int (fun _ _ => rfl)) (pv 1)))
    (pss_cons (ps_asg (pe_op op_fdivW (pe_ix (HS.ixl K) (pv 0) pe_int (fun _ _ => rfl)) (pv 1)) (pg_sub (pv 0) pe_int set_list))
    (pss_one (ps_ret (pv 2)))))
      pss_nil)
    (pss_cons (ps_asg (pe_op op_add (pe_ix (HS.ixl K) (pv 0) pe_int (fun _ _ => rfl)) pe_int) (pg_sub (pv 0) pe_int set_list))
    (pss_cons (ps_set (i := 3) sc__law_draw.nd rfl (.inl rfl) (pe_op op_mulW (pe_op op_add (pe_ix (HS.ixl K) (pv 0) pe_int (fun _ _ => rfl)) pe_int) (pe_op op_pow (pe_op op_add (pe_ix (HS.ixl K) (pv 0) pe_int (fun _ _ => rfl)) pe_int) pe_int)))
    (pss_cons (ps_set (i := 3) sc__law_draw.nd rfl (.inl rfl) (pe_op op_mod (pe_op op_add (pv 3) (pe_op op_mul pe_int (pe_ix (HS.ixl K) (pv 0) pe_int (fun _ _ => rfl)))) (HS.pe_fold (2305843009213693951) (pe_op op_sub (pe_op op_pow pe_int pe_int) pe_int) (by intro σ H Q q; walk_at "fold"))))
    (pss_one (ps_ret (pe_op op_mod (pe_op op_fdivW (pe_op op_mod (pe_op op_pow (pv 3) pe_int) (HS.pe_fold (1000000000000000009) (pe_op op_add (pe_op op_pow pe_int pe_int) pe_int) (by intro σ H Q q; walk_at "fold"))) pe_int) (pv 1))))))))), ?_⟩
    obtain ⟨S0, hm0, hm1, hn, k⟩ := hw
    obtain ⟨hsd, gs0, l0, m0, c0, hs0, hd0, hg0, hgl0, hl0, hm00, hm01, hc0, hc1⟩ := S0
    refine HS.cut (fun σ H1 => σ = [some (.ref s), some (.int many), none, none] ∧ HS.Keep (fun a => a = s ∨ a = d) H H1 ∧ ∃ (gs : List Int) (l : Int), H1 s = some (.lst [.ref d, .int l, .int m0, .int c0]) ∧ H1 d = some (.lst (gs.map V.int)) ∧ (∀ x ∈ gs, 0 ≤ x) ∧ gs.length ≤ 63 ∧ 0 ≤ l) ?_ ?_
    · refine ⟨fun j σ H1 => σ = [some (.ref s), some (.int many), none, none] ∧ HS.Keep (fun a => a = s ∨ a = d) H H1 ∧ ∃ (gs : List Int) (l : Int), gs.length = j ∧ H1 s = some (.lst [.ref d, .int l, .int m0, .int c0]) ∧ H1 d = some (.lst (gs.map V.int)) ∧ (∀ x ∈ gs, 0 ≤ x) ∧ gs.length ≤ 63 ∧ 0 ≤ l, ⟨_, rfl, .refl, gs0, l0, rfl, hs0, hd0, hg0, hgl0, hl0⟩, ?_⟩
      rintro j σ H1 ⟨rfl, K1, gs, l, rfl, hs1, hd1, hg1, hgl1, hl1⟩
      walk_at "hs"
      refine HS.itd (fun hl => ?_) (fun hl => ?_)
      · walk_at "hs"
        intro p hp
        refine HS.neL (ys := []) (HS.sq (by walk_at "hp")) (HS.sq upd_same) ?_
        walk_at "hs"
        refine HS.itn (fun hgs => ?_) (fun hgs => ?_)
        · cases gs with
          | nil => exact absurd rfl hgs
          | cons y ys =>
            refine ⟨fun σ' H' => σ' = [some (.ref s), some (.int many), none, none] ∧ HS.Keep (fun a => a = s ∨ a = d) H H' ∧ ∃ (l : Int), H' s = some (.lst [.ref d, .int l, .int m0, .int c0]) ∧ H' d = some (.lst (ys.map V.int)) ∧ 0 ≤ l, fun σ' H' ⟨e, K', l', h1, h2, h3⟩ => ⟨ys.length, Nat.lt_succ_self _, e, K', ys, l', rfl, h1, h2, fun x hx => hg1 x (List.mem_cons_of_mem _ hx), Nat.le_of_succ_le hgl1, h3⟩, ?_⟩
            walk_at "hs"
            refine HS.pop0 (y := .int y) (ys := ys.map V.int) (by walk_at "hp") ?_
            walk_at "hs"
            exact ⟨rfl, by walk_at "kp", y, by walk_at "hp", by walk_at "hp", hg1 y List.mem_cons_self⟩
        · walk_at "hs"
          exact ⟨rfl, by walk_at "kp", gs, l, by walk_at "hp", by walk_at "hp", hg1, hgl1, hl1⟩
      · walk_at "hs"
        exact ⟨rfl, K1, gs, l, hs1, hd1, hg1, hgl1, hl1⟩
    · rintro σ H1 ⟨rfl, K1, gs, l, hs1, hd1, hg1, hgl1, hl1⟩
      walk_at "hs"
      refine HS.itd (fun hl => ?_) (fun hl => ?_)
      · walk_at "hs"
        refine ⟨HS.divW 200 hm0 hm1 (by decide) (by decide), ?_⟩
        walk_at "hs"
        exact k _ _ (by walk_at "kp") ⟨hsd, gs, l / many, m0, c0, upd_same, by walk_at "hp", hg1, hgl1, Int.ediv_nonneg hl1 (by omega), hm00, hm01, hc0, by omega⟩ (Int.emod_nonneg _ (by omega)) (Int.emod_lt_of_pos _ hm0)
      · walk_at "hs"
        obtain ⟨p0, p1⟩ := HS.pow_lt (i := c0 + 1 + 3) (a := 50) 3 (by omega) (by omega)
        have p2 : (c0 + 1 + 3) ^ Int.toNat 3 < 2 ^ 150 := by
          rcases p1 with h | h
          · exact h
          · exact absurd h (by decide)
        have p0' : 0 ≤ (c0 + 1 + 3) ^ Int.toNat 3 := p0
        generalize (c0 + 1 + 3) ^ Int.toNat 3 = cu at p2 p0' ⊢
        refine ⟨HS.mulW 62 150 (by omega) (by omega) p0' p2 (by decide) (by decide) (by decide), ?_⟩
        walk_at "hs"
        exact k _ _ (by walk_at "kp") ⟨hsd, gs, l, m0, c0 + 1, upd_same, by walk_at "hp", hg1, hgl1, hl1, hm00, hm01, by omega, by omega⟩ (Int.emod_nonneg _ (by omega)) (Int.emod_lt_of_pos _ hm0)
def sp__law_lengths (K : PySem.W.Frag) : Sp := fun vs H Q _ => ∃ (s d : Addr) (many : Int) (n : Nat), vs = [.ref s, .int many] ∧ (Src H s d n ∧ 0 ≤ many ∧ many ≤ 1000 ∧ n < 2 ^ 39 ∧ ∀ H' p (ls : List Int), HS.Keep (fun a => a = s ∨ a = d) H H' → H p = none → H' p = some (.lst (ls.map V.int)) → ls.length ≤ many → Book ls → Src H' s d (n + 2 + 2 * ls.length) → Q (.ref p) H')
theorem ok__law_lengths (T : Txt K mg A) : FnOk P w K mg base CX0 2 A.a__law_lengths A.d__law_lengths ["source", "many"] (sp__law_lengths K) := by
  have G__law_draw : FnOk P w K mg base CX0 1 A.a__law_draw A.d__law_draw ["source", "many"] (sp__law_draw K) := ok__law_draw T
  refine T.F__law_lengths.ok sc__law_lengths (fun vs H Q E h => ?_) (fun cdv A0 outer s H vs Q E hr h => ?_)
  · obtain ⟨s, d, many, n, rfl, hw⟩ := h
    rfl
  · obtain ⟨s, d, many, n, rfl, hw⟩ := h
    refine ⟨_, (pss_cons (ps_set (i := 2) sc__law_lengths.nd rfl (.inr rfl) (pe_ix (HS.ixl K) (pe_lst (pa_cons pe_int (pa_cons pe_int (pa_cons pe_int (pa_cons pe_int (pa_cons (HS.pe_fold (999999999999999999999999999999) (pe_op op_sub (pe_op op_pow pe_int pe_int) pe_int) (by intro σ H Q q; walk_at "fold")) pa_nil)))))) (pe_call G__law_draw hr (by rfl) T.g__law_draw T.F__law_draw.kp T.b__law_draw .nil pass0 (pa_cons (pv 0) (pa_cons pe_int pa_nil))) (fun _ _ => rfl)))
    (pss_one (ps_ret (pe_lc (own := [("part", 3)]) (g := gName 3) (tt := tYes) rfl sc__law_lengths.nd (pi_range1 (by rfl) T.z_range (pa_cons (pe_call G__law_draw hr (by rfl) T.g__law_draw T.F__law_draw.kp T.b__law_draw .nil pass0 (pa_cons (pv 0) (pa_cons (pe_op op_add (pv 1) pe_int) pa_nil))) pa_nil)) (blkOk_by (own := [("part", 3)]) (N := N__law_lengths) (sc := defScope s__law_lengths) (by decide +kernel)) (fun _ _ _ _ _ => pg_name (i := 3) sc__law_lengths.nd rfl (by first | exact .inl rfl | exact .inr rfl)) (fun _ _ _ _ _ => pts_nil) (fun _ _ _ _ _ => (pe_op op_add pe_int (pe_call G__law_draw hr (by rfl) T.g__law_draw T.F__law_draw.kp T.b__law_draw .nil pass0 (pa_cons (pv 0) (pa_cons (pe_ix (HS.ixl K) (pe_lst (pa_cons (pv 2) (pa_cons (pv 2) (pa_cons pe_int pa_nil)))) (pe_call G__law_draw hr (by rfl) T.g__law_draw T.F__law_draw.kp T.b__law_draw .nil pass0 (pa_cons (pv 0) (pa_cons pe_int pa_nil))) (fun _ _ => rfl)) pa_nil))))))))), ?_⟩
    obtain ⟨S0, hm0, hm1, hn, k⟩ := hw
    walk_at "hs"
    intro p1 hp1
    have e1 := S0.ne1 hp1
    have e2 := S0.ne2 hp1
    walk_at "hs"
    refine ⟨s, d, 5, n, rfl, S0.new hp1, by decide, by decide, by omega, fun H2 v K2 S2 v0 v1 => ?_⟩
    refine HS.ixI [1, 3, 9, 300, 999999999999999999999999999999] (K2.sq (HS.sq upd_same) (by walk_at "ns")) v0 v1 fun wd _ hw => ?_
    have hwd : 1 ≤ wd ∧ wd < 10 ^ 30 := by
      simp only [List.mem_cons, List.not_mem_nil, or_false] at hw
      omega
    have K2' : HS.Keep (fun a => a = s ∨ a = d) H H2 := HS.Keep.trans (HS.Keep.new hp1) K2
    walk_at "hs"
    refine ⟨s, d, many + 1, n + 1, rfl, S2, by omega, by omega, by omega, fun H3 cnt K3 S3 c0 c1 => ?_⟩
    walk_at "hs"
    refine ⟨by omega, by omega, fun D hD => ?_⟩
    have e3 := S3.ne1 hD
    have e4 := S3.ne2 hD
    have hD0 : H D = none := (K2'.trans K3).free hD (by walk_at "ns")
    refine lc_range (lo := 0) (n := cnt.toNat) (fun i H' => HS.Keep (fun a => a = s ∨ a = d) H H' ∧ ∃ ls : List Int, H' D = some (.lst (ls.map V.int)) ∧ ls.length = i ∧ Book ls ∧ Src H' s d (n + 2 + 2 * i)) ?_ ?_ ?_
    · exact ⟨(K2'.trans K3).put hD0, [], upd_same, rfl, fun x hx => absurd hx List.not_mem_nil, S3.new hD⟩
    · rintro i H4 hi ⟨K4, ls, hl, hll, hb, S4⟩
      walk_at "hs"
      intro p2 hp2
      have e5 := S4.ne1 hp2
      have e6 := S4.ne2 hp2
      walk_at "hs"
      refine ⟨s, d, 3, _, rfl, S4.new hp2, by decide, by decide, by omega, fun H5 v K5 S5 v0 v1 => ?_⟩
      refine HS.ixI [wd, wd, 4] (K5.sq (HS.sq upd_same) (by walk_at "ns")) v0 v1 fun wx _ hw => ?_
      have hwx : 1 ≤ wx ∧ wx < 10 ^ 30 := by
        simp only [List.mem_cons, List.not_mem_nil, or_false] at hw
        omega
      walk_at "hs"
      refine ⟨s, d, wx, _, rfl, S5, by omega, by omega, by omega, fun H6 u K6 S6 u0 u1 => ?_⟩
      walk_at "hs"
      have K46 : HS.Keep (fun a => a = s ∨ a = d) H4 H6 := (HS.Keep.new hp2).trans (K5.trans K6)
      have hl6 := K46 _ _ hl (by walk_at "ns")
      refine ⟨_, hl6, HS.sz (by walk_at "len"), (K4.trans K46).put hD0, ls ++ [1 + u], by rw [upd_same, List.map_append]; rfl, by walk_at "len", ?_, (S6.put e3 e4).up (by omega)⟩
      intro x hx
      rcases List.mem_append.mp hx with hx | hx
      · exact hb x hx
      · rw [List.mem_singleton] at hx; omega
    · rintro H4 ⟨K4, ls, hl, hll, hb, S4⟩
      refine k _ _ _ K4 hD0 hl (by omega) hb (S4.up (by omega))
def sp__law_wide (K : PySem.W.Frag) : Sp := fun vs H Q _ => ∃ (s d b : Addr) (ls : List Int) (n : Nat), vs = [.ref s, .ref b] ∧ (Src H s d n ∧ SqL K H b (ls.map V.int) ∧ b ≠ s ∧ b ≠ d ∧ ls.length ≤ 1000 ∧ Book ls ∧ n < 2 ^ 39 ∧ ∀ H' v, HS.Keep (fun a => a = s ∨ a = d) H H' → Src H' s d (n + 6) → 1 ≤ v → v < 10 ^ 30 → Q (.int v) H')
theorem ok__law_wide (T : Txt K mg A) : FnOk P w K mg base CX0 2 A.a__law_wide A.d__law_wide ["source", "lengths"] (sp__law_wide K) := by
  have G__law_draw : FnOk P w K mg base CX0 1 A.a__law_draw A.d__law_draw ["source", "many"] (sp__law_draw K) := ok__law_draw T
  refine T.F__law_wide.ok sc__law_wide (fun vs H Q E h => ?_) (fun cdv A0 outer s H vs Q E hr h => ?_)
  · obtain ⟨s, d, b, ls, n, rfl, hw⟩ := h
    rfl
  · obtain ⟨s, d, b, ls, n, rfl, hw⟩ := h
    refine ⟨_, (pss_cons (ps_set (i := 2) sc__law_wide.nd rfl (.inl rfl) (pe_ifExp (pt_cmpR (HS.kne K (hu64 hr)) (pv 1) (pe_lst pa_nil) (nomark _)) (pe_ix (HS.ixl K) (pv 1) (pe_call G__law_draw hr (by rfl) T.g__law_draw T.F__law_draw.kp T.b__law_draw .nil pass0 (pa_cons (pv 0) (pa_cons (pe_callB (HS.klen K) (by rfl) T.z_len PySem.boot_len (pa_cons (pv 1) pa_nil)) pa_nil))) (fun _ _ => rfl)) pe_int))
    (pss_cons (ps_set (i := 3) sc__law_wide.nd rfl (.inl rfl) (pe_lst (pa_cons (pe_op op_add pe_int (pe_call G__law_draw hr (by rfl) T.g__law_draw T.F__law_draw.kp T.b__law_draw .nil pass0 (pa_cons (pv 0) (pa_cons pe_int pa_nil)))) (pa_cons (pe_op op_sub (pe_op op_add (pv 2) (pe_call G__law_draw hr (by rfl) T.g__law_draw T.F__law_draw.kp T.b__law_draw .nil pass0 (pa_cons (pv 0) (pa_cons pe_int pa_nil)))) pe_int) (pa_cons (pe_op op_add (pe_op op_fdivW (pv 2) (pe_op op_add pe_int (pe_call G__law_draw hr (by rfl) T.g__law_draw T.F__law_draw.kp T.b__law_draw .nil pass0 (pa_cons (pv 0) (pa_cons pe_int pa_nil))))) pe_int) pa_nil)))))
    (pss_one (ps_ret (pe_callB (call_max2 rfl) (by rfl) T.z_max (by decide +kernel) (pa_cons pe_int (pa_cons (pe_callB (call_min2 rfl) (by rfl) T.z_min (by decide +kernel) (pa_cons (HS.pe_fold (999999999999999999999999999999) (pe_op op_sub (pe_op op_pow pe_int pe_int) pe_int) (by intro σ H Q q; walk_at "fold")) (pa_cons (pe_ix (HS.ixl K) (pe_op op_cat (pv 3) (pe_lst (pa_cons (pe_op op_add pe_int (pe_call G__law_draw hr (by rfl) T.g__law_draw T.F__law_draw.kp T.b__law_draw .nil pass0 (pa_cons (pv 0) (pa_cons (HS.pe_fold (999999999999999999999999999999) (pe_op op_sub (pe_op op_pow pe_int pe_int) pe_int) (by intro σ H Q q; walk_at "fold")) pa_nil)))) pa_nil))) (pe_call G__law_draw hr (by rfl) T.g__law_draw T.F__law_draw.kp T.b__law_draw .nil pass0 (pa_cons (pv 0) (pa_cons pe_int pa_nil))) (fun _ _ => rfl)) pa_nil))) pa_nil))))))), ?_⟩
    obtain ⟨S0, hb, bs, bd, hbl, hB, hn, k⟩ := hw
    walk_at "hs"
    intro p1 hp1
    have e1 := S0.ne1 hp1
    have e2 := S0.ne2 hp1
    refine HS.neL (ys := []) (HS.Keep.sq (S := fun a => a = s ∨ a = d) (HS.Keep.new hp1) hb (by walk_at "ns")) (HS.sq upd_same) ?_
    walk_at "hs"
    refine HS.iteM (fun v H' => ∃ one, v = .int one ∧ HS.Keep (fun a => a = s ∨ a = d) H H' ∧ Src H' s d (n + 1) ∧ 1 ≤ one ∧ one < 10 ^ 30) (fun hc Q' k' => ?_) (fun hc Q' k' => ?_) ?_
    · have hne : ls ≠ [] := fun z => by rw [z] at hc; exact absurd hc (by decide)
      have hpos : 0 < ls.length := List.length_pos_iff.mpr hne
      have hb' : SqL K (upd H p1 (.lst [])) b (ls.map V.int) := HS.Keep.sq (S := fun a => a = s ∨ a = d) (HS.Keep.new hp1) hb (by walk_at "ns")
      walk_at "hs"
      refine ⟨s, d, _, n, rfl, S0.new hp1, by rw [List.length_map]; omega, by rw [List.length_map]; omega, by omega, fun H2 v K2 S2 v0 v1 => ?_⟩
      rw [List.length_map] at v1
      refine HS.ixI ls (K2.sq hb' (by walk_at "ns")) v0 v1 fun z _ hz => ?_
      exact k' _ _ ⟨z, rfl, HS.Keep.trans (HS.Keep.new hp1) K2, S2, hB z hz⟩
    · exact k' _ _ ⟨7, rfl, HS.Keep.new hp1, (S0.new hp1).up (by omega), by decide, by decide⟩
    · rintro v H2 ⟨one, rfl, K2, S2, o0, o1⟩
      walk_at "hs"
      refine ⟨s, d, _, _, rfl, S2, by decide, by decide, by omega, fun H3 v3 K3 S3 v30 v31 => ?_⟩
      walk_at "hs"
      refine ⟨s, d, _, _, rfl, S3, by decide, by decide, by omega, fun H4 v4 K4 S4 v40 v41 => ?_⟩
      walk_at "hs"
      refine ⟨s, d, _, _, rfl, S4, by decide, by decide, by omega, fun H5 v5 K5 S5 v50 v51 => ?_⟩
      walk_at "hs"
      refine ⟨HS.divW 200 (by omega) (by omega) (by decide) (by decide), ?_⟩
      walk_at "hs"
      intro p2 hp2
      have e3 := S5.ne1 hp2
      have e4 := S5.ne2 hp2
      walk_at "hs"
      refine ⟨s, d, _, _, rfl, S5.new hp2, by decide, by decide, by omega, fun H6 v6 K6 S6 v60 v61 => ?_⟩
      have hp26 := K6 _ _ (upd_same (H := H5) (a := p2)) (by walk_at "ns")
      walk_at "hs"
      intro p3 hp3
      have e5 := S6.ne1 hp3
      have e6 := S6.ne2 hp3
      walk_at "hs"
      intro p4 hp4
      have S7 := (S6.new (o := .lst [.int (1 + v6)]) hp3)
      have e7 := S7.ne1 hp4
      have e8 := S7.ne2 hp4
      walk_at "hs"
      refine ⟨s, d, _, _, rfl, S7.new hp4, by decide, by decide, by omega, fun H8 v8 K8 S8 v80 v81 => ?_⟩
      have hp48 := K8 _ _ upd_same (show ¬ (p4 = s ∨ p4 = d) by walk_at "ns")
      refine HS.ixI [1 + v3, one + v4 - 1, one / (1 + v5) + 1, 1 + v6] (HS.sq hp48) v80 v81 fun z _ _ => ?_
      walk_at "hs"
      have KK : HS.Keep (fun a => a = s ∨ a = d) H H8 := K2.trans (K3.trans (K4.trans (K5.trans ((HS.Keep.new hp2).trans (K6.trans ((HS.Keep.new hp3).trans ((HS.Keep.new hp4).trans K8)))))))
      refine k _ _ KK (S8.up (by omega)) ?_ ?_
      · split <;> omega
      · split <;> split at * <;> omega
def sp__law_sheets (K : PySem.W.Frag) : Sp := fun vs H Q _ => ∃ (i j : Int), vs = [.int i, .int j] ∧ (1 ≤ j ∧ j < 2 ^ 200 ∧ Q (.int ((i + j - 1) / j)) H)
theorem ok__law_sheets (T : Txt K mg A) : FnOk P w K mg base CX0 1 A.a__law_sheets A.d__law_sheets ["long", "wide"] (sp__law_sheets K) := by
  refine T.F__law_sheets.ok sc__law_sheets (fun vs H Q E h => ?_) (fun cdv A0 outer s H vs Q E hr h => ?_)
  · obtain ⟨i, j, rfl, hw⟩ := h
    rfl
  · obtain ⟨i, j, rfl, hw⟩ := h
    refine ⟨_, (pss_one (ps_ret (pe_op op_add (pe_op op_fdivW (pv 0) (pv 1)) (pe_callTy call_int1 (by rfl) T.z_int (by decide +kernel) (pa_cons (pe_cmpR op_gt (pe_op op_mod (pv 0) (pv 1)) pe_int (nomark _)) pa_nil))))), ?_⟩
    obtain ⟨h2, h3, k⟩ := hw
    walk_at "hs"
    refine ⟨HS.divW 200 (by omega) h3 (by decide) (by decide), ?_⟩
    walk_at "hs"
    refine .inr ⟨_, rfl, ?_⟩
    walk_at "hs"
    simp only [decide_eq_true_eq]
    rw [← HS.ceil_eq h2]
    exact k
def sp__law_same : Nat → PySem.W.Frag → Sp
  | 0, _ => fun _ _ _ _ => False
  | n + 1, K => fun vs H Q _ => ∃ (x y : V), vs = [x, y] ∧ (HS.SmV K H n x y ∧ ∀ H', HS.Keep (fun _ => False) H H' → Q (.bl true) H')
theorem ok__law_same (T : Txt K mg A) (n : Nat) : FnOk P w K mg base CX0 (n + 1) A.a__law_same A.d__law_same ["found", "wanted"] (sp__law_same n K) := by
  induction n with
  | zero => exact T.F__law_same.ok sc__law_same (fun _ _ _ _ h => h.elim) (fun _ _ _ _ _ _ _ _ _ h => h.elim)
  | succ n G__law_same =>
  refine T.F__law_same.ok sc__law_same (fun vs H Q E h => ?_) (fun cdv A0 outer s H vs Q E hr h => ?_)
  · obtain ⟨x, y, rfl, hw⟩ := h
    rfl
  · obtain ⟨x, y, rfl, hw⟩ := h
    refine ⟨_, (pss_cons (ps_if (pt_cmpR op_isN (pv 1) pe_non (nomark _))
      (pss_one (ps_ret (pe_cmpR op_isN (pv 0) pe_non (nomark _))))
      pss_nil)
    (pss_cons (ps_if (pt_val (pe_callB (HS.kisi K) (by rfl) T.z_isinstance (by decide +kernel) (pa_cons (pv 1) (pa_cons (pe_bltn (v := .ty "bool") (by rfl) T.z_bool (by decide +kernel) rfl) pa_nil))))
      (pss_one (ps_ret (pe_and (pe_callB (HS.kisi K) (by rfl) T.z_isinstance (by decide +kernel) (pa_cons (pv 0) (pa_cons (pe_bltn (v := .ty "bool") (by rfl) T.z_bool (by decide +kernel) rfl) pa_nil))) (pe_one (pe_cmpR op_eq (pv 0) (pv 1) (nomark _))))))
      pss_nil)
    (pss_cons (ps_if (pt_val (pe_callB (HS.kisi K) (by rfl) T.z_isinstance (by decide +kernel) (pa_cons (pv 1) (pa_cons (pe_bltn (v := .ty "int") (by rfl) T.z_int (by decide +kernel) rfl) pa_nil))))
      (pss_one (ps_ret (pe_and (pe_callB (HS.kisi K) (by rfl) T.z_isinstance (by decide +kernel) (pa_cons (pv 0) (pa_cons (pe_bltn (v := .ty "int") (by rfl) T.z_int (by decide +kernel) rfl) pa_nil))) (pe_and (pe_not (pe_callB (HS.kisi K) (by rfl) T.z_isinstance (by decide +kernel) (pa_cons (pv 0) (pa_cons (pe_bltn (v := .ty "bool") (by rfl) T.z_bool (by decide +kernel) rfl) pa_nil)))) (pe_one (pe_cmpR op_eq (pv 0) (pv 1) (nomark _)))))))
      pss_nil)
    (pss_cons (ps_if (pt_val (pe_callB (HS.kisi K) (by rfl) T.z_isinstance (by decide +kernel) (pa_cons (pv 1) (pa_cons (pe_bltn (v := .ty "str") (by rfl) T.z_str (by decide +kernel) rfl) pa_nil))))
      (pss_one (ps_ret (pe_and (pe_callB (HS.kisi K) (by rfl) T.z_isinstance (by decide +kernel) (pa_cons (pv 0) (pa_cons (pe_bltn (v := .ty "str") (by rfl) T.z_str (by decide +kernel) rfl) pa_nil))) (pe_one (pe_cmpR op_eq (pv 0) (pv 1) (nomark _))))))
      pss_nil)
    (pss_cons (ps_if (pt_cmpR op_ne (pe_callB (HS.kisi K) (by rfl) T.z_isinstance (by decide +kernel) (pa_cons (pv 0) (pa_cons (pe_bltn (v := .ty "list") (by rfl) T.z_list (by decide +kernel) rfl) pa_nil))) (pe_callB (HS.kisi K) (by rfl) T.z_isinstance (by decide +kernel) (pa_cons (pv 1) (pa_cons (pe_bltn (v := .ty "list") (by rfl) T.z_list (by decide +kernel) rfl) pa_nil))) (nomark _))
      (pss_one (ps_ret pe_bl))
      pss_nil)
    (pss_cons (ps_if (PW.pt (pw_or (pt_cmpR op_ne (pe_callB (HS.kisi K) (by rfl) T.z_isinstance (by decide +kernel) (pa_cons (pv 0) (pa_cons (pe_bltn (v := .ty "tuple") (by rfl) T.z_tuple (by decide +kernel) rfl) pa_nil))) (pe_callB (HS.kisi K) (by rfl) T.z_isinstance (by decide +kernel) (pa_cons (pv 1) (pa_cons (pe_bltn (v := .ty "tuple") (by rfl) T.z_tuple (by decide +kernel) rfl) pa_nil))) (nomark _)) (pw_or1 (pt_cmpR op_ne (pe_callB (HS.klen K) (by rfl) T.z_len PySem.boot_len (pa_cons (pv 0) pa_nil)) (pe_callB (HS.klen K) (by rfl) T.z_len PySem.boot_len (pa_cons (pv 1) pa_nil)) (nomark _)))))
      (pss_one (ps_ret pe_bl))
      pss_nil)
    (pss_one (ps_ret (pe_cmpR (HS.keq K (hu64 hr)) (pe_lc (own := [("k", 2)]) (g := gName 2) rfl sc__law_same.nd (pi_range1 (by rfl) T.z_range (pa_cons (pe_callB (HS.klen K) (by rfl) T.z_len PySem.boot_len (pa_cons (pv 1) pa_nil)) pa_nil)) (blkOk_by (own := [("k", 2)]) (N := N__law_same) (sc := defScope s__law_same) (by decide +kernel)) (fun _ _ _ _ _ => pg_name (i := 2) sc__law_same.nd rfl (by first | exact .inl rfl | exact .inr rfl)) (fun _ _ _ _ _ => (pts_one (pt_not (pt_val (pe_call G__law_same hr (by rfl) T.g__law_same T.F__law_same.kp T.b__law_same .nil pass0 (pa_cons (pe_ix (HS.ixa K) (pv 0) (pv 2) (fun _ _ => rfl)) (pa_cons (pe_ix (HS.ixa K) (pv 1) (pv 2) (fun _ _ => rfl)) pa_nil))))))) (fun _ _ _ _ _ => (pv 2))) (pe_lst pa_nil) (nomark _)))))))))), ?_⟩
    obtain ⟨hs, k⟩ := hw
    walk_at "hs"
    refine ⟨rfl, ?_⟩
    walk_at "hs"
    cases hs with
    | non =>
      refine HS.it1 rfl ?_
      walk_at "hs"
      refine ⟨rfl, ?_⟩
      rw [decide_eq_true rfl]
      exact k _ .refl
    | bl b =>
      refine HS.it0 (fun z => nomatch z) ?_
      walk_at "hs"
      refine HS.isi true (.base (.bl b)) HS.kb_bb ?_
      walk_at "hs"
      refine HS.isi true (.base (.bl b)) HS.kb_bb ?_
      walk_at "hs"
      refine ⟨rfl, ?_⟩
      rw [decide_eq_true rfl]
      exact k _ .refl
    | int i =>
      refine HS.it0 (fun z => nomatch z) ?_
      walk_at "hs"
      refine HS.isi false (.base (.int i)) HS.kb_ib ?_
      walk_at "hs"
      refine HS.isi true (.base (.int i)) HS.kb_ii ?_
      walk_at "hs"
      refine HS.isi true (.base (.int i)) HS.kb_ii ?_
      walk_at "hs"
      refine HS.isi false (.base (.int i)) HS.kb_ib ?_
      walk_at "hs"
      try rw [if_pos (show (!false) = true from rfl)]
      walk_at "hs"
      rw [decide_eq_true rfl]
      exact k _ .refl
    | str x =>
      refine HS.it0 (fun z => nomatch z) ?_
      walk_at "hs"
      refine HS.isi false (.base (.str x)) HS.kb_sb ?_
      walk_at "hs"
      refine HS.isi false (.base (.str x)) HS.kb_si ?_
      walk_at "hs"
      refine HS.isi true (.base (.str x)) HS.kb_ss ?_
      walk_at "hs"
      refine HS.isi true (.base (.str x)) HS.kb_ss ?_
      walk_at "hs"
      refine ⟨by simp [scal], ?_⟩
      rw [decide_eq_true rfl]
      exact k _ .refl
    | lst h1 h2 h3 h4 h =>
      rename_i m pa pb xs ys
      refine HS.it0 (fun z => nomatch z) ?_
      walk_at "hs"
      refine HS.isi false (.base (.lst h2)) HS.kb_lb ?_
      walk_at "hs"
      refine HS.isi false (.base (.lst h2)) HS.kb_li ?_
      walk_at "hs"
      refine HS.isi false (.base (.lst h2)) HS.kb_ls ?_
      walk_at "hs"
      refine HS.isi true (.base (.lst h1)) HS.kb_ll ?_
      walk_at "hs"
      refine HS.isi true (.base (.lst h2)) HS.kb_ll ?_
      walk_at "hs"
      refine HS.neB ?_
      walk_at "hs"
      refine HS.in0 rfl ?_
      walk_at "hs"
      refine HS.isi false (.base (.lst h1)) HS.kb_lt ?_
      walk_at "hs"
      refine HS.isi false (.base (.lst h2)) HS.kb_lt ?_
      walk_at "hs"
      refine HS.neB ?_
      walk_at "hs"
      refine HS.in0 rfl ?_
      walk_at "hs"
      rw [h3]
      refine HS.in0 rfl ?_
      walk_at "hs"
      have h5 : ys.length ≤ 1000 := by omega
      refine ⟨by omega, by omega, fun D hD => ?_⟩
      refine lc_range (lo := 0) (n := (ys.length : Int).toNat) (fun i H' => HS.Keep (fun _ => False) H H' ∧ H' D = some (.lst [])) ⟨.new hD, upd_same⟩ ?_ ?_
      · rintro i H2 hi ⟨K2, e2⟩
        have hi2 : i < ys.length := by omega
        walk_at "hs"
        rw [Int.zero_add]
        refine .inl ⟨pa, xs, _, xs[i], rfl, rfl, HS.sq (K2 _ _ h1 id), at_of (j := i) (by omega) (List.getElem?_eq_getElem (by omega)), ?_⟩
        walk_at "hs"
        refine .inl ⟨pb, ys, _, ys[i], rfl, rfl, HS.sq (K2 _ _ h2 id), at_of (j := i) (by omega) (List.getElem?_eq_getElem hi2), ?_⟩
        walk_at "hs"
        · refine ⟨xs[i], ys[i], rfl, (h i _ _ (List.getElem?_eq_getElem (by omega)) (List.getElem?_eq_getElem hi2)).same K2, fun H3 K3 => ?_⟩
          walk_at "hs"
          exact ⟨K2.trans K3, K3 _ _ e2 id⟩
      · rintro H2 ⟨K2, e2⟩
        walk_at "hs"
        intro p hp
        refine HS.eqL (xs := []) (ys := []) (HS.Keep.sq (S := fun _ => False) (.new hp) (HS.sq e2) id) (HS.sq upd_same) ?_
        exact k _ (K2.trans (.new hp))
    | tup h1 h2 h3 h4 h =>
      rename_i m pa pb xs ys
      refine HS.it0 (fun z => nomatch z) ?_
      walk_at "hs"
      refine HS.isi false (.base (.tup h2)) HS.kb_tb ?_
      walk_at "hs"
      refine HS.isi false (.base (.tup h2)) HS.kb_ti ?_
      walk_at "hs"
      refine HS.isi false (.base (.tup h2)) HS.kb_ts ?_
      walk_at "hs"
      refine HS.isi false (.base (.tup h1)) HS.kb_tl ?_
      walk_at "hs"
      refine HS.isi false (.base (.tup h2)) HS.kb_tl ?_
      walk_at "hs"
      refine HS.neB ?_
      walk_at "hs"
      refine HS.in0 rfl ?_
      walk_at "hs"
      refine HS.isi true (.base (.tup h1)) HS.kb_tt ?_
      walk_at "hs"
      refine HS.isi true (.base (.tup h2)) HS.kb_tt ?_
      walk_at "hs"
      refine HS.neB ?_
      walk_at "hs"
      refine HS.in0 rfl ?_
      walk_at "hs"
      rw [h3]
      refine HS.in0 rfl ?_
      walk_at "hs"
      have h5 : ys.length ≤ 1000 := by omega
      refine ⟨by omega, by omega, fun D hD => ?_⟩
      refine lc_range (lo := 0) (n := (ys.length : Int).toNat) (fun i H' => HS.Keep (fun _ => False) H H' ∧ H' D = some (.lst [])) ⟨.new hD, upd_same⟩ ?_ ?_
      · rintro i H2 hi ⟨K2, e2⟩
        have hi2 : i < ys.length := by omega
        walk_at "hs"
        rw [Int.zero_add]
        refine .inr ⟨pa, xs, _, xs[i], rfl, rfl, HS.st (K2 _ _ h1 id), at_of (j := i) (by omega) (List.getElem?_eq_getElem (by omega)), ?_⟩
        walk_at "hs"
        refine .inr ⟨pb, ys, _, ys[i], rfl, rfl, HS.st (K2 _ _ h2 id), at_of (j := i) (by omega) (List.getElem?_eq_getElem hi2), ?_⟩
        walk_at "hs"
        · refine ⟨xs[i], ys[i], rfl, (h i _ _ (List.getElem?_eq_getElem (by omega)) (List.getElem?_eq_getElem hi2)).same K2, fun H3 K3 => ?_⟩
          walk_at "hs"
          exact ⟨K2.trans K3, K3 _ _ e2 id⟩
      · rintro H2 ⟨K2, e2⟩
        walk_at "hs"
        intro p hp
        refine HS.eqL (xs := []) (ys := []) (HS.Keep.sq (S := fun _ => False) (.new hp) (HS.sq e2) id) (HS.sq upd_same) ?_
        exact k _ (K2.trans (.new hp))
def sp_count_pages (K : PySem.W.Frag) : Sp := fun vs H Q _ => ∃ (b : Addr) (ls : List Int) (j : Int), vs = [.ref b, .int j] ∧ (SqL K H b (ls.map V.int) ∧ ls.length ≤ 50000 ∧ 1 ≤ j ∧ j < 2 ^ 200 ∧ ∀ H', HS.Keep (fun _ => False) H H' → Q (.int (pcount ls j)) H')
theorem ok_count_pages (T : Txt K mg A) : FnOk P w K mg base CX0 2 A.a_count_pages A.d_count_pages ["book", "size"] (sp_count_pages K) := by
  refine T.F_count_pages.ok sc_count_pages (fun vs H Q E h => ?_) (fun cdv A0 outer s H vs Q E hr h => ?_)
  · obtain ⟨b, ls, j, rfl, hw⟩ := h
    rfl
  · obtain ⟨b, ls, j, rfl, hw⟩ := h
    refine ⟨_, (pss_one (ps_ret (pe_op op_add (pe_callB (HS.klen K) (by rfl) T.z_len PySem.boot_len (pa_cons (pv 0) pa_nil)) (pe_callB (HS.ksum K rfl) (by rfl) T.z_sum (by decide +kernel) (pa_cons (pe_lc (own := [("length", 2)]) (g := gName 2) (tt := tYes) rfl sc_count_pages.nd (HS.kil K (pi_list (pv 0))) (blkOk_by (own := [("length", 2)]) (N := N_count_pages) (sc := defScope s_count_pages) (by decide +kernel)) (fun _ _ _ _ _ => pg_name (i := 2) sc_count_pages.nd rfl (by first | exact .inl rfl | exact .inr rfl)) (fun _ _ _ _ _ => pts_nil) (fun _ _ _ _ _ => (pe_op op_fdivW (pe_op op_sub (pv 2) pe_int) (pv 1)))) pa_nil))))), ?_⟩
    obtain ⟨hb, hl, h1, h2, k⟩ := hw
    walk_at "hs"
    rw [List.length_map]
    refine ⟨⟨_, hb⟩, fun D hD => lc_list (xs := ls.map V.int) (fun i H' => HS.Keep (fun _ => False) H H' ∧ H' D = some (.lst (((ls.take i).map fun x => (x - 1) / j).map V.int))) ⟨.new hD, upd_same⟩ (fun i H' _ ⟨K', _⟩ => K'.sq hb id) ?_ ?_⟩
    · rintro i x H1 hi ⟨K1, h3⟩
      obtain ⟨z, rfl, hz, hil⟩ := HS.get_int hi
      walk_at "hs"
      refine ⟨HS.divW 200 (by omega) h2 (by decide) (by decide), ?_⟩
      refine ⟨_, h3, HS.sz (by simp; omega), K1.put hD, ?_⟩
      rw [upd_same, List.take_add_one, hz, List.map_append, List.map_append]
      rfl
    · rintro H1 ⟨K1, h3⟩
      rw [List.length_map, List.take_length] at h3
      walk_at "hs"
      rw [pcount_less1 h1]
      exact k _ K1
def sp_check_book (K : PySem.W.Frag) : Sp := fun vs H Q _ => ∃ (b : Addr) (ls : List Int), vs = [.ref b] ∧ (SqL K H b (ls.map V.int) ∧ (∀ x ∈ ls, 1 ≤ x) ∧ ∀ H', HS.Keep (fun _ => False) H H' → Q .non H')
theorem ok_check_book (T : Txt K mg A) : FnOk P w K mg base CX0 1 A.a_check_book A.d_check_book ["book"] (sp_check_book K) := by
  refine T.F_check_book.ok sc_check_book (fun vs H Q E h => ?_) (fun cdv A0 outer s H vs Q E hr h => ?_)
  · obtain ⟨b, ls, rfl, hw⟩ := h
    rfl
  · obtain ⟨b, ls, rfl, hw⟩ := h
    refine ⟨_, (pss_one (ps_for PassesOwn.never rfl (HS.kien K (pi_enum (by rfl) T.z_enumerate (pa_cons (pv 0) pa_nil))) (HS.kgt K (pg_tup rfl (pgs_cons (pg_name (i := 1) sc_check_book.nd rfl (.inl rfl)) (pgs_cons (pg_name (i := 2) sc_check_book.nd rfl (.inl rfl)) pgs_nil))))
      (pss_one (ps_if (pt_cmpR op_lt (pv 2) pe_int (nomark _))
      (pss_one ps_never)
      pss_nil)))), ?_⟩
    obtain ⟨hb, hl, k⟩ := hw
    walk_at "hs"
    refine ⟨b, ls.map V.int, rfl, hb, for_it walk_enum (fun i σ H' => HS.Keep (fun _ => False) H H' ∧ ∃ x1 x2, σ = [some (.ref b), x1, x2]) ⟨.refl, _, _, rfl⟩ (fun i σ H' _ ⟨K', _⟩ => K'.sq hb id) ?_ ?_⟩
    · rintro i x σ H1 H2 hi ⟨K1, x1, x2, rfl⟩ ⟨T1, u, v, rfl, hT, rfl, e1, e2⟩
      cases e1
      obtain ⟨z, rfl, hz, _⟩ := HS.get_int e2
      have hz1 := hl z (List.mem_of_getElem? hz)
      walk_at "hs"
      refine HS.it0 (by omega) ?_
      walk_at "hs"
      exact ⟨K1.put (K1.free hT id), _, _, rfl⟩
    · rintro σ H1 ⟨K1, x1, x2, rfl⟩
      walk_at "hs"
      exact k _ K1
def sp_check_size (K : PySem.W.Frag) : Sp := fun vs H Q _ => ∃ (j : Int), vs = [.int j] ∧ (1 ≤ j ∧ Q .non H)
theorem ok_check_size (T : Txt K mg A) : FnOk P w K mg base CX0 1 A.a_check_size A.d_check_size ["size"] (sp_check_size K) := by
  refine T.F_check_size.ok sc_check_size (fun vs H Q E h => ?_) (fun cdv A0 outer s H vs Q E hr h => ?_)
  · obtain ⟨j, rfl, hw⟩ := h
    rfl
  · obtain ⟨j, rfl, hw⟩ := h
    refine ⟨_, (pss_one (ps_if (pt_cmpR op_lt (pv 0) pe_int (nomark _))
      (pss_one ps_never)
      pss_nil)), ?_⟩
    obtain ⟨h, k⟩ := hw
    walk_at "hs"
    refine HS.it0 (by omega) ?_
    walk_at "hs"
    exact k
def sp_check_not_negative (K : PySem.W.Frag) : Sp := fun vs H Q _ => ∃ (j : Int), vs = [.int j] ∧ (0 ≤ j ∧ Q .non H)
theorem ok_check_not_negative (T : Txt K mg A) : FnOk P w K mg base CX0 1 A.a_check_not_negative A.d_check_not_negative ["number"] (sp_check_not_negative K) := by
  refine T.F_check_not_negative.ok sc_check_not_negative (fun vs H Q E h => ?_) (fun cdv A0 outer s H vs Q E hr h => ?_)
  · obtain ⟨j, rfl, hw⟩ := h
    rfl
  · obtain ⟨j, rfl, hw⟩ := h
    refine ⟨_, (pss_one (ps_if (pt_cmpR op_lt (pv 0) pe_int (nomark _))
      (pss_one ps_never)
      pss_nil)), ?_⟩
    obtain ⟨h, k⟩ := hw
    walk_at "hs"
    refine HS.it0 (by omega) ?_
    walk_at "hs"
    exact k
def sp_pages (K : PySem.W.Frag) : Sp := fun vs H Q _ => ∃ (b : Addr) (ls : List Int) (j : Int), vs = [.ref b, .int j] ∧ (SqL K H b (ls.map V.int) ∧ (∀ x ∈ ls, 1 ≤ x) ∧ ls.length ≤ 50000 ∧ 1 ≤ j ∧ j < 2 ^ 200 ∧ ∀ H', HS.Keep (fun _ => False) H H' → Q (.int (pcount ls j)) H')
theorem ok_pages (T : Txt K mg A) : FnOk P w K mg base CX0 3 A.a_pages A.d_pages ["book", "size"] (sp_pages K) := by
  have G_check_book : FnOk P w K mg base CX0 1 A.a_check_book A.d_check_book ["book"] (sp_check_book K) := ok_check_book T
  have G_check_size : FnOk P w K mg base CX0 1 A.a_check_size A.d_check_size ["size"] (sp_check_size K) := ok_check_size T
  have G_count_pages : FnOk P w K mg base CX0 2 A.a_count_pages A.d_count_pages ["book", "size"] (sp_count_pages K) := ok_count_pages T
  refine T.F_pages.ok sc_pages (fun vs H Q E h => ?_) (fun cdv A0 outer s H vs Q E hr h => ?_)
  · obtain ⟨b, ls, j, rfl, hw⟩ := h
    rfl
  · obtain ⟨b, ls, j, rfl, hw⟩ := h
    refine ⟨_, (pss_cons (ps_expr (pe_call G_check_book (hr.mono (by decide)) (by rfl) T.g_check_book T.F_check_book.kp T.b_check_book .nil pass0 (pa_cons (pv 0) pa_nil)))
    (pss_cons (ps_expr (pe_call G_check_size (hr.mono (by decide)) (by rfl) T.g_check_size T.F_check_size.kp T.b_check_size .nil pass0 (pa_cons (pv 1) pa_nil)))
    (pss_one (ps_ret (pe_call G_count_pages hr (by rfl) T.g_count_pages T.F_count_pages.kp T.b_count_pages .nil pass0 (pa_cons (pv 0) (pa_cons (pv 1) pa_nil))))))), ?_⟩
    obtain ⟨hb, hp, hl, h1, h2, k⟩ := hw
    walk_at "hs"
    refine ⟨b, ls, rfl, hb, hp, fun H1 K1 => ?_⟩
    walk_at "hs"
    refine ⟨j, rfl, h1, ?_⟩
    walk_at "hs"
    refine ⟨b, ls, j, rfl, K1.sq hb id, hl, h1, h2, fun H2 K2 => k _ (K1.trans K2)⟩
def sp_counts (K : PySem.W.Frag) : SpG := fun vs H Q _ => ∃ (b : Addr) (ls : List Int) (m : Int), vs = [.ref b, .int m] ∧ (SqL K H b (ls.map V.int) ∧ (∀ x ∈ ls, 1 ≤ x) ∧ ls.length ≤ 50000 ∧ 0 ≤ m ∧ m ≤ 50000 ∧ ∀ H', HS.Keep (fun _ => False) H H' → Q ((List.range m.toNat).map fun (i : Nat) => V.int (pcount ls ((i : Int) + 1))) H')
theorem ok_counts (T : Txt K mg A) : GFn P w K mg base 3 A.a_counts A.d_counts ["book", "limit"] (sp_counts K) := by
  have G_check_book : FnOk P w K mg base CX0 1 A.a_check_book A.d_check_book ["book"] (sp_check_book K) := ok_check_book T
  have G_check_not_negative : FnOk P w K mg base CX0 1 A.a_check_not_negative A.d_check_not_negative ["number"] (sp_check_not_negative K) := ok_check_not_negative T
  have G_count_pages : FnOk P w K mg base CX0 2 A.a_count_pages A.d_count_pages ["book", "size"] (sp_count_pages K) := ok_count_pages T
  obtain ⟨oc, od, kV, doc, pm, an, cdv, ct, osl, hfd, lk, hcd⟩ := T.F_counts.ex
  rw [hfd] at lk ⊢
  refine gfn_of lk hcd sc_counts (fun vs H Q E h => ?_) (fun A0 outer s H vs Q E pn hr h => ?_)
  · obtain ⟨b, ls, m, rfl, hw⟩ := h
    rfl
  · obtain ⟨b, ls, m, rfl, hw⟩ := h
    refine ⟨_, (gss_cons (gs_ps (ps_expr (pe_call G_check_book (hr.mono (by decide)) (by rfl) T.g_check_book T.F_check_book.kp T.b_check_book .nil pass0 (pa_cons (pv 0) pa_nil))))
    (gss_cons (gs_ps (ps_expr (pe_call G_check_not_negative (hr.mono (by decide)) (by rfl) T.g_check_not_negative T.F_check_not_negative.kp T.b_check_not_negative .nil pass0 (pa_cons (pv 1) pa_nil))))
    (gss_cons (HS.gs_for owns_gcx rfl (pi_range2 (by rfl) T.z_range (pa_cons pe_int (pa_cons (pe_op op_add (pv 1) pe_int) pa_nil))) (pg_name (i := 2) sc_counts.nd rfl (.inl rfl))
      (gss_cons (gs_yield (pe_call G_count_pages hr (by rfl) T.g_count_pages T.F_count_pages.kp T.b_count_pages .nil pass0 (pa_cons (pv 0) (pa_cons (pv 2) pa_nil))))
    gss_nil))
    gss_nil))), ?_⟩
    obtain ⟨hb, hp, hl, h1, h2, k⟩ := hw
    walk_at "hs"
    refine ⟨b, ls, rfl, hb, hp, fun H1 K1 => ?_⟩
    have hb1 := K1.sq hb id
    walk_at "hs"
    refine ⟨m, rfl, h1, ?_⟩
    walk_at "hs"
    refine ⟨by omega, ?_⟩
    rw [show (m + 1 - 1).toNat = m.toNat by omega]
    refine HS.gfor_range (fun i ys σ H' => HS.Keep (fun _ => False) H H' ∧ ys = (List.range i).map (fun (i : Nat) => V.int (pcount ls ((i : Int) + 1))) ∧ ∃ x2, σ = [some (.ref b), some (.int m), x2]) ⟨K1, rfl, _, rfl⟩ ?_ ?_
    · rintro i ys σ H2 hi ⟨K2, rfl, x2, rfl⟩
      walk_at "hs"
      refine ⟨HS.sz (by simp; omega), ?_⟩
      walk_at "hs"
      refine ⟨b, ls, _, rfl, K2.sq hb id, hl, by omega, by omega, fun H3 K3 => ?_⟩
      refine ⟨K2.trans K3, ?_, _, rfl⟩
      rw [List.range_succ, List.map_append, Int.add_comm]
      rfl
    · rintro ys σ H2 ⟨K2, rfl, x2, rfl⟩
      exact k _ K2
def sp2_counts (K : PySem.W.Frag) : HS.SpG2 := fun vs H ry yl en E => ∃ (b : Addr) (ls : List Int) (m : Int), vs = [.ref b, .int m] ∧ (SqL K H b (ls.map V.int) ∧ (∀ x ∈ ls, 1 ≤ x) ∧ ls.length ≤ 50000 ∧ 0 ≤ m ∧ m < 2 ^ 190 ∧ (∀ i H', ry i H' → SqL K H' b (ls.map V.int)) ∧
  (∀ (i : Nat) Hw H', (i = 0 → Hw = H) → (1 ≤ i → ry i Hw) → HS.Keep (fun _ => False) Hw H' → (i : Int) < m → yl i Hw (.int (pcount ls ((i : Int) + 1))) H') ∧
  (∀ (i : Nat) Hw H', (i = 0 → Hw = H) → (1 ≤ i → ry i Hw) → HS.Keep (fun _ => False) Hw H' → (i : Int) = m → en i Hw H'))
theorem ok2_counts (T : Txt K mg A) : HS.GFn2 P w K mg base 3 A.a_counts A.d_counts ["book", "limit"] (sp2_counts K) := by
  have G_check_book : FnOk P w K mg base CX0 1 A.a_check_book A.d_check_book ["book"] (sp_check_book K) := ok_check_book T
  have G_check_not_negative : FnOk P w K mg base CX0 1 A.a_check_not_negative A.d_check_not_negative ["number"] (sp_check_not_negative K) := ok_check_not_negative T
  have G_count_pages : FnOk P w K mg base CX0 2 A.a_count_pages A.d_count_pages ["book", "size"] (sp_count_pages K) := ok_count_pages T
  obtain ⟨oc, od, kV, doc, pm, an, cdv, ct, osl, hfd, lk, hcd⟩ := T.F_counts.ex
  rw [hfd] at lk ⊢
  refine HS.gfn2_of (pre := HS.preS (defBody s_counts)) (tg := HS.tgS (defBody s_counts)) (iter := HS.itS (defBody s_counts)) (e := HS.yS (defBody s_counts)) (post := HS.poS (defBody s_counts)) lk hcd sc_counts rfl (by decide +kernel) (fun _ _ => rfl) rfl (fun _ => rfl) (fun vs H ry yl en E h => ?_) (fun A0 outer s H vs ry yl en E pn hr h => ?_)
  · obtain ⟨b, ls, m, rfl, hw⟩ := h
    rfl
  · obtain ⟨b, ls, m, rfl, hw⟩ := h
    refine ⟨_, _, _, _, _, (pss_cons (ps_expr (pe_call G_check_book (hr.mono (by decide)) (by rfl) T.g_check_book T.F_check_book.kp T.b_check_book .nil pass0 (pa_cons (pv 0) pa_nil)))
    (pss_one (ps_expr (pe_call G_check_not_negative (hr.mono (by decide)) (by rfl) T.g_check_not_negative T.F_check_not_negative.kp T.b_check_not_negative .nil pass0 (pa_cons (pv 1) pa_nil))))), (HS.pi_rangeA (by rfl) T.z_range (pa_cons pe_int (pa_cons (pe_op op_add (pv 1) pe_int) pa_nil))), fun _ _ => (pg_name (i := 2) sc_counts.nd rfl (.inl rfl)), fun _ _ => (pe_call G_count_pages hr (by rfl) T.g_count_pages T.F_count_pages.kp T.b_count_pages .nil pass0 (pa_cons (pv 0) (pa_cons (pv 2) pa_nil))), fun _ _ => pss_nil, ?_⟩
    obtain ⟨hb, hp, hl, h1, h2, hr0, hy, he⟩ := hw
    refine HS.genX ?_
    walk_at "hs"
    refine ⟨b, ls, rfl, hb, hp, fun H1 K1 => ?_⟩
    have hb1 := K1.sq hb id
    walk_at "hs"
    refine ⟨m, rfl, h1, ?_⟩
    walk_at "hs"
    refine HS.rngA ?_
    walk_at "hs"
    rw [show (m + 1 - 1).toNat = m.toNat by omega]
    refine ⟨fun i σ Hw H' => (i = 0 → Hw = H) ∧ (1 ≤ i → ry i Hw) ∧ HS.Keep (fun _ => False) Hw H' ∧ SqL K H' b (ls.map V.int) ∧ (i : Int) ≤ m ∧ ∃ x2, σ = [some (.ref b), some (.int m), x2], ⟨fun _ => rfl, fun z => by omega, K1, hb1, h1, _, rfl⟩, ?_⟩
    rintro i σ Hw H' ⟨q1, q2, q3, q4, q5, x2, rfl⟩
    by_cases hi : (i : Int) = m
    · left
      exact ⟨show m.toNat ≤ i by omega, he i Hw H' q1 q2 q3 hi⟩
    · right
      refine ⟨show i < m.toNat by omega, fun x H3 hx => ?_⟩
      obtain ⟨rfl, rfl⟩ := hx
      walk_at "hs"
      refine ⟨b, ls, _, rfl, q4, hl, by omega, by omega, fun H4 K4 => ?_⟩
      rw [show (1 : Int) + i = i + 1 by omega]
      refine ⟨hy i Hw H4 q1 q2 (q3.trans K4) (by omega), fun H5 r5 => ?_⟩
      walk_at "hs"
      exact ⟨fun z => by omega, fun _ => r5, .refl, hr0 _ _ r5, by push_cast; omega, _, rfl⟩
def sp_Unreadable___init__ (K : PySem.W.Frag) : Sp := fun vs H Q _ => ∃ (a C : Addr) (w : V), vs = [.ref a, w] ∧ (OexC K C ∧ PySem.W.findIn K (.ref C) "value" = some none ∧ H a = some (exo a C none) ∧ ∀ H' d, HS.Keep (fun x => x = a) H H' → H d = none → d ≠ a → H' a = some (exo a C (some d)) → H' d = some (exd d [("value", w)]) → Q .non H')
theorem ok_Unreadable___init__ (T : Txt K mg A) : FnOk P w K mg base CX0 1 A.a_Unreadable___init__ A.d_Unreadable___init__ ["self", "value"] (sp_Unreadable___init__ K) := by
  refine T.F_Unreadable___init__.ok sc_Unreadable___init__ (fun vs H Q E h => ?_) (fun cdv A0 outer s H vs Q E hr h => ?_)
  · obtain ⟨a, C, w, rfl, hw⟩ := h
    rfl
  · obtain ⟨a, C, w, rfl, hw⟩ := h
    refine ⟨_, (pss_one (ps_ost (pv 0) (pv 1))), ?_⟩
    obtain ⟨T1, hv, ha, k⟩ := hw
    walk_at "hs"
    refine ⟨a, C, rfl, T1, hv, .inl ⟨ha, fun d hd hne => ?_⟩⟩
    walk_at "hs"
    exact k _ d ((HS.Keep.new hd).at rfl) hd (by first | exact hne | exact Ne.symm hne) upd_same (by rw [upd_ne hne]; exact upd_same)
def sp_read_number (K : PySem.W.Frag) : Sp := fun vs H Q _ => ∃ (t : Str), vs = [.str t] ∧ (t.length ≤ 20000 ∧ Q (.int (numR t)) H)
theorem ok_read_number (T : Txt K mg A) : FnOk P w K mg base CX0 1 A.a_read_number A.d_read_number ["word"] (sp_read_number K) := by
  refine T.F_read_number.ok sc_read_number (fun vs H Q E h => ?_) (fun cdv A0 outer s H vs Q E hr h => ?_)
  · obtain ⟨t, rfl, hw⟩ := h
    rfl
  · obtain ⟨t, rfl, hw⟩ := h
    refine ⟨_, (pss_cons (ps_if (PW.pt (pw_or (pt_not (PW.pt (pw_and (pt_val (pe_m0 PySem.F.slot_str_isascii PySem.F.type_str_isascii mt_isascii (pv 0))) (pw_and1 (pt_val (pe_m0 PySem.F.slot_str_isdigit PySem.F.type_str_isdigit mt_isdigit (pv 0))))))) (pw_or (pt_cmpR op_eq (pe_ix ix_str (pv 0) pe_int (fun _ _ => rfl)) pe_str (nomark _)) (pw_or1 (pt_cmpR op_gt (pe_callB call_len_str (by rfl) T.z_len PySem.boot_len (pa_cons (pv 0) pa_nil)) (pe_glob (v := .int 40) (by rfl) T.v_MOST_DIGITS.choose_spec ⟨_, rfl⟩) (nomark _))))))
      (pss_one (ps_ret pe_int))
      pss_nil)
    (pss_one (ps_ret (pe_callTy call_int_str (by rfl) T.z_int (by decide +kernel) (pa_cons (pv 0) pa_nil))))), ?_⟩
    obtain ⟨hl, k⟩ := hw
    have hA := asc_dig t
    walk_at "hs"
    refine ⟨t, rfl, rfl, trivial, ?_⟩
    walk_at "hs"
    cases e1 : Txt.isascii t with
    | false =>
      have z : numR t = 0 := numR_zero (by rw [e1]; rfl)
      rw [z] at k
      walk_at "hs"
      exact k
    | true =>
      walk_at "hs"
      refine ⟨t, rfl, rfl, trivial, ?_⟩
      walk_at "hs"
      cases e2 : Txt.isdigit t with
      | false =>
        have z : numR t = 0 := numR_zero (by rw [e1, e2]; rfl)
        rw [z] at k
        walk_at "hs"
        exact k
      | true =>
        rw [e1, e2] at hA
        have hB := hA.symm
        rw [show (true && true) = true from rfl, Bool.and_eq_true, decide_eq_true_eq, List.all_eq_true] at hB
        obtain ⟨hne, hdg⟩ := hB
        have hdg' : PySem.NumText.AllDigits (TL.tl t) := fun c hc => of_decide_eq_true (hdg c hc)
        obtain ⟨c, r, hcr⟩ : ∃ c r, TL.tl t = c :: r := by
          cases h : TL.tl t with
          | nil => exact absurd h hne
          | cons c r => exact ⟨c, r, rfl⟩
        walk_at "hs"
        refine ⟨t, 0, c, rfl, rfl, HS.szl (by omega), by rw [show t.cps.toList = c :: r from hcr]; exact HS.atN 0 rfl rfl, ?_⟩
        walk_at "hs"
        refine HS.eqStr ?_
        rw [show decide ((⟨#[c]⟩ : PySem.Str) = PySem.Str.ofString "0") = decide (c = 48) from decide_eq_decide.mpr one_zero]
        walk_at "hs"
        refine HS.itd (fun hc => ?_) (fun hc => ?_)
        · have z : numR t = 0 := by
            unfold numR isNumL
            rw [hcr, hc]
            simp
          rw [z] at k
          walk_at "hs"
          exact k
        · walk_at "hs"
          refine ⟨t, rfl, HS.szl (by omega), ?_⟩
          walk_at "hs"
          refine HS.itd (fun h40 => ?_) (fun h40 => ?_)
          · have z : numR t = 0 := by
              unfold numR isNumL
              rw [show decide ((TL.tl t).length ≤ 40) = false from decide_eq_false (by rw [← TL.len_tl]; omega)]
              simp
            rw [z] at k
            walk_at "hs"
            exact k
          · have g : isNumL (TL.tl t) = true := by
              unfold isNumL
              rw [hA.symm, hcr, decide_eq_true (show (c :: r).head? ≠ some 48 from fun q => hc (Option.some.inj q)), ← hcr, decide_eq_true (show (TL.tl t).length ≤ 40 by rw [← TL.len_tl]; omega)]
              rfl
            walk_at "hs"
            refine ⟨t, _, rfl, PySem.intText_digits hdg' hne (by omega), by omega, ?_⟩
            rw [show numR t = ((PySem.NumText.digitsVal (TL.tl t) : Nat) : Int) from if_pos g] at k
            exact k
def sp_read_chapters (K : PySem.W.Frag) : Sp := fun vs H Q _ => ∃ (t : Str), vs = [.str t] ∧ (t.length ≤ 20000 ∧ ∀ H' p, HS.Keep (fun _ => False) H H' → H p = none → H' p = some (.tup [.int (chR t).1, .int (chR t).2]) → Q (.ref p) H')
theorem ok_read_chapters (T : Txt K mg A) : FnOk P w K mg base CX0 2 A.a_read_chapters A.d_read_chapters ["part"] (sp_read_chapters K) := by
  have G_read_number : FnOk P w K mg base CX0 1 A.a_read_number A.d_read_number ["word"] (sp_read_number K) := ok_read_number T
  refine T.F_read_chapters.ok sc_read_chapters (fun vs H Q E h => ?_) (fun cdv A0 outer s H vs Q E hr h => ?_)
  · obtain ⟨t, rfl, hw⟩ := h
    rfl
  · obtain ⟨t, rfl, hw⟩ := h
    refine ⟨_, (pss_cons (ps_asg (pe_partition (pv 0) pe_str) (HS.kgt K (pg_tup rfl (pgs_cons (pg_name (i := 1) sc_read_chapters.nd rfl (.inl rfl)) (pgs_cons (pg_name (i := 2) sc_read_chapters.nd rfl (.inl rfl)) (pgs_cons (pg_name (i := 3) sc_read_chapters.nd rfl (.inl rfl)) pgs_nil))))))
    (pss_cons (ps_if (pt_cmpR op_eq (pv 2) pe_str (nomark _))
      (pss_one (ps_ret (pe_tup (pa_cons pe_int (pa_cons (pe_call G_read_number hr (by rfl) T.g_read_number T.F_read_number.kp T.b_read_number .nil pass0 (pa_cons (pv 0) pa_nil)) pa_nil)))))
      pss_nil)
    (pss_cons (ps_set (i := 4) sc_read_chapters.nd rfl (.inl rfl) (pe_call G_read_number hr (by rfl) T.g_read_number T.F_read_number.kp T.b_read_number .nil pass0 (pa_cons (pv 1) pa_nil)))
    (pss_cons (ps_if (pt_cmpR op_eq (pv 4) pe_int (nomark _))
      (pss_one (ps_ret (pe_tup (pa_cons pe_int (pa_cons pe_int pa_nil)))))
      pss_nil)
    (pss_one (ps_ret (pe_tup (pa_cons (pv 4) (pa_cons (pe_call G_read_number hr (by rfl) T.g_read_number T.F_read_number.kp T.b_read_number .nil pass0 (pa_cons (pv 3) pa_nil)) pa_nil))))))))), ?_⟩
    obtain ⟨hl, k⟩ := hw
    walk_at "hs"
    refine ⟨t, _, rfl, rfl, rfl, HS.szl (by omega), ?_⟩
    have lx := x_len
    rcases part_cases t with e | ⟨a, b, e, eab⟩
    · have c1 : chR t = (1, numR t) := by unfold chR; rw [e, if_pos rfl]
      rw [e]
      intro p hp
      generalize hG_p : upd _ p _ = H1
      have at_p := HS.upgs hG_p
      have Kn_p := HS.upgK hG_p hp
      clear hG_p
      walk_at "hs"
      refine HS.eqStr ?_
      rw [decide_eq_true (show (PySem.Str.empty : PySem.Str) = PySem.Str.ofString "" from rfl)]
      walk_at "hs"
      refine ⟨t, rfl, hl, ?_⟩
      walk_at "hs"
      intro q hq
      exact k _ q (Kn_p.trans (.new hq)) (Kn_p.free hq id) (by rw [upd_same, c1])
    · have el := congrArg PySem.Str.length eab
      rw [lenA, lenA, lx] at el
      rw [e]
      intro p hp
      generalize hG_p : upd _ p _ = H1
      have at_p := HS.upgs hG_p
      have Kn_p := HS.upgK hG_p hp
      clear hG_p
      walk_at "hs"
      refine HS.eqStr ?_
      rw [decide_eq_false (show ¬ ((PySem.Str.ofString "x" : PySem.Str) = PySem.Str.ofString "") from x_ne)]
      walk_at "hs"
      refine ⟨a, rfl, by omega, ?_⟩
      walk_at "hs"
      refine HS.itd (fun h1 => ?_) (fun h1 => ?_)
      · have c1 : chR t = (0, 0) := by unfold chR; rw [e, if_neg x_ne]; exact if_pos h1
        walk_at "hs"
        intro q hq
        exact k _ q (Kn_p.trans (.new hq)) (Kn_p.free hq id) (by rw [upd_same, c1])
      · have c1 : chR t = (numR a, numR b) := by unfold chR; rw [e, if_neg x_ne]; exact if_neg h1
        walk_at "hs"
        refine ⟨b, rfl, by omega, ?_⟩
        walk_at "hs"
        intro q hq
        exact k _ q (Kn_p.trans (.new hq)) (Kn_p.free hq id) (by rw [upd_same, c1])
def sp_read_book (K : PySem.W.Frag) (A : Ad) : Sp := fun vs H Q E => ∃ (t : Str), vs = [.str t] ∧ (t.length ≤ 20000 ∧ (∀ ps, goR (Txt.split t " + ") 0 = some ps → (spread ps).length ≤ 16000000 ∧ ∀ p ∈ ps, p.1 ≤ 1000000) ∧
  (readR t = none → ∀ H' d, HS.Keep (fun _ => False) H H' → H d = none → H' d = some (.xd [("value", .str t)]) → E (.ref A.c_Unreadable) (some d) H') ∧
  (∀ ls, readR t = some ls → ∀ H' p, HS.Keep (fun _ => False) H H' → H p = none → H' p = some (.lst (ls.map V.int)) → Q (.ref p) H'))
theorem ok_read_book (T : Txt K mg A) : FnOk P w K mg base (L2.CX P w) 3 A.a_read_book A.d_read_book ["text"] (sp_read_book K A) := by
  have G_read_chapters : FnOk P w K mg base CX0 2 A.a_read_chapters A.d_read_chapters ["part"] (sp_read_chapters K) := ok_read_chapters T
  have G_Unreadable___init__ : FnOk P w K mg base CX0 1 A.a_Unreadable___init__ A.d_Unreadable___init__ ["self", "value"] (sp_Unreadable___init__ K) := ok_Unreadable___init__ T
  refine L2.Fun.okX T.F_read_book sc_read_book (fun vs H Q E h => ?_) (fun cdv A0 outer s H vs Q E hr h => ?_)
  · obtain ⟨t, rfl, hw⟩ := h
    rfl
  · obtain ⟨t, rfl, hw⟩ := h
    refine ⟨_, (pss_cons (ps_if (pt_cmpR op_eq (pv 0) pe_str (nomark _))
      (pss_one (ps_ret (pe_lst pa_nil)))
      pss_nil)
    (pss_cons (ps_set (i := 1) sc_read_book.nd rfl (.inl rfl) (pe_lst pa_nil))
    (pss_cons (ps_set (i := 2) sc_read_book.nd rfl (.inl rfl) pe_int)
    (pss_cons (ps_for (passes_of rfl) rfl (HS.kil K (pi_list (pe_split (pv 0) pe_str))) (pg_name (i := 3) sc_read_book.nd rfl (.inl rfl))
      (pss_cons (ps_asg (pe_call G_read_chapters hr (by rfl) T.g_read_chapters T.F_read_chapters.kp T.b_read_chapters .nil pass0 (pa_cons (pv 3) pa_nil)) (HS.kgt K (pg_tup rfl (pgs_cons (pg_name (i := 4) sc_read_book.nd rfl (.inl rfl)) (pgs_cons (pg_name (i := 5) sc_read_book.nd rfl (.inl rfl)) pgs_nil)))))
    (pss_cons (ps_if (PW.pt (pw_or (pt_cmpR op_eq (pv 4) pe_int (nomark _)) (pw_or (pt_cmpR op_eq (pv 5) pe_int (nomark _)) (pw_or1 (pt_cmpR op_eq (pv 5) (pv 2) (nomark _))))))
      (pss_one (ps_raise rfl (takes_of rfl rfl rfl rfl) (pmk_oex T.C_Unreadable T.i_Unreadable T.t_Unreadable G_Unreadable___init__ hr T.b_Unreadable___init__ .nil pass0 (by rfl) T.m_Unreadable (pa_cons (pv 0) pa_nil))))
      pss_nil)
    (pss_cons (ps_expr (HS.kbm K (pe_bm PySem.F.plainAttrs_list PySem.F.slot_list_append PySem.F.type_list_append mt_append (pv 1) (pa_cons (pe_tup (pa_cons (pv 4) (pa_cons (pv 5) pa_nil))) pa_nil))))
    (pss_one (ps_set (i := 2) sc_read_book.nd rfl (.inl rfl) (pv 5)))))))
    (pss_cons (ps_set (i := 6) sc_read_book.nd rfl (.inl rfl) (pe_lst pa_nil))
    (pss_cons (ps_for (passes_of rfl) rfl (HS.kil K (pi_list (pv 1))) (HS.kgt K (pg_tup rfl (pgs_cons (pg_name (i := 4) sc_read_book.nd rfl (.inl rfl)) (pgs_cons (pg_name (i := 5) sc_read_book.nd rfl (.inl rfl)) pgs_nil))))
      (pss_one (ps_expr (HS.kbm K (pe_bm PySem.F.plainAttrs_list PySem.F.slot_list_extend PySem.F.type_list_extend mt_extend (pv 6) (pa_cons (pe_op op_rep (pe_lst (pa_cons (pv 5) pa_nil)) (pv 4)) pa_nil))))))
    (pss_one (ps_ret (pv 6))))))))), ?_⟩
    obtain ⟨hl, hm, kE, kQ⟩ := hw
    walk_at "hs"
    refine HS.eqStr ?_
    walk_at "hs"
    refine HS.itd (fun he => ?_) (fun he => ?_)
    · walk_at "hs"
      intro p hp
      exact kQ [] (if_pos he) _ p (.new hp) hp upd_same
    have eR : readR t = (goR (Txt.split t " + ") 0).map spread := if_neg he
    walk_at "hs"
    intro F hF
    generalize hG_F : upd _ F _ = H1
    have at_F := HS.upgs hG_F
    have Kn_F := HS.upgK hG_F hF
    clear hG_F
    walk_at "hs"
    refine ⟨t, _, rfl, rfl, rfl, by have := HS.szl (n := t.length + 2) (by omega); exact this, ?_⟩
    have at_F1 := at_F
    intro P hP
    generalize hG_P : upd _ P _ = H2
    have at_P := HS.upgs hG_P
    have Kn_P := HS.upgK hG_P hP
    clear hG_P
    have at_F := Kn_P _ _ at_F id
    have pl := split_len t
    have pm : ∀ p ∈ Txt.split t " + ", p.length ≤ t.length := fun p hp => split_mem hp
    have K2 := Kn_F.trans Kn_P
    generalize Txt.split t " + " = parts at hm eR at_P pl pm ⊢
    walk_at "hs"
    refine ⟨⟨_, HS.sq at_P⟩, for_list (xs := parts.map V.str) (fun i σ H' => HS.Keep (fun a => a = F) H2 H' ∧ HS.Keep (fun _ => False) H H' ∧ ∃ (ps : List (Int × Int)) (vs : List V) (b : Int) (x3 x4 x5 : Option V), σ = [some (.str t), some (.ref F), some (.int b), x3, x4, x5, none] ∧ H' F = some (.lst vs) ∧ HS.Prs H' vs ps ∧ (goR (parts.drop i) b).map (fun r => ps ++ r) = goR parts 0 ∧ ps.length = i) ⟨.refl, K2, [], [], 0, _, _, _, rfl, at_F, trivial, by rw [List.drop_zero]; cases goR parts 0 <;> rfl, rfl⟩ (fun i σ H' _ ⟨K', _⟩ => HS.sq (K' _ _ at_P (ne_of_none at_F1 hP).symm)) ?_ ?_⟩
    · rintro i x σ H3 hi ⟨K3, K30, ps, vs, b, x3, x4, x5, rfl, hF3, hps, hgo, hpl⟩
      obtain ⟨w, rfl, hw⟩ : ∃ w, x = .str w ∧ parts[i]? = some w := by
        rw [List.getElem?_map] at hi
        cases e : parts[i]? with
        | none => rw [e] at hi; cases hi
        | some w => rw [e] at hi; exact ⟨w, (Option.some.inj hi).symm, rfl⟩
      have hil := (List.getElem?_eq_some_iff.mp hw).1
      have ed : parts.drop i = w :: parts.drop (i + 1) := by rw [List.drop_eq_getElem_cons hil]; congr 1; rw [List.getElem?_eq_getElem hil] at hw; exact Option.some.inj hw
      have wl := pm w (List.mem_of_getElem? hw)
      have vl := hps.len
      rw [ed, goR] at hgo
      walk_at "hs"
      refine ⟨w, rfl, by omega, fun H4 q K4 _ hq => ?_⟩
      have hF4 := K4 _ _ hF3 id
      have hps4 := HS.Prs.same hps K4
      have K40 := K30.trans K4
      have K42 := K3.trans K4.any
      walk_at "hs"
      generalize chR w = cw at hgo hq ⊢
      have bad : (cw.1 = 0 ∨ cw.2 = 0 ∨ cw.2 = b) → readR t = none := fun h => by
        rw [if_pos h] at hgo
        rw [eR, ← hgo]; rfl
      refine HS.itd (fun h1 => ?_) (fun h1 => ?_)
      · walk_at "hs"
        exact HS.mk1 (fun H' Q' E' b h1 h2 h3 h4 => ⟨b, _, _, rfl, h1, h2, h3, h4⟩) T.C_Unreadable T.n_Unreadable fun H' d k hd e => kE (bad (.inl h1)) H' d (K40.trans k) (K40.free hd id) e
      walk_at "hs"
      refine HS.itd (fun h2 => ?_) (fun h2 => ?_)
      · walk_at "hs"
        exact HS.mk1 (fun H' Q' E' b h1 h2 h3 h4 => ⟨b, _, _, rfl, h1, h2, h3, h4⟩) T.C_Unreadable T.n_Unreadable fun H' d k hd e => kE (bad (.inr (.inl h2))) H' d (K40.trans k) (K40.free hd id) e
      walk_at "hs"
      refine HS.itd (fun h3 => ?_) (fun h3 => ?_)
      · walk_at "hs"
        exact HS.mk1 (fun H' Q' E' b h1 h2 h3 h4 => ⟨b, _, _, rfl, h1, h2, h3, h4⟩) T.C_Unreadable T.n_Unreadable fun H' d k hd e => kE (bad (.inr (.inr h3))) H' d (K40.trans k) (K40.free hd id) e
      rw [if_neg (by omega)] at hgo
      walk_at "hs"
      intro u hu
      have hFu : F ≠ u := ne_of_none hF4 hu
      have hF5 : upd H4 u (.tup [.int cw.1, .int cw.2]) F = some (.lst vs) := by rw [upd_ne hFu]; exact hF4
      walk_at "hs"
      refine ⟨(K42.trans (HS.Keep.new hu).any).trans (HS.Keep.at HS.Keep.refl rfl), (K40.trans (.new hu)).put hF, ps ++ [cw], vs ++ [.ref u], _, _, _, _, rfl, upd_same, ?_, ?_, by rw [List.length_append, hpl]; rfl⟩
      · exact HS.Prs.snoc (HS.Prs.put hF5 (HS.Prs.new hu hps4)) (by rw [upd_ne (Ne.symm hFu)]; exact upd_same)
      · rw [← hgo]
        cases goR (parts.drop (i + 1)) cw.2 with
        | none => rfl
        | some r => show some (ps ++ [cw] ++ r) = some (ps ++ cw :: r); rw [List.append_assoc]; rfl
    · rintro σ H3 ⟨K3, K30, ps, vs, b, x3, x4, x5, rfl, hF3, hps, hgo, hpl⟩
      rw [List.length_map, List.drop_length, goR] at hgo
      have hgo' : goR parts 0 = some ps := by rw [← hgo]; show some (ps ++ []) = some ps; rw [List.append_nil]
      obtain ⟨sp, sm⟩ := hm ps hgo'
      have eR' : readR t = some (spread ps) := by rw [eR, hgo']; rfl
      have vl := hps.len
      walk_at "hs"
      have hF3' := hF3
      intro B hB
      generalize hG_B : upd _ B _ = H4
      have at_B := HS.upgs hG_B
      have Kn_B := HS.upgK hG_B hB
      clear hG_B
      have hF3 := Kn_B _ _ hF3 id
      have hps := HS.Prs.same hps Kn_B
      have K40 := K30.trans Kn_B
      have hFB : F ≠ B := ne_of_none hF3' hB
      walk_at "hs"
      refine ⟨⟨_, HS.sq hF3⟩, for_list (xs := vs) (fun i σ H' => HS.Keep (fun a => a = B) H4 H' ∧ HS.Keep (fun _ => False) H H' ∧ H' B = some (.lst ((spread (ps.take i)).map V.int)) ∧ ∃ (x4 x5 : Option V), σ = [some (.str t), some (.ref F), some (.int b), x3, x4, x5, some (.ref B)]) ⟨.refl, K40, at_B, _, _, rfl⟩ (fun i σ H' _ ⟨K', _⟩ => HS.sq (K' _ _ hF3 hFB)) ?_ ?_⟩
      · rintro i x σ H5 hi ⟨K5, K50, hB5, x4, x5, rfl⟩
        obtain ⟨q, p, rfl, hp, hq⟩ := HS.Prs.at hps hi
        have hqB : q ≠ B := fun z => by rw [z, at_B] at hq; cases hq
        have hq5 := K5 _ _ hq hqB
        have es := spread_take_succ hp
        have s1 := spread_take_le ps (i + 1)
        rw [es, List.length_append, List.length_replicate] at s1
        obtain ⟨m, z⟩ := p
        have s1' : (spread (ps.take i)).length + m.toNat ≤ (spread ps).length := s1
        have hq5' : H5 q = some (.tup [.int m, .int z]) := hq5
        have mn : 0 ≤ m := (goR_nn hgo' _ (List.mem_of_getElem? hp)).1
        have mx : m ≤ 1000000 := sm _ (List.mem_of_getElem? hp)
        walk_at "hs"
        intro u hu
        generalize hG_u : upd _ u _ = H6
        have at_u := HS.upgs hG_u
        have Kn_u := HS.upgK hG_u hu
        clear hG_u
        have hB5 := Kn_u _ _ hB5 id
        walk_at "hs"
        refine HS.rep1 at_u (by omega) (by omega) ?_
        intro v hv
        generalize hG_v : upd _ v _ = H7
        have at_v := HS.upgs hG_v
        have Kn_v := HS.upgK hG_v hv
        clear hG_v
        have hB5 := Kn_v _ _ hB5 id
        walk_at "hs"
        refine ⟨by rw [List.length_map, List.length_replicate]; exact Nat.le_trans (show _ ≤ 16000000 by omega) (by decide), ((K5.trans ((Kn_u.trans Kn_v).any)).trans (HS.Keep.at HS.Keep.refl rfl)), (K50.trans (Kn_u.trans Kn_v)).put (K30.free hB id), ?_, _, _, rfl⟩
        rw [upd_same, es, List.map_append, List.map_replicate]
      · rintro σ H5 ⟨K5, K50, hB5, x4, x5, rfl⟩
        rw [← vl.symm, List.take_length] at hB5
        walk_at "hs"
        exact kQ _ eR' _ B K50 (K30.free hB id) hB5
def sp__law_total (K : PySem.W.Frag) : Sp := fun vs H Q _ => ∃ (b : Addr) (ls : List Int) (j : Int), vs = [.ref b, .int j] ∧ (SqL K H b (ls.map V.int) ∧ 1 ≤ j ∧ j < 2 ^ 200 ∧ Q (.int (pcount ls j)) H)
theorem ok__law_total (T : Txt K mg A) : FnOk P w K mg base CX0 2 A.a__law_total A.d__law_total ["lengths", "wide"] (sp__law_total K) := by
  have G__law_sheets : FnOk P w K mg base CX0 1 A.a__law_sheets A.d__law_sheets ["long", "wide"] (sp__law_sheets K) := ok__law_sheets T
  refine T.F__law_total.ok sc__law_total (fun vs H Q E h => ?_) (fun cdv A0 outer s H vs Q E hr h => ?_)
  · obtain ⟨b, ls, j, rfl, hw⟩ := h
    rfl
  · obtain ⟨b, ls, j, rfl, hw⟩ := h
    refine ⟨_, (pss_cons (ps_set (i := 2) sc__law_total.nd rfl (.inl rfl) pe_int)
    (pss_cons (ps_for PassesOwn.never rfl (HS.kil K (pi_list (pv 0))) (pg_name (i := 3) sc__law_total.nd rfl (.inl rfl))
      (pss_one (ps_set (i := 2) sc__law_total.nd rfl (.inl rfl) (pe_op op_add (pv 2) (pe_call G__law_sheets hr (by rfl) T.g__law_sheets T.F__law_sheets.kp T.b__law_sheets .nil pass0 (pa_cons (pv 3) (pa_cons (pv 1) pa_nil)))))))
    (pss_one (ps_ret (pv 2))))), ?_⟩
    obtain ⟨h1, h3, h4, k⟩ := hw
    walk_at "hs"
    refine ⟨⟨_, h1⟩, for_list (xs := ls.map V.int) (fun i σ H' => H' = H ∧ ∃ x3, σ = [some (.ref b), some (.int j), some (.int (pcount (ls.take i) j)), x3]) ⟨rfl, _, rfl⟩ (fun i σ H' _ ⟨e, _⟩ => e ▸ h1) ?_ ?_⟩
    · rintro i x σ H' hi ⟨rfl, x3, rfl⟩
      obtain ⟨z, rfl, hz, hil⟩ := HS.get_int hi
      walk_at "hs"
      refine ⟨z, j, rfl, h3, h4, ?_⟩
      walk_at "hs"
      exact ⟨rfl, some (.int z), by rw [pcount_take j hz]; rfl⟩
    · rintro σ H' ⟨rfl, x3, rfl⟩
      walk_at "hs"
      rw [List.length_map, List.take_length]
      exact k
def sp__law_first (K : PySem.W.Frag) : Sp := fun vs H Q _ => ∃ (b : Addr) (ls : List Int) (m : Int) (q : Nat), vs = [.ref b, .int m, .int q] ∧ (SqL K H b (ls.map V.int) ∧ (∀ x ∈ ls, 1 ≤ x) ∧ ls.length ≤ 50000 ∧ 1 ≤ q ∧ q ≤ 100 ∧ (q : Int) ≤ m ∧ m < 2 ^ 190 ∧ ∀ H' p, HS.Keep (fun _ => False) H H' → H p = none → H' p = some (.lst ((List.range q).map fun (i : Nat) => V.int (pcount ls ((i : Int) + 1)))) → Q (.ref p) H')
theorem ok__law_first (T : Txt K mg A) : FnOk P w K mg base CX0 5 A.a__law_first A.d__law_first ["lengths", "most", "many"] (sp__law_first K) := by
  have G2_counts : HS.GFn2 P w K mg base 3 A.a_counts A.d_counts ["book", "limit"] (sp2_counts K) := ok2_counts T
  refine T.F__law_first.ok sc__law_first (fun vs H Q E h => ?_) (fun cdv A0 outer s H vs Q E hr h => ?_)
  · obtain ⟨b, ls, m, q, rfl, hw⟩ := h
    rfl
  · obtain ⟨b, ls, m, q, rfl, hw⟩ := h
    refine ⟨_, (pss_cons (ps_set (i := 3) sc__law_first.nd rfl (.inl rfl) (pe_lst pa_nil))
    (pss_cons (HS.ps_forG PassesOwn.never HS.no_fail HS.no_stop (hr.mono (by decide)) (HS.pgen2_call G2_counts (hr.mono (by decide)) (by rfl) T.g_counts T.F_counts.kp T.b_counts .nil (pa_cons (pv 0) (pa_cons (pv 1) pa_nil))) (pg_name (i := 4) sc__law_first.nd rfl (.inl rfl))
      (pss_cons (ps_expr (HS.kbm K (pe_bm PySem.F.plainAttrs_list PySem.F.slot_list_append PySem.F.type_list_append mt_append (pv 3) (pa_cons (pv 4) pa_nil))))
    (pss_one (ps_if (pt_cmpR op_eq (pe_callB (HS.klen K) (by rfl) T.z_len PySem.boot_len (pa_cons (pv 3) pa_nil)) (pv 2) (nomark _))
      (pss_one ps_break)
      pss_nil))))
    (pss_one (ps_ret (pv 3))))), ?_⟩
    obtain ⟨hb, hp, hl, q1, q2, hq, hm, k⟩ := hw
    walk_at "hs"
    intro F hF
    generalize hG_F : upd _ F _ = H1
    have at_F := HS.upgs hG_F
    have Kn_F := HS.upgK hG_F hF
    clear hG_F
    walk_at "hs"
    refine HS.forG ?_
    walk_at "hs"
    have hb1 := Kn_F.sq hb id
    refine ⟨q, fun i σ H' => i < q ∧ HS.Keep (fun _ => False) H H' ∧ H' F = some (.lst ((List.range i).map fun (i : Nat) => V.int (pcount ls ((i : Int) + 1)))) ∧ ∃ x4, σ = [some (.ref b), some (.int m), some (.int q), some (.ref F), x4], ⟨by omega, Kn_F, at_F, _, rfl⟩, fun i σ H' z => Nat.le_of_lt z.1, ?_⟩
    unfold HS.WantG sp2_counts
    refine ⟨b, ls, m, rfl, hb1, hp, hl, by omega, hm, fun i H' ⟨σ', z⟩ => z.2.1.sq hb id, ?_, ?_⟩
    · rintro i Hw H' _ _ K3 hi σ' ⟨p1, K2, p3, x4, rfl⟩ _
      have p3 := K3 _ _ p3 id
      have K2 := K2.trans K3
      walk_at "hs"
      have ea : ((List.range i).map fun (i : Nat) => V.int (pcount ls ((i : Int) + 1))) ++ [V.int (pcount ls ((i : Int) + 1))] = (List.range (i + 1)).map fun (i : Nat) => V.int (pcount ls ((i : Int) + 1)) := by
        rw [List.range_succ, List.map_append]; rfl
      refine ⟨HS.sz (by simp; omega), ?_⟩
      rw [ea]
      have K3' := K2.put (o := .lst ((List.range (i + 1)).map fun (i : Nat) => V.int (pcount ls ((i : Int) + 1)))) hF
      have at_F3 := upd_same (H := H') (a := F) (o := .lst ((List.range (i + 1)).map fun (i : Nat) => V.int (pcount ls ((i : Int) + 1))))
      generalize upd H' F (.lst ((List.range (i + 1)).map fun (i : Nat) => V.int (pcount ls ((i : Int) + 1)))) = H5 at K3' at_F3 ⊢
      walk_at "hs"
      refine HS.itd (fun hq' => ?_) (fun hq' => ?_)
      · rw [List.length_map, List.length_range] at hq'
        have e : i + 1 = q := by omega
        rw [e] at at_F3
        walk_at "hs"
        exact k _ F K3' hF at_F3
      · rw [List.length_map, List.length_range] at hq'
        walk_at "hs"
        exact ⟨by omega, K3', at_F3, _, rfl⟩
    · rintro i Hw H' _ _ K3 hi σ' ⟨p1, K2, p3, x4, rfl⟩ _
      omega
def sp__law_pairs (K : PySem.W.Frag) : Sp := fun vs H Q _ => ∃ (b : Addr) (ls : List Int) (m : Int), vs = [.ref b, .int m] ∧ (SqL K H b (ls.map V.int) ∧ (∀ x ∈ ls, 1 ≤ x) ∧ ls.length ≤ 50000 ∧ 0 ≤ m ∧ m ≤ 3 ∧ ∀ H' p vs ps, HS.Keep (fun _ => False) H H' → H p = none → H' p = some (.lst vs) → HS.Prs H' vs ps → ps = ((List.range m.toNat).map fun (i : Nat) => (List.range m.toNat).map fun (j : Nat) => (pcount ls ((i : Int) + 1), pcount ls ((j : Int) + 1))).flatten → Q (.ref p) H')
theorem ok__law_pairs (T : Txt K mg A) : FnOk P w K mg base CX0 5 A.a__law_pairs A.d__law_pairs ["lengths", "most"] (sp__law_pairs K) := by
  have G2_counts : HS.GFn2 P w K mg base 3 A.a_counts A.d_counts ["book", "limit"] (sp2_counts K) := ok2_counts T
  refine T.F__law_pairs.ok sc__law_pairs (fun vs H Q E h => ?_) (fun cdv A0 outer s H vs Q E hr h => ?_)
  · obtain ⟨b, ls, m, rfl, hw⟩ := h
    rfl
  · obtain ⟨b, ls, m, rfl, hw⟩ := h
    refine ⟨_, (pss_cons (ps_set (i := 2) sc__law_pairs.nd rfl (.inl rfl) (pe_lst pa_nil))
    (pss_cons (HS.ps_forG PassesOwn.never HS.no_fail HS.no_stop (hr.mono (by decide)) (HS.pgen2_call G2_counts (hr.mono (by decide)) (by rfl) T.g_counts T.F_counts.kp T.b_counts .nil (pa_cons (pv 0) (pa_cons (pv 1) pa_nil))) (pg_name (i := 3) sc__law_pairs.nd rfl (.inr rfl))
      (pss_one (ps_expr (HS.kbm K (pe_bm PySem.F.plainAttrs_list PySem.F.slot_list_extend PySem.F.type_list_extend mt_extend (pv 2) (pa_cons (HS.pe_lcG (own := [("other", 4)]) (g := gName 4) (tt := tYes) (hr.mono (by decide)) sc__law_pairs.nd (HS.pgen2_call G2_counts (hr.mono (by decide)) (by rfl) T.g_counts T.F_counts.kp T.b_counts .nil (pa_cons (pv 0) (pa_cons (pv 1) pa_nil))) (blkOk_by (own := [("other", 4)]) (N := N__law_pairs) (sc := defScope s__law_pairs) (by decide +kernel)) (by decide +kernel) (fun _ _ _ _ _ => pg_name (i := 4) sc__law_pairs.nd rfl (by first | exact .inl rfl | exact .inr rfl)) (fun _ _ _ _ _ => pts_nil) (fun _ _ _ _ _ => (pe_tup (pa_cons (pv 3) (pa_cons (pv 4) pa_nil))))) pa_nil))))))
    (pss_one (ps_ret (pv 2))))), ?_⟩
    obtain ⟨hb, hp, hl, h0, h3, k⟩ := hw
    walk_at "hs"
    intro F hF
    generalize hG_F : upd _ F _ = H1
    have at_F := HS.upgs hG_F
    have Kn_F := HS.upgK hG_F hF
    clear hG_F
    walk_at "hs"
    refine HS.forG ?_
    walk_at "hs"
    have hb1 := Kn_F.sq hb id
    refine ⟨m.toNat, fun i σ H' => i ≤ m.toNat ∧ HS.Keep (fun _ => False) H H' ∧ ∃ (vs : List V) (ps : List (Int × Int)) (x3 : Option V), σ = [some (.ref b), some (.int m), some (.ref F), x3, none] ∧ H' F = some (.lst vs) ∧ vs.length ≤ 3 * i ∧ HS.Prs H' vs ps ∧ ps = ((List.range i).map fun (i : Nat) => (List.range m.toNat).map fun (j : Nat) => (pcount ls ((i : Int) + 1), pcount ls ((j : Int) + 1))).flatten, ⟨by omega, Kn_F, [], [], _, rfl, at_F, Nat.le_refl _, trivial, rfl⟩, fun i σ H' z => z.1, ?_⟩
    unfold HS.WantG sp2_counts
    refine ⟨b, ls, m, rfl, hb1, hp, hl, h0, by omega, fun i H' ⟨σ', z⟩ => z.2.1.sq hb id, ?_, ?_⟩
    · rintro i Hw H2 _ _ K3 hi σ' ⟨p1, K2, vs, ps, x3, rfl, hF2, hvl, hps, rfl⟩ _
      have hF2 := K3 _ _ hF2 id
      have hps := hps.same K3
      have K2 := K2.trans K3
      walk_at "hs"
      refine HS.lcG ?_
      walk_at "hs"
      refine ⟨m.toNat, PairW ls m H2 (pcount ls ((i : Int) + 1)), fun D j H' z => ⟨z.1, by obtain ⟨_, _, _, ws, z, _⟩ := z; exact ⟨ws, z⟩⟩, ?_⟩
      unfold HS.WantC
      refine ⟨b, ls, m, rfl, K2.sq hb id, hp, hl, h0, by omega, fun i H' ⟨D, z⟩ => z.2.2.1.sq (K2.sq hb id) id, ?_, ?_⟩
      · rintro j Hv H3 _ _ K4 hj D d0 d1
        have st := PairW.step (by omega) K4 d0 d1
        generalize HS.lifted (fun H => upd H D (.lst [])) j H3 = H4 at st ⊢
        obtain ⟨z1, z2, z3, ws, z4, z5, z6⟩ := st
        walk_at "hs"
        intro p hp2
        have Kp : HS.Keep (fun _ => False) H4 (upd H4 p (.tup [.int (pcount ls ((i : Int) + 1)), .int (pcount ls ((j : Int) + 1))])) := .new hp2
        have hD5 := Kp _ _ z4 id
        have hp5 := upd_same (H := H4) (a := p) (o := .tup [.int (pcount ls ((i : Int) + 1)), .int (pcount ls ((j : Int) + 1))])
        have hDp : D ≠ p := ne_of_none z4 hp2
        generalize upd H4 p (.tup [.int (pcount ls ((i : Int) + 1)), .int (pcount ls ((j : Int) + 1))]) = H5 at Kp hD5 hp5 ⊢
        refine ⟨ws, hD5, HS.sz (by omega), by omega, z2, (z3.trans Kp).put z2, ws ++ [.ref p], upd_same, by simp; omega, ?_⟩
        rw [List.range_succ, List.map_append]
        exact HS.Prs.snoc (HS.Prs.put hD5 (z6.same Kp)) (by rw [upd_ne (Ne.symm hDp)]; exact hp5)
      · rintro j Hv H3 _ _ K4 hj D d0 d1
        have st := PairW.step (by omega) K4 d0 d1
        generalize HS.lifted (fun H => upd H D (.lst [])) j H3 = H4 at st ⊢
        obtain ⟨z1, z2, z3, ws, z4, z5, z6⟩ := st
        have ej : j = m.toNat := by omega
        have hF4 := z3 _ _ hF2 id
        walk_at "hs"
        refine ⟨by omega, (K2.trans z3).put hF, vs ++ ws, _, _, rfl, upd_same, by rw [List.length_append]; omega, HS.Prs.put hF4 ((hps.same z3).app z6), ?_⟩
        rw [List.range_succ, List.map_append, List.flatten_append, ej]
        simp
    · rintro i Hw H2 _ _ K3 hi σ' ⟨p1, K2, vs, ps, x3, rfl, hF2, hvl, hps, rfl⟩ _
      have e : m.toNat = i := by omega
      have hF2 := K3 _ _ hF2 id
      walk_at "hs"
      exact k _ F vs _ (K2.trans K3) hF hF2 (hps.same K3) (by rw [e])
def sp__law_walks_right (K : PySem.W.Frag) : Sp := fun vs H Q _ => ∃ (s d b : Addr) (ls : List Int) (n : Nat), vs = [.ref s, .ref b] ∧ (Src H s d n ∧ SqL K H b (ls.map V.int) ∧ b ≠ s ∧ b ≠ d ∧ ls.length ≤ 1000 ∧ Book ls ∧ n < 2 ^ 38 ∧ ∀ H', HS.Keep (fun a => a = s ∨ a = d) H H' → Src H' s d (n + 3) → Q (.bl true) H')
theorem ok__law_walks_right (T : Txt K mg A) : FnOk P w K mg base CX0 7 A.a__law_walks_right A.d__law_walks_right ["source", "lengths"] (sp__law_walks_right K) := by
  have G__law_draw : FnOk P w K mg base CX0 1 A.a__law_draw A.d__law_draw ["source", "many"] (sp__law_draw K) := ok__law_draw T
  have G__law_total : FnOk P w K mg base CX0 2 A.a__law_total A.d__law_total ["lengths", "wide"] (sp__law_total K) := ok__law_total T
  have G__law_same : FnOk P w K mg base CX0 4 A.a__law_same A.d__law_same ["found", "wanted"] (sp__law_same 3 K) := ok__law_same T 3
  have G_counts : GFn P w K mg base 3 A.a_counts A.d_counts ["book", "limit"] (sp_counts K) := ok_counts T
  have G__law_first : FnOk P w K mg base CX0 5 A.a__law_first A.d__law_first ["lengths", "most", "many"] (sp__law_first K) := ok__law_first T
  have G__law_pairs : FnOk P w K mg base CX0 5 A.a__law_pairs A.d__law_pairs ["lengths", "most"] (sp__law_pairs K) := ok__law_pairs T
  refine T.F__law_walks_right.ok sc__law_walks_right (fun vs H Q E h => ?_) (fun cdv A0 outer s H vs Q E hr h => ?_)
  · obtain ⟨s, d, b, ls, n, rfl, hw⟩ := h
    rfl
  · obtain ⟨s, d, b, ls, n, rfl, hw⟩ := h
    refine ⟨_, (pss_cons (ps_set (i := 2) sc__law_walks_right.nd rfl (.inl rfl) (pe_call G__law_draw (hr.mono (by decide)) (by rfl) T.g__law_draw T.F__law_draw.kp T.b__law_draw .nil pass0 (pa_cons (pv 0) (pa_cons (pe_ix (HS.ixl K) (pe_lst (pa_cons pe_int (pa_cons pe_int (pa_cons pe_int (pa_cons pe_int pa_nil))))) (pe_call G__law_draw (hr.mono (by decide)) (by rfl) T.g__law_draw T.F__law_draw.kp T.b__law_draw .nil pass0 (pa_cons (pv 0) (pa_cons pe_int pa_nil))) (fun _ _ => rfl)) pa_nil))))
    (pss_cons (ps_setLc (i := 3) (own := [("wide", 7)]) (g := gName 7) (tt := tYes) rfl sc__law_walks_right.nd rfl rfl (sw_true rfl rfl rfl (by decide +kernel)) (pi_range2 (by rfl) T.z_range (pa_cons pe_int (pa_cons (pe_op op_add (pv 2) pe_int) pa_nil))) (blkOk_by (own := [("wide", 7)]) (N := N__law_walks_right) (sc := defScope s__law_walks_right) (by decide +kernel)) (fun _ _ _ _ _ => pg_name (i := 7) sc__law_walks_right.nd rfl (by first | exact .inl rfl | exact .inr rfl)) (fun _ _ _ _ _ => pts_nil) (fun _ _ _ _ _ => (pe_call G__law_total (hr.mono (by decide)) (by rfl) T.g__law_total T.F__law_total.kp T.b__law_total .nil pass0 (pa_cons (pv 1) (pa_cons (pv 7) pa_nil)))))
    (pss_cons (ps_if (pt_not (pt_val (pe_call G__law_same (hr.mono (by decide)) (by rfl) T.g__law_same T.F__law_same.kp T.b__law_same .nil pass0 (pa_cons (pe_lst (pa_cons (pe_listG (pgen_call G_counts (hr.mono (by decide)) (by rfl) T.g_counts T.F_counts.kp T.b_counts .nil (pa_cons (pv 1) (pa_cons (pv 2) pa_nil))) passL (fun _ _ _ h => h.elim) (hr.mono (by decide)) (by rfl) T.z_list (by decide +kernel)) (pa_cons (pe_listG (HS.pgen_kw0 G_counts (hr.mono (by decide)) (by rfl) T.g_counts T.F_counts.kp T.kb_counts_0_limit_book (pk_cons (pv 2) (pk_cons (pv 1) pk_nil))) passL (fun _ _ _ h => h.elim) (hr.mono (by decide)) (by rfl) T.z_list (by decide +kernel)) pa_nil))) (pa_cons (pe_op op_rep (pe_lst (pa_cons (pv 3) pa_nil)) pe_int) pa_nil)))))
      (pss_one (ps_ret pe_bl))
      pss_nil)
    (pss_cons (ps_set (i := 4) sc__law_walks_right.nd rfl (.inl rfl) (pe_op op_add pe_int (pe_call G__law_draw (hr.mono (by decide)) (by rfl) T.g__law_draw T.F__law_draw.kp T.b__law_draw .nil pass0 (pa_cons (pv 0) (pa_cons pe_int pa_nil)))))
    (pss_cons (ps_if (pt_not (pt_val (pe_call G__law_same (hr.mono (by decide)) (by rfl) T.g__law_same T.F__law_same.kp T.b__law_same .nil pass0 (pa_cons (pe_call G__law_first (hr.mono (by decide)) (by rfl) T.g__law_first T.F__law_first.kp T.b__law_first .nil pass0 (pa_cons (pv 1) (pa_cons (HS.pe_fold (999999999999999999999999999999) (pe_op op_sub (pe_op op_pow pe_int pe_int) pe_int) (by intro σ H Q q; walk_at "fold")) (pa_cons (pv 4) pa_nil)))) (pa_cons (pe_lc (own := [("spot", 8)]) (g := gName 8) (tt := tYes) rfl sc__law_walks_right.nd (pi_range1 (by rfl) T.z_range (pa_cons (pv 4) pa_nil)) (blkOk_by (own := [("spot", 8)]) (N := N__law_walks_right) (sc := defScope s__law_walks_right) (by decide +kernel)) (fun _ _ _ _ _ => pg_name (i := 8) sc__law_walks_right.nd rfl (by first | exact .inl rfl | exact .inr rfl)) (fun _ _ _ _ _ => pts_nil) (fun _ _ _ _ _ => (pe_call G__law_total (hr.mono (by decide)) (by rfl) T.g__law_total T.F__law_total.kp T.b__law_total .nil pass0 (pa_cons (pv 1) (pa_cons (pe_op op_add pe_int (pv 8)) pa_nil))))) pa_nil)))))
      (pss_one (ps_ret pe_bl))
      pss_nil)
    (pss_cons (ps_set (i := 5) sc__law_walks_right.nd rfl (.inl rfl) (pe_lst pa_nil))
    (pss_cons (ps_for PassesOwn.never rfl (HS.kil K (pi_list (pe_slice (HS.sll K) (pv 3) po_none (po_some pe_int)))) (pg_name (i := 6) sc__law_walks_right.nd rfl (.inr rfl))
      (pss_one (ps_expr (HS.kbm K (pe_bm PySem.F.plainAttrs_list PySem.F.slot_list_extend PySem.F.type_list_extend mt_extend (pv 5) (pa_cons (pe_lc (own := [("other", 9)]) (g := gName 9) (tt := tYes) rfl sc__law_walks_right.nd (HS.kil K (pi_list (pe_slice (HS.sll K) (pv 3) po_none (po_some pe_int)))) (blkOk_by (own := [("other", 9)]) (N := N__law_walks_right) (sc := defScope s__law_walks_right) (by decide +kernel)) (fun _ _ _ _ _ => pg_name (i := 9) sc__law_walks_right.nd rfl (by first | exact .inl rfl | exact .inr rfl)) (fun _ _ _ _ _ => pts_nil) (fun _ _ _ _ _ => (pe_tup (pa_cons (pv 6) (pa_cons (pv 9) pa_nil))))) pa_nil))))))
    (pss_one (ps_ret (pe_cmpR (HS.keq K (hu64 hr)) (pe_call G__law_pairs (hr.mono (by decide)) (by rfl) T.g__law_pairs T.F__law_pairs.kp T.b__law_pairs .nil pass0 (pa_cons (pv 1) (pa_cons (pe_callB (call_min2 rfl) (by rfl) T.z_min (by decide +kernel) (pa_cons pe_int (pa_cons (pv 2) pa_nil))) pa_nil))) (pv 5) (nomark _))))))))))), ?_⟩
    obtain ⟨S0, hb, bs, bd, hl, hB, hn, k⟩ := hw
    have hp : ∀ x ∈ ls, 1 ≤ x := fun x hx => (hB x hx).1
    walk_at "hs"
    intro p1 hp1
    generalize hG_p1 : upd _ p1 _ = H1
    have at_p1 := HS.upgs hG_p1
    have Kn_p1 := HS.upgK hG_p1 hp1
    clear hG_p1
    have e1 := S0.ne1 hp1
    have e2 := S0.ne2 hp1
    walk_at "hs"
    refine ⟨s, d, 4, n, rfl, S0.same Kn_p1, by decide, by decide, by omega, fun H2 v K2 S2 v0 v1 => ?_⟩
    refine HS.ixI [4, 60, 60, 900] (K2.sq (HS.sq at_p1) (by walk_at "ns")) v0 v1 fun wd _ hw => ?_
    have hwd : 4 ≤ wd ∧ wd ≤ 900 := by
      simp only [List.mem_cons, List.not_mem_nil, or_false] at hw
      omega
    have K02 : HS.Keep (fun a => a = s ∨ a = d) H H2 := HS.Keep.trans Kn_p1.any K2
    walk_at "hs"
    refine ⟨s, d, wd, _, rfl, S2, by omega, by omega, by omega, fun H3 most K3 S3 m0 m1 => ?_⟩
    have K03 := K02.trans K3
    have hb3 := K03.sq hb (by walk_at "ns")
    clear hw
    obtain ⟨q, rfl⟩ := Int.eq_ofNat_of_zero_le m0
    have hq : q < 900 := by omega
    walk_at "hs"
    rw [show ((q : Int) + 1 - 1).toNat = q by omega]
    refine ⟨by omega, fun D hD => lc_range (lo := 1) (n := q) (fun i H' => HS.Keep (fun _ => False) H3 H' ∧ H' D = some (.lst ((cnt ls i).map V.int))) ⟨.new hD, upd_same⟩ ?_ ?_⟩
    · rintro i H4 hi ⟨K4, hD4⟩
      walk_at "hs"
      refine ⟨b, ls, _, rfl, K4.sq hb3 id, by omega, by omega, ?_⟩
      refine ⟨_, hD4, HS.sz (by unfold cnt; simp; omega), K4.put hD, ?_⟩
      rw [upd_same, cnt_succ, List.map_append, show (1 : Int) + i = i + 1 by omega]
      rfl
    rintro H4 ⟨K4, hD4⟩
    have hb4 := K4.sq hb3 id
    have S4 := S3.same K4
    have K04 := K03.trans K4.any
    have hDs := S3.ne1 hD
    have hDd := S3.ne2 hD
    have hDn : H D = none := K03.free hD (by walk_at "ns")
    walk_at "hs"
    refine ⟨b, ls, q, rfl, hb4, hp, by omega, by omega, by omega, fun H5 K5 => ?_⟩
    rw [Int.toNat_natCast, cnt_map]
    have hD5 := K5 _ _ hD4 id
    intro p2 hp2
    generalize hG_p2 : upd _ p2 _ = H6
    have at_p2 := HS.upgs hG_p2
    have Kn_p2 := HS.upgK hG_p2 hp2
    clear hG_p2
    have hD5 := Kn_p2 _ _ hD5 id
    walk_at "hs"
    refine HS.ogenF ?_
    walk_at "hs"
    refine ⟨b, ls, q, rfl, (K5.trans Kn_p2).sq hb4 id, hp, by omega, by omega, by omega, fun H7 K7 => ?_⟩
    rw [Int.toNat_natCast, cnt_map]
    have hD7 := K7 _ _ hD5 id
    have at_p27 := K7 _ _ at_p2 id
    intro p3 hp3
    generalize hG_p3 : upd _ p3 _ = H8
    have at_p3 := HS.upgs hG_p3
    have Kn_p3 := HS.upgK hG_p3 hp3
    clear hG_p3
    have hD7 := Kn_p3 _ _ hD7 id
    have at_p27 := Kn_p3 _ _ at_p27 id
    walk_at "hs"
    intro L1 hL1
    generalize hG_L1 : upd _ L1 _ = H9
    have at_L1 := HS.upgs hG_L1
    have Kn_L1 := HS.upgK hG_L1 hL1
    clear hG_L1
    have hD7 := Kn_L1 _ _ hD7 id
    have at_p27 := Kn_L1 _ _ at_p27 id
    have at_p3 := Kn_L1 _ _ at_p3 id
    walk_at "hs"
    intro M2 hM2
    generalize hG_M2 : upd _ M2 _ = Ha
    have at_M2 := HS.upgs hG_M2
    have Kn_M2 := HS.upgK hG_M2 hM2
    clear hG_M2
    have hD7 := Kn_M2 _ _ hD7 id
    have at_p27 := Kn_M2 _ _ at_p27 id
    have at_p3 := Kn_M2 _ _ at_p3 id
    have at_L1 := Kn_M2 _ _ at_L1 id
    walk_at "hs"
    refine HS.rep1 at_M2 (by omega) (by omega) ?_
    intro M3 hM3
    generalize hG_M3 : upd _ M3 _ = Hb
    have at_M3 := HS.upgs hG_M3
    have Kn_M3 := HS.upgK hG_M3 hM3
    clear hG_M3
    have hD7 := Kn_M3 _ _ hD7 id
    have at_p27 := Kn_M3 _ _ at_p27 id
    have at_p3 := Kn_M3 _ _ at_p3 id
    have at_L1 := Kn_M3 _ _ at_L1 id
    have at_M3 : Hb M3 = some (.lst [.ref D, .ref D]) := at_M3
    walk_at "hs"
    have lq := cnt_len ls q
    refine ⟨.ref L1, .ref M3, rfl, HS.sm2 at_L1 at_M3 (HS.smL at_p27 hD7 (by omega)) (HS.smL at_p3 hD7 (by omega)), fun Hc Kc => ?_⟩
    have K4c : HS.Keep (fun _ => False) H4 Hc := K5.trans (Kn_p2.trans (K7.trans (Kn_p3.trans (Kn_L1.trans (Kn_M2.trans (Kn_M3.trans Kc))))))
    have K0c := K04.trans K4c.any
    have Sc := S4.same K4c
    have hDc := K4c _ _ hD4 id
    have hbc := K4c.sq hb4 id
    clear hD7 at_p27 at_p3 at_L1 at_M2 at_M3 K5 Kn_p2 K7 Kn_p3 Kn_L1 Kn_M2 Kn_M3 Kc
    walk_at "hs"
    refine ⟨s, d, 9, _, rfl, Sc, by decide, by decide, by omega, fun Hd f Kd Sd f0 f1 => ?_⟩
    obtain ⟨g, hg⟩ : ∃ g : Nat, 1 + f = g := ⟨(1 + f).toNat, by omega⟩
    have g1 : 1 ≤ g ∧ g ≤ 9 := by omega
    have hDd' := Kd _ _ hDc (by walk_at "ns")
    have hbd := Kd.sq hbc (by walk_at "ns")
    have K0d := K0c.trans Kd
    walk_at "hs"
    rw [hg]
    refine ⟨b, ls, _, g, rfl, hbd, hp, by omega, g1.1, by omega, by omega, by decide, fun He p4 Ke hp4 hp4' => ?_⟩
    rw [cnt_map] at hp4'
    have hbe := Ke.sq hbd id
    have hDe := Ke _ _ hDd' id
    walk_at "hs"
    rw [Int.toNat_natCast]
    refine ⟨by omega, by omega, fun D2 hD2 => lc_range (lo := 0) (n := g) (fun i H' => HS.Keep (fun _ => False) He H' ∧ H' D2 = some (.lst ((cnt ls i).map V.int))) ⟨.new hD2, upd_same⟩ ?_ ?_⟩
    · rintro i H5 hi ⟨K5, hD5⟩
      walk_at "hs"
      refine ⟨b, ls, _, rfl, K5.sq hbe id, by omega, by omega, ?_⟩
      refine ⟨_, hD5, HS.sz (by unfold cnt; simp; omega), K5.put hD2, ?_⟩
      rw [upd_same, cnt_succ, List.map_append, show (1 : Int) + (0 + i) = i + 1 by omega]
      rfl
    rintro Hf ⟨Kf, hDf⟩
    have lg := cnt_len ls g
    walk_at "hs"
    refine ⟨.ref p4, .ref D2, rfl, HS.smL (Kf _ _ hp4' id) hDf (by omega), fun Hg Kg => ?_⟩
    have K0g := K0d.trans (Ke.trans (Kf.trans Kg)).any
    have Sg := ((Sd.same Ke).same Kf).same Kg
    have hDg := Kg _ _ (Kf _ _ hDe id) id
    have hbg := Kg.sq (Kf.sq hbe id) id
    walk_at "hs"
    have hDg0 := hDg
    intro Bo hBo
    generalize hG_Bo : upd _ Bo _ = Hh
    have at_Bo := HS.upgs hG_Bo
    have Kn_Bo := HS.upgK hG_Bo hBo
    clear hG_Bo
    have hDg := Kn_Bo _ _ hDg id
    walk_at "hs"
    rw [HS.cut_toI _ (show (0 : Int) ≤ 3 by decide), show ((3 : Int)).toNat = 3 from rfl, cnt_take]
    have hbh := Kn_Bo.sq hbg id
    have hr : min 3 q ≤ 3 := Nat.min_le_left _ _
    have hrq : (min 3 q : Nat) ≤ q := Nat.min_le_right _ _
    have hrI : (if (q : Int) < 3 then (q : Int) else 3) = ((min 3 q : Nat) : Int) := by split <;> omega
    generalize hrr : min 3 q = r at hr hrq hrI ⊢
    have lr := cnt_len ls r
    have at_Bo0 := at_Bo
    intro V3 hV3
    generalize hG_V3 : upd _ V3 _ = Hi
    have at_V3 := HS.upgs hG_V3
    have Kn_V3 := HS.upgK hG_V3 hV3
    clear hG_V3
    have hDg := Kn_V3 _ _ hDg id
    have at_Bo := Kn_V3 _ _ at_Bo id
    have hbi := Kn_V3.sq hbh id
    walk_at "hs"
    refine ⟨⟨_, HS.sq at_V3⟩, for_list (xs := (cnt ls r).map V.int) (fun i σ H' => HS.Keep (fun a => a = Bo) Hi H' ∧ HS.Keep (fun _ => False) Hg H' ∧ ∃ (vs : List V) (ps : List (Int × Int)) (x6 : Option V), σ = [some (.ref s), some (.ref b), some (.int q), some (.ref D), some (.int g), some (.ref Bo), x6, none, none, none] ∧ H' Bo = some (.lst vs) ∧ vs.length ≤ 3 * i ∧ HS.Prs H' vs ps ∧ ps = ((List.range i).map fun (i : Nat) => (List.range r).map fun (j : Nat) => (pcount ls ((i : Int) + 1), pcount ls ((j : Int) + 1))).flatten) ⟨.refl, Kn_Bo.trans Kn_V3, [], [], _, rfl, at_Bo, Nat.le_refl _, trivial, rfl⟩ (fun i σ H' _ ⟨K', _⟩ => HS.sq (K' _ _ at_V3 (ne_of_none at_Bo0 hV3).symm)) ?_ ?_⟩
    · rintro i x σ H2 hi ⟨K2, K20, vs, ps, x6, rfl, hB2, hvl, hps, rfl⟩
      obtain ⟨z, rfl, hz, hil⟩ := HS.get_int hi
      have ez : z = pcount ls ((i : Int) + 1) := cnt_get hz
      rw [lr] at hil
      have hD2' := K20 _ _ hDg0 id
      walk_at "hs"
      rw [HS.cut_toI _ (show (0 : Int) ≤ 3 by decide), show ((3 : Int)).toNat = 3 from rfl, cnt_take, hrr]
      have hB20 := hB2
      intro V4 hV4
      generalize hG_V4 : upd _ V4 _ = H3
      have at_V4 := HS.upgs hG_V4
      have Kn_V4 := HS.upgK hG_V4 hV4
      clear hG_V4
      have hB2 := Kn_V4 _ _ hB2 id
      have hps3 := hps.same Kn_V4
      walk_at "hs"
      refine ⟨⟨_, HS.sq at_V4⟩, fun D4 hD4 => lc_list (xs := (cnt ls r).map V.int) (fun j H' => HS.Keep (fun _ => False) H3 H' ∧ ∃ ws, H' D4 = some (.lst ws) ∧ ws.length = j ∧ HS.Prs H' ws ((List.range j).map fun (j : Nat) => (z, pcount ls ((j : Int) + 1)))) ⟨.new hD4, [], upd_same, rfl, trivial⟩ (fun j H' _ ⟨K', _⟩ => K'.sq (HS.sq at_V4) id) ?_ ?_⟩
      · rintro j y H4' hj ⟨K4', ws, hD4', hwl, hpw⟩
        obtain ⟨u, rfl, hu, hjl⟩ := HS.get_int hj
        have eu : u = pcount ls ((j : Int) + 1) := cnt_get hu
        rw [lr] at hjl
        walk_at "hs"
        intro p hp2
        have Kp : HS.Keep (fun _ => False) H4' (upd H4' p (.tup [.int z, .int u])) := .new hp2
        have hD5 := Kp _ _ hD4' id
        have hp5 := upd_same (H := H4') (a := p) (o := .tup [.int z, .int u])
        have hDp : D4 ≠ p := ne_of_none hD4' hp2
        generalize upd H4' p (.tup [.int z, .int u]) = H5 at Kp hD5 hp5 ⊢
        refine ⟨ws, hD5, HS.sz (by omega), (K4'.trans Kp).put hD4, ws ++ [.ref p], upd_same, by simp; omega, ?_⟩
        rw [List.range_succ, List.map_append]
        exact HS.Prs.snoc (HS.Prs.put hD5 (hpw.same Kp)) (by rw [upd_ne (Ne.symm hDp), ← eu]; exact hp5)
      · rintro H4' ⟨K4', ws, hD4', hwl, hpw⟩
        rw [List.length_map, lr] at hwl hpw
        have hB4 := K4' _ _ hB2 id
        walk_at "hs"
        refine ⟨(K2.trans (Kn_V4.trans K4').any).trans (HS.Keep.at HS.Keep.refl rfl), (K20.trans (Kn_V4.trans K4')).put hBo, vs ++ ws, _, _, rfl, upd_same, by rw [List.length_append]; omega, HS.Prs.put hB4 ((hps3.same K4').app hpw), ?_⟩
        rw [List.range_succ, List.map_append, List.flatten_append, ez]
        simp
    · rintro σ H2 ⟨K2, K20, vs, ps, x6, rfl, hB2, hvl, hps, rfl⟩
      rw [List.length_map, lr] at hps
      walk_at "hs"
      rw [hrI]
      refine ⟨b, ls, _, rfl, K20.sq hbg id, hp, by omega, by omega, by omega, fun Hj P vs2 ps2 Kj hP hP' g2 e2 => ?_⟩
      rw [Int.toNat_natCast] at e2
      have hBj := Kj _ _ hB2 id
      walk_at "hs"
      refine HS.eqP (HS.sq hP') g2 (HS.sq hBj) (hps.same Kj) ?_
      rw [decide_eq_true e2]
      exact k _ (K0g.trans (K20.trans Kj).any) ((Sg.same K20).same Kj)
def sp_law (K : PySem.W.Frag) : Sp := fun vs H Q _ => ∃ (a : Addr) (ns : List Int), vs = [.ref a] ∧ (SqL K H a (ns.map V.int) ∧ ns.length ≤ 63 ∧ ∀ H', Q (.bl true) H')
theorem ok_law (T : Txt K mg A) : HS.FnG P w K mg base CX0 8 A.a_law A.d_law ["script"] (sp_law K) := by
  have G__law_source : FnOk P w K mg base CX0 1 A.a__law_source A.d__law_source ["script"] (sp__law_source K) := ok__law_source T
  have G__law_lengths : FnOk P w K mg base CX0 2 A.a__law_lengths A.d__law_lengths ["source", "many"] (sp__law_lengths K) := ok__law_lengths T
  have G__law_draw : FnOk P w K mg base CX0 1 A.a__law_draw A.d__law_draw ["source", "many"] (sp__law_draw K) := ok__law_draw T
  have G__law_wide : FnOk P w K mg base CX0 2 A.a__law_wide A.d__law_wide ["source", "lengths"] (sp__law_wide K) := ok__law_wide T
  have G_pages : FnOk P w K mg base CX0 3 A.a_pages A.d_pages ["book", "size"] (sp_pages K) := ok_pages T
  have G__law_same : FnOk P w K mg base CX0 4 A.a__law_same A.d__law_same ["found", "wanted"] (sp__law_same 3 K) := ok__law_same T 3
  have G__law_total : FnOk P w K mg base CX0 2 A.a__law_total A.d__law_total ["lengths", "wide"] (sp__law_total K) := ok__law_total T
  have G__law_walks_right : FnOk P w K mg base CX0 7 A.a__law_walks_right A.d__law_walks_right ["source", "lengths"] (sp__law_walks_right K) := ok__law_walks_right T
  have G_read_book : FnOk P w K mg base (L2.CX P w) 3 A.a_read_book A.d_read_book ["text"] (sp_read_book K A) := ok_read_book T
  have G__law_sheets : FnOk P w K mg base CX0 1 A.a__law_sheets A.d__law_sheets ["long", "wide"] (sp__law_sheets K) := ok__law_sheets T
  have G_counts : GFn P w K mg base 3 A.a_counts A.d_counts ["book", "limit"] (sp_counts K) := ok_counts T
  refine HS.Fun.okG T.F_law sc_law (fun vs H Q E h => ?_) (fun cdv A0 outer s H vs Q E hg hr h => ?_)
  · obtain ⟨a, ns, rfl, hw⟩ := h
    rfl
  · obtain ⟨a, ns, rfl, hw⟩ := h
    refine ⟨_, (pss_cons (ps_set (i := 1) sc_law.nd rfl (.inr rfl) (pe_call G__law_source (hr.mono (by decide)) (by rfl) T.g__law_source T.F__law_source.kp T.b__law_source .nil pass0 (pa_cons (pv 0) pa_nil)))
    (pss_cons (ps_for PassesOwn.never rfl (pi_range1 (by rfl) T.z_range (pa_cons (pe_op op_add pe_int (pe_callB (call_min2 rfl) (by rfl) T.z_min (by decide +kernel) (pa_cons pe_int (pa_cons (pe_callB (HS.klen K) (by rfl) T.z_len PySem.boot_len (pa_cons (pv 0) pa_nil)) pa_nil)))) pa_nil)) (pg_name (i := 2) sc_law.nd rfl (.inl rfl))
      (pss_cons (ps_set (i := 3) sc_law.nd rfl (.inr rfl) (pe_call G__law_lengths (hr.mono (by decide)) (by rfl) T.g__law_lengths T.F__law_lengths.kp T.b__law_lengths .nil pass0 (pa_cons (pv 1) (pa_cons (pe_ix (HS.ixl K) (pe_lst (pa_cons pe_int (pa_cons pe_int pa_nil))) (pe_call G__law_draw (hr.mono (by decide)) (by rfl) T.g__law_draw T.F__law_draw.kp T.b__law_draw .nil pass0 (pa_cons (pv 1) (pa_cons pe_int pa_nil))) (fun _ _ => rfl)) pa_nil))))
    (pss_cons (ps_for PassesOwn.never rfl (pi_range1 (by rfl) T.z_range (pa_cons pe_int pa_nil)) (pg_name (i := 4) sc_law.nd rfl (.inl rfl))
      (pss_cons (ps_set (i := 5) sc_law.nd rfl (.inl rfl) (pe_callB (HS.krepr K hg hr) (by rfl) T.z_repr (by decide +kernel) (pa_cons (pv 3) pa_nil)))
    (pss_cons (ps_for PassesOwn.never rfl (HS.kil K (pi_list (pe_op op_cat (pe_lc (own := [("time", 12)]) (g := gName 12) (tt := tYes) rfl sc_law.nd (pi_range1 (by rfl) T.z_range (pa_cons pe_int pa_nil)) (blkOk_by (own := [("time", 12)]) (N := N_law) (sc := defScope s_law) (by decide +kernel)) (fun _ _ _ _ _ => pg_name (i := 12) sc_law.nd rfl (by first | exact .inl rfl | exact .inr rfl)) (fun _ _ _ _ _ => pts_nil) (fun _ _ _ _ _ => (pe_call G__law_wide (hr.mono (by decide)) (by rfl) T.g__law_wide T.F__law_wide.kp T.b__law_wide .nil pass0 (pa_cons (pv 1) (pa_cons (pv 3) pa_nil))))) (pe_lst (pa_cons pe_int (pa_cons (HS.pe_fold (999999999999999999999999999999) (pe_op op_sub (pe_op op_pow pe_int pe_int) pe_int) (by intro σ H Q q; walk_at "fold")) pa_nil)))))) (pg_name (i := 6) sc_law.nd rfl (.inl rfl))
      (pss_cons (ps_set (i := 7) sc_law.nd rfl (.inl rfl) (pe_lst (pa_cons (pe_call G_pages (hr.mono (by decide)) (by rfl) T.g_pages T.F_pages.kp T.b_pages .nil pass0 (pa_cons (pv 3) (pa_cons (pv 6) pa_nil))) (pa_cons (HS.pe_kw0 G_pages (hr.mono (by decide)) (by rfl) T.g_pages T.F_pages.kp T.kb_pages_0_size_book pass0 (pk_cons (pv 6) (pk_cons (pv 3) pk_nil))) pa_nil))))
    (pss_one (ps_if (pt_not (pt_val (pe_call G__law_same (hr.mono (by decide)) (by rfl) T.g__law_same T.F__law_same.kp T.b__law_same .nil pass0 (pa_cons (pv 7) (pa_cons (pe_op op_rep (pe_lst (pa_cons (pe_call G__law_total (hr.mono (by decide)) (by rfl) T.g__law_total T.F__law_total.kp T.b__law_total .nil pass0 (pa_cons (pv 3) (pa_cons (pv 6) pa_nil))) pa_nil)) pe_int) pa_nil)))))
      (pss_one (ps_ret pe_bl))
      pss_nil))))
    (pss_cons (ps_if (PW.pt (pw_or (pt_not (pt_val (pe_call G__law_walks_right hr (by rfl) T.g__law_walks_right T.F__law_walks_right.kp T.b__law_walks_right .nil pass0 (pa_cons (pv 1) (pa_cons (pv 3) pa_nil))))) (pw_or1 (pt_cmpR op_ne (pe_callB (HS.krepr K hg hr) (by rfl) T.z_repr (by decide +kernel) (pa_cons (pv 3) pa_nil)) (pv 5) (nomark _)))))
      (pss_one (ps_ret pe_bl))
      pss_nil)
    (Evl.pss_cut (ps_if (pt_cmpR (HS.kne K (hu64 hr)) (pv 3) (pe_lst pa_nil) (nomark _))
      (pss_cons (ps_set (i := 8) sc_law.nd rfl (.inl rfl) (pe_call G__law_draw (hr.mono (by decide)) (by rfl) T.g__law_draw T.F__law_draw.kp T.b__law_draw .nil pass0 (pa_cons (pv 1) (pa_cons (pe_callB (HS.klen K) (by rfl) T.z_len PySem.boot_len (pa_cons (pv 3) pa_nil)) pa_nil))))
    (pss_one (ps_asg (pe_callB (call_max2 rfl) (by rfl) T.z_max (by decide +kernel) (pa_cons pe_int (pa_cons (pe_op op_add (pe_ix (HS.ixl K) (pv 3) (pv 8) (fun _ _ => rfl)) (pe_ix (HS.ixl K) (pe_lst (pa_cons (pe_un un_neg pe_int) (pa_cons (pe_op op_sub pe_int (pe_op op_fdivW (pe_ix (HS.ixl K) (pv 3) (pv 8) (fun _ _ => rfl)) pe_int)) pa_nil))) (pe_call G__law_draw (hr.mono (by decide)) (by rfl) T.g__law_draw T.F__law_draw.kp T.b__law_draw .nil pass0 (pa_cons (pv 1) (pa_cons pe_int pa_nil))) (fun _ _ => rfl))) pa_nil))) (pg_sub (pv 3) (pv 8) set_list))))
      pss_nil)
    (pss_cons (ps_expr (HS.kbm K (pe_bm PySem.F.plainAttrs_list PySem.F.slot_list_insert PySem.F.type_list_insert mt_insert (pv 3) (pa_cons (pe_call G__law_draw (hr.mono (by decide)) (by rfl) T.g__law_draw T.F__law_draw.kp T.b__law_draw .nil pass0 (pa_cons (pv 1) (pa_cons (pe_op op_add (pe_callB (HS.klen K) (by rfl) T.z_len PySem.boot_len (pa_cons (pv 3) pa_nil)) pe_int) pa_nil))) (pa_cons (pe_op op_add pe_int (pe_call G__law_draw (hr.mono (by decide)) (by rfl) T.g__law_draw T.F__law_draw.kp T.b__law_draw .nil pass0 (pa_cons (pv 1) (pa_cons pe_int pa_nil)))) pa_nil)))))
    (pss_one (ps_set (i := 3) sc_law.nd rfl (.inr rfl) (pe_slice (HS.sll K) (pv 3) po_none (po_some pe_int))))))))))
    (pss_cons (ps_par (i := 9) (j := 10) rfl sc_law.nd rfl rfl (by decide) rfl rfl (pa_cons (pe_op op_add pe_int (pe_call G__law_draw (hr.mono (by decide)) (by rfl) T.g__law_draw T.F__law_draw.kp T.b__law_draw .nil pass0 (pa_cons (pv 1) (pa_cons pe_int pa_nil)))) (pa_cons (pe_op op_add pe_int (pe_call G__law_draw (hr.mono (by decide)) (by rfl) T.g__law_draw T.F__law_draw.kp T.b__law_draw .nil pass0 (pa_cons (pv 1) (pa_cons (HS.pe_fold (999999999999999999999999999991) (pe_op op_sub (pe_op op_pow pe_int pe_int) pe_int) (by intro σ H Q q; walk_at "fold")) pa_nil)))) pa_nil)) (by rfl))
    (pss_cons (ps_set (i := 11) sc_law.nd rfl (.inl rfl) (pe_call G_read_book (hr.mono (by decide)) (by rfl) T.g_read_book T.F_read_book.kp T.b_read_book .nil passL (pa_cons (pe_op op_add_str (pe_op op_add_str (pe_op op_add_str (pe_op op_add_str (pe_op op_add_str (pe_op op_add_str (pe_callTy call_str_int (by rfl) T.z_str (by decide +kernel) (pa_cons (pv 9) pa_nil)) pe_str) (pe_callTy call_str_int (by rfl) T.z_str (by decide +kernel) (pa_cons (pv 10) pa_nil))) pe_str) (pe_callTy call_str_int (by rfl) T.z_str (by decide +kernel) (pa_cons (pv 9) pa_nil))) pe_str) (pe_callTy call_str_int (by rfl) T.z_str (by decide +kernel) (pa_cons (pv 10) pa_nil))) pa_nil)))
    (pss_cons (ps_set (i := 6) sc_law.nd rfl (.inl rfl) (pe_call G__law_wide (hr.mono (by decide)) (by rfl) T.g__law_wide T.F__law_wide.kp T.b__law_wide .nil pass0 (pa_cons (pv 1) (pa_cons (pe_lst (pa_cons (pv 10) pa_nil)) pa_nil))))
    (pss_one (ps_if (pt_cmpR op_ne (pe_call G_pages (hr.mono (by decide)) (by rfl) T.g_pages T.F_pages.kp T.b_pages .nil pass0 (pa_cons (pv 11) (pa_cons (pv 6) pa_nil))) (pe_op op_add (pe_op op_mulW (pe_op op_mul pe_int (pv 9)) (pe_call G__law_sheets (hr.mono (by decide)) (by rfl) T.g__law_sheets T.F__law_sheets.kp T.b__law_sheets .nil pass0 (pa_cons (pv 10) (pa_cons (pv 6) pa_nil)))) (pe_call G__law_sheets (hr.mono (by decide)) (by rfl) T.g__law_sheets T.F__law_sheets.kp T.b__law_sheets .nil pass0 (pa_cons pe_int (pa_cons (pv 6) pa_nil)))) (nomark _))
      (pss_one (ps_ret pe_bl))
      pss_nil))))))))
    (pss_one (ps_ret (pe_and (pe_cmpR (HS.keq K (hu64 hr)) (pe_listG (pgen_call G_counts (hr.mono (by decide)) (by rfl) T.g_counts T.F_counts.kp T.b_counts .nil (pa_cons (pe_lst (pa_cons pe_int (pa_cons pe_int (pa_cons pe_int pa_nil)))) (pa_cons pe_int pa_nil))) passL (fun _ _ _ h => h.elim) (hr.mono (by decide)) (by rfl) T.z_list (by decide +kernel)) (pe_lst (pa_cons pe_int (pa_cons pe_int (pa_cons pe_int (pa_cons pe_int (pa_cons pe_int pa_nil)))))) (nomark _)) (pe_and (pe_cmpR op_eq (pe_call G_pages (hr.mono (by decide)) (by rfl) T.g_pages T.F_pages.kp T.b_pages .nil pass0 (pa_cons (pe_lst pa_nil) (pa_cons pe_int pa_nil))) pe_int (nomark _)) (pe_one (pe_cmpR (HS.keq K (hu64 hr)) (pe_listG (pgen_call G_counts (hr.mono (by decide)) (by rfl) T.g_counts T.F_counts.kp T.b_counts .nil (pa_cons (pe_lst (pa_cons pe_int pa_nil)) (pa_cons pe_int pa_nil))) passL (fun _ _ _ h => h.elim) (hr.mono (by decide)) (by rfl) T.z_list (by decide +kernel)) (pe_lst pa_nil) (nomark _))))))))), ?_⟩
    obtain ⟨hS, hl, k⟩ := hw
    walk_at "hs"
    refine ⟨a, ns, rfl, hS, hl, fun H1 s d K1 hs hd S1 => ?_⟩
    have hS1 := K1.sq hS id
    walk_at "hs"
    rw [List.length_map]
    refine ⟨by split <;> omega, by split <;> omega, for_range (n := _) (fun i σ H' => Src H' s d (500 * i) ∧ ∃ x2 x3 x4 x5 x6 x7 x8 x9 x10 x11, σ = [some (.ref a), some (.ref s), x2, x3, x4, x5, x6, x7, x8, x9, x10, x11, none]) ⟨S1, _, _, _, _, _, _, _, _, _, _, rfl⟩ ?_ ?_⟩
    · rintro i σ H2 hi ⟨S2, x2, x3, x4, x5, x6, x7, x8, x9, x10, x11, rfl⟩
      have hi' : i < 11 := by split at hi <;> omega
      walk_at "hs"
      intro p1 hp1
      generalize hG_p1 : upd _ p1 _ = H3
      have at_p1 := HS.upgs hG_p1
      have Kn_p1 := HS.upgK hG_p1 hp1
      clear hG_p1
      have e1 := S2.ne1 hp1
      have e2 := S2.ne2 hp1
      walk_at "hs"
      refine ⟨s, d, 2, _, rfl, S2.same Kn_p1, by decide, by decide, by omega, fun H4 v K4 S4 v0 v1 => ?_⟩
      refine HS.ixI [4, 38] (K4.sq (HS.sq at_p1) (by walk_at "ns")) v0 v1 fun wd _ hw => ?_
      have hwd : 4 ≤ wd ∧ wd ≤ 38 := by
        simp only [List.mem_cons, List.not_mem_nil, or_false] at hw
        omega
      clear hw
      walk_at "hs"
      refine ⟨s, d, wd, _, rfl, S4, by omega, by omega, by omega, fun H5 b ls K5 hb0 hb hbl hB S5 => ?_⟩
      have b1 : b ≠ s := S4.ne1 hb0
      have b2 : b ≠ d := S4.ne2 hb0
      walk_at "hs"
      refine ⟨by decide, by decide, for_range (n := 4) (fun t σ H' => Src H' s d (500 * i + 100 + 50 * t) ∧ ∃ (b : Addr) (ls : List Int), b ≠ s ∧ b ≠ d ∧ H' b = some (.lst (ls.map V.int)) ∧ ls.length ≤ 39 ∧ Book ls ∧ ∃ x4 x5 x6 x7 x8 x9 x10 x11, σ = [some (.ref a), some (.ref s), some (.int (0 + (i : Int))), some (.ref b), x4, x5, x6, x7, x8, x9, x10, x11, none]) ⟨S5.up (by omega), b, ls, b1, b2, hb, by omega, hB, _, _, _, _, _, _, _, _, rfl⟩ ?_ ?_⟩
      · clear b1 b2 hb hbl hB S5
        rintro t σ H6 ht ⟨S6, b, ls, b1, b2, hb6, hbl, hB, x4, x5, x6, x7, x8, x9, x10, x11, rfl⟩
        have lp : ∀ x ∈ ls, 1 ≤ x := fun x hx => (hB x hx).1
        have tm : HS.Tm ls := ⟨fun x hx => by have := hB x hx; omega, by omega⟩
        walk_at "hs"
        refine HS.repI (HS.sq hb6) tm ?_
        walk_at "hs"
        refine ⟨by decide, by decide, fun D hD => ?_⟩
        have d1 := S6.ne1 hD
        have d2 := S6.ne2 hD
        have bD : b ≠ D := ne_of_none hb6 hD
        refine lc_range (lo := 0) (n := 4) (fun j H' => Src H' s d (500 * i + 100 + 50 * t + 6 * j) ∧ H' b = some (.lst (ls.map V.int)) ∧ ∃ ws : List Int, H' D = some (.lst (ws.map V.int)) ∧ ws.length = j ∧ ∀ x ∈ ws, 1 ≤ x ∧ x < 10 ^ 30) ⟨S6.new hD, by rw [upd_ne bD]; exact hb6, [], upd_same, rfl, fun x hx => absurd hx List.not_mem_nil⟩ ?_ ?_
        · rintro j H7 hj ⟨S7, hb7, ws, hD7, hwl, hws⟩
          walk_at "hs"
          refine ⟨s, d, b, ls, _, rfl, S7, HS.sq hb7, b1, b2, by omega, hB, by omega, fun H8 v K8 S8 v0 v1 => ?_⟩
          have hD8 := K8 _ _ hD7 (by walk_at "ns")
          have hb8 := K8 _ _ hb7 (by walk_at "ns")
          refine ⟨_, hD8, HS.sz (by rw [List.length_map]; omega), (S8.put d1 d2).up (by omega), by rw [upd_ne bD]; exact hb8, ws ++ [v], by rw [upd_same, List.map_append]; rfl, by rw [List.length_append, hwl]; rfl, fun x hx => ?_⟩
          rcases List.mem_append.mp hx with hx | hx
          · exact hws x hx
          · rw [List.mem_singleton] at hx; omega
        rintro H7 ⟨S7, hb7, ws, hD7, hwl, hws⟩
        have S7 := S7.up (show _ ≤ 500 * i + 100 + 50 * t + 24 by omega)
        walk_at "hs"
        intro E1 hE1
        generalize hG_E1 : upd _ E1 _ = H8
        have at_E1 := HS.upgs hG_E1
        have Kn_E1 := HS.upgK hG_E1 hE1
        clear hG_E1
        have hb7 := Kn_E1 _ _ hb7 id
        have hD7 := Kn_E1 _ _ hD7 id
        walk_at "hs"
        intro V5 hV5
        generalize hG_V5 : upd _ V5 _ = H9
        have at_V5 := HS.upgs hG_V5
        have Kn_V5 := HS.upgK hG_V5 hV5
        clear hG_V5
        have hb7 := Kn_V5 _ _ hb7 id
        have S9 := (S7.same Kn_E1).same Kn_V5
        have at_V5 : H9 V5 = some (.lst ((ws ++ [1, 999999999999999999999999999999]).map V.int)) := by rw [List.map_append]; exact at_V5
        have hws' : ∀ x ∈ ws ++ [1, 999999999999999999999999999999], 1 ≤ x ∧ x < 10 ^ 30 := fun x hx => by
          rcases List.mem_append.mp hx with hx | hx
          · exact hws x hx
          · simp only [List.mem_cons, List.not_mem_nil, or_false] at hx
            omega
        generalize ws ++ [1, 999999999999999999999999999999] = us at at_V5 hws'
        walk_at "hs"
        refine ⟨⟨_, HS.sq at_V5⟩, for_list (xs := us.map V.int) (fun j σ H' => HS.Keep (fun _ => False) H9 H' ∧ ∃ x6 x7, σ = [some (.ref a), some (.ref s), some (.int (0 + (i : Int))), some (.ref b), some (.int (0 + (t : Int))), some (.str (HS.dInts ls).shown), x6, x7, x8, x9, x10, x11, none]) ⟨.refl, _, _, rfl⟩ (fun j σ H' _ ⟨K', _⟩ => HS.sq (K' _ _ at_V5 id)) ?_ ?_⟩
        · rintro j x σ Ha hj ⟨Ka, x6, x7, rfl⟩
          obtain ⟨z, rfl, hz, hil⟩ := HS.get_int hj
          have hz1 := hws' z (List.mem_of_getElem? hz)
          have hba := Ka _ _ hb7 id
          walk_at "hs"
          refine ⟨b, ls, z, rfl, HS.sq hba, lp, by omega, hz1.1, by omega, fun Hb Kb => ?_⟩
          have hbb := Kb _ _ hba id
          walk_at "hs"
          refine ⟨b, ls, z, rfl, HS.sq hbb, lp, by omega, hz1.1, by omega, fun Hc Kc => ?_⟩
          have hbc := Kc _ _ hbb id
          walk_at "hs"
          intro L1 hL1
          generalize hG_L1 : upd _ L1 _ = Hd
          have at_L1 := HS.upgs hG_L1
          have Kn_L1 := HS.upgK hG_L1 hL1
          clear hG_L1
          have hbc := Kn_L1 _ _ hbc id
          walk_at "hs"
          refine ⟨b, ls, z, rfl, HS.sq hbc, hz1.1, by omega, ?_⟩
          walk_at "hs"
          intro M2 hM2
          generalize hG_M2 : upd _ M2 _ = He
          have at_M2 := HS.upgs hG_M2
          have Kn_M2 := HS.upgK hG_M2 hM2
          clear hG_M2
          have at_L1 := Kn_M2 _ _ at_L1 id
          walk_at "hs"
          refine HS.rep1 at_M2 (by omega) (by omega) ?_
          intro M3 hM3
          generalize hG_M3 : upd _ M3 _ = Hf
          have at_M3 := HS.upgs hG_M3
          have Kn_M3 := HS.upgK hG_M3 hM3
          clear hG_M3
          have at_L1 := Kn_M3 _ _ at_L1 id
          have at_M3 : Hf M3 = some (.lst [.int (pcount ls z), .int (pcount ls z)]) := at_M3
          walk_at "hs"
          refine ⟨.ref L1, .ref M3, rfl, HS.sm2 at_L1 at_M3 (HS.smI rfl) (HS.smI rfl), fun Hg Kg => ?_⟩
          walk_at "hs"
          exact ⟨Ka.trans (Kb.trans (Kc.trans (Kn_L1.trans (Kn_M2.trans (Kn_M3.trans Kg))))), _, _, rfl⟩
        · rintro σ Ha ⟨Ka, x6, x7, rfl⟩
          have hba := Ka _ _ hb7 id
          have Sa := S9.same Ka
          clear hb7 hD7 at_V5 S9 S7 S6 hb6 Kn_E1 Kn_V5 Ka at_E1
          walk_at "hs"
          refine ⟨s, d, b, ls, _, rfl, Sa, HS.sq hba, b1, b2, by omega, hB, by omega, fun Hb Kb Sb => ?_⟩
          have hbb := Kb _ _ hba (by walk_at "ns")
          walk_at "hs"
          refine HS.repI (HS.sq hbb) tm ?_
          walk_at "hs"
          refine HS.neSS ?_
          walk_at "hs"
          generalize hx5 : some (V.str (HS.dInts ls).shown) = x5'
          refine HS.cut (fun σ H' => Src H' s d (500 * i + 100 + 50 * t + 40) ∧ ∃ (ls : List Int) (x8 : Option V), H' b = some (.lst (ls.map V.int)) ∧ ls.length ≤ 39 ∧ Book ls ∧ σ = [some (.ref a), some (.ref s), some (.int (0 + (i : Int))), some (.ref b), some (.int (0 + (t : Int))), x5', x6, x7, x8, x9, x10, x11, none]) ?_ ?_
          · walk_at "hs"
            intro e0 he0
            generalize hG_e0 : upd _ e0 _ = Hc
            have at_e0 := HS.upgs hG_e0
            have Kn_e0 := HS.upgK hG_e0 he0
            clear hG_e0
            have hbb := Kn_e0 _ _ hbb id
            have Sc := Sb.same Kn_e0
            refine HS.neL (ys := []) (HS.sq hbb) (HS.sq at_e0) ?_
            by_cases e : ls = []
            · rw [decide_eq_true e]
              walk_at "hs"
              exact ⟨Sc.up (by omega), ls, _, hbb, hbl, hB, rfl⟩
            · rw [decide_eq_false e]
              have lpos : 0 < ls.length := List.length_pos_iff.mpr e
              clear at_e0 hba Kb Kn_e0
              walk_at "hs"
              rw [List.length_map]
              refine ⟨s, d, _, _, rfl, Sc, by omega, by omega, by omega, fun Hd u Kd Sd u0 u1 => ?_⟩
              have hbd := Kd _ _ hbb (by walk_at "ns")
              walk_at "hs"
              refine HS.ixI ls (HS.sq hbd) u0 (by omega) fun w hw1 hw2 => ?_
              have hwB := hB w hw2
              walk_at "hs"
              refine HS.ixZ (HS.sq hbd) u0 hw1 ?_
              walk_at "hs"
              intro f0 hf0
              generalize hG_f0 : upd _ f0 _ = He
              have at_f0 := HS.upgs hG_f0
              have Kn_f0 := HS.upgK hG_f0 hf0
              clear hG_f0
              have hbd := Kn_f0 _ _ hbd id
              have Se := Sd.same Kn_f0
              have f1 := Sd.ne1 hf0
              have f2 := Sd.ne2 hf0
              walk_at "hs"
              refine ⟨s, d, _, _, rfl, Se, by decide, by decide, by omega, fun Hf v Kf Sf v0 v1 => ?_⟩
              have hbf := Kf _ _ hbd (by walk_at "ns")
              have at_f0 := Kf _ _ at_f0 (by walk_at "ns")
              walk_at "hs"
              refine HS.ixI [-1, 1 - w / 2] (HS.sq at_f0) v0 v1 fun dl _ hdl => ?_
              have hdl' : dl = -1 ∨ dl = 1 - w / 2 := by simpa using hdl
              have hw0 : 0 ≤ w / 2 := Int.ediv_nonneg (by omega) (by decide)
              walk_at "hs"
              refine set_at hbf u0 (by omega) ?_
              have Sg := Sf.put (o := .lst ((ls.set u.toNat (if w + dl > 1 then w + dl else 1)).map V.int)) b1 b2
              refine ⟨Sg.up (by omega), _, _, upd_same, by rw [List.length_set]; exact hbl, fun x hx => ?_, rfl⟩
              rcases List.mem_or_eq_of_mem_set hx with hx | hx
              · exact hB x hx
              · rw [hx]; split <;> omega
          · rintro σ Hc ⟨Sc, ls', x8', hbc, hbl', hB', rfl⟩
            clear hba hbb Kb Sb
            walk_at "hs"
            rw [List.length_map]
            refine ⟨s, d, _, _, rfl, Sc, by omega, by omega, by omega, fun Hd u Kd Sd u0 u1 => ?_⟩
            have hbd := Kd _ _ hbc (by walk_at "ns")
            walk_at "hs"
            refine ⟨s, d, _, _, rfl, Sd, by decide, by decide, by omega, fun He v Ke Se v0 v1 => ?_⟩
            have hbe := Ke _ _ hbd (by walk_at "ns")
            walk_at "hs"
            refine ⟨b, _, u, _, rfl, rfl, hbe, HS.sz (by simp; omega), u0, by omega, ?_⟩
            rw [← List.map_take, ← List.map_drop, show [V.int (1 + v)] = [1 + v].map V.int from rfl, ← List.map_append, ← List.map_append]
            have nB : Book (ls'.take u.toNat ++ [1 + v] ++ ls'.drop u.toNat) := fun x hx => by
              rcases List.mem_append.mp hx with hx | hx
              · rcases List.mem_append.mp hx with hx | hx
                · exact hB' x (List.mem_of_mem_take hx)
                · rw [List.mem_singleton] at hx; omega
              · exact hB' x (List.mem_of_mem_drop hx)
            generalize ls'.take u.toNat ++ [1 + v] ++ ls'.drop u.toNat = nl at nB ⊢
            have Sf := Se.put (o := .lst (nl.map V.int)) b1 b2
            have hbf := upd_same (H := He) (a := b) (o := .lst (nl.map V.int))
            generalize upd He b (.lst (nl.map V.int)) = Hf at Sf hbf ⊢
            walk_at "hs"
            rw [HS.cut_toI _ (show (0 : Int) ≤ 39 by decide), show ((39 : Int)).toNat = 39 from rfl]
            intro P1 hP1
            generalize hG_P1 : upd _ P1 _ = Hg
            have at_P1 := HS.upgs hG_P1
            have Kn_P1 := HS.upgK hG_P1 hP1
            clear hG_P1
            walk_at "hs"
            exact ⟨(Sf.same Kn_P1).up (by omega), P1, nl.take 39, Sf.ne1 hP1, Sf.ne2 hP1, at_P1, by rw [List.length_take]; omega, fun x hx => nB x (List.mem_of_mem_take hx), _, _, _, _, _, _, _, _, rfl⟩
      · clear b1 b2 hb hbl hB S5
        rintro σ H6 ⟨S6, b, ls, b1, b2, hb6, hbl, hB, x4, x5, x6, x7, x8, x9, x10, x11, rfl⟩
        clear hb6 b1 b2 hbl hB
        walk_at "hs"
        refine ⟨s, d, _, _, rfl, S6, by decide, by decide, by omega, fun Ha u Ka Sa u0 u1 => ?_⟩
        walk_at "hs"
        refine ⟨s, d, _, _, rfl, Sa, by decide, by decide, by omega, fun Hb e Kb Sb e0 e1' => ?_⟩
        obtain ⟨m, hm⟩ : ∃ m : Nat, 2 + u = m := ⟨(2 + u).toNat, by omega⟩
        have hm2 : 2 ≤ m := by omega
        have hm3 : m ≤ 498 := by omega
        obtain ⟨z, hz⟩ : ∃ z, 5 + e = z := ⟨_, rfl⟩
        have hz2 : 5 ≤ z ∧ z < 10 ^ 30 := by omega
        have lm := numS_len (z := (m : Int)) (by omega) (by omega)
        have lz := numS_len (z := z) (by omega) (by omega)
        have lt := mid4_len
        have lx := x_len
        have lB : ∀ x ∈ four m z, 1 ≤ x ∧ x < 10 ^ 30 := fun x hx => by
          unfold four at hx
          rcases List.mem_append.mp hx with h | h
          · have := (List.mem_replicate.mp h).2; omega
          · rcases List.mem_cons.mp h with h | h
            · omega
            · have := (List.mem_replicate.mp h).2; omega
        have lp : ∀ x ∈ four m z, 1 ≤ x := fun x hx => (lB x hx).1
        have lne : four m z ≠ [] := by unfold four; simp
        have ll := four_len m z
        have lR : readR (textOf (four m z)) = some (four m z) := readR_text (fun x hx => by have := lB x hx; omega) (by omega)
        walk_at "hs"
        rw [hm, hz]
        refine ⟨HS.lg (by omega), ?_⟩
        walk_at "hs"
        refine ⟨numS m, _, rfl, rfl, by rw [lx]; exact HS.szl (by omega), ?_⟩
        walk_at "hs"
        refine ⟨HS.lg (by omega), ?_⟩
        refine ⟨_, numS z, rfl, rfl, by rw [lenA, lx]; exact HS.szl (by omega), ?_⟩
        walk_at "hs"
        refine ⟨_, _, rfl, rfl, by rw [lenA, lenA, lx, lt]; exact HS.szl (by omega), ?_⟩
        walk_at "hs"
        refine ⟨HS.lg (by omega), ?_⟩
        refine ⟨_, numS m, rfl, rfl, by rw [lenA, lenA, lenA, lx, lt]; exact HS.szl (by omega), ?_⟩
        walk_at "hs"
        refine ⟨_, _, rfl, rfl, by rw [lenA, lenA, lenA, lenA, lx, lt]; exact HS.szl (by omega), ?_⟩
        walk_at "hs"
        refine ⟨HS.lg (by omega), ?_⟩
        refine ⟨_, numS z, rfl, rfl, by rw [lenA, lenA, lenA, lenA, lenA, lx, lt]; exact HS.szl (by omega), ?_⟩
        walk_at "hs"
        refine ⟨textOf (four m z), by rw [four_text hm2 hz2.1], by rw [four_text hm2 hz2.1]; rw [lenA, lenA, lenA, lenA, lenA, lenA, lx, lt]; omega, fun ps hps => ?_, fun (h : readR (textOf (four m z)) = none) => absurd (h.symm.trans lR) (by simp), fun ls hls H4 b K4 hb0 hb => ?_⟩
        · rw [goR_text lne (fun x hx => by have := lB x hx; omega) (by omega)] at hps
          have ep := Option.some.inj hps
          subst ep
          constructor
          · obtain ⟨x, r, exr⟩ : ∃ x r, four m z = x :: r := by
              cases h : four m z with
              | nil => exact absurd h lne
              | cons x r => exact ⟨x, r, rfl⟩
            rw [exr, runs_spread, ← exr]
            show (four m z).length ≤ _
            omega
          · intro p hp
            have := (runs_mem hp).2.1
            omega
        rw [lR] at hls
        have el := Option.some.inj hls
        subst el
        have b1 : b ≠ s := Sb.ne1 hb0
        have b2 : b ≠ d := Sb.ne2 hb0
        have S4 := Sb.same K4
        walk_at "hs"
        intro q hq
        have q1 := S4.ne1 hq
        have q2 := S4.ne2 hq
        have hbq := HS.Keep.new (S := fun _ => False) (o := .lst [.int z]) hq _ _ hb id
        walk_at "hs"
        refine ⟨s, d, q, [z], _, rfl, S4.new hq, HS.sq upd_same, q1, q2, show 1 ≤ 1000 by decide, fun x hx => by rw [List.mem_singleton.mp hx]; omega, by omega, fun H5 j K5 S5 j0 j1 => ?_⟩
        have hb5 := K5 _ _ hbq (by walk_at "ns")
        walk_at "hs"
        refine ⟨b, four m z, j, rfl, HS.sq hb5, lp, by omega, j0, by omega, fun H6 K6 => ?_⟩
        have c1 := ceil_pos (show 1 ≤ z by omega) j0
        have cz : (z + j - 1) / j ≤ z := (ceil_le j0).mpr (by have := Int.mul_le_mul_of_nonneg_left j0 (show 0 ≤ z by omega); omega)
        walk_at "hs"
        refine ⟨z, j, rfl, j0, by omega, ?_⟩
        walk_at "hs"
        refine ⟨HS.mulW 200 200 (by omega) (by omega) (by omega) (by omega) (by decide) (by decide) (by decide), ?_⟩
        walk_at "hs"
        refine ⟨4, j, rfl, j0, by omega, ?_⟩
        walk_at "hs"
        rw [four_count]
        walk_at "hs"
        rw [decide_eq_true rfl]
        walk_at "hs"
        exact ⟨(S5.same K6).up (by omega), _, _, _, _, _, _, _, _, _, _, rfl⟩
    · rintro σ H2 ⟨S2, x2, x3, x4, x5, x6, x7, x8, x9, x10, x11, rfl⟩
      walk_at "hs"
      intro p1 hp1
      generalize hG_p1 : upd _ p1 _ = H3
      have at_p1 := HS.upgs hG_p1
      have Kn_p1 := HS.upgK hG_p1 hp1
      clear hG_p1
      have lp : ∀ x ∈ [(5 : Int), 3, 3], 1 ≤ x := fun x h => by simp only [List.mem_cons, List.not_mem_nil, or_false] at h; omega
      walk_at "hs"
      refine ⟨p1, [5, 3, 3], 5, rfl, HS.sq at_p1, lp, by decide, by decide, by decide, fun H4 K4 => ?_⟩
      intro p2 hp2
      generalize hG_p2 : upd _ p2 _ = H5
      have at_p2 := HS.upgs hG_p2
      have Kn_p2 := HS.upgK hG_p2 hp2
      clear hG_p2
      walk_at "hs"
      intro p3 hp3
      generalize hG_p3 : upd _ p3 _ = H6
      have at_p3 := HS.upgs hG_p3
      have Kn_p3 := HS.upgK hG_p3 hp3
      clear hG_p3
      have at_p2 := Kn_p3 _ _ at_p2 id
      refine HS.eqL (xs := [11, 7, 4, 4, 3]) (ys := [11, 7, 4, 4, 3]) (HS.sq at_p2) (HS.sq at_p3) ?_
      refine ⟨_, rfl, ?_⟩
      rw [if_pos (by decide)]
      walk_at "hs"
      intro p4 hp4
      generalize hG_p4 : upd _ p4 _ = H7
      have at_p4 := HS.upgs hG_p4
      have Kn_p4 := HS.upgK hG_p4 hp4
      clear hG_p4
      walk_at "hs"
      refine ⟨p4, [], 1, rfl, HS.sq at_p4, fun x h => absurd h List.not_mem_nil, by decide, by decide, by decide, fun H8 K8 => ?_⟩
      walk_at "hs"
      rw [pcount_nil, if_pos (by decide)]
      walk_at "hs"
      intro p5 hp5
      generalize hG_p5 : upd _ p5 _ = H9
      have at_p5 := HS.upgs hG_p5
      have Kn_p5 := HS.upgK hG_p5 hp5
      clear hG_p5
      walk_at "hs"
      refine ⟨p5, [1], 0, rfl, HS.sq at_p5, fun x h => by rw [List.mem_singleton.mp h]; decide, by decide, by decide, by decide, fun Ha Ka => ?_⟩
      intro p6 hp6
      generalize hG_p6 : upd _ p6 _ = Hb
      have at_p6 := HS.upgs hG_p6
      have Kn_p6 := HS.upgK hG_p6 hp6
      clear hG_p6
      walk_at "hs"
      intro p7 hp7
      generalize hG_p7 : upd _ p7 _ = Hc
      have at_p7 := HS.upgs hG_p7
      have Kn_p7 := HS.upgK hG_p7 hp7
      clear hG_p7
      have at_p6 := Kn_p7 _ _ at_p6 id
      refine HS.eqL (xs := []) (ys := []) (HS.sq at_p6) (HS.sq at_p7) ?_
      exact k _
end
theorem all_mk {l : PySem.W.OpenLaw} {w : World} {K : PySem.W.Frag} {h : Heap} {mg : Str → Option Value} {fa f0 f1 f2 f3 f4 f5 f6 f7 f8 f9 f10 f11 f12 f13 f14 f15 f16 f17 f18 f19 f20 c_Unreadable : Addr} (X : K.In h) (G : h.Ns mainGlobals mg) (hfa : mg "law" = some (.ref fa))
    {od0 an0 od1 an1 od2 an2 od3 an3 od4 an4 od5 an5 od6 an6 od7 an7 od8 an8 od9 an9 od10 an10 od11 an11 od12 an12 od13 an13 od14 an14 od15 an15 od16 an16 od17 an17 od18 an18 od19 an19 od20 an20 : Option Addr} {sl0 sl1 sl2 sl3 sl4 sl5 sl6 sl7 sl8 sl9 sl10 sl11 sl12 sl13 sl14 sl15 sl16 sl17 sl18 sl19 sl20 : Array (Option Value)} {oc0 kV0 dc0 pm0 cd0 ct0 oc1 kV1 dc1 pm1 cd1 ct1 oc2 kV2 dc2 pm2 cd2 ct2 oc3 kV3 dc3 pm3 cd3 ct3 oc4 kV4 dc4 pm4 cd4 ct4 oc5 kV5 dc5 pm5 cd5 ct5 oc6 kV6 dc6 pm6 cd6 ct6 oc7 kV7 dc7 pm7 cd7 ct7 oc8 kV8 dc8 pm8 cd8 ct8 oc9 kV9 dc9 pm9 cd9 ct9 oc10 kV10 dc10 pm10 cd10 ct10 oc11 kV11 dc11 pm11 cd11 ct11 oc12 kV12 dc12 pm12 cd12 ct12 oc13 kV13 dc13 pm13 cd13 ct13 oc14 kV14 dc14 pm14 cd14 ct14 oc15 kV15 dc15 pm15 cd15 ct15 oc16 kV16 dc16 pm16 cd16 ct16 oc17 kV17 dc17 pm17 cd17 ct17 oc18 kV18 dc18 pm18 cd18 ct18 oc19 kV19 dc19 pm19 cd19 ct19 oc20 kV20 dc20 pm20 cd20 ct20 : Value}
    (m_Unreadable : PySem.W.nsIn K mainGlobals "Unreadable" = some (some (.ref c_Unreadable)))
    (a0 : PySem.W.nsIn K mainGlobals "_law_source" = some (some (.ref f0)))
    (l0 : K.lookup f0 = some ⟨oc0, od0, .func (PySem.W.fnOf "_law_source" "_law_source" (defArgs s__law_source) (defBody s__law_source) (defScope s__law_source) .none kV0 dc0 pm0 an0 cd0 ct0), sl0⟩) (c0 : PySem.W.codeIn K cd0 "_law_source" = true) (k0 : PySem.W.keepIn K (.ref f0) = true)
    (a1 : PySem.W.nsIn K mainGlobals "_law_draw" = some (some (.ref f1)))
    (l1 : K.lookup f1 = some ⟨oc1, od1, .func (PySem.W.fnOf "_law_draw" "_law_draw" (defArgs s__law_draw) (defBody s__law_draw) (defScope s__law_draw) .none kV1 dc1 pm1 an1 cd1 ct1), sl1⟩) (c1 : PySem.W.codeIn K cd1 "_law_draw" = true) (k1 : PySem.W.keepIn K (.ref f1) = true)
    (a2 : PySem.W.nsIn K mainGlobals "_law_lengths" = some (some (.ref f2)))
    (l2 : K.lookup f2 = some ⟨oc2, od2, .func (PySem.W.fnOf "_law_lengths" "_law_lengths" (defArgs s__law_lengths) (defBody s__law_lengths) (defScope s__law_lengths) .none kV2 dc2 pm2 an2 cd2 ct2), sl2⟩) (c2 : PySem.W.codeIn K cd2 "_law_lengths" = true) (k2 : PySem.W.keepIn K (.ref f2) = true)
    (a3 : PySem.W.nsIn K mainGlobals "_law_wide" = some (some (.ref f3)))
    (l3 : K.lookup f3 = some ⟨oc3, od3, .func (PySem.W.fnOf "_law_wide" "_law_wide" (defArgs s__law_wide) (defBody s__law_wide) (defScope s__law_wide) .none kV3 dc3 pm3 an3 cd3 ct3), sl3⟩) (c3 : PySem.W.codeIn K cd3 "_law_wide" = true) (k3 : PySem.W.keepIn K (.ref f3) = true)
    (a4 : PySem.W.nsIn K mainGlobals "_law_sheets" = some (some (.ref f4)))
    (l4 : K.lookup f4 = some ⟨oc4, od4, .func (PySem.W.fnOf "_law_sheets" "_law_sheets" (defArgs s__law_sheets) (defBody s__law_sheets) (defScope s__law_sheets) .none kV4 dc4 pm4 an4 cd4 ct4), sl4⟩) (c4 : PySem.W.codeIn K cd4 "_law_sheets" = true) (k4 : PySem.W.keepIn K (.ref f4) = true)
    (a5 : PySem.W.nsIn K mainGlobals "_law_same" = some (some (.ref f5)))
    (l5 : K.lookup f5 = some ⟨oc5, od5, .func (PySem.W.fnOf "_law_same" "_law_same" (defArgs s__law_same) (defBody s__law_same) (defScope s__law_same) .none kV5 dc5 pm5 an5 cd5 ct5), sl5⟩) (c5 : PySem.W.codeIn K cd5 "_law_same" = true) (k5 : PySem.W.keepIn K (.ref f5) = true)
    (a6 : PySem.W.nsIn K mainGlobals "count_pages" = some (some (.ref f6)))
    (l6 : K.lookup f6 = some ⟨oc6, od6, .func (PySem.W.fnOf "count_pages" "count_pages" (defArgs s_count_pages) (defBody s_count_pages) (defScope s_count_pages) .none kV6 dc6 pm6 an6 cd6 ct6), sl6⟩) (c6 : PySem.W.codeIn K cd6 "count_pages" = true) (k6 : PySem.W.keepIn K (.ref f6) = true)
    (a7 : PySem.W.nsIn K mainGlobals "check_book" = some (some (.ref f7)))
    (l7 : K.lookup f7 = some ⟨oc7, od7, .func (PySem.W.fnOf "check_book" "check_book" (defArgs s_check_book) (defBody s_check_book) (defScope s_check_book) .none kV7 dc7 pm7 an7 cd7 ct7), sl7⟩) (c7 : PySem.W.codeIn K cd7 "check_book" = true) (k7 : PySem.W.keepIn K (.ref f7) = true)
    (a8 : PySem.W.nsIn K mainGlobals "check_size" = some (some (.ref f8)))
    (l8 : K.lookup f8 = some ⟨oc8, od8, .func (PySem.W.fnOf "check_size" "check_size" (defArgs s_check_size) (defBody s_check_size) (defScope s_check_size) .none kV8 dc8 pm8 an8 cd8 ct8), sl8⟩) (c8 : PySem.W.codeIn K cd8 "check_size" = true) (k8 : PySem.W.keepIn K (.ref f8) = true)
    (a9 : PySem.W.nsIn K mainGlobals "check_not_negative" = some (some (.ref f9)))
    (l9 : K.lookup f9 = some ⟨oc9, od9, .func (PySem.W.fnOf "check_not_negative" "check_not_negative" (defArgs s_check_not_negative) (defBody s_check_not_negative) (defScope s_check_not_negative) .none kV9 dc9 pm9 an9 cd9 ct9), sl9⟩) (c9 : PySem.W.codeIn K cd9 "check_not_negative" = true) (k9 : PySem.W.keepIn K (.ref f9) = true)
    (a10 : PySem.W.nsIn K mainGlobals "pages" = some (some (.ref f10)))
    (l10 : K.lookup f10 = some ⟨oc10, od10, .func (PySem.W.fnOf "pages" "pages" (defArgs s_pages) (defBody s_pages) (defScope s_pages) .none kV10 dc10 pm10 an10 cd10 ct10), sl10⟩) (c10 : PySem.W.codeIn K cd10 "pages" = true) (k10 : PySem.W.keepIn K (.ref f10) = true)
    (a11 : PySem.W.nsIn K mainGlobals "counts" = some (some (.ref f11)))
    (l11 : K.lookup f11 = some ⟨oc11, od11, .func (PySem.W.fnOf "counts" "counts" (defArgs s_counts) (defBody s_counts) (defScope s_counts) .none kV11 dc11 pm11 an11 cd11 ct11), sl11⟩) (c11 : PySem.W.codeIn K cd11 "counts" = true) (k11 : PySem.W.keepIn K (.ref f11) = true)
    (in_Unreadable : PySem.W.findIn K (.ref c_Unreadable) "__init__" = some (some (.ref f12)))
    (l12 : K.lookup f12 = some ⟨oc12, od12, .func (PySem.W.fnOf "__init__" "Unreadable.__init__" (defArgs s_Unreadable___init__) (defBody s_Unreadable___init__) (defScope s_Unreadable___init__) .none kV12 dc12 pm12 an12 cd12 ct12), sl12⟩) (c12 : PySem.W.codeIn K cd12 "Unreadable.__init__" = true) (k12 : PySem.W.keepIn K (.ref f12) = true)
    (a13 : PySem.W.nsIn K mainGlobals "read_number" = some (some (.ref f13)))
    (l13 : K.lookup f13 = some ⟨oc13, od13, .func (PySem.W.fnOf "read_number" "read_number" (defArgs s_read_number) (defBody s_read_number) (defScope s_read_number) .none kV13 dc13 pm13 an13 cd13 ct13), sl13⟩) (c13 : PySem.W.codeIn K cd13 "read_number" = true) (k13 : PySem.W.keepIn K (.ref f13) = true)
    (a14 : PySem.W.nsIn K mainGlobals "read_chapters" = some (some (.ref f14)))
    (l14 : K.lookup f14 = some ⟨oc14, od14, .func (PySem.W.fnOf "read_chapters" "read_chapters" (defArgs s_read_chapters) (defBody s_read_chapters) (defScope s_read_chapters) .none kV14 dc14 pm14 an14 cd14 ct14), sl14⟩) (c14 : PySem.W.codeIn K cd14 "read_chapters" = true) (k14 : PySem.W.keepIn K (.ref f14) = true)
    (a15 : PySem.W.nsIn K mainGlobals "read_book" = some (some (.ref f15)))
    (l15 : K.lookup f15 = some ⟨oc15, od15, .func (PySem.W.fnOf "read_book" "read_book" (defArgs s_read_book) (defBody s_read_book) (defScope s_read_book) .none kV15 dc15 pm15 an15 cd15 ct15), sl15⟩) (c15 : PySem.W.codeIn K cd15 "read_book" = true) (k15 : PySem.W.keepIn K (.ref f15) = true)
    (a16 : PySem.W.nsIn K mainGlobals "_law_total" = some (some (.ref f16)))
    (l16 : K.lookup f16 = some ⟨oc16, od16, .func (PySem.W.fnOf "_law_total" "_law_total" (defArgs s__law_total) (defBody s__law_total) (defScope s__law_total) .none kV16 dc16 pm16 an16 cd16 ct16), sl16⟩) (c16 : PySem.W.codeIn K cd16 "_law_total" = true) (k16 : PySem.W.keepIn K (.ref f16) = true)
    (a17 : PySem.W.nsIn K mainGlobals "_law_first" = some (some (.ref f17)))
    (l17 : K.lookup f17 = some ⟨oc17, od17, .func (PySem.W.fnOf "_law_first" "_law_first" (defArgs s__law_first) (defBody s__law_first) (defScope s__law_first) .none kV17 dc17 pm17 an17 cd17 ct17), sl17⟩) (c17 : PySem.W.codeIn K cd17 "_law_first" = true) (k17 : PySem.W.keepIn K (.ref f17) = true)
    (a18 : PySem.W.nsIn K mainGlobals "_law_pairs" = some (some (.ref f18)))
    (l18 : K.lookup f18 = some ⟨oc18, od18, .func (PySem.W.fnOf "_law_pairs" "_law_pairs" (defArgs s__law_pairs) (defBody s__law_pairs) (defScope s__law_pairs) .none kV18 dc18 pm18 an18 cd18 ct18), sl18⟩) (c18 : PySem.W.codeIn K cd18 "_law_pairs" = true) (k18 : PySem.W.keepIn K (.ref f18) = true)
    (a19 : PySem.W.nsIn K mainGlobals "_law_walks_right" = some (some (.ref f19)))
    (l19 : K.lookup f19 = some ⟨oc19, od19, .func (PySem.W.fnOf "_law_walks_right" "_law_walks_right" (defArgs s__law_walks_right) (defBody s__law_walks_right) (defScope s__law_walks_right) .none kV19 dc19 pm19 an19 cd19 ct19), sl19⟩) (c19 : PySem.W.codeIn K cd19 "_law_walks_right" = true) (k19 : PySem.W.keepIn K (.ref f19) = true)
    (a20 : PySem.W.nsIn K mainGlobals "law" = some (some (.ref f20)))
    (l20 : K.lookup f20 = some ⟨oc20, od20, .func (PySem.W.fnOf "law" "law" (defArgs s_law) (defBody s_law) (defScope s_law) .none kV20 dc20 pm20 an20 cd20 ct20), sl20⟩) (c20 : PySem.W.codeIn K cd20 "law" = true) (k20 : PySem.W.keepIn K (.ref f20) = true)
    (z0 : PySem.W.nsIn K mainGlobals "bool" = some none)
    (z1 : PySem.W.nsIn K mainGlobals "enumerate" = some none)
    (z2 : PySem.W.nsIn K mainGlobals "int" = some none)
    (z3 : PySem.W.nsIn K mainGlobals "isinstance" = some none)
    (z4 : PySem.W.nsIn K mainGlobals "len" = some none)
    (z5 : PySem.W.nsIn K mainGlobals "list" = some none)
    (z6 : PySem.W.nsIn K mainGlobals "max" = some none)
    (z7 : PySem.W.nsIn K mainGlobals "min" = some none)
    (z8 : PySem.W.nsIn K mainGlobals "range" = some none)
    (z9 : PySem.W.nsIn K mainGlobals "repr" = some none)
    (z10 : PySem.W.nsIn K mainGlobals "str" = some none)
    (z11 : PySem.W.nsIn K mainGlobals "sum" = some none)
    (z12 : PySem.W.nsIn K mainGlobals "tuple" = some none)
    {tk_MOST_DIGITS : PySem.Tok} (v_MOST_DIGITS : PySem.W.nsIn K mainGlobals "MOST_DIGITS" = some (some (.int 40 tk_MOST_DIGITS)))
    {nm_Unreadable qn_Unreadable : Str} {N_Unreadable : Addr} {bs_Unreadable bm_Unreadable : List Value} {sn_Unreadable : List Str} {sub_Unreadable : List Value} {ab_Unreadable : Bool} {col_Unreadable : Option Bool} {dd_Unreadable : Option Addr} {k0_Unreadable k1_Unreadable k2_Unreadable k3_Unreadable k5_Unreadable : Option Value}
    (l_Unreadable : K.lookup c_Unreadable = some (excClassObj nm_Unreadable qn_Unreadable c_Unreadable N_Unreadable bs_Unreadable bm_Unreadable true sn_Unreadable sub_Unreadable ab_Unreadable col_Unreadable dd_Unreadable k0_Unreadable k1_Unreadable k2_Unreadable k3_Unreadable k5_Unreadable "ValueError.__new__"))
    (r_Unreadable : PySem.HandSPX.refsVE bm_Unreadable = true)
    (sa_Unreadable : PySem.W.findIn K (.ref c_Unreadable) "__setattr__" = some (some (.builtin "object.__setattr__")))
    (ex_Unreadable : PySem.W.subIn K (.ref c_Unreadable) (.type "BaseException") = some true)
    (ty_Unreadable : PySem.W.typeIn K (.ref c_Unreadable) = some (.type "type"))
    (kc_Unreadable : PySem.W.keepIn K (.ref c_Unreadable) = true)
    (ga_Unreadable : PySem.W.findIn K (.ref c_Unreadable) "__getattribute__" = some (some (.builtin "BaseException.__getattribute__")))
    (gg_Unreadable : PySem.W.findIn K (.ref c_Unreadable) "__getattr__" = some none)
    (hd_Unreadable : PySem.W.hasDictIn K c_Unreadable = true)
    (ha_Unreadable : PySem.W.findIn K (.ref c_Unreadable) "__class__" = some (some (.builtin "object.__class__")))
    (hn_Unreadable : PySem.W.specialIn K (.builtin "object.__class__") "__get__" = some (some (.builtin "getset_descriptor.__get__")))
    (ht_Unreadable : PySem.W.takesIn K (.builtin "object.__class__") = some true)
    (hm_Unreadable : PySem.W.mroIn K c_Unreadable (.type "object") = some true)
    (nv_Unreadable : PySem.W.findIn K (.ref c_Unreadable) "value" = some none)
    (ti_Unreadable : PySem.W.typeIn K (.ref f12) = some (.type "function"))
    (kq_Unreadable_Unreadable : PySem.W.kitOne K (.ref c_Unreadable) (.ref c_Unreadable) = some true)
    (kq_Unreadable_ValueError : PySem.W.kitOne K (.ref c_Unreadable) (.type "ValueError") = some true)
    : ∃ fd : FuncData, (∀ (s : Shared) (v : Value), BindsTo s fd ⟨[v], []⟩ [("script", v)]) ∧ ∀ base : Heap, K.In base → base.Ns mainGlobals mg → HS.FnG l.prog w K mg base CX0 8 fa fd ["script"] (sp_law K) := by
  have e := hfa.symm.trans (PySem.W.mg_of X G a20)
  cases e
  have F0 := fun_mk (st := s__law_source) l0 c0 k0
  have F1 := fun_mk (st := s__law_draw) l1 c1 k1
  have F2 := fun_mk (st := s__law_lengths) l2 c2 k2
  have F3 := fun_mk (st := s__law_wide) l3 c3 k3
  have F4 := fun_mk (st := s__law_sheets) l4 c4 k4
  have F5 := fun_mk (st := s__law_same) l5 c5 k5
  have F6 := fun_mk (st := s_count_pages) l6 c6 k6
  have F7 := fun_mk (st := s_check_book) l7 c7 k7
  have F8 := fun_mk (st := s_check_size) l8 c8 k8
  have F9 := fun_mk (st := s_check_not_negative) l9 c9 k9
  have F10 := fun_mk (st := s_pages) l10 c10 k10
  have F11 := fun_mk (st := s_counts) l11 c11 k11
  have F12 := fun_mk (st := s_Unreadable___init__) l12 c12 k12
  have F13 := fun_mk (st := s_read_number) l13 c13 k13
  have F14 := fun_mk (st := s_read_chapters) l14 c14 k14
  have F15 := fun_mk (st := s_read_book) l15 c15 k15
  have F16 := fun_mk (st := s__law_total) l16 c16 k16
  have F17 := fun_mk (st := s__law_first) l17 c17 k17
  have F18 := fun_mk (st := s__law_pairs) l18 c18 k18
  have F19 := fun_mk (st := s__law_walks_right) l19 c19 k19
  have F20 := fun_mk (st := s_law) l20 c20 k20
  have T : Txt K mg ⟨f0, PySem.W.fnOf "_law_source" "_law_source" (defArgs s__law_source) (defBody s__law_source) (defScope s__law_source) .none kV0 dc0 pm0 an0 cd0 ct0, f1, PySem.W.fnOf "_law_draw" "_law_draw" (defArgs s__law_draw) (defBody s__law_draw) (defScope s__law_draw) .none kV1 dc1 pm1 an1 cd1 ct1, f2, PySem.W.fnOf "_law_lengths" "_law_lengths" (defArgs s__law_lengths) (defBody s__law_lengths) (defScope s__law_lengths) .none kV2 dc2 pm2 an2 cd2 ct2, f3, PySem.W.fnOf "_law_wide" "_law_wide" (defArgs s__law_wide) (defBody s__law_wide) (defScope s__law_wide) .none kV3 dc3 pm3 an3 cd3 ct3, f4, PySem.W.fnOf "_law_sheets" "_law_sheets" (defArgs s__law_sheets) (defBody s__law_sheets) (defScope s__law_sheets) .none kV4 dc4 pm4 an4 cd4 ct4, f5, PySem.W.fnOf "_law_same" "_law_same" (defArgs s__law_same) (defBody s__law_same) (defScope s__law_same) .none kV5 dc5 pm5 an5 cd5 ct5, f6, PySem.W.fnOf "count_pages" "count_pages" (defArgs s_count_pages) (defBody s_count_pages) (defScope s_count_pages) .none kV6 dc6 pm6 an6 cd6 ct6, f7, PySem.W.fnOf "check_book" "check_book" (defArgs s_check_book) (defBody s_check_book) (defScope s_check_book) .none kV7 dc7 pm7 an7 cd7 ct7, f8, PySem.W.fnOf "check_size" "check_size" (defArgs s_check_size) (defBody s_check_size) (defScope s_check_size) .none kV8 dc8 pm8 an8 cd8 ct8, f9, PySem.W.fnOf "check_not_negative" "check_not_negative" (defArgs s_check_not_negative) (defBody s_check_not_negative) (defScope s_check_not_negative) .none kV9 dc9 pm9 an9 cd9 ct9, f10, PySem.W.fnOf "pages" "pages" (defArgs s_pages) (defBody s_pages) (defScope s_pages) .none kV10 dc10 pm10 an10 cd10 ct10, f11, PySem.W.fnOf "counts" "counts" (defArgs s_counts) (defBody s_counts) (defScope s_counts) .none kV11 dc11 pm11 an11 cd11 ct11, f12, PySem.W.fnOf "__init__" "Unreadable.__init__" (defArgs s_Unreadable___init__) (defBody s_Unreadable___init__) (defScope s_Unreadable___init__) .none kV12 dc12 pm12 an12 cd12 ct12, f13, PySem.W.fnOf "read_number" "read_number" (defArgs s_read_number) (defBody s_read_number) (defScope s_read_number) .none kV13 dc13 pm13 an13 cd13 ct13, f14, PySem.W.fnOf "read_chapters" "read_chapters" (defArgs s_read_chapters) (defBody s_read_chapters) (defScope s_read_chapters) .none kV14 dc14 pm14 an14 cd14 ct14, f15, PySem.W.fnOf "read_book" "read_book" (defArgs s_read_book) (defBody s_read_book) (defScope s_read_book) .none kV15 dc15 pm15 an15 cd15 ct15, f16, PySem.W.fnOf "_law_total" "_law_total" (defArgs s__law_total) (defBody s__law_total) (defScope s__law_total) .none kV16 dc16 pm16 an16 cd16 ct16, f17, PySem.W.fnOf "_law_first" "_law_first" (defArgs s__law_first) (defBody s__law_first) (defScope s__law_first) .none kV17 dc17 pm17 an17 cd17 ct17, f18, PySem.W.fnOf "_law_pairs" "_law_pairs" (defArgs s__law_pairs) (defBody s__law_pairs) (defScope s__law_pairs) .none kV18 dc18 pm18 an18 cd18 ct18, f19, PySem.W.fnOf "_law_walks_right" "_law_walks_right" (defArgs s__law_walks_right) (defBody s__law_walks_right) (defScope s__law_walks_right) .none kV19 dc19 pm19 an19 cd19 ct19, fa, PySem.W.fnOf "law" "law" (defArgs s_law) (defBody s_law) (defScope s_law) .none kV20 dc20 pm20 an20 cd20 ct20, c_Unreadable⟩ :=
    { F__law_source := F0,
      g__law_source := PySem.W.mg_of X G a0,
      b__law_source := F0.binds (ps := ["script"]) fun _ _ _ _ _ _ us hl => match us, hl with | [_], _ => rfl,
      F__law_draw := F1,
      g__law_draw := PySem.W.mg_of X G a1,
      b__law_draw := F1.binds (ps := ["source", "many"]) fun _ _ _ _ _ _ us hl => match us, hl with | [_, _], _ => rfl,
      F__law_lengths := F2,
      g__law_lengths := PySem.W.mg_of X G a2,
      b__law_lengths := F2.binds (ps := ["source", "many"]) fun _ _ _ _ _ _ us hl => match us, hl with | [_, _], _ => rfl,
      F__law_wide := F3,
      g__law_wide := PySem.W.mg_of X G a3,
      b__law_wide := F3.binds (ps := ["source", "lengths"]) fun _ _ _ _ _ _ us hl => match us, hl with | [_, _], _ => rfl,
      F__law_sheets := F4,
      g__law_sheets := PySem.W.mg_of X G a4,
      b__law_sheets := F4.binds (ps := ["long", "wide"]) fun _ _ _ _ _ _ us hl => match us, hl with | [_, _], _ => rfl,
      F__law_same := F5,
      g__law_same := PySem.W.mg_of X G a5,
      b__law_same := F5.binds (ps := ["found", "wanted"]) fun _ _ _ _ _ _ us hl => match us, hl with | [_, _], _ => rfl,
      F_count_pages := F6,
      g_count_pages := PySem.W.mg_of X G a6,
      b_count_pages := F6.binds (ps := ["book", "size"]) fun _ _ _ _ _ _ us hl => match us, hl with | [_, _], _ => rfl,
      F_check_book := F7,
      g_check_book := PySem.W.mg_of X G a7,
      b_check_book := F7.binds (ps := ["book"]) fun _ _ _ _ _ _ us hl => match us, hl with | [_], _ => rfl,
      F_check_size := F8,
      g_check_size := PySem.W.mg_of X G a8,
      b_check_size := F8.binds (ps := ["size"]) fun _ _ _ _ _ _ us hl => match us, hl with | [_], _ => rfl,
      F_check_not_negative := F9,
      g_check_not_negative := PySem.W.mg_of X G a9,
      b_check_not_negative := F9.binds (ps := ["number"]) fun _ _ _ _ _ _ us hl => match us, hl with | [_], _ => rfl,
      F_pages := F10,
      g_pages := PySem.W.mg_of X G a10,
      b_pages := F10.binds (ps := ["book", "size"]) fun _ _ _ _ _ _ us hl => match us, hl with | [_, _], _ => rfl,
      F_counts := F11,
      g_counts := PySem.W.mg_of X G a11,
      b_counts := F11.binds (ps := ["book", "limit"]) fun _ _ _ _ _ _ us hl => match us, hl with | [_, _], _ => rfl,
      F_Unreadable___init__ := F12,
      b_Unreadable___init__ := F12.binds (ps := ["self", "value"]) fun _ _ _ _ _ _ us hl => match us, hl with | [_, _], _ => rfl,
      F_read_number := F13,
      g_read_number := PySem.W.mg_of X G a13,
      b_read_number := F13.binds (ps := ["word"]) fun _ _ _ _ _ _ us hl => match us, hl with | [_], _ => rfl,
      F_read_chapters := F14,
      g_read_chapters := PySem.W.mg_of X G a14,
      b_read_chapters := F14.binds (ps := ["part"]) fun _ _ _ _ _ _ us hl => match us, hl with | [_], _ => rfl,
      F_read_book := F15,
      g_read_book := PySem.W.mg_of X G a15,
      b_read_book := F15.binds (ps := ["text"]) fun _ _ _ _ _ _ us hl => match us, hl with | [_], _ => rfl,
      F__law_total := F16,
      g__law_total := PySem.W.mg_of X G a16,
      b__law_total := F16.binds (ps := ["lengths", "wide"]) fun _ _ _ _ _ _ us hl => match us, hl with | [_, _], _ => rfl,
      F__law_first := F17,
      g__law_first := PySem.W.mg_of X G a17,
      b__law_first := F17.binds (ps := ["lengths", "most", "many"]) fun _ _ _ _ _ _ us hl => match us, hl with | [_, _, _], _ => rfl,
      F__law_pairs := F18,
      g__law_pairs := PySem.W.mg_of X G a18,
      b__law_pairs := F18.binds (ps := ["lengths", "most"]) fun _ _ _ _ _ _ us hl => match us, hl with | [_, _], _ => rfl,
      F__law_walks_right := F19,
      g__law_walks_right := PySem.W.mg_of X G a19,
      b__law_walks_right := F19.binds (ps := ["source", "lengths"]) fun _ _ _ _ _ _ us hl => match us, hl with | [_, _], _ => rfl,
      F_law := F20,
      g_law := PySem.W.mg_of X G a20,
      b_law := F20.binds (ps := ["script"]) fun _ _ _ _ _ _ us hl => match us, hl with | [_], _ => rfl,
      z_bool := PySem.W.mg_none_of X G z0,
      z_enumerate := PySem.W.mg_none_of X G z1,
      z_int := PySem.W.mg_none_of X G z2,
      z_isinstance := PySem.W.mg_none_of X G z3,
      z_len := PySem.W.mg_none_of X G z4,
      z_list := PySem.W.mg_none_of X G z5,
      z_max := PySem.W.mg_none_of X G z6,
      z_min := PySem.W.mg_none_of X G z7,
      z_range := PySem.W.mg_none_of X G z8,
      z_repr := PySem.W.mg_none_of X G z9,
      z_str := PySem.W.mg_none_of X G z10,
      z_sum := PySem.W.mg_none_of X G z11,
      z_tuple := PySem.W.mg_none_of X G z12,
      kb_counts_0_limit_book := ⟨fun s us ws h1 h2 => match us, ws, h1, h2 with | [], [_, _], _, _ => .of_eq rfl, fun r1 r2 => .cons (HS.relAt r2 1) (.cons (HS.relAt r2 0) (.nil))⟩,
      kb_pages_0_size_book := ⟨fun s us ws h1 h2 => match us, ws, h1, h2 with | [], [_, _], _, _ => .of_eq rfl, fun r1 r2 => .cons (HS.relAt r2 1) (.cons (HS.relAt r2 0) (.nil))⟩,
      m_Unreadable := PySem.W.mg_of X G m_Unreadable,
      v_MOST_DIGITS := ⟨_, PySem.W.mg_of X G v_MOST_DIGITS⟩,
      C_Unreadable := ⟨⟨_, _, _, _, _, _, _, _, _, _, _, _, _, _, _, l_Unreadable, r_Unreadable⟩, sa_Unreadable, ex_Unreadable, ty_Unreadable, kc_Unreadable⟩,
      V_Unreadable := ⟨ga_Unreadable, gg_Unreadable, ex_Unreadable, hd_Unreadable, ha_Unreadable, hn_Unreadable, ht_Unreadable, hm_Unreadable⟩,
      X_Unreadable := ⟨ga_Unreadable, gg_Unreadable, ex_Unreadable, hd_Unreadable⟩,
      n_Unreadable := nv_Unreadable,
      i_Unreadable := in_Unreadable,
      t_Unreadable := ti_Unreadable,
      k_Unreadable := ⟨fun s us ws _ h1 h2 => match us, ws, h1, h2 with | [_], [_], _, _ => .of_eq rfl, fun r1 r2 => r1.append r2⟩,
      q_Unreadable_Unreadable := kq_Unreadable_Unreadable,
      q_Unreadable_ValueError := kq_Unreadable_ValueError }
  exact ⟨_, fun s v => .of_eq rfl, fun base _ _ => ok_law T⟩
end WK02
open PySem PySem.W PyProof.Rows
set_option maxHeartbeats 0 in
theorem PySem.Challenge.cw_pagecounts_k02_page_counts_holds : PySem.Challenge.rw_pagecounts_k02_page_counts.Holds := by
  w_on; o_law; k_head; (case hw => w_witness2)
  k_fill
  refine HS.walk_ofG (l := PySem.Challenge.rw_pagecounts_k02_page_counts) (n := 63) (k := 8) (x := "script") (CX := fun _ => L2.CX0) (sp := fun w => WK02.sp_law _) rfl (by decide) rfl ⟨rfl, by decide, by decide⟩ (fun w h Y => PySem.W.kIn_of Y) ?F (fun _ _ a ns hl _ hS => ⟨a, ns, rfl, hS, hl, fun _ => rfl⟩) (fun _ _ _ _ _ h => h)
  case F =>
    intro w mg fa h KX G hmg
    refine' WK02.all_mk KX G hmg ?m_Unreadable ?a0 ?l0 ?c0 ?k0 ?a1 ?l1 ?c1 ?k1 ?a2 ?l2 ?c2 ?k2 ?a3 ?l3 ?c3 ?k3 ?a4 ?l4 ?c4 ?k4 ?a5 ?l5 ?c5 ?k5 ?a6 ?l6 ?c6 ?k6 ?a7 ?l7 ?c7 ?k7 ?a8 ?l8 ?c8 ?k8 ?a9 ?l9 ?c9 ?k9 ?a10 ?l10 ?c10 ?k10 ?a11 ?l11 ?c11 ?k11 ?in_Unreadable ?l12 ?c12 ?k12 ?a13 ?l13 ?c13 ?k13 ?a14 ?l14 ?c14 ?k14 ?a15 ?l15 ?c15 ?k15 ?a16 ?l16 ?c16 ?k16 ?a17 ?l17 ?c17 ?k17 ?a18 ?l18 ?c18 ?k18 ?a19 ?l19 ?c19 ?k19 ?a20 ?l20 ?c20 ?k20 ?z0 ?z1 ?z2 ?z3 ?z4 ?z5 ?z6 ?z7 ?z8 ?z9 ?z10 ?z11 ?z12 ?v_MOST_DIGITS ?l_Unreadable ?r_Unreadable ?sa_Unreadable ?ex_Unreadable ?ty_Unreadable ?kc_Unreadable ?ga_Unreadable ?gg_Unreadable ?hd_Unreadable ?ha_Unreadable ?hn_Unreadable ?ht_Unreadable ?hm_Unreadable ?nv_Unreadable ?ti_Unreadable ?kq_Unreadable_Unreadable ?kq_Unreadable_ValueError
    (case m_Unreadable => k_is); (case a0 => k_is); (case l0 => k_is); (case c0 => k_is); (case k0 => k_is); (case a1 => k_is); (case l1 => k_is); (case c1 => k_is); (case k1 => k_is); (case a2 => k_is); (case l2 => k_is); (case c2 => k_is); (case k2 => k_is); (case a3 => k_is); (case l3 => k_is); (case c3 => k_is); (case k3 => k_is); (case a4 => k_is); (case l4 => k_is); (case c4 => k_is); (case k4 => k_is); (case a5 => k_is); (case l5 => k_is); (case c5 => k_is); (case k5 => k_is); (case a6 => k_is); (case l6 => k_is); (case c6 => k_is); (case k6 => k_is); (case a7 => k_is); (case l7 => k_is); (case c7 => k_is); (case k7 => k_is); (case a8 => k_is); (case l8 => k_is); (case c8 => k_is); (case k8 => k_is); (case a9 => k_is); (case l9 => k_is); (case c9 => k_is); (case k9 => k_is); (case a10 => k_is); (case l10 => k_is); (case c10 => k_is); (case k10 => k_is); (case a11 => k_is); (case l11 => k_is); (case c11 => k_is); (case k11 => k_is); (case in_Unreadable => k_is); (case l12 => k_is); (case c12 => k_is); (case k12 => k_is); (case a13 => k_is); (case l13 => k_is); (case c13 => k_is); (case k13 => k_is); (case a14 => k_is); (case l14 => k_is); (case c14 => k_is); (case k14 => k_is); (case a15 => k_is); (case l15 => k_is); (case c15 => k_is); (case k15 => k_is); (case a16 => k_is); (case l16 => k_is); (case c16 => k_is); (case k16 => k_is); (case a17 => k_is); (case l17 => k_is); (case c17 => k_is); (case k17 => k_is); (case a18 => k_is); (case l18 => k_is); (case c18 => k_is); (case k18 => k_is); (case a19 => k_is); (case l19 => k_is); (case c19 => k_is); (case k19 => k_is); (case a20 => k_is); (case l20 => k_is); (case c20 => k_is); (case k20 => k_is); (case z0 => k_is); (case z1 => k_is); (case z2 => k_is); (case z3 => k_is); (case z4 => k_is); (case z5 => k_is); (case z6 => k_is); (case z7 => k_is); (case z8 => k_is); (case z9 => k_is); (case z10 => k_is); (case z11 => k_is); (case z12 => k_is); (case v_MOST_DIGITS => k_is); (case l_Unreadable => k_is); (case r_Unreadable => rfl); (case sa_Unreadable => k_is); (case ex_Unreadable => k_is); (case ty_Unreadable => k_is); (case kc_Unreadable => k_is); (case ga_Unreadable => k_is); (case gg_Unreadable => k_is); (case hd_Unreadable => k_is); (case ha_Unreadable => k_is); (case hn_Unreadable => k_is); (case ht_Unreadable => k_is); (case hm_Unreadable => k_is); (case nv_Unreadable => k_is); (case ti_Unreadable => k_is); (case kq_Unreadable_Unreadable => kit_is); (case kq_Unreadable_ValueError => kit_is)
